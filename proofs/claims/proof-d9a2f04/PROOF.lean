import PyProof.Rows.All
import Wide.All
import OpenK.AllK
import Wide.FinOn
import PyProof.EqAt
import PyProof.EqKinds
import PyProof.TupleCall
import KE.BitLaws
import Open.SpecLaws
import KE.OsHead
import KE.OsGo
import KE.KNest
import KE.KSortKeySt
import KE.KLam
import KE.IntTextLaws
import PySem.Challenge.RW_ridespark_s01_answers
local macro_rules | `(tactic| walk_at "sc")=>`(tactic| exact ⟨rfl,rfl,rfl,by decide +kernel,rfl,by decide +kernel,by decide +kernel⟩)
abbrev zF :=PySem.W.Frag
theorem c24 (p:Int)(h:0≤p)(g:p≤23):p=0∨p=1∨p=2∨p=3∨p=4∨p=5∨p=6∨p=7∨p=8∨p=9∨p=10∨p=11∨p=12∨p=13∨p=14∨p=15∨p=16∨p=17∨p=18∨p=19∨p=20∨p=21∨p=22∨p=23:=by
 obtain ⟨n,rfl⟩:=Int.eq_ofNat_of_zero_le h
 exact (by decide:∀ n:Nat,n < 24→((n:Int)=0∨(n:Int)=1∨(n:Int)=2∨(n:Int)=3∨(n:Int)=4∨(n:Int)=5∨(n:Int)=6∨(n:Int)=7∨(n:Int)=8∨(n:Int)=9∨(n:Int)=10∨(n:Int)=11∨(n:Int)=12∨(n:Int)=13∨(n:Int)=14∨(n:Int)=15∨(n:Int)=16∨(n:Int)=17∨(n:Int)=18∨(n:Int)=19∨(n:Int)=20∨(n:Int)=21∨(n:Int)=22∨(n:Int)=23)) n (by omega)
theorem c14 : ∀ j:Nat,j < 14→(j=0∨j=1∨j=2∨j=3∨j=4∨j=5∨j=6∨j=7∨j=8∨j=9∨j=10∨j=11∨j=12∨j=13):=by decide
theorem c10 : ∀ j:Nat,j < 10→(j=0∨j=1∨j=2∨j=3∨j=4∨j=5∨j=6∨j=7∨j=8∨j=9):=by decide
theorem lw0 {α:Type}{l:List α}(h:l.length=0):l=[]:=List.eq_nil_of_length_eq_zero h
theorem lw1 {α:Type}{l:List α}(h:l.length=1):∃ a,l=[a]:=by
 cases l with
 | nil=>cases h
 | cons a r=>exact ⟨a,by rw [lw0 (Nat.succ.inj h)]⟩
theorem lw2 {α:Type}{l:List α}(h:l.length=2):∃ a b,l=[a,b]:=by
 cases l with
 | nil=>cases h
 | cons a r=>obtain ⟨b,e⟩:=lw1 (Nat.succ.inj h);exact ⟨a,b,by rw [e]⟩
theorem lw3 {α:Type}{l:List α}(h:l.length=3):∃ a b c,l=[a,b,c]:=by
 cases l with
 | nil=>cases h
 | cons a r=>obtain ⟨b,c,e⟩:=lw2 (Nat.succ.inj h);exact ⟨a,b,c,by rw [e]⟩
theorem lw4 {α:Type}{l:List α}(h:l.length=4):∃ a b c d,l=[a,b,c,d]:=by
 cases l with
 | nil=>cases h
 | cons a r=>obtain ⟨b,c,d,e⟩:=lw3 (Nat.succ.inj h);exact ⟨a,b,c,d,by rw [e]⟩
theorem lw5 {α:Type}{l:List α}(h:l.length=5):∃ a b c d x,l=[a,b,c,d,x]:=by
 cases l with
 | nil=>cases h
 | cons a r=>obtain ⟨b,c,d,x,e⟩:=lw4 (Nat.succ.inj h);exact ⟨a,b,c,d,x,by rw [e]⟩
theorem lw6 {α:Type}{l:List α}(h:l.length=6):∃ a b c d x y,l=[a,b,c,d,x,y]:=by
 cases l with
 | nil=>cases h
 | cons a r=>obtain ⟨b,c,d,x,y,e⟩:=lw5 (Nat.succ.inj h);exact ⟨a,b,c,d,x,y,by rw [e]⟩
theorem yF {n m:Nat}(h:Nat.ble n m=true:=by rfl):n≤m:=Nat.le_of_ble_eq_true h
set_option Elab.async false
set_option linter.all false
set_option maxRecDepth 100000
namespace L2
open PySem PySem.Spec PyProof.Rows
abbrev u8 :=Sum Int Str
def keyIs : u8→Value→Bool
 | .inl k,v=>Value.isInt k v
 | .inr x,v=>Value.isStrOf x v
def keyH (w:World):u8→Int
 | .inl k=>hashInt k
 | .inr x=>hashStr w x
theorem xK : ∀ {k:u8} {v:Value},keyIs k v=true→(∃ i t,k=Sum.inl i∧v=Value.int i t)∨(∃ x t,k=Sum.inr x∧v=Value.str x t)
 | .inl i,v,h=>by
  obtain ⟨t,e⟩:=Value.isInt_shape (k:=i) (v:=v) h
  exact .inl ⟨i,t,rfl,e⟩
 | .inr x,v,h=>by
  obtain ⟨t,e⟩:=Value.isStrOf_shape (x:=x) (v:=v) h
  exact .inr ⟨x,t,rfl,e⟩
theorem keyIs_int (i:Int)(t:Tok):keyIs (.inl i) (.int i t)=true:=by simp [keyIs,Value.isInt]
theorem keyIs_str (x:Str)(t:Tok):keyIs (.inr x) (.str x t)=true:=by simp [keyIs,Value.isStrOf]
theorem key_ll (a b:Int):decide ((Sum.inl a:u8)=Sum.inl b)=(a==b):=by
 by_cases e:a=b
 ·subst e;simp
 ·have h:¬ (Sum.inl a:u8)=Sum.inl b:=fun q=>e (Sum.inl.inj q)
  rw [decide_eq_false h];exact (beq_eq_false_iff_ne.mpr e).symm
theorem key_rr (a b:Str):decide ((Sum.inr a:u8)=Sum.inr b)=decide (a=b):=by
 by_cases e:a=b
 ·subst e;simp
 ·have h:¬ (Sum.inr a:u8)=Sum.inr b:=fun q=>e (Sum.inr.inj q)
  rw [decide_eq_false h,decide_eq_false e]
theorem key_lr (a:Int)(b:Str):decide ((Sum.inl a:u8)=Sum.inr b)=false:=decide_eq_false (fun q=>nomatch q)
theorem key_rl (a:Str)(b:Int):decide ((Sum.inr a:u8)=Sum.inl b)=false:=decide_eq_false (fun q=>nomatch q)
def wE (prog:Program)(w:World):PySem.KeyKind prog w u8 where
 is:=keyIs
 hash:=keyH w
 inj:=fun v a b ha hb=>by
  rcases xK ha with ⟨i,t,rfl,rfl⟩ | ⟨x,t,rfl,rfl⟩
  ·rcases xK hb with ⟨j,u,rfl,e⟩ | ⟨y,u,rfl,e⟩
   ·injection e with e1 _;rw [e1]
   ·exact nomatch e
  ·rcases xK hb with ⟨j,u,rfl,e⟩ | ⟨y,u,rfl,e⟩
   ·exact nomatch e
   ·injection e with e1 _;rw [e1]
 byValue:=fun k v h=>by
  rcases xK h with ⟨i,t,rfl,rfl⟩ | ⟨x,t,rfl,rfl⟩<;>rfl
 pyHash:=fun hv h=>by
  rcases xK hv with ⟨i,t,rfl,rfl⟩ | ⟨x,t,rfl,rfl⟩
  ·exact wpAny_pyHash_int h
  ·exact wpAny_pyHash_str h
 eqBool:=fun hu hv h=>by
  rcases xK hu with ⟨i,t,rfl,rfl⟩ | ⟨x,t,rfl,rfl⟩
  ·rcases xK hv with ⟨j,u,rfl,rfl⟩ | ⟨y,u,rfl,rfl⟩
   ·rw [key_ll] at h;exact wpAny_eqBool_int h
   ·rw [key_lr] at h;exact SeqAt.EqAt.int_str i t y u _ _ _ _ h
  ·rcases xK hv with ⟨j,u,rfl,rfl⟩ | ⟨y,u,rfl,rfl⟩
   ·rw [key_rl] at h;exact SeqAt.EqAt.str_int x t j u _ _ _ _ h
   ·rw [key_rr] at h;exact wpAny_eqBool_str h
 «strs»:=fun k x t v h=>by
  rcases xK h with ⟨i,u,rfl,e⟩ | ⟨y,u,rfl,e⟩
  ·exact nomatch e
  ·injection e with e1 _
   subst e1
   cases v<;>rfl
theorem mixKind_int (prog:Program)(w:World)(i:Int)(t:Tok):(wE prog w).is (.inl i) (.int i t)=true:=keyIs_int i t
theorem mixKind_str (prog:Program)(w:World)(x:Str)(t:Tok):(wE prog w).is (.inr x) (.str x t)=true:=keyIs_str x t
end L2
namespace L2
open PySem PySem.Spec PyProof.Rows
inductive V where
 | non | bl (b:Bool) | int (i:Int) | str (x:Str) | byt (b:Array UInt8) | flt (b:UInt64) | ref (a:Addr) | ty (n:String)
 deriving DecidableEq
def RelV : V→Value→Prop
 | .non,u=>u=Value.none
 | .bl b,u=>u=Value.bool b
 | .int i,u=>∃ t,u=Value.int i t
 | .str x,u=>∃ t,u=Value.str x t
 | .byt b,u=>∃ t,u=Value.bytes b t
 | .flt b,u=>∃ t,u=Value.float b t
 | .ref a,u=>u=Value.ref a
 | .ty n,u=>u=Value.type n
abbrev Vals : List V→List Value→Prop:=Paired RelV
theorem Vals.length {xs:List V}{us:List Value}(r:Vals xs us):xs.length=us.length:=Paired.length r
theorem Vals.get : ∀ {xs:List V} {us:List Value} {i:Nat} {x:V},Vals xs us→xs[i]? = some x→∃ u,us[i]? = some u∧RelV x u
 | _,_,_,_,.nil,e=>by simp at e
 | _,_,0,_,.cons r _,e=>by simp at e;subst e;exact ⟨_,rfl,r⟩
 | _,_,i+1,x,.cons _ t,e=>by
  obtain ⟨u,h1,h2⟩:=Vals.get (i:=i) (x:=x) t (by simpa using e)
  exact ⟨u,by simpa using h1,h2⟩
theorem Vals.set {x:V}{u:Value}(r:RelV x u):∀ {xs:List V} {us:List Value} (i:Nat),Vals xs us→Vals (xs.set i x) (us.set i u)
 | _,_,_,.nil=>.nil
 | _,_,0,.cons _ t=>.cons r t
 | _,_,i+1,.cons q t=>.cons q (Vals.set r i t)
theorem Vals.append : ∀ {xs ys:List V} {us ws:List Value},Vals xs us→Vals ys ws→Vals (xs++ys) (us++ws)
 | _,_,_,_,.nil,s=>s
 | _,_,_,_,.cons r t,s=>.cons r (Vals.append t s)
theorem Vals.take : ∀ {xs:List V} {us:List Value} (n:Nat),Vals xs us→Vals (xs.take n) (us.take n)
 | _,_,0,_=>.nil
 | _,_,_+1,.nil=>.nil
 | _,_,n+1,.cons r t=>.cons r (Vals.take n t)
theorem Vals.drop : ∀ {xs:List V} {us:List Value} (n:Nat),Vals xs us→Vals (xs.drop n) (us.drop n)
 | _,_,0,r=>r
 | _,_,_+1,.nil=>.nil
 | _,_,n+1,.cons _ t=>Vals.drop n t
def RelO : Option V→Option Value→Prop
 | some v,some u=>RelV v u
 | none,none=>True
 | _,_=>False
def KV {κ:Type}:List (κ×V)→List (κ×Value)→Prop:=Paired fun (p:κ×V) (q:κ×Value)=>p.1=q.1∧RelV p.2 q.2
def kV : u8→V
 | .inl i=>.int i
 | .inr x=>.str x
inductive HO where
 | lst (xs:List V)
 | tup (xs:List V)
 | dK (kvs:List (u8×V)) | dT (kvs:List (List u8×V))
 | set (S:Int→Bool) (n:Nat)
 | ins (C dx:Addr) (fs:List (Str×V))
 | own (x:Addr)
 | xd (fs:List (Str×V))
 | met (f x:Addr)
 | rng (lo hi:Int)
 | frz (o:Obj) (u:HO)
 | tbl (ps:Array Value)
 | ext (φ:Heap→Prop)
abbrev Hp :=Addr→Option HO
def upd (H:Hp)(a:Addr)(o:HO):Hp:=fun b=>if b=a then some o else H b
theorem upd_same {H:Hp}{a:Addr}{o:HO}:upd H a o a=some o:=by unfold upd;rw [if_pos rfl]
theorem zH {H:Hp}{a b:Addr}{o:HO}(h:b≠a):upd H a o b=H b:=by unfold upd;rw [if_neg h]
theorem yQ {H:Hp}{a:Addr}{o u:HO}:upd (upd H a o) a u=upd H a u:=by
 funext b;unfold upd;split<;>rfl
theorem xD {H:Hp}{a b:Addr}{o u:HO}(h:H a=some o)(h':H b=some u)(d:o≠u):a≠b:=by
 intro e;subst e;rw [h] at h';exact d (Option.some.inj h')
theorem zO {H:Hp}{a b:Addr}{o:HO}(h:H a=some o)(h':H b=none):a≠b:=by
 intro e;subst e;rw [h] at h';cases h'
section
variable (P:Program)(w:World)
def ObjOk (H:Hp)(h:Heap)(a:Addr):HO→Prop
 | .lst xs=>xs.length≤sizeLine∧∃ (its:List Value) (n:Nat),Vals xs its∧h.get? a=some {cls:=.type "list",data:=.seq its.toArray n}
 | .tup xs=>xs.length≤sizeLine∧∃ its:List Value,Vals xs its∧IsTup h a its.toArray
 | .dK kvs=>kvs.length≤sizeLine∧(a==sysModules)=false∧∃ vs,KV kvs vs∧h.DictOf (wE P w) a vs
 | .dT kvs=>kvs.length≤sizeLine∧(a==sysModules)=false∧∃ xs:List (List u8×Addr×Value),
   Paired (fun (p:List u8×V) (q:List u8×Addr×Value)=>p.1=q.1∧H q.2.1=some (.tup (p.1.map kV))∧RelV p.2 q.2.2) kvs xs ∧
   ∃ o es ep,h.get? a=some o∧o.ExactDict∧o.data = .dict es ep∧es.toList=xs.map (entryOfKey (tupleKind (wE P w)))∧(xs.map (·.1)).Nodup
 | .set S n=>h.SetOf (intKind P w) a S n
 | .ins C dx fs=>H dx=some (.own a)∧fs.length≤1000∧dx≠a∧h.get? a=some (PySem.W.instObj C dx) ∧
   ∃ mA,h.Ns1 dx mA∧(∀ f,RelO (fs.lookup f) (mA f))∧PySem.Within mA (fs.map (·.1))
 | .own _=>∃ o,h.get? a=some o
 | .xd fs=>∃ mA,h.Ns1 a mA∧∀ f,RelO (fs.lookup f) (mA f)
 | .rng lo hi=>∃ t u v,h.get? a=some {cls:=.type "range",data:=.fields #[.int lo t,.int hi u,.int 1 v]}
 | .frz o u=>h.get? a=some o∧ObjOk H h a u
 | .tbl ps=>h.get? a=some {cls:=.none,data:=.fields ps}
 | .met f x=>h.get? a=some (PySem.W.methodObj (.ref f) (.ref x))
 | .ext φ=>φ h∧(∃ o,h.get? a=some o)∧∀ h1 h2:Heap,φ h1→(∀ o,h1.get? a=some o→h2.get? a=some o)→φ h2
def HOk (H:Hp)(h:Heap):Prop:=∀ a o,H a=some o→ObjOk P w H h a o
end
section
variable {P:Program}{w:World}{H H':Hp}{h h':Heap}{a:Addr}{o:HO}
theorem ObjOk.lt (x:ObjOk P w H h a o):a < h.objs.size:=by
 cases o with
 | lst xs=>obtain ⟨_,_,_,_,e⟩:=x;exact Heap.lt_size e
 | tup xs=>obtain ⟨_,_,_,p⟩:=x;exact p.lt
 | dK kvs=>obtain ⟨_,_,_,_,o,_,_,e,_⟩:=x;exact Heap.lt_size e
 | dT kvs=>obtain ⟨_,_,_,_,o,_,_,e,_⟩:=x;exact Heap.lt_size e
 | set S n=>obtain ⟨o,_,_,_,e,_⟩:=x;exact Heap.lt_size e
 | ins C dx fs=>obtain ⟨_,_,_,e,_⟩:=x;exact Heap.lt_size e
 | own y=>obtain ⟨_,e⟩:=x;exact Heap.lt_size e
 | xd fs=>obtain ⟨_,⟨_,_,_,e,_⟩,_⟩:=x;exact Heap.lt_size e
 | rng lo hi=>obtain ⟨_,_,_,e⟩:=x;exact Heap.lt_size e
 | frz ob u=>obtain ⟨e,_⟩:=x;exact Heap.lt_size e
 | tbl ps=>exact Heap.lt_size (show h.get? a=some _ from x)
 | met f y=>exact Heap.lt_size (show h.get? a=some _ from x)
 | ext φ=>obtain ⟨_,⟨_,e⟩,_⟩:=x;exact Heap.lt_size e
theorem Paired.mapP {α β:Type}{F G:α→β→Prop}:∀ {l₁:List α} {l₂:List β},Paired F l₁ l₂→(∀ a b,F a b→G a b)→Paired G l₁ l₂
 | _,_,.nil,_=>.nil
 | _,_,.cons r t,f=>.cons (f _ _ r) (Paired.mapP t f)
theorem ObjOk.stay (x:ObjOk P w H h a o)(k:∀ b u,(b=a∨H b=some (.own a))→h.get? b=some u→h'.get? b=some u)
  (ho:∀ b,H b=some (.own a)→H' b=some (.own a)) (ht:∀ b xs,H b=some (.tup xs)→H' b=some (.tup xs)):ObjOk P w H' h' a o:=by
 induction o with
 | lst xs=>obtain ⟨z,its,n,r,e⟩:=x;exact ⟨z,its,n,r,k _ _ (.inl rfl) e⟩
 | tup xs=>obtain ⟨z,its,r,ob,e,c⟩:=x;exact ⟨z,its,r,ob,k _ _ (.inl rfl) e,c⟩
 | dK kvs=>obtain ⟨z,y,vs,r,ob,es,ep,e,c⟩:=x;exact ⟨z,y,vs,r,ob,es,ep,k _ _ (.inl rfl) e,c⟩
 | dT kvs =>
  obtain ⟨z,y,xs,r,ob,es,ep,e,c⟩:=x
  exact ⟨z,y,xs,Paired.mapP r fun p q z=>⟨z.1,ht _ _ z.2.1,z.2.2⟩,ob,es,ep,k _ _ (.inl rfl) e,c⟩
 | set S n=>obtain ⟨ob,es,ep,t,e,c⟩:=x;exact ⟨ob,es,ep,t,k _ _ (.inl rfl) e,c⟩
 | ins C dx fs =>
  obtain ⟨d,z,ne,e,mA,⟨od,es,ep,e2,c⟩,r⟩:=x
  exact ⟨ho _ d,z,ne,k _ _ (.inl rfl) e,mA,⟨od,es,ep,k _ _ (.inr d) e2,c⟩,r⟩
 | own y=>obtain ⟨ob,e⟩:=x;exact ⟨ob,k _ _ (.inl rfl) e⟩
 | xd fs=>obtain ⟨mA,⟨od,es,ep,e,c⟩,r⟩:=x;exact ⟨mA,⟨od,es,ep,k _ _ (.inl rfl) e,c⟩,r⟩
 | rng lo hi=>obtain ⟨t,u,v,e⟩:=x;exact ⟨t,u,v,k _ _ (.inl rfl) e⟩
 | frz ob u ih=>obtain ⟨e,q⟩:=x;exact ⟨k _ _ (.inl rfl) e,ih q⟩
 | tbl ps =>
  have e:h.get? a=some {cls:=.none,data:=.fields ps}:=x
  show h'.get? a=some {cls:=.none,data:=.fields ps}
  exact k a _ (.inl rfl) e
 | met f y =>
  have e:h.get? a=some (PySem.W.methodObj (.ref f) (.ref y)):=x
  show h'.get? a=some (PySem.W.methodObj (.ref f) (.ref y))
  exact k a _ (.inl rfl) e
 | ext φ=>obtain ⟨p,⟨o,e⟩,st⟩:=x;exact ⟨st _ _ p fun o q=>k _ _ (.inl rfl) q,⟨o,k _ _ (.inl rfl) e⟩,st⟩
theorem HOk.lt (x:HOk P w H h)(e:H a=some o):a < h.objs.size:=(x a o e).lt
theorem HOk.fresh (x:HOk P w H h)(e:h.objs.size≤a):H a=none:=by
 cases q:H a with
 | none=>rfl
 | some u=>exact absurd (Nat.lt_of_lt_of_le (x.lt q) e) (Nat.lt_irrefl _)
theorem HOk.kept (x:HOk P w H h)(k:∀ b u,h.get? b=some u→h'.get? b=some u):HOk P w H h':=fun a o e =>
 (x a o e).stay (fun b u _ q=>k b u q) (fun _ q=>q) fun _ _ q=>q
theorem HOk.laid (x:HOk P w H h)(k:∀ b u,h.get? b=some u→h'.get? b=some u)(hp:h.objs.size≤a)(new:ObjOk P w (upd H a o) h' a o):HOk P w (upd H a o) h':=fun b u e=>by
 have hn:=x.fresh hp
 by_cases hb:b=a
 ·subst hb;rw [upd_same] at e;cases e;exact new
 ·rw [zH hb] at e
  exact (x b u e).stay (fun c v _ q=>k c v q) (fun c q=>by rw [zH (zO q hn)];exact q) fun c xs q=>by rw [zH (zO q hn)];exact q
end
def Rd (H:Hp)(a:Addr)(u:HO):Prop:=H a=some u∨∃ o,H a=some (.frz o u)
theorem Rd.ok {P:Program}{w:World}{H:Hp}{h:Heap}{a:Addr}{u:HO}(r:Rd H a u)(x:HOk P w H h):ObjOk P w H h a u:=by
 rcases r with r | ⟨o,r⟩
 ·exact x a u r
 ·obtain ⟨_,q⟩:=x a _ r
  exact q
def Mut : Option HO→Prop
 | some (.lst _)=>True
 | some (.dK _)=>True
 | some (.dT _)=>True
 | some (.set _ _)=>True
 | some (.ins _ _ _)=>True
 | some (.ext _)=>True
 | _=>False
section
variable {P:Program}{w:World}{H:Hp}{h h':Heap}{x e:Addr}{o':HO}
theorem HOk.write (ok:HOk P w H h)(mu:Mut (H x))(he:e=x∨H e=some (.own x))(k:∀ b u,b≠e→h.get? b=some u→h'.get? b=some u)(heo:∃ u,h'.get? e=some u)
  (new:ObjOk P w (upd H x o') h' x o'):HOk P w (upd H x o') h':=fun b u q=>by
 have nown:∀ c y,H c=some (.own y)→c≠x:=fun c y r z=>by subst z;rw [r] at mu;exact mu
 have ntup:∀ c xs,H c=some (.tup xs)→c≠x:=fun c xs r z=>by subst z;rw [r] at mu;exact mu
 by_cases hb:b=x
 ·subst hb;rw [upd_same] at q;cases q;exact new
 ·rw [zH hb] at q
  by_cases hbe:b=e
  ·have q':H b=some (.own x):=by
    rcases he with z | z
    ·exact absurd (hbe.trans z) hb
    ·rw [hbe];exact z
   rw [q] at q';cases q'
   obtain ⟨v,hv⟩:=heo
   exact ⟨v,by rw [hbe];exact hv⟩
  ·refine (ok b u q).stay (fun c v hc r=>k c v ?_ r) (fun c r=>by rw [zH (nown c b r)];exact r) fun c xs r=>by rw [zH (ntup c xs r)];exact r
   rcases hc with rfl | hc
   ·exact hbe
   ·rintro rfl
    rcases he with z | z
    ·exact nown c b hc z
    ·rw [hc] at z;cases z;exact hb rfl
end
structure Un (fs ex:List Addr)(H H':Hp)(h h':Heap):Prop where
 keep : ∀ b o,h.get? b=some o→H b=none→b∉fs→b∉ex→h'.get? b=some o
 slot : ∀ b o,h.get? b=some o→H b=none→b∈fs→b∉ex→∃ sl,h'.get? b=some {o with slots:=sl}
 free : ∀ b o,h.get? b=some o→H b=none→b∉ex→H' b=none
 there : ∀ b o,h.get? b=some o→b∉ex→∃ o',h'.get? b=some o'
 tups : ∀ b xs,H b=some (.tup xs)→H' b=some (.tup xs)
 frzs : ∀ b o u,H b=some (.frz o u)→H' b=some (.frz o u)
 tbls : ∀ b ps,H b=some (.tbl ps)→∃ more,H' b=some (.tbl (ps++more))
section
variable {fs fs' ex ex':List Addr}{H H1 H2:Hp}{h h1 h2 h':Heap}{a x e:Addr}{o:HO}
theorem Un.any (u:Un fs ex H H1 h h1){b:Addr}{ob:Obj}(q:h.get? b=some ob)(n:H b=none)(hx:b∉ex):∃ sl,h1.get? b=some {ob with slots:=sl}:=by
 by_cases hb:b∈fs
 ·exact u.slot b ob q n hb hx
 ·exact ⟨ob.slots,u.keep b ob q n hb hx⟩
theorem Un.kept (k:∀ b u,h.get? b=some u→h'.get? b=some u):Un fs ex H H h h' :=
 ⟨fun b ob q _ _ _=>k b ob q,fun b ob q _ _ _=>⟨ob.slots,k b ob q⟩,fun _ _ _ n _=>n,fun b ob q _=>⟨ob,k b ob q⟩,fun _ _ q=>q,fun _ _ _ q=>q,fun _ ps q=>⟨#[],by rw [q];simp⟩⟩
theorem Un.refl : Un fs ex H H h h:=Un.kept fun _ _ q=>q
theorem Un.laid (k:∀ b u,h.get? b=some u→h'.get? b=some u)(hp:h.objs.size≤a)(hn:H a=none):Un fs ex H (upd H a o) h h' where
 keep:=fun b u q _ _ _=>k b u q
 slot:=fun b u q _ _ _=>⟨u.slots,k b u q⟩
 free:=fun b u q n _=>by rw [zH (Nat.ne_of_lt (Nat.lt_of_lt_of_le (Heap.lt_size q) hp))];exact n
 there:=fun b u q _=>⟨u,k b u q⟩
 tups:=fun b xs q=>by rw [zH (zO q hn)];exact q
 frzs:=fun b u xs q=>by rw [zH (zO q hn)];exact q
 tbls:=fun b ps q=>⟨#[],by rw [zH (zO q hn),q];simp⟩
theorem Un.write (mu:Mut (H x))(he:e=x∨H e=some (.own x))(k:∀ b u,b≠e→h.get? b=some u→h'.get? b=some u)(heo:∃ u,h'.get? e=some u):Un fs ex H (upd H x o) h h':=by
 have hx:∀ b,H b=none→b≠x:=fun b n z=>by subst z;rw [n] at mu;exact mu
 have hb:∀ b,H b=none→b≠e:=fun b n z=>by
  subst z;rcases he with r | r
  ·exact hx b n r
  ·rw [n] at r;cases r
 have hm:∀ b u,H b=some u→¬ Mut (some u)→b≠x:=fun b u q nm z=>by subst z;rw [q] at mu;exact nm mu
 refine ⟨fun b u q n _ _=>k b u (hb b n) q,fun b u q n _ _=>⟨u.slots,k b u (hb b n) q⟩,fun b u q n _=>by rw [zH (hx b n)];exact n,fun b u q _=>?_,
  fun b xs q=>by rw [zH (hm b _ q fun z=>z)];exact q,fun b u xs q=>by rw [zH (hm b _ q fun z=>z)];exact q,fun b ps q=>⟨#[],by rw [zH (hm b _ q fun z=>z),q];simp⟩⟩
 by_cases hbe:b=e
 ·subst hbe;exact heo
 ·exact ⟨u,k b u hbe q⟩
end
def trk (h:Heap)(H:Hp):List Addr:=(List.range h.objs.size).filter fun a=>(H a).isSome
def hidT (h:Heap)(H:Hp):Heap:=PySem.W.hideAll h (trk h H)
theorem hidT_size (h:Heap)(H:Hp):(hidT h H).objs.size=h.objs.size:=PySem.W.hideAll_size _ _
theorem hidT_get {h:Heap}{H:Hp}{b:Addr}{o:Obj}(e:h.get? b=some o)(n:H b=none):(hidT h H).get? b=some o :=
 PySem.W.hideAll_get _ e fun hm=>by
  have q:(H b).isSome=true:=(List.mem_filter.mp hm).2
  rw [n] at q;simp at q
theorem of_hidT {h:Heap}{H:Hp}{b:Addr}{o:Obj}(e:(hidT h H).get? b=some o):h.get? b=some o∧H b=none:=by
 have e':h.get? b=some o:=PySem.W.of_hideAll (trk h H) e
 refine ⟨e',?_⟩
 cases q:H b with
 | none=>rfl
 | some x =>
  have hm:b∈trk h H:=List.mem_filter.mpr ⟨List.mem_range.mpr (Heap.lt_size e'),by simp [q]⟩
  have z:(hidT h H).get? b=none:=PySem.W.hideAll_none (trk h H) hm
  rw [z] at e;cases e
end L2
namespace L2
open PySem PySem.Spec PyProof.Rows
structure Mod (K:zF)(mg:Str→Option Value)(base:Heap):Prop where
 kin : K.In base
 glob : base.Ns mainGlobals mg
 blt : ∃ mb,base.Ns builtinsNs mb∧∀ x:Str,x≠"__name__"→mb x=bootBuiltins x
 nolimit : base.NoLimit
 bmain : ∃ bm ob,mg "__builtins__"=some (.ref bm)∧bm≠builtinsNs∧base.get? bm=some ob∧ob.cls = .type "module"∧ob.dict=some builtinsNs∧ob.data = .plain
structure Cx where
 prog : Program
 w : World
 K : zF
 mg : Str→Option Value
 base : Heap
 A : Around
 N : List Str
 s_0 : Shared
 H_0 : Hp
 env : Env
 outer : List Env
 stack : List Env
 ex : List Addr
 fn : Str→Bool
 calm : Bool
 pn : List (Addr×Obj)
 xe : Value→Shared→Prop
def frs (l:List Env):List Addr:=l.filterMap (·.frame)
abbrev Cx.fs (X:Cx):List Addr:=frs X.outer
def Vis (sc:Scope)(x:Str):Prop:=sc.names.lookup x=some .local∨sc.names.lookup x=some .cell∨sc.names.lookup x=some .free
def Loc (sc:Scope)(x:Str):Prop:=sc.names.lookup x=some .local∨sc.names.lookup x=some .cell
def Look (env:Env)(h:Heap)(m:Str→Option Value)(x:Str)(u:Value):Prop :=
 (env.kindOf x=some .local∧m x=some u)∨((env.kindOf x=some .cell∨env.kindOf x=some .free)∧∃ c,env.cells.lookup x=some c∧h.IsCell c (some u))
structure Cx.Ok (X:Cx):Prop where
 mod : Mod X.K X.mg X.base
 kind : X.env.scope.kind = .function
 glob : X.env.globals=mainGlobals
 blt : X.env.builtins=builtinsNs
 above : X.s_0.heap.objs.size≤X.env.locals
 inj : ∀ x y c,X.env.cells.lookup x=some c→X.env.cells.lookup y=some c→x=y
 has : ∀ x,(X.env.kindOf x=some .cell∨X.env.kindOf x=some .free)→∃ c,X.env.cells.lookup x=some c
 cab : ∀ x c,X.fn x=true→X.env.cells.lookup x=some c→X.s_0.heap.objs.size≤c
 hd : X.calm=true→X.A.handled=none
 frames : X.A.frames=some X.stack
 stk : X.stack=X.outer∨(X.stack=X.env::X.outer∧X.env.frame=some X.env.locals)
 exf : ∀ b∈X.ex,b≠X.env.locals∧∀ x c,X.env.cells.lookup x=some c→c≠b
 bs : ∀ b o,X.base.get? b=some o→X.s_0.heap.get? b=some o∧X.H_0 b=none
 bsz : X.base.objs.size≤X.s_0.heap.objs.size
 noex : ∀ b o,X.base.get? b=some o→b∉X.ex
 exfs : ∀ b∈X.ex,b∉X.fs
 funs : X.s_0.heap.FunFrames X.base X.outer
 frf : ∀ b∈X.fs,X.H_0 b=none
structure Inv (X:Cx)(pins:List (Addr×Obj))(σ:List (Option V))(H:Hp)(s:Shared):Prop where
 ok : X.Ok
 os : s.os=X.s_0.os
 bare : AllBare s.gens
 base : Un X.fs X.ex X.H_0 H X.s_0.heap s.heap
 loc : ∃ m,s.heap.Ns X.env.locals m∧∀ (i:Nat) (x:Str) (v:V),X.N[i]? = some x→σ[i]? = some (some v)→Vis X.env.scope x→∃ u,RelV v u∧Look X.env s.heap m x u
 cell : ∀ x c,X.env.cells.lookup x=some c→∃ v,s.heap.IsCell c v
 free : H X.env.locals=none
 freeC : ∀ x c,X.env.cells.lookup x=some c→H c=none
 pin : ∀ p∈X.pn++pins,s.heap.get? p.1=some p.2∧H p.1=none∧p.1≠X.env.locals∧p.1∉X.fs∧∀ v,p.2.data≠.cell v
 hok : HOk X.prog X.w H s.heap
 len : σ.length=X.N.length
section
variable {X:Cx}{pins:List (Addr×Obj)}{σ:List (Option V)}{H H':Hp}{s:Shared}{h':Heap}
theorem Cx.Ok.nofr (ok:X.Ok){b:Addr}{o:Obj}(e:X.base.get? b=some o):b∉X.fs:=fun hb=>by
 have:=(ok.funs.mem hb).1
 rw [e] at this;cases this
theorem Inv.bs (I:Inv X pins σ H s):∀ b o,X.base.get? b=some o→s.heap.get? b=some o∧H b=none:=fun b o e =>
 ⟨I.base.keep b o (I.ok.bs b o e).1 (I.ok.bs b o e).2 (I.ok.nofr e) (I.ok.noex b o e),I.base.free b o (I.ok.bs b o e).1 (I.ok.bs b o e).2 (I.ok.noex b o e)⟩
theorem Inv.bk (I:Inv X pins σ H s):∀ b o,X.base.get? b=some o→s.heap.get? b=some o:=fun b o e=>(I.bs b o e).1
theorem Inv.mod (I:Inv X pins σ H s):Mod X.K X.mg X.base:=I.ok.mod
theorem Inv.kIn (I:Inv X pins σ H s):X.K.In s.heap:=I.ok.mod.kin.keeps I.bk
theorem Inv.lt (I:Inv X pins σ H s):X.env.locals < s.heap.objs.size:=let ⟨_,hn,_⟩:=I.loc;hn.lt
theorem Inv.sz (I:Inv X pins σ H s):X.s_0.heap.objs.size≤s.heap.objs.size:=Nat.le_trans I.ok.above (Nat.le_of_lt I.lt)
theorem Inv.nofs (I:Inv X pins σ H s){a:Addr}(h:s.heap.objs.size≤a):a∉X.fs:=fun hb=>by
 obtain ⟨_,o,ho,_⟩:=I.ok.funs.mem hb
 exact absurd (Nat.lt_of_lt_of_le (Heap.lt_size ho) (Nat.le_trans I.sz h)) (Nat.lt_irrefl _)
theorem Inv.cne (I:Inv X pins σ H s):∀ x c,X.env.cells.lookup x=some c→c≠X.env.locals:=fun x c e z=>by
 obtain ⟨v,o,ho,hd⟩:=I.cell x c e
 obtain ⟨m,⟨o',es,ep,ho',hd',_⟩,_⟩:=I.loc
 rw [z,ho'] at ho;cases ho;rw [hd'] at hd;cases hd
theorem Inv.funs (I:Inv X pins σ H s):s.heap.FunFrames X.base X.outer:=by
 have all:∀ (l:List Env),(∀ b∈frs l,b∈X.fs)→X.s_0.heap.FunFrames X.base l→s.heap.FunFrames X.base l:=by
  intro l
  induction l with
  | nil=>intro _ _;trivial
  | cons env r ih =>
   intro hs hl
   obtain ⟨hk,⟨L,o,hf,hn,ho,hd⟩,hr⟩:=hl
   have hL:L∈X.fs:=hs L (by unfold frs;rw [List.filterMap_cons,hf];exact List.mem_cons_self)
   obtain ⟨sl,e⟩:=I.base.slot L o ho (I.ok.frf L hL) hL fun z=>I.ok.exfs L z hL
   exact ⟨hk,⟨L,_,hf,hn,e,hd⟩,ih (fun b hb=>hs b (by unfold frs;rw [List.filterMap_cons,hf];exact List.mem_cons_of_mem _ hb)) hr⟩
 exact all X.outer (fun _ hb=>hb) I.ok.funs
theorem Inv.stack (I:Inv X pins σ H s):s.heap.FunFrames X.base X.stack:=by
 rcases I.ok.stk with e | ⟨e,hf⟩
 ·rw [e];exact I.funs
 ·rw [e]
  obtain ⟨m,hn,_⟩:=I.loc
  refine .cons (by rw [I.ok.kind];decide) hf hn ?_ I.funs
  exact Heap.get?_none_of_le (Nat.le_trans I.ok.bsz I.ok.above)
theorem Inv.stkSub (I:Inv X pins σ H s):∀ b∈frs X.stack,b∈X.env.locals::X.fs:=fun b hb=>by
 rcases I.ok.stk with e | ⟨e,hf⟩
 ·rw [e] at hb;exact List.mem_cons_of_mem _ hb
 ·rw [e] at hb
  unfold frs at hb;rw [List.filterMap_cons,hf] at hb;exact hb
theorem Inv.stkFree (I:Inv X pins σ H s):∀ b∈frs X.stack,H b=none:=fun b hb=>by
 rcases List.mem_cons.mp (I.stkSub b hb) with e | hb
 ·rw [e];exact I.free
 ·obtain ⟨_,o,ho,_⟩:=I.ok.funs.mem hb
  exact I.base.free b o ho (I.ok.frf b hb) fun z=>I.ok.exfs b z hb
theorem Inv.step {g':Array GenState}{t':Nat}{d':Drawn}{ch:List Addr}(I:Inv X pins σ H s)
  (hch:∀ b∈ch,(b∈X.ex∨X.s_0.heap.objs.size≤b)∧b≠X.env.locals∧(∀ x c,X.env.cells.lookup x=some c→c≠b)∧∀ p∈X.pn++pins,p.1≠b)
  (keep:∀ b o,b≠X.env.locals→b∉X.fs→b∉ch→s.heap.get? b=some o→H b=none→h'.get? b=some o)
  (slot:∀ b o,b≠X.env.locals→b∈X.fs→b∉ch→s.heap.get? b=some o→H b=none→∃ sl,h'.get? b=some {o with slots:=sl}) (free:∀ b o,b∉ch→s.heap.get? b=some o→H b=none→H' b=none)
  (there:∀ b o,b∉ch→s.heap.get? b=some o→∃ o',h'.get? b=some o')
  (tups:∀ b xs,H b=some (.tup xs)→H' b=some (.tup xs)) (frzs:∀ b o u,H b=some (.frz o u)→H' b=some (.frz o u)) (tbls:∀ b ps,H b=some (.tbl ps)→∃ more,H' b=some (.tbl (ps++more)))
  (ns:∀ m,s.heap.Ns X.env.locals m→h'.Ns X.env.locals m) (hok:HOk X.prog X.w H' h') (hg:AllBare g') :
  Inv X pins σ H' {s with heap:=h',gens:=g',drawn:=d',toks:=t'}:=by
 have neL:∀ b o,X.s_0.heap.get? b=some o→b≠X.env.locals:=fun b o e=>Nat.ne_of_lt (Nat.lt_of_lt_of_le (Heap.lt_size e) I.ok.above)
 have neC:∀ b o,X.s_0.heap.get? b=some o→b∉X.ex→b∉ch:=fun b o e hx hb=>by
  rcases (hch b hb).1 with z | z
  ·exact hx z
  ·exact absurd (Nat.lt_of_lt_of_le (Heap.lt_size e) z) (Nat.lt_irrefl _)
 have cellK:∀ x c,X.env.cells.lookup x=some c→∀ v,s.heap.IsCell c v→h'.IsCell c v:=fun x c e v ⟨o,ho,hd⟩=>by
  have nch:c∉ch:=fun z=>(hch c z).2.2.1 x c e rfl
  by_cases hc:c∈X.fs
  ·obtain ⟨sl,q⟩:=slot c o (I.cne x c e) hc nch ho (I.freeC x c e)
   exact ⟨_,q,hd⟩
  ·exact ⟨o,keep c o (I.cne x c e) hc nch ho (I.freeC x c e),hd⟩
 refine ⟨I.ok,I.os,hg,⟨fun b o e n hb hx=>?_,fun b o e n hb hx=>?_,fun b o e n hx=>?_,fun b o e hx=>?_,fun b xs e=>tups b xs (I.base.tups b xs e),fun b o xs e=>frzs b o xs (I.base.frzs b o xs e),fun b ps e=>?_⟩,?_,fun x c e=>?_,?_,fun x c e=>?_,fun p hp=>?_,hok,I.len⟩
 ·exact keep b o (neL b o e) hb (neC b o e hx) (I.base.keep b o e n hb hx) (I.base.free b o e n hx)
 ·obtain ⟨sl,e1⟩:=I.base.slot b o e n hb hx
  obtain ⟨sl',e2⟩:=slot b _ (neL b o e) hb (neC b o e hx) e1 (I.base.free b o e n hx)
  exact ⟨sl',e2⟩
 ·obtain ⟨o',e1⟩:=I.base.there b o e hx
  exact free b o' (neC b o e hx) e1 (I.base.free b o e n hx)
 ·obtain ⟨o',e1⟩:=I.base.there b o e hx
  exact there b o' (neC b o e hx) e1
 ·obtain ⟨m1,e1⟩:=I.base.tbls b ps e
  obtain ⟨m2,e2⟩:=tbls b _ e1
  exact ⟨m1++m2,by rw [e2,Array.append_assoc]⟩
 ·obtain ⟨m,hn,hl⟩:=I.loc
  refine ⟨m,ns m hn,fun i x v e1 e2 e3=>?_⟩
  obtain ⟨u,r,l⟩:=hl i x v e1 e2 e3
  refine ⟨u,r,?_⟩
  rcases l with l | ⟨k,c,e,z⟩
  ·exact .inl l
  ·exact .inr ⟨k,c,e,cellK x c e _ z⟩
 ·obtain ⟨v,z⟩:=I.cell x c e
  exact ⟨v,cellK x c e v z⟩
 ·obtain ⟨m,⟨o,_,_,ho,_⟩,_⟩:=I.loc
  exact free _ o (fun z=>(hch _ z).2.1 rfl) ho I.free
 ·obtain ⟨v,o,ho,hd⟩:=I.cell x c e
  exact free c o (fun z=>(hch c z).2.2.1 x c e rfl) ho (I.freeC x c e)
 ·obtain ⟨e,n,ne,nf,d⟩:=I.pin p hp
  have nch:p.1∉ch:=fun z=>(hch p.1 z).2.2.2 p hp rfl
  exact ⟨keep p.1 p.2 ne nf nch e n,free p.1 p.2 nch e n,ne,nf,d⟩
theorem Inv.un {t':Nat}(I:Inv X pins σ H s)(u:Un X.fs [] H H' s.heap h')(hok:HOk X.prog X.w H' h'):Inv X pins σ H' {s with heap:=h',toks:=t'}:=by
 obtain ⟨m,⟨o,es,ep,ho,r⟩,_⟩:=id I.loc
 obtain ⟨sl,hL⟩:=u.any ho I.free (by simp)
 exact I.step (g':=s.gens) (d':=s.drawn) (ch:=[]) (fun _ z=>nomatch z) (fun b o _ hb _ e n=>u.keep b o e n hb (by simp)) (fun b o _ hb _ e n=>u.slot b o e n hb (by simp)) (fun b o _ e n=>u.free b o e n (by simp)) (fun b o _ e=>u.there b o e (by simp)) u.tups u.frzs u.tbls (fun m' hm=>by
  obtain ⟨o',es',ep',ho',r'⟩:=hm
  rw [ho] at ho';cases ho'
  exact ⟨_,es',ep',hL,r'⟩) hok I.bare
theorem Inv.call {g':Array GenState}{t':Nat}{d':Drawn}{ch:List Addr}(I:Inv X pins σ H s)(u:Un (frs X.stack) ch H H' s.heap h')(hok:HOk X.prog X.w H' h')(hg:AllBare g')
  (hch:∀ b∈ch,(b∈X.ex∨X.s_0.heap.objs.size≤b)∧b≠X.env.locals∧(∀ x c,X.env.cells.lookup x=some c→c≠b)∧∀ p∈X.pn++pins,p.1≠b) :
  Inv X pins σ H' {s with heap:=h',gens:=g',drawn:=d',toks:=t'}:=by
 obtain ⟨m,⟨o,es,ep,ho,r⟩,_⟩:=id I.loc
 obtain ⟨sl,hL⟩:=u.any ho I.free fun z=>(hch _ z).2.1 rfl
 exact I.step (ch:=ch) hch (fun b o hL hb hc e n=>u.keep b o e n (fun z=>(List.mem_cons.mp (I.stkSub b z)).elim hL hb) hc) (fun b o _ _ hc e n=>u.any e n hc) (fun b o hc e n=>u.free b o e n hc) (fun b o hc e=>u.there b o e hc) u.tups u.frzs u.tbls (fun m' hm=>by
  obtain ⟨o',es',ep',ho',r'⟩:=hm
  rw [ho] at ho';cases ho'
  exact ⟨_,es',ep',hL,r'⟩) hok hg
theorem Inv.turned {t':Nat}{it:Addr}(I:Inv X pins σ H s)(k:∀ b o,b≠it→s.heap.get? b=some o→h'.get? b=some o)(hn:H it=none)(hL:it≠X.env.locals)
  (h1:it∈X.ex∨X.s_0.heap.objs.size≤it) (h2:∀ x c,X.env.cells.lookup x=some c→c≠it) (h3:∀ p∈X.pn++pins,p.1≠it):Inv X pins σ H {s with heap:=h',toks:=t'}:=by
 have nit:∀ b u,H b=some u→b≠it:=fun b u e z=>by rw [z,hn] at e;cases e
 refine I.step (g':=s.gens) (d':=s.drawn) (ch:=[it]) (fun b hb=>?_) (fun b o _ _ hc e _=>k b o (fun z=>hc (by simp [z])) e) (fun b o _ _ hc e _=>⟨o.slots,k b o (fun z=>hc (by simp [z])) e⟩) (fun _ _ _ _ n=>n)
  (fun b o hc e=>⟨o,k b o (fun z=>hc (by simp [z])) e⟩) (fun _ _ e=>e) (fun _ _ _ e=>e) (fun b ps e=>⟨#[],by rw [e];simp⟩) (fun m hm=>?_) (fun b u e=>?_) I.bare
 ·have e:b=it:=by simpa using hb
  subst e;exact ⟨h1,hL,h2,h3⟩
 ·obtain ⟨o,es,ep,ho,r⟩:=hm
  exact ⟨o,es,ep,k _ o (Ne.symm hL) ho,r⟩
 ·refine (I.hok b u e).stay (fun c v hc q=>k c v ?_ q) (fun _ q=>q) fun _ _ q=>q
  rcases hc with z | z
  ·rw [z];exact nit b u e
  ·exact nit c _ z
theorem Inv.tok (I:Inv X pins σ H s)(t:Nat):Inv X pins σ H {s with toks:=t}:=I.un (h':=s.heap) (t':=t) Un.refl I.hok
theorem Inv.kept {t':Nat}(I:Inv X pins σ H s)(k:∀ b u,s.heap.get? b=some u→h'.get? b=some u):Inv X pins σ H {s with heap:=h',toks:=t'}:=I.un (Un.kept k) (I.hok.kept k)
theorem Inv.laid {a:Addr}{o:HO}{t':Nat}(I:Inv X pins σ H s)(k:∀ b u,s.heap.get? b=some u→h'.get? b=some u)(hp:s.heap.objs.size≤a)(new:ObjOk X.prog X.w (upd H a o) h' a o) :
  Inv X pins σ (upd H a o) {s with heap:=h',toks:=t'}:=I.un (Un.laid k hp (I.hok.fresh hp)) (I.hok.laid k hp new)
theorem Inv.write {x e:Addr}{o:HO}{t':Nat}(I:Inv X pins σ H s)(mu:Mut (H x))(he:e=x∨H e=some (.own x))(k:∀ b u,b≠e→s.heap.get? b=some u→h'.get? b=some u)(heo:∃ u,h'.get? e=some u)
  (new:ObjOk X.prog X.w (upd H x o) h' x o):Inv X pins σ (upd H x o) {s with heap:=h',toks:=t'}:=I.un (Un.write mu he k heo) (I.hok.write mu he k heo new)
theorem Inv.weak {σ':List (Option V)}(I:Inv X pins σ H s)(hl:σ'.length=σ.length)(w:∀ (i:Nat) v,σ'[i]? = some (some v)→σ[i]? = some (some v)):Inv X pins σ' H s :=
 ⟨I.ok,I.os,I.bare,I.base,let ⟨m,hn,hl'⟩:=I.loc;⟨m,hn,fun i x v e1 e2 e3=>hl' i x v e1 (w i v e2) e3⟩,I.cell,I.free,I.freeC,I.pin,I.hok,hl.trans I.len⟩
theorem Inv.pins_of {pins':List (Addr×Obj)}(I:Inv X pins σ H s)(h:∀ p∈pins',s.heap.get? p.1=some p.2∧H p.1=none∧p.1≠X.env.locals∧p.1∉X.fs∧∀ v,p.2.data≠.cell v):Inv X pins' σ H s :=
 ⟨I.ok,I.os,I.bare,I.base,I.loc,I.cell,I.free,I.freeC,fun p hp=>(List.mem_append.mp hp).elim (fun z=>I.pin p (List.mem_append_left _ z)) (h p),I.hok,I.len⟩
theorem nodup_ix {N:List Str}(hN:N.Nodup){i j:Nat}{x:Str}(a:N[i]? = some x)(b:N[j]? = some x):i=j:=by
 obtain ⟨h1,e1⟩:=List.getElem?_eq_some_iff.mp a
 obtain ⟨h2,e2⟩:=List.getElem?_eq_some_iff.mp b
 exact (List.getElem_inj hN).mp (e1.trans e2.symm)
theorem store_ok2 {M:Model}{A:Around}{E:Value→Shared→Prop}{i:Nat}{x:Str}{v:V}{u:Value}{Q:Unit→Shared→Prop}(I:Inv X pins σ H s)(hN:X.N.Nodup)(hi:X.N[i]? = some x)(hx:Loc X.env.scope x)(r:RelV v u)
  (h:∀ s',Inv X pins (σ.set i (some v)) H s'→(∃ a,Heap.SameBut a s.heap s'.heap∧(a=X.env.locals∨X.env.cells.lookup x=some a))→Q () s') (hf:X.fn x=true∨X.env.scope.names.lookup x=some .local:=by first | exact .inl rfl | exact .inr rfl | assumption):wpAny M A (storeName X.env x u) Q E s:=by
 obtain ⟨m,hn,hl⟩:=id I.loc
 have hcls:(X.env.scope.kind == .class||(X.env.scope.kind == .module&&X.env.locals != X.env.globals))=false:=by rw [I.ok.kind];rfl
 have hiσ:i < σ.length:=by rw [I.len];exact (List.getElem?_eq_some_iff.mp hi).1
 have cne:=I.cne
 have tracked:∀ {a:Addr} {h':Heap},(∃ o,s.heap.get? a=some o∧H a=none)→Heap.SameBut a s.heap h'→HOk X.prog X.w H h':=fun {a h'} ha hs b ob e=>by
  obtain ⟨_,_,hfree⟩:=ha
  refine (I.hok b ob e).stay (fun c w' hc q=>(hs.2 c ?_).trans q) (fun _ q=>q) fun _ _ q=>q
  rintro rfl
  rcases hc with rfl | hc
  ·rw [hfree] at e;cases e
  ·rw [hfree] at hc;cases hc
 rcases hx with hk | hk
 ·refine wpAny_storeName_local hk hn (fun h' hn' hs=>?_) hcls
  obtain ⟨oL,_,_,hoL,_⟩:=id hn
  refine h _ ⟨I.ok,I.os,I.bare,⟨fun b o e n hb hx=>?_,fun b o e n hb hx=>?_,I.base.free,fun b o e hx=>?_,I.base.tups,I.base.frzs,I.base.tbls⟩,⟨_,hn',fun j y v' e1 e2 e3=>?_⟩,fun y c e=>?_,I.free,I.freeC,fun p hp=>?_,tracked ⟨oL,hoL,I.free⟩ hs,by simpa using I.len⟩ ⟨_,hs,.inl rfl⟩
  ·exact (hs.2 b (Nat.ne_of_lt (Nat.lt_of_lt_of_le (Heap.lt_size e) I.ok.above))).trans (I.base.keep b o e n hb hx)
  ·obtain ⟨sl,e1⟩:=I.base.slot b o e n hb hx
   exact ⟨sl,(hs.2 b (Nat.ne_of_lt (Nat.lt_of_lt_of_le (Heap.lt_size e) I.ok.above))).trans e1⟩
  ·obtain ⟨o',e1⟩:=I.base.there b o e hx
   exact ⟨o',(hs.2 b (Nat.ne_of_lt (Nat.lt_of_lt_of_le (Heap.lt_size e) I.ok.above))).trans e1⟩
  ·by_cases hj:j=i
   ·subst hj
    rw [hi] at e1;cases e1;rw [List.getElem?_set_self hiσ] at e2;cases e2;exact ⟨u,r,.inl ⟨hk,by simp⟩⟩
   ·rw [List.getElem?_set_ne (Ne.symm hj)] at e2
    obtain ⟨u',r',q⟩:=hl j y v' e1 e2 e3
    refine ⟨u',r',?_⟩
    rcases q with ⟨k,e⟩ | ⟨k,c,e,z⟩
    ·refine .inl ⟨k,?_⟩
     have : y≠x:=fun e=>hj (nodup_ix hN e1 (e ▸ hi))
     simp [this,e]
    ·exact .inr ⟨k,c,e,z.sameBut hs (cne y c e)⟩
  ·obtain ⟨w',z⟩:=I.cell y c e
   exact ⟨w',z.sameBut hs (cne y c e)⟩
  ·obtain ⟨e,n,ne,nf,d⟩:=I.pin p hp
   exact ⟨(hs.2 p.1 ne).trans e,n,ne,nf,d⟩
 ·have hfn:X.fn x=true:=by
   rcases hf with z | z
   ·exact z
   ·rw [z] at hk;cases hk
  obtain ⟨c,hc⟩:=I.ok.has x (.inl hk)
  obtain ⟨w',z⟩:=I.cell x c hc
  refine wpAny_storeName_cell I.ok.kind hk hc z (fun h' hc' hs=>?_)
  obtain ⟨oc,hoc,hocd⟩:=id z
  refine h {s with heap:=h'} ⟨I.ok,I.os,I.bare,⟨fun b o e n hb hx=>?_,fun b o e n hb hx=>?_,I.base.free,fun b o e hx=>?_,I.base.tups,I.base.frzs,I.base.tbls⟩,⟨m,hn.sameBut hs (Ne.symm (cne x c hc)),fun j y v' e1 e2 e3=>?_⟩,fun y c' e=>?_,I.free,I.freeC,fun p hp=>?_,tracked ⟨oc,hoc,I.freeC x c hc⟩ hs,by simpa using I.len⟩ ⟨c,hs,.inr hc⟩
  ·exact (hs.2 b (Nat.ne_of_lt (Nat.lt_of_lt_of_le (Heap.lt_size e) (I.ok.cab x c hfn hc)))).trans (I.base.keep b o e n hb hx)
  ·obtain ⟨sl,e1⟩:=I.base.slot b o e n hb hx
   exact ⟨sl,(hs.2 b (Nat.ne_of_lt (Nat.lt_of_lt_of_le (Heap.lt_size e) (I.ok.cab x c hfn hc)))).trans e1⟩
  ·obtain ⟨o',e1⟩:=I.base.there b o e hx
   exact ⟨o',(hs.2 b (Nat.ne_of_lt (Nat.lt_of_lt_of_le (Heap.lt_size e) (I.ok.cab x c hfn hc)))).trans e1⟩
  ·by_cases hj:j=i
   ·subst hj
    rw [hi] at e1;cases e1;rw [List.getElem?_set_self hiσ] at e2;cases e2;exact ⟨u,r,.inr ⟨.inl hk,c,hc,hc'⟩⟩
   ·rw [List.getElem?_set_ne (Ne.symm hj)] at e2
    obtain ⟨u',r',q⟩:=hl j y v' e1 e2 e3
    refine ⟨u',r',?_⟩
    rcases q with q | ⟨k,c',e,z'⟩
    ·exact .inl q
    ·refine .inr ⟨k,c',e,z'.sameBut hs ?_⟩
     rintro rfl
     exact hj (nodup_ix hN e1 (I.ok.inj _ _ _ e hc ▸ hi))
  ·by_cases hcc:c'=c
   ·subst hcc;exact ⟨_,hc'⟩
   ·obtain ⟨w2,z2⟩:=I.cell y c' e
    exact ⟨w2,z2.sameBut hs hcc⟩
  ·obtain ⟨e,n,ne,nf,d⟩:=I.pin p hp
   refine ⟨(hs.2 p.1 ?_).trans e,n,ne,nf,d⟩
   intro q
   rw [q,hoc] at e;have q':oc=p.2:=Option.some.inj e
   exact d w' (by rw [← q'];exact hocd)
theorem store_ok {M:Model}{A:Around}{E:Value→Shared→Prop}{i:Nat}{x:Str}{v:V}{u:Value}{Q:Unit→Shared→Prop}(I:Inv X pins σ H s)(hN:X.N.Nodup)(hi:X.N[i]? = some x)(hx:Loc X.env.scope x)(r:RelV v u)
  (h:∀ s',Inv X pins (σ.set i (some v)) H s'→Q () s') (hf:X.fn x=true∨X.env.scope.names.lookup x=some .local:=by first | exact .inl rfl | exact .inr rfl | assumption):wpAny M A (storeName X.env x u) Q E s :=
 store_ok2 I hN hi hx r (fun s' I' _=>h s' I') hf
theorem Inv.call' {s':Shared}{ch:List Addr}(I:Inv X pins σ H s)(ho:s'.os=s.os)(u:Un (frs X.stack) ch H H' s.heap s'.heap)(hok:HOk X.prog X.w H' s'.heap)(hg:AllBare s'.gens)
  (hch:∀ b∈ch,(b∈X.ex∨X.s_0.heap.objs.size≤b)∧b≠X.env.locals∧(∀ x c,X.env.cells.lookup x=some c→c≠b)∧∀ p∈X.pn++pins,p.1≠b):Inv X pins σ H' s':=by
 obtain ⟨h',g',d',t',o'⟩:=s'
 have e:o'=s.os:=ho
 subst e;exact I.call (g':=g') (t':=t') (d':=d') u hok hg hch
end
abbrev XK :=Value→Option Addr→Hp→Prop
abbrev St :=List (Option V)
abbrev VK :=V→Hp→Prop
abbrev TE :=St→Hp→VK→Prop
abbrev TT :=St→Hp→(Bool→Hp→Prop)→Prop
abbrev TA :=St→Hp→(List V→Hp→Prop)→Prop
structure t9 where
 nx : St→Hp→Prop
 rt : VK
 bk : St→Hp→Prop:=fun _ _=>False
 ct : St→Hp→Prop:=fun _ _=>False
abbrev TS :=t9→St→Hp→Prop
def EP (X:Cx)(pins:List (Addr×Obj))(σ:St)(Q:VK)(u:Value)(s':Shared):Prop:=∃ v H',Inv X pins σ H' s'∧RelV v u∧Q v H'
def TP (X:Cx)(pins:List (Addr×Obj))(σ:St)(Q:Bool→Hp→Prop)(b:Bool)(s':Shared):Prop:=∃ H',Inv X pins σ H' s'∧Q b H'
def AP (X:Cx)(pins:List (Addr×Obj))(σ:St)(Q:List V→Hp→Prop)(us:List Value)(s':Shared):Prop:=∃ vs H',Inv X pins σ H' s'∧Vals vs us∧Q vs H'
def SP (X:Cx)(pins:List (Addr×Obj))(D:t9)(f:Flow)(s':Shared):Prop :=
 match f with
 | .next=>∃ σ' H',Inv X pins σ' H' s'∧D.nx σ' H'
 | .brk=>∃ σ' H',Inv X pins σ' H' s'∧D.bk σ' H'
 | .cont=>∃ σ' H',Inv X pins σ' H' s'∧D.ct σ' H'
 | .ret u=>∃ v σ' H',Inv X pins σ' H' s'∧RelV v u∧D.rt v H'
def PE (X:Cx)(e:Expr)(t:TE):Prop :=
 ∀ (pins:List (Addr×Obj)) (s:Shared) (σ:St) (H:Hp) (Q:VK),Inv X pins σ H s→t σ H Q→wpAny (model X.prog X.w) X.A (eval e X.env) (EP X pins σ Q) X.xe s
def PT (X:Cx)(e:Expr)(t:TT):Prop :=
 ∀ (pins:List (Addr×Obj)) (s:Shared) (σ:St) (H:Hp) (Q:Bool→Hp→Prop),Inv X pins σ H s→t σ H Q→wpAny (model X.prog X.w) X.A (isTrue e X.env (eval e X.env)) (TP X pins σ Q) X.xe s
def PW (X:Cx)(e:Expr)(t:TT):Prop :=
 ∀ (whole:Sem Value) (pins:List (Addr×Obj)) (s:Shared) (σ:St) (H:Hp) (Q:Bool→Hp→Prop),Inv X pins σ H s→t σ H Q→wpAny (model X.prog X.w) X.A (isTrue e X.env whole) (TP X pins σ Q) X.xe s
theorem PW.pt {X:Cx}{e:Expr}{t:TT}(h:PW X e t):PT X e t:=h _
def PA (X:Cx)(es:List Expr)(t:TA):Prop :=
 ∀ (pos:Pos) (pins:List (Addr×Obj)) (s:Shared) (σ:St) (H:Hp) (Q:List V→Hp→Prop),Inv X pins σ H s→t σ H Q→wpAny (model X.prog X.w) X.A (spliced (backTo pos (starEach es X.env))) (AP X pins σ Q) X.xe s
def PS (X:Cx)(st:Stmt)(t:TS):Prop :=
 ∀ (pins:List (Addr×Obj)) (s:Shared) (σ:St) (H:Hp) (D:t9),Inv X pins σ H s→t D σ H→wpAny (model X.prog X.w) X.A (exec st X.env) (SP X pins D) X.xe s
def PSs (X:Cx)(st:List Stmt)(t:TS):Prop :=
 ∀ (pins:List (Addr×Obj)) (s:Shared) (σ:St) (H:Hp) (D:t9),Inv X pins σ H s→t D σ H→wpAny (model X.prog X.w) X.A (execs st X.env) (SP X pins D) X.xe s
theorem xE {α:Type}{t:Sem α}{Q Q':α→Shared→Prop}{M:Model}{A:Around}{E:Value→Shared→Prop}{s:Shared}(h:wpAny M A t Q E s)(hQ:∀ a s,Q a s→Q' a s):wpAny M A t Q' E s:=wpAny_mono h hQ fun _ _ x=>x
end L2
namespace L2
open PySem PySem.Spec PyProof.Rows
section
variable {X:Cx}
def tVar (i:Nat):TE:=fun σ H Q=>∃ v,σ[i]? = some (some v)∧Q v H
def tC (v:V):TE:=fun _ H Q=>Q v H
theorem pe_var {i:Nat}{x:Str}{pos:Pos}(hN:X.N[i]? = some x)(hv:Vis X.env.scope x)(hd:(x==("__debug__":Str))=false:=by decide)(hcd:(x==("__classdict__":Str))=false:=by decide):PE X (.Name x pos) (tVar i):=by
 intro pins s σ H Q I h
 obtain ⟨v,e,h⟩:=h
 obtain ⟨m,hn,hl⟩:=I.loc
 obtain ⟨u,r,l⟩:=hl i x v hN e hv
 have fin:EP X pins σ Q u s:=⟨v,H,I,r,h⟩
 rcases l with ⟨hk,hm⟩ | ⟨hk,c,hc,hcell⟩
 ·exact wpAny_Name (wpAny_loadName_local I.ok.kind hk hn hm fin) hd
 ·rcases hk with hk | hk
  ·exact wpAny_Name (wpAny_loadName_cell I.ok.kind hk hc hcell fin) hd
  ·exact wpAny_Name (wpAny_loadName_free I.ok.kind hk hc hcell fin hcd) hd
theorem zG {i j pos}:PE X (.Constant (.int i) j pos) (tC (.int i)):=fun _ _ _ H _ I h=>wpAny_Constant_int ⟨.int i,H,I.tok _,⟨_,rfl⟩,h⟩
theorem uU {b j pos}:PE X (.Constant (.bool b) j pos) (tC (.bl b)):=fun _ _ _ H _ I h=>Constant_bool ⟨.bl b,H,I,rfl,h⟩
theorem uS {j pos}:PE X (.Constant .none j pos) (tC .non):=fun _ _ _ H _ I h=>Constant_none ⟨.non,H,I,rfl,h⟩
theorem wO {x j pos}:PE X (.Constant (.str x) j pos) (tC (.str x)):=fun _ _ _ H _ I h=>Calls.Constant_str ⟨.str x,H,I.tok _,⟨_,rfl⟩,h⟩
def Gl (X:Cx)(x:Str):Prop:=X.env.kindOf x=some .globalImplicit
theorem ld_glob {E:Value→Shared→Prop}{pins:List (Addr×Obj)}{s:Shared}{σ:St}{H:Hp}{x:Str}{u:Value}{pos:Pos}{Q:Value→Shared→Prop}(I:Inv X pins σ H s)(hg:Gl X x)(hm:X.mg x=some u)(h:Q u s)
  (hd:(x==("__debug__":Str))=false:=by decide):wpAny (model X.prog X.w) X.A (eval (.Name x pos) X.env) Q E s :=
 Calls.Name_function_global I.ok.kind hg (Calls.loadGlobal_global (by rw [I.ok.glob];exact I.mod.glob.keeps I.bk) hm h) hd
theorem uY {E:Value→Shared→Prop}{pins:List (Addr×Obj)}{s:Shared}{σ:St}{H:Hp}{x:Str}{u:Value}{pos:Pos}{Q:Value→Shared→Prop}(I:Inv X pins σ H s)(hg:Gl X x)(hm:X.mg x=none)(hv:bootBuiltins x=some u)(h:Q u s)
  (hn:x≠"__name__":=by decide) (hd:(x==("__debug__":Str))=false:=by decide):wpAny (model X.prog X.w) X.A (eval (.Name x pos) X.env) Q E s:=by
 obtain ⟨mb,h1,h2⟩:=I.mod.blt
 exact Calls.Name_function_global I.ok.kind hg (Calls.loadGlobal_builtin (by rw [I.ok.glob];exact I.mod.glob.keeps I.bk) hm (by rw [I.ok.blt];exact h1.keeps I.bk) ((h2 x hn).trans hv) h) hd
theorem pe_glob {x:Str}{v:V}{u:Value}{pos:Pos}(hg:Gl X x)(hm:X.mg x=some u)(r:RelV v u)(hd:(x==("__debug__":Str))=false:=by decide):PE X (.Name x pos) (tC v) :=
 fun _ _ _ H _ I h=>ld_glob I hg hm ⟨v,H,I,r,h⟩ hd
variable {a b:Expr}{ta tb:TE}{pos:Pos}
def PC (X:Cx)(op:CmpOp)(a b:Expr)(t:TE):Prop :=
 ∀ (pins:List (Addr×Obj)) (s:Shared) (σ:St) (H:Hp) (Q:VK),Inv X pins σ H s→t σ H Q →
  wpAny (model X.prog X.w) X.A (eval a X.env) (fun v s₁=>wpAny (model X.prog X.w) X.A (eval b X.env) (fun u s₂=>wpAny (model X.prog X.w) X.A (compareOp op v u) (EP X pins σ Q) X.xe s₂) X.xe s₁) X.xe s
def tB (t:TE):TT:=fun σ H Q=>t σ H fun x H1=>∃ c,x = .bl c∧Q c H1
theorem pe_cmp {op:CmpOp}{t:TE}(h:PC X op a b t)(h1:behindInMarks op b=false:=by first | exact nobehind _ (by decide) (by decide) | rfl):PE X (.Compare a [op] [b] pos) t:=fun pins s σ H Q I hw=>wpAny_Compare1 (h pins s σ H Q I hw) h1
theorem yC {e:Expr}{t:TE}(h:PE X e t)(he:∀ whole,isTrue e X.env whole=(do let v ← whole;standAt e.pos;holding [v] (truthy v)):=by intro _;rfl):PT X e (tB t):=by
 intro pins s σ H Q I hw
 refine isTrue_plain (xE (h pins s σ H _ I hw) fun v s1 ⟨x,H1,I1,r1,q1⟩=>?_) (he _)
 obtain ⟨d,rfl,q⟩:=q1
 cases r1;exact wpAny_truthy_bool ⟨H1,I1,q⟩
variable {tA tB':TT}{rest:List Expr}
def tAnd (t u:TT):TT:=fun σ H Q=>t σ H fun c H1=>if c=true then u σ H1 Q else Q false H1
def tOr (t u:TT):TT:=fun σ H Q=>t σ H fun c H1=>if c=true then Q true H1 else u σ H1 Q
def tNot (t:TT):TT:=fun σ H Q=>t σ H fun c H1=>Q (!c) H1
theorem wD (ha:PT X a tA):PW X (.BoolOp .And [a] pos) tA:=by
 intro wh pins s σ H Q I h
 refine isTrue_and (xE (ha pins s σ H Q I h) fun c s1 e=>?_)
 cases c with
 | true=>exact isTrue_and_nil e
 | false=>exact e
theorem tM (ha:PT X a tA):PW X (.BoolOp .Or [a] pos) tA:=by
 intro wh pins s σ H Q I h
 refine isTrue_or (xE (ha pins s σ H Q I h) fun c s1 e=>?_)
 cases c with
 | false=>exact isTrue_or_nil e
 | true=>exact e
theorem wU (ha:PT X a tA)(hb:PW X (.BoolOp .And (b::rest) pos) tB'):PW X (.BoolOp .And (a::b::rest) pos) (tAnd tA tB'):=by
 intro wh pins s σ H Q I h
 refine isTrue_and (xE (ha pins s σ H _ I h) fun c s1 ⟨H1,I1,q1⟩=>?_)
 cases c with
 | true=>exact hb wh pins s1 σ H1 Q I1 q1
 | false=>exact ⟨H1,I1,q1⟩
theorem pw_or (ha:PT X a tA)(hb:PW X (.BoolOp .Or (b::rest) pos) tB'):PW X (.BoolOp .Or (a::b::rest) pos) (tOr tA tB'):=by
 intro wh pins s σ H Q I h
 refine isTrue_or (xE (ha pins s σ H _ I h) fun c s1 ⟨H1,I1,q1⟩=>?_)
 cases c with
 | true=>exact ⟨H1,I1,q1⟩
 | false=>exact hb wh pins s1 σ H1 Q I1 q1
theorem xG (ha:PT X a tA):PT X (.UnaryOp .Not a pos) (tNot tA):=by
 intro pins s σ H Q I h
 exact isTrue_not (ha pins s σ H (fun c H1=>Q (!c) H1) I h)
def tAndV (ta tb:TE):TE:=fun σ H Q=>ta σ H fun x H1=>∃ c,x = .bl c∧if c=true then tb σ H1 Q else Q (.bl false) H1
def tOrV (ta tb:TE):TE:=fun σ H Q=>ta σ H fun x H1=>∃ c,x = .bl c∧if c=true then Q (.bl true) H1 else tb σ H1 Q
theorem vT {op}{t:TE}(h:PE X a t):PE X (.BoolOp op [a] pos) t:=fun pins s σ H Q I hw=>BoolOp_one (h pins s σ H Q I hw)
theorem vU (ha:PE X a ta)(hb:PE X (.BoolOp .And (b::rest) pos) tb):PE X (.BoolOp .And (a::b::rest) pos) (tAndV ta tb):=by
 intro pins s σ H Q I h
 refine BoolOp_and (xE (ha pins s σ H _ I h) fun v s1 ⟨x,H1,I1,r1,q1⟩=>?_)
 obtain ⟨c,rfl,q1⟩:=q1
 cases r1;refine wpAny_truthy_bool ?_
 cases c with
 | true=>exact hb pins s1 σ H1 Q I1 q1
 | false=>exact ⟨.bl false,H1,I1,rfl,q1⟩
theorem pe_or (ha:PE X a ta)(hb:PE X (.BoolOp .Or (b::rest) pos) tb):PE X (.BoolOp .Or (a::b::rest) pos) (tOrV ta tb):=by
 intro pins s σ H Q I h
 refine BoolOp_or (xE (ha pins s σ H _ I h) fun v s1 ⟨x,H1,I1,r1,q1⟩=>?_)
 obtain ⟨c,rfl,q1⟩:=q1
 cases r1;refine wpAny_truthy_bool ?_
 cases c with
 | false=>exact hb pins s1 σ H1 Q I1 q1
 | true=>exact ⟨.bl true,H1,I1,rfl,q1⟩
def tIf (t:TT)(ta tb:TE):TE:=fun σ H Q=>t σ H fun c H1=>if c=true then ta σ H1 Q else tb σ H1 Q
theorem uT {c:Expr}(hc:PT X c tA)(ha:PE X a ta)(hb:PE X b tb):PE X (.IfExp c a b pos) (tIf tA ta tb):=by
 intro pins s σ H Q I h
 refine wpAny_IfExp (xE (hc pins s σ H _ I h) fun d s1 ⟨H1,I1,q1⟩=>?_)
 cases d with
 | true=>exact ha pins s1 σ H1 Q I1 q1
 | false=>exact hb pins s1 σ H1 Q I1 q1
end
end L2
namespace L2
open PySem PySem.Spec PyProof.Rows
def SqL (K:zF)(H:Hp)(a:Addr)(xs:List V):Prop :=
 Rd H a (.lst xs) ∨
  ∃ (o:Obj) (its:Array Value) (n:Nat),K.lookup a=some o∧o.cls = .type "list"∧o.dict=none∧o.data = .seq its n∧its.size≤sizeLine∧Vals xs its.toList
def SqT (K:zF)(H:Hp)(a:Addr)(xs:List V):Prop :=
 Rd H a (.tup xs) ∨
  ∃ (o:Obj) (its:Array Value) (n:Nat),K.lookup a=some o∧o.cls = .type "tuple"∧o.data = .seq its n∧its.size≤sizeLine∧Vals xs its.toList
def absV : Value→Option V
 | .none=>some .non
 | .bool b=>some (.bl b)
 | .int i _=>some (.int i)
 | .str x _=>some (.str x)
 | .bytes b _=>some (.byt b)
 | .float b _=>some (.flt b)
 | .ref a=>some (.ref a)
 | .type n=>some (.ty n)
 | _=>none
theorem RelV.abs {x:V}{u:Value}(r:RelV x u):absV u=some x:=by
 cases x with
 | non=>cases r;rfl
 | bl _=>cases r;rfl
 | int _=>obtain ⟨t,rfl⟩:=r;rfl
 | str _=>obtain ⟨t,rfl⟩:=r;rfl
 | byt _=>obtain ⟨t,rfl⟩:=r;rfl
 | flt _=>obtain ⟨t,rfl⟩:=r;rfl
 | ref _=>cases r;rfl
 | ty _=>cases r;rfl
theorem RelV.inj {x y:V}{u:Value}(r:RelV x u)(q:RelV y u):x=y:=Option.some.inj (r.abs.symm.trans q.abs)
theorem Vals.inj : ∀ {xs ys:List V} {us:List Value},Vals xs us→Vals ys us→xs=ys
 | _,_,_,.nil,.nil=>rfl
 | _,_,_,.cons r t,.cons r' t'=>by rw [r.inj r',Vals.inj t t']
section
variable {X:Cx}{pins:List (Addr×Obj)}{σ:St}{H:Hp}{s:Shared}{a:Addr}{xs ys:List V}
theorem SqL.of {K:zF}(h:H a=some (.lst xs)):SqL K H a xs:=.inl (.inl h)
theorem SqT.of {K:zF}(h:H a=some (.tup xs)):SqT K H a xs:=.inl (.inl h)
theorem Inv.list (I:Inv X pins σ H s)(h:SqL X.K H a xs):∃ its:List Value,Vals xs its∧PlainL s.heap a its.toArray∧xs.length≤sizeLine:=by
 rcases h with h | ⟨o,its,n,hk,hc,hd,hs,hz,r⟩
 ·obtain ⟨z,its,n,r,e⟩:=h.ok I.hok
  exact ⟨its,r,⟨_,n,e,rfl,rfl,rfl⟩,z⟩
 ·refine ⟨its.toList,r,⟨o,n,I.kIn a o hk,hc,hd,by simpa using hs⟩,?_⟩
  have e:=r.length
  simp only [Array.length_toList] at e;omega
theorem Inv.tuple (I:Inv X pins σ H s)(h:SqT X.K H a xs):∃ its:List Value,Vals xs its∧IsTup s.heap a its.toArray∧xs.length≤sizeLine:=by
 rcases h with h | ⟨o,its,n,hk,hc,hs,hz,r⟩
 ·obtain ⟨z,its,r,p⟩:=h.ok I.hok
  exact ⟨its,r,p,z⟩
 ·refine ⟨its.toList,r,⟨o,I.kIn a o hk,hc,n,by simpa using hs⟩,?_⟩
  have e:=r.length
  simp only [Array.length_toList] at e;omega
theorem Inv.list_inj (I:Inv X pins σ H s)(h:SqL X.K H a xs)(h':SqL X.K H a ys):xs=ys:=by
 obtain ⟨its,r,⟨o,n,e,_,_,d⟩,_⟩:=I.list h
 obtain ⟨its',r',⟨o',n',e',_,_,d'⟩,_⟩:=I.list h'
 rw [e] at e';cases e'
 rw [d] at d';injection d' with d1 _
 have : its=its':=by simpa using congrArg Array.toList d1
 subst this;exact r.inj r'
theorem Inv.tuple_inj (I:Inv X pins σ H s)(h:SqT X.K H a xs)(h':SqT X.K H a ys):xs=ys:=by
 obtain ⟨its,r,⟨o,e,_,n,d⟩,_⟩:=I.tuple h
 obtain ⟨its',r',⟨o',e',_,n',d'⟩,_⟩:=I.tuple h'
 rw [e] at e';cases e'
 rw [d] at d';injection d' with d1 _
 have : its=its':=by simpa using congrArg Array.toList d1
 subst this;exact r.inj r'
end
abbrev Cx.wish (X:Cx)(E:Value→Shared→Prop):Cx:={X with xe:=E}
abbrev Cx.nox (X:Cx):Cx:=X.wish fun _ _=>False
theorem Cx.Ok.wish {X:Cx}(ok:X.Ok)(E:Value→Shared→Prop):(X.wish E).Ok :=
 ⟨ok.mod,ok.kind,ok.glob,ok.blt,ok.above,ok.inj,ok.has,ok.cab,ok.hd,ok.frames,ok.stk,ok.exf,ok.bs,ok.bsz,ok.noex,ok.exfs,ok.funs,ok.frf⟩
theorem Cx.Ok.unwish {X:Cx}{E:Value→Shared→Prop}(ok:(X.wish E).Ok):X.Ok :=
 ⟨ok.mod,ok.kind,ok.glob,ok.blt,ok.above,ok.inj,ok.has,ok.cab,ok.hd,ok.frames,ok.stk,ok.exf,ok.bs,ok.bsz,ok.noex,ok.exfs,ok.funs,ok.frf⟩
section
variable {X:Cx}{pins:List (Addr×Obj)}{σ:St}{H:Hp}{s:Shared}{E:Value→Shared→Prop}
theorem Inv.wish (I:Inv X pins σ H s)(E:Value→Shared→Prop):Inv (X.wish E) pins σ H s:=⟨I.ok.wish E,I.os,I.bare,I.base,I.loc,I.cell,I.free,I.freeC,I.pin,I.hok,I.len⟩
theorem Inv.unwish (I:Inv (X.wish E) pins σ H s):Inv X pins σ H s:=⟨I.ok.unwish,I.os,I.bare,I.base,I.loc,I.cell,I.free,I.freeC,I.pin,I.hok,I.len⟩
theorem SP.unwish {D:t9}{f:Flow}{s':Shared}(h:SP (X.wish E) pins D f s'):SP X pins D f s':=by
 cases f with
 | next=>obtain ⟨σ',H',I,q⟩:=h;exact ⟨σ',H',I.unwish,q⟩
 | brk=>obtain ⟨σ',H',I,q⟩:=h;exact ⟨σ',H',I.unwish,q⟩
 | cont=>obtain ⟨σ',H',I,q⟩:=h;exact ⟨σ',H',I.unwish,q⟩
 | ret u=>obtain ⟨v,σ',H',I,r,q⟩:=h;exact ⟨v,σ',H',I.unwish,r,q⟩
theorem PSs.nox {st:List Stmt}{t:TS}(h:PSs X.nox st t):PSs X st t:=fun pins s σ H D I hw =>
 wpAny_mono (h pins s σ H D (I.wish _) hw) (fun _ _ q=>q.unwish) fun _ _ z=>False.elim z
end
section
variable {X:Cx}{st:Stmt}{rest:List Stmt}{t u:TS}{e:Expr}{te:TE}{pos:Pos}
def tNext : TS:=fun D σ H=>D.nx σ H
def tSeq (t u:TS):TS:=fun D σ H=>t {D with nx:=u D} σ H
theorem zM : PSs X [] tNext:=fun _ _ σ H _ I h=>wpAny_execs_nil ⟨σ,H,I,h⟩
theorem zB (h1:PS X st t)(h2:PSs X rest u):PSs X (st::rest) (tSeq t u):=by
 intro pins s σ H D I h
 refine wpAny_execs_cons (xE (h1 pins s σ H {D with nx:=u D} I h) fun f s1 q=>?_)
 cases f with
 | next =>
  obtain ⟨σ',H',I',q⟩:=q
  exact h2 pins s1 σ' H' D I' q
 | ret v=>exact q
 | brk=>exact q
 | cont=>exact q
theorem zD (h1:PS X st t):PSs X [st] t:=by
 intro pins s σ H D I h
 refine wpAny_execs_cons (xE (h1 pins s σ H D I h) fun f s1 q=>?_)
 cases f with
 | next=>exact wpAny_execs_nil q
 | ret v=>exact q
 | brk=>exact q
 | cont=>exact q
theorem Inv.quiet {pins:List (Addr×Obj)}{σ:St}{H:Hp}{s:Shared}(I:Inv X pins σ H s):interactive X.env=false:=by simp [interactive,I.ok.kind]
def tDrop (te:TE):TS:=fun D σ H=>te σ H fun _ H1=>D.nx σ H1
theorem yL (he:PE X e te)(hs:swapsWith e none pos.line X.env=pure false:=by rfl):PS X (.Expr e pos) (tDrop te):=by
 intro pins s σ H D I h
 exact wpAny_Expr_any (xE (he pins s σ H _ I h) fun v s1 ⟨x,H1,I1,r1,q1⟩=>⟨σ,H1,I1,q1⟩) I.quiet hs
def tRet (te:TE):TS:=fun D σ H=>te σ H D.rt
theorem zI (he:PE X e te):PS X (.Return (some e) pos) (tRet te):=by
 intro pins s σ H D I h
 exact wpAny_Return_some (xE (he pins s σ H _ I h) fun v s1 ⟨x,H1,I1,r1,q1⟩=>⟨x,σ,H1,I1,r1,q1⟩)
def tIfS (c:TT)(t u:TS):TS:=fun D σ H=>c σ H fun b H1=>if b=true then t D σ H1 else u D σ H1
theorem zX {c:Expr}{a b:List Stmt}{tc:TT}(hc:PT X c tc)(ha:PSs X a t)(hb:PSs X b u):PS X (.If c a b pos) (tIfS tc t u):=by
 intro pins s σ H D I h
 refine wpAny_If (xE (hc pins s σ H _ I h) fun d s1 ⟨H1,I1,q1⟩=>?_)
 cases d with
 | true=>exact ha pins s1 σ H1 D I1 q1
 | false=>exact hb pins s1 σ H1 D I1 q1
def tNever : TS:=fun _ _ _=>False
theorem ps_never : PS X st tNever:=fun _ _ _ _ _ _ h=>h.elim
end
abbrev TG :=V→St→Hp→(St→Hp→Prop)→Prop
abbrev TGs :=List V→St→Hp→(St→Hp→Prop)→Prop
def PG (X:Cx)(target:Expr)(t:TG):Prop :=
 ∀ (pins:List (Addr×Obj)) (s:Shared) (σ:St) (H:Hp) (v:V) (u:Value) (Q:St→Hp→Prop),Inv X pins σ H s→RelV v u→t v σ H Q →
  wpAny (model X.prog X.w) X.A (assign target X.env u) (fun _ s'=>∃ σ' H',Inv X pins σ' H' s'∧Q σ' H') X.xe s
def PGs (X:Cx)(ts:List Expr)(t:TGs):Prop :=
 ∀ (pins:List (Addr×Obj)) (s:Shared) (σ:St) (H:Hp) (vs:List V) (us:List Value) (Q:St→Hp→Prop),Inv X pins σ H s→Vals vs us→t vs σ H Q →
  wpAny (model X.prog X.w) X.A (assignInOrder ((assignEach ts X.env).map (·.2)) us) (fun _ s'=>∃ σ' H',Inv X pins σ' H' s'∧Q σ' H') X.xe s
abbrev TSet :=V→V→V→Hp→(Hp→Prop)→Prop
def PSet (X:Cx)(t:TSet):Prop :=
 ∀ (pins:List (Addr×Obj)) (s:Shared) (σ:St) (H:Hp) (o i v:V) (ov iv u:Value) (Q:Hp→Prop),Inv X pins σ H s→RelV o ov→RelV i iv→RelV v u→t o i v H Q →
  wpAny (model X.prog X.w) X.A (setItem ov iv u) (fun _ s'=>∃ H',Inv X pins σ H' s'∧Q H') X.xe s
abbrev TIp :=V→V→Hp→VK→Prop
def PIp (X:Cx)(op:Operator)(t:TIp):Prop :=
 ∀ (pins:List (Addr×Obj)) (s:Shared) (σ:St) (H:Hp) (x y:V) (v u:Value) (Q:VK),Inv X pins σ H s→RelV x v→RelV y u→t x y H Q →
  wpAny (model X.prog X.w) X.A (inplaceOp op v u) (EP X pins σ Q) X.xe s
section
variable {X:Cx}{pos:Pos}
def gName (i:Nat):TG:=fun v σ H Q=>Q (σ.set i (some v)) H
theorem zV {i:Nat}{x:Str}(hN:X.N.Nodup)(hi:X.N[i]? = some x)(hx:Loc X.env.scope x)(hf:X.fn x=true∨X.env.scope.names.lookup x=some .local:=by first | exact .inl rfl | exact .inr rfl | assumption):PG X (.Name x pos) (gName i):=by
 intro pins s σ H v u Q I r h
 exact wpAny_assign_Name (store_ok I hN hi hx r (fun s' I'=>⟨_,H,I',h⟩) hf)
def gNil : TGs:=fun vs σ H Q=>vs=[]∧Q σ H
def gCons (t:TG)(u:TGs):TGs:=fun vs σ H Q=>∃ v r,vs=v::r∧t v σ H fun σ' H'=>u r σ' H' Q
theorem xN : PGs X [] gNil:=by
 intro pins s σ H vs us Q I r h
 obtain ⟨e,h⟩:=h
 subst e;cases r;exact assignInOrder_nil ⟨σ,H,I,h⟩
theorem yA {e:Expr}{es:List Expr}{t:TG}{u:TGs}(h1:PG X e t)(h2:PGs X es u)
  (hs:(assignEach (e::es) X.env).map (·.2)=assign e X.env::(assignEach es X.env).map (·.2):=by rfl):PGs X (e::es) (gCons t u):=by
 intro pins s σ H vs us Q I r h
 obtain ⟨v,vr,e1,h⟩:=h
 subst e1
 cases r with
 | cons r rr =>
  rw [hs];refine assignInOrder_cons (xE (h1 pins s σ H _ _ _ I r h) fun _ s1 ⟨σ1,H1,I1,q1⟩=>?_)
  exact h2 pins s1 σ1 H1 _ _ Q I1 rr q1
def gTup (K:zF)(n:Nat)(t:TGs):TG:=fun v σ H Q=>∃ a xs,v = .ref a∧SqT K H a xs∧xs.length=n∧t xs σ H Q
theorem pg_tup {es:List Expr}{k:Nat}{t:TGs}{n:Nat}(hc:X.calm=true)(h:PGs X es t)
  (hn:(assignEach es X.env).length=n:=by rfl) (hst:(assignEach es X.env).findIdx? (·.1)=none:=by rfl):PG X (.Tuple es k pos) (gTup X.K n t):=by
 intro pins s σ H v u Q I r hw
 obtain ⟨a,xs,e1,hq,hl,hw⟩:=hw
 subst e1;cases r;obtain ⟨its,rv,ht,hz⟩:=I.tuple hq
 refine assign_Tuple_tuple (I.ok.hd hc) ht (by simp [hn,← hl,rv.length]) hst fun h' hx=>?_
 have I1:Inv X pins σ H {s with heap:=h'}:=I.kept (t':=s.toks) fun b o e=>hx b o (Nat.ne_of_lt (Heap.lt_size e)) e
 exact h pins _ σ H xs _ Q I1 (by simpa using rv) hw
def tAsg (te:TE)(g:TG):TS:=fun D σ H=>te σ H fun x H1=>g x σ H1 D.nx
theorem zL {i:Nat}{x:Str}{e:Expr}{te:TE}{pos':Pos}(hN:X.N.Nodup)(hi:X.N[i]? = some x)(hx:Loc X.env.scope x)(he:PE X e te)(hs:swapsWith e (some (.Name x pos')) pos.line X.env=pure false:=by rfl)(hf:X.fn x=true∨X.env.scope.names.lookup x=some .local:=by first | exact .inl rfl | exact .inr rfl | assumption) :
  PS X (.Assign [.Name x pos'] e pos) (tAsg te (gName i)):=by
 intro pins s σ H D I h
 refine wpAny_Assign_Name (xE (he pins s σ H _ I h) fun v s1 ⟨y,H1,I1,r1,q1⟩=>?_) hs
 exact store_ok I1 hN hi hx r1 (fun s2 I2=>⟨_,H1,I2,q1⟩) hf
def tAugS (to ti te:TE)(tget:V→V→Hp→VK→Prop)(tip:TIp)(tset:TSet):TS:=fun D σ H=>to σ H fun o H1=>ti σ H1 fun i H2=>tget o i H2 fun x H3=>te σ H3 fun y H4=>tip x y H4 fun z H5=>tset o i z H5 fun H6=>D.nx σ H6
def PGet (X:Cx)(t:V→V→Hp→VK→Prop):Prop :=
 ∀ (pins:List (Addr×Obj)) (s:Shared) (σ:St) (H:Hp) (o i:V) (ov iv:Value) (Q:VK),Inv X pins σ H s→RelV o ov→RelV i iv→t o i H Q →
  wpAny (model X.prog X.w) X.A (getItem ov iv) (EP X pins σ Q) X.xe s
theorem ps_augS {o i e:Expr}{to ti te:TE}{tget:V→V→Hp→VK→Prop}{tip:TIp}{tset:TSet}{op:Operator}{tpos:Pos}(ho:PE X o to)(hi:PE X i ti)(hg:PGet X tget)(he:PE X e te)(hp:PIp X op tip)(hs:PSet X tset)
  (ha:∀ ov iv new,augStore i ov iv new=(do holding [new,ov,iv] (setItem ov iv new);release [new,ov,iv] [];pure .next):=by intros;rfl):PS X (.AugAssign (.Subscript o i tpos) op e pos) (tAugS to ti te tget tip tset):=by
 intro pins s σ H D I h
 refine wpAny_AugAssign_SubscriptAny (xE (ho pins s σ H _ I h) fun ov s1 ⟨x1,H1,I1,r1,q1⟩=>?_) ha
 refine xE (hi pins s1 σ H1 _ I1 q1) fun iv s2 ⟨x2,H2,I2,r2,q2⟩=>?_
 refine xE (hg pins s2 σ H2 x1 x2 ov iv _ I2 r1 r2 q2) fun old s3 ⟨x3,H3,I3,r3,q3⟩=>?_
 refine xE (he pins s3 σ H3 _ I3 q3) fun v s4 ⟨x4,H4,I4,r4,q4⟩=>?_
 refine xE (hp pins s4 σ H4 x3 x4 old v _ I4 r3 r4 q4) fun new s5 ⟨x5,H5,I5,r5,q5⟩=>?_
 exact xE (hs pins s5 σ H5 x1 x2 x5 ov iv new _ I5 r1 r2 r5 q5) fun _ s6 ⟨H6,I6,q6⟩=>⟨σ,H6,I6,q6⟩
def ipI (f:Int→Int→Int):TIp:=fun x y H Q=>∃ i j,x = .int i∧y = .int j∧Q (.int (f i j)) H
theorem ip_add : PIp X .Add (ipI fun i j=>i+j):=by
 intro pins s σ H x y v u Q I r1 r2 h
 obtain ⟨i,j,e1,e2,q⟩:=h
 subst e1;subst e2;obtain ⟨t,rfl⟩:=r1
 obtain ⟨t',rfl⟩:=r2
 exact iadd_int ⟨.int _,H,I.tok _,⟨_,rfl⟩,q⟩
end
section
variable {X:Cx}{pos:Pos}
def tWhile (c:TT)(tb:TS):TS:=fun D σ H=>∃ W:Nat→St→Hp→Prop,(∃ m,W m σ H)∧∀ m σ H,W m σ H →
 c σ H fun b H1=>if b=true then ∃ N:St→Hp→Prop,(∀ σ' H',N σ' H'→∃ m',m' < m∧W m' σ' H')∧tb {D with nx:=N,ct:=N,bk:=D.nx} σ H1 else D.nx σ H1
theorem ps_while {c:Expr}{body:List Stmt}{tc:TT}{tb:TS}(hp:PassesOwn (model X.prog X.w) X.A X.env X.xe)(hc:PT X c tc)(hb:PSs X body tb):PS X (.While c body [] pos) (tWhile tc tb):=by
 intro pins s σ H D I h
 obtain ⟨W,⟨m0,w0⟩,turn⟩:=h
 refine wpAny_While (codeAny_whileLoop (fun n s'=>∃ σ' H',Inv X pins σ' H' s'∧W n σ' H') ?_ m0 ⟨σ,H,I,w0⟩)
 rintro n s1 ⟨σ1,H1,I1,w1⟩
 refine wpAny_passesOwn hp (xE (hc pins s1 σ1 H1 _ I1 (turn n σ1 H1 w1)) fun b s2 ⟨H2,I2,q2⟩=>?_)
 cases b with
 | true =>
  obtain ⟨N,hN,q2⟩:=q2
  rw [if_pos rfl];refine wpAny_passesOwn hp (xE (hb pins s2 σ1 H2 _ I2 q2) fun f s3 q3=>?_)
  cases f with
  | next =>
   obtain ⟨σ3,H3,I3,n3⟩:=q3
   obtain ⟨m',hm,w3⟩:=hN σ3 H3 n3
   exact ⟨m',hm,σ3,H3,I3,w3⟩
  | cont =>
   obtain ⟨σ3,H3,I3,n3⟩:=q3
   obtain ⟨m',hm,w3⟩:=hN σ3 H3 n3
   exact ⟨m',hm,σ3,H3,I3,w3⟩
  | brk=>exact q3
  | ret v=>exact q3
 | false =>
  rw [if_neg Bool.false_ne_true];exact wpAny_execs_nil ⟨σ1,H2,I2,q2⟩
end
structure It where
 go : Nat→Hp→Prop
 yld : Nat→Hp→V→Hp→Prop
 stop : Nat→Hp→Prop
def FpOk (X:Cx)(pins:List (Addr×Obj))(H:Hp)(b:Addr):Prop :=
 H b=none∧b≠X.env.locals∧b∉X.fs∧(b∈X.ex∨X.s_0.heap.objs.size≤b)∧(∀ x c,X.env.cells.lookup x=some c→c≠b)∧∀ p∈X.pn++pins,p.1≠b
theorem Inv.fpOk {X:Cx}{pins:List (Addr×Obj)}{σ:St}{H H':Hp}{s:Shared}{b:Addr}(I:Inv X pins σ H s)(hb:s.heap.objs.size≤b)(hn:H' b=none):FpOk X pins H' b:=by
 refine ⟨hn,Nat.ne_of_gt (Nat.lt_of_lt_of_le I.lt hb),I.nofs hb,.inr (Nat.le_trans I.sz hb),fun x c e z=>?_,fun p hp z=>?_⟩
 ·obtain ⟨v,q⟩:=I.cell x c e
  exact absurd (Nat.lt_of_lt_of_le q.lt (by rw [z];exact hb)) (Nat.lt_irrefl _)
 ·exact absurd (Nat.lt_of_lt_of_le (Heap.lt_size (I.pin p hp).1) (by rw [z];exact hb)) (Nat.lt_irrefl _)
structure Turn (P:Program)(w:World)(K:zF)(tg:Expr)(J:It)(fp:List Addr)(it:Addr)(tn:Nat→Heap→Prop):Prop where
 mem : it∈fp
 obj : ∀ i h,tn i h→∀ b∈fp,∃ o,h.get? b=some o∧∀ v,o.data≠.cell v
 keep : ∀ i h h',tn i h→(∀ b∈fp,∀ o,h.get? b=some o→h'.get? b=some o)→tn i h'
 item : ∀ (X:Cx),X.prog=P→X.w=w→X.K=K→X.calm=true→∀ (i:Nat) (pins:List (Addr×Obj)) (s:Shared) (σ:St) (H:Hp) (E:Value→Shared→Prop),Inv X pins σ H s→(∀ b∈fp,FpOk X pins H b)→tn i s.heap→J.go i H →
  wpAny (model P w) X.A (pyNext (.ref it)) (fun r s1=>∃ u,r=some u ∧
   wpAny (model P w) X.A (letOwnedTupleGo tg (.ref it) u) (fun _ s2=>∃ x H',Inv X pins σ H' s2∧RelV x u∧J.yld i H x H'∧tn (i+1) s2.heap∧∀ b∈fp,H' b=none) E s1) E s
 done : ∀ (X:Cx),X.prog=P→X.w=w→X.K=K→X.calm=true→∀ (i:Nat) (pins:List (Addr×Obj)) (s:Shared) (σ:St) (H:Hp) (E:Value→Shared→Prop),Inv X pins σ H s→(∀ b∈fp,FpOk X pins H b)→tn i s.heap→J.stop i H →
  wpAny (model P w) X.A (pyNext (.ref it)) (fun r s1=>r=none∧Inv X pins σ H s1) E s
 self : ∀ (A:Around) (i:Nat) (s:Shared) (Q:Value→Shared→Prop) (E:Value→Shared→Prop),tn i s.heap→Q (.ref it) s→wpAny (model P w) A (pyIter (.ref it)) Q E s
abbrev TI :=St→Hp→(It→Hp→Prop)→Prop
def PIE (X:Cx)(pins:List (Addr×Obj))(σ:St)(tg:Expr)(R:It→Hp→Prop)(itv:Value)(s2:Shared):Prop :=
 ∃ (it:Addr) (fp:List Addr) (tn:Nat→Heap→Prop) (J:It) (H':Hp),itv = .ref it∧Inv X pins σ H' s2∧Turn X.prog X.w X.K tg J fp it tn∧tn 0 s2.heap∧(∀ b∈fp,FpOk X pins H' b)∧R J H'
def PI (X:Cx)(tg iter:Expr)(wi:TI):Prop :=
 ∀ (pins:List (Addr×Obj)) (s:Shared) (σ:St) (H:Hp) (R:It→Hp→Prop),Inv X pins σ H s→wi σ H R →
  wpAny (model X.prog X.w) X.A (eval iter X.env) (fun v s1=>wpAny (model X.prog X.w) X.A (pyIter v) (PIE X pins σ tg R) X.xe s1) X.xe s
theorem go_of {M:Model}{A:Around}{E:Value→Shared→Prop}{s:Shared}{tg:Expr}{it:Addr}{u:Value}{o:Obj}{n:String}{vs:Array Value}{Q:Unit→Shared→Prop}(ho:s.heap.get? it=some o)(hc:o.cls = .type n)(hd:o.data = .fields vs)
  (hn:["enumerate","zip","dict_itemiterator","dict_reverseitemiterator","odict_iterator","itertools.zip_longest","itertools.pairwise"].contains n=false) (hQ:Q () s):wpAny M A (letOwnedTupleGo tg (.ref it) u) Q E s:=by
 unfold letOwnedTupleGo
 cases tg<;>first
  | exact wpAny_pure hQ
  | (cases u<;>first
    | exact wpAny_pure hQ
    | (refine wpAny_bind (wpAny_load ho ?_);rw [hc,hd];show wpAny M A (if (["enumerate","zip","dict_itemiterator","dict_reverseitemiterator","odict_iterator","itertools.zip_longest","itertools.pairwise"].contains n&&vs[0]? == some (rawInt _))=true then _ else _) Q E s;rw [if_neg (by intro h;rw [hn,Bool.false_and] at h;cases h)];exact wpAny_pure hQ))
def Itl (K:zF)(a:Addr):It :=
 ⟨fun i H=>∃ xs x,SqL K H a xs∧xs[i]? = some x,fun i H x H'=>H'=H∧∀ xs,SqL K H a xs→xs[i]? = some x,fun i H=>∃ xs,SqL K H a xs∧xs.length≤i⟩
def Itt (K:zF)(a:Addr):It :=
 ⟨fun i H=>∃ xs x,SqT K H a xs∧xs[i]? = some x,fun i H x H'=>H'=H∧∀ xs,SqT K H a xs→xs[i]? = some x,fun i H=>∃ xs,SqT K H a xs∧xs.length≤i⟩
def Itr (lo:Int)(n:Nat):It:=⟨fun i _=>i < n,fun i H x H'=>H'=H∧x = .int (lo+i),fun i _=>n≤i⟩
theorem turn_list {P:Program}{w:World}{K:zF}{tg:Expr}(a it:Addr):Turn P w K tg (Itl K a) [it] it (fun i h=>h.IsListIter it a i) where
 mem:=by simp
 obj:=fun i h st b hb=>by
  have e:b=it:=by simpa using hb
  subst e;obtain ⟨o,e,c,d⟩:=st
  exact ⟨o,e,fun v z=>by rw [d] at z;cases z⟩
 keep:=fun i h h' st k=>st.at fun o e=>k it (by simp) o e
 item:=by
  intro X hP hw hK hc i pins s σ H E I hf st hg
  subst hP hw hK
  obtain ⟨xs,x,hq,hx⟩:=hg
  obtain ⟨its,rv,p,hz⟩:=I.list hq
  obtain ⟨u,hu,ru⟩:=rv.get hx
  obtain ⟨f0,f1,f2,f3,f4,f5⟩:=hf it (by simp)
  refine wpAny_pyNext_list_item st p.isList (x:=u) (by simpa using hu) fun h' st' sb=>?_
  have I1:Inv X pins σ H {s with heap:=h'}:=I.turned (t':=s.toks) (fun b o hb e=>(sb.2 b hb).trans e) f0 f1 f3 f4 f5
  obtain ⟨o,e,c,d⟩:=id st'
  exact ⟨u,rfl,go_of (s:={s with heap:=h'}) e c d (by decide) ⟨x,H,I1,ru,⟨rfl,fun ys hy=>by rw [I.list_inj hy hq];exact hx⟩,st',fun b hb=>(hf b hb).1⟩⟩
 done:=by
  intro X hP hw hK hc i pins s σ H E I hf st hg
  subst hP hw hK
  obtain ⟨xs,hq,hx⟩:=hg
  obtain ⟨its,rv,p,hz⟩:=I.list hq
  obtain ⟨f0,f1,f2,f3,f4,f5⟩:=hf it (by simp)
  have hl:=rv.length
  exact wpAny_pyNext_list_end (I.ok.hd hc) st p.isList (by simp;omega) fun h' eb=>⟨rfl,I.turned (t':=s.toks) (fun b o hb e=>eb b o hb e) f0 f1 f3 f4 f5⟩
 self:=fun _ _ _ _ _ st h=>wpAny_pyIter_listiter st h
theorem turn_tuple {P:Program}{w:World}{K:zF}{tg:Expr}(a it:Addr):Turn P w K tg (Itt K a) [it] it (fun i h=>h.IsTupleIter it a i) where
 mem:=by simp
 obj:=fun i h st b hb=>by
  have e:b=it:=by simpa using hb
  subst e;obtain ⟨o,e,c,d⟩:=st
  exact ⟨o,e,fun v z=>by rw [d] at z;cases z⟩
 keep:=fun i h h' st k=>st.at fun o e=>k it (by simp) o e
 item:=by
  intro X hP hw hK hc i pins s σ H E I hf st hg
  subst hP hw hK
  obtain ⟨xs,x,hq,hx⟩:=hg
  obtain ⟨its,rv,p,hz⟩:=I.tuple hq
  obtain ⟨u,hu,ru⟩:=rv.get hx
  obtain ⟨f0,f1,f2,f3,f4,f5⟩:=hf it (by simp)
  refine wpAny_pyNext_tuple_item st (show s.heap.IsTuple a its.toArray from p) (x:=u) (by simpa using hu) fun h' st' sb=>?_
  have I1:Inv X pins σ H {s with heap:=h'}:=I.turned (t':=s.toks) (fun b o hb e=>(sb.2 b hb).trans e) f0 f1 f3 f4 f5
  obtain ⟨o,e,c,d⟩:=id st'
  exact ⟨u,rfl,go_of (s:={s with heap:=h'}) e c d (by decide) ⟨x,H,I1,ru,⟨rfl,fun ys hy=>by rw [I.tuple_inj hy hq];exact hx⟩,st',fun b hb=>(hf b hb).1⟩⟩
 done:=by
  intro X hP hw hK hc i pins s σ H E I hf st hg
  subst hP hw hK
  obtain ⟨xs,hq,hx⟩:=hg
  obtain ⟨its,rv,p,hz⟩:=I.tuple hq
  obtain ⟨f0,f1,f2,f3,f4,f5⟩:=hf it (by simp)
  have hl:=rv.length
  exact wpAny_pyNext_tuple_end (I.ok.hd hc) st (show s.heap.IsTuple a its.toArray from p) (by simp;omega) fun h' eb=>⟨rfl,I.turned (t':=s.toks) (fun b o hb e=>eb b o hb e) f0 f1 f3 f4 f5⟩
 self:=fun _ _ _ _ _ st h=>wpAny_pyIter_tupleiter st h
theorem turn_range {P:Program}{w:World}{K:zF}{tg:Expr}(it:Addr)(lo:Int)(n:Nat):Turn P w K tg (Itr lo n) [it] it (fun i h=>IsRangeIter h it (lo+(i:Nat) * 1) ((n:Int) - (i:Nat)) 1) where
 mem:=by simp
 obj:=fun i h st b hb=>by
  have e:b=it:=by simpa using hb
  subst e;exact ⟨_,st,fun v z=>by
   have z':Data.fields _=Data.cell v:=z
   cases z'⟩
 keep:=fun i h h' st k=>k it (by simp) _ st
 item:=by
  intro X hP hw hK hc i pins s σ H E I hf st hg
  subst hP hw hK
  obtain ⟨f0,f1,f2,f3,f4,f5⟩:=hf it (by simp)
  have W:=Walks.range (prog:=X.prog) (w:=X.w) (I.ok.hd hc) it lo 1 n
  refine W.item i s _ _ hg st fun v h' tk hv st' kk=>?_
  obtain ⟨t,rfl⟩:=hv
  have I1:Inv X pins σ H {s with heap:=h',toks:=tk}:=I.turned (fun b o hb e=>kk b o (by simpa using hb) e) f0 f1 f3 f4 f5
  refine ⟨_,rfl,go_of (s:={s with heap:=h',toks:=tk}) (n:="range_iterator") st' rfl rfl (by decide) ⟨.int (lo+i),H,I1,⟨t,?_⟩,⟨rfl,rfl⟩,st',fun b hb=>(hf b hb).1⟩⟩
  rw [Int.mul_one]
 done:=by
  intro X hP hw hK hc i pins s σ H E I hf st hg
  subst hP hw hK
  obtain ⟨f0,f1,f2,f3,f4,f5⟩:=hf it (by simp)
  exact wpAny_pyNext_range_end (I.ok.hd hc) st (by have:n≤i:=hg;omega) fun h' eb=>⟨rfl,I.turned (t':=s.toks) (fun b o hb e=>eb b o hb e) f0 f1 f3 f4 f5⟩
 self:=fun _ _ _ _ _ st h=>wpAny_pyIter_rangeiter st h
end L2
namespace L2
open PySem PySem.Spec PyProof.Rows
section
variable {X:Cx}{tg:Expr}
def iList (K:zF)(tl:TE):TI:=fun σ H R=>tl σ H fun x H1=>∃ a,x = .ref a∧(∃ xs,SqL K H1 a xs)∧R (Itl K a) H1
def iTup (K:zF)(tl:TE):TI:=fun σ H R=>tl σ H fun x H1=>∃ a,x = .ref a∧(∃ xs,SqT K H1 a xs)∧R (Itt K a) H1
theorem pi_list {l:Expr}{tl:TE}(hl:PE X l tl):PI X tg l (iList X.K tl):=by
 intro pins s σ H R I h
 refine xE (hl pins s σ H _ I h) fun v s1 ⟨x,H1,I1,r1,q1⟩=>?_
 obtain ⟨a,e,⟨xs,hq⟩,q⟩:=q1
 subst e;cases r1;obtain ⟨its,rv,p,hz⟩:=I1.list hq
 refine wpAny_pyIter_list p.isList ?_
 refine ⟨s1.heap.objs.size,[s1.heap.objs.size],_,_,H1,rfl,I1.kept (t':=s1.toks) fun b o e=>Heap.get?_push_of_some _ e,turn_list a _,⟨_,Heap.get?_push_size _ rfl,rfl,rfl⟩,fun b hb=>?_,q⟩
 have e:b=s1.heap.objs.size:=by simpa using hb
 subst e;exact I1.fpOk (Nat.le_refl _) (I1.hok.fresh (Nat.le_refl _))
theorem pi_tup {l:Expr}{tl:TE}(hl:PE X l tl):PI X tg l (iTup X.K tl):=by
 intro pins s σ H R I h
 refine xE (hl pins s σ H _ I h) fun v s1 ⟨x,H1,I1,r1,q1⟩=>?_
 obtain ⟨a,e,⟨xs,hq⟩,q⟩:=q1
 subst e;cases r1;obtain ⟨its,rv,p,hz⟩:=I1.tuple hq
 refine wpAny_pyIter_tuple (show s1.heap.IsTuple a its.toArray from p) ?_
 refine ⟨s1.heap.objs.size,[s1.heap.objs.size],_,_,H1,rfl,I1.kept (t':=s1.toks) fun b o e=>Heap.get?_push_of_some _ e,turn_tuple a _,⟨_,Heap.get?_push_size _ rfl,rfl,rfl⟩,fun b hb=>?_,q⟩
 have e:b=s1.heap.objs.size:=by simpa using hb
 subst e;exact I1.fpOk (Nat.le_refl _) (I1.hok.fresh (Nat.le_refl _))
theorem range_it {pins:List (Addr×Obj)}{σ:St}{H:Hp}{s:Shared}{R:It→Hp→Prop}{E:Value→Shared→Prop}{lo hi:Int}{t u v:Tok}{tk:Nat}(I:Inv X pins σ H s)(h1 : -(2 ^ 62)≤lo)(h2:lo < 2 ^ 62)(h3 : -(2 ^ 62)≤hi)(h4:hi < 2 ^ 62)
  (q:R (Itr lo (hi - lo).toNat) H):wpAny (model X.prog X.w) X.A (pyIter (.ref s.heap.objs.size)) (PIE X pins σ tg R) E {s with heap:=s.heap.push {cls:=.type "range",data:=.fields #[.int lo t,.int hi u,.int 1 v]},toks:=tk}:=by
 refine wpAny_pyIter_range (IsRange.new ..) (small_one h1 h2 h3 h4) ?_
 have I1:Inv X pins σ H {s with heap:=s.heap.push {cls:=.type "range",data:=.fields #[.int lo t,.int hi u,.int 1 v]},toks:=tk}:=I.kept fun b o e=>Heap.get?_push_of_some _ e
 refine ⟨(s.heap.push {cls:=.type "range",data:=.fields #[.int lo t,.int hi u,.int 1 v]}).objs.size,[(s.heap.push {cls:=.type "range",data:=.fields #[.int lo t,.int hi u,.int 1 v]}).objs.size],_,_,H,rfl,
  I1.kept (t':=tk) fun b o e=>Heap.get?_push_of_some _ e,turn_range _ lo (hi - lo).toNat,?_,fun b hb=>?_,q⟩
 ·have e1:lo+((0:Nat):Int) * 1=lo:=by simp
  have e2:(((hi - lo).toNat:Nat):Int) - ((0:Nat):Int)=Builtin.Range.rangeSize lo hi 1:=by rw [rangeSize_one];split<;>omega
  show IsRangeIter _ _ (lo+((0:Nat):Int) * 1) ((((hi - lo).toNat:Nat):Int) - ((0:Nat):Int)) 1
  rw [e1,e2];exact Heap.get?_push_size _ rfl
 ·have e:b=(s.heap.push {cls:=.type "range",data:=.fields #[.int lo t,.int hi u,.int 1 v]}).objs.size:=by simpa using hb
  subst e;exact I1.fpOk (Nat.le_refl _) (I1.hok.fresh (Nat.le_refl _))
def iRng2 (ta:TA):TI:=fun σ H R=>ta σ H fun vs H1=>∃ i j:Int,vs=[.int i,.int j]∧(-(2 ^ 62)≤i∧i < 2 ^ 62∧-(2 ^ 62)≤j∧j < 2 ^ 62)∧R (Itr i (j - i).toNat) H1
theorem pi_range2 {a b:Expr}{ta:TA}{p pos:Pos}(hg:Gl X "range")(hm:X.mg "range"=none)(ha:PA X [a,b] ta)(hs:starEach [a,b] X.env=[(false,eval a X.env),(false,eval b X.env)]:=by rfl)(hs2:starEach [b] X.env=[(false,eval b X.env)]:=by rfl) :
  PI X tg (.Call (.Name "range" p) [a,b] [] pos) (iRng2 ta):=by
 intro pins s σ H R I h
 refine Call_ (uY I hg hm boot_range (PyProof.Rows.callWith_type1 (xE (ha pos pins s σ H _ I h) fun us s1 ⟨vs,H1,I1,r1,q1⟩=>?_) (by rw [hs,hs2]) (by rw [hs2];rfl)))
 obtain ⟨i,j,e,⟨q1,q2,q3,q4⟩,q⟩:=q1
 subst e
 cases r1 with
 | cons r rr =>
  cases rr with
  | cons r' rr =>
   cases rr;obtain ⟨t,rfl⟩:=r
   obtain ⟨t',rfl⟩:=r'
   exact call_range_2 (range_it I1 q1 q2 q3 q4 q)
def tFor (wi:TI)(g:TG)(tb:TS):TS:=fun D σ H=>wi σ H fun J H1=>∃ W:Nat→Nat→St→Hp→Prop,(∃ m,W 0 m σ H1)∧∀ i m σ H,W i m σ H →
 (J.stop i H∧D.nx σ H)∨(J.go i H∧∃ N:St→Hp→Prop,(∀ σ' H',N σ' H'→∃ m',m' < m∧W (i+1) m' σ' H')∧∀ x H',J.yld i H x H'→g x σ H' fun σ2 H2=>tb {D with nx:=N,ct:=N,bk:=D.nx} σ2 H2)
def pinsAt (fp:List Addr)(h:Heap):List (Addr×Obj):=fp.filterMap fun b=>(h.get? b).map fun o=>(b,o)
theorem tQ {fp:List Addr}{h:Heap}{b:Addr}{o:Obj}(hb:b∈fp)(e:h.get? b=some o):(b,o)∈pinsAt fp h:=List.mem_filterMap.mpr ⟨b,hb,by rw [e];rfl⟩
theorem of_pinsAt {fp:List Addr}{h:Heap}{p:Addr×Obj}(hp:p∈pinsAt fp h):p.1∈fp∧h.get? p.1=some p.2:=by
 obtain ⟨b,hb,e⟩:=List.mem_filterMap.mp hp
 cases q:h.get? b with
 | none=>rw [q] at e;cases e
 | some o =>
  rw [q] at e;have e':(b,o)=p:=Option.some.inj e
  subst e'
  exact ⟨hb,q⟩
theorem Inv.pinned {pins:List (Addr×Obj)}{σ:St}{H:Hp}{s:Shared}{fp:List Addr}(I:Inv X pins σ H s)(hf:∀ b∈fp,FpOk X pins H b)(ho:∀ b∈fp,∃ o,s.heap.get? b=some o∧∀ v,o.data≠.cell v):Inv X (pins++pinsAt fp s.heap) σ H s :=
 I.pins_of fun p hp=>(List.mem_append.mp hp).elim (fun z=>I.pin p (List.mem_append_right _ z)) fun z=>by
  obtain ⟨hb,e⟩:=of_pinsAt z
  obtain ⟨f0,f1,f2,_⟩:=hf p.1 hb
  obtain ⟨o,e',d⟩:=ho p.1 hb
  rw [e] at e';cases e'
  exact ⟨e,f0,f1,f2,d⟩
theorem Inv.unpinned {pins pl:List (Addr×Obj)}{σ:St}{H:Hp}{s:Shared}(I:Inv X (pins++pl) σ H s):Inv X pins σ H s:=I.pins_of fun p hp=>I.pin p (List.mem_append_right _ (List.mem_append_left _ hp))
theorem xH {iter:Expr}{body:List Stmt}{wi:TI}{g:TG}{tb:TS}{pos:Pos}(hp:PassesOwn (model X.prog X.w) X.A X.env X.xe)(hc:X.calm=true)(hi:PI X tg iter wi)(hg:PG X tg g)(hb:PSs X body tb)
  (hs:∀ x,foldedSetIterable iter X.env x=pure x:=by intro _;rfl):PS X (.For tg iter body [] pos) (tFor wi g tb):=by
 intro pins s σ H D I h
 refine wpAny_For (xE (hi pins s σ H _ I h) fun v s1 h1=>xE h1 fun itv s2 h2=>?_) hs
 obtain ⟨it,fp,tn,J,H2,e,I2,T,st2,f2,W,⟨m0,w0⟩,turn⟩:=h2
 subst e;have stat:∀ {H':Hp},(∀ b∈fp,H' b=none)→∀ b∈fp,FpOk X pins H' b:=fun hn b hb=>⟨hn b hb,(f2 b hb).2⟩
 refine codeAny_forLoop_any (fun n s'=>∃ i σ' H',Inv X pins σ' H' s'∧tn i s'.heap∧(∀ b∈fp,H' b=none)∧W i n σ' H') ?_ m0 ⟨0,σ,H2,I2,st2,fun b hb=>(f2 b hb).1,w0⟩
 rintro n s3 ⟨i,σ3,H3,I3,st3,fr3,w3⟩
 rcases turn i n σ3 H3 w3 with ⟨stop,qn⟩ | ⟨go,N,hN,step⟩
 ·refine wpAny_passesOwn hp (xE (T.done X rfl rfl rfl hc i pins s3 σ3 H3 X.xe I3 (stat fr3) st3 stop) fun r s4 ⟨hr,I4⟩=>?_)
  subst hr;exact wpAny_execs_nil ⟨σ3,H3,I4,qn⟩
 ·refine wpAny_passesOwn hp (xE (T.item X rfl rfl rfl hc i pins s3 σ3 H3 X.xe I3 (stat fr3) st3 go) fun r s4 ⟨u,hr,h4⟩=>?_)
  subst hr;refine wpAny_passesOwn hp (xE h4 fun _ s5 ⟨x,H5,I5,r5,y5,st5,fr5⟩=>?_)
  have I5':=I5.pinned (stat fr5) (T.obj _ _ st5)
  refine wpAny_passesOwn hp (xE (hg _ s5 σ3 H5 x u _ I5' r5 (step x H5 y5)) fun _ s6 ⟨σ6,H6,I6,q6⟩=>?_)
  refine wpAny_passesOwn hp (xE (hb _ s6 σ6 H6 _ I6 q6) fun f s7 q7=>?_)
  have again:∀ {σ7:St} {H7:Hp},Inv X (pins++pinsAt fp s5.heap) σ7 H7 s7→N σ7 H7→∃ m,m < n∧∃ i σ' H',Inv X pins σ' H' s7∧tn i s7.heap∧(∀ b∈fp,H' b=none)∧W i m σ' H':=fun {σ7 H7} I7 n7=>by
   obtain ⟨m',hm,w7⟩:=hN σ7 H7 n7
   refine ⟨m',hm,i+1,σ7,H7,I7.unpinned,T.keep _ _ _ st5 fun b hb o e=>(I7.pin (b,o) (List.mem_append_right _ (List.mem_append_right _ (tQ hb e)))).1,fun b hb=>?_,w7⟩
   obtain ⟨o,e,d⟩:=T.obj _ _ st5 b hb
   exact (I7.pin (b,o) (List.mem_append_right _ (List.mem_append_right _ (tQ hb e)))).2.1
  cases f with
  | next=>obtain ⟨σ7,H7,I7,n7⟩:=q7;exact again I7 n7
  | cont=>obtain ⟨σ7,H7,I7,n7⟩:=q7;exact again I7 n7
  | brk=>obtain ⟨σ7,H7,I7,q7⟩:=q7;exact ⟨σ7,H7,I7.unpinned,q7⟩
  | ret v=>obtain ⟨x7,σ7,H7,I7,r7,q7⟩:=q7;exact ⟨x7,σ7,H7,I7.unpinned,r7,q7⟩
end
theorem wC {K:zF}{a:Addr}{xs:List V}{g:TG}{tb:TS}{D:t9}{σ:St}{H:Hp}(Pv:Nat→St→Hp→Prop)(h0:Pv 0 σ H)(hl:∀ i σ H,i≤xs.length→Pv i σ H→SqL K H a xs)
  (hs:∀ i x σ H,xs[i]? = some x→Pv i σ H→g x σ H fun σ2 H2=>tb {D with nx:=Pv (i+1),ct:=Pv (i+1),bk:=D.nx} σ2 H2) (hd:∀ σ H,Pv xs.length σ H→D.nx σ H) :
  ∃ W:Nat→Nat→St→Hp→Prop,(∃ m,W 0 m σ H)∧∀ i m σ H,W i m σ H →
   ((Itl K a).stop i H∧D.nx σ H)∨((Itl K a).go i H∧∃ N:St→Hp→Prop,(∀ σ' H',N σ' H'→∃ m',m' < m∧W (i+1) m' σ' H')∧∀ x H',(Itl K a).yld i H x H'→g x σ H' fun σ2 H2=>tb {D with nx:=N,ct:=N,bk:=D.nx} σ2 H2):=by
 refine ⟨fun i m σ H=>m=xs.length - i∧i≤xs.length∧Pv i σ H,⟨xs.length,by simp,Nat.zero_le _,h0⟩,?_⟩
 rintro i m σ H ⟨rfl,hi,p⟩
 have q:=hl i σ H hi p
 by_cases hlt:i < xs.length
 ·refine .inr ⟨⟨xs,xs[i],q,by simp [hlt]⟩,Pv (i+1),fun σ' H' p'=>⟨xs.length - (i+1),by omega,rfl,hlt,p'⟩,fun x H' y=>?_⟩
  obtain ⟨e,y⟩:=y
  subst e;exact hs i x σ _ (y xs q) p
 ·have e:i=xs.length:=by omega
  subst e;exact .inl ⟨⟨xs,q,Nat.le_refl _⟩,hd σ H p⟩
theorem for_tup {K:zF}{a:Addr}{xs:List V}{g:TG}{tb:TS}{D:t9}{σ:St}{H:Hp}(Pv:Nat→St→Hp→Prop)(h0:Pv 0 σ H)(hl:∀ i σ H,i≤xs.length→Pv i σ H→SqT K H a xs)
  (hs:∀ i x σ H,xs[i]? = some x→Pv i σ H→g x σ H fun σ2 H2=>tb {D with nx:=Pv (i+1),ct:=Pv (i+1),bk:=D.nx} σ2 H2) (hd:∀ σ H,Pv xs.length σ H→D.nx σ H) :
  ∃ W:Nat→Nat→St→Hp→Prop,(∃ m,W 0 m σ H)∧∀ i m σ H,W i m σ H →
   ((Itt K a).stop i H∧D.nx σ H)∨((Itt K a).go i H∧∃ N:St→Hp→Prop,(∀ σ' H',N σ' H'→∃ m',m' < m∧W (i+1) m' σ' H')∧∀ x H',(Itt K a).yld i H x H'→g x σ H' fun σ2 H2=>tb {D with nx:=N,ct:=N,bk:=D.nx} σ2 H2):=by
 refine ⟨fun i m σ H=>m=xs.length - i∧i≤xs.length∧Pv i σ H,⟨xs.length,by simp,Nat.zero_le _,h0⟩,?_⟩
 rintro i m σ H ⟨rfl,hi,p⟩
 have q:=hl i σ H hi p
 by_cases hlt:i < xs.length
 ·refine .inr ⟨⟨xs,xs[i],q,by simp [hlt]⟩,Pv (i+1),fun σ' H' p'=>⟨xs.length - (i+1),by omega,rfl,hlt,p'⟩,fun x H' y=>?_⟩
  obtain ⟨e,y⟩:=y
  subst e;exact hs i x σ _ (y xs q) p
 ·have e:i=xs.length:=by omega
  subst e;exact .inl ⟨⟨xs,q,Nat.le_refl _⟩,hd σ H p⟩
theorem for_range {lo:Int}{n:Nat}{g:TG}{tb:TS}{D:t9}{σ:St}{H:Hp}(Pv:Nat→St→Hp→Prop)(h0:Pv 0 σ H)
  (hs:∀ i σ H,i < n→Pv i σ H→g (.int (lo+i)) σ H fun σ2 H2=>tb {D with nx:=Pv (i+1),ct:=Pv (i+1),bk:=D.nx} σ2 H2) (hd:∀ σ H,Pv n σ H→D.nx σ H) :
  ∃ W:Nat→Nat→St→Hp→Prop,(∃ m,W 0 m σ H)∧∀ i m σ H,W i m σ H →
   ((Itr lo n).stop i H∧D.nx σ H)∨((Itr lo n).go i H∧∃ N:St→Hp→Prop,(∀ σ' H',N σ' H'→∃ m',m' < m∧W (i+1) m' σ' H')∧∀ x H',(Itr lo n).yld i H x H'→g x σ H' fun σ2 H2=>tb {D with nx:=N,ct:=N,bk:=D.nx} σ2 H2):=by
 refine ⟨fun i m σ H=>m=n - i∧i≤n∧Pv i σ H,⟨n,by simp,Nat.zero_le _,h0⟩,?_⟩
 rintro i m σ H ⟨rfl,hi,p⟩
 by_cases hlt:i < n
 ·refine .inr ⟨hlt,Pv (i+1),fun σ' H' p'=>⟨n - (i+1),by omega,rfl,hlt,p'⟩,fun x H' y=>?_⟩
  obtain ⟨e,y⟩:=y
  subst e y
  exact hs i σ _ hlt p
 ·have e:i=n:=by omega
  subst e;exact .inl ⟨Nat.le_refl _,hd σ H p⟩
end L2
namespace L2
open PySem PySem.Spec PyProof.Rows
abbrev R2 :=V→V→Hp→VK→Prop
def tW (X:Cx)(f:Value→Value→Sem Value)(r:R2):Prop :=
 ∀ (pins:List (Addr×Obj)) (s:Shared) (σ:St) (H:Hp) (x y:V) (v u:Value) (Q:VK),Inv X pins σ H s→RelV x v→RelV y u→r x y H Q →
  wpAny (model X.prog X.w) X.A (f v u) (EP X pins σ Q) X.xe s
def UnR (X:Cx)(f:Value→Sem Value)(r:V→Hp→VK→Prop):Prop :=
 ∀ (pins:List (Addr×Obj)) (s:Shared) (σ:St) (H:Hp) (x:V) (v:Value) (Q:VK),Inv X pins σ H s→RelV x v→r x H Q →
  wpAny (model X.prog X.w) X.A (f v) (EP X pins σ Q) X.xe s
def vC (X:Cx)(f:Value)(r:List V→Hp→VK→Prop):Prop :=
 ∀ (pins:List (Addr×Obj)) (s:Shared) (σ:St) (H:Hp) (xs:List V) (us:List Value) (Q:VK),Inv X pins σ H s→Vals xs us→r xs H Q →
  wpAny (model X.prog X.w) X.A (call f us) (EP X pins σ Q) X.xe s
def tOp (r:R2)(ta tb:TE):TE:=fun σ H Q=>ta σ H fun x H1=>tb σ H1 fun y H2=>r x y H2 Q
def tUn (r:V→Hp→VK→Prop)(ta:TE):TE:=fun σ H Q=>ta σ H fun x H1=>r x H1 Q
def rI (C:Int→Int→Prop)(g:Int→Int→V):R2:=fun x y H Q=>∃ i j,x = .int i∧y = .int j∧C i j∧Q (g i j) H
def rI0 (g:Int→Int→V):R2:=fun x y H Q=>∃ i j,x = .int i∧y = .int j∧Q (g i j) H
def rU (g:Int→V):V→Hp→VK→Prop:=fun x H Q=>∃ i,x = .int i∧Q (g i) H
section
variable {X:Cx}{a b c:Expr}{ta tb tc:TE}{pos:Pos}
theorem binT (ha:PE X a ta)(hb:PE X b tb){pins:List (Addr×Obj)}{s:Shared}{σ:St}{H:Hp}{R:V→V→Hp→Prop}(I:Inv X pins σ H s)
  (h:ta σ H fun x H1=>tb σ H1 fun y H2=>R x y H2) {Q:Value→Shared→Prop} {f:Value→Value→Sem Value}
  (hf:∀ v u s2 x y H2,Inv X pins σ H2 s2→RelV x v→RelV y u→R x y H2→wpAny (model X.prog X.w) X.A (f v u) Q X.xe s2) :
  wpAny (model X.prog X.w) X.A (eval a X.env) (fun v s₁=>wpAny (model X.prog X.w) X.A (eval b X.env) (fun u s₂=>wpAny (model X.prog X.w) X.A (f v u) Q X.xe s₂) X.xe s₁) X.xe s:=by
 refine xE (ha pins s σ H _ I h) fun v s1 ⟨x,H1,I1,r1,q1⟩=>?_
 refine xE (hb pins s1 σ H1 _ I1 q1) fun u s2 ⟨y,H2,I2,r2,q2⟩=>?_
 exact hf v u s2 x y H2 I2 r1 r2 q2
theorem yG {op:Operator}{r:R2}(ho:tW X (binaryOp op) r)(ha:PE X a ta)(hb:PE X b tb):PE X (.BinOp a op b pos) (tOp r ta tb):=by
 intro pins s σ H Q I h
 exact wpAny_BinOp (binT ha hb I h fun v u s2 x y H2 I2 rx ry q=>ho pins s2 σ H2 x y v u Q I2 rx ry q)
theorem pe_un {op:UnaryOp}{r:V→Hp→VK→Prop}(ho:UnR X (unaryOp op) r)(ha:PE X a ta):PE X (.UnaryOp op a pos) (tUn r ta):=by
 intro pins s σ H Q I h
 exact UnaryOp_ (xE (ha pins s σ H _ I h) fun v s1 ⟨x,H1,I1,r1,q1⟩=>ho pins s1 σ H1 x v Q I1 r1 q1)
theorem opI {f:Value→Value→Sem Value}{C:Int→Int→Prop}{g:Int→Int→Int}
  (rule:∀ (i j:Int) (t u:Tok) (s:Shared) (Q:Value→Shared→Prop) (E:Value→Shared→Prop),C i j→Q (.int (g i j) s.toks) {s with toks:=s.toks+1}→wpAny (model X.prog X.w) X.A (f (.int i t) (.int j u)) Q E s) :
  tW X f (rI C fun i j=>.int (g i j)):=by
 intro pins s σ H x y v u Q I rx ry h
 obtain ⟨i,j,rfl,rfl,hc,q⟩:=h
 obtain ⟨t,rfl⟩:=rx
 obtain ⟨t',rfl⟩:=ry
 exact rule i j t t' s _ _ hc ⟨.int (g i j),H,I.tok _,⟨_,rfl⟩,q⟩
theorem opI0 {f:Value→Value→Sem Value}{g:Int→Int→Int}
  (rule:∀ (i j:Int) (t u:Tok) (s:Shared) (Q:Value→Shared→Prop) (E:Value→Shared→Prop),Q (.int (g i j) s.toks) {s with toks:=s.toks+1}→wpAny (model X.prog X.w) X.A (f (.int i t) (.int j u)) Q E s) :
  tW X f (rI0 fun i j=>.int (g i j)):=by
 intro pins s σ H x y v u Q I rx ry h
 obtain ⟨i,j,rfl,rfl,q⟩:=h
 obtain ⟨t,rfl⟩:=rx
 obtain ⟨t',rfl⟩:=ry
 exact rule i j t t' s _ _ ⟨.int (g i j),H,I.tok _,⟨_,rfl⟩,q⟩
theorem opB0 {f:Value→Value→Sem Value}{g:Int→Int→Bool}
  (rule:∀ (i j:Int) (t u:Tok) (s:Shared) (Q:Value→Shared→Prop) (E:Value→Shared→Prop),Q (.bool (g i j)) s→wpAny (model X.prog X.w) X.A (f (.int i t) (.int j u)) Q E s) :
  tW X f (rI0 fun i j=>.bl (g i j)):=by
 intro pins s σ H x y v u Q I rx ry h
 obtain ⟨i,j,rfl,rfl,q⟩:=h
 obtain ⟨t,rfl⟩:=rx
 obtain ⟨t',rfl⟩:=ry
 exact rule i j t t' s _ _ ⟨.bl (g i j),H,I,rfl,q⟩
def CDiv (i j:Int):Prop:=0 < j∧j < 1073741824
def CMul (i j:Int):Prop:=(-(2 ^ 64) < i∧i < 2 ^ 64)∨(-(2 ^ 64) < j∧j < 2 ^ 64)
theorem CMul.ok {i j:Int}(h:CMul i j):IntMulOk i j:=by
 rcases h with ⟨h1,h2⟩ | ⟨h1,h2⟩
 ·exact .of_left (intBits_le_64 h1 h2)
 ·exact .of_right (intBits_le_64 h1 h2)
theorem two_pow_nn (k:Nat):(0:Int)≤2 ^ k:=by
 rw [two_pow_cast];exact Int.natCast_nonneg _
theorem vJ : tW X (binaryOp .Add) (rI0 fun i j=>.int (i+j)):=opI0 fun _ _ _ _ _ _ _ q=>add_int q
theorem wQ : tW X (binaryOp .Sub) (rI0 fun i j=>.int (i - j)):=opI0 fun _ _ _ _ _ _ _ q=>sub_int q
theorem op_mul : tW X (binaryOp .Mult) (rI CMul fun i j=>.int (i * j)):=opI fun _ _ _ _ _ _ _ hc q=>mul_int q hc.ok
theorem op_fdiv : tW X (binaryOp .FloorDiv) (rI CDiv fun i j=>.int (i / j)):=opI fun i j _ _ _ _ _ hc q=>by
 have h1:(0:Int) < j:=hc.1
 have h2:j < 1073741824:=hc.2
 exact floordiv_int (by omega) (by rw [Int.fdiv_eq_ediv_of_nonneg i (by omega)];exact q) (.inl (PyProof.noPylong_small (by omega)))
theorem op_mod : tW X (binaryOp .Mod) (rI (fun _ j=>0 < j) fun i j=>.int (i % j)):=opI fun i j _ _ _ _ _ hc q=>by
 have h1:(0:Int) < j:=hc
 exact mod_int' (by omega) (by rw [Int.fmod_eq_emod_of_nonneg i (by omega)];exact q)
theorem op_shr : tW X (binaryOp .RShift) (rI (fun _ j=>0≤j) fun i j=>.int (i / 2 ^ j.toNat)):=opI fun i j _ _ _ _ _ hc q =>
 rshift_int hc (by rw [Int.fdiv_eq_ediv_of_nonneg i (two_pow_nn _)];exact q)
theorem op_and : tW X (binaryOp .BitAnd) (rI0 fun i j=>.int (Builtin.bitAnd i j)):=opI0 fun _ _ _ _ _ _ _ q=>and_int q
theorem unI {f:Value→Sem Value}{g:Int→Int}
  (rule:∀ (i:Int) (t:Tok) (s:Shared) (Q:Value→Shared→Prop) (E:Value→Shared→Prop),Q (.int (g i) s.toks) {s with toks:=s.toks+1}→wpAny (model X.prog X.w) X.A (f (.int i t)) Q E s) :
  UnR X f (rU fun i=>.int (g i)):=by
 intro pins s σ H x v Q I rx h
 obtain ⟨i,rfl,q⟩:=h
 obtain ⟨t,rfl⟩:=rx
 exact rule i t s _ _ ⟨.int (g i),H,I.tok _,⟨_,rfl⟩,q⟩
theorem un_neg : UnR X (unaryOp .USub) (rU fun i=>.int (-i)):=unI fun _ _ _ _ _ q=>neg_int q
end
def scal : V→V→Bool
 | .non,.non=>true | .non,.int _=>true | .int _,.non=>true | .non,.bl _=>true | .bl _,.non=>true | .non,.str _=>true | .str _,.non=>true
 | .int _,.int _=>true | .bl _,.bl _=>true | .str _,.str _=>true | .byt _,.byt _=>true
 | .int _,.str _=>true | .str _,.int _=>true | .bl _,.str _=>true | .str _,.bl _=>true
 | _,_=>false
def rEq : R2:=fun x y H Q=>scal x y=true∧Q (.bl (decide (x=y))) H
def rNe : R2:=fun x y H Q=>scal x y=true∧Q (.bl (!decide (x=y))) H
theorem dec_int {i j:Int}:decide (V.int i=V.int j)=(i==j):=by
 rw [Bool.eq_iff_iff];simp
theorem dec_bl {i j:Bool}:decide (V.bl i=V.bl j)=(i==j):=by
 rw [Bool.eq_iff_iff];simp
theorem dec_str {i j:Str}:decide (V.str i=V.str j)=(i==j):=by
 rw [Bool.eq_iff_iff];simp
theorem dec_byt {i j:Array UInt8}:decide (V.byt i=V.byt j)=(i.toList==j.toList):=by
 rw [Bool.eq_iff_iff];cases i;cases j;simp
section
variable {X:Cx}{a b c:Expr}{ta tb tc:TE}{pos:Pos}
theorem yN {pins:List (Addr×Obj)}{σ:St}{H:Hp}{s:Shared}{Q:VK}{k k':Bool}(I:Inv X pins σ H s)(q:Q (.bl k) H)(e:k=k'):EP X pins σ Q (.bool k') s:=by
 subst e;exact ⟨.bl k,H,I,rfl,q⟩
theorem yH : tW X (compareOp .Eq) rEq:=by
 intro pins s σ H x y v u Q I rx ry h
 obtain ⟨hs,q⟩:=h
 cases x with
 | non =>
  cases rx
  cases y with
  | non=>cases ry;exact PySem.EqNone.eq_none_none (yN I q (by simp))
  | bl j=>cases ry;exact PySem.EqNone.eq_none_bool (yN I q (by simp))
  | int j=>obtain ⟨t',rfl⟩:=ry;exact PySem.EqNone.eq_none_int (yN I q (by simp))
  | str j=>obtain ⟨t',rfl⟩:=ry;exact PySem.EqNone.eq_none_str (yN I q (by simp))
  | _=>exact absurd (show false=true from hs) Bool.false_ne_true
 | bl i =>
  cases rx
  cases y with
  | non=>cases ry;exact PySem.EqNone.eq_bool_none (yN I q (by simp))
  | bl j=>cases ry;exact eq_bool (yN I q dec_bl)
  | str j=>obtain ⟨t',rfl⟩:=ry;exact PySem.EqMixed.eq_bool_str (yN I q (by simp))
  | _=>exact absurd (show false=true from hs) Bool.false_ne_true
 | int i =>
  obtain ⟨t,rfl⟩:=rx
  cases y with
  | non=>cases ry;exact PySem.EqNone.eq_int_none (yN I q (by simp))
  | int j=>obtain ⟨t',rfl⟩:=ry;exact eq_int (yN I q dec_int)
  | str j=>obtain ⟨t',rfl⟩:=ry;exact PySem.EqMixed.eq_int_str (yN I q (by simp))
  | _=>exact absurd (show false=true from hs) Bool.false_ne_true
 | str i =>
  obtain ⟨t,rfl⟩:=rx
  cases y with
  | non=>cases ry;exact PySem.EqNone.eq_str_none (yN I q (by simp))
  | bl j=>cases ry;exact PySem.EqMixed.eq_str_bool (yN I q (by simp))
  | int j=>obtain ⟨t',rfl⟩:=ry;exact PySem.EqMixed.eq_str_int (yN I q (by simp))
  | str j=>obtain ⟨t',rfl⟩:=ry;exact eq_str (yN I q dec_str)
  | _=>exact absurd (show false=true from hs) Bool.false_ne_true
 | byt i =>
  obtain ⟨t,rfl⟩:=rx
  cases y with
  | byt j=>obtain ⟨t',rfl⟩:=ry;exact PySem.W.eq_bytes (yN I q dec_byt)
  | _=>exact absurd (show false=true from hs) Bool.false_ne_true
 | _=>cases y<;>exact absurd (show false=true from hs) Bool.false_ne_true
theorem tH : tW X (compareOp .NotEq) rNe:=by
 intro pins s σ H x y v u Q I rx ry h
 obtain ⟨hs,q⟩:=h
 cases x with
 | non =>
  cases rx
  cases y with
  | non=>cases ry;exact PySem.EqNone.ne_none_none (yN I q (by simp))
  | bl j=>cases ry;exact PySem.EqNone.ne_none_bool (yN I q (by simp))
  | int j=>obtain ⟨t',rfl⟩:=ry;exact PySem.EqNone.ne_none_int (yN I q (by simp))
  | str j=>obtain ⟨t',rfl⟩:=ry;exact PySem.EqNone.ne_none_str (yN I q (by simp))
  | _=>exact absurd (show false=true from hs) Bool.false_ne_true
 | bl i =>
  cases rx
  cases y with
  | non=>cases ry;exact PySem.EqNone.ne_bool_none (yN I q (by simp))
  | bl j=>cases ry;exact ne_bool (yN I q (congrArg not dec_bl))
  | str j=>obtain ⟨t',rfl⟩:=ry;exact PySem.EqMixed.ne_bool_str (yN I q (by simp))
  | _=>exact absurd (show false=true from hs) Bool.false_ne_true
 | int i =>
  obtain ⟨t,rfl⟩:=rx
  cases y with
  | non=>cases ry;exact PySem.EqNone.ne_int_none (yN I q (by simp))
  | int j=>obtain ⟨t',rfl⟩:=ry;exact ne_int (yN I q (congrArg not dec_int))
  | str j=>obtain ⟨t',rfl⟩:=ry;exact PySem.EqMixed.ne_int_str (yN I q (by simp))
  | _=>exact absurd (show false=true from hs) Bool.false_ne_true
 | str i =>
  obtain ⟨t,rfl⟩:=rx
  cases y with
  | non=>cases ry;exact PySem.EqNone.ne_str_none (yN I q (by simp))
  | bl j=>cases ry;exact PySem.EqMixed.ne_str_bool (yN I q (by simp))
  | int j=>obtain ⟨t',rfl⟩:=ry;exact PySem.EqMixed.ne_str_int (yN I q (by simp))
  | str j=>obtain ⟨t',rfl⟩:=ry;exact ne_str (yN I q (congrArg not dec_str))
  | _=>exact absurd (show false=true from hs) Bool.false_ne_true
 | byt i =>
  obtain ⟨t,rfl⟩:=rx
  cases y with
  | byt j=>obtain ⟨t',rfl⟩:=ry;exact PySem.W.ne_bytes (yN I q (congrArg not dec_byt))
  | _=>exact absurd (show false=true from hs) Bool.false_ne_true
 | _=>cases y<;>exact absurd (show false=true from hs) Bool.false_ne_true
theorem op_lt : tW X (compareOp .Lt) (rI0 fun i j=>.bl (decide (i < j))):=opB0 fun _ _ _ _ _ _ _ q=>lt_int q
theorem wJ : tW X (compareOp .LtE) (rI0 fun i j=>.bl (decide (i≤j))):=opB0 fun _ _ _ _ _ _ _ q=>le_int q
theorem w8 : tW X (compareOp .Gt) (rI0 fun i j=>.bl (decide (j < i))):=opB0 fun _ _ _ _ _ _ _ q=>gt_int q
theorem t5 : tW X (compareOp .GtE) (rI0 fun i j=>.bl (decide (j≤i))):=opB0 fun _ _ _ _ _ _ _ q=>ge_int q
theorem op_isN : tW X (compareOp .Is) (fun x y H Q=>y = .non∧Q (.bl (decide (x = .non))) H):=by
 intro pins s σ H x y v u Q I rx ry h
 obtain ⟨rfl,q⟩:=h
 cases ry;refine is_none_gen (yN I q ?_)
 cases x<;>first
  | (cases rx;rfl)
  | (obtain ⟨t,rfl⟩:=rx;rfl)
theorem op_notN : tW X (compareOp .IsNot) (fun x y H Q=>y = .non∧Q (.bl (!decide (x = .non))) H):=by
 intro pins s σ H x y v u Q I rx ry h
 obtain ⟨rfl,q⟩:=h
 cases ry;refine isnot_none_gen (yN I q ?_)
 cases x<;>first
  | (cases rx;rfl)
  | (obtain ⟨t,rfl⟩:=rx;rfl)
theorem zN (b:Expr){op:CmpOp}(h:op≠.In:=by decide)(h2:op≠.NotIn:=by decide):behindInMarks op b=false:=by
 have e1:(op==CmpOp.In)=false:=by cases op<;>first | rfl | exact absurd rfl h
 have e2:(op==CmpOp.NotIn)=false:=by cases op<;>first | rfl | exact absurd rfl h2
 cases b<;>simp [behindInMarks,e1,e2]
theorem yO {op:CmpOp}{r:R2}(ho:tW X (compareOp op) r)(ha:PE X a ta)(hb:PE X b tb)(hm:behindInMarks op b=false):PE X (.Compare a [op] [b] pos) (tOp r ta tb):=by
 intro pins s σ H Q I h
 exact wpAny_Compare1 (binT ha hb I h fun v u s2 x y H2 I2 rx ry q=>ho pins s2 σ H2 x y v u Q I2 rx ry q) hm
def tTest (t:TE):TT:=fun σ H Q=>t σ H fun x H'=>∃ k,x = .bl k∧Q k H'
theorem zP {op:CmpOp}{r:R2}(ho:tW X (compareOp op) r)(ha:PE X a ta)(hb:PE X b tb)(hm:behindInMarks op b=false):PT X (.Compare a [op] [b] pos) (tTest (tOp r ta tb)):=by
 intro pins s σ H Q I h
 refine wpAny_isTrue_Compare1 (xE (ha pins s σ H _ I h) fun v s1 ⟨x,H1,I1,r1,q1⟩=>xE (hb pins s1 σ H1 _ I1 q1) fun u s2 ⟨y,H2,I2,r2,q2⟩ =>
  xE (ho pins s2 σ H2 x y v u _ I2 r1 r2 q2) fun c s3 ⟨z,H3,I3,r3,k,e,q3⟩=>?_) hm
 subst e;cases r3;exact wpAny_truthy_bool ⟨H3,I3,q3⟩
def tChain (r r':R2)(ta tb tc:TE):TE:=fun σ H Q=>ta σ H fun x H1=>tb σ H1 fun y H2=>r x y H2 fun z H3=>∃ k,z = .bl k ∧
 (if k=true then tc σ H3 fun w' H4=>r' y w' H4 Q else Q (.bl false) H3)
theorem pe_chain {op op':CmpOp}{r r':R2}(ho:tW X (compareOp op) r)(ho':tW X (compareOp op') r')(ha:PE X a ta)(hb:PE X b tb)(hc:PE X c tc)
  (hm:lastMarks [op,op'] [b,c]=false:=by with_unfolding_all rfl):PE X (.Compare a [op,op'] [b,c] pos) (tChain r r' ta tb tc):=by
 intro pins s σ H Q I h
 refine Compare_chain (xE (ha pins s σ H _ I h) fun v s1 ⟨x,H1,I1,r1,q1⟩=>chain_link (xE (hb pins s1 σ H1 _ I1 q1) fun u s2 ⟨y,H2,I2,r2,q2⟩ =>
  xE (ho pins s2 σ H2 x y v u _ I2 r1 r2 q2) fun d s3 ⟨z,H3,I3,r3,k,e,q3⟩=>?_)) hm
 subst e;cases r3;refine wpAny_truthy_bool ?_
 cases k with
 | false=>exact ite_ff ⟨.bl false,H3,I3,rfl,q3⟩
 | true=>exact ite_tt (chain_last (xE (hc pins s3 σ H3 _ I3 q3) fun w' s4 ⟨z',H4,I4,r4,q4⟩=>ho' pins s4 σ H4 y z' u w' Q I4 r2 r4 q4))
theorem uQ {op op':CmpOp}{r r':R2}(ho:tW X (compareOp op) r)(ho':tW X (compareOp op') r')(ha:PE X a ta)(hb:PE X b tb)(hc:PE X c tc)
  (hm:lastMarks [op,op'] [b,c]=false:=by with_unfolding_all rfl):PT X (.Compare a [op,op'] [b,c] pos) (tTest (tChain r r' ta tb tc)):=by
 intro pins s σ H Q I h
 refine isTrue_chain (xE (ha pins s σ H _ I h) fun v s1 ⟨x,H1,I1,r1,q1⟩=>test_link (xE (hb pins s1 σ H1 _ I1 q1) fun u s2 ⟨y,H2,I2,r2,q2⟩ =>
  xE (ho pins s2 σ H2 x y v u _ I2 r1 r2 q2) fun d s3 ⟨z,H3,I3,r3,k,e,q3⟩=>?_)) hm
 subst e;cases r3;refine wpAny_truthy_bool ?_
 cases k with
 | false =>
  obtain ⟨k',e',q'⟩:=q3
  cases e'
  exact ite_ff ⟨H3,I3,q'⟩
 | true =>
  refine ite_tt (test_last (xE (hc pins s3 σ H3 _ I3 q3) fun w' s4 ⟨z',H4,I4,r4,q4⟩=>xE (ho' pins s4 σ H4 y z' u w' _ I4 r2 r4 q4) fun d' s5 ⟨z2,H5,I5,r5,k2,e2,q5⟩=>?_))
  subst e2;cases r5;exact wpAny_truthy_bool ⟨H5,I5,q5⟩
theorem tS : (sizeLine:Nat) < 2 ^ 63:=by rw [sizeLine_eq];decide
theorem op_add_str : tW X (binaryOp .Add) (fun x y H Q=>∃ i j,x = .str i∧y = .str j∧i.length+j.length≤sizeLine∧Q (.str (i++j)) H):=by
 intro pins s σ H x y v u Q I rx ry h
 obtain ⟨i,j,rfl,rfl,hz,q⟩:=h
 obtain ⟨t,rfl⟩:=rx
 obtain ⟨t',rfl⟩:=ry
 exact add_str (fun t' tk=>⟨.str (i++j),H,I.tok _,⟨_,rfl⟩,q⟩) hz
theorem vals1 {x:V}{us:List Value}(r:Vals [x] us):∃ u,us=[u]∧RelV x u:=by
 cases r with
 | cons r1 r2=>cases r2;exact ⟨_,rfl,r1⟩
theorem vals2 {x y:V}{us:List Value}(r:Vals [x,y] us):∃ u w',us=[u,w']∧RelV x u∧RelV y w':=by
 cases r with
 | cons r1 r2 =>
  cases r2 with
  | cons r3 r4=>cases r4;exact ⟨_,_,rfl,r1,r3⟩
theorem call_max2 (hc:X.calm=true):vC X (.builtin "max") (fun xs H Q=>∃ i j,xs=[.int i,.int j]∧Q (.int (if j > i then j else i)) H):=by
 intro pins s σ H xs us Q I r h
 obtain ⟨i,j,rfl,q⟩:=h
 obtain ⟨u,w',rfl,⟨t,rfl⟩,⟨t',rfl⟩⟩:=vals2 r
 refine max_two_ints (I.ok.hd hc) fun h' tk k=>⟨_,H,I.kept k,?_,q⟩
 by_cases hj:j > i
 ·rw [if_pos hj,if_pos hj];exact ⟨_,rfl⟩
 ·rw [if_neg hj,if_neg hj];exact ⟨_,rfl⟩
theorem call_ord : vC X (.builtin "ord") (fun xs H Q=>∃ x,xs=[.str x]∧x.length=1∧Q (.int (x.cps.getD 0 0:Nat)) H):=by
 intro pins s σ H xs us Q I r h
 obtain ⟨x,rfl,hz,q⟩:=h
 obtain ⟨u,rfl,t,rfl⟩:=vals1 r
 exact ord_of_one hz ⟨.int _,H,I.tok _,⟨_,rfl⟩,q⟩
end
end L2
namespace L2
open PySem PySem.Spec PyProof.Rows
structure ObjM (h:Heap)(x dx C:Addr)(mA:Str→Option Value):Prop where
 obj : h.get? x=some (PySem.W.instObj C dx)
 ns : h.Ns1 dx mA
 ne : dx≠x
theorem lookIn_ns {h:Heap}{dx:Addr}{mA:Str→Option Value}(n:h.Ns1 dx mA):∃ od,h.get? dx=some od∧∀ name,PySem.W.lookIn name od=some (mA name):=by
 obtain ⟨o,es,ep,ho,hd,hk,_,hm⟩:=n
 refine ⟨o,ho,fun name=>?_⟩
 have e:=hm name
 unfold nsFind findBy at e;rw [← Array.find?_toList] at e;unfold PySem.W.lookIn;rw [hd]
 dsimp only
 split
 ·rename_i y q
  rw [q] at e;exact congrArg some e
 ·rename_i q
  rw [q] at e;have a:es.toList.any (·.refKey)=false:=by
   rw [List.any_eq_false];intro y hy
   obtain ⟨z,t,hkey⟩:=hk y (Array.mem_toList_iff.mp hy)
   simp [DictEntry.refKey,hkey]
  have a':¬ es.toList.any (·.refKey)=true:=by rw [a];exact Bool.false_ne_true
  rw [if_neg a'];exact congrArg some e
theorem ObjM.look {h:Heap}{x dx C:Addr}{mA:Str→Option Value}(I:ObjM h x dx C mA):∃ od,PySem.W.InstAt h x (PySem.W.instObj C dx) C (some od)∧∀ name,PySem.W.lookIn name od=some (mA name) :=
 let ⟨od,ho,hl⟩:=lookIn_ns I.ns
 ⟨od,⟨I.obj,rfl,rfl,ho⟩,hl⟩
section
variable {prog:Program}{w:World}{A:Around}{E:Value→Shared→Prop}{s:Shared}{K:zF}{x dx C f:Addr}{mA:Str→Option Value}{name:Str}{v:Value}
theorem get_map {expr:Bool}{Q:Value→Shared→Prop}(X:K.In s.heap)(I:ObjM s.heap x dx C mA)(hg:PySem.W.plainGet K C name=true)(hh:PySem.W.hasDictIn K C=true)
  (ha:PySem.W.findIn K (.ref C) name=some none) (hv:mA name=some v) (hv':PySem.W.handedIn v=true) (h:Q v {s with toks:=s.toks+1}) :
  wpAny (model prog w) A (getAttr (.ref x) name expr) Q E s:=by
 obtain ⟨od,J,hl⟩:=I.look
 exact PySem.W.get_value X J (PySem.W.plainGet_of hg).1 (PySem.W.findObj_own hh ha rfl (by rw [hl,hv])) hv' h
theorem set_map {ns:List Str}{Q:Unit→Shared→Prop}(X:K.In s.heap)(I:ObjM s.heap x dx C mA)
  (hs:PySem.W.findIn K (.ref C) "__setattr__"=some (some (.builtin "object.__setattr__"))) (hp:PySem.W.plainOver K C=true) (ht:PySem.W.takerIn K C name=some none) (hh:PySem.W.hasDictIn K C=true)
  (hw:PySem.Within mA ns) (hsz:ns.length≤sizeLine)
  (h:∀ h',ObjM h' x dx C (fun y=>if y=name then some v else mA y)→Heap.SameBut dx s.heap h'→Q () {s with heap:=h',toks:=s.toks+2}) :
  wpAny (model prog w) A (setAttr (.ref x) name v) Q E s:=by
 obtain ⟨od,J,hl⟩:=I.look
 refine PySem.W.set_plain X J hs (PySem.W.osa_open (s:={s with toks:=s.toks+1}) (r:=none) X J hp ht fun b=>?_)
 obtain ⟨cd,hc,hd'⟩:=PySem.W.any_some hh
 have hx:s.heap.get? x=some ⟨.ref C,some dx,.plain,#[]⟩:=I.obj
 refine wpAny_bind (wpAny_pure (wpAny_bind (wpAny_bind (wpAny_loadPart hx (wpAny_bind (PySem.W.Looks.here (s:={s with toks:=s.toks+1}) (PySem.W.looks_clsIn X hc) ?_))))))
 rw [hd'];refine wpAny_pure (a:=some dx) (wpAny_bind (wpAny_pure (wpAny_bind ?_)))
 refine wpAny_nsSet1 (s:={s with toks:=s.toks+1}) I.ns fun h' hn2 hs2=>?_
 obtain ⟨oD,esD,epD,hoD,hdD,hcD⟩:=hn2.count (PySem.Within.cons name v hw)
 refine wpAny_bind (wpAny_lookBehind hoD (by rw [hdD];exact pastItsLine_dict (Nat.le_trans hcD (by rw [List.length_cons];omega))) ?_)
 exact wpAny_pure (h _ ⟨(hs2.2 _ (Ne.symm I.ne)).trans I.obj,hn2,I.ne⟩ hs2)
theorem make_map {R:Result→Shared→Prop}{vs:List Value}{kw:List (Str×Value)}(X:K.In s.heap)(hm:PySem.W.makesIn K C=true)
  (hi:PySem.W.findIn K (.ref C) "__init__"=some (some (.ref f))) (hf:PySem.W.typeIn K (.ref f)=some (.type "function"))
  (h:codeAny (model prog w) (A.under (.builtin "type.__call__" ⟨.ref C::vs,kw⟩)) (.call (.ref f) ⟨.ref (s.heap.objs.size+1)::vs,kw⟩) (PySem.W.InitBack (s.heap.objs.size+1) R)
   {s with heap:=(s.heap.push PySem.W.emptyDict).push (PySem.W.instObj C s.heap.objs.size)}) :
  codeAny (model prog w) A (.call (.ref C) ⟨vs,kw⟩) R s:=by
 obtain ⟨hh,g,d,t,os⟩:=s
 exact PySem.W.make_core (PySem.W.makes_of X hm) (PySem.W.looks_findIn X hi) (fun self=>PySem.W.bind_fn X self hf) (.inl rfl) h
end
def xR (f:Str)(v:V):List (Str×V)→List (Str×V)
 | []=>[(f,v)]
 | (g,x)::r=>if g=f then (g,v)::r else (g,x)::xR f v r
theorem lookup_putF (f g:Str)(v:V):∀ fs:List (Str×V),(xR f v fs).lookup g=if g=f then some v else fs.lookup g
 | []=>by
  show List.lookup g [(f,v)]=_
  by_cases h:g=f
  ·have hb:(g==f)=true:=beq_iff_eq.mpr h
   simp only [List.lookup,hb,if_pos h]
  ·have hb:(g==f)=false:=beq_eq_false_iff_ne.mpr h
   simp only [List.lookup,hb,if_neg h]
 | (k,x)::r=>by
  have ih:=lookup_putF f g v r
  rw [show xR f v ((k,x)::r)=(if k=f then (k,v)::r else (k,x)::xR f v r) from rfl]
  by_cases hk:k=f
  ·rw [if_pos hk]
   by_cases h:g=k
   ·have hb:(g==k)=true:=beq_iff_eq.mpr h
    simp only [List.lookup,hb,if_pos (h.trans hk)]
   ·have hb:(g==k)=false:=beq_eq_false_iff_ne.mpr h
    simp only [List.lookup,hb,if_neg (fun e:g=f=>h (e.trans hk.symm))]
  ·rw [if_neg hk]
   by_cases h:g=k
   ·have hb:(g==k)=true:=beq_iff_eq.mpr h
    simp only [List.lookup,hb,if_neg (fun e:g=f=>hk (h.symm.trans e))]
   ·have hb:(g==k)=false:=beq_eq_false_iff_ne.mpr h
    simp only [List.lookup,hb];exact ih
theorem keys_putF (f:Str)(v:V):∀ fs:List (Str×V),f∈(xR f v fs).map (·.1)∧∀ g,g∈fs.map (·.1)→g∈(xR f v fs).map (·.1)
 | []=>⟨by simp [xR],fun g h=>by simp at h⟩
 | (k,x)::r=>by
  obtain ⟨i1,i2⟩:=keys_putF f v r
  rw [show xR f v ((k,x)::r)=(if k=f then (k,v)::r else (k,x)::xR f v r) from rfl]
  by_cases hk:k=f
  ·rw [if_pos hk]
   subst hk;exact ⟨by simp,fun g h=>by simpa using h⟩
  ·rw [if_neg hk]
   refine ⟨?_,fun g h=>?_⟩
   ·rw [List.map_cons]
    exact List.mem_cons_of_mem _ i1
   ·rw [List.map_cons] at h ⊢
    rcases List.mem_cons.mp h with e | e
    ·exact List.mem_cons.mpr (.inl e)
    ·exact List.mem_cons_of_mem _ (i2 g e)
theorem length_putF (f:Str)(v:V):∀ fs:List (Str×V),(xR f v fs).length≤fs.length+1
 | []=>by simp [xR]
 | (k,x)::r=>by
  have ih:=length_putF f v r
  rw [show xR f v ((k,x)::r)=(if k=f then (k,v)::r else (k,x)::xR f v r) from rfl]
  by_cases hk:k=f
  ·rw [if_pos hk,List.length_cons,List.length_cons];omega
  ·rw [if_neg hk,List.length_cons,List.length_cons];omega
theorem RelO.some_of {v:V}{o:Option Value}(r:RelO (some v) o):∃ u,o=some u∧RelV v u:=by
 cases o with
 | none=>exact (show False from r).elim
 | some u=>exact ⟨u,rfl,r⟩
theorem handed_of {v:V}{u:Value}(r:RelV v u):PySem.W.handedIn u=true:=by
 cases v with
 | non=>cases (show u=Value.none from r);rfl
 | bl b=>cases (show u=Value.bool b from r);rfl
 | int i=>obtain ⟨t,e⟩:=(show ∃ t,u=Value.int i t from r);cases e;rfl
 | str x=>obtain ⟨t,e⟩:=(show ∃ t,u=Value.str x t from r);cases e;rfl
 | byt b=>obtain ⟨t,e⟩:=(show ∃ t,u=Value.bytes b t from r);cases e;rfl
 | flt b=>obtain ⟨t,e⟩:=(show ∃ t,u=Value.float b t from r);cases e;rfl
 | ref a=>cases (show u=Value.ref a from r);rfl
 | ty n=>cases (show u=Value.type n from r);rfl
section
variable {P:Program}{w:World}{H H':Hp}{h h':Heap}{a C dx:Addr}{fs fs':List (Str×V)}
theorem ins_get (hok:HOk P w H h)(e:H a=some (.ins C dx fs)):∃ mA,ObjM h a dx C mA∧(∀ f,RelO (fs.lookup f) (mA f))∧PySem.Within mA (fs.map (·.1))∧fs.length≤1000∧H dx=some (.own a):=by
 obtain ⟨d,z,ne,ob,mA,n,r,q⟩:=(show ObjOk P w H h a (.ins C dx fs) from hok a _ e)
 exact ⟨mA,⟨ob,n,ne⟩,r,q,z,d⟩
end
structure Cls (K:zF)(C:Addr):Prop where
 pg : PySem.W.plainGet K C Str.empty=true
 hd : PySem.W.hasDictIn K C=true
 po : PySem.W.plainOver K C=true
 sa : PySem.W.findIn K (.ref C) "__setattr__"=some (some (.builtin "object.__setattr__"))
theorem Cls.get {K:zF}{C:Addr}(c:Cls K C)(f:Str):PySem.W.plainGet K C f=true:=c.pg
def NoAttr (K:zF)(C:Addr)(f:Str):Prop:=PySem.W.findIn K (.ref C) f=some none
theorem NoAttr.taker {K:zF}{C:Addr}{f:Str}(n:NoAttr K C f):PySem.W.takerIn K C f=some none:=by
 unfold PySem.W.takerIn;rw [show PySem.W.findIn K (.ref C) f=some none from n];rfl
section
variable {X:Cx}{pins:List (Addr×Obj)}{σ:St}{H:Hp}{s:Shared}{a C dx:Addr}{fs:List (Str×V)}{f:Str}{v:V}{A:Around}{E:Value→Shared→Prop}
theorem getattr_ok {b:Bool}{Q:Value→Shared→Prop}(I:Inv X pins σ H s)(e:H a=some (.ins C dx fs))(c:Cls X.K C)(n:NoAttr X.K C f)(l:fs.lookup f=some v)
  (h:∀ u s',Inv X pins σ H s'→RelV v u→Q u s'):wpAny (model X.prog X.w) A (getAttr (.ref a) f b) Q E s:=by
 obtain ⟨mA,O,r,_,_,_⟩:=ins_get I.hok e
 obtain ⟨u,hu,ru⟩:=RelO.some_of (v:=v) (o:=mA f) (by rw [← l];exact r f)
 exact get_map I.kIn O (c.get f) c.hd n hu (handed_of ru) (h u _ (I.tok _) ru)
theorem setattr_ok {y:V}{u:Value}{Q:Unit→Shared→Prop}(I:Inv X pins σ H s)(e:H a=some (.ins C dx fs))(c:Cls X.K C)(n:NoAttr X.K C f)(hl:fs.length < 1000)(ry:RelV y u)
  (h:∀ s',Inv X pins σ (upd H a (.ins C dx (xR f y fs))) s'→Q () s'):wpAny (model X.prog X.w) A (setAttr (.ref a) f u) Q E s:=by
 obtain ⟨mA,O,r,wi,_,ho⟩:=ins_get I.hok e
 have hz:(fs.map (·.1)).length≤sizeLine:=by rw [List.length_map,sizeLine_eq];omega
 refine set_map I.kIn O c.sa c.po n.taker c.hd wi hz fun h' O' sb=>h _ ?_
 have hd:∃ o,h'.get? dx=some o:=let ⟨o,_,_,e',_⟩:=O'.ns;⟨o,e'⟩
 refine I.write (x:=a) (e:=dx) (by rw [e];exact True.intro) (.inr ho) (fun b q hb z=>(sb.2 b hb).trans z) hd ?_
 refine ⟨by rw [zH O.ne];exact ho,?_,O.ne,O'.obj,_,O'.ns,fun g=>?_,fun g hg=>?_⟩
 ·have:=length_putF f y fs;omega
 ·show RelO ((xR f y fs).lookup g) (if g=f then some u else mA g)
  rw [lookup_putF]
  by_cases q:g=f
  ·rw [if_pos q,if_pos q];exact ry
  ·rw [if_neg q,if_neg q];exact r g
 ·by_cases q:g=f
  ·rw [q];exact (keys_putF f y fs).1
  ·refine (keys_putF f y fs).2 g (wi g fun z=>hg ?_)
   show (if g=f then some u else mA g)=none
   rw [if_neg q];exact z
theorem Inv.made (I:Inv X pins σ H s):Inv X pins σ (upd (upd H s.heap.objs.size (.own (s.heap.objs.size+1))) (s.heap.objs.size+1) (.ins C s.heap.objs.size []))
  {s with heap:=(s.heap.push PySem.W.emptyDict).push (PySem.W.instObj C s.heap.objs.size)}:=by
 have e1:(s.heap.push PySem.W.emptyDict).get? s.heap.objs.size=some PySem.W.emptyDict:=Heap.get?_push_size s.heap rfl
 have e2:((s.heap.push PySem.W.emptyDict).push (PySem.W.instObj C s.heap.objs.size)).get? (s.heap.objs.size+1)=some (PySem.W.instObj C s.heap.objs.size):=by
  have:=Heap.get?_push_size (s.heap.push PySem.W.emptyDict) (o:=PySem.W.instObj C s.heap.objs.size) rfl
  rwa [Heap.size_push] at this
 have e3:(s.heap.push PySem.W.emptyDict).Ns s.heap.objs.size (fun _=>none):=⟨PySem.W.emptyDict,#[],_,e1,rfl,(fun e he=>absurd he (by simp)),fun _=>rfl⟩
 have I1:=I.laid (a:=s.heap.objs.size) (o:=.own (s.heap.objs.size+1)) (h':=s.heap.push PySem.W.emptyDict) (t':=s.toks) (fun b u q=>Heap.get?_push_of_some _ q) (Nat.le_refl _) ⟨_,e1⟩
 refine I1.laid (a:=s.heap.objs.size+1) (o:=.ins C s.heap.objs.size []) (t':=s.toks) (fun b u q=>Heap.get?_push_of_some _ q) (Nat.le_of_eq (Heap.size_push _ _)) ?_
 have ne:s.heap.objs.size≠s.heap.objs.size+1:=Nat.ne_of_lt (Nat.lt_succ_self _)
 refine ⟨by rw [zH ne,upd_same],Nat.zero_le _,ne,e2,fun _=>none,(Heap.Ns1.of_empty e3).at fun o q=>Heap.get?_push_of_some _ q,fun _=>True.intro,fun y hy=>absurd rfl hy⟩
theorem attr_of {prog:Program}{w:World}{env:Env}{e:Expr}{f:Str}{pos:Pos}{s:Shared}{Q:Value→Shared→Prop}(hb:attributeBase e f env (eval e env)=eval e env)
  (h:wpAny (model prog w) A (eval e env) (fun o s₁=>wpAny (model prog w) A (getAttr o f true) Q E s₁) E s):wpAny (model prog w) A (eval (.Attribute e f pos) env) Q E s :=
 Attribute_any_ h (by rw [arm_eval_Attribute,hb])
end
def tFld (K:zF)(ta:TE)(f:Str):TE:=fun σ H Q=>ta σ H fun x H1=>∃ a C dx fs v,x = .ref a∧H1 a=some (.ins C dx fs)∧Cls K C∧NoAttr K C f∧fs.lookup f=some v∧Q v H1
def sFld (K:zF)(ta tv:TE)(f:Str):TS:=fun D σ H=>tv σ H fun y H1=>ta σ H1 fun x H2=>∃ a C dx fs,x = .ref a∧H2 a=some (.ins C dx fs)∧Cls K C∧NoAttr K C f∧fs.length < 1000 ∧
 D.nx σ (upd H2 a (.ins C dx (xR f y fs)))
section
variable {X:Cx}{o e value:Expr}{f:Str}{pos pos' tpos:Pos}{ta tv:TE}
theorem pe_fld (he:PE X e ta)(hb:attributeBase e f X.env (eval e X.env)=eval e X.env):PE X (.Attribute e f pos) (tFld X.K ta f):=by
 intro pins s σ H Q I h
 refine attr_of hb (xE (he pins s σ H _ I h) fun u s1 ⟨x,H1,I1,rx,a,C,dx,fs,v,ex,ea,c,n,l,q⟩=>?_)
 subst ex;obtain rfl:u=Value.ref a:=rx
 exact getattr_ok I1 ea c n l fun u' s2 I2 ru=>⟨v,H1,I2,ru,q⟩
theorem ps_fld (ha:PE X o ta)(hv:PE X value tv)(hs:swapsWith value (some (.Attribute o f pos')) pos.line X.env=pure false):PS X (.Assign [.Attribute o f pos'] value pos) (sFld X.K ta tv f):=by
 intro pins s σ H D I h
 refine plainObj_wpAny_Assign_Attribute (xE (hv pins s σ H _ I h) fun u s1 ⟨y,H1,I1,ry,q⟩=>xE (ha pins s1 σ H1 _ I1 q) fun ov s2 ⟨x,H2,I2,rx,a,C,dx,fs,ex,ea,c,n,l,q2⟩=>?_) hs
 subst ex;obtain rfl:ov=Value.ref a:=rx
 exact setattr_ok I2 ea c n l ry fun s3 I3=>⟨σ,_,I3,q2⟩
end
section
variable {X:Cx}{pins:List (Addr×Obj)}{σ:St}{H:Hp}{s:Shared}{A:Around}{E:Value→Shared→Prop}{Q:Value→Shared→Prop}{c:Value}{b:Bool}
end
end L2
namespace L2
open PySem PySem.Spec PyProof.Rows
structure Room (k:Nat)(A:Around):Prop where
 hd : A.handled=none
 dp : A.depth+3 * k+5 < recursionLimit
 un : A.units+16 * k+200 < cLine
theorem Room.mono {j k:Nat}{A:Around}(r:Room k A)(h:j≤k):Room j A:=⟨r.hd,by have:=r.dp;omega,by have:=r.un;omega⟩
theorem Room.deeper {k:Nat}{A:Around}(r:Room (k+1) A)(env:Env):Room k (A.deeper env) :=
 ⟨r.hd,by have:=r.dp;show A.depth+1+3 * k+5 < _;omega,by have:=r.un;show A.units+3+16 * k+200 < _;omega⟩
theorem make_depth {A:Around}{C:Addr}{us:List Value}{kw:List (Str×Value)}:(A.under (.builtin "type.__call__" ⟨.ref C::us,kw⟩)).depth=A.depth+1:=by
 first | rfl | simp [Around.under,Code.weight,Code.isCreation,Code.isGuard,Code.isCaller,Code.frames,Code.isFrame,guardIds]
theorem make_units {A:Around}{C:Addr}{us:List Value}{kw:List (Str×Value)}:(A.under (.builtin "type.__call__" ⟨.ref C::us,kw⟩)).units=A.units+1:=by
 first | rfl | simp [Around.under,Code.cUnits,Code.frames,Code.isFrame]
theorem Room.make {k:Nat}{A:Around}(r:Room (k+1) A)(C:Addr)(us:List Value)(kw:List (Str×Value)):Room k (A.under (.builtin "type.__call__" ⟨.ref C::us,kw⟩)) :=
 ⟨r.hd,by have:=r.dp;rw [make_depth];omega,by have:=r.un;rw [make_units];omega⟩
theorem Room.depth {k:Nat}{A:Around}(r:Room k A):A.depth < recursionLimit:=by have:=r.dp;omega
def tNil : TA:=fun _ H Q=>Q [] H
def tCons (ta:TE)(tr:TA):TA:=fun σ H Q=>ta σ H fun x H1=>tr σ H1 fun xs H2=>Q (x::xs) H2
section
variable {X:Cx}{e:Expr}{es:List Expr}{te:TE}{t:TA}{pos:Pos}
theorem zC : PA X [] tNil:=fun _ _ _ _ H Q I h=>Calls.spliced_nil ⟨[],H,I,.nil,h⟩
theorem zA (ha:PE X e te)(hr:PA X es t)(hs:starEach (e::es) X.env=(false,eval e X.env)::starEach es X.env:=by rfl):PA X (e::es) (tCons te t):=by
 intro pos pins s σ H Q I h
 rw [hs];show wpAny _ _ (spliced ((false,eval e X.env)::backTo pos (starEach es X.env))) _ _ s
 refine Calls.spliced_cons (xE (ha pins s σ H _ I h) fun u s1 ⟨x,H1,I1,r1,q1⟩=>?_)
 exact xE (hr pos pins s1 σ H1 _ I1 q1) fun us s2 ⟨xs,H2,I2,r2,q2⟩=>⟨x::xs,H2,I2,.cons r1 r2,q2⟩
def tTup (t:TA):TE:=fun σ H Q=>t σ H fun xs H1=>xs.length≤sizeLine∧∀ p,H1 p=none→Q (.ref p) (upd H1 p (.tup xs))
def tLst (t:TA):TE:=fun σ H Q=>t σ H fun xs H1=>xs.length≤sizeLine∧∀ p,H1 p=none→Q (.ref p) (upd H1 p (.lst xs))
theorem vS {x1}(h:PA X es t):PE X (.Tuple es x1 pos) (tTup t):=by
 intro pins s σ H Q I hq
 refine wpAny_Tuple_spliced (xE (h pos pins s σ H _ I hq) fun us s1 ⟨xs,H1,I1,r,z,q⟩=>⟨by rw [← r.length];exact z,?_⟩)
 have hf:H1 s1.heap.objs.size=none:=I1.hok.fresh (Nat.le_refl _)
 refine ⟨.ref s1.heap.objs.size,upd H1 s1.heap.objs.size (.tup xs),I1.laid (t':=s1.toks) (fun b u e=>Heap.get?_push_of_some _ e) (Nat.le_refl _) ?_,rfl,q _ hf⟩
 exact ⟨z,us,r,⟨_,Heap.get?_push_size _ rfl,rfl,_,rfl⟩⟩
theorem zT (h:PA X es t):PE X (.List es pos) (tLst t):=by
 intro pins s σ H Q I hq
 refine wpAny_List_spliced (xE (h pos pins s σ H _ I hq) fun us s1 ⟨xs,H1,I1,r,z,q⟩=>⟨by rw [← r.length];exact z,?_⟩)
 have hf:H1 s1.heap.objs.size=none:=I1.hok.fresh (Nat.le_refl _)
 refine ⟨.ref s1.heap.objs.size,upd H1 s1.heap.objs.size (.lst xs),I1.laid (t':=s1.toks) (fun b u e=>Heap.get?_push_of_some _ e) (Nat.le_refl _) ?_,rfl,q _ hf⟩
 exact ⟨z,us,0,r,Heap.get?_push_size _ rfl⟩
end
abbrev Sp :=List V→Hp→VK→XK→Prop
abbrev CXT :=List Env→Hp→Shared→XK→Value→Shared→Prop
structure Env0 (P:Program)(w:World)(K:zF)(mg:Str→Option Value)(base:Heap)(A:Around)(outer:List Env)(s:Shared)(H:Hp):Prop where
 frames : A.frames=some outer
 mod : Mod K mg base
 bs : ∀ b o,base.get? b=some o→s.heap.get? b=some o∧H b=none
 bsz : base.objs.size≤s.heap.objs.size
 funs : s.heap.FunFrames base outer
 frf : ∀ b∈frs outer,H b=none
 hok : HOk P w H s.heap
 bare : AllBare s.gens
def CE (outer:List Env)(P:Program)(w:World)(H:Hp)(s:Shared)(Q:VK)(u:Value)(s':Shared):Prop :=
 ∃ v H',s'.os=s.os∧AllBare s'.gens∧Un (frs outer) [] H H' s.heap s'.heap∧HOk P w H' s'.heap∧RelV v u∧Q v H'
def CR (CX:CXT)(outer:List Env)(P:Program)(w:World)(H:Hp)(s:Shared)(Q:VK)(E:XK)(r:Result)(s':Shared):Prop :=
 match r with
 | .ok (.ret u)=>CE outer P w H s Q u s'
 | .ok _=>False
 | .error e=>CX outer H s E e s'
structure FnOk (P:Program)(w:World)(K:zF)(mg:Str→Option Value)(base:Heap)(CX:CXT)(k:Nat)(f:Addr)(fd:FuncData)(ps:List Str)(sp:Sp):Prop where
 len : ∀ vs H Q E,sp vs H Q E→vs.length=ps.length
 run : ∀ (A:Around) (outer:List Env) (s:Shared) (H:Hp) (args:Args) (us:List Value) (vs:List V) (Q:VK) (E:XK),Room k A→Env0 P w K mg base A outer s H→BindsTo s fd args (ps.zip us)→Vals vs us→sp vs H Q E →
  codeAny (model P w) A (.call (.ref f) args) (CR CX outer P w H s Q E) s
theorem FnOk.mono {P:Program}{w:World}{K:zF}{mg:Str→Option Value}{base:Heap}{CX:CXT}{j k:Nat}{f:Addr}{fd:FuncData}{ps:List Str}{sp:Sp}(F:FnOk P w K mg base CX j f fd ps sp)(h:j≤k) :
  FnOk P w K mg base CX k f fd ps sp:=⟨F.len,fun A outer s H args us vs Q E hr=>F.run A outer s H args us vs Q E (hr.mono h)⟩
theorem Env0.make {P:Program}{w:World}{K:zF}{mg:Str→Option Value}{base:Heap}{A:Around}{outer:List Env}{s:Shared}{H:Hp}(e:Env0 P w K mg base A outer s H)(C:Addr)(us:List Value)(kw:List (Str×Value)) :
  Env0 P w K mg base (A.under (.builtin "type.__call__" ⟨.ref C::us,kw⟩)) outer s H:=⟨by first | exact e.frames | (simpa [Around.under,Code.envs,Code.isFrame,pushEnvs] using e.frames),e.mod,e.bs,e.bsz,e.funs,e.frf,e.hok,e.bare⟩
section
variable {X:Cx}{pins:List (Addr×Obj)}{σ:St}{H:Hp}{s s':Shared}
theorem Inv.env0 (I:Inv X pins σ H s):Env0 X.prog X.w X.K X.mg X.base X.A X.stack s H :=
 ⟨I.ok.frames,I.ok.mod,I.bs,Nat.le_trans I.ok.bsz I.sz,I.stack,I.stkFree,I.hok,I.bare⟩
theorem Inv.after {Q:VK}{u:Value}(I:Inv X pins σ H s)(h:CE X.stack X.prog X.w H s Q u s'):EP X pins σ Q u s':=by
 obtain ⟨v,H',os,bare,un,hok,r,q⟩:=h
 obtain ⟨hh,g,d,t,os'⟩:=s'
 obtain rfl:os'=s.os:=os
 exact ⟨v,H',I.call (h':=hh) (g':=g) (d':=d) (t':=t) (ch:=[]) un hok bare (fun b z=>absurd z (by simp)),r,q⟩
end
def tCall (sp:Sp)(dvs:List V)(E:XK)(t:TA):TE:=fun σ H Q=>t σ H fun vs H1=>sp (vs++dvs) H1 Q E
def tMake (C:Addr)(sp:Sp)(dvs:List V)(E:XK)(t:TA):TE:=fun σ H Q=>t σ H fun vs H1=>∀ x dx,H1 x=none→H1 dx=none→dx≠x →
 sp (.ref x::(vs++dvs)) (upd (upd H1 dx (.own x)) x (.ins C dx [])) (fun v H2=>v = .non∧Q (.ref x) H2) E
def Binds (K:zF)(fd:FuncData)(ps:List Str)(ds:List Value):Prop :=
 ∀ (s:Shared) (us:List Value),K.In s.heap→(us++ds).length=ps.length→BindsTo s fd ⟨us,[]⟩ (ps.zip (us++ds))
theorem Binds.all {K:zF}{fd:FuncData}{ps:List Str}(h:∀ us:List Value,us.length=ps.length→bindArgs fd ⟨us,[]⟩=pure (ps.zip us)):Binds K fd ps []:=fun s us _ hl=>by
 rw [List.append_nil] at hl ⊢;exact .of_eq (h us hl)
def Passes (CX:CXT)(X:Cx)(E:XK):Prop:=∀ (pins:List (Addr×Obj)) (σ:St) (H:Hp) (s:Shared) (e:Value) (s':Shared),Inv X pins σ H s→CX X.stack H s E e s'→X.xe e s'
section
variable {X:Cx}{CX:CXT}{k:Nat}{f C:Addr}{fd:FuncData}{ps:List Str}{sp:Sp}{dvs:List V}{ds:List Value}{E:XK}{x m:Str}{p pos apos:Pos}{e o:Expr}{es:List Expr}{ta:TE}{t:TA}
theorem run_fn {pins:List (Addr×Obj)}{σ:St}{H:Hp}{s:Shared}{Q:VK}{us:List Value}{vs:List V}(F:FnOk X.prog X.w X.K X.mg X.base CX k f fd ps sp)(hr:Room k X.A)(hb:Binds X.K fd ps ds)(hd:Vals dvs ds)(hx:Passes CX X E)
  (I:Inv X pins σ H s) (r:Vals vs us) (h:sp (vs++dvs) H Q E):wpAny (model X.prog X.w) X.A (call (.ref f) us) (EP X pins σ Q) X.xe s:=by
 have r2:Vals (vs++dvs) (us++ds):=r.append hd
 have hl:(us++ds).length=ps.length:=by rw [← r2.length];exact F.len _ _ _ _ h
 refine wpAny_call (codeAny_mono (F.run X.A X.stack s H ⟨us,[]⟩ (us++ds) (vs++dvs) Q E hr I.env0 (hb s us I.kIn hl) r2 h) fun r s' hq=>?_)
 cases r with
 | error e=>exact hx pins σ H s e s' I hq
 | ok fl =>
  cases fl with
  | ret u=>exact I.after hq
  | next=>exact False.elim hq
  | brk=>exact False.elim hq
  | cont=>exact False.elim hq
theorem pe_call (F:FnOk X.prog X.w X.K X.mg X.base CX k f fd ps sp)(hr:Room k X.A)(hg:Gl X x)(hm:X.mg x=some (.ref f))(hk:PySem.W.keepIn X.K (.ref f)=true)(hb:Binds X.K fd ps ds)(hd:Vals dvs ds)(hx:Passes CX X E)
  (ha:PA X (e::es) t) (hdb:(x==("__debug__":Str))=false:=by decide) (he:starEach (e::es) X.env=(false,eval e X.env)::starEach es X.env:=by rfl) (hpl:(backTo pos (starEach es X.env)).any (·.1)=false:=by rfl) :
  PE X (.Call (.Name x p) (e::es) [] pos) (tCall sp dvs E t):=by
 intro pins s σ H Q I h
 refine wpAny_Call_Name_kw (ld_glob I hg hm ?_ hdb)
 refine PySem.W.callWith_K (h₀:=X.base) I.ok.mod.kin hk (xE (ha pos pins s σ H _ I h) fun us s1 ⟨vs,H1,I1,r,q⟩=>⟨I1.kIn,?_⟩) he hpl
 exact run_fn F hr hb hd hx I1 r q
structure Mk (K:zF)(C f:Addr):Prop where
 makes : PySem.W.makesIn K C=true
 init : PySem.W.findIn K (.ref C) "__init__"=some (some (.ref f))
 fn : PySem.W.isFn K (.ref f)=true
 kp : PySem.W.keepIn K (.ref C)=true
theorem run_make {pins:List (Addr×Obj)}{σ:St}{H:Hp}{s:Shared}{Q:VK}{us:List Value}{vs:List V}(M:Mk X.K C f)(F:FnOk X.prog X.w X.K X.mg X.base CX k f fd ps sp)(hr:Room (k+1) X.A)(hb:Binds X.K fd ps ds)(hd:Vals dvs ds)
  (hx:Passes CX X E) (I:Inv X pins σ H s) (r:Vals vs us)
  (h:∀ x dx,H x=none→H dx=none→dx≠x→sp (.ref x::(vs++dvs)) (upd (upd H dx (.own x)) x (.ins C dx [])) (fun v H2=>v = .non∧Q (.ref x) H2) E) :
  wpAny (model X.prog X.w) X.A (call (.ref C) us) (EP X pins σ Q) X.xe s:=by
 have hq:=h (s.heap.objs.size+1) s.heap.objs.size (I.hok.fresh (Nat.le_succ _)) (I.hok.fresh (Nat.le_refl _)) (Nat.ne_of_lt (Nat.lt_succ_self _))
 have I2:=Inv.made (C:=C) I
 have r2:Vals (V.ref (s.heap.objs.size+1)::(vs++dvs)) (Value.ref (s.heap.objs.size+1)::(us++ds)):=.cons rfl (r.append hd)
 have hl:(Value.ref (s.heap.objs.size+1)::us++ds).length=ps.length:=by
  have e:=r2.length
  rw [F.len _ _ _ _ hq] at e;exact e.symm
 refine wpAny_call (make_map (f:=f) I.kIn M.makes M.init (beq_iff_eq.mp M.fn) (codeAny_mono (F.run _ X.stack _ _ ⟨Value.ref (s.heap.objs.size+1)::us,[]⟩ (Value.ref (s.heap.objs.size+1)::(us++ds)) _ _ E (hr.make C us [])
  (I2.env0.make C us []) (hb _ (Value.ref (s.heap.objs.size+1)::us) I2.kIn hl) r2 hq) fun r s' hq'=>?_))
 cases r with
 | error e=>exact hx pins σ _ _ e s' I2 hq'
 | ok fl =>
  cases fl with
  | ret u =>
   obtain ⟨v,H',I3,rv,ev,q3⟩:=I2.after hq'
   subst ev;exact ⟨rv,⟨V.ref (s.heap.objs.size+1),H',I3,rfl,q3⟩⟩
  | next=>exact False.elim hq'
  | brk=>exact False.elim hq'
  | cont=>exact False.elim hq'
theorem pe_make (M:Mk X.K C f)(F:FnOk X.prog X.w X.K X.mg X.base CX k f fd ps sp)(hr:Room (k+1) X.A)(hg:Gl X x)(hm:X.mg x=some (.ref C))(hb:Binds X.K fd ps ds)(hd:Vals dvs ds)(hx:Passes CX X E)
  (ha:PA X (e::es) t) (hdb:(x==("__debug__":Str))=false:=by decide) (he:starEach (e::es) X.env=(false,eval e X.env)::starEach es X.env:=by rfl) (hpl:(backTo pos (starEach es X.env)).any (·.1)=false:=by rfl) :
  PE X (.Call (.Name x p) (e::es) [] pos) (tMake C sp dvs E t):=by
 intro pins s σ H Q I h
 refine wpAny_Call_Name_kw (ld_glob I hg hm ?_ hdb)
 refine PySem.W.callWith_K (h₀:=X.base) I.ok.mod.kin M.kp (xE (ha pos pins s σ H _ I h) fun us s1 ⟨vs,H1,I1,r,q⟩=>⟨I1.kIn,?_⟩) he hpl
 exact run_make M F hr hb hd hx I1 r q
theorem pe_make0 (M:Mk X.K C f)(F:FnOk X.prog X.w X.K X.mg X.base CX k f fd ps sp)(hr:Room (k+1) X.A)(hg:Gl X x)(hm:X.mg x=some (.ref C))(hb:Binds X.K fd ps ds)(hd:Vals dvs ds)(hx:Passes CX X E)
  (hdb:(x==("__debug__":Str))=false:=by decide):PE X (.Call (.Name x p) [] [] pos) (tMake C sp dvs E tNil):=by
 intro pins s σ H Q I h
 refine wpAny_Call_Name_kw (ld_glob I hg hm ?_ hdb)
 exact PySem.W.callWith_K0 I.kIn M.kp (run_make (us:=[]) M F hr hb hd hx I .nil h)
end
def PK (X:Cx)(kws:List Keyword)(t:TA):Prop :=
 ∀ (pos:Pos) (pins:List (Addr×Obj)) (s:Shared) (σ:St) (H:Hp) (Q:List V→Hp→Prop),Inv X pins σ H s→t σ H Q→wpAny (model X.prog X.w) X.A (evalAll ((backToKw pos (keywordEach kws X.env)).map (·.2))) (AP X pins σ Q) X.xe s
section
variable {X:Cx}{CX:CXT}{k:Nat}{f C:Addr}{fd:FuncData}{ps ks:List Str}{sp:Sp}{E:XK}{x m:Str}{p pos apos kpos:Pos}{e o:Expr}{es:List Expr}{kws:List Keyword}{te ta:TE}{t tk:TA}{nm:Option Str}
theorem uF : PK X [] tNil:=fun _ _ _ _ H Q I h=>wpAny_evalAll_nil ⟨[],H,I,.nil,h⟩
theorem vE (ha:PE X e te)(hr:PK X kws t):PK X (⟨nm,e,kpos⟩::kws) (tCons te t):=by
 intro pos pins s σ H Q I h
 show wpAny _ _ (evalAll ((do let v ← eval e X.env;standAt pos;pure v)::(backToKw pos (keywordEach kws X.env)).map (·.2))) _ _ s
 refine wpAny_evalAll_cons (wpAny_bind (xE (ha pins s σ H _ I h) fun u s1 ⟨x,H1,I1,r1,q1⟩=>wpAny_bind (wpAny_standAt (wpAny_pure ?_))))
 exact xE (hr pos pins s1 σ H1 _ I1 q1) fun us s2 ⟨xs,H2,I2,r2,q2⟩=>⟨x::xs,H2,I2,.cons r1 r2,q2⟩
variable {g:List Value→List Value→List Value}{gV:List V→List V→List V}
end
structure zK (N P:List Str)(sc:Scope):Prop where
 kind : sc.kind = .function
 co : sc.isCoroutine=false
 gen : sc.isGenerator=false
 nd : N.Nodup
 pre : N.take P.length=P
 par : ∀ x∈P,sc.names.lookup x=some .local∨sc.names.lookup x=some .cell
 nofree : ∀ y∈sc.names,y.2≠.free
theorem bindL_out {kindOf:Str→Option NameKind}{x:Str}:∀ {binds:List (Str×Value)} {m:Str→Option Value},(∀ v,(x,v)∉binds)→bindL kindOf binds m x=m x
 | [],_,_=>rfl
 | (n,v)::r,m,h=>by
  unfold bindL;rw [bindL_out fun w hw=>h w (List.mem_cons_of_mem _ hw)];split
  ·have:x≠n:=by rintro rfl;exact h v List.mem_cons_self
   simp [this]
  ·rfl
theorem bindC_out {kindOf:Str→Option NameKind}{x:Str}:∀ {binds:List (Str×Value)} {m:Str→Option Value},(∀ v,(x,v)∉binds)→bindC kindOf binds m x=m x
 | [],_,_=>rfl
 | (n,v)::r,m,h=>by
  unfold bindC;rw [bindC_out fun w hw=>h w (List.mem_cons_of_mem _ hw)];split
  ·rfl
  ·have:x≠n:=by rintro rfl;exact h v List.mem_cons_self
   simp [this]
theorem bindL_get {kindOf:Str→Option NameKind}{x:Str}{v:Value}:∀ {P:List Str} {vs:List Value} {i:Nat} {m:Str→Option Value},P.Nodup→P[i]? = some x→vs[i]? = some v→kindOf x=some .local →
  bindL kindOf (P.zip vs) m x=some v
 | [],_,_,_,_,h,_,_=>by simp at h
 | _::_,[],_,_,_,_,h,_=>by simp at h
 | p::P,w::vs,0,m,nd,h1,h2,hk=>by
  simp at h1 h2;subst h1;subst h2
  show bindL kindOf ((p,w)::P.zip vs) m p=_
  unfold bindL;rw [bindL_out fun v hv=>(List.nodup_cons.mp nd).1 (List.of_mem_zip hv).1,if_pos hk];simp
 | p::P,w::vs,i+1,m,nd,h1,h2,hk=>by
  show bindL kindOf ((p,w)::P.zip vs) m x=_
  unfold bindL;exact bindL_get (i:=i) (List.nodup_cons.mp nd).2 (by simpa using h1) (by simpa using h2) hk
theorem bindC_get {kindOf:Str→Option NameKind}{x:Str}{v:Value}:∀ {P:List Str} {vs:List Value} {i:Nat} {m:Str→Option Value},P.Nodup→P[i]? = some x→vs[i]? = some v→kindOf x≠some .local →
  bindC kindOf (P.zip vs) m x=some v
 | [],_,_,_,_,h,_,_=>by simp at h
 | _::_,[],_,_,_,_,h,_=>by simp at h
 | p::P,w::vs,0,m,nd,h1,h2,hk=>by
  simp at h1 h2;subst h1;subst h2
  show bindC kindOf ((p,w)::P.zip vs) m p=_
  unfold bindC;rw [bindC_out fun v hv=>(List.nodup_cons.mp nd).1 (List.of_mem_zip hv).1,if_neg hk];simp
 | p::P,w::vs,i+1,m,nd,h1,h2,hk=>by
  show bindC kindOf ((p,w)::P.zip vs) m x=_
  unfold bindC;exact bindC_get (i:=i) (List.nodup_cons.mp nd).2 (by simpa using h1) (by simpa using h2) hk
def start (N:List Str)(vs:List V):St:=vs.map some++List.replicate (N.length - vs.length) none
def tT (CX:CXT)(P:Program)(w:World)(K:zF)(mg:Str→Option Value)(base:Heap)(N:List Str)(qual:Str)(scope:Scope)(f:Addr)(cd:Value)(A:Around)(outer:List Env)(s:Shared)(H:Hp)(E:XK):Cx where
 prog:=P
 w:=w
 K:=K
 mg:=mg
 base:=base
 A:=A.deeper (envOfC qual scope s.heap.objs.size f cd)
 N:=N
 s_0:=s
 H_0:=H
 env:=envOfC qual scope s.heap.objs.size f cd
 outer:=outer
 stack:=envOfC qual scope s.heap.objs.size f cd::outer
 ex:=[]
 calm:=true
 fn:=fun _=>true
 pn:=[]
 xe:=fun e s'=>wpAny (model P w) (A.deeper (envOfC qual scope s.heap.objs.size f cd)) (leaving (envOfC qual scope s.heap.objs.size f cd) e) (fun _ s''=>CX outer H s E e s'') (fun e' s''=>CX outer H s E e' s'') s'
theorem cell_has {sc:Scope}{n:Nat}{x:Str}(h:sc.names.lookup x=some .cell):∃ c,(cellsFrom n sc.names []).lookup x=some c:=by
 have q:=PySem.W.cellsFrom_some sc.names n [] (.inl h)
 exact Option.isSome_iff_exists.mp q
theorem inv_start {CX:CXT}{P:Program}{w:World}{K:zF}{mg:Str→Option Value}{base:Heap}{N ps:List Str}{qual:Str}{scope:Scope}{f:Addr}{cd:Value}{A:Around}{outer:List Env}{s s1:Shared}{H:Hp}{E:XK}{us:List Value}{vs:List V}
  (S:zK N ps scope) (hd:A.handled=none) (e0:Env0 P w K mg base A outer s H) (hl:vs.length=ps.length) (r:Vals vs us)
  (x:InCallC s s.heap.objs.size (bindL (envOfC qual scope s.heap.objs.size f cd).kindOf (ps.zip us) fun _=>none) (cellsFrom (s.heap.objs.size+1) scope.names []) (bindC (envOfC qual scope s.heap.objs.size f cd).kindOf (ps.zip us) fun _=>none) s1) :
  Inv (tT CX P w K mg base N qual scope f cd A outer s H E) [] (start N vs) H s1:=by
 have hpl:ps.length≤N.length:=by have:=congrArg List.length S.pre;rw [List.length_take] at this;omega
 obtain ⟨h1,tk,rfl,hk⟩:=x.done
 have noA:∀ b:Addr,b∉(tT CX P w K mg base N qual scope f cd A outer s H E).ex:=fun b z=>absurd (show b∈([]:List Addr) from z) (by simp)
 refine ⟨⟨e0.mod,S.kind,rfl,rfl,Nat.le_refl _,fun y z c h1 h2=>?_,fun y hy=>?_,fun y c _ h=>?_,fun _=>hd,Around.frames_deeper e0.frames,.inr ⟨rfl,rfl⟩,fun b z=>absurd z (noA b),e0.bs,e0.bsz,fun b _ _=>noA b,fun b z=>absurd z (noA b),e0.funs,e0.frf⟩,
  rfl,e0.bare,Un.kept hk,⟨_,x.toInCall.ns,fun i y v h1 h2 h3=>?_⟩,fun y c h=>⟨_,x.cell y c h⟩,e0.hok.fresh (Nat.le_refl _),fun y c h=>?_,fun p hp=>absurd (show p∈([]:List (Addr×Obj)) from hp) (by simp),e0.hok.kept hk,?_⟩
 ·exact name_of_addr x.apart (PySem.mem_of_lookup h1) (PySem.mem_of_lookup h2)
 ·have hy:scope.names.lookup y=some .cell∨scope.names.lookup y=some .free:=hy
  rcases hy with hy | hy
  ·exact cell_has hy
  ·exact absurd rfl (S.nofree _ (PySem.mem_of_lookup hy))
 ·exact Nat.le_of_lt (x.above y c (PySem.mem_of_lookup h))
 ·have hi:i < vs.length:=by
   unfold start at h2
   by_cases hi:i < vs.length
   ·exact hi
   ·rw [List.getElem?_append_right (by simpa using hi)] at h2
    rw [List.getElem?_replicate] at h2
    split at h2<;>cases h2
  have ha:vs[i]? = some v:=by
   unfold start at h2;rw [List.getElem?_append_left (by simpa using hi),List.getElem?_map] at h2
   cases e:vs[i]? with
   | none=>rw [e] at h2;cases h2
   | some a=>rw [e] at h2;cases h2;rfl
  obtain ⟨u,hu,rv⟩:=r.get ha
  have hp:ps[i]? = some y:=by
   rw [← S.pre,List.getElem?_take_of_lt (by omega)];exact h1
  have ndP:ps.Nodup:=by rw [← S.pre];exact S.nd.sublist (List.take_sublist _ _)
  refine ⟨u,rv,?_⟩
  rcases S.par y (List.mem_of_getElem? hp) with k | k
  ·exact .inl ⟨k,bindL_get ndP hp hu k⟩
  ·obtain ⟨c,e⟩:=cell_has (n:=s.heap.objs.size+1) k
   refine .inr ⟨.inl k,c,e,?_⟩
   have q:=x.cell y c e
   rw [bindC_get ndP hp hu (by show scope.names.lookup y≠_;rw [k];decide)] at q
   exact q
 ·exact e0.hok.fresh (Nat.le_of_lt (x.above y c (PySem.mem_of_lookup h)))
 ·unfold start
  show _=N.length
  rw [List.length_append,List.length_map,List.length_replicate];omega
theorem fn_of {CX:CXT}{P:Program}{w:World}{K:zF}{mg:Str→Option Value}{base:Heap}{k:Nat}{f:Addr}{name qual:Str}{params:Arguments}{body:List Stmt}{scope:Scope}{dV kV doc pm cdv ct oc:Value}{an od:Option Addr}
  {osl:Array (Option Value)} {N ps:List Str} {sp:Sp} (lk:K.lookup f=some ⟨oc,od,.func (PySem.W.fnOf name qual params body scope dV kV doc pm an cdv ct),osl⟩) (hcd:PySem.W.codeIn K cdv qual=true) (S:zK N ps scope)
  (len:∀ vs H Q E,sp vs H Q E→vs.length=ps.length)
  (hbody:∀ (A:Around) (outer:List Env) (s:Shared) (H:Hp) (vs:List V) (Q:VK) (E:XK),Room k (A.deeper (envOfC qual scope s.heap.objs.size f cdv))→sp vs H Q E →
   ∃ t,PSs (tT CX P w K mg base N qual scope f cdv A outer s H E) body t∧t {nx:=fun _ H'=>Q .non H',rt:=Q} (start N vs) H) :
  FnOk P w K mg base CX (k+1) f (PySem.W.fnOf name qual params body scope dV kV doc pm an cdv ct) ps sp:=by
 refine ⟨len,fun A outer s H args us vs Q E hr e0 hb r hsp=>?_⟩
 have hl:=len _ _ _ _ hsp
 have KX:K.In s.heap:=e0.mod.kin.keeps fun b o e=>(e0.bs b o e).1
 have lim:s.heap.NoLimit:=e0.mod.nolimit.keeps fun b o e=>(e0.bs b o e).1
 have hkind:∀ y∈ps.zip us,scope.names.lookup y.1=some .local∨(scope.names.lookup y.1=some .cell∧((cellsFrom (s.heap.objs.size+1) scope.names []).lookup y.1).isSome=true):=fun ⟨n,v⟩ hy=>by
  rcases S.par n (List.of_mem_zip hy).1 with q | q
  ·exact .inl q
  ·exact .inr ⟨q,PySem.W.cellsFrom_some _ _ _ (.inl q)⟩
 refine codeAny_call_function hr.depth (KX _ _ lk) rfl S.co S.gen rfl (PySem.W.codeRec_of KX hcd) (hb _ _ _ _ ?_)
 refine wpAny_newFunctionEnv_cells S.kind hkind fun env he s1 x=>?_
 subst he;refine ⟨lim.keeps x.toInCall.keep,codeAny_func ?_⟩
 obtain ⟨t,ht,hq⟩:=hbody A outer s H vs Q E (hr.deeper _) hsp
 have I:Inv (tT CX P w K mg base N qual scope f cdv A outer s H E) [] (start N vs) H s1:=inv_start S hr.hd e0 hl r x
 refine wpAny_mono (ht [] s1 (start N vs) H _ I hq) (fun fl s' hs=>?_) fun e s' hs=>hs
 have fin:∀ {σ':St} {H':Hp} {v:V} {u:Value},Inv (tT CX P w K mg base N qual scope f cdv A outer s H E) [] σ' H' s'→RelV v u→Q v H'→CE outer P w H s Q u s' :=
  fun {σ' H' v u} J rv q=>⟨v,H',J.os,J.bare,J.base,J.hok,rv,q⟩
 cases fl with
 | ret u =>
  obtain ⟨v,σ',H',J,rv,q⟩:=hs
  exact fin J rv q
 | next =>
  obtain ⟨σ',H',J,q⟩:=hs
  exact fin (v:=V.non) (u:=Value.none) J rfl q
 | brk =>
  obtain ⟨_,_,_,q⟩:=hs
  exact False.elim q
 | cont =>
  obtain ⟨_,_,_,q⟩:=hs
  exact False.elim q
end L2
namespace L2
open PySem PySem.Spec PyProof.Rows
section
variable {X:Cx}{x:Str}{p pos:Pos}{e:Expr}{es:List Expr}{t:TA}{id T:String}{r:List V→Hp→VK→Prop}
def tCB (r:List V→Hp→VK→Prop)(t:TA):TE:=fun σ H Q=>t σ H fun vs H1=>r vs H1 Q
theorem zU (hc:vC X (.builtin id) r)(hg:Gl X x)(hm:X.mg x=none)(hv:bootBuiltins x=some (.builtin id))(ha:PA X (e::es) t)(hn:x≠"__name__":=by decide)(hdb:(x==("__debug__":Str))=false:=by decide)
  (he:starEach (e::es) X.env=(false,eval e X.env)::starEach es X.env:=by rfl) (hpl:(backTo pos (starEach es X.env)).any (·.1)=false:=by rfl):PE X (.Call (.Name x p) (e::es) [] pos) (tCB r t):=by
 intro pins s σ H Q I h
 refine wpAny_Call_Name_kw (uY I hg hm hv ?_ hn hdb)
 exact PyProof.Rows.callWith_builtin1 (xE (ha pos pins s σ H _ I h) fun us s1 ⟨vs,H1,I1,r1,q1⟩=>hc pins s1 σ H1 vs us Q I1 r1 q1) he hpl
theorem pe_callTy (hc:vC X (.type T) r)(hg:Gl X x)(hm:X.mg x=none)(hv:bootBuiltins x=some (.type T))(ha:PA X (e::es) t)(hn:x≠"__name__":=by decide)(hdb:(x==("__debug__":Str))=false:=by decide)
  (he:starEach (e::es) X.env=(false,eval e X.env)::starEach es X.env:=by rfl) (hpl:(backTo pos (starEach es X.env)).any (·.1)=false:=by rfl):PE X (.Call (.Name x p) (e::es) [] pos) (tCB r t):=by
 intro pins s σ H Q I h
 refine wpAny_Call_Name_kw (uY I hg hm hv ?_ hn hdb)
 exact PyProof.Rows.callWith_type1 (xE (ha pos pins s σ H _ I h) fun us s1 ⟨vs,H1,I1,r1,q1⟩=>hc pins s1 σ H1 vs us Q I1 r1 q1) he hpl
end
end L2
namespace HT
open PySem PyProof.Rows
section
open PySem.SeqAt
open PySem.AutoSeq1 (wpAny_loadPart')
open PySem.MeetsSeq PySem.MeetsSeq2 PySem.MeetsSeq3
end
section
variable {prog:Program}{w:World}{A:Around}{E:Value→Shared→Prop}{s:Shared}
def sIx (n d:Nat):Option Int→Nat
 | none=>d
 | some v=>if v < 0 then (v+(n:Int)).toNat else min v.toNat n
theorem sIx_none (n d:Nat):sIx n d none=d:=rfl
theorem sIx_nat (n d k:Nat):sIx n d (some (k:Int))=min k n:=by
 show (if (k:Int) < 0 then ((k:Int)+(n:Int)).toNat else min (k:Int).toNat n)=min k n
 rw [if_neg (by omega),Int.toNat_natCast]
end
end HT
namespace L2
open PySem PySem.Spec PyProof.Rows
abbrev TO :=St→Hp→(Option Int→Hp→Prop)→Prop
def PO (X:Cx)(e:Option Expr)(t:TO):Prop :=
 ∀ (pins:List (Addr×Obj)) (s:Shared) (σ:St) (H:Hp) (Q:Option Int→Hp→Prop),Inv X pins σ H s→t σ H Q →
  wpAny (model X.prog X.w) X.A (evalPart e X.env) (fun u s'=>∃ o H',Inv X pins σ H' s'∧IsPart u o∧Q o H') X.xe s
def tNoPart : TO:=fun _ H Q=>Q none H
def tPart (t:TE):TO:=fun σ H Q=>t σ H fun x H1=>∃ i,x = .int i∧Q (some i) H1
theorem intsAre_of {ns:List Int}:∀ {us:List Value},Vals (ns.map V.int) us→IntsAre us ns:=by
 induction ns with
 | nil=>intro us r;rw [List.map_nil] at r;cases r;exact .nil
 | cons n ns ih =>
  intro us r
  rw [List.map_cons] at r
  cases r with
  | cons r1 r2 =>
   obtain ⟨t,e⟩:=r1
   subst e;exact .cons n t (ih r2)
section
variable {X:Cx}{e:Expr}{te:TE}{lo hi:Option Expr}{tl th:TO}{pos p2:Pos}
theorem po_none : PO X none tNoPart:=by
 intro pins s σ H Q I h
 rw [evalPart_none];exact wpAny_pure ⟨none,H,I,.none,h⟩
theorem uE (h:PE X e te):PO X (some e) (tPart te):=by
 intro pins s σ H Q I hw
 rw [evalPart_some];refine xE (h pins s σ H _ I hw) fun u s1 ⟨x,H1,I1,r1,q1⟩=>?_
 obtain ⟨i,rfl,q⟩:=q1
 obtain ⟨t,rfl⟩:=r1
 exact ⟨some i,H1,I1,.int i t,q⟩
def SlR (X:Cx)(r:V→Option Int→Option Int→Hp→VK→Prop):Prop :=
 ∀ (pins:List (Addr×Obj)) (s:Shared) (σ:St) (H:Hp) (x:V) (v vl vu:Value) (lo hi:Option Int) (sl:Addr) (Q:VK),Inv X pins σ H s→RelV x v→s.heap.IsSliceOf sl vl vu .none→IsPart vl lo→IsPart vu hi→r x lo hi H Q →
  ∃ T id,typeLookup (.type T) "__getitem__"=pure (some (.builtin id))∧s.TypeIs v T∧wpAny (model X.prog X.w) X.A (getItem v (.ref sl)) (EP X pins σ Q) X.xe s
def tSl (r:V→Option Int→Option Int→Hp→VK→Prop)(te:TE)(tl th:TO):TE:=fun σ H Q=>te σ H fun x H1=>tl σ H1 fun l H2=>th σ H2 fun u H3=>r x l u H3 Q
theorem uR {r:V→Option Int→Option Int→Hp→VK→Prop}(hr:SlR X r)(he:PE X e te)(hl:PO X lo tl)(hu:PO X hi th):PE X (.Subscript e (.Slice lo hi none p2) pos) (tSl r te tl th):=by
 intro pins s σ H Q I h
 refine Subscript_ (xE (he pins s σ H _ I h) fun v s1 ⟨x,H1,I1,r1,q1⟩=>?_)
 refine wpAny_Slice (xE (hl pins s1 σ H1 _ I1 q1) fun vl s2 ⟨l,H2,I2,pl,q2⟩=>xE (hu pins s2 σ H2 _ I2 q2) fun vu s3 ⟨u,H3,I3,pu,q3⟩=>?_)
 rw [evalPart_none];refine wpAny_pure ?_
 have I4:Inv X pins σ H3 {s3 with heap:=s3.heap.push {cls:=.type "slice",data:=.fields #[vl,vu,.none]}}:=I3.kept (t':=s3.toks) fun b ob q=>Heap.get?_push_of_some _ q
 obtain ⟨T,id,hT,ht,hg⟩:=hr pins {s3 with heap:=s3.heap.push {cls:=.type "slice",data:=.fields #[vl,vu,.none]}} σ H3 x v vl vu l u s3.heap.objs.size Q I4 r1 (Heap.IsSliceOf.new ..) pl pu q3
 show wpAny (model X.prog X.w) X.A (subscriptTail e (.Slice lo hi none p2) v (.ref s3.heap.objs.size)) (EP X pins σ Q) X.xe {s3 with heap:=s3.heap.push {cls:=.type "slice",data:=.fields #[vl,vu,.none]}}
 exact tail_any (ops:=[.ref s3.heap.objs.size,v]) ht hT hg (by with_unfolding_all rfl)
def tU (xs:List V)(lo hi:Option Int):List V:=(xs.drop (HT.sIx xs.length 0 lo)).take (HT.sIx xs.length xs.length hi - HT.sIx xs.length 0 lo)
theorem cutV_length (xs:List V)(lo hi:Option Int):(tU xs lo hi).length≤xs.length:=by
 unfold tU;rw [List.length_take,List.length_drop];omega
end
end L2
namespace L2
open PySem PySem.Spec PyProof.Rows
def ixN (n:Nat)(i:Int):Option Nat:=if 0≤i then (if i < n then some i.toNat else none) else if -(n:Int)≤i then some (i+n).toNat else none
def yZ {α:Type}(xs:List α)(i:Int):Option α:=(ixN xs.length i).bind fun j=>xs[j]?
theorem ixN_seq {n:Nat}{i:Int}{j:Nat}(h:ixN n i=some j):seqIndex? i n=some j∧j < n∧-(n:Int)≤i∧i < n:=by
 unfold ixN at h
 by_cases h0:0≤i
 ·rw [if_pos h0] at h
  by_cases h1:i < n
  ·rw [if_pos h1] at h
   have e:i.toNat=j:=Option.some.inj h
   exact ⟨by rw [seqIndex_of h0 h1,e],by omega,by omega,h1⟩
  ·rw [if_neg h1] at h;cases h
 ·rw [if_neg h0] at h
  by_cases h1 : -(n:Int)≤i
  ·rw [if_pos h1] at h
   have e:(i+n).toNat=j:=Option.some.inj h
   exact ⟨by rw [seqIndex_neg (by omega) h1,e],by omega,h1,by omega⟩
  ·rw [if_neg h1] at h;cases h
theorem atI_get {α:Type}{xs:List α}{i:Int}{v:α}(h:yZ xs i=some v):∃ j,seqIndex? i xs.length=some j∧xs[j]? = some v∧j < xs.length∧-(xs.length:Int)≤i∧i < xs.length:=by
 unfold yZ at h
 cases e:ixN xs.length i with
 | none=>rw [e] at h;cases h
 | some j =>
  rw [e] at h;obtain ⟨h1,h2,h3,h4⟩:=ixN_seq e
  exact ⟨j,h1,h,h2,h3,h4⟩
theorem atI_nat {α:Type}{xs:List α}{j:Nat}{v:α}(h:xs[j]? = some v):yZ xs (j:Int)=some v:=by
 have hj:j < xs.length:=(List.getElem?_eq_some_iff.mp h).1
 have e:ixN xs.length (j:Int)=some j:=by
  unfold ixN;rw [if_pos (by omega),if_pos (by omega)];simp
 unfold yZ;rw [e];exact h
def PlainIx (b:Expr):Prop:=∀ o i,subscripted b false o i=operate [o,i] (getItem o i)
def IxR (X:Cx)(r:R2):Prop :=
 ∀ (value slice:Expr) (pins:List (Addr×Obj)) (s:Shared) (σ:St) (H:Hp) (x y:V) (v u:Value) (Q:VK),Inv X pins σ H s→RelV x v→RelV y u→r x y H Q →
  subscripted slice false v u=operate [v,u] (getItem v u)→wpAny (model X.prog X.w) X.A (subscriptTail value slice v u) (EP X pins σ Q) X.xe s
def MtR (X:Cx)(id:String)(r:V→List V→Hp→VK→Prop):Prop :=
 ∀ (pins:List (Addr×Obj)) (s:Shared) (σ:St) (H:Hp) (x:V) (xs:List V) (v:Value) (us:List Value) (Q:VK),Inv X pins σ H s→RelV x v→Vals xs us→r x xs H Q →
  wpAny (model X.prog X.w) X.A (call (.builtin id) (v::us)) (EP X pins σ Q) X.xe s
section
variable {X:Cx}{a b:Expr}{ta tb:TE}{pos:Pos}
theorem zY {r:R2}(hr:IxR X r)(ha:PE X a ta)(hb:PE X b tb)(hs:PlainIx b):PE X (.Subscript a b pos) (tOp r ta tb):=by
 intro pins s σ H Q I h
 exact Subscript_ (binT ha hb I h fun v u s2 x y H2 I2 rx ry q=>hr a b pins s2 σ H2 x y v u Q I2 rx ry q (hs _ _))
def rIxL (K:zF):R2:=fun x y H Q=>∃ p xs i v,x = .ref p∧y = .int i∧SqL K H p xs∧yZ xs i=some v∧Q v H
def rIxT (K:zF):R2:=fun x y H Q=>∃ p xs i v,x = .ref p∧y = .int i∧SqT K H p xs∧yZ xs i=some v∧Q v H
def rIxS : R2:=fun x y H Q=>∃ z i c,x = .str z∧y = .int i∧z.length≤sizeLine∧yZ z.cps.toList i=some c∧Q (.str ⟨#[c]⟩) H
theorem ix_list : IxR X (rIxL X.K):=by
 intro value slice pins s σ H x y v u Q I rx ry h hs
 obtain ⟨p,xs,i,z,rfl,rfl,hq,he,q⟩:=h
 cases rx;obtain ⟨t,rfl⟩:=ry
 obtain ⟨its,r,pl,hz⟩:=I.list hq
 obtain ⟨j,h1,h2,h3,h4,h5⟩:=atI_get he
 obtain ⟨w,ew,rw'⟩:=r.get h2
 have hl:=r.length
 have hn:=tS
 have fin:EP X pins σ Q w s:=⟨z,H,I,rw',q⟩
 by_cases h0:0≤i
 ·have hj:i.toNat=j:=by
   rw [seqIndex_of h0 h5] at h1;exact Option.some.inj h1
  exact item_listR pl.isList h0 (by omega) (by rw [hj];simpa using ew) fin hs
 ·have hj:(i+(its.toArray.size:Int)).toNat=j:=by
   rw [seqIndex_neg (by omega) h4] at h1;rw [List.size_toArray,← hl];exact Option.some.inj h1
  exact subscriptTail_builtinR (x:=w) pl.isList.typeIs slot_list_getitem.lookup
   (wpAny_getItem_list_neg (Q:=fun r s'=>r=w∧EP X pins σ Q r s') pl.isList (by omega) (by rw [List.size_toArray]<;>omega) (by omega) (by rw [hj];simpa using ew) ⟨rfl,fin⟩) hs
theorem ix_tup : IxR X (rIxT X.K):=by
 intro value slice pins s σ H x y v u Q I rx ry h hs
 obtain ⟨p,xs,i,z,rfl,rfl,hq,he,q⟩:=h
 cases rx;obtain ⟨t,rfl⟩:=ry
 obtain ⟨its,r,pl,hz⟩:=I.tuple hq
 obtain ⟨j,h1,h2,h3,h4,h5⟩:=atI_get he
 obtain ⟨w,ew,rw'⟩:=r.get h2
 have hl:=r.length
 have hn:=tS
 have fin:EP X pins σ Q w s:=⟨z,H,I,rw',q⟩
 exact subscriptTail_builtinR (x:=w) pl.typeIs slot_tuple_getitem.lookup
  (getItem_tuple (j:=j) (Q:=fun r s'=>r=w∧EP X pins σ Q r s') pl (by omega) (by omega) (by rw [List.size_toArray,← hl];exact h1) (by simpa using ew) ⟨rfl,fin⟩) hs
theorem ix_str : IxR X rIxS:=by
 intro value slice pins s σ H x y v u Q I rx ry h hs
 obtain ⟨z,i,c,rfl,rfl,hz,he,q⟩:=h
 obtain ⟨t,rfl⟩:=rx
 obtain ⟨t',rfl⟩:=ry
 obtain ⟨j,h1,h2,h3,h4,h5⟩:=atI_get he
 have hl:z.cps.toList.length=z.length:=by simp [Str.length]
 rw [hl] at h1 h4 h5;have hn:=tS
 exact tail_any (typeIs_str s z t) slot_str_getitem.lookup (getItem_str (c:=c) (by
  have e1:decide (i < -(2 ^ 63:Int))=false:=decide_eq_false (by omega)
  have e2:decide (i≥2 ^ 63)=false:=decide_eq_false (by omega)
  rw [e1,e2,Bool.or_false]) (by rw [h1];simpa using h2) ⟨.str ⟨#[c]⟩,H,I.tok _,⟨_,rfl⟩,q⟩) hs
theorem mapSeq_set (its:List Value)(n j:Nat)(u:Value):Obj.mapSeq (·.setIfInBounds j u) {cls:=.type "list",data:=.seq its.toArray n}={cls:=.type "list",data:=.seq (its.set j u).toArray n}:=by
 simp [Obj.mapSeq]
theorem Inv.lst {pins:List (Addr×Obj)}{σ:St}{H:Hp}{s:Shared}{p:Addr}{xs:List V}(I:Inv X pins σ H s)(h:H p=some (.lst xs)) :
  ∃ (its:List Value) (n:Nat),Vals xs its∧s.heap.get? p=some {cls:=.type "list",data:=.seq its.toArray n}∧xs.length≤sizeLine:=by
 obtain ⟨z,its,n,r,e⟩:=I.hok p _ h
 exact ⟨its,n,r,e,z⟩
theorem Inv.lstUpd {pins:List (Addr×Obj)}{σ:St}{H:Hp}{s:Shared}{p:Addr}{xs ys:List V}{its its':List Value}{n n':Nat}{f:Obj→Obj}(I:Inv X pins σ H s)(h:H p=some (.lst xs))
  (ho:s.heap.get? p=some {cls:=.type "list",data:=.seq its.toArray n}) (hf:f {cls:=.type "list",data:=.seq its.toArray n}={cls:=.type "list",data:=.seq its'.toArray n'}) (r:Vals ys its') (hz:ys.length≤sizeLine) (t:Nat) :
  Inv X pins σ (upd H p (.lst ys)) {s with heap:=s.heap.update p f,toks:=t}:=by
 have e:(s.heap.update p f).get? p=some {cls:=.type "list",data:=.seq its'.toArray n'}:=by
  rw [Heap.get?_update_self f ho (by rw [hf]<;>rfl),hf]
 refine I.write (x:=p) (e:=p) (by rw [h];trivial) (.inl rfl) (fun b u hb q=>(Heap.get?_update_other _ _ (Ne.symm hb)).trans q) ⟨_,e⟩ ?_
 exact ⟨hz,its',n',r,e⟩
def rSetL : V→V→V→Hp→(Hp→Prop)→Prop:=fun o i v H Q=>∃ p xs k j,o = .ref p∧i = .int k∧H p=some (.lst xs)∧ixN xs.length k=some j∧Q (upd H p (.lst (xs.set j v)))
theorem set_list : PSet X rSetL:=by
 intro pins s σ H o i v ov iv u Q I ro ri rv h
 obtain ⟨p,xs,k,j,rfl,rfl,hp,hj,q⟩:=h
 cases ro;obtain ⟨t,rfl⟩:=ri
 obtain ⟨its,n,r,ho,hz⟩:=I.lst hp
 obtain ⟨h1,h2,h3,h4⟩:=ixN_seq hj
 have hl:=r.length
 have hn:=tS
 have I':Inv X pins σ (upd H p (.lst (xs.set j v))) {s with heap:=s.heap.update p (Obj.mapSeq (·.setIfInBounds j u))} :=
  I.lstUpd hp ho (mapSeq_set its n j u) (r.set rv j) (by rw [List.length_set];exact hz) s.toks
 by_cases h0:0≤k
 ·have hk:k.toNat=j:=by
   rw [seqIndex_of h0 h4] at h1;exact Option.some.inj h1
  exact PySem.W.ki_setAt ho h0 (by omega) (by rw [List.size_toArray,← hl];exact h4) (by rw [hk];exact ⟨_,I',q⟩)
 ·have hk:(k+(its.toArray.size:Int)).toNat=j:=by
   rw [seqIndex_neg (by omega) h3] at h1;rw [List.size_toArray,← hl];exact Option.some.inj h1
  exact PySem.W.ki_setBack ho (by omega) (by rw [List.size_toArray,← hl];exact h3) (by omega) (by rw [hk];exact ⟨_,I',q⟩)
theorem slice_bounds (lo hi:Option Int)(n:Nat):(sliceBounds lo hi none n).1=((HT.sIx n 0 lo:Nat):Int)∧(sliceBounds lo hi none n).2.1=((HT.sIx n n hi:Nat):Int)∧(sliceBounds lo hi none n).2.2=1:=by
 refine ⟨?_,?_,rfl⟩
 ·cases lo with
  | none=>simp [sliceBounds,HT.sIx]
  | some i =>
   simp only [sliceBounds,HT.sIx,Option.getD_none,show (1:Int) > 0 by decide,if_true]
   by_cases h:i < 0
   ·simp only [h,if_true]<;>omega
   ·simp only [h,if_false]<;>omega
 ·cases hi with
  | none=>simp [sliceBounds,HT.sIx]
  | some i =>
   simp only [sliceBounds,HT.sIx,Option.getD_none,show (1:Int) > 0 by decide,if_true]
   by_cases h:i < 0
   ·simp only [h,if_true]<;>omega
   ·simp only [h,if_false]<;>omega
theorem slicePick_cut (its:List Value)(lo hi:Option Int):slicePick its.toArray lo hi none=((its.drop (HT.sIx its.length 0 lo)).take (HT.sIx its.length its.length hi - HT.sIx its.length 0 lo)).toArray:=by
 obtain ⟨h1,h2,h3⟩:=slice_bounds lo hi its.toArray.size
 unfold slicePick;rw [h1,h2,h3];simp only [sliceRange_one,pick_run,List.size_toArray]<;>rfl
def rSlL (K:zF):V→Option Int→Option Int→Hp→VK→Prop:=fun x lo hi H Q=>∃ a xs,x = .ref a∧SqL K H a xs∧∀ p,H p=none→Q (.ref p) (upd H p (.lst (tU xs lo hi)))
theorem sl_list : SlR X (rSlL X.K):=by
 intro pins s σ H x v vl vu lo hi sl Q I rx hs pl pu h
 obtain ⟨a,xs,rfl,hx,q⟩:=h
 cases rx;obtain ⟨its,r,ht,hz⟩:=I.list hx
 have hlen:=r.length
 refine ⟨"list",_,slot_list_getitem.lookup,ht.isList.typeIs,?_⟩
 refine wpAny_getItem_list_slice ht.isList hs pl pu .none (by simp) ?_ (by rw [List.size_toArray]<;>omega)
 rw [slicePick_cut,← hlen];refine ⟨.ref s.heap.objs.size,_,I.laid (t':=s.toks) (o:=.lst (tU xs lo hi)) (fun b ob q=>Heap.get?_push_of_some _ q) (Nat.le_refl _) ?_,rfl,q _ (I.hok.fresh (Nat.le_refl _))⟩
 exact ⟨Nat.le_trans (cutV_length xs lo hi) hz,_,0,(r.drop (HT.sIx xs.length 0 lo)).take (HT.sIx xs.length xs.length hi - HT.sIx xs.length 0 lo),Heap.get?_push_size _ rfl⟩
def flatV : V→Bool
 | .non=>true
 | .bl _=>true
 | .int _=>true
 | .str _=>true
 | _=>false
def eqV : V→V→Bool
 | .non,.non=>true
 | .bl a,.bl b=>a==b
 | .bl a,.int b=>(if a then 1 else 0)==b
 | .int a,.bl b=>a==(if b then 1 else 0)
 | .int a,.int b=>a==b
 | .str a,.str b=>a==b
 | _,_=>false
theorem eqAt_V {A:Around}{s:Shared}{y x:V}{u v:Value}(ry:RelV y u)(rx:RelV x v)(fy:flatV y=true)(fx:flatV x=true):SeqAt.EqAt A s u v (eqV y x):=by
 cases y with
 | non =>
  cases ry
  cases x with
  | non=>cases rx;exact SeqAt.EqAt.same _
  | bl b=>cases rx;exact SeqAt.EqAt.none_bool b
  | int b=>obtain ⟨t,rfl⟩:=rx;exact SeqAt.EqAt.none_int b t
  | str b=>obtain ⟨t,rfl⟩:=rx;exact SeqAt.EqAt.none_str b t
  | _=>exact absurd (show false=true from fx) Bool.false_ne_true
 | bl a =>
  cases ry
  cases x with
  | non=>cases rx;exact SeqAt.EqAt.bool_none a
  | bl b=>cases rx;exact SeqAt.EqAt.bool_bool a b
  | int b=>obtain ⟨t,rfl⟩:=rx;exact SeqAt.EqAt.bool_int a b t
  | str b=>obtain ⟨t,rfl⟩:=rx;exact SeqAt.EqAt.bool_str a b t
  | _=>exact absurd (show false=true from fx) Bool.false_ne_true
 | int a =>
  obtain ⟨t',rfl⟩:=ry
  cases x with
  | non=>cases rx;exact SeqAt.EqAt.int_none a t'
  | bl b=>cases rx;exact SeqAt.EqAt.int_bool a t' b
  | int b=>obtain ⟨t,rfl⟩:=rx;exact SeqAt.EqAt.int_int a t' b t
  | str b=>obtain ⟨t,rfl⟩:=rx;exact SeqAt.EqAt.int_str a t' b t
  | _=>exact absurd (show false=true from fx) Bool.false_ne_true
 | str a =>
  obtain ⟨t',rfl⟩:=ry
  cases x with
  | non=>cases rx;exact SeqAt.EqAt.str_none a t'
  | bl b=>cases rx;exact SeqAt.EqAt.str_bool a t' b
  | int b=>obtain ⟨t,rfl⟩:=rx;exact SeqAt.EqAt.str_int a t' b t
  | str b=>obtain ⟨t,rfl⟩:=rx;exact SeqAt.EqAt.str_str a t' b t
  | _=>exact absurd (show false=true from fx) Bool.false_ne_true
 | _=>exact absurd (show false=true from fy) Bool.false_ne_true
def eqU (x:V)(u:Value):Bool:=match u with
 | .none=>eqV .non x
 | .bool b=>eqV (.bl b) x
 | .int i _=>eqV (.int i) x
 | .str z _=>eqV (.str z) x
 | _=>false
theorem eqU_of {x y:V}{u:Value}(r:RelV y u)(f:flatV y=true):eqU x u=eqV y x:=by
 cases y with
 | non=>cases r;rfl
 | bl b=>cases r;rfl
 | int i=>obtain ⟨t,rfl⟩:=r;rfl
 | str z=>obtain ⟨t,rfl⟩:=r;rfl
 | _=>exact absurd (show false=true from f) Bool.false_ne_true
theorem any_eqU {x:V}:∀ {xs:List V} {us:List Value},Vals xs us→xs.all flatV=true→us.any (eqU x)=xs.any fun y=>eqV y x
 | _,_,.nil,_=>rfl
 | y::xs,u::us,.cons r t,f=>by
  rw [List.all_cons,Bool.and_eq_true] at f;rw [List.any_cons,List.any_cons,eqU_of r f.1,any_eqU t f.2]
theorem mem_eqAt {A:Around}{s:Shared}{x:V}{v:Value}(rx:RelV x v)(fx:flatV x=true):∀ {xs:List V} {us:List Value},Vals xs us→xs.all flatV=true→∀ u∈us,SeqAt.EqAt A s u v (eqU x u)
 | _,_,.nil,_=>fun u hu=>by cases hu
 | y::xs,u::us,.cons r t,f=>fun u' hu=>by
  rw [List.all_cons,Bool.and_eq_true] at f;rcases List.mem_cons.mp hu with rfl | hu
  ·rw [eqU_of r f.1];exact eqAt_V r rx f.1 fx
  ·exact mem_eqAt rx fx t f.2 u' hu
def inV (x:V)(xs:List V):Bool:=xs.any fun y=>eqV y x
def rIn (K:zF)(neg:Bool):R2:=fun x y H Q=>∃ p xs,y = .ref p∧(SqL K H p xs∨SqT K H p xs)∧flatV x=true∧xs.all flatV=true∧Q (.bl (if neg then !inV x xs else inV x xs)) H
theorem op_in_seq : tW X (compareOp .In) (rIn X.K false):=by
 intro pins s σ H x y v u Q I rx ry h
 obtain ⟨p,xs,rfl,hq,fx,fs,q⟩:=h
 cases ry;rcases hq with hq | hq
 ·obtain ⟨its,r,pl,hz⟩:=I.list hq
  refine SeqAt.in_listAt (eqU x) pl.isList (fun w hw=>mem_eqAt rx fx r fs w (by simpa using hw)) ⟨.bl _,H,I,rfl,?_⟩
  rw [show its.toArray.any (eqU x)=its.any (eqU x) by simp,any_eqU r fs];exact q
 ·obtain ⟨its,r,pl,hz⟩:=I.tuple hq
  refine SeqAt.in_tupleAt (eqU x) pl (fun w hw=>mem_eqAt rx fx r fs w (by simpa using hw)) ⟨.bl _,H,I,rfl,?_⟩
  rw [show its.toArray.any (eqU x)=its.any (eqU x) by simp,any_eqU r fs];exact q
theorem call_len_seq : vC X (.builtin "len") (fun xs H Q=>∃ p ys,xs=[.ref p]∧(SqL X.K H p ys∨SqT X.K H p ys)∧Q (.int ys.length) H):=by
 intro pins s σ H xs us Q I r h
 obtain ⟨p,ys,rfl,hq,q⟩:=h
 obtain ⟨u,rfl,rx⟩:=vals1 r
 cases rx;have hn:=tS
 rcases hq with hq | hq
 ·obtain ⟨its,r',pl,hz⟩:=I.list hq
  have hlen:=r'.length
  exact Calls.call_len_list pl.isList (by simp only [List.size_toArray]<;>omega) ⟨.int ys.length,H,I.tok _,⟨s.toks+1,by rw [List.size_toArray,hlen]⟩,q⟩
 ·obtain ⟨its,r',pl,hz⟩:=I.tuple hq
  have hlen:=r'.length
  exact len_tuple pl (by simp only [List.size_toArray]<;>omega) ⟨.int ys.length,H,I.tok _,⟨s.toks+1,by rw [List.size_toArray,hlen]⟩,q⟩
theorem call_len_str : vC X (.builtin "len") (fun xs H Q=>∃ z,xs=[.str z]∧z.length≤sizeLine∧Q (.int z.length) H):=by
 intro pins s σ H xs us Q I r h
 obtain ⟨z,rfl,hz,q⟩:=h
 obtain ⟨u,rfl,t,rfl⟩:=vals1 r
 have hn:=tS
 exact len_str (by omega) ⟨.int z.length,H,I.tok _,⟨_,rfl⟩,q⟩
def tyV (K:zF)(T:String)(x:V)(H:Hp):Prop:=match x with
 | .str _=>T="str"
 | .int _=>T="int"
 | .ref p=>(T="list"∧∃ xs,SqL K H p xs)∨(T="tuple"∧∃ o,K.lookup p=some o∧o.cls = .type "tuple"∧o.dict=none) ∨
   (T="dict"∧((∃ kvs,H p=some (.dK kvs))∨∃ kvs,H p=some (.dT kvs)))∨(T="set"∧∃ S n,H p=some (.set S n))
 | _=>False
theorem tyV_is {pins:List (Addr×Obj)}{σ:St}{H:Hp}{s:Shared}{T:String}{x:V}{v:Value}(I:Inv X pins σ H s)(r:RelV x v)(ty:tyV X.K T x H) :
  s.TypeIs v T∧∀ a,v = .ref a→∃ ob,s.heap.get? a=some ob∧ob.dict=none:=by
 cases x with
 | str z =>
  obtain ⟨t,rfl⟩:=r
  cases (show T="str" from ty)
  exact ⟨typeIs_str s z t,fun _ e=>nomatch e⟩
 | int i =>
  obtain ⟨t,rfl⟩:=r
  cases (show T="int" from ty)
  exact ⟨typeIs_int s i t,fun _ e=>nomatch e⟩
 | ref p =>
  cases r;rcases ty with ⟨rfl,xs,hq⟩ | ⟨rfl,o,hk,hc,hd⟩ | ⟨rfl,hk⟩ | ⟨rfl,S,n,hk⟩
  ·obtain ⟨its,_,pl,_⟩:=I.list hq
   refine ⟨pl.isList.typeIs,fun a e=>?_⟩
   cases e;obtain ⟨o,n,e,c,hd,_⟩:=pl
   exact ⟨o,e,hd⟩
  ·refine ⟨⟨o,I.kIn p o hk,hc⟩,fun a e=>?_⟩
   cases e;exact ⟨o,I.kIn _ o hk,hd⟩
  ·have z:∃ o,s.heap.get? p=some o∧o.ExactDict:=by
    rcases hk with ⟨kvs,hk⟩ | ⟨kvs,hk⟩
    ·obtain ⟨_,_,_,_,o,_,_,e,ex,_⟩:=I.hok p _ hk
     exact ⟨o,e,ex⟩
    ·obtain ⟨_,_,_,_,o,_,_,e,ex,_⟩:=I.hok p _ hk
     exact ⟨o,e,ex⟩
   obtain ⟨o,e,ex⟩:=z
   refine ⟨⟨o,e,ex.1⟩,fun a e2=>?_⟩
   cases e2;exact ⟨o,e,ex.2.1⟩
  ·obtain ⟨o,_,_,_,e,ex,_⟩:=I.hok p _ hk
   refine ⟨⟨o,e,ex.1⟩,fun a e2=>?_⟩
   cases e2;exact ⟨o,e,ex.2.1⟩
 | _=>exact False.elim ty
def tBM0 (K:zF)(T:String)(r:V→List V→Hp→VK→Prop)(to:TE):TE:=fun σ H Q=>to σ H fun x H1=>tyV K T x H1∧r x [] H1 Q
def tBM (K:zF)(T:String)(r:V→List V→Hp→VK→Prop)(to:TE)(t:TA):TE:=fun σ H Q=>to σ H fun x H1=>tyV K T x H1∧t σ H1 fun xs H2=>r x xs H2 Q
variable {o e:Expr}{es:List Expr}{to:TE}{t:TA}{name:Str}{apos cpos:Pos}{T id:String}{r:V→List V→Hp→VK→Prop}
theorem pe_bm0 (pa:PlainAttrs T)(slot:Slot T name id)(hty:typeOf (.builtin id)=pure (.type "method_descriptor"))(hm:MtR X id r)(ho:PE X o to)
  (hbase:attributeBase o name X.env (eval o X.env)=eval o X.env:=by rfl) (hline:(apos.endLine==cpos.line)=true:=by rfl):PE X (.Call (.Attribute o name apos) [] [] cpos) (tBM0 X.K T r to):=by
 intro pins s σ H Q I h
 refine wpAny_Call_method0_late hbase hline (xE (ho pins s σ H _ I h) fun v s1 ⟨x,H1,I1,r1,ty,q1⟩=>?_)
 obtain ⟨h1,h2⟩:=tyV_is I1 r1 ty
 exact ⟨T,id,pa,slot,hty,h1,h2,Calls.callWith_builtin rfl (PySem.evalArgs_none (hm pins s1 σ H1 x [] v [] Q I1 r1 .nil q1))⟩
theorem pe_bm (pa:PlainAttrs T)(slot:Slot T name id)(hty:typeOf (.builtin id)=pure (.type "method_descriptor"))(hm:MtR X id r)(ho:PE X o to)(ha:PA X (e::es) t)
  (hbase:attributeBase o name X.env (eval o X.env)=eval o X.env:=by rfl)
  (hfew:((backTo cpos (starEach (e::es) X.env)).all (fun x=>!x.1)&&(backToKw cpos (keywordEach [] X.env)).all (fun x=>x.1.isSome)
   && decide ((e::es).length+([]:List Keyword).length+(if ([]:List Keyword).isEmpty then 0 else 1) < 30))=true:=by rfl)
  (hline:(apos.endLine==cpos.line)=true:=by rfl) (hs:starEach (e::es) X.env=(false,eval e X.env)::starEach es X.env:=by rfl) (hplain:(backTo cpos (starEach es X.env)).any (·.1)=false:=by rfl) :
  PE X (.Call (.Attribute o name apos) (e::es) [] cpos) (tBM X.K T r to t):=by
 intro pins s σ H Q I h
 refine wpAny_Call_method_late hbase hfew hline rfl (xE (ho pins s σ H _ I h) fun v s1 ⟨x,H1,I1,r1,ty,q1⟩=>?_)
 obtain ⟨h1,h2⟩:=tyV_is I1 r1 ty
 refine ⟨T,id,pa,slot,hty,h1,h2,?_⟩
 have hA:=ha cpos pins s1 σ H1 _ I1 q1
 rw [hs] at hA ⊢;refine Calls.callWith_builtin (by show (false||(backTo cpos (starEach es X.env)).any (·.1))=false;rw [hplain]<;>rfl) (Calls.evalArgs_plain ?_)
 exact xE hA fun us s2 ⟨vs,H2,I2,r2,q2⟩=>hm pins s2 σ H2 x vs v us Q I2 r1 r2 q2
end
end L2
namespace L2
open PySem PySem.Spec PyProof.Rows
def MtM (X:Cx)(id:String)(r:V→List V→Hp→VK→Prop):Prop :=
 ∀ (pins:List (Addr×Obj)) (s:Shared) (σ:St) (H:Hp) (x:V) (xs:List V) (v:Value) (us:List Value) (Q:VK),Inv X pins σ H s→RelV x v→Vals xs us→r x xs H Q →
  wpAny (model X.prog X.w) X.A (call (.builtin id) (v::us)) (EP X pins σ Q) X.xe s
theorem Vals.one : ∀ {x:V} {us:List Value},Vals [x] us→∃ u,us=[u]∧RelV x u
 | _,_,.cons r .nil=>⟨_,rfl,r⟩
theorem Vals.zero : ∀ {us:List Value},Vals [] us→us=[]
 | _,.nil=>rfl
theorem Vals.dropLast {xs:List V}{us:List Value}(h:Vals xs us):Vals xs.dropLast us.dropLast:=by
 induction h with
 | nil=>exact .nil
 | cons r t ih =>
  cases t with
  | nil=>exact .nil
  | cons q t'=>exact .cons r ih
theorem Vals.eraseIdx : ∀ {xs:List V} {us:List Value} (i:Nat),Vals xs us→Vals (xs.eraseIdx i) (us.eraseIdx i)
 | _,_,_,.nil=>.nil
 | _,_,0,.cons _ t=>t
 | _,_,i+1,.cons r t=>.cons r (Vals.eraseIdx i t)
theorem Vals.rep {xs:List V}{us:List Value}(h:Vals xs us):∀ k:Nat,Vals (List.replicate k xs).flatten (List.replicate k us).flatten
 | 0=>.nil
 | k+1=>by
  rw [List.replicate_succ,List.replicate_succ,List.flatten_cons,List.flatten_cons];exact Vals.append h (Vals.rep h k)
theorem erase_last {α:Type}(l:List α):l.eraseIdx (l.length - 1)=l.dropLast:=by
 induction l with
 | nil=>rfl
 | cons a r ih =>
  cases r with
  | nil=>rfl
  | cons b r =>
   have e:(a::b::r).length - 1=((b::r).length - 1)+1:=by
    have h1:(a::b::r).length=r.length+2:=rfl
    have h2:(b::r).length=r.length+1:=rfl
    omega
   rw [e,List.eraseIdx_cons_succ,ih]
   all_goals rfl
theorem foldl_rep (its:List Value):∀ (k:Nat) (acc:List Value),
  List.foldl (fun x1 x2=>x1++x2) acc.toArray (List.replicate k its.toArray)=(acc++(List.replicate k its).flatten).toArray
 | 0,acc=>by simp
 | k+1,acc=>by
  have e:acc.toArray++its.toArray=(acc++its).toArray:=by simp
  have e2:(acc++its)++(List.replicate k its).flatten=acc++(List.replicate (k+1) its).flatten:=by
   rw [List.replicate_succ,List.flatten_cons,List.append_assoc]
  rw [← e2,← foldl_rep its k (acc++its),← e,List.replicate_succ,List.foldl_cons]
section
variable {X:Cx}{pins:List (Addr×Obj)}{σ:St}{H:Hp}{s:Shared}{l b:Addr}{xs ys zs:List V}
theorem Inv.lset {its its':List Value}{n:Nat}{f:Array Value→Array Value}{t':Nat}(I:Inv X pins σ H s)(hH:H l=some (.lst xs))
  (e:s.heap.get? l=some {cls:=.type "list",data:=.seq its.toArray n}) (hf:f its.toArray=its'.toArray) (hv:Vals ys its') (hz:ys.length≤sizeLine) :
  Inv X pins σ (upd H l (.lst ys)) {s with heap:=s.heap.update l (Obj.mapSeq f),toks:=t'}:=by
 have q:=PySem.IsL.update e f
 rw [hf] at q;refine I.write (x:=l) (e:=l) (by rw [hH];exact trivial) (.inl rfl) (fun b' u hb hu=>(Heap.get?_update_other s.heap (Obj.mapSeq f) (Ne.symm hb)).trans hu) ⟨_,q⟩ ?_
 exact ⟨hz,its',_,hv,q⟩
theorem Inv.lnew {its:List Value}{t':Nat}(I:Inv X pins σ H s)(hv:Vals ys its)(hz:ys.length≤sizeLine) :
  Inv X pins σ (upd H s.heap.objs.size (.lst ys)) {s with heap:=s.heap.push {cls:=.type "list",data:=.seq its.toArray},toks:=t'} :=
 I.laid (fun _ _ q=>Heap.get?_push_of_some _ q) (Nat.le_refl _) ⟨hz,its,0,hv,Heap.get?_push_size _ rfl⟩
theorem Inv.fresh (I:Inv X pins σ H s):H s.heap.objs.size=none:=I.hok.fresh (Nat.le_refl _)
theorem Inv.lstM (I:Inv X pins σ H s)(hH:H l=some (.lst xs)):xs.length≤sizeLine∧∃ (its:List Value) (n:Nat),Vals xs its∧xs.length=its.length∧s.heap.get? l=some {cls:=.type "list",data:=.seq its.toArray n}:=by
 obtain ⟨z,its,n,r,e⟩:=I.hok l _ hH
 exact ⟨z,its,n,r,r.length,e⟩
theorem notLongL {n:Nat}(h:n≤sizeLine):Builtin.List.listTooLong n=false:=by
 unfold Builtin.List.listTooLong;exact decide_eq_false (by omega)
end
section
variable {X:Cx}
def rAppend : V→List V→Hp→VK→Prop:=fun x vs H Q=>∃ l xs y,x = .ref l∧vs=[y]∧H l=some (.lst xs)∧xs.length < sizeLine∧Q .non (upd H l (.lst (xs++[y])))
theorem yM : MtM X "list.append" rAppend:=by
 intro pins s σ H x vs v us Q I rx rv h
 obtain ⟨l,xs,y,rfl,rfl,hH,hz,q⟩:=h
 cases rx;obtain ⟨u,rfl,ru⟩:=rv.one
 obtain ⟨z,its,n,r,hl,e⟩:=I.lstM hH
 refine call_meets F.slot_list_append ⟨_,e,rfl⟩ F.entry_list_append (F.args_list_append_2 _ _) (PySem.list_append l its.toArray n u (by rw [List.size_toArray];omega)) ⟨e,?_⟩
 refine ⟨.non,_,I.lset (its':=its++[u]) hH e (by simp) (r.append (.cons ru .nil)) ?_,rfl,q⟩
 rw [List.length_append,List.length_singleton];omega
def rExtend : V→List V→Hp→VK→Prop:=fun x vs H Q=>∃ l b xs zs,x = .ref l∧vs=[.ref b]∧H l=some (.lst xs)∧H b=some (.lst zs)∧xs.length+zs.length≤sizeLine∧Q .non (upd H l (.lst (xs++zs)))
theorem wW : MtM X "list.extend" rExtend:=by
 intro pins s σ H x vs v us Q I rx rv h
 obtain ⟨l,b,xs,zs,rfl,rfl,hH,hB,hz,q⟩:=h
 cases rx;obtain ⟨u,rfl,ru⟩:=rv.one
 cases ru;obtain ⟨z,its,n,r,hl,e⟩:=I.lstM hH
 obtain ⟨z2,its2,n2,r2,hl2,e2⟩:=I.lstM hB
 have hsz:its.toArray.size+its2.toArray.size≤sizeLine:=by rw [List.size_toArray,List.size_toArray];omega
 have hlong:¬ (!its.toArray.isEmpty&&Builtin.List.listTooLong (its.toArray.size+its2.toArray.size))=true:=by
  rw [notLongL hsz,Bool.and_false];exact Bool.false_ne_true
 refine call_meets F.slot_list_extend ⟨_,e,rfl⟩ F.entry_list_extend (F.args_list_extend_2 _ _)
  (AutoSeq1.list_extend_list_list_0 l its.toArray n b its2.toArray n2 hlong (by rw [List.size_toArray];omega) (by omega)) ⟨e,e2,?_⟩
 refine ⟨.non,_,I.lset (its':=its++its2) hH e (by simp) (r.append r2) ?_,rfl,q⟩
 rw [List.length_append];omega
def rPop : V→List V→Hp→VK→Prop:=fun x vs H Q=>∃ l xs y,x = .ref l∧vs=[]∧H l=some (.lst xs)∧xs[xs.length - 1]? = some y∧Q y (upd H l (.lst xs.dropLast))
theorem mt_pop : MtM X "list.pop" rPop:=by
 intro pins s σ H x vs v us Q I rx rv h
 obtain ⟨l,xs,y,rfl,rfl,hH,hy,q⟩:=h
 cases rx;have hus:=rv.zero
 subst hus;obtain ⟨z,its,n,r,hl,e⟩:=I.lstM hH
 obtain ⟨u,hu,ru⟩:=r.get hy
 have hy':its.toArray[its.toArray.size - 1]? = some u:=by
  show its.toArray[its.length - 1]? = some u
  rw [← Array.getElem?_toList,← hl];exact hu
 refine call_meets F.slot_list_pop ⟨_,e,rfl⟩ F.entry_list_pop (F.args_list_pop_1 _) (MeetsSeq.list_pop_last l its.toArray n u hy' (by rw [List.size_toArray];omega)) ⟨e,?_⟩
 refine ⟨y,_,I.lset (its':=its.dropLast) hH e ?_ r.dropLast ?_,ru,q⟩
 ·show its.toArray.eraseIdxIfInBounds (its.toArray.size - 1)=its.dropLast.toArray
  rw [List.size_toArray,List.eraseIdxIfInBounds_toArray,erase_last]
 ·rw [List.length_dropLast]
  omega
def rCat : R2:=fun x y H Q=>∃ l b xs zs,x = .ref l∧y = .ref b∧H l=some (.lst xs)∧H b=some (.lst zs)∧xs.length+zs.length≤sizeLine∧∀ p,H p=none→Q (.ref p) (upd H p (.lst (xs++zs)))
theorem wH : tW X (binaryOp .Add) rCat:=by
 intro pins s σ H x y v u Q I rx ry h
 obtain ⟨l,b,xs,zs,rfl,rfl,hH,hB,hz,q⟩:=h
 cases rx;cases ry;obtain ⟨z,its,n,r,hl,e⟩:=I.lstM hH
 obtain ⟨z2,its2,n2,r2,hl2,e2⟩:=I.lstM hB
 refine PySem.P.add_list e e2 ?_ (by rw [List.size_toArray,List.size_toArray];omega)
 have ea:its.toArray++its2.toArray=(its++its2).toArray:=by simp
 rw [ea];exact ⟨.ref _,_,I.lnew (t':=s.toks) (r.append r2) (by rw [List.length_append];omega),rfl,q _ I.fresh⟩
def rRep : R2:=fun x y H Q=>∃ l k xs,x = .ref l∧y = .int k∧H l=some (.lst xs)∧-(2 ^ 63)≤k∧k < 2 ^ 63∧xs.length * k.toNat≤sizeLine ∧
 ∀ p,H p=none→Q (.ref p) (upd H p (.lst (List.replicate k.toNat xs).flatten))
theorem len_rep {α:Type}(xs:List α)(k:Nat):(List.replicate k xs).flatten.length=k * xs.length:=by
 induction k with
 | zero=>simp
 | succ k ih=>rw [List.replicate_succ,List.flatten_cons,List.length_append,ih,Nat.succ_mul,Nat.add_comm]
theorem op_rep : tW X (binaryOp .Mult) rRep:=by
 intro pins s σ H x y v u Q I rx ry h
 obtain ⟨l,k,xs,rfl,rfl,hH,h1,h2,hz,q⟩:=h
 cases rx;obtain ⟨t,rfl⟩:=ry
 obtain ⟨z,its,n,r,hl,e⟩:=I.lstM hH
 have hlen:its.toArray.size * k.toNat≤sizeLine:=by rw [List.size_toArray,← hl];exact hz
 have hcap:¬ its.toArray.size * k.toNat > (2 ^ 63 - 1) / 8:=by
  have : (sizeLine:Nat)≤(2 ^ 63 - 1) / 8:=by decide
  omega
 have hfit:¬ (!Builtin.List.listFitsIndex k)=true:=by
  rw [fitsIndex_both h1 h2];exact Bool.false_ne_true
 have hlong:¬ Builtin.List.listTooLong (its.toArray.size * k.toNat)=true:=by
  rw [notLongL hlen];exact Bool.false_ne_true
 have hnew:List.foldl (fun x1 x2=>x1++x2) #[] (List.replicate (if its.toArray.isEmpty=true then 0 else k.toNat) its.toArray)=(List.replicate k.toNat its).flatten.toArray:=by
  have f0:∀ m:Nat,List.foldl (fun x1 x2=>x1++x2) #[] (List.replicate m its.toArray)=(List.replicate m its).flatten.toArray:=fun m=>by
   have:=foldl_rep its m []
   rw [List.nil_append] at this;exact this
  rw [f0]
  cases its with
  | nil=>simp
  | cons a r'=>rw [if_neg (by simp)]
 refine wpAny_binaryOp_repeat_ref (T:="list") (U:="int") (by decide) ⟨_,e,rfl⟩ (fun s'=>typeIs_int s' k t) noFill_list_mul F.fills_int_mul F.slot_int_rmul repeat_list F.slot_int_index.lookup
  (call_meets F.slot_int_rmul (typeIs_int s k t) F.entry_int_rmul (F.args_int_rmul_2 _ _) (int___rmul___int_list k t l its.toArray n)
   ⟨e,rfl,⟨_,e,rfl⟩,call_meets F.slot_list_mul ⟨_,e,rfl⟩ F.entry_list_mul (F.args_list_mul_2 _ _) (AutoListH.list___mul___list_int_3 l its.toArray n k t hfit hcap hlong) ⟨e,?_⟩⟩)
 rw [hnew];exact ⟨.ref _,_,I.lnew (t':=s.toks) (r.rep k.toNat) (by rw [len_rep,Nat.mul_comm];exact hz),rfl,q _ I.fresh⟩
end
section
variable {prog:Program}{w:World}{A:Around}{E:Value→Shared→Prop}{s:Shared}
set_option maxRecDepth 100000 in
end
section
variable {X:Cx}
end
end L2
namespace L2
open PySem PySem.Spec PyProof.Rows
theorem Vals.ints : ∀ {ns:List Int} {us:List Value},Vals (ns.map V.int) us→IntsAre us ns
 | [],us,h=>by
  rw [List.map_nil] at h;cases h;exact IntsAre.nil
 | n::ns,us,h=>by
  rw [List.map_cons] at h
  cases h with
  | cons r t =>
   obtain ⟨k,rfl⟩:=r
   exact IntsAre.cons n k (Vals.ints t)
theorem Vals.bls : ∀ {bs:List Bool} {us:List Value},Vals (bs.map V.bl) us→us=bs.map Value.bool
 | [],us,h=>by
  rw [List.map_nil] at h;cases h;rfl
 | b::bs,us,h=>by
  rw [List.map_cons] at h
  cases h with
  | cons r t =>
   cases r;rw [Vals.bls t,List.map_cons]
theorem Vals.ref1 {a:Addr}{us:List Value}(r:Vals [V.ref a] us):us=[Value.ref a]:=by
 cases r with
 | cons r t =>
  cases t;cases r;rfl
section
variable {prog:Program}{w:World}{A:Around}{E:Value→Shared→Prop}{s:Shared}{l:Addr}{its:List Value}{ns:List Int}{Q:Value→Shared→Prop}
theorem sum_raw (hh:A.handled=none)(hl:s.heap.IsList l its.toArray)(hi:IntsAre its ns)
  (h:∀ h' tk t',(∀ b o,s.heap.get? b=some o→h'.get? b=some o)→Q (.int ns.sum t') {s with heap:=h',toks:=tk}):wpAny (model prog w) A (call (.builtin "sum") [.ref l]) Q E s:=by
 obtain ⟨xs,e⟩:=hi.allInts.items
 have hn:numsOf (intItems xs).toList=ns:=by rw [← e];exact hi.numsOf
 rw [nums_intItems] at hn;rw [e] at hl;refine PySem.sum_intListG hh hl fun h' tk t' hk=>?_
 have:=h h' tk t' hk
 rw [preSum_eq,List.take_of_length_le (by simp),hn];exact this
theorem max_raw (hh:A.handled=none)(hl:s.heap.IsList l its.toArray)(hi:IntsAre its ns)(hne:0 < ns.length)
  (h:∀ h' tk M t',(∀ b o,s.heap.get? b=some o→h'.get? b=some o)→M∈ns→(∀ a,a∈ns→a≤M)→Q (.int M t') {s with heap:=h',toks:=tk}):wpAny (model prog w) A (call (.builtin "max") [.ref l]) Q E s:=by
 obtain ⟨xs,e⟩:=hi.allInts.items
 have hn:numsOf (intItems xs).toList=ns:=by rw [← e];exact hi.numsOf
 rw [nums_intItems] at hn;subst hn;rw [e] at hl;have hsz:0 < xs.size:=by simpa using hne
 refine PySem.max_intList hh hl hsz fun v h' tk hv hk=>?_
 obtain ⟨t,rfl⟩:=intItems_at hv
 obtain ⟨h1,h2⟩:=argBest_gt (numAt xs) (xs.size - 1)
 refine h h' tk _ t hk ?_ fun a ha=>?_
 ·rw [numAt_eq];exact PySem.getD_mem (by rw [List.length_map,Array.length_toList];omega)
 ·obtain ⟨j,hj,rfl⟩:=mem_getD ha
  rw [List.length_map,Array.length_toList] at hj;rw [← numAt_eq];exact h2 j (by omega)
end
section
variable {X:Cx}
def rSum (K:zF):List V→Hp→VK→Prop:=fun vs H Q=>∃ (a:Addr) (ns:List Int),vs=[V.ref a]∧SqL K H a (ns.map V.int)∧Q (.int ns.sum) H
def rMax (K:zF):List V→Hp→VK→Prop:=fun vs H Q=>∃ (a:Addr) (ns:List Int),vs=[V.ref a]∧SqL K H a (ns.map V.int)∧0 < ns.length∧∀ m,m∈ns→(∀ y,y∈ns→y≤m)→Q (.int m) H
theorem cr_sum (hc:X.calm=true):vC X (.builtin "sum") (rSum X.K):=by
 intro pins s σ H vs us Q I r h
 obtain ⟨a,ns,rfl,hs,q⟩:=h
 obtain ⟨its,rv,hl,_⟩:=I.list hs
 rw [Vals.ref1 r];exact sum_raw (I.ok.hd hc) hl.isList rv.ints fun h' tk t' hk=>⟨.int _,H,I.kept hk,⟨_,rfl⟩,q⟩
theorem cr_max (hc:X.calm=true):vC X (.builtin "max") (rMax X.K):=by
 intro pins s σ H vs us Q I r h
 obtain ⟨a,ns,rfl,hs,hne,q⟩:=h
 obtain ⟨its,rv,hl,_⟩:=I.list hs
 rw [Vals.ref1 r];exact max_raw (I.ok.hd hc) hl.isList rv.ints hne fun h' tk m t' hk h1 h2=>⟨.int _,H,I.kept hk,⟨_,rfl⟩,q m h1 h2⟩
end
section
variable {X:Cx}
end
section
variable {X:Cx}
end
theorem iter_any {prog:Program}{w:World}{A:Around}{E:Value→Shared→Prop}{s:Shared}{l:Addr}{items:Array Value}{Q:Value→Shared→Prop}(hl:s.heap.IsList l items)
  (h:∀ s₂:Shared,s₂={s with heap:=s.heap.push {cls:=.type "list_iterator",data:=.fields #[.ref l,.int 0 0]}} →
   (s₂.heap.IsListIter s.heap.objs.size l 0∧s₂.heap.IsList l items)→l≠s.heap.objs.size→Q (.ref s.heap.objs.size) s₂):wpAny (model prog w) A (pyIter (.ref l)) Q E s:=by
 have hlt:l < s.heap.objs.size:=by obtain ⟨_,e,_⟩:=hl;exact Heap.lt_size e
 exact wpAny_pyIter_list hl (h _ rfl ⟨⟨_,Heap.get?_push_size _ rfl,rfl,rfl⟩,hl.push _⟩ (Nat.ne_of_lt hlt))
theorem truth_bools {prog:Program}{w:World}{A:Around}{bs:List Bool}{its:List Value}(e:its=bs.map Value.bool) :
  TruthOf prog w A (fun i v=>its.toArray[i]? = some v) (fun i=>bs.getD i false):=fun i v s Q E hv hq=>by
 have hv':its[i]? = some v:=by simpa using hv
 rw [e,List.getElem?_map] at hv';obtain ⟨b,hb,rfl⟩:=Option.map_eq_some_iff.mp hv'
 have hg:bs.getD i false=b:=by rw [List.getD_eq_getElem?_getD,hb]<;>rfl
 have hq':Q (bs.getD i false) s:=hq
 rw [hg] at hq';exact wpAny_truthy_bool hq'
theorem any_range : ∀ bs:List Bool,(List.range bs.length).any (fun i=>bs.getD i false)=bs.any id
 | []=>rfl
 | b::bs=>by
  rw [List.length_cons,List.range_succ_eq_map,List.any_cons,List.any_map,List.any_cons,← any_range bs]
  all_goals rfl
theorem all_range : ∀ bs:List Bool,(List.range bs.length).all (fun i=>bs.getD i false)=bs.all id
 | []=>rfl
 | b::bs=>by
  rw [List.length_cons,List.range_succ_eq_map,List.all_cons,List.all_map,List.all_cons,← all_range bs]
  all_goals rfl
section
variable {X:Cx}
def rAny (K:zF):List V→Hp→VK→Prop:=fun vs H Q=>∃ (a:Addr) (bs:List Bool),vs=[V.ref a]∧SqL K H a (bs.map V.bl)∧Q (.bl (bs.any id)) H
def rAll (K:zF):List V→Hp→VK→Prop:=fun vs H Q=>∃ (a:Addr) (bs:List Bool),vs=[V.ref a]∧SqL K H a (bs.map V.bl)∧Q (.bl (bs.all id)) H
theorem cr_any (hc:X.calm=true):vC X (.builtin "any") (rAny X.K):=by
 intro pins s σ H vs us Q I r h
 obtain ⟨a,bs,rfl,hs,q⟩:=h
 obtain ⟨its,rv,hl,_⟩:=I.list hs
 rw [Vals.ref1 r];have hb:=rv.bls
 refine call_any_walk (iter_any hl.isList fun s₂ e2 st hne=>?_)
 subst e2;refine ⟨_,_,_,_,_,_,_,rfl,Walks.list (A:=X.A.in1) (I.ok.hd hc) _ a hne its.toArray,st,truth_bools hb,fun h' tk hk=>?_⟩
 refine ⟨.bl _,H,I.kept fun b o eo=>hk b o (fun hmem=>?_) (Heap.get?_push_of_some _ eo),?_,q⟩
 ·rcases List.mem_cons.mp hmem with e1 | hmem
  ·exact absurd (e1 ▸ Heap.lt_size eo) (Nat.lt_irrefl _)
  ·cases hmem
 ·show Value.bool _=Value.bool _
  rw [← any_range,hb,List.size_toArray,List.length_map]
theorem cr_all (hc:X.calm=true):vC X (.builtin "all") (rAll X.K):=by
 intro pins s σ H vs us Q I r h
 obtain ⟨a,bs,rfl,hs,q⟩:=h
 obtain ⟨its,rv,hl,_⟩:=I.list hs
 rw [Vals.ref1 r];have hb:=rv.bls
 refine call_all_walk (iter_any hl.isList fun s₂ e2 st hne=>?_)
 subst e2;refine ⟨_,_,_,_,_,_,_,rfl,Walks.list (A:=X.A.in1) (I.ok.hd hc) _ a hne its.toArray,st,truth_bools hb,fun h' tk hk=>?_⟩
 refine ⟨.bl _,H,I.kept fun b o eo=>hk b o (fun hmem=>?_) (Heap.get?_push_of_some _ eo),?_,q⟩
 ·rcases List.mem_cons.mp hmem with e1 | hmem
  ·exact absurd (e1 ▸ Heap.lt_size eo) (Nat.lt_irrefl _)
  ·cases hmem
 ·show Value.bool _=Value.bool _
  rw [← all_range,hb,List.size_toArray,List.length_map]
end
section
variable {X:Cx}{pins:List (Addr×Obj)}{σ:St}{H:Hp}{s:Shared}
end
section
variable {X:Cx}
end
end L2
namespace L2
open PySem PySem.Spec PyProof.Rows
abbrev CellAt (h:Heap)(c:Addr)(v:Option Value):Prop:=h.IsCell c v
def relS (scope sc:Scope):Scope :=
 {scope with names:=scope.names.map fun (n,k)=>if (k == .free&&sc.kind == .function&&sc.names.lookup n==some .cell) then (n,.cell) else (n,k)}
def yU (cells:List (Str×Addr)):List (Str×NameKind)→List (Str×Addr)→List (Str×Addr)
 | [],acc=>acc
 | (n,k)::r,acc=>if k == .free then yU cells r ((n,(cells.lookup n).getD 0)::acc) else yU cells r acc
theorem closure_loop (env:Env)(f:Str×NameKind→List (Str×Addr)→Sem (ForInStep (List (Str×Addr))))
  (hf:∀ n k c,f (n,k) c=if k == .free then (do let a ← cellOf env n;pure (.yield ((n,a)::c))) else pure (.yield c)) :
  ∀ (names:List (Str×NameKind)) (acc:List (Str×Addr)),(∀ y∈names,y.2 = .free→∃ c,env.cells.lookup y.1=some c)→forIn names acc f=pure (yU env.cells names acc)
 | [],acc,_=>by rw [List.forIn_nil];rfl
 | (n,k)::r,acc,h=>by
  rw [List.forIn_cons,hf];have ih:=fun acc=>closure_loop env f hf r acc fun y hy=>h y (List.mem_cons_of_mem _ hy)
  unfold yU
  by_cases hk:(k==NameKind.free)=true
  ·rw [if_pos hk,if_pos hk]
   obtain ⟨c,hc⟩:=h (n,k) List.mem_cons_self (by simpa using hk)
   have e:cellOf env n=pure c:=by unfold cellOf;rw [hc]
   rw [e];have e2:(env.cells.lookup n).getD 0=c:=by rw [hc];rfl
   rw [e2];exact ih _
  ·rw [if_neg hk,if_neg hk]
   exact ih _
theorem closure_ok {scope:Scope}{env:Env}(h:∀ y∈scope.names,y.2 = .free→∃ c,env.cells.lookup y.1=some c):closureFor scope env=pure (yU env.cells scope.names []):=by
 simp only [closureFor];rw [closure_loop env _ (fun n k c=>rfl) scope.names [] h]
 rfl
theorem tR {α:Type}:∀ {l:List (Str×α)} {n:Str} {c:α},(n,c)∈l→∃ c',l.lookup n=some c'
 | (k,v)::r,n,c,h=>by
  rw [List.lookup_cons]
  cases hb:n==k with
  | true=>exact ⟨_,rfl⟩
  | false =>
   rcases List.mem_cons.mp h with e | h
   ·cases e;simp at hb
   ·exact tR h
theorem vP {cells:List (Str×Addr)}:∀ {names:List (Str×NameKind)} {acc:List (Str×Addr)} {n:Str} {c:Addr},(n,c)∈yU cells names acc→(n,c)∈acc∨((n,.free)∈names∧c=(cells.lookup n).getD 0)
 | [],_,_,_,h=>.inl h
 | (m,k)::r,acc,n,c,h=>by
  unfold yU at h
  split at h
  ·rename_i hk
   have hk:k = .free:=by simpa using hk
   rcases vP h with h | ⟨h1,h2⟩
   ·rcases List.mem_cons.mp h with e | h
    ·cases e;exact .inr ⟨hk ▸ List.mem_cons_self,rfl⟩
    ·exact .inl h
   ·exact .inr ⟨List.mem_cons_of_mem _ h1,h2⟩
  ·rcases vP h with h | ⟨h1,h2⟩
   ·exact .inl h
   ·exact .inr ⟨List.mem_cons_of_mem _ h1,h2⟩
theorem u0 {cells:List (Str×Addr)}:∀ {names:List (Str×NameKind)} {acc:List (Str×Addr)} {p:Str×Addr},p∈acc→p∈yU cells names acc
 | [],_,_,h=>h
 | (m,k)::r,acc,p,h=>by
  unfold yU;split
  ·exact u0 (List.mem_cons_of_mem _ h)
  ·exact u0 h
theorem uZ {cells:List (Str×Addr)}:∀ {names:List (Str×NameKind)} {acc:List (Str×Addr)} {n:Str},(n,.free)∈names→(n,(cells.lookup n).getD 0)∈yU cells names acc
 | (m,k)::r,acc,n,h=>by
  unfold yU;rcases List.mem_cons.mp h with e | h
  ·cases e
   exact u0 List.mem_cons_self
  ·split
   ·exact uZ h
   ·exact uZ h
theorem v8 : ∀ {names:List (Str×NameKind)} {h:Heap} {acc:List (Str×Addr)} {x:Str} {c:Addr},(x,c)∈cellsFrom h.objs.size names acc →
  (x,c)∈acc∨((x,.cell)∈names∧h.objs.size≤c∧CellAt (pushCells h names) c none)
 | [],_,_,_,_,h=>.inl h
 | (n,k)::r,h,acc,x,c,hm=>by
  unfold cellsFrom at hm;unfold pushCells
  split at hm
  ·rename_i hk
   rw [if_pos hk];have hk:k = .cell:=by simpa using hk
   rw [← Heap.size_push h {cls:=.type "cell",data:=.cell none}] at hm;rcases v8 hm with hm | ⟨h1,h2,h3⟩
   ·rcases List.mem_cons.mp hm with e | hm
    ·cases e
     exact .inr ⟨hk ▸ List.mem_cons_self,Nat.le_refl _,_,pushCells_keeps r _ _ _ (Heap.get?_push_size _ rfl),rfl⟩
    ·exact .inl hm
   ·rw [Heap.size_push] at h2
    exact .inr ⟨List.mem_cons_of_mem _ h1,Nat.le_of_succ_le h2,h3⟩
  ·rename_i hk
   rw [if_neg hk];rcases v8 hm with hm | ⟨h1,h2,h3⟩
   ·exact .inl hm
   ·exact .inr ⟨List.mem_cons_of_mem _ h1,h2,h3⟩
theorem u7 : ∀ {names:List (Str×NameKind)} {n:Nat} {acc:List (Str×Addr)} {p:Str×Addr},p∈acc→p∈cellsFrom n names acc
 | [],_,_,_,h=>h
 | (m,k)::r,n,acc,p,h=>by
  unfold cellsFrom;split
  ·exact u7 (List.mem_cons_of_mem _ h)
  ·exact u7 h
theorem cells_has : ∀ {names:List (Str×NameKind)} {n:Nat} {acc:List (Str×Addr)} {x:Str},(x,.cell)∈names→∃ c,(x,c)∈cellsFrom n names acc
 | (m,k)::r,n,acc,x,h=>by
  unfold cellsFrom;rcases List.mem_cons.mp h with e | h
  ·cases e
   exact ⟨n,u7 List.mem_cons_self⟩
  ·split
   ·exact cells_has h
   ·exact cells_has h
theorem cells_inj : ∀ {names:List (Str×NameKind)} {h:Heap} {acc:List (Str×Addr)} {x y:Str} {c:Addr},(∀ p∈acc,p.2 < h.objs.size)→(∀ x y c,(x,c)∈acc→(y,c)∈acc→x=y) →
  (x,c)∈cellsFrom h.objs.size names acc→(y,c)∈cellsFrom h.objs.size names acc→x=y
 | [],_,_,_,_,_,_,hi,h1,h2=>hi _ _ _ h1 h2
 | (n,k)::r,h,acc,x,y,c,hl,hi,h1,h2=>by
  unfold cellsFrom at h1 h2
  split at h1
  ·rename_i hk
   rw [if_pos hk] at h2;rw [← Heap.size_push h {cls:=.type "cell",data:=.cell none}] at h1 h2;refine cells_inj (h:=h.push _) (fun p hp=>?_) (fun x y c a b=>?_) h1 h2
   ·rw [Heap.size_push]
    rcases List.mem_cons.mp hp with rfl | hp
    ·exact Nat.lt_succ_self _
    ·exact Nat.lt_succ_of_lt (hl p hp)
   ·rcases List.mem_cons.mp a with e | a<;>rcases List.mem_cons.mp b with e' | b
    ·cases e;cases e';rfl
    ·cases e;exact absurd (hl _ b) (Nat.lt_irrefl _)
    ·cases e';exact absurd (hl _ a) (Nat.lt_irrefl _)
    ·exact hi _ _ _ a b
  ·rename_i hk
   rw [if_neg hk] at h2;exact cells_inj hl hi h1 h2
theorem newEnv_comp {M:Model}{A:Around}{E:Value→Shared→Prop}{s:Shared}{scope:Scope}{globals:Addr}{closure:List (Str×Addr)}{qual:Str}{func:Option Addr}{code:Value}{around:Env}{builtins:Addr}{Q:Env→Shared→Prop}
  (h:Q (newEnv scope s.heap.objs.size globals (cellsFrom (s.heap.objs.size+1) scope.names closure) qual func code (some around) builtins)
   {s with heap:=pushCells (s.heap.push {cls:=.type "dict",data:=.dict #[]}) scope.names}) :
  wpAny M A (newFunctionEnv scope globals closure [] qual func code (some around) builtins) Q E s:=by
 simp only [newFunctionEnv,Option.isSome_some,if_true];refine wpAny_bind (wpAny_alloc ?_)
 refine wpAny_bind (wpAny_layCells _ (fun n k c=>rfl) scope.names closure _ _ ?_)
 rw [show ({s with heap:=s.heap.push {cls:=.type "dict",data:=.dict #[]}}:Shared).heap.objs.size=s.heap.objs.size+1 from Heap.size_push ..]
 rw [List.forIn_nil];exact wpAny_bind (wpAny_pure (wpAny_pure h))
theorem uX {sc:Scope}:∀ {names:List (Str×NameKind)} {x:Str} {k:NameKind},
  (names.map fun (n,k)=>if (k==NameKind.free&&sc.kind == .function&&sc.names.lookup n==some .cell) then (n,NameKind.cell) else (n,k)).lookup x=some k →
  ∃ k',names.lookup x=some k'∧(k=k'∨(k' = .free∧k = .cell))
 | [],_,_,h=>by simp at h
 | (n,k₀)::r,x,k,h=>by
  have ih:=@uX sc r x k
  have h':List.lookup x ((if (k₀==NameKind.free&&sc.kind == .function&&sc.names.lookup n==some .cell)=true then (n,NameKind.cell) else (n,k₀))::(r.map _))=some k:=h
  cases hx:x==n with
  | true =>
   simp only [List.lookup_cons,hx]
   by_cases hc:(k₀==NameKind.free&&sc.kind == .function&&sc.names.lookup n==some .cell)=true
   ·rw [if_pos hc] at h'
    simp only [List.lookup_cons,hx] at h'
    cases h'
    simp only [Bool.and_eq_true,beq_iff_eq] at hc;exact ⟨k₀,rfl,.inr ⟨hc.1.1,rfl⟩⟩
   ·rw [if_neg hc] at h'
    simp only [List.lookup_cons,hx] at h'
    cases h'
    exact ⟨_,rfl,.inl rfl⟩
  | false =>
   simp only [List.lookup_cons,hx]
   by_cases hc:(k₀==NameKind.free&&sc.kind == .function&&sc.names.lookup n==some .cell)=true
   ·rw [if_pos hc] at h'
    simp only [List.lookup_cons,hx] at h';exact ih h'
   ·rw [if_neg hc] at h'
    simp only [List.lookup_cons,hx] at h';exact ih h'
structure BlkOk (N:List Str)(sc scope:Scope)(own:List (Str×Nat)):Prop where
 kind : scope.kind = .function
 uniq : ∀ y∈scope.names,scope.names.lookup y.1=some y.2
 ix : ∀ p∈own,N[p.2]? = some p.1
 free : ∀ y∈scope.names,y.2 = .free→sc.names.lookup y.1=some .cell∨sc.names.lookup y.1=some .free
 own : ∀ y∈scope.names,y.2 = .local∨y.2 = .cell→y.1∈own.map (·.1)∨y.1∉N
def xC (σ:St):List Nat→St
 | []=>σ
 | v::vs=>(xC σ vs).set v none
theorem uO (σ:St):∀ vs:List Nat,(xC σ vs).length=σ.length
 | []=>rfl
 | v::vs=>by unfold xC;rw [List.length_set,uO σ vs]
theorem wipe_some {σ:St}{i:Nat}{x:V}:∀ {vs:List Nat},(xC σ vs)[i]? = some (some x)→σ[i]? = some (some x)∧i∉vs
 | [],h=>⟨h,by simp⟩
 | v::vs,h=>by
  unfold xC at h
  by_cases hi:v=i
  ·subst hi
   by_cases hv:v < (xC σ vs).length
   ·rw [List.getElem?_set_self hv] at h;cases h
   ·rw [List.getElem?_eq_none (by simpa using hv)] at h;cases h
  ·rw [List.getElem?_set_ne hi] at h
   obtain ⟨h1,h2⟩:=wipe_some h
   exact ⟨h1,by simp only [List.mem_cons,not_or];exact ⟨fun e=>hi e.symm,h2⟩⟩
abbrev Cx.blk (X:Cx)(s:Shared)(H:Hp)(scope:Scope)(cenv:Env)(fp:List Addr):Cx:={X with s_0:=s,H_0:=H,env:=cenv,outer:=X.stack,ex:=fp,fn:=fun x=>scope.names.lookup x==some .cell,pn:=[],xe:=fun _ _=>False}
section
variable {X:Cx}{pins:List (Addr×Obj)}{σ:St}{H:Hp}{s:Shared}
theorem block_start {scope:Scope}{own:List (Str×Nat)}{fp:List Addr}(I:Inv X pins σ H s)(ok:BlkOk X.N X.env.scope scope own)(hN:X.N.Nodup)(hfp:∀ b∈fp,FpOk X pins H b∧b < s.heap.objs.size) :
  Inv (X.blk s H scope (compEnvC scope (cellsFrom (s.heap.objs.size+1) scope.names (yU X.env.cells scope.names [])) s.heap.objs.size X.env) fp) [] (xC σ (own.map (·.2))) H {s with heap:=pushCells (s.heap.push {cls:=.type "dict",data:=.dict #[]}) scope.names}:=by
 have hfree:∀ y∈scope.names,y.2 = .free→∃ c,X.env.cells.lookup y.1=some c:=fun y hy e=>by
  rcases ok.free y hy e with k | k
  ·exact I.ok.has _ (.inl k)
  ·exact I.ok.has _ (.inr k)
 generalize hcenv:compEnvC scope (cellsFrom (s.heap.objs.size+1) scope.names (yU X.env.cells scope.names [])) s.heap.objs.size X.env=cenv
 have kp:∀ b o,s.heap.get? b=some o→(pushCells (s.heap.push {cls:=.type "dict",data:=.dict #[]}) scope.names).get? b=some o:=fun b o e=>pushCells_keeps _ _ _ _ (Heap.get?_push_of_some _ e)
 have hL:cenv.locals=s.heap.objs.size:=by rw [← hcenv];rfl
 have hcl:cenv.cells=cellsFrom (s.heap.objs.size+1) scope.names (yU X.env.cells scope.names []):=by rw [← hcenv];rfl
 have hsc:cenv.scope=relS scope X.env.scope:=by rw [← hcenv];rfl
 rw [← Heap.size_push s.heap {cls:=.type "dict",data:=.dict #[]}] at hcl
 have cm:∀ {y c},(y,c)∈yU X.env.cells scope.names []→X.env.cells.lookup y=some c∧c < s.heap.objs.size:=fun {y c} hm=>by
  rcases vP hm with hm | ⟨h1,rfl⟩
  ·cases hm
  ·obtain ⟨c,hc⟩:=hfree _ h1 rfl
   rw [hc];obtain ⟨w,z⟩:=I.cell _ _ hc
   exact ⟨rfl,z.lt⟩
 have mem:∀ {y c},cenv.cells.lookup y=some c→(X.env.cells.lookup y=some c∧c < s.heap.objs.size)∨(s.heap.objs.size+1≤c∧CellAt (pushCells (s.heap.push {cls:=.type "dict",data:=.dict #[]}) scope.names) c none):=fun {y c} e=>by
  rw [hcl] at e;rcases v8 (PySem.mem_of_lookup e) with hm | ⟨_,h2,h3⟩
  ·exact .inl (cm hm)
  ·rw [Heap.size_push] at h2;exact .inr ⟨h2,h3⟩
 have look:∀ {y},scope.names.lookup y=some .free→∃ c,cenv.cells.lookup y=some c∧X.env.cells.lookup y=some c:=fun {y} hl=>by
  have hy:(y,NameKind.free)∈scope.names:=PySem.mem_of_lookup hl
  obtain ⟨c',e'⟩:=tR (u7 (names:=scope.names) (n:=(s.heap.push {cls:=.type "dict",data:=.dict #[]}).objs.size) (uZ (cells:=X.env.cells) (acc:=[]) hy))
  rw [← hcl] at e';refine ⟨c',e',?_⟩
  rw [hcl] at e';rcases v8 (PySem.mem_of_lookup e') with hm | ⟨h1,_,_⟩
  ·exact (cm hm).1
  ·have:=ok.uniq _ h1
   rw [hl] at this;cases this
 have okB:(X.blk s H scope cenv fp).Ok:=by
  refine ⟨I.ok.mod,by show cenv.scope.kind=_;rw [hsc];exact ok.kind,by show cenv.globals=_;rw [← hcenv];exact I.ok.glob,by show cenv.builtins=_;rw [← hcenv];exact I.ok.blt,by show s.heap.objs.size≤cenv.locals;rw [hL];exact Nat.le_refl _,
   fun y z c e1 e2=>?_,fun y hy=>?_,fun y c z e=>?_,I.ok.hd,I.ok.frames,.inl rfl,fun b hb=>⟨?_,fun y c e z=>?_⟩,I.bs,Nat.le_trans I.ok.bsz I.sz,fun b o e hb=>?_,fun b hb z=>?_,I.stack,I.stkFree⟩
  ·have e1:cenv.cells.lookup y=some c:=e1
   have e2:cenv.cells.lookup z=some c:=e2
   rw [hcl] at e1 e2;refine cells_inj (fun p hp=>?_) (fun y z c a b=>I.ok.inj y z c (cm a).1 (cm b).1) (PySem.mem_of_lookup e1) (PySem.mem_of_lookup e2)
   rw [Heap.size_push];exact Nat.lt_succ_of_lt (cm (y:=p.1) (c:=p.2) hp).2
  ·show ∃ c,cenv.cells.lookup y=some c
   have key:∀ k,cenv.kindOf y=some k→(k = .cell∨k = .free)→∃ c,cenv.cells.lookup y=some c:=fun k hk hk'=>by
    unfold Env.kindOf at hk;rw [hsc] at hk;obtain ⟨k',e,r⟩:=uX hk
    have : k' = .cell∨k' = .free:=by
     rcases r with rfl | ⟨rfl,_⟩
     ·exact hk'
     ·exact .inr rfl
    rcases this with rfl | rfl
    ·obtain ⟨c,hm⟩:=cells_has (n:=(s.heap.push {cls:=.type "dict",data:=.dict #[]}).objs.size) (acc:=yU X.env.cells scope.names []) (PySem.mem_of_lookup e)
     obtain ⟨c',e'⟩:=tR hm
     exact ⟨c',by rw [hcl];exact e'⟩
    ·obtain ⟨c,h1,_⟩:=look e
     exact ⟨c,h1⟩
   rcases hy with hy | hy
   ·exact key _ hy (.inl rfl)
   ·exact key _ hy (.inr rfl)
  ·have z:(scope.names.lookup y==some NameKind.cell)=true:=z
   have z:scope.names.lookup y=some .cell:=by simpa using z
   have e:cenv.cells.lookup y=some c:=e
   rw [hcl] at e;rcases v8 (PySem.mem_of_lookup e) with hm | ⟨_,h2,_⟩
   ·rcases vP hm with hm | ⟨h1,_⟩
    ·cases hm
    ·have q:=ok.uniq _ h1
     rw [z] at q;cases q
   ·rw [Heap.size_push] at h2
    exact Nat.le_of_succ_le h2
  ·show b≠cenv.locals
   rw [hL];exact Nat.ne_of_lt (hfp b hb).2
  ·have e:cenv.cells.lookup y=some c:=e
   rcases mem e with ⟨h1,_⟩ | ⟨h1,_⟩
   ·exact (hfp b hb).1.2.2.2.2.1 y c h1 z
   ·have h2:s.heap.objs.size+1≤b:=by rw [← z];exact h1
    exact absurd (Nat.lt_of_lt_of_le (hfp b hb).2 (Nat.le_of_succ_le h2)) (Nat.lt_irrefl _)
  ·rcases (hfp b hb).1.2.2.2.1 with z | z
   ·exact I.ok.noex b o e z
   ·exact absurd (Nat.lt_of_lt_of_le (Heap.lt_size e) (Nat.le_trans I.ok.bsz z)) (Nat.lt_irrefl _)
  ·rcases List.mem_cons.mp (I.stkSub b z) with z | z
   ·exact (hfp b hb).1.2.1 z
   ·exact (hfp b hb).1.2.2.1 z
 refine ⟨okB,rfl,I.bare,Un.kept kp,⟨fun _=>none,?_,fun i y av e1 e2 e3=>?_⟩,fun y c e=>?_,?_,fun y c e=>?_,fun p hp=>?_,I.hok.kept kp,by rw [uO];exact I.len⟩
 ·show Heap.Ns _ cenv.locals _
  rw [hL];exact Heap.Ns.keeps (Heap.Ns.new ..) fun b o e=>pushCells_keeps _ _ _ _ e
 ·obtain ⟨e2,hne⟩:=wipe_some e2
  have hfr:scope.names.lookup y=some .free∧(cenv.kindOf y=some .cell∨cenv.kindOf y=some .free):=by
   have key:∀ k,cenv.scope.names.lookup y=some k→k = .local∨k = .cell∨k = .free→scope.names.lookup y=some .free∧(cenv.kindOf y=some .cell∨cenv.kindOf y=some .free):=fun k hk hk'=>by
    have hk0:=hk
    rw [hsc] at hk;obtain ⟨k',e,r⟩:=uX hk
    have no:¬ (k' = .local∨k' = .cell):=fun hh=>by
     rcases ok.own _ (PySem.mem_of_lookup e) hh with e' | e'
     ·obtain ⟨p,hp,hpy⟩:=List.mem_map.mp e'
      have e3:=ok.ix p hp
      have : p.1=y:=hpy
      rw [this] at e3;exact hne (List.mem_map.mpr ⟨p,hp,nodup_ix hN e3 e1⟩)
     ·exact e' (List.mem_of_getElem? e1)
    rcases r with rfl | ⟨rfl,rfl⟩
    ·rcases hk' with rfl | rfl | rfl
     ·exact absurd (.inl rfl) no
     ·exact absurd (.inr rfl) no
     ·exact ⟨e,.inr hk0⟩
    ·exact ⟨e,.inl hk0⟩
   have e3:Vis cenv.scope y:=e3
   rcases e3 with e3 | e3 | e3
   ·exact key _ e3 (.inl rfl)
   ·exact key _ e3 (.inr (.inl rfl))
   ·exact key _ e3 (.inr (.inr rfl))
  obtain ⟨m,hn,hl⟩:=I.loc
  have hvis:Vis X.env.scope y:=(ok.free _ (PySem.mem_of_lookup hfr.1) rfl).elim (fun k=>.inr (.inl k)) (fun k=>.inr (.inr k))
  obtain ⟨w,r,q⟩:=hl i y av e1 e2 hvis
  refine ⟨w,r,.inr ⟨hfr.2,?_⟩⟩
  obtain ⟨c,h1,h2⟩:=look hfr.1
  rcases q with ⟨k,_⟩ | ⟨_,c',e',z⟩
  ·have k:X.env.scope.names.lookup y=some .local:=k
   rcases ok.free _ (PySem.mem_of_lookup hfr.1) rfl with k' | k'<;>rw [show X.env.scope.names.lookup y=_ from k'] at k<;>cases k
  ·rw [h2] at e';cases e'
   exact ⟨c,h1,z.keeps kp⟩
 ·have e:cenv.cells.lookup y=some c:=e
  rcases mem e with ⟨h1,_⟩ | ⟨_,z⟩
  ·obtain ⟨w,z⟩:=I.cell y c h1
   exact ⟨w,z.keeps kp⟩
  ·exact ⟨_,z⟩
 ·show H cenv.locals=none
  rw [hL];exact I.hok.fresh (Nat.le_refl _)
 ·have e:cenv.cells.lookup y=some c:=e
  rcases mem e with ⟨h1,_⟩ | ⟨h1,_⟩
  ·exact I.freeC y c h1
  ·exact I.hok.fresh (Nat.le_of_succ_le h1)
 ·exact absurd (show p∈([]:List (Addr×Obj))++[] from hp) (by simp)
theorem app_ok {E:Value→Shared→Prop}{D:Addr}{xs:List V}{y:V}{v:Value}{Q:Value→Shared→Prop}(I:Inv X pins σ H s)(hD:H D=some (.lst xs))(hz:xs.length < sizeLine)(r:RelV y v)
  (h:∀ s',Inv X pins σ (upd H D (.lst (xs++[y]))) s'→Q .none s'):wpAny (model X.prog X.w) X.A (call (.builtin "list.append") [.ref D,v]) Q E s:=by
 obtain ⟨hz',its,n,ri,e⟩:=I.hok D _ hD
 have hl:=ri.length
 refine append_at (hsz:=by rw [List.size_toArray];omega) e fun h' sb ho'=>?_
 refine h {s with heap:=h'} (I.write (t':=s.toks) (by rw [hD];trivial) (.inl rfl) (fun b u hb q=>(sb.2 b hb).trans q) ⟨_,ho'⟩ ⟨by rw [List.length_append];exact hz,its++[v],n+1,ri.append (.cons r .nil),?_⟩)
 rw [ho'];simp
def PTs (X:Cx)(ifs:List Expr)(t:TT):Prop :=
 ∀ (pins:List (Addr×Obj)) (s:Shared) (σ:St) (H:Hp) (Q:Bool→Hp→Prop),Inv X pins σ H s→t σ H Q →
  wpAny (model X.prog X.w) X.A (forIn ifs true fun c r=>if r=true then do let ok ← isTrue c X.env (eval c X.env);pure (ForInStep.yield ok) else pure (ForInStep.yield r)) (TP X pins σ Q) X.xe s
def tYes : TT:=fun _ H Q=>Q true H
theorem xY : PTs X [] tYes:=fun _ _ _ H _ I h=>wpAny_tests_nil ⟨H,I,h⟩
theorem tZ {c:Expr}{t:TT}(h:PT X c t):PTs X [c] t:=fun pins s σ H Q I hw=>wpAny_tests_one (h pins s σ H Q I hw)
end
theorem thnF {α:Type}{t:Sem α}{Q Q':α→Shared→Prop}{M:Model}{A:Around}{E:Value→Shared→Prop}{s:Shared}(h:wpAny M A t Q (fun _ _=>False) s)(hQ:∀ a s,Q a s→Q' a s):wpAny M A t Q' E s:=wpAny_mono h hQ fun _ _ z=>False.elim z
theorem compLoop_any {prog:Program}{w:World}{A:Around}{R:Result→Shared→Prop}{s:Shared}{elt target iter:Expr}{ifs:List Expr}{scope:Scope}{pos:Pos}{it acc:Value}{env:Env}(I:Nat→Shared→Prop)
  (turn:∀ n s,I n s→wpAny (model prog w) A (pyNext it) (fun r s₁=>match r with
   | none=>R (.ok .next) s₁
   | some v=>wpAny (model prog w) A (letOwnedTupleGo target it v) (fun _ s₁'=>wpAny (model prog w) A (assign target env v) (fun _ s₂ =>
     wpAny (model prog w) A (forIn ifs true fun c r=>if r=true then do let ok ← isTrue c env (eval c env);pure (ForInStep.yield ok) else pure (ForInStep.yield r)) (fun ok s₃ =>
      if ok=true then wpAny (model prog w) A (eval elt env) (fun x s₄ =>
       wpAny (model prog w) A (call (.builtin "list.append") [acc,x]) (fun _ s₅=>∃ m,m < n∧I m s₅) (notedBy (model prog w) A env fun e s'=>R (.error e) s') s₄) (notedBy (model prog w) A env fun e s'=>R (.error e) s') s₃
      else ∃ m,m < n∧I m s₃) (notedBy (model prog w) A env fun e s'=>R (.error e) s') s₂) (notedBy (model prog w) A env fun e s'=>R (.error e) s') s₁') (notedBy (model prog w) A env fun e s'=>R (.error e) s') s₁) (notedBy (model prog w) A env fun e s'=>R (.error e) s') s)
  (n:Nat) (h:I n s) :
  codeAny (model prog w) A (.compLoop (.ListComp elt [⟨target,iter,ifs,0⟩] scope pos) 0 it acc env) R s:=by
 refine codeAny_loop rfl I (fun n s hI=>?_) n h
 show wpAny _ A ((compTurn (.ListComp elt [⟨target,iter,ifs,0⟩] scope pos) 0 it acc env).onRaise (fun x=>do noteFrame x env;theTreesLotGoes x)) _ _ s
 refine wpAny_noted ?_
 rw [compTurn_list];refine wpAny_bind (wpAny_standAt (wpAny_bind (wpAny_mono (turn n s hI) (fun r s₁ h₁=>?_) fun _ _ h'=>h')))
 cases r with
 | none=>exact wpAny_pure h₁
 | some v =>
  refine wpAny_bind (wpAny_mono h₁ (fun _ s₁' h₁'=>?_) fun _ _ h'=>h')
  refine wpAny_bind (wpAny_mono h₁' (fun _ s₂ h₂=>wpAny_bind (wpAny_mono h₂ (fun ok s₃ h₃=>?_) fun _ _ h'=>h')) fun _ _ h'=>h')
  cases ok with
  | false=>exact wpAny_pure ⟨rfl,h₃⟩
  | true =>
   exact wpAny_bind (wpAny_bind (wpAny_mono h₃ (fun x s₄ h₄=>wpAny_bind (wpAny_mono h₄ (fun _ s₅ h₅=>wpAny_pure (wpAny_pure ⟨rfl,h₅⟩)) fun _ _ h'=>h')) fun _ _ h'=>h'))
section
variable {X:Cx}
def tLc (wi:TI)(g:TG)(tt:TT)(te:TE)(vs:List Nat):TE:=fun σ H Q=>wi σ H fun J H1=>∀ D,H1 D=none→∃ W:Nat→Nat→Hp→Prop,(∃ m,W 0 m (upd H1 D (.lst [])))∧∀ i m H,W i m H →
 (J.stop i H∧Q (.ref D) H)∨(J.go i H∧∃ Nx:Hp→Prop,(∀ H',Nx H'→∃ m',m' < m∧W (i+1) m' H')∧∀ x H',J.yld i H x H'→g x (xC σ vs) H' fun σ2 H2=>xC σ2 vs=xC σ vs∧tt σ2 H2 fun b H3 =>
  if b=true then te σ2 H3 fun y H4=>∃ acc,H4 D=some (.lst acc)∧acc.length < sizeLine∧Nx (upd H4 D (.lst (acc++[y]))) else Nx H3)
theorem lc_core {pins:List (Addr×Obj)}{s:Shared}{σ:St}{H:Hp}{Q:VK}{elt tg iter:Expr}{ifs:List Expr}{scope:Scope}{own:List (Str×Nat)}{pos pos':Pos}{wi:TI}{g:TG}{tt:TT}{te:TE}{use:Option (Value→Sem Unit)}{Qf:Value→Shared→Prop}
  (hc:X.calm=true) (hN:X.N.Nodup) (I:Inv X pins σ H s) (hi:PI X tg iter wi) (ok:BlkOk X.N X.env.scope scope own)
  (hg:∀ (s:Shared) (H:Hp) (C:Addr) (cl:List (Str×Addr)) (fp:List Addr),PG (X.blk s H scope (compEnvC scope cl C X.env) fp) tg g) (ht:∀ (s:Shared) (H:Hp) (C:Addr) (cl:List (Str×Addr)) (fp:List Addr),PTs (X.blk s H scope (compEnvC scope cl C X.env) fp) ifs tt)
  (he:∀ (s:Shared) (H:Hp) (C:Addr) (cl:List (Str×Addr)) (fp:List Addr),PE (X.blk s H scope (compEnvC scope cl C X.env) fp) elt te) (hs:∀ x,foldedSetIterable iter X.env x=pure x)
  (h:tLc wi g tt te (own.map (·.2)) σ H Q)
  (hRR:∀ D C s' m H',Inv X pins σ H' s'→Q (.ref D) H'→s'.heap.Ns C m→FpOk X pins H' C→compPost (model X.prog X.w) X.A X.xe use Qf (.ref D) C (.ok .next) s') :
  wpAny (model X.prog X.w) X.A (comprehension (.ListComp elt [⟨tg,iter,ifs,0⟩] scope pos) scope X.env pos' (newList []) false (eval iter X.env) use) Qf X.xe s:=by
 have hfree:∀ y∈scope.names,y.2 = .free→∃ c,X.env.cells.lookup y.1=some c:=fun y hy e=>by
  rcases ok.free y hy e with k | k
  ·exact I.ok.has _ (.inl k)
  ·exact I.ok.has _ (.inr k)
 refine wpAny_comprehension_free (use:=use) rfl hs (closure_ok hfree) ok.kind (fun y hy e=>by rw [ok.uniq y hy,e])
  (xE (hi pins s σ H _ I h) fun xv s1 hx=>xE hx fun itv s2 h2=>?_)
 obtain ⟨it,fp,tn,J,H2,e,I2,T,st2,f2,q⟩:=h2
 subst e;refine wpAny_newObj_type (newEnv_comp ?_) (by show 0≤sizeLine;decide)
 generalize hD:s2.heap.objs.size=D
 have hDn:H2 D=none:=I2.hok.fresh (Nat.le_of_eq hD)
 obtain ⟨W,⟨m0,w0⟩,turn⟩:=q D hDn
 generalize hs3:({s2 with heap:=s2.heap.push {cls:=.type "list",data:=.seq ([]:List Value).toArray}}:Shared)=s3
 have I3:Inv X pins σ (upd H2 D (.lst [])) s3:=by
  rw [← hs3];refine I2.laid (t':=s2.toks) (fun b o e=>Heap.get?_push_of_some _ e) (Nat.le_of_eq hD) ⟨Nat.zero_le _,[],0,.nil,?_⟩
  rw [← hD];exact Heap.get?_push_size _ rfl
 have h3:s3.heap=s2.heap.push {cls:=.type "list",data:=.seq ([]:List Value).toArray}:=by rw [← hs3]
 have sz:∀ b∈fp,b < s2.heap.objs.size:=fun b hb=>by
  obtain ⟨o,e,_⟩:=T.obj _ _ st2 b hb
  exact Heap.lt_size e
 have f3:∀ b∈fp,FpOk X pins (upd H2 D (.lst [])) b∧b < s3.heap.objs.size:=fun b hb=>by
  have hlt:=sz b hb
  refine ⟨⟨?_,(f2 b hb).2⟩,by rw [h3,Heap.size_push];exact Nat.lt_succ_of_lt hlt⟩
  rw [zH (by rw [← hD];exact Nat.ne_of_lt hlt)]
  exact (f2 b hb).1
 have st3:tn 0 s3.heap:=T.keep _ _ _ st2 fun b _ o e=>by rw [h3];exact Heap.get?_push_of_some _ e
 have I4:=block_start I3 ok hN f3
 have pg:=hg s3 (upd H2 D (.lst [])) s3.heap.objs.size (cellsFrom (s3.heap.objs.size+1) scope.names (yU X.env.cells scope.names [])) fp
 have pt:=ht s3 (upd H2 D (.lst [])) s3.heap.objs.size (cellsFrom (s3.heap.objs.size+1) scope.names (yU X.env.cells scope.names [])) fp
 have pe:=he s3 (upd H2 D (.lst [])) s3.heap.objs.size (cellsFrom (s3.heap.objs.size+1) scope.names (yU X.env.cells scope.names [])) fp
 show codeAny _ _ (.compStart (.ListComp elt [⟨tg,iter,ifs,0⟩] scope pos) 0 (.ref it) (.ref D) (compEnvC scope (cellsFrom (s3.heap.objs.size+1) scope.names (yU X.env.cells scope.names [])) s3.heap.objs.size X.env)) (compPost (model X.prog X.w) X.A X.xe use Qf (.ref D) s3.heap.objs.size) {s3 with heap:=pushCells (s3.heap.push {cls:=.type "dict",data:=.dict #[]}) scope.names}
 have nfp:∀ b∈fp,(upd H2 D (.lst [])) b=none:=fun b hb=>(f3 b hb).1.1
 generalize hce:compEnvC scope (cellsFrom (s3.heap.objs.size+1) scope.names (yU X.env.cells scope.names [])) s3.heap.objs.size X.env=ce at I4 pg pt pe ⊢
 have cL:ce.locals=s3.heap.objs.size:=by subst hce;rfl
 generalize hH3:upd H2 D (.lst [])=H3 at I3 I4 pg pt pe w0 nfp f3
 generalize hs4:({s3 with heap:=pushCells (s3.heap.push {cls:=.type "dict",data:=.dict #[]}) scope.names}:Shared)=s4 at I4 ⊢
 have st4:tn 0 s4.heap:=T.keep _ _ _ st3 fun b _ o e=>by rw [← hs4];exact pushCells_keeps _ _ _ _ (Heap.get?_push_of_some _ e)
 have stat:∀ {σ':St} {H':Hp} {s':Shared},Inv (X.blk s3 H3 scope ce fp) [] σ' H' s'→(∀ b∈fp,H' b=none)→∀ b∈fp,FpOk (X.blk s3 H3 scope ce fp) [] H' b:=fun {σ' H' s'} I' hn b hb =>
  ⟨hn b hb,(I'.ok.exf b hb).1,I'.ok.exfs b hb,.inl hb,fun x c e=>(I'.ok.exf b hb).2 x c e,fun p hp=>absurd (show p∈([]:List (Addr×Obj))++[] from hp) (by simp)⟩
 have loop:codeAny (model X.prog X.w) X.A (.compLoop (.ListComp elt [⟨tg,iter,ifs,0⟩] scope pos) 0 (.ref it) (.ref D) ce) (compPost (model X.prog X.w) X.A X.xe use Qf (.ref D) s3.heap.objs.size) s4:=by
  refine compLoop_any (fun n s'=>∃ i H',Inv (X.blk s3 H3 scope ce fp) [] (xC σ (own.map (·.2))) H' s'∧tn i s'.heap∧(∀ b∈fp,H' b=none)∧W i n H') ?_ m0 ⟨0,H3,I4,st4,nfp,w0⟩
  rintro n s5 ⟨i,H5,I5,st5,n5,w5⟩
  rcases turn i n H5 w5 with ⟨stop,qq⟩ | ⟨go,Nx,hNx,step⟩
  ·have td:=T.done (X.blk s3 H3 scope ce fp) rfl rfl rfl hc i [] s5 _ H5 (fun _ _=>False) I5 (stat I5 n5) st5 stop
   refine thnF td fun r s6 ⟨hr,I6⟩=>?_
   subst hr;have I7:Inv X pins σ H5 s6:=I3.call' (ch:=fp) I6.os I6.base I6.hok I6.bare fun b hb=>⟨(f3 b hb).1.2.2.2.1,(f3 b hb).1.2.1,(f3 b hb).1.2.2.2.2.1,(f3 b hb).1.2.2.2.2.2⟩
   have nC:H5 s3.heap.objs.size=none:=by
    have z:H5 ce.locals=none:=I6.free
    rw [cL] at z;exact z
   obtain ⟨m,hn,_⟩:=I6.loc
   have hn:s6.heap.Ns ce.locals m:=hn
   rw [cL] at hn;exact hRR D s3.heap.objs.size s6 m H5 I7 qq hn (I3.fpOk (Nat.le_refl _) nC)
  ·have ti:=T.item (X.blk s3 H3 scope ce fp) rfl rfl rfl hc i [] s5 _ H5 (fun _ _=>False) I5 (stat I5 n5) st5 go
   refine thnF ti fun r s6 ⟨u,hr,h6⟩=>?_
   subst hr;refine thnF h6 fun _ s7 ⟨x,H7,I7,r7,y7,st7,n7⟩=>?_
   have I7':=I7.pinned (stat I7 n7) (T.obj _ _ st7)
   refine thnF (pg _ s7 _ H7 x u _ I7' r7 (step x H7 y7)) fun _ s8 ⟨σ8,H8,I8,hw8,q8⟩=>?_
   refine thnF (pt _ s8 σ8 H8 _ I8 q8) fun b s9 ⟨H9,I9,q9⟩=>?_
   have fin:∀ {s':Shared} {H':Hp},Inv (X.blk s3 H3 scope ce fp) ([]++pinsAt fp s7.heap) σ8 H' s'→Nx H'→∃ m,m < n∧∃ i H',Inv (X.blk s3 H3 scope ce fp) [] (xC σ (own.map (·.2))) H' s'∧tn i s'.heap∧(∀ b∈fp,H' b=none)∧W i m H':=fun {s' H'} I' nx=>by
    obtain ⟨m',hm,w'⟩:=hNx H' nx
    have pin':∀ b∈fp,∀ o,s7.heap.get? b=some o→s'.heap.get? b=some o∧H' b=none:=fun b hb o e =>
     let z:=I'.pin (b,o) (List.mem_append_right _ (List.mem_append_right _ (tQ hb e)))
     ⟨z.1,z.2.1⟩
    have hl:(xC σ (own.map (·.2))).length=σ8.length:=by rw [← hw8,uO]
    refine ⟨m',hm,i+1,H',(I'.unpinned (pins:=[])).weak hl (fun j v e=>?_),T.keep _ _ _ st7 fun b hb o e=>(pin' b hb o e).1,fun b hb=>?_,w'⟩
    ·rw [← hw8] at e
     exact (wipe_some e).1
    ·obtain ⟨o,e,_⟩:=T.obj _ _ st7 b hb
     exact (pin' b hb o e).2
   cases b with
   | false =>
    simp only [Bool.false_eq_true,if_false] at q9 ⊢;exact fin I9 q9
   | true =>
    simp only [if_true] at q9 ⊢;refine thnF (pe _ s9 σ8 H9 _ I9 q9) fun z s10 ⟨yv,H10,I10,r10,acc,hD10,hz10,nx⟩=>?_
    exact app_ok (X:=X.blk s3 H3 scope ce fp) I10 hD10 hz10 r10 fun s11 I11=>fin I11 nx
 exact codeAny_compStart_list loop (T.self X.A 0 _ _ _ st4 loop)
theorem vA {elt tg iter:Expr}{ifs:List Expr}{scope:Scope}{own:List (Str×Nat)}{pos:Pos}{wi:TI}{g:TG}{tt:TT}{te:TE}(hc:X.calm=true)(hN:X.N.Nodup)(hi:PI X tg iter wi)(ok:BlkOk X.N X.env.scope scope own)
  (hg:∀ (s:Shared) (H:Hp) (C:Addr) (cl:List (Str×Addr)) (fp:List Addr),PG (X.blk s H scope (compEnvC scope cl C X.env) fp) tg g) (ht:∀ (s:Shared) (H:Hp) (C:Addr) (cl:List (Str×Addr)) (fp:List Addr),PTs (X.blk s H scope (compEnvC scope cl C X.env) fp) ifs tt)
  (he:∀ (s:Shared) (H:Hp) (C:Addr) (cl:List (Str×Addr)) (fp:List Addr),PE (X.blk s H scope (compEnvC scope cl C X.env) fp) elt te) (hs:∀ x,foldedSetIterable iter X.env x=pure x:=by intro _;rfl) :
  PE X (.ListComp elt [⟨tg,iter,ifs,0⟩] scope pos) (tLc wi g tt te (own.map (·.2))):=by
 intro pins s σ H Q I h
 rw [eval_ListComp];refine lc_core hc hN I hi ok hg ht he hs h fun D C s' m H' I' q hn f=>⟨m,hn,fun h'' sb=>?_⟩
 obtain ⟨f0,f1,f2,f3,f4,f5⟩:=f
 exact ⟨.ref D,H',I'.turned (t':=s'.toks) (fun b o hb e=>(sb.2 b hb).trans e) f0 f1 f3 f4 f5,rfl,q⟩
theorem ps_setLc {i:Nat}{y:Str}{py:Pos}{elt tg iter:Expr}{ifs:List Expr}{scope:Scope}{own:List (Str×Nat)}{pos spos:Pos}{wi:TI}{g:TG}{tt:TT}{te:TE}(hc:X.calm=true)(hN:X.N.Nodup)(hy:X.N[i]? = some y)(hyl:X.env.scope.names.lookup y=some .local)
  (hsw:swapsWith (.ListComp elt [⟨tg,iter,ifs,0⟩] scope pos) (some (.Name y py)) spos.line X.env=pure true) (hi:PI X tg iter wi) (ok:BlkOk X.N X.env.scope scope own)
  (hg:∀ (s:Shared) (H:Hp) (C:Addr) (cl:List (Str×Addr)) (fp:List Addr),PG (X.blk s H scope (compEnvC scope cl C X.env) fp) tg g) (ht:∀ (s:Shared) (H:Hp) (C:Addr) (cl:List (Str×Addr)) (fp:List Addr),PTs (X.blk s H scope (compEnvC scope cl C X.env) fp) ifs tt)
  (he:∀ (s:Shared) (H:Hp) (C:Addr) (cl:List (Str×Addr)) (fp:List Addr),PE (X.blk s H scope (compEnvC scope cl C X.env) fp) elt te) (hs:∀ x,foldedSetIterable iter X.env x=pure x:=by intro _;rfl) :
  PS X (.Assign [.Name y py] (.ListComp elt [⟨tg,iter,ifs,0⟩] scope pos) spos) (tAsg (tLc wi g tt te (own.map (·.2))) (gName i)):=by
 intro pins s σ H D I h
 rw [exec_Assign_Name_used _ _ _ _ hsw];refine wpAny_bind (wpAny_standAt (wpAny_bind ?_))
 show wpAny _ X.A (do let _ ← comprehension (.ListComp elt [⟨tg,iter,ifs,0⟩] scope pos) scope X.env (firstIterPos [⟨tg,iter,ifs,0⟩] pos) (newList []) false (eval iter X.env) (some (assign (.Name y py) X.env))) _ _ s
 have h:tLc wi g tt te (own.map (·.2)) σ H (fun x H1=>gName i x σ H1 D.nx):=h
 refine wpAny_bind (xE (lc_core (Qf:=fun _ s'=>SP X pins D .next s') hc hN I hi ok hg ht he hs h fun L C s' m H' I' q hn f=>?_) fun _ s' hq=>wpAny_pure (wpAny_pure hq))
 show wpAny _ _ (assign (.Name y py) X.env (.ref L)) _ _ _
 refine wpAny_assign_Name (store_ok2 (v:=V.ref L) I' hN hy (.inl hyl) rfl (fun s2 I2 ⟨a,sb,ha⟩=>?_) (.inr hyl))
 obtain ⟨f0,f1,f2,f3,f4,f5⟩:=f
 have haC:C≠a:=by
  rcases ha with z | z
  ·rw [z];exact f1
  ·exact fun e=>f4 y a z e.symm
 refine ⟨m,hn.sameBut sb haC,fun h3 sb3=>?_⟩
 exact ⟨_,H',I2.turned (t':=s2.toks) (fun b o hb e=>(sb3.2 b hb).trans e) f0 f1 f3 f4 f5,q⟩
theorem sw_true {elt:Expr}{gs:List Comprehension}{scope:Scope}{pos py:Pos}{y:Str}{l:Nat}{env:Env}(hk:env.scope.kind = .function)(hy:env.scope.names.lookup y=some .local)(hl:(py.line==pos.line)=true)
  (ha:(scope.names.any fun (n,k)=>n==y&&(k == .local||k == .cell))=false):swapsWith (.ListComp elt gs scope pos) (some (.Name y py)) l env=pure true:=by
 have ky:env.kindOf y=some .local:=hy
 have hb:env.blockKind = .function:=by unfold Env.blockKind;rw [hk];rfl
 unfold swapsWith;simp only [hb,ky,ha,Expr.pos,hl];rfl
end
theorem x9 {K:zF}{a:Addr}{xs:List V}{g:TG}{tt:TT}{te:TE}{vs:List Nat}{σ:St}{H1:Hp}{D:Addr}{Qd:Hp→Prop}(Pv:Nat→Hp→Prop)(h0:Pv 0 (upd H1 D (.lst [])))(hl:∀ i H,i≤xs.length→Pv i H→SqL K H a xs)
  (hs:∀ i x H,xs[i]? = some x→Pv i H→g x (xC σ vs) H fun σ2 H2=>xC σ2 vs=xC σ vs∧tt σ2 H2 fun b H3 =>
   if b=true then te σ2 H3 fun y H4=>∃ acc,H4 D=some (.lst acc)∧acc.length < sizeLine∧Pv (i+1) (upd H4 D (.lst (acc++[y]))) else Pv (i+1) H3) (hd:∀ H,Pv xs.length H→Qd H) :
  ∃ W:Nat→Nat→Hp→Prop,(∃ m,W 0 m (upd H1 D (.lst [])))∧∀ i m H,W i m H →
   ((Itl K a).stop i H∧Qd H)∨((Itl K a).go i H∧∃ Nx:Hp→Prop,(∀ H',Nx H'→∃ m',m' < m∧W (i+1) m' H')∧∀ x H',(Itl K a).yld i H x H'→g x (xC σ vs) H' fun σ2 H2=>xC σ2 vs=xC σ vs∧tt σ2 H2 fun b H3 =>
    if b=true then te σ2 H3 fun y H4=>∃ acc,H4 D=some (.lst acc)∧acc.length < sizeLine∧Nx (upd H4 D (.lst (acc++[y]))) else Nx H3):=by
 refine ⟨fun i m H=>m=xs.length - i∧i≤xs.length∧Pv i H,⟨xs.length,by simp,Nat.zero_le _,h0⟩,?_⟩
 rintro i m H ⟨rfl,hi,p⟩
 have q:=hl i H hi p
 by_cases hlt:i < xs.length
 ·refine .inr ⟨⟨xs,xs[i],q,by simp [hlt]⟩,Pv (i+1),fun H' p'=>⟨xs.length - (i+1),by omega,rfl,hlt,p'⟩,fun x H' y=>?_⟩
  obtain ⟨e,y⟩:=y
  subst e;exact hs i x _ (y xs q) p
 ·have e:i=xs.length:=by omega
  subst e;exact .inl ⟨⟨xs,q,Nat.le_refl _⟩,hd H p⟩
def blkC (N:List Str)(sc scope:Scope)(own:List (Str×Nat)):Bool :=
 (match scope.kind with | .function=>true | _=>false)&&(scope.names.all fun y=>decide (scope.names.lookup y.1=some y.2))&&(own.all fun p=>decide (N[p.2]? = some p.1)) &&
  (scope.names.all fun y=>match y.2 with
   | .free=>(match sc.names.lookup y.1 with | some .cell=>true | some .free=>true | _=>false)
   | .local=>decide (y.1∈own.map (·.1))||decide (y.1∉N)
   | .cell=>decide (y.1∈own.map (·.1))||decide (y.1∉N)
   | _=>true)
theorem yS {N:List Str}{sc scope:Scope}{own:List (Str×Nat)}(h:blkC N sc scope own=true):BlkOk N sc scope own:=by
 unfold blkC at h;simp only [Bool.and_eq_true,List.all_eq_true,decide_eq_true_eq] at h;obtain ⟨⟨⟨h1,h2⟩,h3⟩,h4⟩:=h
 refine ⟨?_,h2,h3,fun y hy e=>?_,fun y hy e=>?_⟩
 ·split at h1
  ·assumption
  ·cases h1
 ·have q:=h4 y hy
  simp only [e] at q
  split at q<;>first | exact .inl (by assumption) | exact .inr (by assumption) | cases q
 ·have q:=h4 y hy
  rcases e with e | e<;>(simp only [e,Bool.or_eq_true,decide_eq_true_eq] at q;exact q)
end L2
namespace L2
open PySem PySem.Spec PyProof.Rows
section
variable {prog:Program}{w:World}{A:Around}{R:Result→Shared→Prop}{s:Shared}{elt t0 i0 t1 i1:Expr}{ifs0 ifs1:List Expr}{scope:Scope}{pos:Pos}{it acc:Value}{env:Env}
end
section
variable {X:Cx}
end
end L2
namespace L2
open PySem PySem.Spec PyProof.Rows
section
variable {κ:Type}[DecidableEq κ]
def valV (kvs:List (κ×V))(k:κ):Option V:=(kvs.find? fun kv=>decide (kv.1=k)).map (·.2)
theorem valV_pos {p:κ×V}{r:List (κ×V)}{k:κ}(e:p.1=k):valV (p::r) k=some p.2:=by simp [valV,List.find?_cons,e]
theorem valV_neg {p:κ×V}{r:List (κ×V)}{k:κ}(e:¬ p.1=k):valV (p::r) k=valV r k:=by simp [valV,List.find?_cons,e]
theorem RelO.isSome_eq {o:Option V}{u:Option Value}(r:RelO o u):o.isSome=u.isSome:=by
 cases o with
 | none=>cases u with
  | none=>rfl
  | some _=>exact (show False from r).elim
 | some _=>cases u with
  | none=>exact (show False from r).elim
  | some _=>rfl
theorem RelO.getD {o:Option V}{u:Option Value}{d:V}{d':Value}(r:RelO o u)(rd:RelV d d'):RelV (o.getD d) (u.getD d'):=by
 cases o with
 | none=>cases u with
  | none=>exact rd
  | some _=>exact (show False from r).elim
 | some _=>cases u with
  | none=>exact (show False from r).elim
  | some _=>exact r
theorem KV.val {kvs:List (κ×V)}{vs:List (κ×Value)}(r:KV kvs vs)(k:κ):RelO (valV kvs k) (valueAt vs k):=by
 unfold KV at r
 induction r with
 | nil=>exact True.intro
 | @cons p q ps qs h t ih =>
  obtain ⟨h1,h2⟩:=h
  by_cases e:p.1=k
  ·have e':q.1=k:=h1.symm.trans e
   have b:valueAt (q::qs) k=some q.2:=by simp [valueAt,List.find?_cons,e']
   rw [valV_pos e,b];exact h2
  ·have e':¬ q.1=k:=fun z=>e (h1.trans z)
   have b:valueAt (q::qs) k=valueAt qs k:=by simp [valueAt,List.find?_cons,e']
   rw [valV_neg e,b];exact ih
end
theorem kV_is {P:Program}{w:World}{k:u8}{u:Value}(r:RelV (kV k) u):(wE P w).is k u=true:=by
 cases k with
 | inl i=>obtain ⟨t,e⟩:=(show ∃ t,u=Value.int i t from r);subst e;exact mixKind_int P w i t
 | inr x=>obtain ⟨t,e⟩:=(show ∃ t,u=Value.str x t from r);subst e;exact mixKind_str P w x t
section
variable {P:Program}{w:World}{H:Hp}{h:Heap}{a:Addr}
end
section
variable {X:Cx}{pins:List (Addr×Obj)}{σ:St}{H:Hp}{s:Shared}{a:Addr}{y v:V}{u r:Value}{o:Option V}{A:Around}{E:Value→Shared→Prop}
end
section
variable {X:Cx}{pins:List (Addr×Obj)}{σ:St}{H:Hp}{s:Shared}{a:Addr}{kvs:List (u8×V)}{k:u8}{u:Value}{A:Around}{E:Value→Shared→Prop}
end
def NoSl (i:Expr):Prop:=∀ ov iv,subscripted i false ov iv=operate [ov,iv] (getItem ov iv)
theorem subD_of {prog:Program}{w:World}{A:Around}{E:Value→Shared→Prop}{s:Shared}{env:Env}{value slice:Expr}{pos:Pos}{T id:String}{Q:Value→Shared→Prop}
  (hl:typeLookup (.type T) "__getitem__"=pure (some (.builtin id))) (hs:NoSl slice)
  (h:wpAny (model prog w) A (eval value env) (fun o s₁=>wpAny (model prog w) A (eval slice env) (fun i s₂=>s₂.TypeIs o T∧wpAny (model prog w) A (getItem o i) Q E s₂) E s₁) E s) :
  wpAny (model prog w) A (eval (.Subscript value slice pos) env) Q E s:=by
 refine Subscript_ (wpAny_mono h (fun o s₁ h₁=>wpAny_mono h₁ (fun i s₂ h₂=>?_) fun _ _ x=>x) fun _ _ x=>x)
 obtain ⟨hT,h₂⟩:=h₂
 unfold subscriptTail;refine wpAny_bind ?_
 rw [getitemInPython_of_ne hT.not_modules];refine wpAny_bind (wpAny_specialOf hT hl ?_)
 have fin:wpAny (model prog w) A (subscripted slice false o i) (fun r s₃=>wpAny (model prog w) A (letTemporaryGo value o r >>= fun _=>pure r) Q E s₃) E s₂:=by
  rw [hs o i];exact wpAny_operating (wpAny_mono h₂ (fun r s₃ h₃=>wpAny_bind (wpAny_letTemporaryGo (wpAny_pure h₃))) fun _ _ x=>x)
 first
  | exact wpAny_pure (wpAny_bind fin)
  | exact wpAny_bind (wpAny_pure (wpAny_bind fin))
  | exact wpAny_bind fin
section
variable {X:Cx}{o i e value:Expr}{pos pos' tpos:Pos}{td ty tv:TE}
end
section
variable {X:Cx}{pos:Pos}
end
structure M2 (X:Cx)(o:Expr)(m:Str)(apos:Pos)(e f:Expr)(cpos:Pos):Prop where
 base : attributeBase o m X.env (eval o X.env)=eval o X.env
 few : ((backTo cpos (starEach [e,f] X.env)).all (fun x=>!x.1)&&(backToKw cpos (keywordEach [] X.env)).all (fun x=>x.1.isSome)
  && decide (([e,f]:List Expr).length+([]:List Keyword).length+(if ([]:List Keyword).isEmpty then 0 else 1) < 30))=true
 line : (apos.endLine==cpos.line)=true
 trees : backTo cpos (starEach [e,f] X.env)=[(false,eval e X.env),(false,eval f X.env)]
section
variable {X:Cx}{pins:List (Addr×Obj)}{σ:St}{H:Hp}{s:Shared}{a:Addr}{y d:V}{u r:Value}{o:Option V}{A:Around}{E:Value→Shared→Prop}
end
section
variable {X:Cx}{o e f:Expr}{apos cpos:Pos}{td ty tx:TE}
end
section
variable {X:Cx}{pins:List (Addr×Obj)}{σ:St}{H:Hp}{s:Shared}{a:Addr}{kvs:List (u8×V)}{A:Around}{E:Value→Shared→Prop}
end
section
variable {X:Cx}{pins:List (Addr×Obj)}{σ:St}{H:Hp}{s:Shared}{a:Addr}{y:V}{u:Value}{A:Around}{E:Value→Shared→Prop}
end
end L2
namespace L2
open PySem PySem.Spec PyProof.Rows
section
variable {prog:Program}{w:World}{A:Around}{E:Value→Shared→Prop}
end
section
variable {X:Cx}
theorem refs_at : ∀ {ps:List Addr} {us:List Value},Vals (ps.map V.ref) us→us=ps.map Value.ref
 | [],us,r=>by
  rw [List.map_nil] at r;cases r;rfl
 | p::ps,us,r=>by
  rw [List.map_cons] at r
  cases r with
  | cons h t =>
   cases h;rw [List.map_cons,← refs_at t]
end
end L2
namespace L2
open PySem PySem.Spec PyProof.Rows
section
variable {X:Cx}{pins:List (Addr×Obj)}{σ:St}{H:Hp}{s:Shared}{h':Heap}
theorem Inv.turnedL {t':Nat}{ch:List Addr}(I:Inv X pins σ H s)(k:∀ b o,b∉ch→s.heap.get? b=some o→h'.get? b=some o)(hf:∀ b∈ch,FpOk X pins H b):Inv X pins σ H {s with heap:=h',toks:=t'}:=by
 have nit:∀ b u,H b=some u→b∉ch:=fun b u e z=>by
  have q:=(hf b z).1
  rw [q] at e;cases e
 refine I.step (g':=s.gens) (d':=s.drawn) (ch:=ch) (fun b hb=>⟨(hf b hb).2.2.2.1,(hf b hb).2.1,(hf b hb).2.2.2.2.1,(hf b hb).2.2.2.2.2⟩) (fun b o _ _ hc e _=>k b o hc e) (fun b o _ _ hc e _=>⟨o.slots,k b o hc e⟩)
  (fun _ _ _ _ n=>n) (fun b o hc e=>⟨o,k b o hc e⟩) (fun _ _ e=>e) (fun _ _ _ e=>e) (fun b ps e=>⟨#[],by rw [e];simp⟩) (fun m hm=>?_) (fun b u e=>?_) I.bare
 ·obtain ⟨o,es,ep,ho,r⟩:=hm
  exact ⟨o,es,ep,k _ o (fun z=>(hf _ z).2.1 rfl) ho,r⟩
 ·refine (I.hok b u e).stay (fun c v hc q=>k c v ?_ q) (fun _ q=>q) fun _ _ q=>q
  rcases hc with z | z
  ·rw [z];exact nit b u e
  ·exact nit c _ z
theorem Inv.turnedNew {t':Nat}{ch:List Addr}{T:Addr}{ob:HO}(I:Inv X pins σ H s)(k:∀ b o,b∉ch→s.heap.get? b=some o→h'.get? b=some o)(hf:∀ b∈ch,FpOk X pins H b)(hT:s.heap.objs.size≤T)
  (new:ObjOk X.prog X.w (upd H T ob) h' T ob):Inv X pins σ (upd H T ob) {s with heap:=h',toks:=t'}:=by
 have hn:H T=none:=I.hok.fresh hT
 have nit:∀ b u,H b=some u→b∉ch:=fun b u e z=>by
  have q:=(hf b z).1
  rw [q] at e;cases e
 refine I.step (g':=s.gens) (d':=s.drawn) (ch:=ch) (fun b hb=>⟨(hf b hb).2.2.2.1,(hf b hb).2.1,(hf b hb).2.2.2.2.1,(hf b hb).2.2.2.2.2⟩) (fun b o _ _ hc e _=>k b o hc e) (fun b o _ _ hc e _=>⟨o.slots,k b o hc e⟩)
  (fun b o _ e n=>?_) (fun b o hc e=>⟨o,k b o hc e⟩) (fun b xs e=>?_) (fun b o u e=>?_) (fun b ps e=>⟨#[],?_⟩) (fun m hm=>?_) (fun b u e=>?_) I.bare
 ·rw [zH (Nat.ne_of_lt (Nat.lt_of_lt_of_le (Heap.lt_size e) hT))];exact n
 ·rw [zH (zO e hn)];exact e
 ·rw [zH (zO e hn)];exact e
 ·rw [zH (zO e hn),e];simp
 ·obtain ⟨o,es,ep,ho,r⟩:=hm
  exact ⟨o,es,ep,k _ o (fun z=>(hf _ z).2.1 rfl) ho,r⟩
 ·by_cases hb:b=T
  ·subst hb
   rw [upd_same] at e;cases e;exact new
  ·rw [zH hb] at e
   refine (I.hok b u e).stay (fun c v hc q=>k c v ?_ q) (fun c q=>by rw [zH (zO q hn)];exact q) fun c xs q=>by rw [zH (zO q hn)];exact q
   rcases hc with z | z
   ·rw [z];exact nit b u e
   ·exact nit c _ z
end
section
variable {X:Cx}
theorem pi_one {tg:Expr}{pins:List (Addr×Obj)}{σ:St}{H:Hp}{s:Shared}{R:It→Hp→Prop}{J:It}{tn:Nat→Heap→Prop}{tk:Nat}(I:Inv X pins σ H s)(o:Obj)
  (T:Turn X.prog X.w X.K tg J [s.heap.objs.size] s.heap.objs.size tn) (st:tn 0 (s.heap.push o)) (q:R J H):PIE X pins σ tg R (.ref s.heap.objs.size) {s with heap:=s.heap.push o,toks:=tk}:=by
 refine ⟨s.heap.objs.size,[s.heap.objs.size],tn,J,H,rfl,I.kept fun b ob e=>Heap.get?_push_of_some _ e,T,st,fun b hb=>?_,q⟩
 have e:b=s.heap.objs.size:=by simpa using hb
 subst e;exact I.fpOk (Nat.le_refl _) (I.hok.fresh (Nat.le_refl _))
end
def Itc (lo c:Int)(n:Nat):It:=⟨fun i _=>i < n,fun i H x H'=>H'=H∧x = .int (lo+(i:Nat) * c),fun i _=>n≤i⟩
theorem turn_rangeC {P:Program}{w:World}{K:zF}{tg:Expr}(it:Addr)(lo c:Int)(n:Nat):Turn P w K tg (Itc lo c n) [it] it (fun i h=>IsRangeIter h it (lo+(i:Nat) * c) ((n:Int) - (i:Nat)) c) where
 mem:=by simp
 obj:=fun i h st b hb=>by
  have e:b=it:=by simpa using hb
  subst e;exact ⟨_,st,fun v z=>nomatch z⟩
 keep:=fun i h h' st k=>k it (by simp) _ st
 item:=by
  intro X hP hw hK hc i pins s σ H E I hf st hg
  subst hP hw hK
  obtain ⟨f0,f1,f2,f3,f4,f5⟩:=hf it (by simp)
  have W:=Walks.range (prog:=X.prog) (w:=X.w) (I.ok.hd hc) it lo c n
  refine W.item i s _ _ hg st fun v h' tk hv st' kk=>?_
  obtain ⟨t,rfl⟩:=hv
  have I1:Inv X pins σ H {s with heap:=h',toks:=tk}:=I.turned (fun b o hb e=>kk b o (by simpa using hb) e) f0 f1 f3 f4 f5
  exact ⟨_,rfl,go_of (s:={s with heap:=h',toks:=tk}) (n:="range_iterator") st' rfl rfl (by decide) ⟨.int (lo+(i:Nat) * c),H,I1,⟨t,rfl⟩,⟨rfl,rfl⟩,st',fun b hb=>(hf b hb).1⟩⟩
 done:=by
  intro X hP hw hK hc i pins s σ H E I hf st hg
  subst hP hw hK
  obtain ⟨f0,f1,f2,f3,f4,f5⟩:=hf it (by simp)
  exact wpAny_pyNext_range_end (I.ok.hd hc) st (by have:n≤i:=hg;omega) fun h' eb=>⟨rfl,I.turned (t':=s.toks) (fun b o hb e=>eb b o hb e) f0 f1 f3 f4 f5⟩
 self:=fun A i s Q E st h=>wpAny_pyIter_rangeiter st h
def RgC (i j c:Int)(n:Nat):Prop:=c≠0∧c.natAbs < 1073741824∧Builtin.Range.small i j c=true∧Builtin.Range.rangeSize i j c=n
def iRng3 (ta:TA):TI:=fun σ H R=>ta σ H fun vs H1=>∃ (i j c:Int) (n:Nat),vs=[.int i,.int j,.int c]∧RgC i j c n∧R (Itc i c n) H1
section
variable {X:Cx}{tg:Expr}
theorem pi_range3 {a b c:Expr}{ta:TA}{p pos:Pos}(hg:Gl X "range")(hm:X.mg "range"=none)(ha:PA X [a,b,c] ta)
  (hs:starEach [a,b,c] X.env=(false,eval a X.env)::starEach [b,c] X.env:=by rfl) (hpl:(backTo pos (starEach [b,c] X.env)).any (·.1)=false:=by rfl) :
  PI X tg (.Call (.Name "range" p) [a,b,c] [] pos) (iRng3 ta):=by
 intro pins s σ H R I h
 refine Call_ (uY I hg hm boot_range (PyProof.Rows.callWith_type1 (xE (ha pos pins s σ H _ I h) fun us s1 ⟨vs,H1,I1,r1,q1⟩=>?_) hs hpl))
 obtain ⟨i,j,k,n,e,⟨c0,c1,c2,c3⟩,q⟩:=q1
 subst e
 cases r1 with
 | cons r rr =>
  cases rr with
  | cons r' rr =>
   cases rr with
   | cons r'' rr =>
    cases rr;obtain ⟨t,rfl⟩:=r
    obtain ⟨t',rfl⟩:=r'
    obtain ⟨t'',rfl⟩:=r''
    refine call_range_3 c0 ?_ (.inl (PyProof.noPylong_small c1))
    refine wpAny_pyIter_range (IsRange.new ..) c2 ?_
    have I2:Inv X pins σ H1 {s1 with heap:=s1.heap.push {cls:=.type "range",data:=.fields #[.int i t,.int j t',.int k t'']}}:=I1.kept (t':=s1.toks) fun b o e=>Heap.get?_push_of_some _ e
    refine pi_one (tk:=s1.toks) I2 _ (turn_rangeC _ i k n) ?_ q
    have e1:i+((0:Nat):Int) * k=i:=by simp
    have e2:(n:Int) - ((0:Nat):Int)=Builtin.Range.rangeSize i j k:=by rw [c3];simp
    show IsRangeIter _ _ (i+((0:Nat):Int) * k) ((n:Int) - ((0:Nat):Int)) k
    rw [e1,e2];exact Heap.get?_push_size _ rfl
end
section
variable {X:Cx}{tg:Expr}
end
def Its (x:Str):It:=⟨fun i _=>i < x.cps.size,fun i H v H'=>H'=H∧∃ c,x.cps[i]? = some c∧v = .str ⟨#[c]⟩,fun i _=>x.cps.size≤i⟩
theorem turn_str {P:Program}{w:World}{K:zF}{tg:Expr}(it:Addr)(x:Str)(t:Tok)(ty:String)(hty:ty="str_ascii_iterator"∨ty="str_iterator") :
  Turn P w K tg (Its x) [it] it (fun i h=>h.IsStrIter it ty x t i) where
 mem:=by simp
 obj:=fun i h st b hb=>by
  have e:b=it:=by simpa using hb
  subst e;obtain ⟨o,e,c,d⟩:=st
  exact ⟨o,e,fun v z=>by rw [d] at z;cases z⟩
 keep:=fun i h h' st k=>let ⟨o,ho,r⟩:=st;⟨o,k it (by simp) o ho,r⟩
 item:=by
  intro X hP hw hK hc i pins s σ H E I hf st hg
  subst hP hw hK
  obtain ⟨f0,f1,f2,f3,f4,f5⟩:=hf it (by simp)
  have W:Walks X.prog X.w X.A it [it] [it] x.cps.size (SignAt x) (fun i h=>h.IsStrIter it ty x t i):=by
   rcases hty with e | e
   ·rw [e];exact Walks.strAscii (I.ok.hd hc) it x t
   ·rw [e];exact Walks.strWide (I.ok.hd hc) it x t
  have hno:["enumerate","zip","dict_itemiterator","dict_reverseitemiterator","odict_iterator","itertools.zip_longest","itertools.pairwise"].contains ty=false:=by
   rcases hty with e | e
   ·rw [e];decide
   ·rw [e];decide
  refine W.item i s _ _ hg st fun v h' tk hv st' kk=>?_
  obtain ⟨c,u,hcx,rfl⟩:=hv
  have I1:Inv X pins σ H {s with heap:=h',toks:=tk}:=I.turned (fun b o hb e=>kk b o (by simpa using hb) e) f0 f1 f3 f4 f5
  obtain ⟨oi,e,cc,dd⟩:=id st'
  exact ⟨_,rfl,go_of (s:={s with heap:=h',toks:=tk}) e cc dd hno ⟨.str ⟨#[c]⟩,H,I1,⟨u,rfl⟩,⟨rfl,c,hcx,rfl⟩,st',fun b hb=>(hf b hb).1⟩⟩
 done:=by
  intro X hP hw hK hc i pins s σ H E I hf st hg
  subst hP hw hK
  obtain ⟨f0,f1,f2,f3,f4,f5⟩:=hf it (by simp)
  have hx:x.cps[i]? = none:=Array.getElem?_eq_none hg
  rcases hty with e | e
  ·rw [e] at st
   exact wpAny_pyNext_ascii_end (I.ok.hd hc) st hx fun h' eb=>⟨rfl,I.turned (t':=s.toks) (fun b o hb e=>eb b o hb e) f0 f1 f3 f4 f5⟩
  ·rw [e] at st
   exact wpAny_pyNext_wide_end (I.ok.hd hc) st hx fun h' eb=>⟨rfl,I.turned (t':=s.toks) (fun b o hb e=>eb b o hb e) f0 f1 f3 f4 f5⟩
 self:=fun A i s Q E st h=>by
  rcases hty with e | e
  ·rw [e] at st;exact wpAny_pyIter_striter_ascii st h
  ·rw [e] at st;exact wpAny_pyIter_striter_wide st h
def iStr (te:TE):TI:=fun σ H R=>te σ H fun v H1=>∃ x,v = .str x∧R (Its x) H1
theorem pi_str {X:Cx}{tg e:Expr}{te:TE}(he:PE X e te):PI X tg e (iStr te):=by
 intro pins s σ H R I h
 refine xE (he pins s σ H _ I h) fun v s1 ⟨y,H1,I1,r1,x,ex,q⟩=>?_
 subst ex;obtain ⟨t,rfl⟩:=r1
 cases ha:x.cps.all (· < 128)
 ·exact wpAny_pyIter_wide ha (pi_one (tk:=s1.toks) I1 _ (turn_str _ x t "str_iterator" (.inr rfl)) ⟨_,Heap.get?_push_size _ rfl,rfl,rfl⟩ q)
 ·exact wpAny_pyIter_ascii ha (pi_one (tk:=s1.toks) I1 _ (turn_str _ x t "str_ascii_iterator" (.inl rfl)) ⟨_,Heap.get?_push_size _ rfl,rfl,rfl⟩ q)
section
variable {prog:Program}{w:World}{A:Around}{E:Value→Shared→Prop}{s:Shared}
end
section
variable {X:Cx}{pins:List (Addr×Obj)}{σ:St}{H:Hp}{s:Shared}{d:Addr}{o:Obj}
end
section
variable {P:Program}{w:World}{K:zF}{tg:Expr}{d:Addr}{o:Obj}{es:Array DictEntry}{ep:Nat}
end
section
variable {X:Cx}{tg e:Expr}{td:TE}{apos cpos:Pos}
end
theorem boot_zip5 : bootBuiltins "zip"=some (.type "zip"):=by decide +kernel
def Itz (K:zF)(a b:Addr):It :=
 ⟨fun i H=>∃ (xs ys:List V) (x y:V),SqL K H a xs∧SqL K H b ys∧xs[i]? = some x∧ys[i]? = some y,
  fun i H v H'=>∃ T x y,v = .ref T∧H T=none∧H'=upd H T (.tup [x,y])∧(∀ xs,SqL K H a xs→xs[i]? = some x)∧∀ ys,SqL K H b ys→ys[i]? = some y,
  fun i H=>∃ xs ys:List V,SqL K H a xs∧SqL K H b ys∧(xs.length≤i∨ys.length≤i)⟩
theorem turn_zip {P:Program}{w:World}{K:zF}{elts:List Expr}{kk:Nat}{tpos:Pos}{a b z TI TO i1 i2:Addr}(D:ZipApart z TI TO i1 i2 a b) :
  Turn P w K (.Tuple elts kk tpos) (Itz K a b) [z,TI,TO,i1,i2] z (fun i h=>IsZip h z TI TO .none∧IsPair h TI (.ref i1) (.ref i2)∧(∃ x y,IsPair h TO x y)∧h.IsListIter i1 a i∧h.IsListIter i2 b i) where
 mem:=by simp
 obj:=fun i h st c hc=>by
  obtain ⟨hz,hTI,⟨x,y,hTO⟩,⟨o1,e1,_,d1⟩,⟨o2,e2,_,d2⟩⟩:=st
  have e':c=z∨c=TI∨c=TO∨c=i1∨c=i2:=by simpa using hc
  rcases e' with q | q | q | q | q
  ·rw [q];exact ⟨_,hz,fun v q=>nomatch q⟩
  ·rw [q];exact ⟨_,hTI,fun v q=>nomatch q⟩
  ·rw [q];exact ⟨_,hTO,fun v q=>nomatch q⟩
  ·rw [q];exact ⟨o1,e1,fun v q=>by rw [d1] at q;cases q⟩
  ·rw [q];exact ⟨o2,e2,fun v q=>by rw [d2] at q;cases q⟩
 keep:=fun i h h' st k=>by
  obtain ⟨hz,hTI,⟨x,y,hTO⟩,h1,h2⟩:=st
  exact ⟨k z (by simp) _ hz,k TI (by simp) _ hTI,⟨x,y,k TO (by simp) _ hTO⟩,h1.at fun o q=>k i1 (by simp) o q,h2.at fun o q=>k i2 (by simp) o q⟩
 item:=by
  intro X hP hw hK hc i pins s σ H E I hf st hg
  subst hP hw hK
  obtain ⟨hz,hTI,⟨x0,y0,hTO⟩,h1,h2⟩:=st
  obtain ⟨xs,ys,x,y,hqx,hqy,hx,hy⟩:=hg
  obtain ⟨its,rv,p,_⟩:=I.list hqx
  obtain ⟨its2,rv2,p2,_⟩:=I.list hqy
  obtain ⟨u,hu,ru⟩:=rv.get hx
  obtain ⟨u2,hu2,ru2⟩:=rv2.get hy
  have hzl:z < s.heap.objs.size:=Heap.lt_size hz
  refine wpAny_pyNext_zip_item D hz hTI hTO h1 h2 p.isList p2.isList (x:=u) (y:=u2) (by simpa using hu) (by simpa using hu2) fun h' z' TO' h1' h2' hT hsz hk=>?_
  refine ⟨_,rfl,wpAny_letOwnedTupleGo_zip (s:={s with heap:=h'}) z' fun h'' z'' sb=>?_⟩
  have hT2:h''.get? s.heap.objs.size=some {cls:=.type "tuple",data:=.seq #[u,u2]}:=(sb.2 _ (Nat.ne_of_gt hzl)).trans hT
  have new:ObjOk X.prog X.w (upd H s.heap.objs.size (.tup [x,y])) h'' s.heap.objs.size (.tup [x,y]) :=
   ⟨by show 2≤sizeLine;decide,[u,u2],.cons ru (.cons ru2 .nil),⟨_,hT2,rfl,_,rfl⟩⟩
  have I1:Inv X pins σ (upd H s.heap.objs.size (.tup [x,y])) {s with heap:=h''} :=
   I.turnedNew (t':=s.toks) (ch:=[z,TI,TO,i1,i2]) (fun c o hb q=>(sb.2 c (fun q'=>hb (by simp [q']))).trans (hk c o (fun q'=>hb (by simp [q'])) (fun q'=>hb (by simp [q'])) (fun q'=>hb (by simp [q'])) (fun q'=>hb (by simp [q'])) q)) hf (Nat.le_refl _) new
  refine ⟨.ref s.heap.objs.size,_,I1,rfl,⟨_,x,y,rfl,I.hok.fresh (Nat.le_refl _),rfl,fun l hl=>by rw [I.list_inj hl hqx];exact hx,fun l hl=>by rw [I.list_inj hl hqy];exact hy⟩,⟨z'',?_,⟨u,u2,?_⟩,?_,?_⟩,fun c hcm=>?_⟩
  ·exact (sb.2 _ D.TIz).trans (hk _ _ D.TIz D.TITO D.TIi1 D.TIi2 hTI)
  ·exact (sb.2 _ D.TOz).trans TO'
  ·exact h1'.at fun o q=>(sb.2 _ D.i1z).trans q
  ·exact h2'.at fun o q=>(sb.2 _ D.i2z).trans q
  ·have hlt:c < s.heap.objs.size:=by
    have e':c=z∨c=TI∨c=TO∨c=i1∨c=i2:=by simpa using hcm
    rcases e' with q | q | q | q | q
    ·rw [q];exact hzl
    ·rw [q];exact Heap.lt_size hTI
    ·rw [q];exact Heap.lt_size hTO
    ·rw [q];obtain ⟨_,e1,_⟩:=h1;exact Heap.lt_size e1
    ·rw [q];obtain ⟨_,e2,_⟩:=h2;exact Heap.lt_size e2
   rw [zH (Nat.ne_of_lt hlt)];exact (hf c hcm).1
 done:=by
  intro X hP hw hK hc i pins s σ H E I hf st hg
  subst hP hw hK
  obtain ⟨hz,hTI,⟨x0,y0,hTO⟩,h1,h2⟩:=st
  obtain ⟨xs,ys,hqx,hqy,hend⟩:=hg
  obtain ⟨its,rv,p,_⟩:=I.list hqx
  obtain ⟨its2,rv2,p2,_⟩:=I.list hqy
  have l1:=rv.length
  have l2:=rv2.length
  have he:its.toArray[i]? = none∨its2.toArray[i]? = none:=by
   rcases hend with q | q
   ·exact .inl (by simp;omega)
   ·exact .inr (by simp;omega)
  exact wpAny_pyNext_zip_end (I.ok.hd hc) D hz hTI hTO h1 h2 p.isList p2.isList he fun h' hk=>⟨rfl,I.turnedL (t':=s.toks) (ch:=[z,TI,TO,i1,i2]) (fun c o hb q =>
   hk c o (fun q'=>hb (by simp [q'])) (fun q'=>hb (by simp [q'])) (fun q'=>hb (by simp [q'])) (fun q'=>hb (by simp [q'])) q) hf⟩
 self:=fun A i s Q E st h=>wpAny_pyIter_zip st.1 h
def iZip (K:zF)(ta:TA):TI:=fun σ H R=>ta σ H fun vs H1=>∃ a b xs ys,vs=[.ref a,.ref b]∧SqL K H1 a xs∧SqL K H1 b ys∧R (Itz K a b) H1
theorem pi_zip {X:Cx}{e e2:Expr}{ta:TA}{p pos tpos:Pos}{elts:List Expr}{kk:Nat}(hg:Gl X "zip")(hm:X.mg "zip"=none)(ha:PA X [e,e2] ta)
  (hs:starEach [e,e2] X.env=(false,eval e X.env)::starEach [e2] X.env:=by rfl) (hpl:(backTo pos (starEach [e2] X.env)).any (·.1)=false:=by rfl) :
  PI X (.Tuple elts kk tpos) (.Call (.Name "zip" p) [e,e2] [] pos) (iZip X.K ta):=by
 intro pins s σ H R I h
 refine Call_ (uY I hg hm boot_zip5 (PyProof.Rows.callWith_type1 (xE (ha pos pins s σ H _ I h) fun us s1 ⟨vs,H1,I1,r1,q1⟩=>?_) hs hpl))
 obtain ⟨a,b,xs,ys,ex,hqx,hqy,q⟩:=q1
 subst ex
 cases r1 with
 | cons r rr =>
  cases rr with
  | cons r' rr =>
   cases rr;cases r
   cases r'
   obtain ⟨its,rv,p1,_⟩:=I1.list hqx
   obtain ⟨its2,rv2,p2,_⟩:=I1.list hqy
   have la:a < s1.heap.objs.size:=p1.lt
   have lb:b < s1.heap.objs.size:=p2.lt
   refine call_zip_2 p1.isList p2.isList fun h' hz hTI hTO h1 h2 hsz hk=>wpAny_pyIter_zip hz ?_
   have I2:Inv X pins σ H1 {s1 with heap:=h'}:=I1.kept (t':=s1.toks) hk
   refine ⟨s1.heap.objs.size+4,[s1.heap.objs.size+4,s1.heap.objs.size+2,s1.heap.objs.size+3,s1.heap.objs.size,s1.heap.objs.size+1],_,_,H1,rfl,I2,turn_zip (PySem.W.ktu_apart s1.heap.objs.size a b la lb),⟨hz,hTI,⟨_,_,hTO⟩,h1,h2⟩,fun c hcm=>?_,q⟩
   have e':c=s1.heap.objs.size+4∨c=s1.heap.objs.size+2∨c=s1.heap.objs.size+3∨c=s1.heap.objs.size∨c=s1.heap.objs.size+1:=by simpa using hcm
   have hle:s1.heap.objs.size≤c:=by
    rcases e' with z | z | z | z | z
    ·rw [z];exact Nat.le_add_right _ _
    ·rw [z];exact Nat.le_add_right _ _
    ·rw [z];exact Nat.le_add_right _ _
    ·rw [z];exact Nat.le_refl _
    ·rw [z];exact Nat.le_add_right _ _
   exact I1.fpOk hle (I1.hok.fresh hle)
end L2
section
namespace Bits
open PySem PyProof.Rows
end Bits
end
section
namespace TL
open PySem PySem.Builtin PySem.Builtin.Str PySem.StrLaws
end TL
end
namespace L2
open PySem PySem.Spec PyProof.Rows
theorem vals_strs : ∀ l:List (Str×Tok),Vals ((l.map (·.1)).map V.str) (strValues l)
 | []=>.nil
 | p::r=>.cons ⟨p.2,rfl⟩ (vals_strs r)
theorem v9 : ∀ {ys:List Str} {us:List Value},Vals (ys.map V.str) us→StrsAre us ys
 | [],_,.nil=>.nil
 | y::ys,_,.cons r t=>by
  obtain ⟨k,rfl⟩:=r
  exact .cons y k (v9 t)
def rNewStrs (ys:List Str):Hp→VK→Prop:=fun H Q=>∀ p,H p=none→Q (.ref p) (upd H p (.lst (ys.map V.str)))
section
variable {X:Cx}{pins:List (Addr×Obj)}{σ:St}{H:Hp}{s:Shared}{Q:VK}
theorem laid_strs {l:List (Str×Tok)}{ys:List Str}{k:Nat}(I:Inv X pins σ H s)(e:l.map (·.1)=ys)(hz:ys.length≤sizeLine)(h:rNewStrs ys H Q) :
  EP X pins σ Q (.ref s.heap.objs.size) {s with toks:=k,heap:=s.heap.push {cls:=.type "list",data:=.seq (strValues l).toArray}}:=by
 have hp:=I.hok.fresh (Nat.le_refl _)
 refine ⟨.ref s.heap.objs.size,upd H s.heap.objs.size (.lst (ys.map V.str)),I.laid (fun b u q=>Heap.get?_push_of_some _ q) (Nat.le_refl _) ⟨by rw [List.length_map];exact hz,strValues l,_,?_,Heap.get?_push_size _ rfl⟩,rfl,h _ hp⟩
 rw [← e];exact vals_strs l
end
section
variable {X:Cx}
theorem mt_split : MtR X "str.split" (fun x xs H Q=>∃ a b,x = .str a∧xs=[.str b]∧(b.length==0)=false∧a.length+2≤sizeLine∧rNewStrs (Txt.split a b) H Q):=by
 intro pins s σ H x xs v us Q I rx rs h
 obtain ⟨a,b,rfl,rfl,hb,hz,h⟩:=h
 obtain ⟨t,rfl⟩:=rx
 cases rs with
 | cons r1 rs =>
  cases rs;obtain ⟨u,rfl⟩:=r1
  have hl:(Txt.split a b).length≤sizeLine:=Nat.le_trans (PyProof.Rows.split_le a b) hz
  have hn:(Builtin.Str.partsBetween a (Builtin.Str.occurrences a b 0 a.length (a.length+1)) b.length).length≤sizeLine:=by
   have e1:=StrLaws.occ_length_le a b 0 a.length (a.length+1)
   rw [length_partsBetween];omega
  cases h1:(decide (a.length < b.length)||decide (Builtin.Str.strKind a < Builtin.Str.strKind b))
  ·cases hf:(Builtin.Str.occurrences a b 0 a.length (a.length+1)).isEmpty
   ·refine call_meets F.slot_str_split (typeIs_str _ _ _) F.entry_str_split (F.args_str_split_2 _ _) (meets_str_split_sep a b t u h1 hb hf (by omega) hn) ?_
    show EP X pins σ Q (.ref s.heap.objs.size) {s with toks:=_,heap:=s.heap.push {cls:=.type "list",data:=.seq (strsFrom s.toks (Builtin.Str.partsBetween a (Builtin.Str.occurrences a b 0 a.length (a.length+1)) b.length)).toArray}}
    rw [strsFrom_eq];exact laid_strs (ys:=Txt.split a b) I ((numbered_texts _ _).trans ((if_neg (ne_true_of_eq_false h1)).trans (if_neg (ne_true_of_eq_false hf))).symm) hl h
   ·refine call_meets F.slot_str_split (typeIs_str _ _ _) F.entry_str_split (F.args_str_split_2 _ _) (meets_str_split_not_found a b t u h1 hb hf) ?_
    exact laid_strs (l:=[(a,t)]) (ys:=Txt.split a b) (k:=s.toks) I ((if_neg (ne_true_of_eq_false h1)).trans (if_pos hf)).symm hl h
  ·refine call_meets F.slot_str_split (typeIs_str _ _ _) F.entry_str_split (F.args_str_split_2 _ _) (meets_str_split_cannot_occur a b t u h1) ?_
   exact laid_strs (l:=[(a,t)]) (ys:=Txt.split a b) (k:=s.toks) I (if_pos h1).symm hl h
theorem mt_join : MtR X "str.join" (fun x xs H Q=>∃ a p,∃ ys:List Str,x = .str a∧xs=[.ref p]∧(SqL X.K H p (ys.map V.str)∨SqT X.K H p (ys.map V.str)) ∧
  (ys.map (·.length)).sum+ys.length * a.length≤16777216∧Q (.str (Txt.join a ys)) H):=by
 intro pins s σ H x xs v us Q I rx rs h
 obtain ⟨a,p,ys,rfl,rfl,hp,hz,h⟩:=h
 obtain ⟨t,rfl⟩:=rx
 cases rs with
 | cons r1 rs =>
  cases rs;cases r1;rcases hp with hp | hp
  ·obtain ⟨its,r,⟨o,n,ho,hc,_,hd⟩,_⟩:=I.list hp
   exact PyProof.Rows.join_list (items:=its.toArray) ⟨o,ho,hc,n,hd⟩ (by rw [List.toList_toArray];exact v9 r) hz fun t' k=>⟨.str _,H,I.tok k,⟨t',rfl⟩,h⟩
  ·obtain ⟨its,r,ht,_⟩:=I.tuple hp
   exact PyProof.Rows.join_tuple (items:=its.toArray) ht (by rw [List.toList_toArray];exact v9 r) hz fun t' k=>⟨.str _,H,I.tok k,⟨t',rfl⟩,h⟩
theorem mt0 {id:String}{C:Str→Prop}{g:Str→V}(rule:∀ (a:Str) (t:Tok) (s:Shared) (Q:Value→Shared→Prop),C a→(∀ (u:Value) (k:Nat),RelV (g a) u→Q u {s with toks:=k}) →
  wpAny (model X.prog X.w) X.A (call (.builtin id) [.str a t]) Q X.xe s):MtR X id (fun x xs H Q=>∃ a,x = .str a∧xs=[]∧C a∧Q (g a) H):=by
 intro pins s σ H x xs v us Q I rx rs h
 obtain ⟨a,rfl,rfl,hc,h⟩:=h
 obtain ⟨t,rfl⟩:=rx
 cases rs;exact rule a t s _ hc fun u k r=>⟨g a,H,I.tok k,r,h⟩
theorem mt_isdigit : MtR X "str.isdigit" (fun x xs H Q=>∃ a,x = .str a∧xs=[]∧True∧Q (.bl (Txt.isdigit a)) H) :=
 mt0 (C:=fun _=>True) (g:=fun a=>.bl (Txt.isdigit a)) fun _ _ s _ _ h=>PySem.SC.isdigit (h _ s.toks rfl)
theorem mt_isalpha : MtR X "str.isalpha" (fun x xs H Q=>∃ a,x = .str a∧xs=[]∧True∧Q (.bl (Txt.isalpha a)) H) :=
 mt0 (C:=fun _=>True) (g:=fun a=>.bl (Txt.isalpha a)) fun _ _ s _ _ h=>PySem.SC.isalpha (h _ s.toks rfl)
theorem call_int_str : vC X (.type "int") (fun xs H Q=>∃ a n,xs=[.str a]∧PySem.intText? a=some n∧a.length≤640∧Q (.int n) H):=by
 intro pins s σ H xs us Q I rs h
 obtain ⟨a,n,rfl,hn,hl,h⟩:=h
 cases rs with
 | cons r1 rs =>
  cases rs;obtain ⟨t,rfl⟩:=r1
  exact PySem.W.KIN.call_text hn hl ⟨.int n,H,I.tok _,⟨_,rfl⟩,h⟩
end
section
variable {X:Cx}{o e:Expr}{to te:TE}
def tM0 (r:V→List V→Hp→VK→Prop)(to:TE):TE:=fun σ H Q=>to σ H fun x H1=>(∃ a,x = .str a)∧r x [] H1 Q
def tM1 (r:V→List V→Hp→VK→Prop)(to te:TE):TE:=fun σ H Q=>to σ H fun x H1=>(∃ a,x = .str a)∧te σ H1 fun y H2=>r x [y] H2 Q
theorem pe_m0 {id:String}{name:Str}{apos pos:Pos}{r:V→List V→Hp→VK→Prop}(slot:Slot "str" name id)(ty:typeOf (.builtin id)=pure (.type "method_descriptor"))(rule:MtR X id r)(ho:PE X o to)
  (hbase:attributeBase o name X.env (eval o X.env)=eval o X.env:=by rfl) (hline:(apos.endLine==pos.line)=true:=by rfl):PE X (.Call (.Attribute o name apos) [] [] pos) (tM0 r to):=by
 intro pins s σ H Q I h
 refine PySem.Call_method0 hbase hline (xE (ho pins s σ H _ I h) fun v s1 ⟨x,H1,I1,r1,q1⟩=>?_)
 obtain ⟨⟨a,rfl⟩,q1⟩:=q1
 obtain ⟨t,rfl⟩:=_root_.id r1
 exact ⟨"str",_,F.plainAttrs_str,slot,ty,typeIs_str _ _ _,(fun _ e=>nomatch e),Calls.callWith_builtin rfl (PySem.evalArgs_none (rule pins s1 σ H1 _ [] _ [] Q I1 r1 .nil q1))⟩
theorem pe_m1 {id:String}{name:Str}{apos pos:Pos}{r:V→List V→Hp→VK→Prop}(slot:Slot "str" name id)(ty:typeOf (.builtin id)=pure (.type "method_descriptor"))(rule:MtR X id r)(ho:PE X o to)(he:PE X e te)
  (hs:starEach [e] X.env=[(false,eval e X.env)]:=by rfl) (hbase:attributeBase o name X.env (eval o X.env)=eval o X.env:=by rfl) (hline:(apos.endLine==pos.line)=true:=by rfl) :
  PE X (.Call (.Attribute o name apos) [e] [] pos) (tM1 r to te):=by
 intro pins s σ H Q I h
 refine PySem.Call_method1 hbase hs hline (xE (ho pins s σ H _ I h) fun v s1 ⟨x,H1,I1,r1,q1⟩=>?_)
 obtain ⟨⟨a,rfl⟩,q1⟩:=q1
 obtain ⟨t,rfl⟩:=_root_.id r1
 refine ⟨"str",_,F.plainAttrs_str,slot,ty,typeIs_str _ _ _,(fun _ e=>nomatch e),Calls.callWith_builtin rfl (Calls.evalArgs_plain (Calls.spliced_cons ?_))⟩
 exact xE (he pins s1 σ H1 _ I1 q1) fun u s2 ⟨y,H2,I2,r2,q2⟩=>Calls.spliced_nil (rule pins s2 σ H2 _ [y] _ [u] Q I2 r1 (.cons r2 .nil) q2)
theorem pe_split {apos pos:Pos}(ho:PE X o to)(he:PE X e te)(hs:starEach [e] X.env=[(false,eval e X.env)]:=by rfl)(hbase:attributeBase o "split" X.env (eval o X.env)=eval o X.env:=by rfl)(hline:(apos.endLine==pos.line)=true:=by rfl) :
  PE X (.Call (.Attribute o "split" apos) [e] [] pos) (tM1 (fun x xs H Q=>∃ a b,x = .str a∧xs=[.str b]∧(b.length==0)=false∧a.length+2≤sizeLine∧rNewStrs (Txt.split a b) H Q) to te) :=
 pe_m1 F.slot_str_split F.type_str_split mt_split ho he hs hbase hline
theorem pe_join {apos pos:Pos}(ho:PE X o to)(he:PE X e te)(hs:starEach [e] X.env=[(false,eval e X.env)]:=by rfl)(hbase:attributeBase o "join" X.env (eval o X.env)=eval o X.env:=by rfl)(hline:(apos.endLine==pos.line)=true:=by rfl) :
  PE X (.Call (.Attribute o "join" apos) [e] [] pos) (tM1 (fun x xs H Q=>∃ a p,∃ ys:List Str,x = .str a∧xs=[.ref p]∧(SqL X.K H p (ys.map V.str)∨SqT X.K H p (ys.map V.str)) ∧
   (ys.map (·.length)).sum+ys.length * a.length≤16777216∧Q (.str (Txt.join a ys)) H) to te) :=
 pe_m1 F.slot_str_join F.type_str_join mt_join ho he hs hbase hline
end
end L2
namespace L2
open PySem PySem.Spec PyProof.Rows
section
variable {X:Cx}
end
end L2
namespace Att
open PySem PySem.W PySem.Calls PyProof.Rows
section
variable {prog:Program}{w:World}{A:Around}{E:Value→Shared→Prop}{s:Shared}{K:Frag}
end
end Att
namespace L2
open PySem PySem.Spec PyProof.Rows
end L2
namespace L2
open PySem PySem.Spec PyProof.Rows
def yY (s:Stmt)(j:Nat):Stmt:=match s with
 | .ClassDef _ _ _ body _ _ _ _ _ _ _=>body.getD j (.Pass ⟨0,0,0,0⟩)
 | _=>.Pass ⟨0,0,0,0⟩
def wZ (s:Stmt):Arguments:=match s with
 | .FunctionDef _ a _ _ _ _ _ _ _ _=>a
 | _=>{posonlyargs:=[],args:=[],vararg:=none,kwonlyargs:=[],kw_defaults:=[],kwarg:=none,defaults:=[]}
def xP (s:Stmt):List Stmt:=match s with
 | .FunctionDef _ _ b _ _ _ _ _ _ _=>b
 | _=>[]
def zE (s:Stmt):Scope:=match s with
 | .FunctionDef _ _ _ _ _ _ sc _ _ _=>sc
 | _=>{kind:=.function,names:=[],isGenerator:=false,isCoroutine:=false}
abbrev CX0 : CXT:=fun _ _ _ _ _ _=>False
abbrev E0 : XK:=fun _ _ _=>False
theorem pass0 {X:Cx}:Passes CX0 X E0:=fun _ _ _ _ _ _ _ h=>h.elim
structure Fun (K:zF)(x qual:Str)(st:Stmt)(f:Addr)(fd:FuncData):Prop where
 ex : ∃ (oc:Value) (od:Option Addr) (kV doc pm:Value) (an:Option Addr) (cdv ct:Value) (osl:Array (Option Value)),
  fd=PySem.W.fnOf x qual (wZ st) (xP st) (zE st) .none kV doc pm an cdv ct∧K.lookup f=some ⟨oc,od,.func fd,osl⟩∧PySem.W.codeIn K cdv qual=true
 kp : PySem.W.keepIn K (.ref f)=true
section
variable {P:Program}{w:World}{K:zF}{mg:Str→Option Value}{base:Heap}
theorem Fun.ok {x qual:Str}{st:Stmt}{f:Addr}{fd:FuncData}{N ps:List Str}{k:Nat}{sp:Sp}(F:Fun K x qual st f fd)(S:zK N ps (zE st))(len:∀ vs H Q E,sp vs H Q E→vs.length=ps.length)
  (hbody:∀ (cdv:Value) (A:Around) (outer:List Env) (s:Shared) (H:Hp) (vs:List V) (Q:VK) (E:XK),Room k (A.deeper (envOfC qual (zE st) s.heap.objs.size f cdv))→sp vs H Q E →
   ∃ t,PSs (tT CX0 P w K mg base N qual (zE st) f cdv A outer s H E).nox (xP st) t∧t {nx:=fun _ H'=>Q .non H',rt:=Q} (start N vs) H):FnOk P w K mg base CX0 (k+1) f fd ps sp:=by
 obtain ⟨oc,od,kV,doc,pm,an,cdv,ct,osl,rfl,lk,hcd⟩:=F.ex
 refine fn_of lk hcd S len fun A outer s H vs Q E hr hsp=>?_
 obtain ⟨t,h,q⟩:=hbody cdv A outer s H vs Q E hr hsp
 exact ⟨t,h.nox,q⟩
theorem Fun.binds {x qual:Str}{st:Stmt}{f:Addr}{fd:FuncData}{ps:List Str}(F:Fun K x qual st f fd)
  (h:∀ (kV doc pm:Value) (an:Option Addr) (cdv ct:Value) (us:List Value),us.length=ps.length→bindArgs (PySem.W.fnOf x qual (wZ st) (xP st) (zE st) .none kV doc pm an cdv ct) ⟨us,[]⟩=pure (ps.zip us)):Binds K fd ps []:=by
 obtain ⟨oc,od,kV,doc,pm,an,cdv,ct,osl,rfl,lk,hcd⟩:=F.ex
 exact .all (h kV doc pm an cdv ct)
theorem fun_mk {x qual:Str}{st:Stmt}{f:Addr}{oc:Value}{od an:Option Addr}{osl:Array (Option Value)}{kV doc pm cdv ct:Value}(l:K.lookup f=some ⟨oc,od,.func (PySem.W.fnOf x qual (wZ st) (xP st) (zE st) .none kV doc pm an cdv ct),osl⟩)
  (c:PySem.W.codeIn K cdv qual=true) (k:PySem.W.keepIn K (.ref f)=true):Fun K x qual st f (PySem.W.fnOf x qual (wZ st) (xP st) (zE st) .none kV doc pm an cdv ct):=⟨⟨oc,od,kV,doc,pm,an,cdv,ct,osl,rfl,l,c⟩,k⟩
end
section
variable {X:Cx}
theorem pv (i:Nat){x:Str}{pos:Pos}(hN:X.N[i]? = some x:=by rfl)(hv:Vis X.env.scope x:=by first | exact Or.inl rfl | exact Or.inr (Or.inl rfl) | exact Or.inr (Or.inr rfl))(hd:(x==("__debug__":Str))=false:=by decide)
  (hcd:(x==("__classdict__":Str))=false:=by decide):PE X (.Name x pos) (tVar i):=pe_var hN hv hd hcd
end
theorem iteF {A B:Prop}(h:B):if false=true then A else B:=by
 rw [if_neg Bool.false_ne_true];exact h
theorem iteT {A B:Prop}(h:A):if true=true then A else B:=by
 rw [if_pos rfl];exact h
def Same (H H':Hp):Prop:=∀ b o,H b=some o→H' b=some o
theorem Same.refl (H:Hp):Same H H:=fun _ _ h=>h
theorem Same.trans {H H1 H2:Hp}(a:Same H H1)(b:Same H1 H2):Same H H2:=fun c o h=>b c o (a c o h)
theorem Same.seq {K:zF}{H H':Hp}{a:Addr}{xs:List V}(e:Same H H')(h:SqL K H a xs):SqL K H' a xs:=by
 rcases h with (h | ⟨o,h⟩) | h
 ·exact .inl (.inl (e _ _ h))
 ·exact .inl (.inr ⟨o,e _ _ h⟩)
 ·exact .inr h
section
variable {κ:Type}[DecidableEq κ]
end
theorem at_of {xs:List V}{z:Int}{j:Nat}{v:V}(e:z=(j:Int))(h:xs[j]? = some v):yZ xs z=some v:=by
 rw [e];exact atI_nat h
end L2
namespace M
open Vbtpah
theorem rise_unique {α:Type}(f:α→Int):∀ (l m:List α),l.Pairwise (fun x y=>f x≤f y)→m.Pairwise (fun x y=>f x≤f y) →
  (∀ c,l.filter (fun x=>f x==c)=m.filter (fun x=>f x==c))→l=m
 | [],[],_,_,_=>rfl
 | [],y::ys,_,_,h=>by
  have:=h (f y);simp at this
 | x::xs,[],_,_,h=>by
  have:=h (f x);simp at this
 | x::xs,y::ys,hl,hm,h=>by
  obtain ⟨hl1,hl2⟩:=List.pairwise_cons.mp hl
  obtain ⟨hm1,hm2⟩:=List.pairwise_cons.mp hm
  have hxy:f x=f y:=by
   have h1:=h (f x)
   have h2:=h (f y)
   have a:f y≤f x:=by
    have : x∈(y::ys).filter (fun z=>f z==f x):=by rw [← h1];simp
    have hm':=(List.mem_filter.mp this).1
    rcases List.mem_cons.mp hm' with e | e
    ·rw [e];exact Int.le_refl _
    ·exact hm1 x e
   have b:f x≤f y:=by
    have : y∈(x::xs).filter (fun z=>f z==f y):=by rw [h2];simp
    have hm':=(List.mem_filter.mp this).1
    rcases List.mem_cons.mp hm' with e | e
    ·rw [e];exact Int.le_refl _
    ·exact hl1 y e
   omega
  have h1:=h (f x)
  rw [List.filter_cons,List.filter_cons,if_pos (by simp),if_pos (by simp [hxy])] at h1
  obtain ⟨e,_⟩:=List.cons.inj h1
  subst e
  congr 1
  refine rise_unique f xs ys hl2 hm2 fun c=>?_
  have h1:=h c
  rw [List.filter_cons,List.filter_cons] at h1
  split at h1
  ·exact (List.cons.inj h1).2
  ·exact h1
def rawReadings (l:Log)(s t:Nat):List Reading:=l.filterMap fun e=>match e.says with
 | .reading q m v=>if q=s∧m≤t then some ⟨m,v⟩ else none
 | _=>none
def uD (a:List Reading)(xs:List Reading):List Reading:=xs.foldl (fun a x=>putReading x a) a
theorem readingsOf_aux (s t:Nat):∀ (l:Log) (a:List Reading),l.foldl (fun a e=>match e.says with
 | .reading q m v=>if q=s∧m≤t then putReading ⟨m,v⟩ a else a
 | _=>a) a=uD a (rawReadings l s t)
 | [],a=>rfl
 | e::r,a=>by
  rw [List.foldl_cons,readingsOf_aux s t r];obtain ⟨at_,says⟩:=e
  cases says with
  | reading q m v =>
   by_cases h:q=s∧m≤t
   ·simp [rawReadings,uD,h]
   ·simp [rawReadings,uD,h]
  | _=>simp [rawReadings,uD]
theorem readingsOf_eq (l:Log)(s t:Nat):readingsOf l s t=uD [] (rawReadings l s t):=readingsOf_aux s t l []
def key (x:Reading):Int:=(x.minute:Int)
theorem mem_put {x y:Reading}:∀ {a:List Reading},y∈putReading x a→y=x∨y∈a
 | [],h=>by simpa [putReading] using h
 | z::a,h=>by
  unfold putReading at h
  split at h
  ·rcases List.mem_cons.mp h with e | e
   ·exact .inl e
   ·exact .inr e
  ·rcases List.mem_cons.mp h with e | e
   ·exact .inr (by simp [e])
   ·rcases mem_put e with e | e
    ·exact .inl e
    ·exact .inr (List.mem_cons_of_mem _ e)
theorem put_rise {x:Reading}:∀ {a:List Reading},a.Pairwise (fun x y=>key x≤key y)→(putReading x a).Pairwise (fun x y=>key x≤key y)
 | [],_=>by simp [putReading]
 | z::a,h=>by
  obtain ⟨h1,h2⟩:=List.pairwise_cons.mp h
  unfold putReading;split
  ·rename_i hlt
   refine List.pairwise_cons.mpr ⟨fun y hy=>?_,h⟩
   have hz:key x≤key z:=by unfold key;omega
   rcases List.mem_cons.mp hy with e | e
   ·rw [e];exact hz
   ·exact Int.le_trans hz (h1 y e)
  ·rename_i hlt
   refine List.pairwise_cons.mpr ⟨fun y hy=>?_,put_rise h2⟩
   rcases mem_put hy with e | e
   ·rw [e];unfold key;omega
   ·exact h1 y e
theorem put_filter {x:Reading}(c:Int):∀ {a:List Reading},a.Pairwise (fun x y=>key x≤key y) →
  (putReading x a).filter (fun y=>key y==c)=a.filter (fun y=>key y==c)++[x].filter (fun y=>key y==c)
 | [],_=>by simp [putReading]
 | z::a,h=>by
  obtain ⟨h1,h2⟩:=List.pairwise_cons.mp h
  unfold putReading;split
  ·rename_i hlt
   by_cases hc:key x=c
   ·have hn:(z::a).filter (fun y=>key y==c)=[]:=by
     rw [List.filter_eq_nil_iff];intro y hy
     have hz:key x < key z:=by unfold key;omega
     have : key z≤key y:=by
      rcases List.mem_cons.mp hy with e | e
      ·rw [e];exact Int.le_refl _
      ·exact h1 y e
     have : ¬ key y=c:=by omega
     simpa using this
    rw [List.filter_cons,hn];simp [hc]
   ·rw [List.filter_cons,if_neg (by simpa using hc)]
    simp [hc]
  ·rw [List.filter_cons,List.filter_cons,put_filter c h2]
   split<;>simp
theorem putAll_rise : ∀ (xs a:List Reading),a.Pairwise (fun x y=>key x≤key y)→(uD a xs).Pairwise (fun x y=>key x≤key y)
 | [],_,h=>h
 | x::xs,a,h=>putAll_rise xs (putReading x a) (put_rise h)
theorem putAll_filter (c:Int):∀ (xs a:List Reading),a.Pairwise (fun x y=>key x≤key y)→(uD a xs).filter (fun y=>key y==c)=a.filter (fun y=>key y==c)++xs.filter (fun y=>key y==c)
 | [],a,_=>by simp [uD]
 | x::xs,a,h=>by
  have:=putAll_filter c xs (putReading x a) (put_rise h)
  show (uD (putReading x a) xs).filter _=_
  rw [this,put_filter c h,List.append_assoc]
  congr 1
  simp [List.filter_cons]
  split<;>rfl
theorem sorted_is {l:Log}{s t:Nat}{rs:List Reading}(h1:rs.Pairwise (fun x y=>key x≤key y))(h2:∀ c,rs.filter (fun y=>key y==c)=(rawReadings l s t).filter (fun y=>key y==c)) :
  rs=readingsOf l s t:=by
 rw [readingsOf_eq];refine rise_unique key _ _ h1 (putAll_rise _ _ List.Pairwise.nil) fun c=>?_
 rw [h2,putAll_filter c _ _ List.Pairwise.nil];rfl
def madeAt (c:Nat)(e:Entry):Bool:=match e.says with
 | .checked q _=>q==c
 | _=>false
def lastMade (l:Log)(c:Nat):Nat:=(l.zipIdx 1).foldl (fun a p=>if madeAt c p.1=true then p.2 else a) 0
theorem lastMade_snoc (l:Log)(e:Entry)(c:Nat):lastMade (l++[e]) c=if madeAt c e=true then l.length+1 else lastMade l c:=by
 unfold lastMade;rw [List.zipIdx_append,List.foldl_append];simp [Nat.add_comm]
theorem since_snoc (l:Log)(e:Entry)(c:Nat):sinceCheck (l++[e]) c=if madeAt c e=true then ([],some e.at_) else ((sinceCheck l c).1++[e],(sinceCheck l c).2):=by
 unfold sinceCheck;rw [List.foldl_append];obtain ⟨a,s⟩:=e
 cases s with
 | checked q w =>
  by_cases h:q=c<;>simp [madeAt,h]
 | _=>simp [madeAt]
theorem snoc_ind {α:Type}{P:List α→Prop}(h0:P [])(h1:∀ l e,P l→P (l++[e]))(l:List α):P l:=by
 have : ∀ n (l:List α),l.length=n→P l:=by
  intro n
  induction n with
  | zero=>intro l hl;rw [List.length_eq_zero_iff.mp hl];exact h0
  | succ n ih =>
   intro l hl
   have hne:l≠[]:=by intro e;simp [e] at hl
   rw [← List.dropLast_concat_getLast hne];exact h1 _ _ (ih _ (by simp [hl]))
 exact this _ l rfl
theorem lastMade_le (l:Log)(c:Nat):lastMade l c≤l.length:=by
 induction l using snoc_ind with
 | h0=>simp [lastMade]
 | h1 l e ih =>
  rw [lastMade_snoc]
  split<;>simp<;>omega
theorem since_eq (l:Log)(c:Nat):sinceCheck l c=(l.drop (lastMade l c),if lastMade l c=0 then none else (l[lastMade l c - 1]?).map (·.at_)):=by
 induction l using snoc_ind with
 | h0=>simp [lastMade,sinceCheck]
 | h1 l e ih =>
  have hle:=lastMade_le l c
  rw [since_snoc,lastMade_snoc,ih];split
  ·simp
  ·rw [List.drop_append_of_le_length hle]
   congr 1
   split
   ·rfl
   ·rw [List.getElem?_append_left (by omega)]
theorem leftOf_eq (k:Check)(l:Log)(c t:Nat):leftOf k l c t=if lastMade l c=0 then 0 else
  (if k.byDays=true then (((l[lastMade l c - 1]?).map (·.at_)).getD 0 / DAY+k.every) - t / DAY else k.every - roundsIn (l.drop (lastMade l c)) k.ride):=by
 unfold leftOf;rw [since_eq]
 by_cases h:lastMade l c=0
 ·simp [h]
 ·have hl:lastMade l c - 1 < l.length:=by have:=lastMade_le l c;omega
  simp [h,List.getElem?_eq_getElem hl]
def lockStep (r:Nat)(a:List Nat)(e:Entry):List Nat:=match e.says with
 | .locked q w=>if q=r then a++[w] else a
 | .unlocked q w=>if q=r then a.filter (fun x=>x != w) else a
 | .forced q w _ _=>if q=r then a.filter (fun x=>x != w) else a
 | _=>a
theorem locksOn_snoc (l:Log)(e:Entry)(r:Nat):locksOn (l++[e]) r=lockStep r (locksOn l r) e:=by
 unfold locksOn;rw [List.foldl_append];rfl
def EntryOk (l:Log)(e:Entry):Prop:=match e.says with
 | .locked q w=>w∉locksOn l q
 | .unlocked q w=>w∈locksOn l q
 | .forced q w _ _=>w∈locksOn l q
 | _=>True
def LogOk (l:Log):Prop:=∀ i e,l[i]? = some e→EntryOk (l.take i) e
theorem LogOk.take {l:Log}(h:LogOk l)(k:Nat):LogOk (l.take k):=fun i e he=>by
 have hi:i < (l.take k).length:=(List.getElem?_eq_some_iff.mp he).1
 have hik:i < k:=by simp at hi;omega
 rw [List.getElem?_take_of_lt hik] at he;have:=h i e he
 rwa [List.take_take,Nat.min_eq_left (Nat.le_of_lt hik)]
theorem LogOk.nil : LogOk []:=fun i e he=>by simp at he
theorem LogOk.snoc {l:Log}{e:Entry}(h:LogOk l)(he:EntryOk l e):LogOk (l++[e]):=fun i e' hi=>by
 by_cases h1:i < l.length
 ·rw [List.getElem?_append_left h1] at hi
  rw [List.take_append_of_le_length (Nat.le_of_lt h1)];exact h i e' hi
 ·have h2:i=l.length:=by
   have:=(List.getElem?_eq_some_iff.mp hi).1
   simp at this;omega
  subst h2;simp at hi
  subst hi;simpa using he
theorem LogOk.init {l:Log}{e:Entry}(h:LogOk (l++[e])):LogOk l∧EntryOk l e:=by
 constructor
 ·have:=h.take l.length
  simpa using this
 ·have:=h l.length e (by simp)
  simpa using this
theorem locks_nodup : ∀ {l:Log},LogOk l→∀ r,(locksOn l r).Nodup:=by
 intro l
 induction l using snoc_ind with
 | h0=>intro _ r;simp [locksOn]
 | h1 l e ih =>
  intro h r
  obtain ⟨h1,h2⟩:=h.init
  have hn:=ih h1 r
  rw [locksOn_snoc];obtain ⟨t,s⟩:=e
  cases s with
  | locked q w =>
   by_cases hq:q=r
   ·subst hq
    have h2:w∉locksOn l q:=h2
    simp only [lockStep,if_true];rw [List.nodup_append];refine ⟨hn,by simp,fun a ha b hb=>?_⟩
    simp at hb
    subst hb;exact fun e=>h2 (e ▸ ha)
   ·simp only [lockStep,if_neg hq];exact hn
  | unlocked q w =>
   by_cases hq:q=r
   ·simp only [lockStep,if_pos hq];exact hn.filter _
   ·simp only [lockStep,if_neg hq];exact hn
  | forced q w a b =>
   by_cases hq:q=r
   ·simp only [lockStep,if_pos hq];exact hn.filter _
   ·simp only [lockStep,if_neg hq];exact hn
  | _=>exact hn
theorem erase_is_filter : ∀ {a:List Nat} {w:Nat},a.Nodup→a.erase w=a.filter (fun x=>x != w)
 | a,w,h=>List.Nodup.erase_eq_filter h w
theorem min_any (n:Nat):∀ (l:List Nat) (a:Option Nat),((l.foldl (fun a n=>match a with
 | none=>some n
 | some m=>some (min m n)) a).any fun k=>decide (k < n))=(a.any (fun k=>decide (k < n))||l.any fun k=>decide (k < n))
 | [],a=>by simp
 | x::l,a=>by
  rw [List.foldl_cons,min_any n l]
  cases a with
  | none=>simp
  | some m =>
   simp only [Option.any_some,List.any_cons];rw [← Bool.or_assoc]
   congr 1
   rw [Bool.eq_iff_iff];simp only [decide_eq_true_eq,Bool.or_eq_true];omega
theorem rounds_any (p:Park)(l:Log)(r t n:Nat):((roundsLeft p l r t).any fun k=>decide (k < n)) =
  (p.checks.zipIdx 1).any (fun x=>decide (x.1.ride=r∧x.1.byDays=false)&&decide (leftOf x.1 l x.2 t < n)):=by
 refine (min_any n _ none).trans ?_
 simp only [Option.any_none,Bool.false_or];generalize p.checks.zipIdx 1=cs
 induction cs with
 | nil=>rfl
 | cons c cs ih =>
  rw [List.filterMap_cons,List.any_cons]
  by_cases h:c.1.ride=r∧c.1.byDays=false
  ·simp only [h,and_self,if_true,List.any_cons,decide_true,Bool.true_and]
   rw [ih]
  ·simp only [h,if_false,decide_false,Bool.false_and,Bool.false_or]
   exact ih
theorem staff_snoc (l:Log)(e:Entry)(r:Nat):staffOf (l++[e]) r=match e.says with
 | .staffed q k=>if q=r then k else staffOf l r
 | _=>staffOf l r:=by
 unfold staffOf;rw [List.foldl_append];rfl
theorem gone_snoc (l:Log)(e:Entry)(w:Nat):isGone (l++[e]) w=match e.says with
 | .left q=>if q=w then true else isGone l w
 | .came q=>if q=w then false else isGone l w
 | _=>isGone l w:=by
 unfold isGone;rw [List.foldl_append];rfl
theorem sumNat_eq : ∀ (l:List Nat),sumNat l=l.sum:=by
 have : ∀ (l:List Nat) (a:Nat),l.foldl (fun a b=>a+b) a=a+l.sum:=by
  intro l
  induction l with
  | nil=>intro a;simp
  | cons x l ih=>intro a;rw [List.foldl_cons,ih,List.sum_cons];omega
 intro l
 unfold sumNat;rw [this];omega
theorem switch_snoc (r:Rule)(l:List Reading)(x:Reading):switchOf r (l++[x])=turn r (switchOf r l) x:=by
 unfold switchOf;rw [List.foldl_append];rfl
end M
namespace M
open Vbtpah
def sgn (b:Nat):Nat:=if b=10 then 10 else if b=32 then 32 else if 48≤b∧b≤57 then b else if 97≤b∧b≤122 then b else 63
theorem sgn_letter (c:Nat):isLetter (sgn c)=isLetter c:=by
 unfold isLetter sgn;rw [Bool.eq_iff_iff];simp only [decide_eq_true_eq]
 repeat' split
 all_goals omega
theorem sgn_digit (c:Nat):isDigit (sgn c)=isDigit c:=by
 unfold isDigit sgn;rw [Bool.eq_iff_iff];simp only [decide_eq_true_eq]
 repeat' split
 all_goals omega
theorem sgn_of_digit {c:Nat}(h:isDigit c=true):sgn c=c:=by
 unfold isDigit at h;unfold sgn;simp only [decide_eq_true_eq] at h
 repeat' split
 all_goals omega
theorem sgn_of_letter {c:Nat}(h:isLetter c=true):sgn c=c:=by
 unfold isLetter at h;unfold sgn;simp only [decide_eq_true_eq] at h
 repeat' split
 all_goals omega
theorem sgn_eq_letter {c k:Nat}(h:isLetter k=true):sgn c=k ↔ c=k:=by
 unfold isLetter at h;unfold sgn;simp only [decide_eq_true_eq] at h
 constructor
 ·repeat' split
  all_goals omega
 ·intro e;subst e
  repeat' split
  all_goals omega
theorem sgn_10 (c:Nat):sgn c=10 ↔ c=10:=by
 unfold sgn
 constructor
 ·repeat' split
  all_goals omega
 ·intro e;simp [e]
theorem sgn_32 (c:Nat):sgn c=32 ↔ c=32:=by
 unfold sgn
 constructor
 ·repeat' split
  all_goals omega
 ·intro e;simp [e]
theorem cutAt_ne (s:Nat):∀ l,cutAt s l≠[]
 | []=>by simp [cutAt]
 | c::r=>by
  unfold cutAt;split
  ·simp
  ·split<;>simp
theorem cutAt_map {s:Nat}{f:Nat→Nat}(hf:∀ c,f c=s ↔ c=s):∀ l,cutAt s (l.map f)=(cutAt s l).map (List.map f)
 | []=>rfl
 | c::r=>by
  have ih:=cutAt_map hf r
  rw [List.map_cons];unfold cutAt;rw [ih]
  cases h:cutAt s r with
  | nil=>exact absurd h (cutAt_ne s r)
  | cons w t =>
   simp only [List.map_cons]
   by_cases hc:c=s
   ·rw [if_pos ((hf c).mpr hc),if_pos hc];rfl
   ·rw [if_neg (fun e=>hc ((hf c).mp e)),if_neg hc];rfl
theorem sgn_word {k:List Nat}(hk:k.all isLetter=true):∀ w:List Nat,w.map sgn=k ↔ w=k:=by
 induction k with
 | nil=>intro w;simp
 | cons a k ih =>
  intro w
  simp only [List.all_cons,Bool.and_eq_true] at hk
  cases w with
  | nil=>simp
  | cons c w=>simp only [List.map_cons,List.cons.injEq,sgn_eq_letter hk.1,ih hk.2 w]
theorem sgn_name (w:List Nat):isName (w.map sgn)=isName w:=by
 unfold isName;rw [List.length_map,List.all_map]
 congr 2
 funext c
 exact sgn_letter c
theorem sgn_all_digit {w:List Nat}(h:w.all isDigit=true):w.map sgn=w:=by
 induction w with
 | nil=>rfl
 | cons c w ih =>
  simp only [List.all_cons,Bool.and_eq_true] at h;rw [List.map_cons,sgn_of_digit h.1,ih h.2]
theorem sgn_all_letter {w:List Nat}(h:w.all isLetter=true):w.map sgn=w:=by
 induction w with
 | nil=>rfl
 | cons c w ih =>
  simp only [List.all_cons,Bool.and_eq_true] at h;rw [List.map_cons,sgn_of_letter h.1,ih h.2]
theorem sgn_digits (w:List Nat):(w.map sgn).all isDigit=w.all isDigit:=by
 rw [List.all_map]
 congr 1
 funext c
 exact sgn_digit c
theorem sgn_natOf (w:List Nat):natOf (w.map sgn)=natOf w:=by
 by_cases h:w.all isDigit=true
 ·rw [sgn_all_digit h]
 ·have h1:w.all isDigit=false:=by simpa using h
  have h2:(w.map sgn).all isDigit=false:=by rw [sgn_digits];exact h1
  unfold natOf;rw [h1,h2];simp
def pNum (w:List Nat):Bool:=decide (w.length≤5)&&(!w.isEmpty&&w.all isDigit)&&(w==[48] || !(w.head? == some 48))
def valOf (w:List Nat):Nat:=w.foldl (fun a c=>10 * a+(c - 48)) 0
theorem natOf_eq (w:List Nat):natOf w=if pNum w=true then some (valOf w) else none:=by
 unfold natOf pNum valOf
 cases w with
 | nil=>simp
 | cons a w =>
  by_cases h:(a::w).all isDigit=true
  ·rw [h]
   simp
   have hw:w=[] ↔ w.length=0:=List.length_eq_zero_iff.symm
   by_cases c:5 < w.length+1∨a=48∧0 < w.length
   ·rw [if_pos c,if_neg (by rw [hw];omega)]
   ·rw [if_neg c,if_pos (by rw [hw];omega)]
  ·have:(a::w).all isDigit=false:=by simpa using h
   rw [this];simp
inductive Mark where
 | name | num | word (w:List Nat)
def fit (w:List Nat):Mark→Bool
 | .name=>isName w
 | .num=>pNum w
 | .word k=>w==k
def fits (ws:List (List Nat))(ms:List Mark):Bool:=decide (ws.length=ms.length)&&(ws.zip ms).all fun p=>fit p.1 p.2
def tSensor : List Nat:=[115,101,110,115,111,114]
def tStale : List Nat:=[115,116,97,108,101]
def tRide : List Nat:=[114,105,100,101]
def tStaff : List Nat:=[115,116,97,102,102]
def tRule : List Nat:=[114,117,108,101]
def tAbove : List Nat:=[97,98,111,118,101]
def tBelow : List Nat:=[98,101,108,111,119]
def tHold : List Nat:=[104,111,108,100]
def tCheck : List Nat:=[99,104,101,99,107]
def tDays : List Nat:=[100,97,121,115]
def tRounds : List Nat:=[114,111,117,110,100,115]
theorem text_sensor : text "sensor"=tSensor:=by decide
theorem text_stale : text "stale"=tStale:=by decide
theorem text_ride : text "ride"=tRide:=by decide
theorem text_staff : text "staff"=tStaff:=by decide
theorem text_rule : text "rule"=tRule:=by decide
theorem text_above : text "above"=tAbove:=by decide
theorem text_below : text "below"=tBelow:=by decide
theorem text_hold : text "hold"=tHold:=by decide
theorem text_check : text "check"=tCheck:=by decide
theorem text_days : text "days"=tDays:=by decide
theorem text_rounds : text "rounds"=tRounds:=by decide
def forms : List (List Mark):=[
 [.word tSensor,.name,.word tStale,.num],
 [.word tRide,.name,.word tStaff,.num],
 [.word tRule,.name,.name,.word tAbove,.num,.word tBelow,.num,.word tHold,.num],
 [.word tRule,.name,.name,.word tBelow,.num,.word tAbove,.num,.word tHold,.num],
 [.word tCheck,.name,.name,.word tDays,.num],
 [.word tCheck,.name,.name,.word tRounds,.num]]
def lineAs : Nat→List (List Nat)→Line
 | 0,ws=>.sensor (ws.getD 1 []) (valOf (ws.getD 3 []))
 | 1,ws=>.ride (ws.getD 1 []) (valOf (ws.getD 3 []))
 | 2,ws=>.rule (ws.getD 1 []) (ws.getD 2 []) true (valOf (ws.getD 4 [])) (valOf (ws.getD 6 [])) (valOf (ws.getD 8 []))
 | 3,ws=>.rule (ws.getD 1 []) (ws.getD 2 []) false (valOf (ws.getD 4 [])) (valOf (ws.getD 6 [])) (valOf (ws.getD 8 []))
 | 4,ws=>.check (ws.getD 1 []) (ws.getD 2 []) true (valOf (ws.getD 4 []))
 | _,ws=>.check (ws.getD 1 []) (ws.getD 2 []) false (valOf (ws.getD 4 []))
def lineW (ws:List (List Nat)):Option Line:=match ws with
 | [k,n,w,x]=>if isName n=false then none
  else if k=tSensor∧w=tStale then (natOf x).map fun m=>.sensor n m
  else if k=tRide∧w=tStaff then (natOf x).map fun m=>.ride n m else none
 | [k,r,c,w,x]=>if k=tCheck∧isName r=true∧isName c=true∧(w=tDays∨w=tRounds) then (natOf x).map fun n=>.check r c (w==tDays) n else none
 | [k,r,s,u,a,d,b,h,x]=>if k=tRule∧isName r=true∧isName s=true∧h=tHold∧((u=tAbove∧d=tBelow)∨(u=tBelow∧d=tAbove)) then (match natOf a,natOf b,natOf x with
   | some a,some b,some x=>some (.rule r s (u==tAbove) a b x)
   | _,_,_=>none) else none
 | _=>none
theorem lineOf_W (l:List Nat):lineOf l=lineW (cutAt 32 l):=by
 unfold lineOf lineW;rw [text_sensor,text_stale,text_ride,text_staff,text_rule,text_above,text_below,text_hold,text_check,text_days,text_rounds];rfl
theorem xM {w:List Nat}(h:pNum w=true):natOf w=some (valOf w):=by rw [natOf_eq,if_pos h]
theorem wV {w:List Nat}(h:pNum w=false):natOf w=none:=by rw [natOf_eq,if_neg (by simp [h])]
theorem kw_ne : tSensor≠tRide∧tStale≠tStaff∧tDays≠tRounds∧tAbove≠tBelow:=by decide
theorem len_of_fits {ws:List (List Nat)}{ms:List Mark}(h:fits ws ms=true):ws.length=ms.length:=by
 unfold fits at h;simp only [Bool.and_eq_true,decide_eq_true_eq] at h;exact h.1
theorem fits_line {ws:List (List Nat)}{i:Nat}{ms:List Mark}(hi:forms[i]? = some ms)(h:fits ws ms=true):lineW ws=some (lineAs i ws):=by
 have hl:=len_of_fits h
 match i,hi with
 | 0,hi =>
  cases hi
  match ws,hl with
  | [k,n,w,x],_ =>
   simp [fits,fit] at h
   obtain ⟨rfl,h2,rfl,h4⟩:=h
   simp [lineW,h2,xM h4,lineAs]
 | 1,hi =>
  cases hi
  match ws,hl with
  | [k,n,w,x],_ =>
   simp [fits,fit] at h
   obtain ⟨rfl,h2,rfl,h4⟩:=h
   simp [lineW,h2,xM h4,lineAs,kw_ne.1.symm]
 | 2,hi =>
  cases hi
  match ws,hl with
  | [k,r,s,u,a,d,b,hh,x],_ =>
   simp [fits,fit] at h
   obtain ⟨rfl,h2,h3,rfl,h5,rfl,h7,rfl,h9⟩:=h
   simp [lineW,h2,h3,xM h5,xM h7,xM h9,lineAs]
 | 3,hi =>
  cases hi
  match ws,hl with
  | [k,r,s,u,a,d,b,hh,x],_ =>
   simp [fits,fit] at h
   obtain ⟨rfl,h2,h3,rfl,h5,rfl,h7,rfl,h9⟩:=h
   simp [lineW,h2,h3,xM h5,xM h7,xM h9,lineAs,kw_ne.2.2.2.symm]
 | 4,hi =>
  cases hi
  match ws,hl with
  | [k,r,c,w,x],_ =>
   simp [fits,fit] at h
   obtain ⟨rfl,h2,h3,rfl,h5⟩:=h
   simp [lineW,h2,h3,xM h5,lineAs]
 | 5,hi =>
  cases hi
  match ws,hl with
  | [k,r,c,w,x],_ =>
   simp [fits,fit] at h
   obtain ⟨rfl,h2,h3,rfl,h5⟩:=h
   simp [lineW,h2,h3,xM h5,lineAs,kw_ne.2.2.1.symm]
 | i+6,hi=>simp [forms] at hi
theorem nofit_line {ws:List (List Nat)}(h:∀ (i:Nat) (ms:List Mark),forms[i]? = some ms→fits ws ms=false):lineW ws=none:=by
 have h0:=h 0 _ rfl
 have h1:=h 1 _ rfl
 have h2:=h 2 _ rfl
 have h3:=h 3 _ rfl
 have h4:=h 4 _ rfl
 have h5:=h 5 _ rfl
 unfold lineW;split
 ·rename_i k n w x
  simp [fits,fit] at h0 h1
  cases hn:isName n with
  | false=>simp
  | true =>
   rw [hn] at h0 h1;simp only [Bool.true_eq_false,if_false];split
   ·rename_i c
    have : pNum x=false:=by simpa [c] using h0
    rw [wV this];rfl
   ·split
    ·rename_i c
     have : pNum x=false:=by simpa [c] using h1
     rw [wV this];rfl
    ·rfl
 ·rename_i k r c w x
  simp [fits,fit] at h4 h5
  split
  ·rename_i q
   obtain ⟨q1,q2,q3,q4⟩:=q
   have : pNum x=false:=by
    rcases q4 with q4 | q4
    ·simpa [q1,q2,q3,q4] using h4
    ·simpa [q1,q2,q3,q4] using h5
   rw [wV this];rfl
  ·rfl
 ·rename_i k r s u a d b hh x
  simp [fits,fit] at h2 h3
  split
  ·rename_i q
   obtain ⟨q1,q2,q3,q4,q5⟩:=q
   have : pNum a=true→pNum b=true→pNum x=true→False:=by
    intro pa pb px
    rcases q5 with ⟨q5,q6⟩ | ⟨q5,q6⟩
    ·simp [q1,q2,q3,q4,q5,q6,pa,pb,px] at h2
    ·simp [q1,q2,q3,q4,q5,q6,pa,pb,px] at h3
   cases pa:pNum a with
   | false=>simp [wV pa]
   | true =>
    cases pb:pNum b with
    | false=>simp [wV pb]
    | true =>
     cases px:pNum x with
     | false=>simp [wV px]
     | true=>exact (this pa pb px).elim
  ·rfl
 ·rfl
end M
namespace M
open Vbtpah
theorem dec_lt {n:Nat}(h:n < 10):decimal n=[48+n]:=by
 unfold decimal text;rw [show (toString n).toList=Nat.toDigits 10 n from Nat.toList_repr,Nat.toDigits_of_lt_base h];have:∀ d:Nat,d < 10→(Nat.digitChar d).toNat=48+d:=by decide
 rw [List.map_cons,List.map_nil,this n h]
theorem dec_step {n:Nat}(h:10≤n):decimal n=decimal (n / 10)++[48+n % 10]:=by
 have hm:n % 10 < 10:=Nat.mod_lt n (by decide)
 have t:Nat.toDigits 10 (n / 10)++Nat.toDigits 10 (n % 10)=Nat.toDigits 10 (10 * (n / 10)+n % 10):=Nat.toDigits_append_toDigits (by decide) (by omega) hm
 rw [Nat.div_add_mod] at t;have e:=dec_lt hm
 unfold decimal text at e ⊢
 rw [show (toString n).toList=Nat.toDigits 10 n from Nat.toList_repr,← t,List.map_append,← e];rw [show (toString (n / 10)).toList=Nat.toDigits 10 (n / 10) from Nat.toList_repr,show (toString (n % 10)).toList=Nat.toDigits 10 (n % 10) from Nat.toList_repr]
theorem val_snoc (w:List Nat)(c:Nat):valOf (w++[c])=10 * valOf w+(c - 48):=by
 unfold valOf;rw [List.foldl_append];rfl
theorem dig {c:Nat}(h:isDigit c=true):48≤c∧c≤57:=by
 unfold isDigit at h;simpa using h
theorem val_pos : ∀ {w:List Nat},w≠[]→w.all isDigit=true→w.head?≠some 48→1≤valOf w:=by
 intro w
 induction w using snoc_ind with
 | h0=>intro h;exact absurd rfl h
 | h1 w c ih =>
  intro _ hd hh
  rw [val_snoc];rw [List.all_append,Bool.and_eq_true] at hd;have hc:=dig (by simpa using hd.2:isDigit c=true)
  cases w with
  | nil =>
   have : c≠48:=by simpa using hh
   simp [valOf];omega
  | cons a w =>
   have:=ih (by simp) hd.1 (by simpa using hh)
   omega
theorem dec_val : ∀ {w:List Nat},w≠[]→w.all isDigit=true→(w=[48]∨w.head?≠some 48)→decimal (valOf w)=w:=by
 intro w
 induction w using snoc_ind with
 | h0=>intro h;exact absurd rfl h
 | h1 w c ih =>
  intro _ hd hh
  rw [List.all_append,Bool.and_eq_true] at hd;have hc:=dig (by simpa using hd.2:isDigit c=true)
  cases w with
  | nil =>
   rw [val_snoc];have e:10 * valOf []+(c - 48)=c - 48:=by simp [valOf]
   rw [e,dec_lt (by omega)]
   congr 1
   omega
  | cons a w =>
   have hh':(a::w).head?≠some 48:=by
    rcases hh with h | h
    ·simp at h
    ·simpa using h
   have hp:=val_pos (by simp) hd.1 hh'
   rw [val_snoc,dec_step (by omega)];have e1:(10 * valOf (a::w)+(c - 48)) / 10=valOf (a::w):=by omega
   have e2:48+(10 * valOf (a::w)+(c - 48)) % 10=c:=by omega
   rw [e1,e2,ih (by simp) hd.1 (.inr hh')]
theorem pNum_parts {w:List Nat}(h:pNum w=true):w≠[]∧w.all isDigit=true∧(w=[48]∨w.head?≠some 48)∧w.length≤5:=by
 unfold pNum at h;simp only [Bool.and_eq_true,decide_eq_true_eq,Bool.or_eq_true] at h;obtain ⟨⟨h1,h2,h3⟩,h4⟩:=h
 refine ⟨fun e=>by simp [e] at h2,h3,?_,h1⟩
 rcases h4 with h4 | h4
 ·exact .inl (by simpa using h4)
 ·exact .inr (by simpa using h4)
theorem wB {w:List Nat}(h:pNum w=true):decimal (valOf w)=w:=by
 obtain ⟨h1,h2,h3,_⟩:=pNum_parts h
 exact dec_val h1 h2 h3
def unwords : List (List Nat)→List Nat
 | []=>[]
 | [w]=>w
 | w::v::r=>w++32::unwords (v::r)
theorem unwords_cut (s:Nat)(hs:s=32):∀ l,unwords (cutAt s l)=l
 | []=>rfl
 | c::r=>by
  have ih:=unwords_cut s hs r
  unfold cutAt
  cases h:cutAt s r with
  | nil=>exact absurd h (cutAt_ne s r)
  | cons w t =>
   rw [h] at ih
   dsimp only
   by_cases hc:c=s
   ·rw [if_pos hc]
    show []++32::unwords (w::t)=_
    rw [ih,hc,hs];rfl
   ·rw [if_neg hc]
    cases t with
    | nil =>
     show c::w=c::r
     rw [show w=r from ih]
    | cons v t =>
     show (c::w)++32::unwords (v::t)=_
     rw [← ih];rfl
theorem foldl_join : ∀ (r:List (List Nat)) (w:List Nat),r.foldl (fun a b=>a++32::b) w=unwords (w::r)
 | [],w=>rfl
 | v::r,w=>by
  rw [List.foldl_cons,foldl_join r]
  cases r with
  | nil=>rfl
  | cons u r =>
   show (w++32::v)++32::unwords (u::r)=w++32::(v++32::unwords (u::r))
   simp
theorem joined_eq (ws:List (List Nat))(h:ws≠[]):joined ws=unwords ws++[10]:=by
 cases ws with
 | nil=>exact absurd rfl h
 | cons w r =>
  show r.foldl (fun a b=>a++32::b) w++[10]=_
  rw [foldl_join]
def wordsOf : Line→List (List Nat)
 | .sensor n m=>[tSensor,n,tStale,decimal m]
 | .ride n k=>[tRide,n,tStaff,decimal k]
 | .rule r s up a b h=>[tRule,r,s,if up=true then tAbove else tBelow,decimal a,if up=true then tBelow else tAbove,decimal b,tHold,decimal h]
 | .check r c d n=>[tCheck,r,c,if d=true then tDays else tRounds,decimal n]
theorem words_back {ws:List (List Nat)}{i:Nat}{ms:List Mark}(hi:forms[i]? = some ms)(h:fits ws ms=true):wordsOf (lineAs i ws)=ws:=by
 have hl:=len_of_fits h
 match i,hi with
 | 0,hi =>
  cases hi
  match ws,hl with
  | [k,n,w,x],_ =>
   simp [fits,fit] at h
   obtain ⟨rfl,h2,rfl,h4⟩:=h
   simp [lineAs,wordsOf,wB h4]
 | 1,hi =>
  cases hi
  match ws,hl with
  | [k,n,w,x],_ =>
   simp [fits,fit] at h
   obtain ⟨rfl,h2,rfl,h4⟩:=h
   simp [lineAs,wordsOf,wB h4]
 | 2,hi =>
  cases hi
  match ws,hl with
  | [k,r,s,u,a,d,b,hh,x],_ =>
   simp [fits,fit] at h
   obtain ⟨rfl,h2,h3,rfl,h5,rfl,h7,rfl,h9⟩:=h
   simp [lineAs,wordsOf,wB h5,wB h7,wB h9]
 | 3,hi =>
  cases hi
  match ws,hl with
  | [k,r,s,u,a,d,b,hh,x],_ =>
   simp [fits,fit] at h
   obtain ⟨rfl,h2,h3,rfl,h5,rfl,h7,rfl,h9⟩:=h
   simp [lineAs,wordsOf,wB h5,wB h7,wB h9]
 | 4,hi =>
  cases hi
  match ws,hl with
  | [k,r,c,w,x],_ =>
   simp [fits,fit] at h
   obtain ⟨rfl,h2,h3,rfl,h5⟩:=h
   simp [lineAs,wordsOf,wB h5]
 | 5,hi =>
  cases hi
  match ws,hl with
  | [k,r,c,w,x],_ =>
   simp [fits,fit] at h
   obtain ⟨rfl,h2,h3,rfl,h5⟩:=h
   simp [lineAs,wordsOf,wB h5]
 | i+6,hi=>simp [forms] at hi
theorem name_letters {w:List Nat}(h:isName w=true):w.all isLetter=true:=by
 unfold isName at h;simp only [Bool.and_eq_true] at h;exact h.2
theorem name_len {w:List Nat}(h:isName w=true):1≤w.length∧w.length≤8:=by
 unfold isName at h;simp only [Bool.and_eq_true,decide_eq_true_eq] at h;exact h.1
theorem readLines_snoc : ∀ (ls:List Bytes) (i:Nat) (p:Park) (l:Bytes),readLines i p (ls++[l])=match readLines i p ls with
  | .error e=>.error e
  | .ok q=>(match lineOf l with
   | none=>.error ⟨1,i+ls.length⟩
   | some x=>match doLine q x with
    | .error k=>.error ⟨k,i+ls.length⟩
    | .ok q'=>.ok q')
 | [],i,p,l=>by
  simp only [List.nil_append,readLines,List.length_nil,Nat.add_zero]
  cases lineOf l with
  | none=>rfl
  | some x=>simp only [];cases doLine p x<;>rfl
 | a::ls,i,p,l=>by
  simp only [List.cons_append,readLines,List.length_cons]
  cases lineOf a with
  | none=>rfl
  | some x =>
   simp only []
   cases doLine p x with
   | error k=>rfl
   | ok q =>
    simp only [];rw [readLines_snoc ls (i+1) q l];rw [show i+1+ls.length=i+(ls.length+1) by omega]
theorem readLines_err : ∀ (ls ms:List Bytes) (i:Nat) (p:Park) {e:Fault},readLines i p ls = .error e→readLines i p (ls++ms) = .error e
 | [],ms,i,p,e,h=>by simp [readLines] at h
 | a::ls,ms,i,p,e,h=>by
  simp only [List.cons_append,readLines] at h ⊢
  cases hl:lineOf a with
  | none=>simpa [hl] using h
  | some x =>
   rw [hl] at h;simp only [] at h ⊢
   cases hd:doLine p x with
   | error k=>simpa [hd] using h
   | ok q =>
    rw [hd] at h;simp only [] at h ⊢;exact readLines_err ls ms (i+1) q h
theorem lineOf_sgn (l:List Nat):lineW ((cutAt 32 l).map (List.map sgn))=lineOf l:=by
 rw [lineOf_W];generalize cutAt 32 l=ws
 unfold lineW;have L:∀ k:List Nat,k.all isLetter=true→∀ w:List Nat,(w.map sgn=k)=(w=k):=fun k hk w=>propext (sgn_word hk w)
 have l1:=L tSensor (by decide)
 have l2:=L tStale (by decide)
 have l3:=L tRide (by decide)
 have l4:=L tStaff (by decide)
 have l5:=L tCheck (by decide)
 have l6:=L tDays (by decide)
 have l7:=L tRounds (by decide)
 have l8:=L tRule (by decide)
 have l9:=L tHold (by decide)
 have l10:=L tAbove (by decide)
 have l11:=L tBelow (by decide)
 have nm:∀ {w:List Nat},isName w=true→w.map sgn=w:=fun h=>sgn_all_letter (name_letters h)
 have bq:∀ (k:List Nat),k.all isLetter=true→∀ w:List Nat,(w.map sgn==k)=(w==k):=fun k hk w=>by
  rw [Bool.eq_iff_iff,beq_iff_eq,beq_iff_eq,sgn_word hk]
 match ws with
 | []=>rfl
 | [_]=>rfl
 | [_,_]=>rfl
 | [_,_,_]=>rfl
 | [k,n,w,x] =>
  simp only [List.map_cons,List.map_nil,sgn_name,l1,l2,l3,l4,sgn_natOf]
  cases hn:isName n with
  | false=>simp
  | true=>simp only [nm hn]
 | [k,r,c,w,x] =>
  simp only [List.map_cons,List.map_nil,sgn_name,l5,l6,l7,sgn_natOf,bq tDays (by decide)];split
  ·rename_i q
   rw [nm q.2.1,nm q.2.2.1]
  ·rfl
 | [_,_,_,_,_,_]=>rfl
 | [_,_,_,_,_,_,_]=>rfl
 | [_,_,_,_,_,_,_,_]=>rfl
 | [k,r,s,u,a,d,b,h,x] =>
  simp only [List.map_cons,List.map_nil,sgn_name,l8,l9,l10,l11,sgn_natOf,bq tAbove (by decide)];split
  ·rename_i q
   rw [nm q.2.1,nm q.2.2.1]
  ·rfl
 | _::_::_::_::_::_::_::_::_::_::_=>rfl
end M
namespace M
open Vbtpah
theorem row_some {r x s:List Int}(h:PyFlat.row r=some (x,s)):∃ n q,r=n::q∧0≤n∧n.toNat≤q.length∧x=q.take n.toNat∧s=q.drop n.toNat:=by
 unfold PyFlat.row at h
 split at h
 ·cases h
 ·rename_i n q
  split at h
  ·rename_i c
   cases h;exact ⟨n,q,rfl,c.1,c.2,rfl,rfl⟩
  ·cases h
theorem rows_le : ∀ {k:Nat} {r t:List Int} {xs:List (List Int)},PyFlat.rows k r=some (xs,t)→t.length≤r.length
 | 0,r,t,xs,h=>by
  unfold PyFlat.rows at h;cases h;exact Nat.le_refl _
 | k+1,r,t,xs,h=>by
  unfold PyFlat.rows at h
  split at h
  ·cases h
  ·rename_i x s hr
   split at h
   ·cases h
   ·rename_i ys u hu
    cases h;obtain ⟨n,q,rfl,h0,h1,rfl,rfl⟩:=row_some hr
    have:=rows_le hu
    simp at this ⊢
    omega
theorem call_some {shape:Int→Option (Nat×Nat)}{p:Int}{r t:List Int}{c:List (List Int)}(h:PyFlat.call shape (p::r)=some (c,t)) :
  ∃ n k xs,shape p=some (n,k)∧n≤r.length∧PyFlat.rows k (r.drop n)=some (xs,t)∧c=(p::r.take n)::xs:=by
 unfold PyFlat.call at h
 dsimp only at h
 split at h
 ·cases h
 ·rename_i n k hs
  split at h
  ·cases h
  ·rename_i hn
   split at h
   ·cases h
   ·rename_i xs u hu
    cases h;exact ⟨n,k,xs,hs,by omega,hu,rfl⟩
theorem call_lt {shape:Int→Option (Nat×Nat)}{p:Int}{r t:List Int}{c:List (List Int)}(h:PyFlat.call shape (p::r)=some (c,t)):t.length≤r.length:=by
 obtain ⟨n,k,xs,_,_,hr,_⟩:=call_some h
 have:=rows_le hr
 simp at this
 omega
def callsAt (shape:Int→Option (Nat×Nat))(t:List Int):Option (List (List (List Int))):=PyFlat.calls shape t.length t
theorem calls_fuel {shape:Int→Option (Nat×Nat)}:∀ (f g:Nat) (t:List Int),t.length≤f→t.length≤g→PyFlat.calls shape f t=PyFlat.calls shape g t
 | f,g,[],_,_=>by unfold PyFlat.calls;rfl
 | f+1,g+1,p::r,hf,hg=>by
  simp only [PyFlat.calls]
  cases h:PyFlat.call shape (p::r) with
  | none=>rfl
  | some q =>
   obtain ⟨c,t⟩:=q
   have:=call_lt h
   simp only [List.length_cons] at hf hg;simp only [];rw [calls_fuel f g t (by omega) (by omega)]
 | 0,_,p::r,hf,_=>by simp at hf
 | _,0,p::r,_,hg=>by simp at hg
theorem callsAt_nil (shape:Int→Option (Nat×Nat)):callsAt shape []=some []:=rfl
theorem callsAt_cons {shape:Int→Option (Nat×Nat)}{p:Int}{r:List Int}{cs:List (List (List Int))}(h:callsAt shape (p::r)=some cs) :
  ∃ n k xs t rest,shape p=some (n,k)∧n≤r.length∧PyFlat.rows k (r.drop n)=some (xs,t)∧callsAt shape t=some rest∧cs=((p::r.take n)::xs)::rest:=by
 unfold callsAt at h;simp only [List.length_cons,PyFlat.calls] at h
 split at h
 ·cases h
 ·rename_i c t hc
  split at h
  ·cases h
  ·rename_i rest hr
   cases h;obtain ⟨n,k,xs,h1,h2,h3,rfl⟩:=call_some hc
   refine ⟨n,k,xs,t,rest,h1,h2,h3,?_,rfl⟩
   unfold callsAt;rw [← hr];exact calls_fuel _ _ _ (Nat.le_refl _) (call_lt hc)
theorem rows_zero {r t:List Int}{xs:List (List Int)}(h:PyFlat.rows 0 r=some (xs,t)):xs=[]∧t=r:=by
 unfold PyFlat.rows at h;cases h;exact ⟨rfl,rfl⟩
theorem rows_succ {k:Nat}{r t:List Int}{xs:List (List Int)}(h:PyFlat.rows (k+1) r=some (xs,t)) :
  ∃ n q ys,r=n::q∧0≤n∧n.toNat≤q.length∧PyFlat.rows k (q.drop n.toNat)=some (ys,t)∧xs=q.take n.toNat::ys:=by
 unfold PyFlat.rows at h
 split at h
 ·cases h
 ·rename_i x s hr
  split at h
  ·cases h
  ·rename_i ys u hu
   cases h;obtain ⟨n,q,rfl,h0,h1,rfl,rfl⟩:=row_some hr
   exact ⟨n,q,ys,rfl,h0,h1,hu,rfl⟩
theorem played_snoc {S:Type}(step:S→List (List Int)→S×List Int):∀ (cs:List (List (List Int))) (s:S) (c:List (List Int)),
  PyFlat.played step s (cs++[c])=PyFlat.played step s cs++[(step (cs.foldl (fun s c=>(step s c).1) s) c).2]
 | [],s,c=>rfl
 | d::cs,s,c=>by
  simp only [List.cons_append,PyFlat.played,List.foldl_cons];rw [played_snoc step cs]
theorem told_snoc (as:List (List Int))(a:List Int):PyFlat.told (as++[a])=PyFlat.told as++((a.length:Int)::a):=by
 unfold PyFlat.told;rw [List.flatMap_append];simp
end M
set_option maxHeartbeats 2000000
namespace PySem
open Sem (wp)
open AutoSeq1 (wpAny_loadPart')
theorem e1_typeCall (a v:Value):checkTypeCall "enumerate" ⟨[a],[(Str.ofString "start",v)]⟩=pure ():=by kernel_rfl
theorem e1_newCall (a v:Value):checkBuiltinCall "enumerate.__new__" ⟨[.type "enumerate",a],[(Str.ofString "start",v)]⟩=pure ():=by kernel_rfl
theorem e1_init (o a v:Value):argsOk "object.__init__" ⟨[o,a],[(Str.ofString "start",v)]⟩:=by
 unfold argsOk;rw [signature?_of (id:="object.__init__") (n:="__init__".toList.reverse) (o:="object".toList.reverse) (by kernel_rfl) (by first | exact F.owner_object | kernel_rfl)]
 kernel_rfl
theorem e1_new (l:Addr)(its:Array Value)(n:Nat)(dct:Option Addr)(sl:Array (Option Value))(t:Tok) :
  Meets (Builtin.«enumerate.__new__» ⟨[.type "enumerate",.ref l],[(Str.ofString "start",.int 1 t)]⟩) (fun _ R s =>
   s.heap.get? l=some {cls:=.type "list",dict:=dct,data:=.seq its n,slots:=sl} ∧
   R (.ok (.ret (.ref (s.heap.push {cls:=.type "list_iterator",data:=.fields #[.ref l,.int 0 0]}).objs.size)))
    {s with heap:=(s.heap.push {cls:=.type "list_iterator",data:=.fields #[.ref l,.int 0 0]}).push {cls:=.type "enumerate",data:=.fields #[.none,.bool false,.ref s.heap.objs.size,rawInt 1,.none,.none]}}) :=
 .of_wp fun prog w A R s q=>by
  obtain ⟨hp,g,d,tk,os⟩:=s
  obtain ⟨at_,q⟩:=q
  have sub:=sub_enumerate
  have isL:Heap.IsList (Shared.heap ⟨hp,g,d,tk,os⟩) l its:=⟨_,at_,rfl,n,rfl⟩
  wp_walk using wpAny_loadPart' at_
  refine wpAny_stack_any fun st=>wpAny_pure ?_
  split
  ·rename_i c _ _ _ _ _
   cases hb:(c==Value.type "enumerate")
   all_goals
    wp_walk using wpAny_loadPart' at_,wpAny_pyIter_list isL
    exact ⟨_,rfl,q⟩
  ·wp_walk using wpAny_loadPart' at_,wpAny_pyIter_list isL
   exact ⟨_,rfl,q⟩
end PySem
namespace PySem
open Sem (wp)
section
variable {prog:Program}{w:World}{A:Around}{E:Value→Shared→Prop}{s:Shared}
theorem e1_object_init {T nid:String}{self a:Value}{kw:List (Str×Value)}(hl:typeLookup (.type T) "__init__"=pure (some (.builtin "object.__init__")))
  (hm:Bind.madeBy (.type T)=pure (some nid)) (hne:(some nid != some "object.__new__")=true) :
  Meets (Builtin.«object.__init__» ⟨[self,a],kw⟩) (fun _ R s=>s.TypeIs self T∧R (.ok (.ret .none)) s):=by
 refine Meets.of_wp fun prog w A R s q=>?_
 obtain ⟨ty,q⟩:=q
 repeat any_goals first | assumption | wp_step
 exact ⟨_,rfl,q⟩
theorem e1_call {l:Addr}{its:Array Value}{t:Tok}{Q:Value→Shared→Prop}(isL:s.heap.IsList l its)
  (k:∀ h',IsEnum h' (s.heap.objs.size+1) s.heap.objs.size 1 .none→h'.IsListIter s.heap.objs.size l 0→(∀ b o,s.heap.get? b=some o→h'.get? b=some o)→Q (.ref (s.heap.objs.size+1)) {s with heap:=h'}) :
  wpAny (model prog w) A (call (.type "enumerate") [.ref l] [(Str.ofString "start",.int 1 t)]) Q E s:=by
 have ft:=F.called_enumerate
 obtain ⟨c,tl,hmro⟩:=ft.mro
 have made:=ft.made
 have sub:=ft.sub
 have ct:=e1_typeCall (.ref l) (.int 1 t)
 refine wpAny_call (codeAny_of_tree ?_)
 show wpAny _ _ (callAny (.type "enumerate") _) _ _ _
 refine wpAny_pure ⟨Code.quiet_builtin _ (by decide +kernel),codeAny_builtin F.entry_type_call ?_⟩
 rw [Around.under_plain (weight_type_call_type "enumerate" [.ref l] [(Str.ofString "start",.int 1 t)]) (units_type_call_type "enumerate" [.ref l] [(Str.ofString "start",.int 1 t)])]
 have n1:=ft.notType
 have n2:=ft.canCreate
 repeat any_goals first | assumption | wp_step
 obtain ⟨⟨cc,dct,dt,sl⟩,hl,hc,n,hd⟩:=isL
 replace hc:cc = .type "list":=hc
 replace hd:dt = .seq its n:=hd
 subst hc hd
 have hz:(s.heap.push {cls:=.type "list_iterator",data:=.fields #[.ref l,.int 0 0]}).objs.size=s.heap.objs.size+1:=Heap.size_push ..
 have he:IsEnum ((s.heap.push {cls:=.type "list_iterator",data:=.fields #[.ref l,.int 0 0]}).push {cls:=.type "enumerate",data:=.fields #[.none,.bool false,.ref s.heap.objs.size,rawInt 1,.none,.none]}) (s.heap.objs.size+1) s.heap.objs.size 1 .none:=by
  have q:=Heap.get?_push_size (s.heap.push {cls:=.type "list_iterator",data:=.fields #[.ref l,.int 0 0]}) (o:={cls:=.type "enumerate",data:=.fields #[.none,.bool false,.ref s.heap.objs.size,rawInt 1,.none,.none]}) rfl
  rw [hz] at q;exact q
 refine codeAny_mono (codeAny_call_builtin ft.plain F.entry_enumerate_new (wpAny_of_eq (e1_newCall (.ref l) (.int 1 t)) (e1_new l its n dct sl t prog w A.in1
  (wants (fun obj s₁=>obj = .ref (s.heap.objs.size+1)∧s₁.TypeIs obj "enumerate"∧Q obj s₁) E) s ⟨hl,?_⟩))) fun r s₁ hr=>?_
 ·show _∧_
  rw [hz];exact ⟨rfl,⟨_,he,rfl⟩,k _ he ⟨_,Heap.get?_push_of_some _ (Heap.get?_push_size _ rfl),rfl,rfl⟩ fun b o x=>Heap.get?_push_of_some _ (Heap.get?_push_of_some _ x)⟩
 ·cases r with
  | error e=>exact hr
  | ok fl =>
   cases fl with
   | ret obj =>
    obtain ⟨eo,ty,hq⟩:=hr
    have hli:=ft.init.lookup
    have hbi:=ft.init.bind obj
    repeat any_goals first | assumption | wp_step
    refine codeAny_mono (codeAny_call_builtin ft.init.plain F.entry_object_init (ft.init.check _ _ _ _ _ _ _ _ ty (e1_init obj (.ref l) (.int 1 t)) (e1_object_init ft.init.lookup ft.made (by decide) prog w A.in1
     (wants (fun r s₂=>r = .none∧Q obj s₂) E) s₁ ⟨ty,rfl,hq⟩))) fun r₂ s₂ hr₂=>?_
    cases r₂ with
    | error e=>exact hr₂
    | ok fl₂ =>
     cases fl₂ with
     | ret r =>
      obtain ⟨rfl,hq⟩:=hr₂
      repeat any_goals first | assumption | wp_step
     | next=>exact hr₂.elim
     | brk=>exact hr₂.elim
     | cont=>exact hr₂.elim
   | next=>exact hr.elim
   | brk=>exact hr.elim
   | cont=>exact hr.elim
end
theorem e1_draws {prog:Program}{w:World}{A:Around}(hh:A.handled=none)(it l:Addr)(hne:l≠it)(its:Array Value) :
  Draws prog w A it [it,l] (its.size+1) (fun i v=>its[i - 1]? = some v) (fun i h=>1≤i∧h.IsListIter it l (i - 1)∧h.IsList l its) where
 live:=fun _ _ st=>let ⟨o,ho,_⟩:=st.2.1;⟨o,ho⟩
 frame:=fun _ _ _ st hk=>⟨st.1,st.2.1.at fun o e=>hk it (by simp) o e,st.2.2.at fun o e=>hk l (by simp) o e⟩
 item:=fun i s Q E hi st hQ=>by
  obtain ⟨h1,h2,h3⟩:=st
  have lt:i - 1 < its.size:=by omega
  refine wpAny_nextOf_list_item h2 h3 (x:=its[i - 1]) (by simp [lt]) fun h' hit' hs'=>?_
  refine hQ _ h' s.toks (by simp [lt]) ⟨by omega,?_,h3.extBut hs'.extBut hne⟩ hs'
  have e:i - 1+1=i+1 - 1:=by omega
  rw [← e];exact hit'
 done:=fun s Q E st hE=>wpAny_nextOf_list_end hh st.2.1 st.2.2 (by simp) hE
end PySem
namespace L2
open PySem PySem.Spec PyProof.Rows
theorem typeKw {M:Model}{A:Around}{E:Value→Shared→Prop}{s:Shared}{env:Env}{pos:Pos}{T:String}{e:Expr}{rest:List Expr}{kws:List Keyword}{Q:Value→Shared→Prop}
  (h:wpAny M A (spliced (backTo pos (starEach (e::rest) env))) (fun vs s₁=>wpAny M A (evalAll ((backToKw pos (keywordEach kws env)).map (·.2)))
   (fun ws s₂=>wpAny M A (call (.type T) vs (((backToKw pos (keywordEach kws env)).filterMap (·.1)).zip ws)) Q E s₂) E s₁) E s)
  (he:backTo pos (starEach (e::rest) env)=(false,eval e env)::backTo pos (starEach rest env))
  (hp:(backTo pos (starEach (e::rest) env)).any (·.1)=false)
  (ha:(backToKw pos (keywordEach kws env)).all (·.1.isSome)=true)
  (hk:(backToKw pos (keywordEach kws env)).any (·.1.isNone)=false) :
  wpAny M A (callWith pos (.type T) [] (backTo pos (starEach (e::rest) env)) (backToKw pos (keywordEach kws env))) Q E s:=by
 unfold callWith;rw [he] at h hp ⊢;refine wpAny_bind (wpAny_holding (wpAny_mono (evalArgs_kwB (Q:=fun a s₂=>wpAny M A (call (.type T) ([]++a.pos) a.kw) Q E s₂) ha h) (fun a s₁ q=>wpAny_bind (wpAny_standAt ?_)) fun _ _ x=>x))
 simp only [hp,hk,Bool.or_false];refine wpAny_bind (wpAny_pure ?_)
 exact wpAny_bind (wpAny_mono q (fun r s₂ z=>wpAny_bind (wpAny_holding (wpAny_point (wpAny_pure z)))) fun _ _ x=>x)
theorem e1_done {prog:Program}{w:World}{A:Around}(hh:A.handled=none)(it l:Addr)(its:Array Value)(i:Nat)(hle:its.size≤i) :
  Draws prog w A it [it,l] (i+1) (fun _ _=>True) (fun k h=>k=i+1∧h.IsListIter it l i∧h.IsList l its) where
 live:=fun _ _ st=>let ⟨o,ho,_⟩:=st.2.1;⟨o,ho⟩
 frame:=fun _ _ _ st hk=>⟨st.1,st.2.1.at fun o e=>hk it (by simp) o e,st.2.2.at fun o e=>hk l (by simp) o e⟩
 item:=fun k s Q E hi st hQ=>by have:=st.1;omega
 done:=fun s Q E st hE=>wpAny_nextOf_list_end hh st.2.1 st.2.2 (by simp;omega) hE
def Ite1 (K:zF)(a:Addr):It :=
 ⟨fun i H=>∃ (xs:List V) (x:V),SqL K H a xs∧xs[i]? = some x,fun i H v H'=>∃ T x,v = .ref T∧H T=none∧H'=upd H T (.tup [.int ((i:Int)+1),x])∧∀ xs,SqL K H a xs→xs[i]? = some x,fun i H=>∃ xs:List V,SqL K H a xs∧xs.length≤i⟩
theorem turn_enum1 {P:Program}{w:World}{K:zF}{elts:List Expr}{kk:Nat}{tpos:Pos}(a e it:Addr) :
  Turn P w K (.Tuple elts kk tpos) (Ite1 K a) [e,it] e (fun i h=>(∃ old,IsEnum h e it ((i:Nat)+1:Int) old)∧h.IsListIter it a i∧e≠it) where
 mem:=by simp
 obj:=fun i h st b hb=>by
  obtain ⟨⟨old,he⟩,⟨o,ho,hc,hd⟩,_⟩:=st
  have z:b=e∨b=it:=by simpa using hb
  rcases z with z | z
  ·subst z;exact ⟨_,he,fun v q=>nomatch q⟩
  ·subst z;exact ⟨o,ho,fun v q=>by rw [hd] at q;cases q⟩
 keep:=fun i h h' st k=>let ⟨⟨old,he⟩,hi,hne⟩:=st;⟨⟨old,k e (by simp) _ he⟩,hi.at fun o q=>k it (by simp) o q,hne⟩
 item:=by
  intro X hP hw hK hc i pins s σ H E I hf st hg
  subst hP hw hK
  obtain ⟨⟨old,he⟩,hit,hne⟩:=st
  obtain ⟨xs,x,hq,hx⟩:=hg
  obtain ⟨its,rv,p,hz⟩:=I.list hq
  obtain ⟨u,hu,ru⟩:=rv.get hx
  have hel:e < s.heap.objs.size:=Heap.lt_size he
  have hil:it < s.heap.objs.size:=by obtain ⟨_,q,_⟩:=hit;exact Heap.lt_size q
  have ai:a≠it:=by
   rintro rfl
   obtain ⟨o1,h1,c1,_⟩:=hit
   obtain ⟨o2,h2,c2,_⟩:=p.isList
   rw [h1] at h2;cases h2;rw [c1] at c2;exact absurd c2 (by decide)
  have ae:a≠e:=by
   rintro rfl
   obtain ⟨o2,h2,c2,_⟩:=p.isList
   rw [he] at h2;cases h2;exact absurd c2 (by show ¬ (Value.type "enumerate"=Value.type "list");decide)
  have hd:X.A.in1.handled=none:=I.ok.hd hc
  have len:i < its.length:=by
   have:=(List.getElem?_eq_some_iff.mp hu).1
   exact this
  have he':IsEnum s.heap e it ((i+1:Nat):Int) old:=by rw [show ((i+1:Nat):Int)=(i:Int)+1 from by omega];exact he
  refine wpAny_pyNext_enum_itemD (e1_draws (prog:=X.prog) (w:=X.w) hd it a ai its.toArray) he' (i:=i+1) ⟨by omega,hit,p.isList⟩ (by simp;omega) hne (by simp;exact ⟨hne,fun z=>ae z.symm⟩) fun x' h' tk hp ho st' hT hsz hk=>?_
  have ex:x'=u:=by
   have q:its[i]? = some x':=by simpa using hp
   rw [hu] at q;exact (Option.some.inj q).symm
  subst ex;refine ⟨_,rfl,wpAny_letOwnedTupleGo_enum (s:={s with heap:=h',toks:=tk+1}) ho fun h'' he2 sb=>?_⟩
  have hT2:h''.get? s.heap.objs.size=some {cls:=.type "tuple",data:=.seq #[.int ((i+1:Nat):Int) tk,x']}:=(sb.2 _ (Nat.ne_of_gt hel)).trans hT
  have ec:((i+1:Nat):Int)=(i:Int)+1:=by omega
  rw [ec] at hT2;have new:ObjOk X.prog X.w (upd H s.heap.objs.size (.tup [.int ((i:Int)+1),x])) h'' s.heap.objs.size (.tup [.int ((i:Int)+1),x]) :=
   ⟨by show 2≤sizeLine;decide,[.int ((i:Int)+1) tk,x'],.cons ⟨_,rfl⟩ (.cons ru .nil),⟨_,hT2,rfl,_,rfl⟩⟩
  have I1:Inv X pins σ (upd H s.heap.objs.size (.tup [.int ((i:Int)+1),x])) {s with heap:=h'',toks:=tk+1} :=
   I.turnedNew (ch:=[e,it]) (fun b ob hb q=>(sb.2 b (fun z=>hb (by simp [z]))).trans (hk b ob (fun z=>hb (by simp [z])) (fun z=>hb (by simp [z])) q)) hf (Nat.le_refl _) new
  refine ⟨.ref s.heap.objs.size,_,I1,rfl,⟨_,x,rfl,I.hok.fresh (Nat.le_refl _),rfl,fun ys hy=>by rw [I.list_inj hy hq];exact hx⟩,⟨⟨x',?_⟩,?_,hne⟩,fun b hb=>?_⟩
  ·have e1:((i+1:Nat):Int)+1=((i+1:Nat):Int)+1:=rfl
   exact he2
  ·exact st'.2.1.at fun o q=>(sb.2 it (Ne.symm hne)).trans q
  ·have hb':b < s.heap.objs.size:=by
    have z:b=e∨b=it:=by simpa using hb
    rcases z with z | z
    ·subst z;exact hel
    ·subst z;exact hil
   rw [zH (Nat.ne_of_lt hb')];exact (hf b hb).1
 done:=by
  intro X hP hw hK hc i pins s σ H E I hf st hg
  subst hP hw hK
  obtain ⟨⟨old,he⟩,hit,hne⟩:=st
  obtain ⟨xs,hq,hx⟩:=hg
  obtain ⟨its,rv,p,hz⟩:=I.list hq
  obtain ⟨f0,f1,f2,f3,f4,f5⟩:=hf it (by simp)
  have hl:=rv.length
  exact wpAny_pyNext_enum_endD (e1_done (prog:=X.prog) (w:=X.w) (A:=X.A.in1) (I.ok.hd hc) it a its.toArray i (by simp;omega)) he ⟨rfl,hit,p.isList⟩ fun h' eb=>⟨rfl,I.turned (t':=s.toks) (fun b o hb q=>eb b o hb q) f0 f1 f3 f4 f5⟩
 self:=fun A i s Q E st h=>let ⟨⟨_,he⟩,_⟩:=st;wpAny_pyIter_enum he h
def iEnum1 (K:zF)(ta tk:TA):TI:=fun σ H R=>ta σ H fun vs H1=>tk σ H1 fun zs H2=>∃ a xs,vs=[.ref a]∧zs=[.int 1]∧SqL K H2 a xs∧R (Ite1 K a) H2
theorem pi_enum1 {X:Cx}{e ke:Expr}{ta tk:TA}{p pos tpos kp:Pos}{elts:List Expr}{kk:Nat}(hm:X.mg "enumerate"=none)(ha:PA X [e] ta)(hkw:PK X [⟨some "start",ke,kp⟩] tk)(hg:Gl X "enumerate":=by rfl)
  (he:backTo pos (starEach [e] X.env)=(false,eval e X.env)::backTo pos (starEach [] X.env):=by rfl) (hp:(backTo pos (starEach [e] X.env)).any (·.1)=false:=by rfl)
  (hal:(backToKw pos (keywordEach [⟨some "start",ke,kp⟩] X.env)).all (·.1.isSome)=true:=by rfl) (hk:(backToKw pos (keywordEach [⟨some "start",ke,kp⟩] X.env)).any (·.1.isNone)=false:=by rfl)
  (hks:(backToKw pos (keywordEach [⟨some "start",ke,kp⟩] X.env)).filterMap (·.1)=[Str.ofString "start"]:=by rfl) :
  PI X (.Tuple elts kk tpos) (.Call (.Name "enumerate" p) [e] [⟨some "start",ke,kp⟩] pos) (iEnum1 X.K ta tk):=by
 intro pins s σ H R I h
 refine wpAny_Call_Name_kw (uY I hg hm boot_enumerate (typeKw (xE (ha pos pins s σ H _ I h) fun us s1 ⟨vs,H1,I1,r1,q1⟩=>xE (hkw pos pins s1 σ H1 _ I1 q1) fun ws s2 ⟨zs,H2,I2,r2,q2⟩=>?_) he hp hal hk))
 obtain ⟨a,xs,ex,ez,hq,q⟩:=q2
 subst ex ez
 rw [hks]
 cases r1 with
 | cons r rr =>
  cases rr;cases r
  cases r2 with
  | cons r' rr' =>
   cases rr'
   obtain ⟨t,rfl⟩:=r'
   obtain ⟨its,rv,p',hz⟩:=I2.list hq
   refine e1_call p'.isList fun h' hen hit hk'=>wpAny_pyIter_enum hen ?_
   have I3:Inv X pins σ H2 {s2 with heap:=h'}:=I2.kept (t':=s2.toks) hk'
   refine ⟨s2.heap.objs.size+1,[s2.heap.objs.size+1,s2.heap.objs.size],_,_,H2,rfl,I3,turn_enum1 a (s2.heap.objs.size+1) s2.heap.objs.size,⟨⟨.none,hen⟩,hit,Nat.succ_ne_self _⟩,fun b hb=>?_,q⟩
   have z:b=s2.heap.objs.size+1∨b=s2.heap.objs.size:=by simpa using hb
   have hle:s2.heap.objs.size≤b:=by
    rcases z with z | z
    ·rw [z];exact Nat.le_succ _
    ·rw [z];exact Nat.le_refl _
   exact I2.fpOk hle (I2.hok.fresh hle)
end L2
namespace PySem
open Sem (wp)
section
variable {prog:Program}{w:World}{A:Around}{E:Value→Shared→Prop}{s:Shared}
theorem zt_next {j t:Addr}{i:Nat}{ys:Array Value}{y:Value}{Q:Value→Shared→Prop}(hj:s.heap.IsTupleIter j t i)(ht:s.heap.IsTuple t ys)(hy:ys[i]? = some y)
  (k:∀ h',h'.IsTupleIter j t (i+1)→Heap.SameBut j s.heap h'→Q y {s with heap:=h'}):wpAny (model prog w) A (Builtin.SmallTypes.nextOf (.ref j)) Q E s:=by
 obtain ⟨o,ho,hc,hd⟩:=id hj
 obtain ⟨ot,hot,_,nt,hdt⟩:=ht
 unfold Builtin.SmallTypes.nextOf;refine wpAny_bind (wpAny_callSpecial?_slot (name:=Str.ofString "__next__") hj.typeIs F.slot_tuple_iterator_next (wpAny_call_entry F.slot_tuple_iterator_next hj.typeIs F.entry_tuple_iterator_next ?_ (F.args_tuple_iterator_next_1 _)))
 show wpAny _ _ (field (.ref j) 0 >>= _) _ _ s
 refine wpAny_bind (wpAny_field ho hd (x:=.ref t) rfl ?_)
 have nn:¬ ((Value.ref t==Value.none)=true):=Bool.false_ne_true
 show wpAny _ _ (if (Value.ref t==Value.none)=true then _ else _) _ _ s
 rw [if_neg nn];show wpAny _ _ (field (.ref j) 1 >>= _) _ _ s
 refine wpAny_bind (wpAny_field ho hd (x:=.int i 0) rfl ?_)
 show wpAny _ _ (seqItems? (.ref t) >>= _) _ _ s
 refine wpAny_bind (wpAny_seqItems hot hdt ?_)
 simp only [Int.toNat_natCast,hy];refine wpAny_bind (wpAny_setField ho hd (by simp) (wpAny_pure ⟨y,rfl,wpAny_pure (k _ ?_ (Heap.SameBut.update ..))⟩))
 refine ⟨_,Heap.get?_update_self _ ho (Obj.isFreed_of_fields (Obj.data_mapFields hd _)),(Obj.cls_mapFields ..).trans hc,?_⟩
 rw [Obj.data_mapFields hd];simp [rawInt]
theorem zt_item {z I O i1 i2 l t:Addr}{n:Nat}{xs ys:Array Value}{x y a b:Value}{Q:Value→Shared→Prop}(D:ZipApart z I O i1 i2 l t)
  (hz:IsZip s.heap z I O .none) (hI:IsPair s.heap I (.ref i1) (.ref i2)) (hO:IsPair s.heap O a b)
  (h1:s.heap.IsListIter i1 l n) (h2:s.heap.IsTupleIter i2 t n) (hl:s.heap.IsList l xs) (ht:s.heap.IsTuple t ys) (hx:xs[n]? = some x) (hy:ys[n]? = some y)
  (k:∀ h',IsZip h' z I O (rawInt s.heap.objs.size)→IsPair h' O x y→h'.IsListIter i1 l (n+1)→h'.IsTupleIter i2 t (n+1)→IsPair h' s.heap.objs.size x y→h'.objs.size=s.heap.objs.size+1 →
   (∀ c o,c≠z→c≠O→c≠i1→c≠i2→s.heap.get? c=some o→h'.get? c=some o)→Q (.ref s.heap.objs.size) {s with heap:=h'}) :
  wpAny (model prog w) A (Builtin.«zip.__next__» ⟨[.ref z],[]⟩) (fun fin s'=>∃ v,fin = .done (.ret v)∧Q v s') E s:=by
 have tup:∀ {h h':Heap} {c:Addr},Heap.SameBut c h h'→t≠c→h.IsTuple t ys→h'.IsTuple t ys:=fun sb hne q=>by
  obtain ⟨o,ho,r⟩:=q
  exact ⟨o,sb.extBut _ _ hne ho,r⟩
 show wpAny _ _ (field (.ref z) 2 >>= _) _ _ _
 refine wpAny_bind (wpAny_field hz rfl (x:=.bool false) rfl ?_)
 show wpAny _ _ (field (.ref z) 3 >>= _) _ _ _
 refine wpAny_bind (wpAny_field hz rfl (x:=.ref I) rfl ?_)
 refine wpAny_bind (wpAny_seqItems hI rfl ?_)
 show wpAny _ _ (Builtin.SmallTypes.ownedTupleIsFree (.ref z) >>= _) _ _ _
 refine wpAny_bind ?_
 unfold Builtin.SmallTypes.ownedTupleIsFree;refine wpAny_bind (wpAny_field hz rfl (x:=.none) rfl (wpAny_pure ?_))
 simp only [if_true];refine wpAny_bind (wpAny_rule ?_)
 refine wpAny_bind (wpAny_field hz rfl (x:=.ref O) rfl ?_)
 refine wpAny_bind (wpAny_setField_rec hz (by simp) fun g1 z1 b1=>?_)
 replace z1:IsZip g1 z I O .ellipsis:=z1
 refine wpAny_bind ?_
 simp only [List.zipIdx_cons,List.zipIdx_nil,List.forIn_cons,List.forIn_nil];refine wpAny_bind (wpAny_bind (wpAny_onRaise ?_))
 show wpAny _ _ (Builtin.SmallTypes.nextOf (.ref i1) >>= _) _ _ _
 refine wpAny_bind (wpAny_nextOf_list_item (h1.extBut b1.extBut D.i1z) (hl.extBut b1.extBut D.l1z) hx fun g2 q2 b2=>wpAny_pure ?_)
 have O2:IsPair g2 O a b:=b2.extBut _ _ D.TOi1 (b1.extBut _ _ D.TOz hO)
 refine wpAny_bind (wpAny_seqItems O2 rfl ?_)
 refine wpAny_bind (wpAny_updateSeq_pair O2 fun g3 O3 b3=>?_)
 replace O3:IsPair g3 O x b:=O3
 refine wpAny_bind (wpAny_letGo (wpAny_pure ?_))
 refine wpAny_bind (wpAny_bind (wpAny_onRaise ?_))
 show wpAny _ _ (Builtin.SmallTypes.nextOf (.ref i2) >>= _) _ _ _
 have t3:=tup b3 D.l2TO (tup b2 D.l2i1 (tup b1 D.l2z ht))
 have j3:=((h2.extBut b1.extBut D.i2z).extBut b2.extBut D.i12.symm).extBut b3.extBut D.TOi2.symm
 refine wpAny_bind (zt_next j3 t3 hy fun g4 q4 b4=>wpAny_pure ?_)
 have O4:IsPair g4 O x b:=b4.extBut _ _ D.TOi2 O3
 refine wpAny_bind (wpAny_seqItems O4 rfl ?_)
 refine wpAny_bind (wpAny_updateSeq_pair O4 fun g5 O5 b5=>?_)
 replace O5:IsPair g5 O x y:=O5
 refine wpAny_bind (wpAny_letGo (wpAny_pure (wpAny_pure ?_)))
 refine wpAny_bind (wpAny_seqItems O5 rfl ?_)
 refine wpAny_bind (wpAny_newTuple ?_)
 have sz:g5.objs.size=s.heap.objs.size:=by rw [b5.1,b4.1,b3.1,b2.1,b1.1]
 have z5:IsZip g5 z I O .ellipsis:=b5.extBut _ _ D.TOz.symm (b4.extBut _ _ D.i2z.symm (b3.extBut _ _ D.TOz.symm (b2.extBut _ _ D.i1z.symm z1)))
 have k5:∀ c o,c≠z→c≠O→c≠i1→c≠i2→s.heap.get? c=some o→g5.get? c=some o:=fun c o c1 c2 c3 c4 e =>
  b5.extBut _ _ c2 (b4.extBut _ _ c4 (b3.extBut _ _ c2 (b2.extBut _ _ c3 (b1.extBut _ _ c1 e))))
 have p5:g5.IsListIter i1 l (n+1):=((q2.extBut b3.extBut D.TOi1.symm).extBut b4.extBut D.i12).extBut b5.extBut D.TOi1.symm
 have r5:g5.IsTupleIter i2 t (n+1):=q4.extBut b5.extBut D.TOi2.symm
 have zl:z < g5.objs.size:=Heap.lt_size z5
 show wpAny _ _ (Builtin.SmallTypes.ownedTupleHandOut (.ref z) (.ref g5.objs.size) >>= _) _ _ _
 refine wpAny_bind ?_
 unfold Builtin.SmallTypes.ownedTupleHandOut;have z6:IsZip (g5.push {cls:=.type "tuple",data:=.seq #[x,y]}) z I O .ellipsis:=Heap.get?_push_of_some _ z5
 refine wpAny_bind (wpAny_setField_rec z6 (by simp) fun g7 z7 b7=>?_)
 replace z7:IsZip g7 z I O (rawInt g5.objs.size):=z7
 refine wpAny_setField_rec z7 (by simp) fun g8 z8 b8=>?_
 replace z8:IsZip g8 z I O (rawInt g5.objs.size):=z8
 have up:∀ c o,c≠z→g5.get? c=some o→g8.get? c=some o:=fun c o c1 e=>b8.extBut _ _ c1 (b7.extBut _ _ c1 (Heap.get?_push_of_some _ e))
 have T8:IsPair g8 g5.objs.size x y:=b8.extBut _ _ (Nat.ne_of_gt zl) (b7.extBut _ _ (Nat.ne_of_gt zl) (Heap.get?_push_size _ rfl))
 have n8:g8.objs.size=g5.objs.size+1:=by rw [b8.1,b7.1,Heap.size_push]
 rw [sz] at z8 T8 n8;refine wpAny_pure ⟨_,rfl,?_⟩
 show Q (.ref g5.objs.size) _
 rw [sz];exact k g8 z8 (up _ _ D.TOz O5) (p5.at fun o e=>up _ o D.i1z e) (r5.at fun o e=>up _ o D.i2z e) T8 n8 fun c o c1 c2 c3 c4 e=>up c o c1 (k5 c o c1 c2 c3 c4 e)
theorem zt_pyitem {z I O i1 i2 l t:Addr}{n:Nat}{xs ys:Array Value}{x y a b:Value}{Q:Option Value→Shared→Prop}(D:ZipApart z I O i1 i2 l t)
  (hz:IsZip s.heap z I O .none) (hI:IsPair s.heap I (.ref i1) (.ref i2)) (hO:IsPair s.heap O a b)
  (h1:s.heap.IsListIter i1 l n) (h2:s.heap.IsTupleIter i2 t n) (hl:s.heap.IsList l xs) (ht:s.heap.IsTuple t ys) (hx:xs[n]? = some x) (hy:ys[n]? = some y)
  (k:∀ h',IsZip h' z I O (rawInt s.heap.objs.size)→IsPair h' O x y→h'.IsListIter i1 l (n+1)→h'.IsTupleIter i2 t (n+1)→IsPair h' s.heap.objs.size x y→h'.objs.size=s.heap.objs.size+1 →
   (∀ c o,c≠z→c≠O→c≠i1→c≠i2→s.heap.get? c=some o→h'.get? c=some o)→Q (some (.ref s.heap.objs.size)) {s with heap:=h'}) :
  wpAny (model prog w) A (pyNext (.ref z)) Q E s:=by
 have ty:s.TypeIs (.ref z) "zip":=⟨_,hz,rfl⟩
 unfold pyNext;refine wpAny_bind (wpAny_attempt (wpAny_callSpecial?_slot (name:=Str.ofString "__next__") ty F.slot_zip_next (wpAny_call_entry F.slot_zip_next ty F.entry_zip_next ?_ (F.args_zip_next_1 _))))
 exact zt_item D hz hI hO h1 h2 hl ht hx hy fun h' a1 a2 a3 a4 a5 a6 a7=>wpAny_pure (k h' a1 a2 a3 a4 a5 a6 a7)
theorem zt_pyend {z I O i1 i2 l:Addr}{n:Nat}{xs:Array Value}{a b:Value}{Q:Option Value→Shared→Prop}(hh:A.handled=none)(zi:i1≠z)(lz:l≠z)
  (hz:IsZip s.heap z I O .none) (hI:IsPair s.heap I (.ref i1) (.ref i2)) (hO:IsPair s.heap O a b)
  (h1:s.heap.IsListIter i1 l n) (hl:s.heap.IsList l xs) (hx:xs[n]? = none)
  (k:∀ h',(∀ c o,c≠z→c≠i1→s.heap.get? c=some o→h'.get? c=some o)→Q none {s with heap:=h'}):wpAny (model prog w) A (pyNext (.ref z)) Q E s:=by
 have ty:s.TypeIs (.ref z) "zip":=⟨_,hz,rfl⟩
 unfold pyNext;refine wpAny_bind (wpAny_attempt (wpAny_callSpecial?_slot (name:=Str.ofString "__next__") ty F.slot_zip_next (wpAny_call_entry F.slot_zip_next ty F.entry_zip_next ?_ (F.args_zip_next_1 _))))
 show wpAny _ _ (field (.ref z) 2 >>= _) _ _ _
 refine wpAny_bind (wpAny_field hz rfl (x:=.bool false) rfl ?_)
 show wpAny _ _ (field (.ref z) 3 >>= _) _ _ _
 refine wpAny_bind (wpAny_field hz rfl (x:=.ref I) rfl ?_)
 refine wpAny_bind (wpAny_seqItems hI rfl ?_)
 show wpAny _ _ (Builtin.SmallTypes.ownedTupleIsFree (.ref z) >>= _) _ _ _
 refine wpAny_bind ?_
 unfold Builtin.SmallTypes.ownedTupleIsFree;refine wpAny_bind (wpAny_field hz rfl (x:=.none) rfl (wpAny_pure ?_))
 simp only [if_true];refine wpAny_bind (wpAny_rule ?_)
 refine wpAny_bind (wpAny_field hz rfl (x:=.ref O) rfl ?_)
 refine wpAny_bind (wpAny_setField_rec hz (by simp) fun g1 z1 b1=>?_)
 replace z1:IsZip g1 z I O .ellipsis:=z1
 refine wpAny_bind ?_
 simp only [List.zipIdx_cons,List.zipIdx_nil,List.forIn_cons,List.forIn_nil];refine wpAny_bind (wpAny_bind (wpAny_onRaise ?_))
 show wpAny _ _ (Builtin.SmallTypes.nextOf (.ref i1) >>= _) _ _ _
 refine wpAny_bind (wpAny_nextOf_list_end hh (h1.extBut b1.extBut zi) (hl.extBut b1.extBut lz) hx fun g2 e b2 he=>?_)
 obtain ⟨oe,hoe,hce⟩:=he
 have z2:IsZip g2 z I O .ellipsis:=b2 _ _ zi.symm z1
 have ez:e≠z:=fun q=>by subst q;rw [z2] at hoe;cases hoe;exact absurd hce (by show ¬ (Value.type "zip"=Value.type "StopIteration");decide)
 refine wpAny_setField_rec z2 (by simp) fun g3 z3 b3=>?_
 refine wpAny_bind (wpAny_isInstance (T:="StopIteration") (b:=true) ⟨oe,b3.extBut _ _ ez hoe,hce⟩ isSubtype_stop ?_)
 exact wpAny_pure (k _ fun c o c1 c3 q=>b3.extBut _ _ c1 (b2 _ _ c3 (b1.extBut _ _ c1 q)))
end
end PySem
namespace PySem
open Sem (wp)
abbrev ztH2 (h:Heap)(l t:Addr):Heap:=(zipH1 h l).push {cls:=.type "tuple_iterator",data:=.fields #[.ref t,.int 0 0]}
abbrev ztH3 (h:Heap)(l t:Addr):Heap:=(ztH2 h l t).push {cls:=.type "tuple",data:=.seq #[.ref h.objs.size,.ref (zipH1 h l).objs.size]}
abbrev ztH4 (h:Heap)(l t:Addr):Heap:=(ztH3 h l t).push {cls:=.type "tuple",data:=.seq #[.none,.none]}
abbrev ztH5 (h:Heap)(l t:Addr):Heap:=(ztH4 h l t).push {cls:=.type "zip",data:=.fields #[.none,.bool false,.bool false,.ref (ztH2 h l t).objs.size,.ref (ztH3 h l t).objs.size]}
theorem zt_new (l t:Addr)(xs ys:Array Value) :
  Meets (Builtin.«zip.__new__» ⟨[.type "zip",.ref l,.ref t],[]⟩) (fun _ R s=>s.heap.IsList l xs∧s.heap.IsTuple t ys ∧
   R (.ok (.ret (.ref (ztH4 s.heap l t).objs.size))) {s with heap:=ztH5 s.heap l t}) :=
 .of_wp fun prog w A R s q=>by
  obtain ⟨hp,g,d,tk,os⟩:=s
  obtain ⟨hl,ht,q⟩:=q
  have sub:=sub_zip
  have L1:Heap.IsList (Shared.heap ⟨hp,g,d,tk,os⟩) l xs:=hl
  have T2:Heap.IsTuple (Shared.heap ⟨hp.push {cls:=.type "list_iterator",data:=.fields #[.ref l,.int 0 0]},g,d,tk,os⟩) t ys:=by
   obtain ⟨o,ho,r⟩:=ht
   exact ⟨o,Heap.get?_push_of_some _ ho,r⟩
  wp_walk using wpAny_pyIter_list L1,wpAny_pyIter_tuple T2
  exact ⟨_,rfl,q⟩
section
variable {prog:Program}{w:World}{A:Around}{E:Value→Shared→Prop}{s:Shared}
theorem zt_call {l t:Addr}{xs ys:Array Value}{Q:Value→Shared→Prop}(hl:s.heap.IsList l xs)(ht:s.heap.IsTuple t ys)
  (k:∀ h',IsZip h' (s.heap.objs.size+4) (s.heap.objs.size+2) (s.heap.objs.size+3) .none→IsPair h' (s.heap.objs.size+2) (.ref s.heap.objs.size) (.ref (s.heap.objs.size+1)) →
   IsPair h' (s.heap.objs.size+3) .none .none→h'.IsListIter s.heap.objs.size l 0→h'.IsTupleIter (s.heap.objs.size+1) t 0 →
   (∀ c o,s.heap.get? c=some o→h'.get? c=some o)→Q (.ref (s.heap.objs.size+4)) {s with heap:=h'}) :
  wpAny (model prog w) A (call (.type "zip") [.ref l,.ref t]) Q E s:=by
 refine callType_new F.called_zip (by decide) (F.typeCall_zip_2 _ _) (F.newCall_zip_2 _ _) (fun obj=>F.args_object_init_3 obj _ _) F.entry_zip_new (zt_new l t xs ys) ⟨hl,ht,?_⟩
 have z1:(zipH1 s.heap l).objs.size=s.heap.objs.size+1:=Heap.size_push ..
 have z2:(ztH2 s.heap l t).objs.size=s.heap.objs.size+2:=by rw [Heap.size_push,z1]
 have z3:(ztH3 s.heap l t).objs.size=s.heap.objs.size+3:=by rw [Heap.size_push,z2]
 have z4:(ztH4 s.heap l t).objs.size=s.heap.objs.size+4:=by rw [Heap.size_push,z3]
 have e5:(ztH5 s.heap l t).get? (ztH4 s.heap l t).objs.size=some _:=Heap.get?_push_size _ rfl
 have e4:(ztH5 s.heap l t).get? (ztH3 s.heap l t).objs.size=some _:=Heap.get?_push_of_some _ (Heap.get?_push_size _ rfl)
 have e3:(ztH5 s.heap l t).get? (ztH2 s.heap l t).objs.size=some _:=Heap.get?_push_of_some _ (Heap.get?_push_of_some _ (Heap.get?_push_size _ rfl))
 have e2:(ztH5 s.heap l t).get? (zipH1 s.heap l).objs.size=some _:=Heap.get?_push_of_some _ (Heap.get?_push_of_some _ (Heap.get?_push_of_some _ (Heap.get?_push_size _ rfl)))
 have e1:(ztH5 s.heap l t).get? s.heap.objs.size=some _:=Heap.get?_push_of_some _ (Heap.get?_push_of_some _ (Heap.get?_push_of_some _ (Heap.get?_push_of_some _ (Heap.get?_push_size _ rfl))))
 show _∧_
 rw [z2,z3,z4] at e5;rw [z1,z2] at e3;rw [z3] at e4;rw [z1] at e2;rw [z4];refine ⟨⟨_,e5,rfl⟩,k _ e5 e3 e4 ⟨_,e1,rfl,rfl⟩ ⟨_,e2,rfl,rfl⟩ fun c o x=>?_⟩
 exact Heap.get?_push_of_some _ (Heap.get?_push_of_some _ (Heap.get?_push_of_some _ (Heap.get?_push_of_some _ (Heap.get?_push_of_some _ x))))
end
end PySem
namespace L2
open PySem PySem.Spec PyProof.Rows
def Itzt (K:zF)(a b:Addr):It :=
 ⟨fun i H=>∃ (xs ys:List V) (x y:V),SqL K H a xs∧SqT K H b ys∧xs[i]? = some x∧ys[i]? = some y,
  fun i H v H'=>∃ T x y,v = .ref T∧H T=none∧H'=upd H T (.tup [x,y])∧(∀ xs,SqL K H a xs→xs[i]? = some x)∧∀ ys,SqT K H b ys→ys[i]? = some y,
  fun i H=>∃ xs:List V,SqL K H a xs∧xs.length≤i⟩
theorem turn_zt {P:Program}{w:World}{K:zF}{elts:List Expr}{kk:Nat}{tpos:Pos}{a b z TI TO i1 i2:Addr}(D:ZipApart z TI TO i1 i2 a b) :
  Turn P w K (.Tuple elts kk tpos) (Itzt K a b) [z,TI,TO,i1,i2] z (fun i h=>IsZip h z TI TO .none∧IsPair h TI (.ref i1) (.ref i2)∧(∃ x y,IsPair h TO x y)∧h.IsListIter i1 a i∧h.IsTupleIter i2 b i) where
 mem:=by simp
 obj:=fun i h st c hc=>by
  obtain ⟨hz,hTI,⟨x,y,hTO⟩,⟨o1,e1,_,d1⟩,⟨o2,e2,_,d2⟩⟩:=st
  have e':c=z∨c=TI∨c=TO∨c=i1∨c=i2:=by simpa using hc
  rcases e' with q | q | q | q | q
  ·rw [q];exact ⟨_,hz,fun v q=>nomatch q⟩
  ·rw [q];exact ⟨_,hTI,fun v q=>nomatch q⟩
  ·rw [q];exact ⟨_,hTO,fun v q=>nomatch q⟩
  ·rw [q];exact ⟨o1,e1,fun v q=>by rw [d1] at q;cases q⟩
  ·rw [q];exact ⟨o2,e2,fun v q=>by rw [d2] at q;cases q⟩
 keep:=fun i h h' st k=>by
  obtain ⟨hz,hTI,⟨x,y,hTO⟩,h1,h2⟩:=st
  exact ⟨k z (by simp) _ hz,k TI (by simp) _ hTI,⟨x,y,k TO (by simp) _ hTO⟩,h1.at fun o q=>k i1 (by simp) o q,h2.at fun o q=>k i2 (by simp) o q⟩
 item:=by
  intro X hP hw hK hc i pins s σ H E I hf st hg
  subst hP hw hK
  obtain ⟨hz,hTI,⟨x0,y0,hTO⟩,h1,h2⟩:=st
  obtain ⟨xs,ys,x,y,hqx,hqy,hx,hy⟩:=hg
  obtain ⟨its,rv,p,_⟩:=I.list hqx
  obtain ⟨its2,rv2,p2,_⟩:=I.tuple hqy
  obtain ⟨u,hu,ru⟩:=rv.get hx
  obtain ⟨u2,hu2,ru2⟩:=rv2.get hy
  have hzl:z < s.heap.objs.size:=Heap.lt_size hz
  refine zt_pyitem D hz hTI hTO h1 h2 p.isList (show s.heap.IsTuple b its2.toArray from p2) (x:=u) (y:=u2) (by simpa using hu) (by simpa using hu2) fun h' z' TO' h1' h2' hT hsz hk=>?_
  refine ⟨_,rfl,wpAny_letOwnedTupleGo_zip (s:={s with heap:=h'}) z' fun h'' z'' sb=>?_⟩
  have hT2:h''.get? s.heap.objs.size=some {cls:=.type "tuple",data:=.seq #[u,u2]}:=(sb.2 _ (Nat.ne_of_gt hzl)).trans hT
  have new:ObjOk X.prog X.w (upd H s.heap.objs.size (.tup [x,y])) h'' s.heap.objs.size (.tup [x,y]) :=
   ⟨by show 2≤sizeLine;decide,[u,u2],.cons ru (.cons ru2 .nil),⟨_,hT2,rfl,_,rfl⟩⟩
  have I1:Inv X pins σ (upd H s.heap.objs.size (.tup [x,y])) {s with heap:=h''} :=
   I.turnedNew (t':=s.toks) (ch:=[z,TI,TO,i1,i2]) (fun c o hb q=>(sb.2 c (fun q'=>hb (by simp [q']))).trans (hk c o (fun q'=>hb (by simp [q'])) (fun q'=>hb (by simp [q'])) (fun q'=>hb (by simp [q'])) (fun q'=>hb (by simp [q'])) q)) hf (Nat.le_refl _) new
  refine ⟨.ref s.heap.objs.size,_,I1,rfl,⟨_,x,y,rfl,I.hok.fresh (Nat.le_refl _),rfl,fun l hl=>by rw [I.list_inj hl hqx];exact hx,fun l hl=>by rw [I.tuple_inj hl hqy];exact hy⟩,⟨z'',?_,⟨u,u2,?_⟩,?_,?_⟩,fun c hcm=>?_⟩
  ·exact (sb.2 _ D.TIz).trans (hk _ _ D.TIz D.TITO D.TIi1 D.TIi2 hTI)
  ·exact (sb.2 _ D.TOz).trans TO'
  ·exact h1'.at fun o q=>(sb.2 _ D.i1z).trans q
  ·exact h2'.at fun o q=>(sb.2 _ D.i2z).trans q
  ·have hlt:c < s.heap.objs.size:=by
    have e':c=z∨c=TI∨c=TO∨c=i1∨c=i2:=by simpa using hcm
    rcases e' with q | q | q | q | q
    ·rw [q];exact hzl
    ·rw [q];exact Heap.lt_size hTI
    ·rw [q];exact Heap.lt_size hTO
    ·rw [q];obtain ⟨_,e1,_⟩:=h1;exact Heap.lt_size e1
    ·rw [q];obtain ⟨_,e2,_⟩:=h2;exact Heap.lt_size e2
   rw [zH (Nat.ne_of_lt hlt)];exact (hf c hcm).1
 done:=by
  intro X hP hw hK hc i pins s σ H E I hf st hg
  subst hP hw hK
  obtain ⟨hz,hTI,⟨x0,y0,hTO⟩,h1,h2⟩:=st
  obtain ⟨xs,hqx,hend⟩:=hg
  obtain ⟨its,rv,p,_⟩:=I.list hqx
  have l1:=rv.length
  exact zt_pyend (I.ok.hd hc) D.i1z D.l1z hz hTI hTO h1 p.isList (by simp;omega) fun h' hk=>⟨rfl,I.turnedL (t':=s.toks) (ch:=[z,TI,TO,i1,i2]) (fun c o hb q =>
   hk c o (fun q'=>hb (by simp [q'])) (fun q'=>hb (by simp [q'])) q) hf⟩
 self:=fun A i s Q E st h=>wpAny_pyIter_zip st.1 h
def iZipT (K:zF)(ta:TA):TI:=fun σ H R=>ta σ H fun vs H1=>∃ a b xs ys,vs=[.ref a,.ref b]∧SqL K H1 a xs∧SqT K H1 b ys∧R (Itzt K a b) H1
theorem pi_zipT {X:Cx}{e e2:Expr}{ta:TA}{p pos tpos:Pos}{elts:List Expr}{kk:Nat}(hm:X.mg "zip"=none)(ha:PA X [e,e2] ta)(hg:Gl X "zip":=by rfl)
  (hs:starEach [e,e2] X.env=(false,eval e X.env)::starEach [e2] X.env:=by rfl) (hpl:(backTo pos (starEach [e2] X.env)).any (·.1)=false:=by rfl) :
  PI X (.Tuple elts kk tpos) (.Call (.Name "zip" p) [e,e2] [] pos) (iZipT X.K ta):=by
 intro pins s σ H R I h
 refine Call_ (uY I hg hm boot_zip5 (PyProof.Rows.callWith_type1 (xE (ha pos pins s σ H _ I h) fun us s1 ⟨vs,H1,I1,r1,q1⟩=>?_) hs hpl))
 obtain ⟨a,b,xs,ys,ex,hqx,hqy,q⟩:=q1
 subst ex
 cases r1 with
 | cons r rr =>
  cases rr with
  | cons r' rr =>
   cases rr;cases r
   cases r'
   obtain ⟨its,rv,p1,_⟩:=I1.list hqx
   obtain ⟨its2,rv2,p2,_⟩:=I1.tuple hqy
   have la:a < s1.heap.objs.size:=p1.lt
   have lb:b < s1.heap.objs.size:=by obtain ⟨o,e,_⟩:=id p2;exact Heap.lt_size e
   refine zt_call p1.isList (show s1.heap.IsTuple b its2.toArray from p2) fun h' hz hTI hTO h1 h2 hk=>wpAny_pyIter_zip hz ?_
   have I2:Inv X pins σ H1 {s1 with heap:=h'}:=I1.kept (t':=s1.toks) hk
   refine ⟨s1.heap.objs.size+4,[s1.heap.objs.size+4,s1.heap.objs.size+2,s1.heap.objs.size+3,s1.heap.objs.size,s1.heap.objs.size+1],_,_,H1,rfl,I2,turn_zt (PySem.W.ktu_apart s1.heap.objs.size a b la lb),⟨hz,hTI,⟨_,_,hTO⟩,h1,h2⟩,fun c hcm=>?_,q⟩
   have e':c=s1.heap.objs.size+4∨c=s1.heap.objs.size+2∨c=s1.heap.objs.size+3∨c=s1.heap.objs.size∨c=s1.heap.objs.size+1:=by simpa using hcm
   have hle:s1.heap.objs.size≤c:=by
    rcases e' with z | z | z | z | z
    ·rw [z];exact Nat.le_add_right _ _
    ·rw [z];exact Nat.le_add_right _ _
    ·rw [z];exact Nat.le_add_right _ _
    ·rw [z];exact Nat.le_refl _
    ·rw [z];exact Nat.le_add_right _ _
   exact I1.fpOk hle (I1.hok.fresh hle)
end L2
namespace L2
open PySem PySem.Spec PyProof.Rows
structure Clo (H:Hp):Prop where
 own : ∀ a C dx fs,H a=some (.ins C dx fs)→H dx=some (.own a)
 ndt : ∀ a kvs,H a≠some (.dT kvs)
 frz : ∀ a o u,H a=some (.frz o u)→(∃ xs,u = .lst xs)∨∃ xs,u = .tup xs
structure Kp (H H':Hp):Prop where
 tups : ∀ b xs,H b=some (.tup xs)→H' b=some (.tup xs)
 frzs : ∀ b o u,H b=some (.frz o u)→H' b=some (.frz o u)
 tbls : ∀ b ps,H b=some (.tbl ps)→∃ more,H' b=some (.tbl (ps++more))
theorem Kp.of {H H':Hp}(s:Same H H'):Kp H H':=⟨fun b _ e=>s b _ e,fun b _ _ e=>s b _ e,fun b ps e=>⟨#[],by rw [s b _ e,Array.append_empty]⟩⟩
theorem Kp.refl (H:Hp):Kp H H:=Kp.of (Same.refl H)
theorem Kp.trans {H H1 H2:Hp}(a:Kp H H1)(b:Kp H1 H2):Kp H H2:=⟨fun c _ e=>b.tups c _ (a.tups c _ e),fun c _ _ e=>b.frzs c _ _ (a.frzs c _ _ e),fun c ps e=>by
 obtain ⟨m1,e1⟩:=a.tbls c ps e
 obtain ⟨m2,e2⟩:=b.tbls c _ e1
 exact ⟨m1++m2,by rw [e2,Array.append_assoc]⟩⟩
def SameT (H H':Hp):Prop:=∀ b o,H b=some o→(∀ ps,o≠.tbl ps)→H' b=some o
theorem Same.t {H H':Hp}(s:Same H H'):SameT H H':=fun b o e _=>s b o e
theorem SameT.refl (H:Hp):SameT H H:=fun _ _ e _=>e
theorem SameT.trans {H H1 H2:Hp}(a:SameT H H1)(b:SameT H1 H2):SameT H H2:=fun c o e n=>b c o (a c o e n) n
theorem HOk.sub {P:Program}{w:World}{H H':Hp}{h:Heap}(x:HOk P w H' h)(c:Clo H)(s:Same H H'):HOk P w H h:=fun a o e=>by
 have q:=x a o (s a o e)
 cases o with
 | lst xs=>exact q
 | tup xs=>exact q
 | dK kvs=>exact q
 | dT kvs=>exact (c.ndt a kvs e).elim
 | set S n=>exact q
 | ins C dx fs=>exact ⟨c.own a C dx fs e,q.2⟩
 | own y=>exact q
 | xd fs=>exact q
 | rng lo hi=>exact q
 | frz ob u =>
  rcases c.frz a ob u e with ⟨xs,rfl⟩ | ⟨xs,rfl⟩
  ·exact q
  ·exact q
 | tbl ps=>exact q
 | met f y=>exact q
 | ext φ=>exact q
structure Fg (H0 H1 H2:Hp):Prop where
 kp : Kp H0 H2
 clo : Clo H2
 sub : Same H2 H1
theorem Fg.self {H H':Hp}(c:Clo H)(s:Same H H'):Fg H H' H:=⟨Kp.refl H,c,s⟩
section
variable {X:Cx}{pins p0:List (Addr×Obj)}{σ σ0:St}{H H' H2:Hp}{s s':Shared}
theorem yJ (sb:Same H2 H'){b:Addr}(h:H' b=none):H2 b=none:=by
 cases e:H2 b with
 | none=>rfl
 | some o=>rw [sb b o e] at h;cases h
theorem Inv.forget (I:Inv X pins σ H' s')(k:Kp X.H_0 H2)(c:Clo H2)(sb:Same H2 H'):Inv X pins σ H2 s' :=
 ⟨I.ok,I.os,I.bare,⟨I.base.keep,I.base.slot,fun b o e n hx=>yJ sb (I.base.free b o e n hx),I.base.there,k.tups,k.frzs,k.tbls⟩,
  I.loc,I.cell,yJ sb I.free,fun x c e=>yJ sb (I.freeC x c e),fun p hp=>let ⟨a,b,r⟩:=I.pin p hp;⟨a,yJ sb b,r⟩,I.hok.sub c sb,I.len⟩
end
def fgE (H0:Hp)(D:t9):t9 where
 nx:=fun σ' H'=>∃ H2,Fg H0 H' H2∧D.nx σ' H2
 rt:=fun v H'=>∃ H2,Fg H0 H' H2∧D.rt v H2
 bk:=fun σ' H'=>∃ H2,Fg H0 H' H2∧D.bk σ' H2
 ct:=fun σ' H'=>∃ H2,Fg H0 H' H2∧D.ct σ' H2
def tFgt (H0:Hp)(t:TS):TS:=fun D σ H=>t (fgE H0 D) σ H
section
variable {X:Cx}
theorem SP.fgt {pins:List (Addr×Obj)}{D:t9}{f:Flow}{s:Shared}(h:SP X pins (fgE X.H_0 D) f s):SP X pins D f s:=by
 cases f with
 | next=>obtain ⟨σ',H',I,H2,g,q⟩:=h;exact ⟨σ',H2,I.forget g.kp g.clo g.sub,q⟩
 | brk=>obtain ⟨σ',H',I,H2,g,q⟩:=h;exact ⟨σ',H2,I.forget g.kp g.clo g.sub,q⟩
 | cont=>obtain ⟨σ',H',I,H2,g,q⟩:=h;exact ⟨σ',H2,I.forget g.kp g.clo g.sub,q⟩
 | ret u=>obtain ⟨v,σ',H',I,r,H2,g,q⟩:=h;exact ⟨v,σ',H2,I.forget g.kp g.clo g.sub,r,q⟩
theorem zJ {st:List Stmt}{t:TS}(H0:Hp)(h:PSs X st t)(e:X.H_0=H0:=by rfl):PSs X st (tFgt H0 t):=by
 subst e;exact fun pins s σ H D I q=>xE (h pins s σ H _ I q) fun f s1 r=>SP.fgt r
def gFgt (H0:Hp)(g:TG):TG:=fun v σ H Q=>g v σ H fun σ' H'=>∃ H2,Fg H0 H' H2∧Q σ' H2
theorem vR {e:Expr}{g:TG}(H0:Hp)(h:PG X e g)(e0:X.H_0=H0:=by rfl):PG X e (gFgt H0 g):=fun pins s σ H v u Q I r q=>xE (h pins s σ H v u _ I r q) fun _ s1 z=>by
 subst e0;obtain ⟨σ',H',I',H2,g,q⟩:=z
 exact ⟨σ',H2,I'.forget g.kp g.clo g.sub,q⟩
end
section
variable {H H0 H1:Hp}{l x dx C:Addr}{xs ys:List V}{fs gs:List (Str×V)}
theorem Clo.put {o:HO}(c:Clo H)(hn:∀ y,H l≠some (.own y))(h1:∀ C dx fs,o≠.ins C dx fs)(h2:∀ kvs,o≠.dT kvs)(h3:∀ ob u,o≠.frz ob u):Clo (upd H l o) where
 own:=fun a C dx fs e=>by
  by_cases ha:a=l
  ·subst ha;rw [upd_same] at e;exact (h1 _ _ _ (Option.some.inj e)).elim
  ·rw [zH ha] at e
   have q:=c.own a C dx fs e
   rw [zH (fun z:dx=l=>hn a (by rw [← z];exact q))];exact q
 ndt:=fun a kvs e=>by
  by_cases ha:a=l
  ·subst ha;rw [upd_same] at e;exact h2 _ (Option.some.inj e)
  ·rw [zH ha] at e;exact c.ndt a kvs e
 frz:=fun a ob u e=>by
  by_cases ha:a=l
  ·subst ha;rw [upd_same] at e;exact (h3 _ _ (Option.some.inj e)).elim
  ·rw [zH ha] at e;exact c.frz a ob u e
theorem Clo.lstN (c:Clo H)(hl:H l=none):Clo (upd H l (.lst ys)):=c.put (fun y e=>by rw [hl] at e;cases e) (fun _ _ _ z=>nomatch z) (fun _ z=>nomatch z) fun _ _ z=>nomatch z
theorem Clo.lstU (c:Clo H)(hl:H l=some (.lst xs)):Clo (upd H l (.lst ys)):=c.put (fun y e=>by rw [hl] at e;cases e) (fun _ _ _ z=>nomatch z) (fun _ z=>nomatch z) fun _ _ z=>nomatch z
theorem Clo.tupN (c:Clo H)(hl:H l=none):Clo (upd H l (.tup ys)):=c.put (fun y e=>by rw [hl] at e;cases e) (fun _ _ _ z=>nomatch z) (fun _ z=>nomatch z) fun _ _ z=>nomatch z
theorem Clo.insN (c:Clo H)(hx:H x=none)(hd:H dx=none)(hn:dx≠x):Clo (upd (upd H dx (.own x)) x (.ins C dx fs)) where
 own:=fun a C' dx' fs' e=>by
  by_cases ha:a=x
  ·subst ha;rw [upd_same] at e;cases e;rw [zH hn];exact upd_same
  ·rw [zH ha] at e
   by_cases hb:a=dx
   ·subst hb;rw [upd_same] at e;cases e
   ·rw [zH hb] at e
    have q:=c.own a C' dx' fs' e
    rw [zH (zO q hx),zH (zO q hd)];exact q
 ndt:=fun a kvs e=>by
  by_cases ha:a=x
  ·subst ha;rw [upd_same] at e;cases e
  ·rw [zH ha] at e
   by_cases hb:a=dx
   ·subst hb;rw [upd_same] at e;cases e
   ·rw [zH hb] at e;exact c.ndt a kvs e
 frz:=fun a ob u e=>by
  by_cases ha:a=x
  ·subst ha;rw [upd_same] at e;cases e
  ·rw [zH ha] at e
   by_cases hb:a=dx
   ·subst hb;rw [upd_same] at e;cases e
   ·rw [zH hb] at e;exact c.frz a ob u e
theorem Clo.insU (c:Clo H)(hx:H x=some (.ins C dx fs)):Clo (upd H x (.ins C dx gs)) where
 own:=fun a C' dx' fs' e=>by
  by_cases ha:a=x
  ·subst ha;rw [upd_same] at e;cases e
   have q:=c.own _ _ _ _ hx
   rw [zH (xD q hx (by intro z;cases z))];exact q
  ·rw [zH ha] at e
   have q:=c.own a C' dx' fs' e
   rw [zH (xD q hx (by intro z;cases z))];exact q
 ndt:=fun a kvs e=>by
  by_cases ha:a=x
  ·subst ha;rw [upd_same] at e;cases e
  ·rw [zH ha] at e;exact c.ndt a kvs e
 frz:=fun a ob u e=>by
  by_cases ha:a=x
  ·subst ha;rw [upd_same] at e;cases e
  ·rw [zH ha] at e;exact c.frz a ob u e
theorem Same.put {o:HO}(s:Same H H1)(hl:H l=none):Same H (upd H1 l o):=fun b u e=>by
 rw [zH (zO e hl)];exact s b u e
theorem Same.new {o:HO}(hl:H l=none):Same H (upd H l o):=Same.put (Same.refl H) hl
theorem Same.both {o:HO}(s:Same H H1):Same (upd H l o) (upd H1 l o):=fun b u e=>by
 by_cases hb:b=l
 ·subst hb;rw [upd_same] at e ⊢;exact e
 ·rw [zH hb] at e ⊢;exact s b u e
theorem Same.at {o:HO}(s:∀ b u,b≠l→H b=some u→H1 b=some u)(h:H1 l=some o):Same (upd H l o) H1:=fun b u e=>by
 by_cases hb:b=l
 ·subst hb;rw [upd_same] at e;cases e;exact h
 ·rw [zH hb] at e;exact s b u hb e
theorem Kp.put {o:HO}(k:Kp H0 H)(h1:∀ xs,H l≠some (.tup xs))(h2:∀ o u,H l≠some (.frz o u))(h3:∀ ps,H l≠some (.tbl ps)):Kp H0 (L2.upd H l o) where
 tups:=fun b xs e=>by
  have q:=k.tups b xs e
  rw [zH (fun z=>h1 xs (by rw [← z];exact q))];exact q
 frzs:=fun b ob u e=>by
  have q:=k.frzs b ob u e
  rw [zH (fun z=>h2 ob u (by rw [← z];exact q))];exact q
 tbls:=fun b ps e=>by
  obtain ⟨m,q⟩:=k.tbls b ps e
  exact ⟨m,by rw [zH (fun z=>h3 _ (by rw [← z];exact q))];exact q⟩
theorem Kp.new {o:HO}(k:Kp H0 H)(h:H l=none):Kp H0 (L2.upd H l o):=k.put (fun _ e=>by rw [h] at e;cases e) (fun _ _ e=>by rw [h] at e;cases e) fun _ e=>by rw [h] at e;cases e
theorem Kp.lst {o:HO}(k:Kp H0 H)(h:H l=some (.lst xs)):Kp H0 (L2.upd H l o):=k.put (fun _ e=>by rw [h] at e;cases e) (fun _ _ e=>by rw [h] at e;cases e) fun _ e=>by rw [h] at e;cases e
theorem Kp.ins {o:HO}(k:Kp H0 H)(h:H x=some (.ins C dx fs)):Kp H0 (L2.upd H x o):=k.put (fun _ e=>by rw [h] at e;cases e) (fun _ _ e=>by rw [h] at e;cases e) fun _ e=>by rw [h] at e;cases e
end
def Fld (K:zF)(H:Hp)(a:Addr)(f:Str)(v:V):Prop:=∃ C dx fs,H a=some (.ins C dx fs)∧Cls K C∧NoAttr K C f∧fs.lookup f=some v
theorem Fld.mono {K:zF}{H H':Hp}{a:Addr}{f:Str}{v:V}(h:Fld K H a f v)(s:SameT H H'):Fld K H' a f v :=
 let ⟨C,dx,fs,h1,h2⟩:=h;⟨C,dx,fs,s _ _ h1 (fun _ z=>nomatch z),h2⟩
theorem Fld.put {K:zF}{H:Hp}{a l:Addr}{f:Str}{v:V}{o:HO}(h:Fld K H a f v)(hn:∀ C dx fs,H l≠some (.ins C dx fs)):Fld K (upd H l o) a f v :=
 let ⟨C,dx,fs,h1,h2⟩:=h;⟨C,dx,fs,by rw [zH (fun z:a=l=>hn C dx fs (by rw [← z];exact h1))];exact h1,h2⟩
def tF (K:zF)(ta:TE)(f:Str):TE:=fun σ H Q=>ta σ H fun x H1=>∃ a v,x = .ref a∧Fld K H1 a f v∧Q v H1
theorem tF_eq (K:zF)(ta:TE)(f:Str):tF K ta f=tFld K ta f:=by
 funext σ H Q
 refine congrArg (ta σ H) ?_
 funext x H1
 refine propext ⟨?_,?_⟩
 ·rintro ⟨a,v,e,⟨C,dx,fs,h1,h2,h3,h4⟩,q⟩
  exact ⟨a,C,dx,fs,v,e,h1,h2,h3,h4,q⟩
 ·rintro ⟨a,C,dx,fs,v,e,h1,h2,h3,h4,q⟩
  exact ⟨a,v,e,⟨C,dx,fs,h1,h2,h3,h4⟩,q⟩
theorem pe_f {X:Cx}{e:Expr}{ta:TE}{f:Str}{pos:Pos}(he:PE X e ta)(hb:attributeBase e f X.env (eval e X.env)=eval e X.env:=by rfl):PE X (.Attribute e f pos) (tF X.K ta f):=by
 rw [tF_eq];exact pe_fld he hb
structure Dfn (P:Program)(w:World)(K:zF)(mg:Str→Option Value)(base:Heap)(x:Str)(ps:List Str)(ds:List V)(k:Nat)(sp:Sp):Prop where
 ex : ∃ (f:Addr) (fd:FuncData) (dv:List Value),FnOk P w K mg base CX0 k f fd ps sp∧mg x=some (.ref f)∧PySem.W.keepIn K (.ref f)=true∧Binds K fd ps dv∧Vals ds dv
theorem zS {X:Cx}{x:Str}{p pos:Pos}{e:Expr}{es:List Expr}{t:TA}{ps:List Str}{ds:List V}{k:Nat}{sp:Sp}(F:Dfn X.prog X.w X.K X.mg X.base x ps ds k sp)(hr:Room k X.A)(ha:PA X (e::es) t)(hg:Gl X x:=by rfl)
  (hdb:(x==("__debug__":Str))=false:=by decide) (he:starEach (e::es) X.env=(false,eval e X.env)::starEach es X.env:=by rfl) (hpl:(backTo pos (starEach es X.env)).any (·.1)=false:=by rfl) :
  PE X (.Call (.Name x p) (e::es) [] pos) (tCall sp ds E0 t):=by
 obtain ⟨f,fd,dv,F,hm,hk,hb,hv⟩:=F.ex
 exact pe_call F hr hg hm hk hb hv pass0 ha hdb he hpl
structure Mkr (P:Program)(w:World)(K:zF)(mg:Str→Option Value)(base:Heap)(x:Str)(C:Addr)(ps:List Str)(k:Nat)(sp:Sp):Prop where
 ex : ∃ (f:Addr) (fd:FuncData),Mk K C f∧FnOk P w K mg base CX0 k f fd ps sp∧mg x=some (.ref C)∧Binds K fd ps []
theorem pe_mk {X:Cx}{x:Str}{C:Addr}{p pos:Pos}{e:Expr}{es:List Expr}{t:TA}{ps:List Str}{k:Nat}{sp:Sp}(F:Mkr X.prog X.w X.K X.mg X.base x C ps k sp)(hr:Room (k+1) X.A)(ha:PA X (e::es) t)(hg:Gl X x:=by rfl)
  (hdb:(x==("__debug__":Str))=false:=by decide) (he:starEach (e::es) X.env=(false,eval e X.env)::starEach es X.env:=by rfl) (hpl:(backTo pos (starEach es X.env)).any (·.1)=false:=by rfl) :
  PE X (.Call (.Name x p) (e::es) [] pos) (tMake C sp [] E0 t):=by
 obtain ⟨f,fd,M,F,hm,hb⟩:=F.ex
 exact pe_make M F hr hg hm hb .nil pass0 ha hdb he hpl
theorem pe_mk0 {X:Cx}{x:Str}{C:Addr}{p pos:Pos}{ps:List Str}{k:Nat}{sp:Sp}(F:Mkr X.prog X.w X.K X.mg X.base x C ps k sp)(hr:Room (k+1) X.A)(hg:Gl X x:=by rfl)
  (hdb:(x==("__debug__":Str))=false:=by decide):PE X (.Call (.Name x p) [] [] pos) (tMake C sp [] E0 tNil):=by
 obtain ⟨f,fd,M,F,hm,hb⟩:=F.ex
 exact pe_make0 M F hr hg hm hb .nil pass0 hdb
def DefOk (K:zF)(mg:Str→Option Value)(x:Str)(st:Stmt)(ps:List Str):Prop:=∃ f fd,mg x=some (.ref f)∧Fun K x x st f fd∧Binds K fd ps []
def ClsOk (K:zF)(mg:Str→Option Value)(x q:Str)(st:Stmt)(ps fs:List Str):Prop :=
 ∃ C f fd,mg x=some (.ref C)∧Mk K C f∧Fun K "__init__" q st f fd∧Binds K fd ps []∧Cls K C∧∀ y∈fs,NoAttr K C y
section
variable {P:Program}{w:World}{K:zF}{mg:Str→Option Value}{base:Heap}
theorem DefOk.ok {x:Str}{st:Stmt}{N ps:List Str}{k:Nat}{sp:Sp}(D:DefOk K mg x st ps)(S:zK N ps (zE st))(len:∀ vs H Q E,sp vs H Q E→vs.length=ps.length)
  (hbody:∀ (f:Addr) (cdv:Value) (A:Around) (outer:List Env) (s:Shared) (H:Hp) (vs:List V) (Q:VK) (E:XK),Room k (A.deeper (envOfC x (zE st) s.heap.objs.size f cdv))→sp vs H Q E →
   ∃ t,PSs (tT CX0 P w K mg base N x (zE st) f cdv A outer s H E).nox (xP st) t∧t {nx:=fun _ H'=>Q .non H',rt:=Q} (start N vs) H):Dfn P w K mg base x ps [] (k+1) sp:=by
 obtain ⟨f,fd,h1,F,h3⟩:=D
 exact ⟨f,fd,[],F.ok S len (hbody f),h1,F.kp,h3,.nil⟩
theorem ClsOk.ok {x q:Str}{st:Stmt}{N ps fs:List Str}{k:Nat}{sp:Addr→Sp}(D:ClsOk K mg x q st ps fs)(S:zK N ps (zE st))(len:∀ C vs H Q E,sp C vs H Q E→vs.length=ps.length)
  (hbody:∀ (C f:Addr) (cdv:Value) (A:Around) (outer:List Env) (s:Shared) (H:Hp) (vs:List V) (Q:VK) (E:XK),Cls K C→(∀ y∈fs,NoAttr K C y)→Room k (A.deeper (envOfC q (zE st) s.heap.objs.size f cdv))→sp C vs H Q E →
   ∃ t,PSs (tT CX0 P w K mg base N q (zE st) f cdv A outer s H E).nox (xP st) t∧t {nx:=fun _ H'=>Q .non H',rt:=Q} (start N vs) H):∃ C,Mkr P w K mg base x C ps (k+1) (sp C)∧Cls K C∧∀ y∈fs,NoAttr K C y:=by
 obtain ⟨C,f,fd,h1,M,F,h3,c,n⟩:=D
 exact ⟨C,⟨f,fd,M,F.ok S (len C) (fun cdv A outer s H vs Q E=>hbody C f cdv A outer s H vs Q E c n),h1,h3⟩,c,n⟩
end
end L2
namespace L2
open PySem PySem.Spec PyProof.Rows
def rRemove : V→List V→Hp→VK→Prop:=fun x vs H Q=>∃ (l:Addr) (ns:List Int) (k:Int),x = .ref l∧vs=[.int k]∧H l=some (.lst (ns.map V.int))∧k∈ns∧Q .non (upd H l (.lst ((ns.erase k).map V.int)))
theorem first_at : ∀ {ns:List Int} {k:Int},k∈ns→∃ j,ns[j]? = some k∧(∀ m,m < j→∀ y,ns[m]? = some y→y≠k)∧ns.eraseIdx j=ns.erase k
 | [],k,h=>nomatch h
 | a::ns,k,h=>by
  by_cases e:a=k
  ·subst e
   exact ⟨0,rfl,fun m hm=>absurd hm (Nat.not_lt_zero _),by simp⟩
  ·have h':k∈ns:=by
    rcases List.mem_cons.mp h with z | z
    ·exact absurd z.symm e
    ·exact z
   obtain ⟨j,h1,h2,h3⟩:=first_at h'
   refine ⟨j+1,h1,fun m hm y hy=>?_,?_⟩
   ·cases m with
    | zero=>cases hy;exact e
    | succ m=>exact h2 m (by omega) y hy
   ·rw [List.eraseIdx_cons_succ,h3,List.erase_cons_tail (by simpa using e)]
theorem map_eraseIdx {α β:Type}(f:α→β):∀ (l:List α) (j:Nat),(l.map f).eraseIdx j=(l.eraseIdx j).map f
 | [],j=>by simp
 | a::l,0=>by simp
 | a::l,j+1=>by simp [map_eraseIdx f l j]
def intIs (k:Int)(v:Value):Bool:=match v with
 | .int i _=>i==k
 | _=>false
theorem intIs_gives {ns:List Int}{its:List Value}(r:Vals (ns.map V.int) its)(k:Int)(t:Tok):∀ y∈its,MeetsSeq.EqGives y (.int k t) (intIs k y):=by
 have q:=intsAre_of r
 intro y hy
 obtain ⟨i,u,rfl⟩:=q.all y hy
 exact MeetsSeq.EqGives.int i k u t
section
variable {X:Cx}
theorem mt_remove : MtM X "list.remove" rRemove:=by
 intro pins s σ H x vs v us Q I rx rv h
 obtain ⟨l,ns,k,rfl,rfl,hH,hk,q⟩:=h
 cases rx;obtain ⟨u,rfl,ru⟩:=rv.one
 obtain ⟨t,rfl⟩:=ru
 obtain ⟨z,its,n,r,hl,e⟩:=I.lstM hH
 obtain ⟨j,h1,h2,h3⟩:=first_at hk
 have ia:=intsAre_of r
 have at_:∀ (m:Nat) (y:Int),ns[m]? = some y→∃ t,its[m]? = some (.int y t):=fun m y hy=>ia.get m y hy
 obtain ⟨t0,hj0⟩:=at_ j k h1
 have hj:j < its.length:=(List.getElem?_eq_some_iff.mp hj0).1
 have hlen:ns.length=its.length:=by rw [← hl,List.length_map]
 refine call_meets F.slot_list_remove ⟨_,e,rfl⟩ F.entry_list_remove (F.args_list_remove_2 _ _)
  (MeetsSeq.list_remove l its.toArray n (.int k t) (intIs k) (fun y hy=>intIs_gives r k t y (by simpa using hy)) j (by simpa using hj) ?hit ?hno (by rw [List.size_toArray];omega)) ⟨e,?_⟩
 case hit =>
  have : its[j] = .int k t0:=by
   have:=(List.getElem?_eq_some_iff.mp hj0).2
   exact this
  simp [this,intIs]
 case hno =>
  intro m hm hlt
  have hm':m < its.length:=by simpa using hm
  have hmn:m < ns.length:=by omega
  obtain ⟨tm,hmt⟩:=at_ m ns[m] (by simp [hmn])
  have : its[m] = .int ns[m] tm:=(List.getElem?_eq_some_iff.mp hmt).2
  have ne:=h2 m hlt ns[m] (by simp [hmn])
  simp [this,intIs,ne]
 refine ⟨.non,_,I.lset (its':=its.eraseIdx j) hH e ?_ ?_ ?_,rfl,q⟩
 ·show its.toArray.eraseIdxIfInBounds j=(its.eraseIdx j).toArray
  rw [List.eraseIdxIfInBounds_toArray]
 ·have q2:=Vals.eraseIdx j r
  rw [← h3,← map_eraseIdx];exact q2
 ·rw [List.length_map]
  have : (ns.erase k).length≤ns.length:=List.length_erase_le ..
  omega
def rGetL (K:zF):R2:=fun x y H Q=>∃ (p:Addr) (xs:List V) (j:Nat) (v:V),x = .ref p∧y = .int (j:Int)∧SqL K H p xs∧xs[j]? = some v∧Q v H
theorem pget_list : PGet X (rGetL X.K):=by
 intro pins s σ H o i ov iv Q I r1 r2 h
 obtain ⟨p,xs,j,v,rfl,rfl,hq,hv,q⟩:=h
 cases r1;obtain ⟨t,rfl⟩:=r2
 obtain ⟨its,rv,pl,hz⟩:=I.list hq
 obtain ⟨u,hu,ru⟩:=rv.get hv
 have lt:j < its.length:=(List.getElem?_eq_some_iff.mp hu).1
 have hl:=rv.length
 have hn:=tS
 exact wpAny_getItem_list pl.isList (Int.natCast_nonneg j) (by omega) (by simpa using hu) ⟨v,H,I,ru,q⟩
end
structure KD (P:Program)(w:World)(K:zF)(a:Addr)(kvs:List (u8×V)):Prop where
 ex : ∃ (o:Obj) (es:Array DictEntry) (ep:Nat) (vs:List (u8×Value)),K.lookup a=some o∧o.ExactDict∧o.data = .dict es ep∧KeysOf (wE P w) es∧Pairs (wE P w) es.toList vs∧(vs.map (·.1)).Nodup∧KV kvs vs
 ns : (a==sysModules)=false
section
variable {X:Cx}{pins:List (Addr×Obj)}{σ:St}{H:Hp}{s:Shared}{a:Addr}{kvs:List (u8×V)}{k:u8}
theorem KD.at (D:KD X.prog X.w X.K a kvs)(I:Inv X pins σ H s):∃ vs,KV kvs vs∧s.heap.DictOf (wE X.prog X.w) a vs:=by
 obtain ⟨o,es,ep,vs,h1,h2,h3,h4,h5,h6,h7⟩:=D.ex
 exact ⟨vs,h7,o,es,ep,I.kIn a o h1,h2,h3,h4,h5,h6⟩
variable {o i e f:Expr}{td ty tx:TE}{pos apos cpos:Pos}
def tKGet (P:Program)(w:World)(K:zF)(td ty:TE):TE:=fun σ H Q=>td σ H fun x H1=>ty σ H1 fun y H2=>∃ a kvs k v,x = .ref a∧y=kV k∧KD P w K a kvs∧valV kvs k=some v∧Q v H2
theorem pe_kget (ho:PE X o td)(hi:PE X i ty)(hs:NoSl i):PE X (.Subscript o i pos) (tKGet X.prog X.w X.K td ty):=by
 intro pins s σ H Q I h
 refine subD_of PySem.F.slot_dict_getitem.lookup hs (xE (ho pins s σ H _ I h) fun u s1 ⟨x,H1,I1,rx,q1⟩=>xE (hi pins s1 σ H1 _ I1 q1) fun iv s2 ⟨y,H2,I2,ry,a,kvs,k,v,ex,ey,D,l,q2⟩=>?_)
 subst ex ey
 obtain rfl:u=Value.ref a:=rx
 obtain ⟨vs,rel,dd⟩:=D.at I2
 obtain ⟨w',hw,rw'⟩:=RelO.some_of (v:=v) (o:=valueAt vs k) (by rw [← l];exact rel.val k)
 exact ⟨dd.typeIs,wpAny_getItem_of (kV_is ry) dd.mapOf hw ⟨v,H2,I2.tok _,rw',q2⟩⟩
def tKNotIn (P:Program)(w:World)(K:zF)(ty td:TE):TE:=fun σ H Q=>ty σ H fun y H1=>td σ H1 fun x H2=>∃ a kvs k,x = .ref a∧y=kV k∧KD P w K a kvs∧Q (.bl (!(valV kvs k).isSome)) H2
theorem pc_knotin (hi:PE X i ty)(ho:PE X o td):PC X .NotIn i o (tKNotIn X.prog X.w X.K ty td):=by
 intro pins s σ H Q I h
 refine xE (hi pins s σ H _ I h) fun iv s1 ⟨y,H1,I1,ry,q1⟩=>xE (ho pins s1 σ H1 _ I1 q1) fun u s2 ⟨x,H2,I2,rx,a,kvs,k,ex,ey,D,q2⟩=>?_
 subst ex ey
 obtain rfl:u=Value.ref a:=rx
 obtain ⟨vs,rel,dd⟩:=D.at I2
 refine wpAny_notIn_of (kV_is ry) D.ns dd.mapOf ?_
 rw [← (rel.val k).isSome_eq];exact ⟨.bl _,H2,I2.tok _,rfl,q2⟩
def tKGet2 (P:Program)(w:World)(K:zF)(td ty tx:TE):TE:=fun σ H Q=>td σ H fun x H1=>∃ a kvs,x = .ref a∧KD P w K a kvs∧ty σ H1 fun y H2=>tx σ H2 fun z H3=>∃ k,y=kV k∧Q ((valV kvs k).getD z) H3
theorem pe_kget2 (ho:PE X o td)(he:PE X e ty)(hf:PE X f tx)(m:M2 X o "get" apos e f cpos):PE X (.Call (.Attribute o "get" apos) [e,f] [] cpos) (tKGet2 X.prog X.w X.K td ty tx):=by
 intro pins s σ H Q I h
 refine wpAny_Call_method m.base m.few m.line PySem.F.plainAttrs_dict PySem.F.slot_dict_get PySem.F.type_dict_get (xE (ho pins s σ H _ I h) fun u s1 ⟨x,H1,I1,rx,a,kvs,ex,D,q1⟩=>?_)
 subst ex;obtain rfl:u=Value.ref a:=rx
 obtain ⟨vs,rel,dd⟩:=D.at I1
 refine ⟨dd.typeIs,fun b q=>?_,?_⟩
 ·cases q
  obtain ⟨ob,_,_,h1,h2,_⟩:=dd
  exact ⟨ob,h1,h2.2.1⟩
 rw [m.trees];refine Calls.callWith_builtin rfl (Calls.evalArgs_plain (Calls.spliced_cons (xE (he pins s1 σ H1 _ I1 q1) fun iv s2 ⟨y,H2,I2,ry,q2⟩ =>
  Calls.spliced_cons (xE (hf pins s2 σ H2 _ I2 q2) fun fv s3 ⟨z,H3,I3,rz,k,ey,q3⟩=>Calls.spliced_nil ?_))))
 subst ey;obtain ⟨vs,rel,dd⟩:=D.at I3
 exact call_meetsIn PySem.F.slot_dict_get dd.typeIs PySem.F.entry_dict_get (PySem.F.args_dict_get_3 _ _ _) (meets_dict_get_default (wE X.prog X.w) a (kV_is ry) D.ns fv) ⟨_,dd.mapOf,⟨_,H3,I3.tok _,(rel.val k).getD rz,q3⟩⟩
end
structure Fv (P:Program)(w:World)(K:zF)(mg:Str→Option Value)(base:Heap)(k:Nat)(v:V)(sp:Sp):Prop where
 ex : ∃ (f:Addr) (fd:FuncData) (ps:List Str),v = .ref f∧FnOk P w K mg base CX0 k f fd ps sp∧PySem.W.keepIn K (.ref f)=true∧Binds K fd ps []
def tCallV (P:Program)(w:World)(K:zF)(mg:Str→Option Value)(base:Heap)(k:Nat)(tf:TE)(t:TA):TE:=fun σ H Q=>tf σ H fun v H1=>∃ sp,Fv P w K mg base k v sp∧t σ H1 fun vs H2=>sp vs H2 Q E0
theorem pe_callV {X:Cx}{x:Str}{p pos:Pos}{e:Expr}{es:List Expr}{tf:TE}{t:TA}{k:Nat}(hf:PE X (.Name x p) tf)(hr:Room k X.A)(ha:PA X (e::es) t)
  (he:starEach (e::es) X.env=(false,eval e X.env)::starEach es X.env:=by rfl) (hpl:(backTo pos (starEach es X.env)).any (·.1)=false:=by rfl) :
  PE X (.Call (.Name x p) (e::es) [] pos) (tCallV X.prog X.w X.K X.mg X.base k tf t):=by
 intro pins s σ H Q I h
 refine wpAny_Call_Name_kw (xE (hf pins s σ H _ I h) fun u s1 ⟨v,H1,I1,rv,sp,F,q1⟩=>?_)
 obtain ⟨f,fd,ps,rfl,ok,kp,hb⟩:=F.ex
 obtain rfl:u=Value.ref f:=rv
 refine PySem.W.callWith_K (h₀:=X.base) I.ok.mod.kin kp (xE (ha pos pins s1 σ H1 _ I1 q1) fun us s2 ⟨vs,H2,I2,r,q⟩=>⟨I2.kIn,?_⟩) he hpl
 exact run_fn (ds:=[]) (dvs:=[]) ok hr hb .nil pass0 I2 r (by rw [List.append_nil];exact q)
def GI (mg:Str→Option Value)(x:Str)(i:Int):Prop:=∃ t,mg x=some (.int i t)
def GS (mg:Str→Option Value)(x:Str)(z:Str):Prop:=∃ t,mg x=some (.str z t)
section
variable {X:Cx}{x:Str}{pos:Pos}
theorem yW {i:Int}(g:GI X.mg x i)(hg:Gl X x:=by rfl)(hd:(x==("__debug__":Str))=false:=by decide):PE X (.Name x pos) (tC (.int i)):=by
 obtain ⟨t,g⟩:=g
 exact pe_glob hg g ⟨t,rfl⟩ hd
theorem pgs {z:Str}(g:GS X.mg x z)(hg:Gl X x:=by rfl)(hd:(x==("__debug__":Str))=false:=by decide):PE X (.Name x pos) (tC (.str z)):=by
 obtain ⟨t,g⟩:=g
 exact pe_glob hg g ⟨t,rfl⟩ hd
theorem pgr {a:Addr}(g:X.mg x=some (.ref a))(hg:Gl X x:=by rfl)(hd:(x==("__debug__":Str))=false:=by decide):PE X (.Name x pos) (tC (.ref a)):=pe_glob hg g rfl hd
end
end L2
namespace L2
open PySem PySem.Spec PyProof.Rows
theorem yD : bootBuiltins "len"=some (.builtin "len"):=by decide +kernel
theorem bt_all : bootBuiltins "all"=some (.builtin "all"):=by decide +kernel
theorem bt_any : bootBuiltins "any"=some (.builtin "any"):=by decide +kernel
theorem bt_sum : bootBuiltins "sum"=some (.builtin "sum"):=by decide +kernel
theorem bt_max : bootBuiltins "max"=some (.builtin "max"):=by decide +kernel
theorem bt_ord : bootBuiltins "ord"=some (.builtin "ord"):=by decide +kernel
theorem bt_sorted : bootBuiltins "sorted"=some (.builtin "sorted"):=by decide +kernel
theorem bt_int : bootBuiltins "int"=some (.type "int"):=by decide +kernel
abbrev g2 (H0:Hp)(K:zF)(i1 i2:Nat):TG:=gFgt H0 (gTup K 2 (gCons (gName i1) (gCons (gName i2) gNil)))
theorem wK {K:zF}{a:Addr}{xs:List V}{i1 i2:Nat}{tb:TS}{D:t9}{σ:St}{H0 H:Hp}(Pv:Nat→St→Hp→Prop)(h0:Pv 0 σ H)(hl:∀ i σ H,i≤xs.length→Pv i σ H→SqL K H a xs∧Clo H∧Kp H0 H)
  (hs:∀ i x σ H,xs[i]? = some x→Pv i σ H→tb {D with nx:=Pv (i+1),ct:=Pv (i+1),bk:=D.nx} ((σ.set i1 (some (.int ((i:Int)+1)))).set i2 (some x)) H) (hd:∀ σ H,Pv xs.length σ H→D.nx σ H) :
  ∃ W:Nat→Nat→St→Hp→Prop,(∃ m,W 0 m σ H)∧∀ i m σ H,W i m σ H →
   ((Ite1 K a).stop i H∧D.nx σ H)∨((Ite1 K a).go i H∧∃ N:St→Hp→Prop,(∀ σ' H',N σ' H'→∃ m',m' < m∧W (i+1) m' σ' H')∧∀ x H',(Ite1 K a).yld i H x H'→g2 H0 K i1 i2 x σ H' fun σ2 H2=>tb {D with nx:=N,ct:=N,bk:=D.nx} σ2 H2):=by
 refine ⟨fun i m σ H=>m=xs.length - i∧i≤xs.length∧Pv i σ H,⟨xs.length,by simp,Nat.zero_le _,h0⟩,?_⟩
 rintro i m σ H ⟨rfl,hi,p⟩
 obtain ⟨q,c,k⟩:=hl i σ H hi p
 by_cases hlt:i < xs.length
 ·refine .inr ⟨⟨xs,xs[i],q,by simp [hlt]⟩,Pv (i+1),fun σ' H' p'=>⟨xs.length - (i+1),by omega,rfl,hlt,p'⟩,fun v H' y=>?_⟩
  obtain ⟨T,x,rfl,hT,rfl,y⟩:=y
  exact ⟨T,_,rfl,SqT.of upd_same,rfl,_,_,rfl,_,_,rfl,rfl,H,⟨k,c,Same.new hT⟩,hs i x σ H (y xs q) p⟩
 ·have e:i=xs.length:=by omega
  subst e;exact .inl ⟨⟨xs,q,Nat.le_refl _⟩,hd σ H p⟩
theorem for_zip {K:zF}{a b:Addr}{xs ys:List V}{i1 i2:Nat}{tb:TS}{D:t9}{σ:St}{H0 H:Hp}(Pv:Nat→St→Hp→Prop)(h0:Pv 0 σ H)(hl:∀ i σ H,Pv i σ H→SqL K H a xs∧SqL K H b ys∧Clo H∧Kp H0 H)(hlen:xs.length=ys.length)
  (hs:∀ i x y σ H,xs[i]? = some x→ys[i]? = some y→Pv i σ H→tb {D with nx:=Pv (i+1),ct:=Pv (i+1),bk:=D.nx} ((σ.set i1 (some x)).set i2 (some y)) H) (hd:∀ σ H,Pv xs.length σ H→D.nx σ H) :
  ∃ W:Nat→Nat→St→Hp→Prop,(∃ m,W 0 m σ H)∧∀ i m σ H,W i m σ H →
   ((Itz K a b).stop i H∧D.nx σ H)∨((Itz K a b).go i H∧∃ N:St→Hp→Prop,(∀ σ' H',N σ' H'→∃ m',m' < m∧W (i+1) m' σ' H')∧∀ x H',(Itz K a b).yld i H x H'→g2 H0 K i1 i2 x σ H' fun σ2 H2=>tb {D with nx:=N,ct:=N,bk:=D.nx} σ2 H2):=by
 refine ⟨fun i m σ H=>m=xs.length - i∧i≤xs.length∧Pv i σ H,⟨xs.length,by simp,Nat.zero_le _,h0⟩,?_⟩
 rintro i m σ H ⟨rfl,hi,p⟩
 obtain ⟨q,q2,c,k⟩:=hl i σ H p
 by_cases hlt:i < xs.length
 ·have hlt2:i < ys.length:=by omega
  refine .inr ⟨⟨xs,ys,xs[i],ys[i],q,q2,by simp [hlt],by simp [hlt2]⟩,Pv (i+1),fun σ' H' p'=>⟨xs.length - (i+1),by omega,rfl,hlt,p'⟩,fun v H' y=>?_⟩
  obtain ⟨T,x,y',rfl,hT,rfl,y1,y2⟩:=y
  exact ⟨T,_,rfl,SqT.of upd_same,rfl,_,_,rfl,_,_,rfl,rfl,H,⟨k,c,Same.new hT⟩,hs i x y' σ H (y1 xs q) (y2 ys q2) p⟩
 ·have e:i=xs.length:=by omega
  subst e;exact .inl ⟨⟨xs,ys,q,q2,.inl (Nat.le_refl _)⟩,hd σ H p⟩
theorem for_zipT {K:zF}{a b:Addr}{xs ys:List V}{i1 i2:Nat}{tb:TS}{D:t9}{σ:St}{H0 H:Hp}(Pv:Nat→St→Hp→Prop)(h0:Pv 0 σ H)(hl:∀ i σ H,Pv i σ H→SqL K H a xs∧SqT K H b ys∧Clo H∧Kp H0 H)(hlen:xs.length=ys.length)
  (hs:∀ i x y σ H,xs[i]? = some x→ys[i]? = some y→Pv i σ H→tb {D with nx:=Pv (i+1),ct:=Pv (i+1),bk:=D.nx} ((σ.set i1 (some x)).set i2 (some y)) H) (hd:∀ σ H,Pv xs.length σ H→D.nx σ H) :
  ∃ W:Nat→Nat→St→Hp→Prop,(∃ m,W 0 m σ H)∧∀ i m σ H,W i m σ H →
   ((Itzt K a b).stop i H∧D.nx σ H)∨((Itzt K a b).go i H∧∃ N:St→Hp→Prop,(∀ σ' H',N σ' H'→∃ m',m' < m∧W (i+1) m' σ' H')∧∀ x H',(Itzt K a b).yld i H x H'→g2 H0 K i1 i2 x σ H' fun σ2 H2=>tb {D with nx:=N,ct:=N,bk:=D.nx} σ2 H2):=by
 refine ⟨fun i m σ H=>m=xs.length - i∧i≤xs.length∧Pv i σ H,⟨xs.length,by simp,Nat.zero_le _,h0⟩,?_⟩
 rintro i m σ H ⟨rfl,hi,p⟩
 obtain ⟨q,q2,c,k⟩:=hl i σ H p
 by_cases hlt:i < xs.length
 ·have hlt2:i < ys.length:=by omega
  refine .inr ⟨⟨xs,ys,xs[i],ys[i],q,q2,by simp [hlt],by simp [hlt2]⟩,Pv (i+1),fun σ' H' p'=>⟨xs.length - (i+1),by omega,rfl,hlt,p'⟩,fun v H' y=>?_⟩
  obtain ⟨T,x,y',rfl,hT,rfl,y1,y2⟩:=y
  exact ⟨T,_,rfl,SqT.of upd_same,rfl,_,_,rfl,_,_,rfl,rfl,H,⟨k,c,Same.new hT⟩,hs i x y' σ H (y1 xs q) (y2 ys q2) p⟩
 ·have e:i=xs.length:=by omega
  subst e;exact .inl ⟨⟨xs,q,Nat.le_refl _⟩,hd σ H p⟩
theorem take_snoc' {α:Type}{l:List α}{i:Nat}{x:α}(h:l[i]? = some x):l.take (i+1)=l.take i++[x]:=by
 rw [List.take_succ,h];rfl
theorem fm_snoc {α:Type}(f:α→Option V)(l:List α)(x:α):(l++[x]).filterMap f=match f x with
 | some v=>l.filterMap f++[v]
 | none=>l.filterMap f:=by
 rw [List.filterMap_append]
 cases h:f x<;>simp [h]
abbrev outV {α:Type}(G:α→Option V)(xs:List α)(i:Nat):List V:=(xs.take i).filterMap G
abbrev PvC {α:Type}(G:α→Option V)(xs:List α)(H1:Hp)(D:Addr)(i:Nat)(H:Hp):Prop:=Same H1 H∧H D=some (.lst (outV G xs i))
theorem vK {α:Type}{G:α→Option V}{xs:List α}{H1 H H4:Hp}{D:Addr}{i:Nat}{x:α}{y:V}(hi:xs[i]? = some x)(hz:xs.length≤sizeLine)(hD:H1 D=none)(p:PvC G xs H1 D i H)(gx:G x=some y)(s4:Same H H4) :
  ∃ acc,H4 D=some (.lst acc)∧acc.length < sizeLine∧PvC G xs H1 D (i+1) (upd H4 D (.lst (acc++[y]))):=by
 refine ⟨_,s4 _ _ p.2,?_,(p.1.trans s4).put hD,?_⟩
 ·have l1:(outV G xs i).length≤(xs.take i).length:=List.length_filterMap_le ..
  have l2:(xs.take i).length=min i xs.length:=List.length_take ..
  have l3:=(List.getElem?_eq_some_iff.mp hi).1
  omega
 ·rw [upd_same]
  unfold outV;rw [take_snoc' hi,fm_snoc,gx]
theorem lc_no {α:Type}{G:α→Option V}{xs:List α}{H1 H H3:Hp}{D:Addr}{i:Nat}{x:α}(hi:xs[i]? = some x)(p:PvC G xs H1 D i H)(gx:G x=none)(s3:Same H H3):PvC G xs H1 D (i+1) H3 :=
 ⟨p.1.trans s3,by rw [s3 _ _ p.2];unfold outV;rw [take_snoc' hi,fm_snoc,gx]⟩
theorem lc_0 {α:Type}{G:α→Option V}{xs:List α}{H1:Hp}{D:Addr}(hD:H1 D=none):PvC G xs H1 D 0 (upd H1 D (.lst [])):=⟨Same.new hD,upd_same⟩
theorem wI {α:Type}{G:α→Option V}{xs:List α}{H1 H:Hp}{D:Addr}{n:Nat}(p:PvC G xs H1 D n H)(hn:n=xs.length):H D=some (.lst (xs.filterMap G)):=by rw [p.2,hn];unfold outV;rw [List.take_length]
theorem fm_map {α β:Type}(F:α→Option β)(g:β→V)(l:List α):(l.filterMap fun x=>(F x).map g)=(l.filterMap F).map g:=by
 rw [List.map_filterMap]
end L2
namespace L2
open PySem PySem.Spec PyProof.Rows
section
variable {X:Cx}(K:zF){e o a b:Expr}{es:List Expr}{ta tb to te:TE}{t tk:TA}{f name:Str}{pos apos cpos p:Pos}{tg:Expr}{r:V→List V→Hp→VK→Prop}{T id:String}
theorem zZ (he:PE X e ta)(hb:attributeBase e f X.env (eval e X.env)=eval e X.env:=by rfl)(hK:X.K=K:=by rfl):PE X (.Attribute e f pos) (tF K ta f):=by subst hK;exact pe_f he hb
theorem in_K (hK:X.K=K:=by rfl):tW X (compareOp .In) (rIn K false):=by subst hK;exact op_in_seq
theorem yI (hK:X.K=K:=by rfl):IxR X (rIxL K):=by subst hK;exact ix_list
theorem ixTK (hK:X.K=K:=by rfl):IxR X (rIxT K):=by subst hK;exact ix_tup
theorem slK (hK:X.K=K:=by rfl):SlR X (rSlL K):=by subst hK;exact sl_list
theorem vH {l:Expr}{tl:TE}(hl:PE X l tl)(hK:X.K=K:=by rfl):PI X tg l (iList K tl):=by subst hK;exact pi_list hl
theorem piTK {l:Expr}{tl:TE}(hl:PE X l tl)(hK:X.K=K:=by rfl):PI X tg l (iTup K tl):=by subst hK;exact pi_tup hl
theorem u9 {ts:List Expr}{k:Nat}{t:TGs}{n:Nat}(hc:X.calm=true)(h:PGs X ts t)(hn:(assignEach ts X.env).length=n:=by rfl)(hst:(assignEach ts X.env).findIdx? (·.1)=none:=by rfl)(hK:X.K=K:=by rfl):PG X (.Tuple ts k pos) (gTup K n t):=by subst hK;exact pg_tup hc h hn hst
theorem xS (hK:X.K=K:=by rfl):vC X (.builtin "len") (fun xs H Q=>∃ p ys,xs=[.ref p]∧(SqL K H p ys∨SqT K H p ys)∧Q (.int ys.length) H):=by subst hK;exact call_len_seq
theorem sumK (hc:X.calm=true)(hK:X.K=K:=by rfl):vC X (.builtin "sum") (rSum K):=by subst hK;exact cr_sum hc
theorem maxK (hc:X.calm=true)(hK:X.K=K:=by rfl):vC X (.builtin "max") (rMax K):=by subst hK;exact cr_max hc
theorem anyK (hc:X.calm=true)(hK:X.K=K:=by rfl):vC X (.builtin "any") (rAny K):=by subst hK;exact cr_any hc
theorem allK (hc:X.calm=true)(hK:X.K=K:=by rfl):vC X (.builtin "all") (rAll K):=by subst hK;exact cr_all hc
theorem getLK (hK:X.K=K:=by rfl):PGet X (rGetL K):=by subst hK;exact pget_list
theorem t7 {e ke:Expr}{ta tk:TA}{p pos tpos kp:Pos}{elts:List Expr}{kk:Nat}(hm:X.mg "enumerate"=none)(ha:PA X [e] ta)(hkw:PK X [⟨some "start",ke,kp⟩] tk)(hg:Gl X "enumerate":=by rfl)
  (he:backTo pos (starEach [e] X.env)=(false,eval e X.env)::backTo pos (starEach [] X.env):=by rfl) (hp:(backTo pos (starEach [e] X.env)).any (·.1)=false:=by rfl)
  (hal:(backToKw pos (keywordEach [⟨some "start",ke,kp⟩] X.env)).all (·.1.isSome)=true:=by rfl) (hk:(backToKw pos (keywordEach [⟨some "start",ke,kp⟩] X.env)).any (·.1.isNone)=false:=by rfl)
  (hks:(backToKw pos (keywordEach [⟨some "start",ke,kp⟩] X.env)).filterMap (·.1)=[Str.ofString "start"]:=by rfl) (hK:X.K=K:=by rfl) :
  PI X (.Tuple elts kk tpos) (.Call (.Name "enumerate" p) [e] [⟨some "start",ke,kp⟩] pos) (iEnum1 K ta tk):=by subst hK;exact pi_enum1 hm ha hkw hg he hp hal hk hks
theorem zipK {e e2:Expr}{ta:TA}{p pos tpos:Pos}{elts:List Expr}{kk:Nat}(hm:X.mg "zip"=none)(ha:PA X [e,e2] ta)(hg:Gl X "zip":=by rfl)
  (hs:starEach [e,e2] X.env=(false,eval e X.env)::starEach [e2] X.env:=by rfl) (hpl:(backTo pos (starEach [e2] X.env)).any (·.1)=false:=by rfl) (hK:X.K=K:=by rfl) :
  PI X (.Tuple elts kk tpos) (.Call (.Name "zip" p) [e,e2] [] pos) (iZip K ta):=by subst hK;exact pi_zip hg hm ha hs hpl
theorem zipTK {e e2:Expr}{ta:TA}{p pos tpos:Pos}{elts:List Expr}{kk:Nat}(hm:X.mg "zip"=none)(ha:PA X [e,e2] ta)(hg:Gl X "zip":=by rfl)
  (hs:starEach [e,e2] X.env=(false,eval e X.env)::starEach [e2] X.env:=by rfl) (hpl:(backTo pos (starEach [e2] X.env)).any (·.1)=false:=by rfl) (hK:X.K=K:=by rfl) :
  PI X (.Tuple elts kk tpos) (.Call (.Name "zip" p) [e,e2] [] pos) (iZipT K ta):=by subst hK;exact pi_zipT hm ha hg hs hpl
theorem bm0K (pa:PlainAttrs T)(slot:Slot T name id)(hty:typeOf (.builtin id)=pure (.type "method_descriptor"))(hm:MtR X id r)(ho:PE X o to)
  (hbase:attributeBase o name X.env (eval o X.env)=eval o X.env:=by rfl) (hline:(apos.endLine==cpos.line)=true:=by rfl) (hK:X.K=K:=by rfl):PE X (.Call (.Attribute o name apos) [] [] cpos) (tBM0 K T r to):=by subst hK;exact pe_bm0 pa slot hty hm ho hbase hline
theorem bmK (pa:PlainAttrs T)(slot:Slot T name id)(hty:typeOf (.builtin id)=pure (.type "method_descriptor"))(hm:MtR X id r)(ho:PE X o to)(ha:PA X (e::es) t)
  (hbase:attributeBase o name X.env (eval o X.env)=eval o X.env:=by rfl)
  (hfew:((backTo cpos (starEach (e::es) X.env)).all (fun x=>!x.1)&&(backToKw cpos (keywordEach [] X.env)).all (fun x=>x.1.isSome)
   && decide ((e::es).length+([]:List Keyword).length+(if ([]:List Keyword).isEmpty then 0 else 1) < 30))=true:=by rfl)
  (hline:(apos.endLine==cpos.line)=true:=by rfl) (hs:starEach (e::es) X.env=(false,eval e X.env)::starEach es X.env:=by rfl) (hplain:(backTo cpos (starEach es X.env)).any (·.1)=false:=by rfl) (hK:X.K=K:=by rfl) :
  PE X (.Call (.Attribute o name apos) (e::es) [] cpos) (tBM K T r to t):=by subst hK;exact pe_bm pa slot hty hm ho ha hbase hfew hline hs hplain
theorem joinK (ho:PE X o to)(he:PE X e te)(hs:starEach [e] X.env=[(false,eval e X.env)]:=by rfl)(hbase:attributeBase o "join" X.env (eval o X.env)=eval o X.env:=by rfl)(hline:(apos.endLine==pos.line)=true:=by rfl)(hK:X.K=K:=by rfl) :
  PE X (.Call (.Attribute o "join" apos) [e] [] pos) (tM1 (fun x xs H Q=>∃ a p,∃ ys:List Str,x = .str a∧xs=[.ref p]∧(SqL K H p (ys.map V.str)∨SqT K H p (ys.map V.str)) ∧
   (ys.map (·.length)).sum+ys.length * a.length≤16777216∧Q (.str (Txt.join a ys)) H) to te):=by subst hK;exact pe_join ho he hs hbase hline
theorem xB {value:Expr}{tv:TE}{pos':Pos}(ha:PE X o ta)(hv:PE X value tv)(hs:swapsWith value (some (.Attribute o f pos')) pos.line X.env=pure false:=by rfl)(hK:X.K=K:=by rfl):PS X (.Assign [.Attribute o f pos'] value pos) (sFld K ta tv f):=by subst hK;exact ps_fld ha hv hs
end
end L2
namespace L2
open PySem PySem.Spec PyProof.Rows
abbrev gp (K:zF)(i1 i2:Nat):TG:=gTup K 2 (gCons (gName i1) (gCons (gName i2) gNil))
theorem lc_zip {K:zF}{a b:Addr}{xs ys:List V}{i1 i2:Nat}{tt:TT}{te:TE}{vs:List Nat}{σ:St}{H1:Hp}{D:Addr}{Qd:Hp→Prop}(Pv:Nat→Hp→Prop)(h0:Pv 0 (upd H1 D (.lst [])))(hl:∀ i H,Pv i H→SqL K H a xs∧SqL K H b ys)(hlen:xs.length=ys.length)
  (hs:∀ i x y H T,xs[i]? = some x→ys[i]? = some y→Pv i H→H T=none→xC (((xC σ vs).set i1 (some x)).set i2 (some y)) vs=xC σ vs∧tt (((xC σ vs).set i1 (some x)).set i2 (some y)) (upd H T (.tup [x,y])) fun b H3 =>
   if b=true then te (((xC σ vs).set i1 (some x)).set i2 (some y)) H3 fun y H4=>∃ acc,H4 D=some (.lst acc)∧acc.length < sizeLine∧Pv (i+1) (upd H4 D (.lst (acc++[y]))) else Pv (i+1) H3) (hd:∀ H,Pv xs.length H→Qd H) :
  ∃ W:Nat→Nat→Hp→Prop,(∃ m,W 0 m (upd H1 D (.lst [])))∧∀ i m H,W i m H →
   ((Itz K a b).stop i H∧Qd H)∨((Itz K a b).go i H∧∃ Nx:Hp→Prop,(∀ H',Nx H'→∃ m',m' < m∧W (i+1) m' H')∧∀ x H',(Itz K a b).yld i H x H'→gp K i1 i2 x (xC σ vs) H' fun σ2 H2=>xC σ2 vs=xC σ vs∧tt σ2 H2 fun b H3 =>
    if b=true then te σ2 H3 fun y H4=>∃ acc,H4 D=some (.lst acc)∧acc.length < sizeLine∧Nx (upd H4 D (.lst (acc++[y]))) else Nx H3):=by
 refine ⟨fun i m H=>m=xs.length - i∧i≤xs.length∧Pv i H,⟨xs.length,by simp,Nat.zero_le _,h0⟩,?_⟩
 rintro i m H ⟨rfl,hi,p⟩
 obtain ⟨q,q2⟩:=hl i H p
 by_cases hlt:i < xs.length
 ·have hlt2:i < ys.length:=by omega
  refine .inr ⟨⟨xs,ys,xs[i],ys[i],q,q2,by simp [hlt],by simp [hlt2]⟩,Pv (i+1),fun H' p'=>⟨xs.length - (i+1),by omega,rfl,hlt,p'⟩,fun v H' y=>?_⟩
  obtain ⟨T,x,y',rfl,hT,rfl,y1,y2⟩:=y
  exact ⟨T,_,rfl,SqT.of upd_same,rfl,_,_,rfl,_,_,rfl,rfl,hs i x y' H T (y1 xs q) (y2 ys q2) p hT⟩
 ·have e:i=xs.length:=by omega
  subst e;exact .inl ⟨⟨xs,ys,q,q2,.inl (Nat.le_refl _)⟩,hd H p⟩
theorem lc_enum1 {K:zF}{a:Addr}{xs:List V}{i1 i2:Nat}{tt:TT}{te:TE}{vs:List Nat}{σ:St}{H1:Hp}{D:Addr}{Qd:Hp→Prop}(Pv:Nat→Hp→Prop)(h0:Pv 0 (upd H1 D (.lst [])))(hl:∀ i H,Pv i H→SqL K H a xs)
  (hs:∀ i x H T,xs[i]? = some x→Pv i H→H T=none→xC (((xC σ vs).set i1 (some (.int ((i:Int)+1)))).set i2 (some x)) vs=xC σ vs∧tt (((xC σ vs).set i1 (some (.int ((i:Int)+1)))).set i2 (some x)) (upd H T (.tup [.int ((i:Int)+1),x])) fun b H3 =>
   if b=true then te (((xC σ vs).set i1 (some (.int ((i:Int)+1)))).set i2 (some x)) H3 fun y H4=>∃ acc,H4 D=some (.lst acc)∧acc.length < sizeLine∧Pv (i+1) (upd H4 D (.lst (acc++[y]))) else Pv (i+1) H3) (hd:∀ H,Pv xs.length H→Qd H) :
  ∃ W:Nat→Nat→Hp→Prop,(∃ m,W 0 m (upd H1 D (.lst [])))∧∀ i m H,W i m H →
   ((Ite1 K a).stop i H∧Qd H)∨((Ite1 K a).go i H∧∃ Nx:Hp→Prop,(∀ H',Nx H'→∃ m',m' < m∧W (i+1) m' H')∧∀ x H',(Ite1 K a).yld i H x H'→gp K i1 i2 x (xC σ vs) H' fun σ2 H2=>xC σ2 vs=xC σ vs∧tt σ2 H2 fun b H3 =>
    if b=true then te σ2 H3 fun y H4=>∃ acc,H4 D=some (.lst acc)∧acc.length < sizeLine∧Nx (upd H4 D (.lst (acc++[y]))) else Nx H3):=by
 refine ⟨fun i m H=>m=xs.length - i∧i≤xs.length∧Pv i H,⟨xs.length,by simp,Nat.zero_le _,h0⟩,?_⟩
 rintro i m H ⟨rfl,hi,p⟩
 have q:=hl i H p
 by_cases hlt:i < xs.length
 ·refine .inr ⟨⟨xs,xs[i],q,by simp [hlt]⟩,Pv (i+1),fun H' p'=>⟨xs.length - (i+1),by omega,rfl,hlt,p'⟩,fun v H' y=>?_⟩
  obtain ⟨T,x,rfl,hT,rfl,y1⟩:=y
  exact ⟨T,_,rfl,SqT.of upd_same,rfl,_,_,rfl,_,_,rfl,rfl,hs i x H T (y1 xs q) p hT⟩
 ·have e:i=xs.length:=by omega
  subst e;exact .inl ⟨⟨xs,q,Nat.le_refl _⟩,hd H p⟩
theorem lc_str {x:Str}{g:TG}{tt:TT}{te:TE}{vs:List Nat}{σ:St}{H1:Hp}{D:Addr}{Qd:Hp→Prop}(Pv:Nat→Hp→Prop)(h0:Pv 0 (upd H1 D (.lst [])))
  (hs:∀ i c H,x.cps[i]? = some c→Pv i H→g (.str ⟨#[c]⟩) (xC σ vs) H fun σ2 H2=>xC σ2 vs=xC σ vs∧tt σ2 H2 fun b H3 =>
   if b=true then te σ2 H3 fun y H4=>∃ acc,H4 D=some (.lst acc)∧acc.length < sizeLine∧Pv (i+1) (upd H4 D (.lst (acc++[y]))) else Pv (i+1) H3) (hd:∀ H,Pv x.cps.size H→Qd H) :
  ∃ W:Nat→Nat→Hp→Prop,(∃ m,W 0 m (upd H1 D (.lst [])))∧∀ i m H,W i m H →
   ((Its x).stop i H∧Qd H)∨((Its x).go i H∧∃ Nx:Hp→Prop,(∀ H',Nx H'→∃ m',m' < m∧W (i+1) m' H')∧∀ v H',(Its x).yld i H v H'→g v (xC σ vs) H' fun σ2 H2=>xC σ2 vs=xC σ vs∧tt σ2 H2 fun b H3 =>
    if b=true then te σ2 H3 fun y H4=>∃ acc,H4 D=some (.lst acc)∧acc.length < sizeLine∧Nx (upd H4 D (.lst (acc++[y]))) else Nx H3):=by
 refine ⟨fun i m H=>m=x.cps.size - i∧i≤x.cps.size∧Pv i H,⟨x.cps.size,by simp,Nat.zero_le _,h0⟩,?_⟩
 rintro i m H ⟨rfl,hi,p⟩
 by_cases hlt:i < x.cps.size
 ·refine .inr ⟨hlt,Pv (i+1),fun H' p'=>⟨x.cps.size - (i+1),by omega,rfl,hlt,p'⟩,fun v H' y=>?_⟩
  obtain ⟨rfl,c,hc,rfl⟩:=y
  exact hs i c _ hc p
 ·have e:i=x.cps.size:=by omega
  subst e;exact .inl ⟨Nat.le_refl _,hd H p⟩
end L2
namespace L2
open PySem PySem.Spec PyProof.Rows
theorem lc_rng3 {lo c:Int}{n:Nat}{g:TG}{tt:TT}{te:TE}{vs:List Nat}{σ:St}{H1:Hp}{D:Addr}{Qd:Hp→Prop}(Pv:Nat→Hp→Prop)(h0:Pv 0 (upd H1 D (.lst [])))
  (hs:∀ i H,i < n→Pv i H→g (.int (lo+(i:Nat) * c)) (xC σ vs) H fun σ2 H2=>xC σ2 vs=xC σ vs∧tt σ2 H2 fun b H3 =>
   if b=true then te σ2 H3 fun y H4=>∃ acc,H4 D=some (.lst acc)∧acc.length < sizeLine∧Pv (i+1) (upd H4 D (.lst (acc++[y]))) else Pv (i+1) H3) (hd:∀ H,Pv n H→Qd H) :
  ∃ W:Nat→Nat→Hp→Prop,(∃ m,W 0 m (upd H1 D (.lst [])))∧∀ i m H,W i m H →
   ((Itc lo c n).stop i H∧Qd H)∨((Itc lo c n).go i H∧∃ Nx:Hp→Prop,(∀ H',Nx H'→∃ m',m' < m∧W (i+1) m' H')∧∀ x H',(Itc lo c n).yld i H x H'→g x (xC σ vs) H' fun σ2 H2=>xC σ2 vs=xC σ vs∧tt σ2 H2 fun b H3 =>
    if b=true then te σ2 H3 fun y H4=>∃ acc,H4 D=some (.lst acc)∧acc.length < sizeLine∧Nx (upd H4 D (.lst (acc++[y]))) else Nx H3):=by
 refine ⟨fun i m H=>m=n - i∧i≤n∧Pv i H,⟨n,by simp,Nat.zero_le _,h0⟩,?_⟩
 rintro i m H ⟨rfl,hi,p⟩
 by_cases hlt:i < n
 ·refine .inr ⟨hlt,Pv (i+1),fun H' p'=>⟨n - (i+1),by omega,rfl,hlt,p'⟩,fun x H' y=>?_⟩
  obtain ⟨rfl,rfl⟩:=y
  exact hs i _ hlt p
 ·have e:i=n:=by omega
  subst e;exact .inl ⟨Nat.le_refl _,hd H p⟩
end L2
namespace My
open PySem PySem.Spec PyProof.Rows L2
open Vbtpah (Says Log Reading Park Sensor Ride Rule Check)
structure All2 {α:Type}(R:Addr→α→Prop)(as:List Addr)(xs:List α):Prop where
 len : as.length=xs.length
 at_ : ∀ (i:Nat) (a:Addr) (x:α),as[i]? = some a→xs[i]? = some x→R a x
def KT (K:zF)(a:Addr)(xs:List V):Prop:=∃ (o:Obj) (its:Array Value) (n:Nat),K.lookup a=some o∧o.cls = .type "tuple"∧o.data = .seq its n∧its.size≤sizeLine∧Vals xs its.toList
theorem KT.sq {K:zF}{H:Hp}{a:Addr}{xs:List V}(h:KT K a xs):SqT K H a xs:=.inr h
def DefD (K:zF)(mg:Str→Option Value)(x:Str)(st:Stmt)(ps:List Str)(ds:List V):Prop :=
 ∃ (f:Addr) (fd:FuncData) (oc:Value) (od:Option Addr) (dV kV doc pm:Value) (an:Option Addr) (cdv ct:Value) (osl:Array (Option Value)),mg x=some (.ref f) ∧
  fd=PySem.W.fnOf x x (wZ st) (xP st) (zE st) dV kV doc pm an cdv ct∧K.lookup f=some ⟨oc,od,.func fd,osl⟩∧PySem.W.codeIn K cdv x=true∧PySem.W.keepIn K (.ref f)=true ∧
  ∀ n,n≤ds.length→∃ dv,Binds K fd ps dv∧Vals (ds.drop n) dv
def z9 (i:Nat):Stmt:=PySem.Challenge.pw_ridespark_s01_answers.main.body.getD i (.Pass ⟨0,0,0,0⟩)
def ranges : List (List (Int×Int)):=[[],[],[],[(1,100000)],[(1,6),(0,1000000),(0,1000)],[(1,10),(1,1000)],[(1,20),(1,40)],[(1,10),(1,40)],[(1,10),(1,40)],[(1,10),(1,40),(1,40),(1,40)],[(1,10)],[(1,250),(1,40)],[(1,10),(0,20)],[(1,40),(0,1)],[(1,10)],[(1,10),(0,1000000),(0,250)],[(1,20),(0,1000000),(0,250)],[(1,10)],[(1,10)],[(1,10)],[(0,1000000)],[],[(1,250)],[]]
structure Txt (P:Program)(w:World)(K:zF)(mg:Str→Option Value):Prop where
 g_MOST_BYTES : GI mg "MOST_BYTES" (2000)
 g_MOST_BYTE : GI mg "MOST_BYTE" (255)
 g_MOST_PEOPLE : GI mg "MOST_PEOPLE" (3)
 g_MOST_SKILLS : GI mg "MOST_SKILLS" (31)
 g_MOST_JOBS : GI mg "MOST_JOBS" (7)
 g_MOST_JOB_MINUTES : GI mg "MOST_JOB_MINUTES" (1000)
 g_MOST_SKILL : GI mg "MOST_SKILL" (4)
 g_CREW : GI mg "CREW" (21)
 g_READING : GI mg "READING" (0)
 g_RAN : GI mg "RAN" (1)
 g_CHECKED : GI mg "CHECKED" (2)
 g_LOCKED : GI mg "LOCKED" (3)
 g_UNLOCKED : GI mg "UNLOCKED" (4)
 g_FORCED : GI mg "FORCED" (5)
 g_ORDERED : GI mg "ORDERED" (6)
 g_FINISHED : GI mg "FINISHED" (7)
 g_STAFFED : GI mg "STAFFED" (8)
 g_LEFT : GI mg "LEFT" (9)
 g_CAME : GI mg "CAME" (10)
 g_NO_SUCH_LINE : GI mg "NO_SUCH_LINE" (1)
 g_WRONG_NAME : GI mg "WRONG_NAME" (2)
 g_WRONG_NUMBER : GI mg "WRONG_NUMBER" (3)
 g_TOO_MANY : GI mg "TOO_MANY" (4)
 g_MOST_SENSORS : GI mg "MOST_SENSORS" (6)
 g_MOST_RIDES : GI mg "MOST_RIDES" (10)
 g_MOST_RULES : GI mg "MOST_RULES" (20)
 g_MOST_CHECKS : GI mg "MOST_CHECKS" (20)
 g_MOST_MINUTES : GI mg "MOST_MINUTES" (1440)
 g_MOST_STAFF : GI mg "MOST_STAFF" (9)
 g_MOST_LEVEL : GI mg "MOST_LEVEL" (1000)
 g_MOST_SPAN : GI mg "MOST_SPAN" (10000)
 g_DAY : GI mg "DAY" (1440)
 g_NEVER : GI mg "NEVER" (-1)
 g_SENSOR_STALE : GI mg "SENSOR_STALE" (1)
 g_RULE_SHUT : GI mg "RULE_SHUT" (2)
 g_CHECK_DUE : GI mg "CHECK_DUE" (3)
 g_LOCK_ON : GI mg "LOCK_ON" (4)
 g_ORDER_WAITS : GI mg "ORDER_WAITS" (5)
 g_STAFF_SHORT : GI mg "STAFF_SHORT" (6)
 g_OUT_OF_RANGE : GI mg "OUT_OF_RANGE" (-1)
 g_NO_PARK : GI mg "NO_PARK" (-2)
 g_PARK_TOLD : GI mg "PARK_TOLD" (-3)
 g_ENTRIES_FULL : GI mg "ENTRIES_FULL" (-4)
 g_NO_RIDE : GI mg "NO_RIDE" (-5)
 g_NO_SENSOR : GI mg "NO_SENSOR" (-6)
 g_NO_CHECK : GI mg "NO_CHECK" (-7)
 g_TO_COME : GI mg "TO_COME" (-8)
 g_MAY_NOT_RUN : GI mg "MAY_NOT_RUN" (-9)
 g_TOO_MANY_ROUNDS : GI mg "TOO_MANY_ROUNDS" (-10)
 g_NOT_HERE_OR_HERE : GI mg "NOT_HERE_OR_HERE" (-11)
 g_LOCK_ON_OR_OFF : GI mg "LOCK_ON_OR_OFF" (-12)
 g_TEXT_WRONG : GI mg "TEXT_WRONG" (-13)
 g_NOT_TWO_OTHERS : GI mg "NOT_TWO_OTHERS" (-14)
 g_NO_ORDER : GI mg "NO_ORDER" (-15)
 g_NO_ENTRY : GI mg "NO_ENTRY" (-15)
 g_FINISHED_ALREADY : GI mg "FINISHED_ALREADY" (-16)
 g_NO_RULE : GI mg "NO_RULE" (-17)
 g_NO_WAY : GI mg "NO_WAY" (-18)
 g_FIRST_QUESTION : GI mg "FIRST_QUESTION" (14)
 g_MOST_ENTRIES : GI mg "MOST_ENTRIES" (250)
 g_LAST_MINUTE : GI mg "LAST_MINUTE" (1000000)
 g_DIGITS : GS mg "DIGITS" "0123456789"
 g_LETTERS : GS mg "LETTERS" "abcdefghijklmnopqrstuvwxyz"
 g_NAME : GS mg "NAME" "n"
 g_NUMBER : GS mg "NUMBER" "0"
 b_len : mg "len"=none
 b_range : mg "range"=none
 b_enumerate : mg "enumerate"=none
 b_zip : mg "zip"=none
 b_all : mg "all"=none
 b_any : mg "any"=none
 b_sum : mg "sum"=none
 b_max : mg "max"=none
 b_int : mg "int"=none
 b_ord : mg "ord"=none
 b_sorted : mg "sorted"=none
 c_Call : ClsOk K mg "Call" "Call.__init__" (yY (z9 20) 0) ["self","number","numbers"] ["number","numbers","rows"]
 c_Entry : ClsOk K mg "Entry" "Entry.__init__" (yY (z9 41) 0) ["self","written","kind","about","told","third","fourth"] ["written","kind","about","told","third","fourth"]
 c_Sensor : ClsOk K mg "Sensor" "Sensor.__init__" (yY (z9 60) 0) ["self","name","stale","line"] ["name","stale","line"]
 c_Ride : ClsOk K mg "Ride" "Ride.__init__" (yY (z9 61) 0) ["self","name","staff","line"] ["name","staff","line"]
 c_Rule : ClsOk K mg "Rule" "Rule.__init__" (yY (z9 62) 0) ["self","ride","sensor","shuts_above","levels","line"] ["ride","sensor","shuts_above","shut_level","fine_level","hold","line"]
 c_Check : ClsOk K mg "Check" "Check.__init__" (yY (z9 63) 0) ["self","ride","name","by_days","span","line"] ["ride","name","by_days","span","line"]
 c_Plan : ClsOk K mg "Plan" "Plan.__init__" (yY (z9 64) 0) ["self"] ["sensors","rides","rules","checks","wrong","wrong_line"]
 c_Line : ClsOk K mg "Line" "Line.__init__" (yY (z9 65) 0) ["self","text","words","marks"] ["text","words","names","numbers"]
 c_Walked : ClsOk K mg "Walked" "Walked.__init__" (yY (z9 98) 0) ["self","shut","last_bad"] ["shut","last_bad"]
 c_Park : ClsOk K mg "Park" "Park.__init__" (yY (z9 153) 0) ["self"] ["plan","minute","entries"]
 d_pairs_of : DefOk K mg "pairs_of" (z9 1) ["row"]
 d_has_skill : DefOk K mg "has_skill" (z9 2) ["skills","skill"]
 d_people_with : DefOk K mg "people_with" (z9 3) ["crew","skill"]
 d_longer_ways : DefOk K mg "longer_ways" (z9 4) ["ways","people"]
 d_all_ways : DefOk K mg "all_ways" (z9 5) ["crew","jobs"]
 d_time_taken : DefOk K mg "time_taken" (z9 6) ["way","crew","jobs"]
 d_best_way : DefOk K mg "best_way" (z9 7) ["crew","jobs"]
 d_split_calls : DefOk K mg "split_calls" (z9 21) ["calls"]
 d_are_within : DefOk K mg "are_within" (z9 22) ["numbers","least","greatest"]
 d_is_text : DefOk K mg "is_text" (z9 23) ["row"]
 d_are_skills : DefOk K mg "are_skills" (z9 24) ["row"]
 d_are_jobs : DefOk K mg "are_jobs" (z9 25) ["row"]
 d_are_rows_in_range : DefOk K mg "are_rows_in_range" (z9 26) ["call"]
 d_is_in_range : DefOk K mg "is_in_range" (z9 27) ["call"]
 d_wants_park : DefOk K mg "wants_park" (z9 28) ["call"]
 d_sign_of : DefOk K mg "sign_of" (z9 66) ["byte"]
 d_is_name : DefOk K mg "is_name" (z9 67) ["word"]
 d_is_number : DefOk K mg "is_number" (z9 68) ["word"]
 d_word_fits : DefOk K mg "word_fits" (z9 69) ["word","mark"]
 d_words_fit : DefOk K mg "words_fit" (z9 70) ["words","marks"]
 d_split_line : DefOk K mg "split_line" (z9 71) ["text"]
 d_number_of : DefOk K mg "number_of" (z9 72) ["things","name"]
 d_add_sensor : DefOk K mg "add_sensor" (z9 73) ["plan","line"]
 d_add_ride : DefOk K mg "add_ride" (z9 74) ["plan","line"]
 d_levels_are_wrong : DefOk K mg "levels_are_wrong" (z9 75) ["shuts_above","levels"]
 d_add_rule : DefOk K mg "add_rule" (z9 76) ["plan","line"]
 d_has_check : DefOk K mg "has_check" (z9 77) ["plan","ride","name"]
 d_add_check : DefOk K mg "add_check" (z9 78) ["plan","line"]
 d_add_line : DefOk K mg "add_line" (z9 80) ["plan","text"]
 d_read_plan : DefOk K mg "read_plan" (z9 81) ["text"]
 d_has_ride : DefOk K mg "has_ride" (z9 82) ["plan","ride"]
 d_plan_sizes : DefOk K mg "plan_sizes" (z9 83) ["plan"]
 d_one_form : DefOk K mg "one_form" (z9 84) ["plan"]
 d_last_made : DefOk K mg "last_made" (z9 87) ["entries","check_number"]
 d_rounds_run : DefOk K mg "rounds_run" (z9 88) ["entries","ride"]
 d_check_left : DefOk K mg "check_left" (z9 89) ["check","check_number","entries","minute"]
 d_locks_on : DefOk K mg "locks_on" (z9 90) ["entries","ride"]
 d_rides_of_orders : DefOk K mg "rides_of_orders" (z9 91) ["entries"]
 d_is_finished : DefOk K mg "is_finished" (z9 92) ["entries","order"]
 d_orders_waiting : DefOk K mg "orders_waiting" (z9 93) ["entries","ride"]
 d_staff_of : DefOk K mg "staff_of" (z9 94) ["entries","ride"]
 d_is_gone : DefOk K mg "is_gone" (z9 95) ["entries","who"]
 d_readings_of : DefOk K mg "readings_of" (z9 99) ["entries","sensor","minute"]
 d_is_bad : DefOk K mg "is_bad" (z9 100) ["rule","value"]
 d_is_fine : DefOk K mg "is_fine" (z9 101) ["rule","value"]
 d_walk_rule : DefOk K mg "walk_rule" (z9 102) ["rule","readings"]
 d_is_stale : DefOk K mg "is_stale" (z9 103) ["sensor","readings","minute"]
 d_rule_reasons : DefOk K mg "rule_reasons" (z9 111) ["plan","entries","ride","minute"]
 d_check_reasons : DefOk K mg "check_reasons" (z9 112) ["plan","entries","ride","minute"]
 d_staff_reasons : DefOk K mg "staff_reasons" (z9 113) ["plan","entries","ride"]
 d_reasons_against : DefOk K mg "reasons_against" (z9 114) ["plan","entries","ride","minute"]
 d_reasons_told : DefOk K mg "reasons_told" (z9 136) ["reasons"]
 d_list_told : DefOk K mg "list_told" (z9 137) ["numbers"]
 d_answer_why : DefOk K mg "answer_why" (z9 138) ["park","call"]
 d_answer_whythen : DefOk K mg "answer_whythen" (z9 139) ["park","call"]
 d_answer_rule : DefOk K mg "answer_rule" (z9 140) ["park","call"]
 d_answer_due : DefOk K mg "answer_due" (z9 141) ["park","call"]
 d_answer_locks : DefOk K mg "answer_locks" (z9 142) ["park","call"]
 d_answer_orders : DefOk K mg "answer_orders" (z9 143) ["park","call"]
 d_answer_openrides : DefOk K mg "answer_openrides" (z9 144) ["park","call"]
 d_answer_crew : DefOk K mg "answer_crew" (z9 145) ["park","call"]
 d_answer_entry : DefOk K mg "answer_entry" (z9 146) ["park","call"]
 d_answer_state : DefOk K mg "answer_state" (z9 147) ["park","call"]
 d_answer_question : DefOk K mg "answer_question" (z9 149) ["park","call"]
 d_has_lock : DefOk K mg "has_lock" (z9 155) ["park","ride","who"]
 d_tell_park : DefOk K mg "tell_park" (z9 156) ["park","call"]
 d_check_text : DefOk K mg "check_text" (z9 157) ["park","call"]
 d_show_park : DefOk K mg "show_park" (z9 158) ["park","call"]
 d_pass_minutes : DefOk K mg "pass_minutes" (z9 159) ["park","call"]
 d_take_reading : DefOk K mg "take_reading" (z9 160) ["park","call"]
 d_checks_let : DefOk K mg "checks_let" (z9 161) ["park","ride","rounds"]
 d_run_ride : DefOk K mg "run_ride" (z9 162) ["park","call"]
 d_make_check : DefOk K mg "make_check" (z9 163) ["park","call"]
 d_put_lock_on : DefOk K mg "put_lock_on" (z9 164) ["park","call"]
 d_take_lock_off : DefOk K mg "take_lock_off" (z9 165) ["park","call"]
 d_force_lock_off : DefOk K mg "force_lock_off" (z9 166) ["park","call"]
 d_order_work : DefOk K mg "order_work" (z9 167) ["park","call"]
 d_finish_order : DefOk K mg "finish_order" (z9 168) ["park","call"]
 d_tell_staff : DefOk K mg "tell_staff" (z9 169) ["park","call"]
 d_leave_or_come : DefOk K mg "leave_or_come" (z9 170) ["park","call"]
 d_answer_call : DefOk K mg "answer_call" (z9 172) ["park","call"]
 d_answers : DefOk K mg "answers" (z9 173) ["calls"]
 x_RANGES : ∃ a cs,mg "RANGES"=some (.ref a)∧KT K a (cs.map V.ref)∧All2 (fun c ps=>∃ ds,KT K c (ds.map V.ref)∧All2 (fun d p=>KT K d [.int p.1,.int p.2]) ds ps) cs ranges
 x_ROWS : ∃ a,mg "ROWS"=some (.ref a)∧KD P w K a [(.inl 0,.int 1),(.inl 1,.int 1),(.inl 21,.int 2)]
 x_FORMS : ∃ a,mg "FORMS"=some (.ref a)∧KT K a [.str "sensor n stale 0",.str "ride n staff 0",.str "rule n n above 0 below 0 hold 0",.str "rule n n below 0 above 0 hold 0",.str "check n n days 0",.str "check n n rounds 0"]
 x_ADDERS : ∃ a f1 f2 f3 f4,mg "ADDERS"=some (.ref a)∧KD P w K a [(.inr "sensor",.ref f1),(.inr "ride",.ref f2),(.inr "rule",.ref f3),(.inr "check",.ref f4)]∧mg "add_sensor"=some (.ref f1)∧mg "add_ride"=some (.ref f2)∧mg "add_rule"=some (.ref f3)∧mg "add_check"=some (.ref f4)
 x_HANDLERS : ∃ a fs,mg "HANDLERS"=some (.ref a)∧KT K a (fs.map V.ref)∧All2 (fun f (n:Str)=>mg n=some (.ref f)) fs ["tell_park","check_text","show_park","pass_minutes","take_reading","run_ride","make_check","put_lock_on","take_lock_off","force_lock_off","order_work","finish_order","tell_staff","leave_or_come"]
 x_ANSWERERS : ∃ a fs,mg "ANSWERERS"=some (.ref a)∧KT K a (fs.map V.ref)∧All2 (fun f (n:Str)=>mg n=some (.ref f)) fs ["answer_why","answer_whythen","answer_rule","answer_due","answer_locks","answer_orders","answer_openrides","answer_crew","answer_entry","answer_state"]
 d_write_entry : DefD K mg "write_entry" (z9 154) ["park","kind","about","told","third","fourth"] [.int 0,.int 0,.int 0]
def kd : Says→Int
 | .reading _ _ _=>0
 | .ran _ _=>1
 | .checked _ _=>2
 | .locked _ _=>3
 | .unlocked _ _=>4
 | .forced _ _ _ _=>5
 | .ordered _=>6
 | .finished _ _=>7
 | .staffed _ _=>8
 | .left _=>9
 | .came _=>10
def ab : Says→Nat
 | .reading s _ _=>s
 | .ran r _=>r
 | .checked c _=>c
 | .locked r _=>r
 | .unlocked r _=>r
 | .forced r _ _ _=>r
 | .ordered r=>r
 | .finished o _=>o
 | .staffed r _=>r
 | .left w=>w
 | .came w=>w
def td : Says→Nat
 | .reading _ m _=>m
 | .ran _ n=>n
 | .checked _ w=>w
 | .locked _ w=>w
 | .unlocked _ w=>w
 | .forced _ w _ _=>w
 | .ordered _=>0
 | .finished _ w=>w
 | .staffed _ k=>k
 | .left _=>0
 | .came _=>0
def th : Says→Nat
 | .reading _ _ v=>v
 | .forced _ _ a _=>a
 | _=>0
def fo : Says→Nat
 | .forced _ _ _ b=>b
 | _=>0
structure EntAt (K:zF)(H:Hp)(a:Addr)(e:Vbtpah.Entry):Prop where
 wr : Fld K H a "written" (.int (e.at_:Int))
 kd : Fld K H a "kind" (.int (kd e.says))
 ab : Fld K H a "about" (.int (ab e.says:Int))
 td : Fld K H a "told" (.int (td e.says:Int))
 th : Fld K H a "third" (.int (th e.says:Int))
 fo : Fld K H a "fourth" (.int (fo e.says:Int))
theorem EntAt.mono {K:zF}{H H':Hp}{a:Addr}{e:Vbtpah.Entry}(h:EntAt K H a e)(s:SameT H H'):EntAt K H' a e :=
 ⟨h.wr.mono s,h.kd.mono s,h.ab.mono s,h.td.mono s,h.th.mono s,h.fo.mono s⟩
theorem All2.mono {α:Type}{R S:Addr→α→Prop}{as:List Addr}{xs:List α}(h:All2 R as xs)(k:∀ a x,R a x→S a x):All2 S as xs:=⟨h.len,fun i a x ha hx=>k a x (h.at_ i a x ha hx)⟩
theorem All2.get {α:Type}{R:Addr→α→Prop}{as:List Addr}{xs:List α}(h:All2 R as xs){i:Nat}{x:α}(hx:xs[i]? = some x):∃ a,as[i]? = some a∧R a x:=by
 have lt:i < as.length:=by rw [h.len];exact (List.getElem?_eq_some_iff.mp hx).1
 exact ⟨as[i],by simp [lt],h.at_ i _ x (by simp [lt]) hx⟩
theorem All2.getA {α:Type}{R:Addr→α→Prop}{as:List Addr}{xs:List α}(h:All2 R as xs){i:Nat}{a:Addr}(ha:as[i]? = some a):∃ x,xs[i]? = some x∧R a x:=by
 have lt:i < xs.length:=by rw [← h.len];exact (List.getElem?_eq_some_iff.mp ha).1
 exact ⟨xs[i],by simp [lt],h.at_ i a _ ha (by simp [lt])⟩
theorem All2.snoc {α:Type}{R:Addr→α→Prop}{as:List Addr}{xs:List α}{a:Addr}{x:α}(h:All2 R as xs)(r:R a x):All2 R (as++[a]) (xs++[x]):=by
 refine ⟨by rw [List.length_append,List.length_append,h.len];rfl,fun i b y hb hy=>?_⟩
 by_cases lt:i < as.length
 ·rw [List.getElem?_append_left lt] at hb
  rw [List.getElem?_append_left (by rw [← h.len];exact lt)] at hy
  exact h.at_ i b y hb hy
 ·rw [List.getElem?_append_right (by omega)] at hb
  rw [List.getElem?_append_right (by rw [← h.len];omega)] at hy
  rw [h.len] at hb
  cases hk:i - xs.length with
  | zero=>rw [hk] at hb hy;cases hb;cases hy;exact r
  | succ n=>rw [hk] at hb;simp at hb
theorem All2.take {α:Type}{R:Addr→α→Prop}{as:List Addr}{xs:List α}(h:All2 R as xs)(k:Nat):All2 R (as.take k) (xs.take k):=by
 refine ⟨by rw [List.length_take,List.length_take,h.len],fun i b y hb hy=>?_⟩
 rw [List.getElem?_take] at hb hy
 split at hb
 ·rename_i lt
  rw [if_pos lt] at hy;exact h.at_ i b y hb hy
 ·cases hb
theorem All2.drop {α:Type}{R:Addr→α→Prop}{as:List Addr}{xs:List α}(h:All2 R as xs)(k:Nat):All2 R (as.drop k) (xs.drop k):=by
 refine ⟨by rw [List.length_drop,List.length_drop,h.len],fun i b y hb hy=>?_⟩
 rw [List.getElem?_drop] at hb hy;exact h.at_ _ b y hb hy
theorem All2.nil {α:Type}{R:Addr→α→Prop}:All2 R [] []:=⟨rfl,fun i a x h=>by simp at h⟩
theorem SqL.monoT {K:zF}{H H':Hp}{a:Addr}{xs:List V}(h:SqL K H a xs)(s:SameT H H'):SqL K H' a xs:=by
 rcases h with (h | ⟨o,h⟩) | h
 ·exact .inl (.inl (s _ _ h fun _ z=>nomatch z))
 ·exact .inl (.inr ⟨o,s _ _ h fun _ z=>nomatch z⟩)
 ·exact .inr h
theorem SqT.monoT {K:zF}{H H':Hp}{a:Addr}{xs:List V}(h:SqT K H a xs)(s:SameT H H'):SqT K H' a xs:=by
 rcases h with (h | ⟨o,h⟩) | h
 ·exact .inl (.inl (s _ _ h fun _ z=>nomatch z))
 ·exact .inl (.inr ⟨o,s _ _ h fun _ z=>nomatch z⟩)
 ·exact .inr h
def LogAt (K:zF)(H:Hp)(l:Addr)(log:Log):Prop:=∃ as:List Addr,SqL K H l (as.map V.ref)∧All2 (EntAt K H) as log
theorem LogAt.mono {K:zF}{H H':Hp}{l:Addr}{log:Log}(h:LogAt K H l log)(s:SameT H H'):LogAt K H' l log :=
 let ⟨as,h1,h2⟩:=h;⟨as,SqL.monoT h1 s,h2.mono fun _ _ q=>q.mono s⟩
theorem yB {α β:Type}{f:α→β}{l:List α}{i:Nat}{y:β}(h:(l.map f)[i]? = some y):∃ x,l[i]? = some x∧y=f x:=by
 rw [List.getElem?_map] at h
 cases e:l[i]? with
 | none=>rw [e] at h;cases h
 | some x=>rw [e] at h;exact ⟨x,rfl,(Option.some.inj h).symm⟩
theorem yE {α:Type}{l:List α}{i:Nat}{x:α}(h:l[i]? = some x):l.take (i+1)=l.take i++[x]:=by
 rw [List.take_succ,h];rfl
end My
local macro_rules | `(tactic| walk_at "rd")=>`(tactic| repeat' (first | exact rfl | (show (_:Prop);assumption) | exact Or.inr (L2.SqT.of L2.upd_same) | exact yF | (apply Exists.intro) | (refine And.intro ?_ ?_)))
namespace My
open PySem PySem.Spec PyProof.Rows L2
open Vbtpah (Says Log Reading Park Sensor Ride Rule Check)
theorem zR {b:Bool}{A B:Prop}(h:b=true→A)(h':b=false→B):if b=true then A else B:=by
 cases b
 ·exact iteF (h' rfl)
 ·exact iteT (h rfl)
theorem in2_t {k a b:Int}(h:inV (.int k) [.int a,.int b]=true):k=a∨k=b:=by
 simp [inV,eqV] at h;omega
theorem in2_f {k a b:Int}(h:inV (.int k) [.int a,.int b]=false):k≠a∧k≠b:=by
 simp [inV,eqV] at h;omega
theorem y8 {a b:Int}(h:decide (V.int a=V.int b)=true):a=b:=by
 have:=of_decide_eq_true h;exact V.int.inj this
theorem y9 {a b:Int}(h:decide (V.int a=V.int b)=false):a≠b:=by
 have:=of_decide_eq_false h;exact fun z=>this (by rw [z])
theorem decI (a b:Int):decide (V.int a=V.int b)=decide (a=b):=by
 by_cases h:a=b
 ·subst h;simp
 ·rw [decide_eq_false h,decide_eq_false fun z=>h (V.int.inj z)]
theorem upd_swap {H:Hp}{a b:Addr}{x y z:HO}(h:a≠b):upd (upd (upd H a x) b y) a z=upd (upd H a z) b y:=by
 funext c
 by_cases h1:c=a
 ·subst h1;rw [upd_same,zH h,upd_same]
 ·rw [zH h1]
  by_cases h2:c=b
  ·subst h2;rw [upd_same,upd_same]
  ·rw [zH h2,zH h2,zH h1,zH h1]
theorem uL {H H4:Hp}{D:Addr}{ys:List V}(c:Clo H)(hD:H D=none)(s:Same H H4)(e:H4 D=some (.lst ys)):Fg H H4 (upd H D (.lst ys)):=⟨(Kp.refl H).new hD,c.lstN hD,Same.at (fun b u _ z=>s b u z) e⟩
theorem gone_next (l:Log)(e:Vbtpah.Entry)(who:Nat):Vbtpah.isGone (l++[e]) who=if (kd e.says=9∨kd e.says=10)∧ab e.says=who then decide (kd e.says=9) else Vbtpah.isGone l who:=by
 rw [M.gone_snoc]
 cases e.says<;>simp [kd,ab]<;>(split<;>simp_all)
section
variable {P:Program}{w:World}{K:zF}{mg:Str→Option Value}{base:Heap}
def spGone (K:zF):Sp:=fun vs H Q _=>∃ (l:Addr) (log:Log) (who:Nat),vs=[.ref l,.int (who:Int)]∧Clo H∧LogAt K H l log∧Q (.bl (Vbtpah.isGone log who)) H
theorem sc_is_gone : zK ["entries","who","gone","entry"] ["entries","who"] (zE (z9 95)):=by walk_at "sc"
theorem x6 (T:Txt P w K mg):Dfn P w K mg base "is_gone" ["entries","who"] [] 1 (spGone K):=by
 have nd:=sc_is_gone.nd
 refine T.d_is_gone.ok sc_is_gone (fun vs H Q E h=>?_) (fun f cdv A outer s H vs Q E hr h=>?_)
 ·obtain ⟨_,_,_,rfl,_⟩:=h;rfl
 obtain ⟨l,log,who,rfl,c,⟨as,hs,ha⟩,q⟩:=h
 refine ⟨_,(zJ H (zB (zL (i:=2) nd rfl (Or.inl rfl) uU) (zB (xH PassesOwn.never rfl (vH K (pv 0)) (zV (i:=3) nd rfl (Or.inl rfl)) (zJ H (zD (zX (PW.pt (wU (zP (in_K K) (zZ K (pv 3)) (vS (zA (yW T.g_LEFT) (zA (yW T.g_CAME) zC))) (by with_unfolding_all rfl)) (wD (zP yH (zZ K (pv 3)) (pv 1) (zN _))))) (zD (zL (i:=2) nd rfl (Or.inl rfl) (yO yH (zZ K (pv 3)) (yW T.g_LEFT) (zN _)))) zM)))) (zD (zI (pv 2)))))),?_⟩
 refine ⟨_,rfl,l,rfl,⟨_,hs⟩,wC (K:=K) (a:=l) (xs:=as.map V.ref) (fun i σ H'=>∃ v g,σ=[some (.ref l),some (.int who),some (.bl g),v]∧g=Vbtpah.isGone (log.take i) who∧H'=H)
  ⟨none,_,rfl,rfl,rfl⟩ (fun i σ H' _ ⟨_,_,_,_,e⟩=>by rw [e];exact hs) ?_ ?_⟩
 ·rintro i y σ H' hi ⟨v,g,rfl,hg,rfl⟩
  obtain ⟨a,ha1,rfl⟩:=yB hi
  obtain ⟨e,he,wr,kd,ab,td,th,fo⟩:=ha.getA ha1
  have nx:=gone_next (log.take i) e who
  rw [← yE he] at nx;walk_at "rd"
  intro p hp
  have sm:Same H' (upd H' p (.tup [.int 9,.int 10])):=Same.new hp
  have kd1:=kd.mono sm.t
  have ab1:=ab.mono sm.t
  walk_at "rd"
  refine zR ?_ ?_
  ·intro h1
   walk_at "rd"
   refine zR ?_ ?_
   ·intro h2
    refine ⟨_,rfl,_,_,rfl,kd1,rfl,_,Fg.self c sm,_,_,rfl,?_,rfl⟩
    rw [nx,if_pos ⟨in2_t h1,by have:=y8 h2;omega⟩]
    exact decI _ _
   ·intro h2
    refine ⟨_,Fg.self c sm,_,_,rfl,?_,rfl⟩
    rw [nx,if_neg fun z=>by have:=y9 h2;omega]
    exact hg
  ·intro h1
   refine ⟨_,Fg.self c sm,_,_,rfl,?_,rfl⟩
   rw [nx,if_neg fun z=>by have:=in2_f h1;omega]
   exact hg
 ·rintro σ H' ⟨v,g,rfl,hg,rfl⟩
  rw [List.length_map,ha.len,List.take_length] at hg;subst hg;exact ⟨_,rfl,_,Fg.self c (Same.refl _),q⟩
theorem staff_next (l:Log)(e:Vbtpah.Entry)(r:Nat):Vbtpah.staffOf (l++[e]) r=if kd e.says=8∧ab e.says=r then td e.says else Vbtpah.staffOf l r:=by
 rw [M.staff_snoc]
 cases e.says<;>simp [kd,ab,td]
def spStaff (K:zF):Sp:=fun vs H Q _=>∃ (l:Addr) (log:Log) (r:Nat),vs=[.ref l,.int (r:Int)]∧Clo H∧LogAt K H l log∧Q (.int (Vbtpah.staffOf log r:Int)) H
theorem sc_staff_of : zK ["entries","ride","staff","entry"] ["entries","ride"] (zE (z9 94)):=by walk_at "sc"
theorem ok_staff_of (T:Txt P w K mg):Dfn P w K mg base "staff_of" ["entries","ride"] [] 1 (spStaff K):=by
 have nd:=sc_staff_of.nd
 refine T.d_staff_of.ok sc_staff_of (fun vs H Q E h=>?_) (fun f cdv A outer s H vs Q E hr h=>?_)
 ·obtain ⟨_,_,_,rfl,_⟩:=h;rfl
 obtain ⟨l,log,r,rfl,c,⟨as,hs,ha⟩,q⟩:=h
 refine ⟨_,(zJ H (zB (zL (i:=2) nd rfl (Or.inl rfl) zG) (zB (xH PassesOwn.never rfl (vH K (pv 0)) (zV (i:=3) nd rfl (Or.inl rfl)) (zJ H (zD (zX (PW.pt (wU (zP yH (zZ K (pv 3)) (yW T.g_STAFFED) (zN _)) (wD (zP yH (zZ K (pv 3)) (pv 1) (zN _))))) (zD (zL (i:=2) nd rfl (Or.inl rfl) (zZ K (pv 3)))) zM)))) (zD (zI (pv 2)))))),?_⟩
 refine ⟨_,rfl,l,rfl,⟨_,hs⟩,wC (K:=K) (a:=l) (xs:=as.map V.ref) (fun i σ H'=>∃ v g,σ=[some (.ref l),some (.int r),some (.int g),v]∧g=(Vbtpah.staffOf (log.take i) r:Int)∧H'=H)
  ⟨none,_,rfl,rfl,rfl⟩ (fun i σ H' _ ⟨_,_,_,_,e⟩=>by rw [e];exact hs) ?_ ?_⟩
 ·rintro i y σ H' hi ⟨v,g,rfl,hg,rfl⟩
  obtain ⟨a,ha1,rfl⟩:=yB hi
  obtain ⟨e,he,wr,kd,ab,td,th,fo⟩:=ha.getA ha1
  have nx:=staff_next (log.take i) e r
  rw [← yE he] at nx;walk_at "rd"
  refine zR ?_ ?_
  ·intro h1
   walk_at "rd"
   refine zR ?_ ?_
   ·intro h2
    refine ⟨_,rfl,_,_,rfl,td,_,Fg.self c (Same.refl _),_,_,rfl,?_,rfl⟩
    rw [nx,if_pos ⟨y8 h1,by have:=y8 h2;omega⟩]
   ·intro h2
    refine ⟨_,Fg.self c (Same.refl _),_,_,rfl,?_,rfl⟩
    rw [nx,if_neg fun z=>by have:=y9 h2;omega]
    exact hg
  ·intro h1
   refine ⟨_,Fg.self c (Same.refl _),_,_,rfl,?_,rfl⟩
   rw [nx,if_neg fun z=>by have:=y9 h1;omega]
   exact hg
 ·rintro σ H' ⟨v,g,rfl,hg,rfl⟩
  rw [List.length_map,ha.len,List.take_length] at hg;subst hg;exact ⟨_,rfl,_,Fg.self c (Same.refl _),q⟩
theorem made_next (l:Log)(e:Vbtpah.Entry)(n:Nat):M.lastMade (l++[e]) n=if kd e.says=2∧ab e.says=n then l.length+1 else M.lastMade l n:=by
 rw [M.lastMade_snoc];unfold M.madeAt
 cases e.says<;>simp [kd,ab]
def spMade (K:zF):Sp:=fun vs H Q _=>∃ (l:Addr) (log:Log) (n:Nat),vs=[.ref l,.int (n:Int)]∧Clo H∧LogAt K H l log∧Q (.int (M.lastMade log n:Int)) H
theorem sc_last_made : zK ["entries","check_number","made","number","entry"] ["entries","check_number"] (zE (z9 87)):=by walk_at "sc"
theorem ok_last_made (T:Txt P w K mg):Dfn P w K mg base "last_made" ["entries","check_number"] [] 1 (spMade K):=by
 have nd:=sc_last_made.nd
 refine T.d_last_made.ok sc_last_made (fun vs H Q E h=>?_) (fun f cdv A outer s H vs Q E hr h=>?_)
 ·obtain ⟨_,_,_,rfl,_⟩:=h;rfl
 obtain ⟨l,log,n,rfl,c,⟨as,hs,ha⟩,q⟩:=h
 refine ⟨_,(zJ H (zB (zL (i:=2) nd rfl (Or.inl rfl) zG) (zB (xH PassesOwn.never rfl (t7 K T.b_enumerate (zA (pv 0) zC) (vE zG uF)) (vR H (u9 K (n:=2) rfl (yA (zV (i:=3) nd rfl (Or.inl rfl)) (yA (zV (i:=4) nd rfl (Or.inl rfl)) xN)))) (zJ H (zD (zX (PW.pt (wU (zP yH (zZ K (pv 4)) (yW T.g_CHECKED) (zN _)) (wD (zP yH (zZ K (pv 4)) (pv 1) (zN _))))) (zD (zL (i:=2) nd rfl (Or.inl rfl) (pv 3))) zM)))) (zD (zI (pv 2)))))),?_⟩
 refine ⟨_,rfl,l,_,rfl,rfl,hs,wK (K:=K) (a:=l) (xs:=as.map V.ref) (fun i σ H'=>∃ v v' g,σ=[some (.ref l),some (.int n),some (.int g),v,v']∧g=(M.lastMade (log.take i) n:Int)∧H'=H)
  ⟨none,none,_,rfl,rfl,rfl⟩ (fun i σ H' _ ⟨_,_,_,_,_,e⟩=>by rw [e];exact ⟨hs,c,Kp.refl _⟩) ?_ ?_⟩
 ·rintro i y σ H' hi ⟨v,v',g,rfl,hg,rfl⟩
  obtain ⟨a,ha1,rfl⟩:=yB hi
  obtain ⟨e,he,wr,kd,ab,td,th,fo⟩:=ha.getA ha1
  have nx:=made_next (log.take i) e n
  rw [← yE he] at nx;walk_at "rd"
  refine zR ?_ ?_
  ·intro h1
   walk_at "rd"
   refine zR ?_ ?_
   ·intro h2
    refine ⟨_,rfl,_,Fg.self c (Same.refl _),_,_,_,rfl,?_,rfl⟩
    have lt:=(List.getElem?_eq_some_iff.mp he).1
    rw [nx,if_pos ⟨y8 h1,by have:=y8 h2;omega⟩,List.length_take]
    omega
   ·intro h2
    refine ⟨_,Fg.self c (Same.refl _),_,_,_,rfl,?_,rfl⟩
    rw [nx,if_neg fun z=>by have:=y9 h2;omega]
    exact hg
  ·intro h1
   refine ⟨_,Fg.self c (Same.refl _),_,_,_,rfl,?_,rfl⟩
   rw [nx,if_neg fun z=>by have:=y9 h1;omega]
   exact hg
 ·rintro σ H' ⟨v,v',g,rfl,hg,rfl⟩
  rw [List.length_map,ha.len,List.take_length] at hg;subst hg;exact ⟨_,rfl,_,Fg.self c (Same.refl _),q⟩
end
section
variable {P:Program}{w:World}{K:zF}{mg:Str→Option Value}{base:Heap}
theorem Lim.sz {α:Type}{log:List α}(h:log.length≤250):log.length≤sizeLine:=Nat.le_trans h (by decide)
def Frun (r:Nat)(e:Vbtpah.Entry):Option Int:=if kd e.says=1∧ab e.says=r then some (td e.says:Int) else none
theorem rounds_eq (r:Nat):∀ log:Log,(Vbtpah.roundsIn log r:Int)=(log.filterMap (Frun r)).sum:=by
 intro log
 unfold Vbtpah.roundsIn;rw [M.sumNat_eq]
 induction log with
 | nil=>rfl
 | cons e l ih =>
  rw [List.map_cons,List.sum_cons,List.filterMap_cons,Int.natCast_add,ih];unfold Frun
  cases e.says<;>simp [kd,ab,td]
  split<;>simp_all
def spRun (K:zF):Sp:=fun vs H Q _=>∃ (l:Addr) (log:Log) (r:Nat),vs=[.ref l,.int (r:Int)]∧Clo H∧LogAt K H l log∧log.length≤250∧Q (.int (Vbtpah.roundsIn log r:Int)) H
theorem sc_rounds_run : zK ["entries","ride","entry"] ["entries","ride"] (zE (z9 88)):=by walk_at "sc"
theorem ok_rounds_run (T:Txt P w K mg):Dfn P w K mg base "rounds_run" ["entries","ride"] [] 1 (spRun K):=by
 have nd:=sc_rounds_run.nd
 refine T.d_rounds_run.ok sc_rounds_run (fun vs H Q E h=>?_) (fun f cdv A outer s H vs Q E hr h=>?_)
 ·obtain ⟨_,_,_,rfl,_⟩:=h;rfl
 obtain ⟨l,log,r,rfl,c,⟨as,hs,ha⟩,lim,q⟩:=h
 refine ⟨_,(zJ H (zD (zI (zU (sumK K rfl) rfl T.b_sum bt_sum (zA (vA rfl nd (vH K (pv 0)) (yS (own:=[("entry",2)]) rfl) (fun _ _ _ _ _=>(zV (i:=2) nd rfl (Or.inl rfl))) (fun _ _ _ _ _=>(tZ (PW.pt (wU (zP yH (zZ K (pv 2)) (yW T.g_RAN) (zN _)) (wD (zP yH (zZ K (pv 2)) (pv 1) (zN _))))))) (fun _ _ _ _ _=>(zZ K (pv 2)))) zC))))),?_⟩
 refine ⟨_,rfl,l,rfl,⟨_,hs⟩,fun D hD=>x9 (K:=K) (xs:=as.map V.ref) (PvC (fun e=>(Frun r e).map V.int) log H D) (lc_0 hD) (fun i H' _ p=>p.1.seq hs) ?_ ?_⟩
 ·rintro i y H' hi p
  obtain ⟨a,ha1,rfl⟩:=yB hi
  obtain ⟨e,he,wr,kd,ab,td,th,fo⟩:=ha.getA ha1
  have kd1:=kd.mono p.1.t
  have ab1:=ab.mono p.1.t
  have td1:=td.mono p.1.t
  have gx:(Frun r e).map V.int=if My.kd e.says=1∧My.ab e.says=r then some (V.int (My.td e.says:Int)) else none:=by
   unfold Frun
   split<;>rfl
  walk_at "rd"
  refine zR ?_ ?_
  ·intro h1
   walk_at "rd"
   refine zR ?_ ?_
   ·intro h2
    refine ⟨_,rfl,_,_,rfl,td1,vK he (Lim.sz lim) hD p ?_ (Same.refl _)⟩
    rw [gx,if_pos ⟨y8 h1,by have:=y8 h2;omega⟩]
   ·intro h2
    refine lc_no he p ?_ (Same.refl _)
    rw [gx,if_neg fun z=>by have:=y9 h2;omega]
  ·intro h1
   refine iteF (lc_no he p ?_ (Same.refl _))
   rw [gx,if_neg fun z=>by have:=y9 h1;omega]
 ·intro H' p
  have e:=wI p (by rw [List.length_map,ha.len])
  rw [fm_map] at e;rw [rounds_eq] at q;exact ⟨_,_,rfl,SqL.of e,_,Fg.self c p.1,q⟩
abbrev vn (n:Nat):V:=.int (n:Int)
def Ford (e:Vbtpah.Entry):Option Int:=if kd e.says=6 then some (ab e.says:Int) else none
theorem orders_eq (log:Log):log.filterMap Ford=(Vbtpah.ordersIn log).map (fun (n:Nat)=>(n:Int)):=by
 induction log with
 | nil=>rfl
 | cons e l ih =>
  unfold Vbtpah.ordersIn at ih ⊢
  rw [List.filterMap_cons,List.filterMap_cons,ih];unfold Ford
  cases e.says<;>simp [kd,ab]
def spOrders (K:zF):Sp:=fun vs H Q _=>∃ (l:Addr) (log:Log),vs=[.ref l]∧Clo H∧LogAt K H l log∧log.length≤250∧∀ D,H D=none→Q (.ref D) (upd H D (.lst ((Vbtpah.ordersIn log).map vn)))
theorem sc_rides_of_orders : zK ["entries","entry"] ["entries"] (zE (z9 91)):=by walk_at "sc"
theorem xU (T:Txt P w K mg):Dfn P w K mg base "rides_of_orders" ["entries"] [] 1 (spOrders K):=by
 have nd:=sc_rides_of_orders.nd
 refine T.d_rides_of_orders.ok sc_rides_of_orders (fun vs H Q E h=>?_) (fun f cdv A outer s H vs Q E hr h=>?_)
 ·obtain ⟨_,_,rfl,_⟩:=h;rfl
 obtain ⟨l,log,rfl,c,⟨as,hs,ha⟩,lim,q⟩:=h
 refine ⟨_,(zJ H (zD (zI (vA rfl nd (vH K (pv 0)) (yS (own:=[("entry",1)]) rfl) (fun _ _ _ _ _=>(zV (i:=1) nd rfl (Or.inl rfl))) (fun _ _ _ _ _=>(tZ (zP yH (zZ K (pv 1)) (yW T.g_ORDERED) (zN _)))) (fun _ _ _ _ _=>(zZ K (pv 1))))))),?_⟩
 refine ⟨_,rfl,l,rfl,⟨_,hs⟩,fun D hD=>x9 (K:=K) (xs:=as.map V.ref) (PvC (fun e=>(Ford e).map V.int) log H D) (lc_0 hD) (fun i H' _ p=>p.1.seq hs) ?_ ?_⟩
 ·rintro i y H' hi p
  obtain ⟨a,ha1,rfl⟩:=yB hi
  obtain ⟨e,he,wr,kd,ab,td,th,fo⟩:=ha.getA ha1
  have kd1:=kd.mono p.1.t
  have ab1:=ab.mono p.1.t
  have gx:(Ford e).map V.int=if My.kd e.says=6 then some (V.int (My.ab e.says:Int)) else none:=by
   unfold Ford
   split<;>rfl
  walk_at "rd"
  refine zR ?_ ?_
  ·intro h1
   refine ⟨_,rfl,_,_,rfl,ab1,vK he (Lim.sz lim) hD p ?_ (Same.refl _)⟩
   rw [gx,if_pos (y8 h1)]
  ·intro h1
   refine lc_no he p ?_ (Same.refl _)
   rw [gx,if_neg (y9 h1)]
 ·intro H' p
  have e:=wI p (by rw [List.length_map,ha.len])
  rw [fm_map,orders_eq,List.map_map] at e;exact ⟨_,⟨(Kp.refl H).new hD,c.lstN hD,Same.at (fun b u _ z=>p.1 b u z) e⟩,q D hD⟩
theorem fin_eq (log:Log)(o:Nat):Vbtpah.isFinished log o=log.any fun e=>decide (kd e.says=7)&&decide (ab e.says=o):=by
 unfold Vbtpah.isFinished
 congr 1
 funext e
 cases e.says<;>simp [kd,ab]
 rename_i q w
 by_cases h:q=o<;>simp [h]
def spFin (K:zF):Sp:=fun vs H Q _=>∃ (l:Addr) (log:Log) (o:Nat),vs=[.ref l,.int (o:Int)]∧Clo H∧LogAt K H l log∧log.length≤250∧Q (.bl (Vbtpah.isFinished log o)) H
theorem sc_is_finished : zK ["entries","order","entry"] ["entries","order"] (zE (z9 92)):=by walk_at "sc"
theorem ok_is_finished (T:Txt P w K mg):Dfn P w K mg base "is_finished" ["entries","order"] [] 1 (spFin K):=by
 have nd:=sc_is_finished.nd
 refine T.d_is_finished.ok sc_is_finished (fun vs H Q E h=>?_) (fun f cdv A outer s H vs Q E hr h=>?_)
 ·obtain ⟨_,_,_,rfl,_⟩:=h;rfl
 obtain ⟨l,log,o,rfl,c,⟨as,hs,ha⟩,lim,q⟩:=h
 refine ⟨_,(zJ H (zD (zI (zU (anyK K rfl) rfl T.b_any bt_any (zA (vA rfl nd (vH K (pv 0)) (yS (own:=[("entry",2)]) rfl) (fun _ _ _ _ _=>(zV (i:=2) nd rfl (Or.inl rfl))) (fun _ _ _ _ _=>xY) (fun _ _ _ _ _=>(vU (yO yH (zZ K (pv 2)) (yW T.g_FINISHED) (zN _)) (vT (yO yH (zZ K (pv 2)) (pv 1) (zN _)))))) zC))))),?_⟩
 refine ⟨_,rfl,l,rfl,⟨_,hs⟩,fun D hD=>x9 (K:=K) (xs:=as.map V.ref) (PvC (fun e=>some (V.bl (decide (kd e.says=7)&&decide (ab e.says=o)))) log H D) (lc_0 hD) (fun i H' _ p=>p.1.seq hs) ?_ ?_⟩
 ·rintro i y H' hi p
  obtain ⟨a,ha1,rfl⟩:=yB hi
  obtain ⟨e,he,wr,kd,ab,td,th,fo⟩:=ha.getA ha1
  have kd1:=kd.mono p.1.t
  have ab1:=ab.mono p.1.t
  walk_at "rd"
  refine zR ?_ ?_
  ·intro h1
   refine ⟨_,rfl,_,_,rfl,ab1,_,rfl,rfl,vK he (Lim.sz lim) hD p ?_ (Same.refl _)⟩
   have z:=y8 h1
   rw [decI,z];simp
   omega
  ·intro h1
   refine vK he (Lim.sz lim) hD p ?_ (Same.refl _)
   have z:=y9 h1
   simp [z]
 ·intro H' p
  have e:=wI p (by rw [List.length_map,ha.len])
  have e2:(log.filterMap fun e=>some (V.bl (decide (kd e.says=7)&&decide (ab e.says=o))))=(log.map fun e=>(decide (kd e.says=7)&&decide (ab e.says=o))).map V.bl:=by
   rw [List.map_map];exact congrFun (List.filterMap_eq_map (f:=V.bl∘fun (e:Vbtpah.Entry)=>(decide (kd e.says=7)&&decide (ab e.says=o)))) log
  rw [e2] at e;refine ⟨_,_,rfl,SqL.of e,_,Fg.self c p.1,?_⟩
  rw [fin_eq] at q;rw [List.any_map];exact q
theorem lock_next (l:Log)(e:Vbtpah.Entry)(r:Nat):Vbtpah.locksOn (l++[e]) r=if kd e.says=3∧ab e.says=r then Vbtpah.locksOn l r++[td e.says] else
  if (kd e.says=4∨kd e.says=5)∧ab e.says=r then (Vbtpah.locksOn l r).filter (fun x=>x != td e.says) else Vbtpah.locksOn l r:=by
 rw [M.locksOn_snoc];unfold M.lockStep
 cases e.says<;>simp [kd,ab,td]
theorem lock_in {l:Log}{e:Vbtpah.Entry}{r:Nat}(h:M.EntryOk l e)(hk:kd e.says=4∨kd e.says=5)(ha:ab e.says=r):td e.says∈Vbtpah.locksOn l r:=by
 unfold M.EntryOk at h;subst ha
 cases hs:e.says<;>rw [hs] at h hk<;>simp [kd] at hk<;>simpa [ab,td] using h
theorem erase_cast (l:List Nat)(a:Nat):(l.map fun (n:Nat)=>(n:Int)).erase (a:Int)=(l.erase a).map fun (n:Nat)=>(n:Int):=by
 induction l with
 | nil=>rfl
 | cons x l ih =>
  rw [List.map_cons,List.erase_cons,List.erase_cons]
  by_cases h:x=a
  ·subst h;simp
  ·have h':¬ ((x:Int)==(a:Int))=true:=by simp;omega
   have h2:¬ (x==a)=true:=by simpa using h
   rw [if_neg h',if_neg h2,List.map_cons,ih]
def spLocks (K:zF):Sp:=fun vs H Q _=>∃ (l:Addr) (log:Log) (r:Nat),vs=[.ref l,.int (r:Int)]∧Clo H∧LogAt K H l log∧log.length≤250∧M.LogOk log∧∀ D,H D=none→Q (.ref D) (upd H D (.lst ((Vbtpah.locksOn log r).map vn)))
theorem u4 (r:Nat):∀ log:Log,(Vbtpah.locksOn log r).length≤log.length:=by
 refine M.snoc_ind (by simp [Vbtpah.locksOn]) ?_
 intro l e ih
 rw [lock_next,List.length_append];split
 ·rw [List.length_append];simp;exact ih
 ·split
  ·exact Nat.le_trans (List.length_filter_le ..) (Nat.le_trans ih (Nat.le_add_right _ _))
  ·exact Nat.le_trans ih (Nat.le_add_right _ _)
theorem sc_locks_on : zK ["entries","ride","holders","entry"] ["entries","ride"] (zE (z9 90)):=by walk_at "sc"
theorem uW (T:Txt P w K mg):Dfn P w K mg base "locks_on" ["entries","ride"] [] 1 (spLocks K):=by
 have nd:=sc_locks_on.nd
 refine T.d_locks_on.ok sc_locks_on (fun vs H Q E h=>?_) (fun f cdv A outer s H vs Q E hr h=>?_)
 ·obtain ⟨_,_,_,rfl,_⟩:=h;rfl
 obtain ⟨l,log,r,rfl,c,⟨as,hs,ha⟩,lim,ok,q⟩:=h
 refine ⟨_,(zJ H (zB (zL (i:=2) nd rfl (Or.inl rfl) (zT zC)) (zB (xH PassesOwn.never rfl (vH K (pv 0)) (zV (i:=3) nd rfl (Or.inl rfl)) (zJ H (zD (zX (PW.pt (wU (zP yH (zZ K (pv 3)) (yW T.g_LOCKED) (zN _)) (wD (zP yH (zZ K (pv 3)) (pv 1) (zN _))))) (zD (yL (bmK K PySem.F.plainAttrs_list PySem.F.slot_list_append PySem.F.type_list_append yM (pv 2) (zA (zZ K (pv 3)) zC)))) (zD (zX (PW.pt (wU (zP (in_K K) (zZ K (pv 3)) (vS (zA (yW T.g_UNLOCKED) (zA (yW T.g_FORCED) zC))) (by with_unfolding_all rfl)) (wD (zP yH (zZ K (pv 3)) (pv 1) (zN _))))) (zD (yL (bmK K PySem.F.plainAttrs_list PySem.F.slot_list_remove PySem.F.type_list_remove mt_remove (pv 2) (zA (zZ K (pv 3)) zC)))) zM)))))) (zD (zI (pv 2)))))),?_⟩
 refine ⟨yF,fun D hD=>?_⟩
 refine ⟨_,rfl,l,rfl,⟨_,(Same.new hD).seq hs⟩,wC (K:=K) (a:=l) (xs:=as.map V.ref) (fun i σ H'=>∃ v,σ=[some (.ref l),some (.int r),some (.ref D),v]∧H'=upd H D (.lst ((Vbtpah.locksOn (log.take i) r).map vn)))
  ⟨none,rfl,rfl⟩ (fun i σ H' _ ⟨_,_,e⟩=>by rw [e];exact (Same.new hD).seq hs) ?_ ?_⟩
 ·rintro i y σ H' hi ⟨v,rfl,rfl⟩
  obtain ⟨a,ha1,rfl⟩:=yB hi
  obtain ⟨e,he,E⟩:=ha.getA ha1
  have sm:Same H (upd H D (.lst ((Vbtpah.locksOn (log.take i) r).map vn))):=Same.new hD
  obtain ⟨wr,kd,ab,td,th,fo⟩:=E.mono sm.t
  have nx:=lock_next (log.take i) e r
  rw [← yE he] at nx;have lt:=(List.getElem?_eq_some_iff.mp he).1
  have len:=u4 r (log.take i)
  have eo:=ok i e he
  have nd2:=M.locks_nodup (ok.take i) r
  have atD:(upd H D (.lst ((Vbtpah.locksOn (log.take i) r).map vn))) D=some (.lst ((Vbtpah.locksOn (log.take i) r).map vn)):=upd_same
  have lt3:((Vbtpah.locksOn (log.take i) r).map vn).length < sizeLine:=by
   rw [List.length_map];have l2:(log.take i).length≤log.length:=by rw [List.length_take];omega
   have l3:(250:Nat) < sizeLine:=by decide
   omega
  walk_at "rd"
  refine zR ?_ ?_
  ·intro h1
   walk_at "rd"
   refine zR ?_ ?_
   ·intro h2
    refine ⟨_,rfl,.inl ⟨rfl,_,SqL.of atD⟩,_,rfl,_,_,rfl,td,D,_,_,rfl,rfl,atD,lt3,_,uL c hD ((Same.new hD).put hD) upd_same,_,rfl,?_⟩
    rw [nx,if_pos ⟨y8 h1,by have:=y8 h2;omega⟩,List.map_append]
    rfl
   ·intro h2
    have nn:¬ (My.kd e.says=3∧My.ab e.says=r):=fun z=>by have:=y9 h2;omega
    rw [if_neg nn] at nx;walk_at "rd"
    intro p hp
    have nDp:D≠p:=zO atD hp
    have sp:Same (upd H D (.lst ((Vbtpah.locksOn (log.take i) r).map vn))) (upd (upd H D (.lst ((Vbtpah.locksOn (log.take i) r).map vn))) p (.tup [.int 4,.int 5])):=Same.new hp
    have kd1:=kd.mono sp.t
    have ab1:=ab.mono sp.t
    have td1:=td.mono sp.t
    have atD1:=sp _ _ atD
    walk_at "rd"
    refine zR ?_ ?_
    ·intro g1
     walk_at "rd"
     refine zR ?_ ?_
     ·intro g2
      have mem:=lock_in eo (in2_t g1) (show My.ab e.says=r by have:=y8 g2;omega)
      have ei:(Vbtpah.locksOn (log.take i) r).map vn=((Vbtpah.locksOn (log.take i) r).map fun (n:Nat)=>(n:Int)).map V.int:=by rw [List.map_map];rfl
      have atD2:=atD1.trans (congrArg (fun z=>some (HO.lst z)) ei)
      refine ⟨_,rfl,.inl ⟨rfl,_,SqL.of atD1⟩,_,rfl,_,_,rfl,td1,D,((Vbtpah.locksOn (log.take i) r).map fun (n:Nat)=>(n:Int)),_,rfl,rfl,atD2,List.mem_map_of_mem mem,_,uL c hD ((sm.trans sp).put hD) upd_same,_,rfl,?_⟩
      rw [nx,if_pos ⟨in2_t g1,by have:=y8 g2;omega⟩,erase_cast,M.erase_is_filter nd2,List.map_map]
      rfl
     ·intro g2
      refine ⟨_,uL c hD (sm.trans sp) atD1,_,rfl,?_⟩
      rw [nx,if_neg fun z=>by have:=y9 g2;omega]
    ·intro g1
     refine ⟨_,uL c hD (sm.trans sp) atD1,_,rfl,?_⟩
     rw [nx,if_neg fun z=>by have:=in2_f g1;omega]
  ·intro h1
   have nn:¬ (My.kd e.says=3∧My.ab e.says=r):=fun z=>by have:=y9 h1;omega
   rw [if_neg nn] at nx;walk_at "rd"
   intro p hp
   have nDp:D≠p:=zO atD hp
   have sp:Same (upd H D (.lst ((Vbtpah.locksOn (log.take i) r).map vn))) (upd (upd H D (.lst ((Vbtpah.locksOn (log.take i) r).map vn))) p (.tup [.int 4,.int 5])):=Same.new hp
   have kd1:=kd.mono sp.t
   have ab1:=ab.mono sp.t
   have td1:=td.mono sp.t
   have atD1:=sp _ _ atD
   walk_at "rd"
   refine zR ?_ ?_
   ·intro g1
    walk_at "rd"
    refine zR ?_ ?_
    ·intro g2
     have mem:=lock_in eo (in2_t g1) (show My.ab e.says=r by have:=y8 g2;omega)
     have ei:(Vbtpah.locksOn (log.take i) r).map vn=((Vbtpah.locksOn (log.take i) r).map fun (n:Nat)=>(n:Int)).map V.int:=by rw [List.map_map];rfl
     have atD2:=atD1.trans (congrArg (fun z=>some (HO.lst z)) ei)
     refine ⟨_,rfl,.inl ⟨rfl,_,SqL.of atD1⟩,_,rfl,_,_,rfl,td1,D,((Vbtpah.locksOn (log.take i) r).map fun (n:Nat)=>(n:Int)),_,rfl,rfl,atD2,List.mem_map_of_mem mem,_,uL c hD ((sm.trans sp).put hD) upd_same,_,rfl,?_⟩
     rw [nx,if_pos ⟨in2_t g1,by have:=y8 g2;omega⟩,erase_cast,M.erase_is_filter nd2,List.map_map]
     rfl
    ·intro g2
     refine ⟨_,uL c hD (sm.trans sp) atD1,_,rfl,?_⟩
     rw [nx,if_neg fun z=>by have:=y9 g2;omega]
   ·intro g1
    refine ⟨_,uL c hD (sm.trans sp) atD1,_,rfl,?_⟩
    rw [nx,if_neg fun z=>by have:=in2_f g1;omega]
 ·rintro σ H' ⟨v,rfl,rfl⟩
  rw [List.length_map,ha.len,List.take_length];exact ⟨_,rfl,_,⟨(Kp.refl H).new hD,c.lstN hD,Same.refl _⟩,q D hD⟩
def wF (log:Log)(r:Nat)(os:List Nat):List Nat:=(os.zipIdx 1).filterMap fun x=>if x.1=r∧Vbtpah.isFinished log x.2=false then some x.2 else none
theorem wait_eq (log:Log)(r:Nat):Vbtpah.openOrders log r=wF log r (Vbtpah.ordersIn log):=rfl
theorem wait_snoc (log:Log)(r:Nat)(os:List Nat)(x:Nat):wF log r (os++[x])=if x=r∧Vbtpah.isFinished log (os.length+1)=false then wF log r os++[os.length+1] else wF log r os:=by
 unfold wF;rw [List.zipIdx_append,List.filterMap_append];simp only [List.zipIdx_cons,List.zipIdx_nil,List.filterMap_cons,List.filterMap_nil];rw [Nat.add_comm 1 os.length]
 by_cases h:x=r∧Vbtpah.isFinished log (os.length+1)=false
 ·rw [if_pos h,if_pos h]
 ·rw [if_neg h,if_neg h,List.append_nil]
theorem tY (log:Log)(r:Nat)(os:List Nat):(wF log r os).length≤os.length:=by
 unfold wF;refine Nat.le_trans (List.length_filterMap_le ..) ?_
 rw [List.length_zipIdx];exact Nat.le_refl _
theorem ord_len (log:Log):(Vbtpah.ordersIn log).length≤log.length:=List.length_filterMap_le ..
def spWait (K:zF):Sp:=fun vs H Q _=>∃ (l:Addr) (log:Log) (r:Nat),vs=[.ref l,.int (r:Int)]∧Clo H∧LogAt K H l log∧log.length≤250∧∀ D,H D=none→Q (.ref D) (upd H D (.lst ((Vbtpah.openOrders log r).map vn)))
theorem sc_orders_waiting : zK ["entries","ride","waiting","order","ordered_for"] ["entries","ride"] (zE (z9 93)):=by walk_at "sc"
theorem ok_orders_waiting (T:Txt P w K mg):Dfn P w K mg base "orders_waiting" ["entries","ride"] [] 2 (spWait K):=by
 have nd:=sc_orders_waiting.nd
 refine T.d_orders_waiting.ok sc_orders_waiting (fun vs H Q E h=>?_) (fun f cdv A outer s H vs Q E hr h=>?_)
 ·obtain ⟨_,_,_,rfl,_⟩:=h;rfl
 obtain ⟨l,log,r,rfl,c,la,lim,q⟩:=h
 refine ⟨_,(zJ H (zB (zL (i:=2) nd rfl (Or.inl rfl) (zT zC)) (zB (xH PassesOwn.never rfl (t7 K T.b_enumerate (zA (zS (xU T) (hr.mono (by decide)) (zA (pv 0) zC)) zC) (vE zG uF)) (vR H (u9 K (n:=2) rfl (yA (zV (i:=3) nd rfl (Or.inl rfl)) (yA (zV (i:=4) nd rfl (Or.inl rfl)) xN)))) (zJ H (zD (zX (PW.pt (wU (zP yH (pv 4) (pv 1) (zN _)) (wD (xG (yC (zS (ok_is_finished T) (hr.mono (by decide)) (zA (pv 0) (zA (pv 3) zC)))))))) (zD (yL (bmK K PySem.F.plainAttrs_list PySem.F.slot_list_append PySem.F.type_list_append yM (pv 2) (zA (pv 3) zC)))) zM)))) (zD (zI (pv 2)))))),?_⟩
 refine ⟨yF,fun W hW=>?_⟩
 have lW:LogAt K (upd H W (.lst [])) l log:=la.mono (Same.new hW).t
 refine ⟨_,rfl,l,log,rfl,c.lstN hW,lW,lim,fun D hD=>?_⟩
 have nWD:W≠D:=zO upd_same hD
 have hD0:H D=none:=by rw [zH nWD.symm] at hD;exact hD
 refine ⟨D,_,rfl,rfl,SqL.of upd_same,wK (K:=K) (a:=D) (xs:=(Vbtpah.ordersIn log).map vn) (fun i σ H'=>∃ v v',σ=[some (.ref l),some (.int r),some (.ref W),v,v']∧H'=upd (upd H W (.lst ((wF log r ((Vbtpah.ordersIn log).take i)).map vn))) D (.lst ((Vbtpah.ordersIn log).map vn)))
  ⟨none,none,rfl,rfl⟩ (fun i σ H' _ ⟨_,_,_,e⟩=>?_) ?_ ?_⟩
 ·subst e
  have hD1:(upd H W (.lst ((wF log r ((Vbtpah.ordersIn log).take i)).map vn))) D=none:=by rw [zH nWD.symm];exact hD0
  exact ⟨SqL.of upd_same,(c.lstN hW).lstN hD1,((Kp.refl H).new hW).new hD1⟩
 ·rintro i y σ H' hi ⟨v,v',rfl,rfl⟩
  obtain ⟨x,hx,rfl⟩:=yB hi
  have lt:=(List.getElem?_eq_some_iff.mp hx).1
  have hD1:(upd H W (.lst ((wF log r ((Vbtpah.ordersIn log).take i)).map vn))) D=none:=by rw [zH nWD.symm];exact hD0
  have sm:Same H (upd (upd H W (.lst ((wF log r ((Vbtpah.ordersIn log).take i)).map vn))) D (.lst ((Vbtpah.ordersIn log).map vn))):=(Same.new hW).put hD0
  have nx:=wait_snoc log r ((Vbtpah.ordersIn log).take i) x
  rw [← yE hx] at nx;have li:((Vbtpah.ordersIn log).take i).length=i:=by rw [List.length_take];omega
  rw [li] at nx;have c1:Clo (upd (upd H W (.lst ((wF log r ((Vbtpah.ordersIn log).take i)).map vn))) D (.lst ((Vbtpah.ordersIn log).map vn))):=(c.lstN hW).lstN hD1
  have atW:(upd (upd H W (.lst ((wF log r ((Vbtpah.ordersIn log).take i)).map vn))) D (.lst ((Vbtpah.ordersIn log).map vn))) W=some (.lst ((wF log r ((Vbtpah.ordersIn log).take i)).map vn)):=by rw [zH nWD];exact upd_same
  have k1:Kp H (upd (upd H W (.lst ((wF log r ((Vbtpah.ordersIn log).take i)).map vn))) D (.lst ((Vbtpah.ordersIn log).map vn))):=((Kp.refl H).new hW).new hD1
  walk_at "rd"
  refine zR ?_ ?_
  ·intro h1
   have z1:=y8 h1
   refine ⟨_,rfl,_,rfl,l,log,i+1,rfl,c1,la.mono sm.t,lim,_,rfl,?_⟩
   refine zR ?_ ?_
   ·intro h2
    have z2:Vbtpah.isFinished log (i+1)=false:=by simpa using h2
    rw [if_pos ⟨by omega,z2⟩] at nx;refine ⟨_,rfl,.inl ⟨rfl,_,SqL.of atW⟩,_,rfl,W,_,_,rfl,rfl,atW,?_,_,⟨k1.lst atW,c1.lstU atW,Same.refl _⟩,_,_,rfl,?_⟩
    ·rw [List.length_map]
     have l1:=tY log r ((Vbtpah.ordersIn log).take i)
     have l2:=ord_len log
     have l3:(250:Nat) < sizeLine:=by decide
     omega
    ·rw [nx,List.map_append,upd_swap nWD]
     rfl
   ·intro h2
    have z2:Vbtpah.isFinished log (i+1)=true:=by simpa using h2
    rw [if_neg (fun z=>by rw [z2] at z;cases z.2)] at nx
    refine ⟨_,⟨k1,c1,Same.refl _⟩,_,_,rfl,?_⟩
    rw [nx]
  ·intro h1
   have z1:=y9 h1
   rw [if_neg (fun z=>by omega)] at nx;refine ⟨_,⟨k1,c1,Same.refl _⟩,_,_,rfl,?_⟩
   rw [nx]
 ·rintro σ H' ⟨v,v',rfl,rfl⟩
  rw [List.length_map,List.take_length];exact ⟨_,rfl,_,uL c hW ((Same.new hW).put hD0) (by rw [zH nWD];exact upd_same),q W hW⟩
theorem cut_from (xs:List V)(k:Nat):tU xs (some (k:Int)) none=xs.drop k:=by
 unfold tU;rw [HT.sIx_nat,HT.sIx_none]
 by_cases h:k≤xs.length
 ·rw [Nat.min_eq_left h,List.take_of_length_le (by rw [List.length_drop];omega)]
 ·rw [Nat.min_eq_right (by omega),List.drop_of_length_le (Nat.le_refl _),List.drop_of_length_le (by omega)]
  simp
theorem cut_to (xs:List V)(k:Nat):tU xs none (some (k:Int))=xs.take k:=by
 unfold tU;rw [HT.sIx_nat,HT.sIx_none,List.drop_zero,Nat.sub_zero]
 by_cases h:k≤xs.length
 ·rw [Nat.min_eq_left h]
 ·rw [Nat.min_eq_right (by omega),List.take_of_length_le (Nat.le_refl _),List.take_of_length_le (by omega)]
structure ChkAt (K:zF)(H:Hp)(a:Addr)(k:Check):Prop where
 ri : Fld K H a "ride" (.int (k.ride:Int))
 nm : Fld K H a "name" (.str ⟨k.name.toArray⟩)
 bd : Fld K H a "by_days" (.bl k.byDays)
 sp : Fld K H a "span" (.int (k.every:Int))
theorem ChkAt.mono {K:zF}{H H':Hp}{a:Addr}{k:Check}(h:ChkAt K H a k)(s:SameT H H'):ChkAt K H' a k:=⟨h.ri.mono s,h.nm.mono s,h.bd.mono s,h.sp.mono s⟩
def spLeft (K:zF):Sp:=fun vs H Q _=>∃ (a l:Addr) (k:Check) (n t:Nat) (log:Log),vs=[.ref a,.int (n:Int),.ref l,.int (t:Int)]∧Clo H∧ChkAt K H a k∧LogAt K H l log∧log.length≤250∧Q (.int (Vbtpah.leftOf k log n t:Int)) H
theorem max0 (x:Int):(if x > 0 then x else 0)=((x.toNat:Nat):Int):=by split<;>omega
theorem sc_check_left : zK ["check","check_number","entries","minute","made","left"] ["check","check_number","entries","minute"] (zE (z9 89)):=by walk_at "sc"
theorem vV (T:Txt P w K mg):Dfn P w K mg base "check_left" ["check","check_number","entries","minute"] [] 2 (spLeft K):=by
 have nd:=sc_check_left.nd
 refine T.d_check_left.ok sc_check_left (fun vs H Q E h=>?_) (fun f cdv A outer s H vs Q E hr h=>?_)
 ·obtain ⟨_,_,_,_,_,_,rfl,_⟩:=h;rfl
 obtain ⟨a,l,k,n,t,log,rfl,c,⟨ri,nm,bd,sp⟩,la,lim,q⟩:=h
 refine ⟨_,(zJ H (zB (zL (i:=4) nd rfl (Or.inl rfl) (zS (ok_last_made T) (hr.mono (by decide)) (zA (pv 2) (zA (pv 1) zC)))) (zB (zX (zP yH (pv 4) zG (zN _)) (zD (zI zG)) zM) (zB (zX (yC (zZ K (pv 0))) (zD (zL (i:=5) nd rfl (Or.inl rfl) (yG wQ (yG vJ (yG op_fdiv (zZ K (zY (yI K) (pv 2) (yG wQ (pv 4) zG) (fun _ _=>rfl))) (yW T.g_DAY)) (zZ K (pv 0))) (yG op_fdiv (pv 3) (yW T.g_DAY))))) (zD (zL (i:=5) nd rfl (Or.inl rfl) (yG wQ (zZ K (pv 0)) (zS (ok_rounds_run T) (hr.mono (by decide)) (zA (uR (slK K) (pv 2) (uE (pv 4)) po_none) (zA (zZ K (pv 0)) zC))))))) (zD (zI (zU (call_max2 rfl) rfl T.b_max bt_max (zA zG (zA (pv 5) zC))))))))),?_⟩
 rw [M.leftOf_eq] at q;have le:=M.lastMade_le log n
 refine ⟨_,rfl,_,rfl,l,log,n,rfl,c,la,?_⟩
 walk_at "rd"
 refine zR ?_ ?_
 ·intro h1
  have z:=y8 h1
  rw [if_pos (by omega)] at q;exact ⟨_,Fg.self c (Same.refl _),q⟩
 ·intro h1
  have z:=y9 h1
  rw [if_neg (by omega)] at q;walk_at "rd"
  refine zR ?_ ?_
  ·intro h2
   rw [if_pos h2] at q;obtain ⟨as,hs,ha⟩:=la
   obtain ⟨e,he⟩:∃ e,log[M.lastMade log n - 1]? = some e:=⟨log[M.lastMade log n - 1]'(by omega),by rw [List.getElem?_eq_getElem (by omega)]⟩
   obtain ⟨b,hb,E⟩:=ha.get he
   rw [he] at q;have at1:yZ (as.map V.ref) ((M.lastMade log n:Int) - 1)=some (V.ref b):=at_of (j:=M.lastMade log n - 1) (by omega) (by rw [List.getElem?_map,hb];rfl)
   have wr:=E.wr
   have d1:(0:Int) < 1440:=by decide
   have d2:(1440:Int) < 1073741824:=by decide
   walk_at "rd"
   ·exact Fg.self c (Same.refl _)
   ·show Q (V.int _) H
    rw [max0];have e2:((e.at_:Int) / 1440+(k.every:Int) - (t:Int) / 1440).toNat=e.at_ / Vbtpah.DAY+k.every - t / Vbtpah.DAY:=by
     unfold Vbtpah.DAY;omega
    rw [e2];exact q
  ·intro h2
   rw [if_neg (by rw [h2];exact Bool.false_ne_true)] at q
   obtain ⟨as,hs,ha⟩:=la
   walk_at "rd"
   intro p hp
   have sm:=Same.new (o:=HO.lst (tU (as.map V.ref) (some (M.lastMade log n:Int)) none)) hp
   have cu:tU (as.map V.ref) (some (M.lastMade log n:Int)) none=(as.drop (M.lastMade log n)).map V.ref:=by rw [cut_from,List.map_drop]
   have la2:LogAt K (upd H p (.lst (tU (as.map V.ref) (some (M.lastMade log n:Int)) none))) p (log.drop (M.lastMade log n)):=by
    refine ⟨as.drop (M.lastMade log n),?_,(ha.drop _).mono fun _ _ z=>z.mono sm.t⟩
    rw [← cu];exact SqL.of upd_same
   have ri1:=ri.mono sm.t
   refine ⟨_,rfl,_,_,rfl,ri1,p,log.drop (M.lastMade log n),k.ride,rfl,c.lstN hp,la2,by rw [List.length_drop];omega,?_⟩
   walk_at "rd"
   ·exact Fg.self c sm
   ·show Q (V.int _) H
    rw [max0];have e2:((k.every:Int) - (Vbtpah.roundsIn (log.drop (M.lastMade log n)) k.ride:Int)).toNat=k.every - Vbtpah.roundsIn (log.drop (M.lastMade log n)) k.ride:=by omega
    rw [e2];exact q
end
end My
namespace My
open PySem PySem.Spec PyProof.Rows L2
open Vbtpah (Says Log Reading Park Sensor Ride Rule Check)
def xJ : List Str→List V→List (Str×V)→List (Str×V)
 | f::fs,v::vs,acc=>xJ fs vs (xR f v acc)
 | _,_,acc=>acc
def tD (names:List Str)(C:Addr):Sp:=fun vs H Q _=>∃ (x dx:Addr) (args:List V),vs = .ref x::args∧args.length=names.length∧Clo H∧H x=some (.ins C dx [])∧Q .non (upd H x (.ins C dx (xJ names args [])))
structure RuleAt (K:zF)(H:Hp)(a:Addr)(r:Rule):Prop where
 ri : Fld K H a "ride" (.int (r.ride:Int))
 se : Fld K H a "sensor" (.int (r.sensor:Int))
 up : Fld K H a "shuts_above" (.bl r.up)
 off : Fld K H a "shut_level" (.int (r.off:Int))
 on : Fld K H a "fine_level" (.int (r.on:Int))
 ho : Fld K H a "hold" (.int (r.hold:Int))
theorem RuleAt.mono {K:zF}{H H':Hp}{a:Addr}{k:Rule}(h:RuleAt K H a k)(s:SameT H H'):RuleAt K H' a k:=⟨h.ri.mono s,h.se.mono s,h.up.mono s,h.off.mono s,h.on.mono s,h.ho.mono s⟩
def uN (K:zF)(H:Hp)(t:Addr)(r:Reading):Prop:=SqT K H t [.int (r.minute:Int),.int (r.value:Int)]
def RdsAt (K:zF)(H:Hp)(l:Addr)(rs:List Reading):Prop:=∃ ts:List Addr,SqL K H l (ts.map V.ref)∧All2 (uN K H) ts rs
section
variable {P:Program}{w:World}{K:zF}{mg:Str→Option Value}{base:Heap}
def spBad (K:zF):Sp:=fun vs H Q _=>∃ (a:Addr) (r:Rule) (v:Nat),vs=[.ref a,.int (v:Int)]∧Clo H∧RuleAt K H a r∧Q (.bl (Vbtpah.bad r v)) H
def spFine (K:zF):Sp:=fun vs H Q _=>∃ (a:Addr) (r:Rule) (v:Nat),vs=[.ref a,.int (v:Int)]∧Clo H∧RuleAt K H a r∧Q (.bl (Vbtpah.fine r v)) H
theorem decLe (a b:Nat):decide ((a:Int)≤(b:Int))=decide (a≤b):=by
 by_cases h:a≤b
 ·rw [decide_eq_true h,decide_eq_true (by omega)]
 ·rw [decide_eq_false h,decide_eq_false (by omega)]
theorem tJ (a b:Nat):decide ((a:Int) < (b:Int))=decide (a < b):=by
 by_cases h:a < b
 ·rw [decide_eq_true h,decide_eq_true (by omega)]
 ·rw [decide_eq_false h,decide_eq_false (by omega)]
theorem sc_is_bad : zK ["rule","value"] ["rule","value"] (zE (z9 100)):=by walk_at "sc"
theorem ok_is_bad (T:Txt P w K mg):Dfn P w K mg base "is_bad" ["rule","value"] [] 1 (spBad K):=by
 have nd:=sc_is_bad.nd
 refine T.d_is_bad.ok sc_is_bad (fun vs H Q E h=>?_) (fun f cdv A outer s H vs Q E hr h=>?_)
 ·obtain ⟨_,_,_,rfl,_⟩:=h;rfl
 obtain ⟨a,r,v,rfl,c,⟨ri,se,up,off,on,ho⟩,q⟩:=h
 refine ⟨_,(zJ H (zB (zX (yC (zZ K (pv 0))) (zD (zI (yO t5 (pv 1) (zZ K (pv 0)) (zN _)))) zM) (zD (zI (yO wJ (pv 1) (zZ K (pv 0)) (zN _)))))),?_⟩
 unfold Vbtpah.bad at q;walk_at "rd"
 refine zR ?_ ?_
 ·intro h1
  rw [if_pos h1,← decLe] at q;walk_at "rd"
  exact Fg.self c (Same.refl _)
 ·intro h1
  rw [if_neg (by rw [h1];exact Bool.false_ne_true),← decLe] at q
  walk_at "rd"
  exact Fg.self c (Same.refl _)
theorem sc_is_fine : zK ["rule","value"] ["rule","value"] (zE (z9 101)):=by walk_at "sc"
theorem ok_is_fine (T:Txt P w K mg):Dfn P w K mg base "is_fine" ["rule","value"] [] 1 (spFine K):=by
 have nd:=sc_is_fine.nd
 refine T.d_is_fine.ok sc_is_fine (fun vs H Q E h=>?_) (fun f cdv A outer s H vs Q E hr h=>?_)
 ·obtain ⟨_,_,_,rfl,_⟩:=h;rfl
 obtain ⟨a,r,v,rfl,c,⟨ri,se,up,off,on,ho⟩,q⟩:=h
 refine ⟨_,(zJ H (zB (zX (yC (zZ K (pv 0))) (zD (zI (yO wJ (pv 1) (zZ K (pv 0)) (zN _)))) zM) (zD (zI (yO t5 (pv 1) (zZ K (pv 0)) (zN _)))))),?_⟩
 unfold Vbtpah.fine at q;walk_at "rd"
 refine zR ?_ ?_
 ·intro h1
  rw [if_pos h1,← decLe] at q;walk_at "rd"
  exact Fg.self c (Same.refl _)
 ·intro h1
  rw [if_neg (by rw [h1];exact Bool.false_ne_true),← decLe] at q
  walk_at "rd"
  exact Fg.self c (Same.refl _)
theorem sc_Walked : zK ["self","shut","last_bad"] ["self","shut","last_bad"] (zE (yY (z9 98) 0)):=by walk_at "sc"
theorem mk_Walked (T:Txt P w K mg):∃ C,Mkr P w K mg base "Walked" C ["self","shut","last_bad"] 1 ((tD ["shut","last_bad"]) C)∧Cls K C∧∀ y∈(["shut","last_bad"]:List Str),NoAttr K C y:=by
 have nd:=sc_Walked.nd
 refine ClsOk.ok (P:=P) (w:=w) (base:=base) (k:=0) (sp:=(tD ["shut","last_bad"])) T.c_Walked sc_Walked (fun C vs H Q E h=>?_) (fun C f cdv A outer s H vs Q E cl na hr h=>?_)
 ·obtain ⟨x,dx,args,rfl,hl,_⟩:=h;simpa using hl
 obtain ⟨x,dx,args,rfl,hl,c,hx,q⟩:=h
 obtain ⟨v1,v2,rfl⟩:=lw2 (show args.length=2 from hl)
 refine ⟨_,(zJ H (zB (xB K (pv 0) (pv 1)) (zD (xB K (pv 0) (pv 2))))),?_⟩
 have n1:=na "shut" (by simp)
 have n2:=na "last_bad" (by simp)
 refine ⟨_,rfl,_,rfl,x,C,dx,_,rfl,hx,cl,n1,yF,?_⟩
 refine ⟨_,rfl,_,rfl,x,C,dx,_,rfl,upd_same,cl,n2,yF,?_⟩
 rw [yQ];exact ⟨_,⟨(Kp.refl H).ins hx,c.insU hx,Same.refl _⟩,q⟩
def uM : Option Nat→Int
 | none=>-1
 | some m=>(m:Int)
theorem xZ {H:Hp}{x dx C:Addr}{fs:List (Str×V)}(hx:H x=none)(hd:H dx=none):Same H (upd (upd H dx (.own x)) x (.ins C dx fs)):=(Same.new hd).put hx
theorem turn_not {r:Rule}(w:Vbtpah.Switch){x:Reading}(h:Vbtpah.bad r x.value=false):(Vbtpah.turn r w x).last=w.last ∧
  (Vbtpah.turn r w x).shut=if Vbtpah.fine r x.value=true∧(w.last.all fun m=>decide (m+r.hold≤x.minute))=true then false else w.shut:=by
 unfold Vbtpah.turn;rw [if_neg (by rw [h];exact Bool.false_ne_true)]
 by_cases h1:Vbtpah.fine r x.value=true∧(w.last.all fun m=>decide (m+r.hold≤x.minute))=true
 ·rw [if_pos h1]
  by_cases h2:w.shut=true
  ·rw [if_pos ⟨h2,h1⟩];exact ⟨rfl,rfl⟩
  ·rw [if_neg fun z=>h2 z.1]
   exact ⟨rfl,by simpa using h2⟩
 ·rw [if_neg h1,if_neg fun z=>h1 z.2]
  exact ⟨rfl,rfl⟩
theorem last_none {o:Option Nat}{h m:Nat}(e:uM o = -1):(o.all fun k=>decide (k+h≤m))=true:=by
 cases o with
 | none=>rfl
 | some k =>
  have : uM (some k)=(k:Int):=rfl
  rw [this] at e;omega
theorem last_some {o:Option Nat}{h m:Nat}(e:uM o≠-1)(g:(h:Int)≤(m:Int) - uM o):(o.all fun k=>decide (k+h≤m))=true:=by
 cases o with
 | none=>exact absurd rfl e
 | some k =>
  have : uM (some k)=(k:Int):=rfl
  rw [this] at g;simp;omega
theorem last_not {o:Option Nat}{h m:Nat}(e:uM o≠-1)(g:¬ (h:Int)≤(m:Int) - uM o)(z:(o.all fun k=>decide (k+h≤m))=true):False:=by
 cases o with
 | none=>exact absurd rfl e
 | some k =>
  have : uM (some k)=(k:Int):=rfl
  rw [this] at g;simp at z;omega
theorem at_last {α:Type}{xs:List α}{v:α}(h:xs[xs.length - 1]? = some v):yZ xs (-1)=some v:=by
 have lt:=(List.getElem?_eq_some_iff.mp h).1
 unfold yZ ixN;rw [if_neg (by omega),if_pos (by omega)];show xs[(-1+(xs.length:Int)).toNat]? = some v
 rw [show (-1+(xs.length:Int)).toNat=xs.length - 1 by omega];exact h
def spWalk (K:zF):Sp:=fun vs H Q _=>∃ (a l:Addr) (r:Rule) (rs:List Reading),vs=[.ref a,.ref l]∧Clo H∧RuleAt K H a r∧RdsAt K H l rs ∧
 ∀ H' x,Same H H'→Clo H'→Fld K H' x "shut" (.bl (Vbtpah.switchOf r rs).shut)→Fld K H' x "last_bad" (.int (uM (Vbtpah.switchOf r rs).last))→Q (.ref x) H'
theorem sc_walk_rule : zK ["rule","readings","shut","last_bad","minute","value"] ["rule","readings"] (zE (z9 102)):=by walk_at "sc"
theorem ok_walk_rule (T:Txt P w K mg):Dfn P w K mg base "walk_rule" ["rule","readings"] [] 3 (spWalk K):=by
 have nd:=sc_walk_rule.nd
 refine T.d_walk_rule.ok sc_walk_rule (fun vs H Q E h=>?_) (fun f cdv A outer s H vs Q E hr h=>?_)
 ·obtain ⟨_,_,_,_,rfl,_⟩:=h;rfl
 obtain ⟨a,l,r,rs,rfl,c,ra,⟨ts,hs,ht⟩,q⟩:=h
 obtain ⟨C_Walked,M_Walked,cl,na⟩:=mk_Walked (P:=P) (w:=w) (base:=base) T
 refine ⟨_,(zJ H (zB (zL (i:=2) nd rfl (Or.inl rfl) uU) (zB (zL (i:=3) nd rfl (Or.inl rfl) (yW T.g_NEVER)) (zB (xH PassesOwn.never rfl (vH K (pv 1)) (u9 K (n:=2) rfl (yA (zV (i:=4) nd rfl (Or.inl rfl)) (yA (zV (i:=5) nd rfl (Or.inl rfl)) xN))) (zJ H (zD (zX (yC (zS (ok_is_bad T) (hr.mono (by decide)) (zA (pv 0) (zA (pv 5) zC)))) (zB (zL (i:=2) nd rfl (Or.inl rfl) uU) (zD (zL (i:=3) nd rfl (Or.inl rfl) (pv 4)))) (zD (zX (PW.pt (wU (yC (zS (ok_is_fine T) (hr.mono (by decide)) (zA (pv 0) (zA (pv 5) zC)))) (wD (PW.pt (pw_or (zP yH (pv 3) (yW T.g_NEVER) (zN _)) (tM (zP t5 (yG wQ (pv 4) (pv 3)) (zZ K (pv 0)) (zN _)))))))) (zD (zL (i:=2) nd rfl (Or.inl rfl) uU)) zM)))))) (zD (zI (pe_mk M_Walked (hr.mono (by decide)) (zA (pv 2) (zA (pv 3) zC))))))))),?_⟩
 refine ⟨_,rfl,l,rfl,⟨_,hs⟩,wC (K:=K) (a:=l) (xs:=ts.map V.ref) (fun i σ H'=>∃ v v' sh la,σ=[some (.ref a),some (.ref l),some (.bl sh),some (.int la),v,v']∧sh=(Vbtpah.switchOf r (rs.take i)).shut∧la=uM (Vbtpah.switchOf r (rs.take i)).last∧H'=H)
  ⟨none,none,_,_,rfl,rfl,rfl,rfl⟩ (fun i σ H' _ ⟨_,_,_,_,_,_,_,e⟩=>by rw [e];exact hs) ?_ ?_⟩
 ·rintro i y σ H' hi ⟨v,v',sh,la,rfl,hsh,hla,rfl⟩
  obtain ⟨t,ht1,rfl⟩:=yB hi
  obtain ⟨x,hx,tx⟩:=ht.getA ht1
  have nx:=M.switch_snoc r (rs.take i) x
  rw [← yE hx] at nx;rw [nx];refine ⟨_,_,rfl,tx,rfl,_,_,rfl,_,_,rfl,rfl,?_⟩
  refine ⟨_,rfl,_,rfl,a,r,x.value,rfl,c,ra,_,rfl,?_⟩
  refine zR ?_ ?_
  ·intro h1
   refine ⟨_,rfl,_,Fg.self c (Same.refl _),_,_,_,_,rfl,?_,?_,rfl⟩
   ·unfold Vbtpah.turn;rw [if_pos h1]
   ·unfold Vbtpah.turn;rw [if_pos h1];rfl
  ·intro h1
   obtain ⟨t1,t2⟩:=turn_not (Vbtpah.switchOf r (rs.take i)) h1
   rw [t1,t2];have ho:=ra.ho
   refine ⟨_,rfl,_,rfl,a,r,x.value,rfl,c,ra,_,rfl,?_⟩
   refine zR ?_ ?_
   ·intro h2
    walk_at "rd"
    refine zR ?_ ?_
    ·intro h3
     refine ⟨_,Fg.self c (Same.refl _),_,_,_,_,rfl,?_,hla,rfl⟩
     rw [if_pos ⟨h2,last_none (hla ▸ y8 h3)⟩]
    ·intro h3
     walk_at "rd"
     refine zR ?_ ?_
     ·intro h4
      refine ⟨_,Fg.self c (Same.refl _),_,_,_,_,rfl,?_,hla,rfl⟩
      rw [if_pos ⟨h2,last_some (hla ▸ y9 h3) (hla ▸ of_decide_eq_true h4)⟩]
     ·intro h4
      refine ⟨_,Fg.self c (Same.refl _),_,_,_,_,rfl,?_,hla,rfl⟩
      rw [if_neg fun z=>last_not (hla ▸ y9 h3) (hla ▸ of_decide_eq_false h4) z.2];exact hsh
   ·intro h2
    refine ⟨_,Fg.self c (Same.refl _),_,_,_,_,rfl,?_,hla,rfl⟩
    rw [if_neg fun z=>by rw [h2] at z;cases z.1]
    exact hsh
 ·rintro σ H' ⟨v,v',sh,la,rfl,hsh,hla,rfl⟩
  rw [List.length_map,ht.len,List.take_length] at hsh hla;subst hsh hla
  refine ⟨_,rfl,_,rfl,fun x dx hx hd hn=>⟨x,dx,_,rfl,rfl,c.insN hx hd hn,upd_same,rfl,?_⟩⟩
  rw [yQ];refine ⟨_,⟨Kp.of (xZ hx hd),c.insN hx hd hn,Same.refl _⟩,?_⟩
  exact q _ x (xZ hx hd) (c.insN hx hd hn) ⟨_,_,_,upd_same,cl,na _ (by simp),rfl⟩ ⟨_,_,_,upd_same,cl,na _ (by simp),rfl⟩
structure SenAt (K:zF)(H:Hp)(a:Addr)(x:Sensor):Prop where
 nm : Fld K H a "name" (.str ⟨x.name.toArray⟩)
 st : Fld K H a "stale" (.int (x.stale:Int))
theorem SenAt.mono {K:zF}{H H':Hp}{a:Addr}{k:Sensor}(h:SenAt K H a k)(s:SameT H H'):SenAt K H' a k:=⟨h.nm.mono s,h.st.mono s⟩
def spStale (K:zF):Sp:=fun vs H Q _=>∃ (a l:Addr) (x:Sensor) (rs:List Reading) (t:Nat),vs=[.ref a,.ref l,.int (t:Int)]∧Clo H∧SenAt K H a x∧RdsAt K H l rs∧Q (.bl (Vbtpah.isStale x rs t)) H
theorem sc_is_stale : zK ["sensor","readings","minute"] ["sensor","readings","minute"] (zE (z9 103)):=by walk_at "sc"
theorem ok_is_stale (T:Txt P w K mg):Dfn P w K mg base "is_stale" ["sensor","readings","minute"] [] 1 (spStale K):=by
 have nd:=sc_is_stale.nd
 refine T.d_is_stale.ok sc_is_stale (fun vs H Q E h=>?_) (fun f cdv A outer s H vs Q E hr h=>?_)
 ·obtain ⟨_,_,_,_,_,rfl,_⟩:=h;rfl
 obtain ⟨a,l,x,rs,t,rfl,c,⟨nm,st⟩,⟨ts,hs,ht⟩,q⟩:=h
 refine ⟨_,(zJ H (zB (zX (zP yH (zU (xS K) rfl T.b_len yD (zA (pv 1) zC)) zG (zN _)) (zD (zI uU)) zM) (zD (zI (vU (yO tH (zZ K (pv 0)) zG (zN _)) (vT (yO op_lt (yG vJ (zY (ixTK K) (zY (yI K) (pv 1) (pe_un un_neg zG) (fun _ _=>rfl)) zG (fun _ _=>rfl)) (zZ K (pv 0))) (pv 2) (zN _)))))))),?_⟩
 unfold Vbtpah.isStale at q;refine ⟨_,rfl,l,_,rfl,.inl hs,?_⟩
 refine ⟨rfl,_,rfl,?_⟩
 refine zR ?_ ?_
 ·intro h1
  have z:=y8 h1
  have : rs=[]:=by
   rw [List.length_map] at z;have:=ht.len
   exact List.eq_nil_of_length_eq_zero (by omega)
  subst this;exact ⟨_,Fg.self c (Same.refl _),q⟩
 ·intro h1
  have z:=y9 h1
  rw [List.length_map] at z;have hl:=ht.len
  obtain ⟨y,hy⟩:∃ y,rs.getLast? = some y:=by
   cases e:rs.getLast? with
   | none=>rw [List.getLast?_eq_none_iff] at e;subst e;rw [List.length_nil] at hl;omega
   | some y=>exact ⟨y,rfl⟩
  rw [hy] at q;have hy2:rs[rs.length - 1]? = some y:=by rw [← List.getLast?_eq_getElem?];exact hy
  obtain ⟨b,hb,tb⟩:=ht.get hy2
  have at1:yZ (ts.map V.ref) (-1)=some (V.ref b):=at_last (by rw [List.length_map,hl,List.getElem?_map,hb];rfl)
  have at2:yZ [V.int (y.minute:Int),V.int (y.value:Int)] 0=some (V.int (y.minute:Int)):=rfl
  walk_at "rd"
  refine zR ?_ ?_
  ·intro h2
   have z2:x.stale≠0:=fun e=>by rw [e] at h2;simp at h2
   walk_at "rd"
   ·exact Fg.self c (Same.refl _)
   ·show Q (V.bl _) H
    have e2:(x.stale != 0&&decide (y.minute+x.stale < t))=decide ((y.minute:Int)+(x.stale:Int) < (t:Int)):=by
     have : (x.stale != 0)=true:=by simpa using z2
     rw [this,Bool.true_and,← tJ,Int.natCast_add]
    rw [← e2];exact q
  ·intro h2
   have z2:x.stale=0:=by
    have : V.int (x.stale:Int)=V.int 0:=by simpa using h2
    have:=V.int.inj this
    omega
   refine ⟨_,Fg.self c (Same.refl _),?_⟩
   rw [z2] at q;exact q
end
end My
namespace My
open PySem PySem.Spec PyProof.Rows L2
open Vbtpah (Says Log Reading Park Sensor Ride Rule Check)
def lamQ : Str:=Str.ofString "readings_of"++Str.ofString ".<locals>."++Str.ofString "<lambda>"
def codeH (c':Addr):HO:=.ext fun h=>h.CodeRec (.ref c') lamQ
def TabOk (tb:Addr)(H:Hp):Prop:=∃ ps,H tb=some (.tbl ps)∧(ps = #[]∨∃ c',ps = #[rawInt 357,rawInt 32,.ref c']∧H c'=some (codeH c'))
theorem TabOk.mono {tb:Addr}{H H':Hp}(h:TabOk tb H)(s:Same H H'):TabOk tb H':=by
 obtain ⟨ps,h1,h2⟩:=h
 refine ⟨ps,s _ _ h1,h2.imp id ?_⟩
 rintro ⟨c',e,h3⟩
 exact ⟨c',e,s _ _ h3⟩
theorem TabOk.put {tb l:Addr}{H:Hp}{o:HO}(h:TabOk tb H)(h1:∀ ps,H l≠some (.tbl ps))(h2:∀ φ,H l≠some (.ext φ)):TabOk tb (upd H l o):=by
 obtain ⟨ps,h3,h4⟩:=h
 refine ⟨ps,by rw [zH fun z=>h1 ps (by rw [← z];exact h3)];exact h3,h4.imp id ?_⟩
 rintro ⟨c',e,h5⟩
 exact ⟨c',e,by rw [zH fun z=>h2 _ (by rw [← z];exact h5)];exact h5⟩
theorem TabOk.lst {tb l:Addr}{H:Hp}{o:HO}{xs:List V}(h:TabOk tb H)(hl:H l=some (.lst xs)):TabOk tb (upd H l o):=h.put (fun _ e=>by rw [hl] at e;cases e) fun _ e=>by rw [hl] at e;cases e
def CodeC (K:zF)(cdv:Value)(tb:Addr):Prop:=∃ c,cdv = .ref c∧∀ h:Heap,K.In h→PySem.W.CodeHd h c tb
structure TabTxt (K:zF)(mg:Str→Option Value)(tb:Addr):Prop where
 rd : ∃ (f:Addr) (o:Obj) (fd:FuncData),mg "readings_of"=some (.ref f)∧K.lookup f=some o∧o.data = .func fd∧CodeC K fd.code tb
def ListAt {α:Type}(K:zF)(H:Hp)(R:Addr→α→Prop)(l:Addr)(xs:List α):Prop:=∃ as:List Addr,SqL K H l (as.map V.ref)∧All2 R as xs
structure RideAt (K:zF)(H:Hp)(a:Addr)(x:Ride):Prop where
 nm : Fld K H a "name" (.str ⟨x.name.toArray⟩)
 st : Fld K H a "staff" (.int (x.staff:Int))
theorem RideAt.mono {K:zF}{H H':Hp}{a:Addr}{k:Ride}(h:RideAt K H a k)(s:SameT H H'):RideAt K H' a k:=⟨h.nm.mono s,h.st.mono s⟩
structure PlanAt (K:zF)(H:Hp)(pl:Addr)(p:Park):Prop where
 se : ∃ l,Fld K H pl "sensors" (.ref l)∧ListAt K H (SenAt K H) l p.sensors
 ri : ∃ l,Fld K H pl "rides" (.ref l)∧ListAt K H (RideAt K H) l p.rides
 ru : ∃ l,Fld K H pl "rules" (.ref l)∧ListAt K H (RuleAt K H) l p.rules
 ck : ∃ l,Fld K H pl "checks" (.ref l)∧ListAt K H (ChkAt K H) l p.checks
theorem ListAt.mono {α:Type}{K:zF}{H H':Hp}{R S:Addr→α→Prop}{l:Addr}{xs:List α}(h:ListAt K H R l xs)(s:SameT H H')(k:∀ a x,R a x→S a x):ListAt K H' S l xs :=
 let ⟨as,h1,h2⟩:=h;⟨as,SqL.monoT h1 s,h2.mono k⟩
theorem PlanAt.mono {K:zF}{H H':Hp}{a:Addr}{p:Park}(h:PlanAt K H a p)(s:SameT H H'):PlanAt K H' a p :=
 ⟨let ⟨l,h1,h2⟩:=h.se;⟨l,h1.mono s,h2.mono s fun _ _ q=>q.mono s⟩,let ⟨l,h1,h2⟩:=h.ri;⟨l,h1.mono s,h2.mono s fun _ _ q=>q.mono s⟩,
  let ⟨l,h1,h2⟩:=h.ru;⟨l,h1.mono s,h2.mono s fun _ _ q=>q.mono s⟩,let ⟨l,h1,h2⟩:=h.ck;⟨l,h1.mono s,h2.mono s fun _ _ q=>q.mono s⟩⟩
structure PlanWf (p:Park):Prop where
 se : p.sensors.length≤6
 ri : p.rides.length≤10
 ru : p.rules.length≤20
 ck : p.checks.length≤20
 sn : ∀ x∈p.rules,1≤x.sensor∧x.sensor≤p.sensors.length
def PrAt (K:zF)(H:Hp)(t:Addr)(x:Nat×Nat):Prop:=SqT K H t [vn x.1,vn x.2]
theorem PrAt.mono {K:zF}{H H':Hp}{t:Addr}{x:Nat×Nat}(h:PrAt K H t x)(s:SameT H H'):PrAt K H' t x:=SqT.monoT h s
theorem SqT.lstU {K:zF}{H:Hp}{t W:Addr}{xs ys:List V}{o:HO}(h:SqT K H t xs)(hw:H W=some (.lst ys)):SqT K (upd H W o) t xs:=by
 rcases h with (h | ⟨ob,h⟩) | h
 ·exact .inl (.inl (by rw [zH (xD h hw (by intro z;cases z))];exact h))
 ·exact .inl (.inr ⟨ob,by rw [zH (xD h hw (by intro z;cases z))];exact h⟩)
 ·exact .inr h
theorem pr_push {K:zF}{H H':Hp}{W T:Addr}{ts:List Addr}{ps:List (Nat×Nat)}{x:Nat×Nat}(s1:Same H H')(c1:Clo H')(hW:H W=none)(hw:H' W=some (.lst (ts.map V.ref)))(hT:H' T=none)(ht:All2 (PrAt K H') ts ps) :
  (upd H' T (.tup [vn x.1,vn x.2])) W=some (.lst (ts.map V.ref)) ∧
  Same H (upd (upd H' T (.tup [vn x.1,vn x.2])) W (.lst (ts.map V.ref++[V.ref T])))∧Clo (upd (upd H' T (.tup [vn x.1,vn x.2])) W (.lst (ts.map V.ref++[V.ref T]))) ∧
  (upd (upd H' T (.tup [vn x.1,vn x.2])) W (.lst (ts.map V.ref++[V.ref T]))) W=some (.lst ((ts++[T]).map V.ref))∧All2 (PrAt K (upd (upd H' T (.tup [vn x.1,vn x.2])) W (.lst (ts.map V.ref++[V.ref T])))) (ts++[T]) (ps++[x]):=by
 have e1:(upd H' T (.tup [vn x.1,vn x.2])) W=some (.lst (ts.map V.ref)):=by rw [zH (zO hw hT)];exact hw
 refine ⟨e1,(s1.trans (Same.new hT)).put hW,(c1.tupN hT).lstU e1,by rw [upd_same,List.map_append];rfl,?_⟩
 exact All2.snoc (ht.mono fun a x h=>SqT.lstU (SqT.monoT h (Same.new hT).t) e1) (SqT.lstU (SqT.of upd_same) e1)
section
variable {P:Program}{w:World}{K:zF}{mg:Str→Option Value}{base:Heap}{tb:Addr}
def spHasRide (K:zF):Sp:=fun vs H Q _=>∃ (pl:Addr) (p:Park) (r:Nat),vs=[.ref pl,.int (r:Int)]∧Clo H∧PlanAt K H pl p∧Q (.bl (decide (r≤p.rides.length))) H
theorem sc_has_ride : zK ["plan","ride"] ["plan","ride"] (zE (z9 82)):=by walk_at "sc"
theorem yX (T:Txt P w K mg):Dfn P w K mg base "has_ride" ["plan","ride"] [] 1 (spHasRide K):=by
 have nd:=sc_has_ride.nd
 refine T.d_has_ride.ok sc_has_ride (fun vs H Q E h=>?_) (fun f cdv A outer s H vs Q E hr h=>?_)
 ·obtain ⟨_,_,_,rfl,_⟩:=h;rfl
 obtain ⟨pl,p,r,rfl,c,pa,q⟩:=h
 refine ⟨_,(zJ H (zD (zI (yO wJ (pv 1) (zU (xS K) rfl T.b_len yD (zA (zZ K (pv 0)) zC)) (zN _))))),?_⟩
 obtain ⟨l,f1,as,hs,ha⟩:=pa.ri
 rw [← decLe,← ha.len] at q;refine ⟨_,rfl,_,rfl,_,_,rfl,f1,_,_,rfl,.inl hs,_,_,rfl,rfl,_,Fg.self c (Same.refl _),?_⟩
 rw [List.length_map];exact q
def tI (p:Park)(log:Log)(r t:Nat)(cs:List Check):List (Nat×Nat):=(cs.zipIdx 1).filterMap fun x=>if x.1.ride=r∧Vbtpah.leftOf x.1 log x.2 t=0 then some (3,x.2) else none
theorem due_snoc (p:Park)(log:Log)(r t:Nat)(cs:List Check)(k:Check):tI p log r t (cs++[k])=if k.ride=r∧Vbtpah.leftOf k log (cs.length+1) t=0 then tI p log r t cs++[(3,cs.length+1)] else tI p log r t cs:=by
 unfold tI;rw [List.zipIdx_append,List.filterMap_append];simp only [List.zipIdx_cons,List.zipIdx_nil,List.filterMap_cons,List.filterMap_nil];rw [Nat.add_comm 1 cs.length]
 by_cases h:k.ride=r∧Vbtpah.leftOf k log (cs.length+1) t=0
 ·rw [if_pos h,if_pos h]
 ·rw [if_neg h,if_neg h,List.append_nil]
theorem due_len (p:Park)(log:Log)(r t:Nat)(cs:List Check):(tI p log r t cs).length≤cs.length:=by
 unfold tI;refine Nat.le_trans (List.length_filterMap_le ..) ?_
 rw [List.length_zipIdx];exact Nat.le_refl _
def spDue (K:zF):Sp:=fun vs H Q _=>∃ (pl l:Addr) (p:Park) (log:Log) (r t:Nat),vs=[.ref pl,.ref l,.int (r:Int),.int (t:Int)]∧Clo H∧PlanAt K H pl p∧PlanWf p∧LogAt K H l log∧log.length≤250 ∧
 ∀ H' D ts,Same H H'→Clo H'→H D=none→H' D=some (.lst (ts.map V.ref))→All2 (PrAt K H') ts (tI p log r t p.checks)→Q (.ref D) H'
theorem sc_check_reasons : zK ["plan","entries","ride","minute","due","number","check"] ["plan","entries","ride","minute"] (zE (z9 112)):=by walk_at "sc"
theorem ok_check_reasons (T:Txt P w K mg):Dfn P w K mg base "check_reasons" ["plan","entries","ride","minute"] [] 3 (spDue K):=by
 have nd:=sc_check_reasons.nd
 refine T.d_check_reasons.ok sc_check_reasons (fun vs H Q E h=>?_) (fun f cdv A outer s H vs Q E hr h=>?_)
 ·obtain ⟨_,_,_,_,_,_,rfl,_⟩:=h;rfl
 obtain ⟨pl,l,p,log,r,t,rfl,c,pa,wf,la,lim,q⟩:=h
 refine ⟨_,(zJ H (zB (zL (i:=4) nd rfl (Or.inl rfl) (zT zC)) (zB (xH PassesOwn.never rfl (t7 K T.b_enumerate (zA (zZ K (pv 0)) zC) (vE zG uF)) (vR H (u9 K (n:=2) rfl (yA (zV (i:=5) nd rfl (Or.inl rfl)) (yA (zV (i:=6) nd rfl (Or.inl rfl)) xN)))) (zJ H (zD (zX (PW.pt (wU (zP yH (zZ K (pv 6)) (pv 2) (zN _)) (wD (zP yH (zS (vV T) (hr.mono (by decide)) (zA (pv 6) (zA (pv 5) (zA (pv 1) (zA (pv 3) zC))))) zG (zN _))))) (zD (yL (bmK K PySem.F.plainAttrs_list PySem.F.slot_list_append PySem.F.type_list_append yM (pv 4) (zA (vS (zA (yW T.g_CHECK_DUE) (zA (pv 5) zC))) zC)))) zM)))) (zD (zI (pv 4)))))),?_⟩
 refine ⟨yF,fun W hW=>?_⟩
 have sW:Same H (upd H W (.lst [])):=Same.new hW
 obtain ⟨lc,f1,as,hs,ha⟩:=pa.ck
 refine ⟨_,rfl,_,_,rfl,f1.mono sW.t,lc,_,rfl,rfl,SqL.monoT hs sW.t,wK (K:=K) (a:=lc) (xs:=as.map V.ref) (fun i σ H'=>∃ v v' ts,σ=[some (.ref pl),some (.ref l),some (.int r),some (.int t),some (.ref W),v,v']∧Same H H'∧Clo H'∧H' W=some (.lst (ts.map V.ref))∧All2 (PrAt K H') ts (tI p log r t (p.checks.take i)))
  ⟨none,none,[],rfl,sW,c.lstN hW,upd_same,All2.nil⟩ (fun i σ H' _ ⟨_,_,_,_,s1,c1,_,_⟩=>⟨SqL.monoT hs s1.t,c1,Kp.of s1⟩) ?_ ?_⟩
 ·rintro i y σ H' hi ⟨v,v',ts,rfl,s1,c1,hw,ht⟩
  obtain ⟨a,hx,rfl⟩:=yB hi
  obtain ⟨k,hk,ak⟩:=ha.getA hx
  have ak':=ak.mono s1.t
  have ri:=ak'.ri
  have lt:=(List.getElem?_eq_some_iff.mp hk).1
  have nx:=due_snoc p log r t (p.checks.take i) k
  rw [← yE hk] at nx;have li:(p.checks.take i).length=i:=by rw [List.length_take];omega
  rw [li] at nx;walk_at "rd"
  refine zR ?_ ?_
  ·intro h1
   have z1:=y8 h1
   refine ⟨_,rfl,_,rfl,_,rfl,_,rfl,a,l,k,i+1,t,log,rfl,c1,ak',la.mono s1.t,lim,rfl,_,rfl,?_⟩
   refine zR ?_ ?_
   ·intro h2
    have z2:=y8 h2
    rw [if_pos ⟨by omega,by omega⟩] at nx;refine ⟨_,rfl,.inl ⟨rfl,_,SqL.of hw⟩,?_⟩
    walk_at "rd"
    intro T hT
    obtain ⟨e1,s2,c2,a2,p2⟩:=pr_push s1 c1 hW hw hT ht (x:=(3,i+1))
    refine ⟨W,_,_,rfl,rfl,e1,?_,_,⟨Kp.of s2,c2,Same.refl _⟩,_,_,ts++[T],rfl,s2,c2,a2,?_⟩
    ·have l1:=due_len p log r t (p.checks.take i)
     have l3:(250:Nat) < sizeLine:=by decide
     have l4:=wf.ck
     have l5:=ht.len
     rw [List.length_map];omega
    ·rw [nx];exact p2
   ·intro h2
    have z2:=y9 h2
    rw [if_neg (fun z=>by omega)] at nx;refine ⟨_,⟨Kp.of s1,c1,Same.refl _⟩,_,_,ts,rfl,s1,c1,hw,?_⟩
    rw [nx];exact ht
  ·intro h1
   have z1:=y9 h1
   rw [if_neg (fun z=>by omega)] at nx;refine ⟨_,⟨Kp.of s1,c1,Same.refl _⟩,_,_,ts,rfl,s1,c1,hw,?_⟩
   rw [nx];exact ht
 ·rintro σ H' ⟨v,v',ts,rfl,s1,c1,hw,ht⟩
  rw [List.length_map,ha.len,List.take_length] at ht;exact ⟨_,rfl,_,⟨Kp.of s1,c1,Same.refl _⟩,q H' W ts s1 c1 hW hw ht⟩
end
end My
namespace L2
open PySem PySem.Spec PyProof.Rows PySem.W
def emptyH : Heap:=default
theorem u6 (b:Addr):emptyH.get? b=none:=by
 cases e:emptyH.get? b with
 | none=>rfl
 | some o=>exact absurd (Heap.lt_size e) (by show ¬ b < (#[]:Array Obj).size;simp)
def allN (h:Heap)(L:Addr):List (Addr×Obj):=(List.range h.objs.size).filterMap fun i=>if i=L then none else (h.get? i).map fun o=>(i,o)
theorem mem_allN {h:Heap}{L b:Addr}{o:Obj}:(b,o)∈allN h L ↔ h.get? b=some o∧b≠L:=by
 unfold allN;rw [List.mem_filterMap]
 constructor
 ·rintro ⟨i,_,e⟩
  by_cases hi:i=L
  ·rw [if_pos hi] at e;cases e
  ·rw [if_neg hi] at e
   cases g:h.get? i with
   | none=>rw [g] at e;cases e
   | some o'=>rw [g] at e;cases e;exact ⟨g,hi⟩
 ·rintro ⟨e,n⟩
  exact ⟨b,List.mem_range.mpr (Heap.lt_size e),by rw [if_neg n,e];rfl⟩
section
variable {prog:Program}{w:World}{A:Around}{E:Value→Shared→Prop}{s:Shared}{L l f:Addr}{m:Str→Option Value}{vs:List Value}{kz:List Int}{Q:Value→Shared→Prop}
theorem sort_all (hns:s.heap.Ns L m)(hl:s.heap.IsList l vs.toArray)(hlen:kz.length=vs.length)(hZ:vs.length≤sizeLine)
  (turn:∀ (i:Nat) (v:Value) (k:Int),vs[i]? = some v→kz[i]? = some k→∀ (h:Heap) (tk:Nat),(∀ b o,b≠L→s.heap.get? b=some o→h.get? b=some o)→h.Ns L m →
   wpAny (model prog w) A.in1.in1 (call (.ref f) [v]) (fun v' s2=>∃ h' tk' t',s2={s with heap:=h',toks:=tk'}∧v' = .int k t'∧h'.Ns L m∧∀ b o,b≠L→h.get? b=some o→h'.get? b=some o) (fun _ _=>False) {s with heap:=h,toks:=tk})
  (h:∀ D h' tk out c,(∀ b o,b≠L→s.heap.get? b=some o→h'.get? b=some o)→h'.Ns L m→h'.get? D=some (seqObj "list" out c)→s.heap.get? D=none→KskOutSt false kz vs out.toList→Q (.ref D) {s with heap:=h',toks:=tk}) :
  wpAny (model prog w) A (call (.builtin "sorted") [.ref l] [(Str.ofString "key",.ref f)]) Q E s:=by
 have F:Fr emptyH L s.heap m:=⟨hns,fun b o e=>(by rw [u6] at e;cases e),Nat.zero_le _⟩
 have N:News emptyH L s.heap (allN s.heap L):=fun p hp=>by
  obtain ⟨e,n⟩:=mem_allN.mp hp
  exact ⟨e,n,u6 _⟩
 refine ksk_sortedSt (b:=false) (kz:=kz) F N hl hlen hZ (ksk_s1 _ _) (fun x=>ksk_l1 _ _) (fun x=>ksk_t1 _ _) ?_ ?_
 ·intro i v k hv hk h1 tk own F1 N1
  refine wpAny_mono (turn i v k hv hk h1 tk (fun b o n e=>(N1 (b,o) (List.mem_append_left _ (mem_allN.mpr ⟨e,n⟩))).1) F1.ns) (fun v' s2 q=>?_) fun _ _ q=>q
  obtain ⟨h',tk',t',e1,e2,hn',kp⟩:=q
  exact ⟨h',tk',t',e1,e2,⟨hn',fun b o e=>(by rw [u6] at e;cases e),Nat.zero_le _⟩,fun p hp=>⟨kp _ _ (N1 p hp).2.1 (N1 p hp).1,(N1 p hp).2.1,u6 _⟩⟩
 ·intro D h' tk out c F1 N1 hD hk
  have hN:∀ b o,b≠L→s.heap.get? b=some o→h'.get? b=some o:=fun b o n e=>(N1 (b,o) (List.mem_cons_of_mem _ (mem_allN.mpr ⟨e,n⟩))).1
  obtain ⟨d1,d2,_⟩:=N1 (D,seqObj "list" out c) (List.mem_cons_self ..)
  refine h D h' tk out c hN F1.ns d1 ?_ hk
  cases e:s.heap.get? D with
  | none=>rfl
  | some o=>exact absurd (hD (D,o) (mem_allN.mpr ⟨e,d2⟩)) (Nat.lt_irrefl _)
end
end L2
namespace My
open PySem PySem.Spec PyProof.Rows L2
open Vbtpah (Says Log Reading Park Sensor Ride Rule Check)
theorem _root_.L2.DefOk.okC {P:Program}{w:World}{K:zF}{mg:Str→Option Value}{base:Heap}{tb:Addr}{st:Stmt}{N ps:List Str}{k:Nat}{sp:Sp}(D:DefOk K mg "readings_of" st ps)(B:TabTxt K mg tb)(S:zK N ps (zE st))(len:∀ vs H Q E,sp vs H Q E→vs.length=ps.length)
  (hbody:∀ (f:Addr) (cdv:Value) (A:Around) (outer:List Env) (s:Shared) (H:Hp) (vs:List V) (Q:VK) (E:XK),CodeC K cdv tb→Room k (A.deeper (envOfC "readings_of" (zE st) s.heap.objs.size f cdv))→sp vs H Q E →
   ∃ t,PSs (tT CX0 P w K mg base N "readings_of" (zE st) f cdv A outer s H E).nox (xP st) t∧t {nx:=fun _ H'=>Q .non H',rt:=Q} (start N vs) H):Dfn P w K mg base "readings_of" ps [] (k+1) sp:=by
 obtain ⟨f,fd,h1,F,h3⟩:=D
 have F2:=F
 obtain ⟨oc,od,kV,doc,pm,an,cdv,ct,osl,rfl,lk,hcd⟩:=F2.ex
 obtain ⟨f',o,fd',b1,b2,b3,b4⟩:=B.rd
 rw [h1] at b1;cases b1;rw [lk] at b2;cases b2;cases b3;refine ⟨f,_,[],?_,h1,F.kp,h3,.nil⟩
 refine fn_of lk hcd S len fun A outer s H vs Q E hr hsp=>?_
 obtain ⟨t,h,q⟩:=hbody f cdv A outer s H vs Q E b4 hr hsp
 exact ⟨t,h.nox,q⟩
def lamP : Arguments:={posonlyargs:=[],args:=[{arg:="reading",annotation:=none,pos:=⟨357,39,357,46⟩:PySem.Arg}],vararg:=none,kwonlyargs:=[],kw_defaults:=[],kwarg:=none,defaults:=[]}
def lamB : Expr:=.Subscript (.Name "reading" ⟨357,48,357,55⟩) (.Constant (.int 0) 0 ⟨357,56,357,57⟩) ⟨357,48,357,58⟩
def lamS : Scope:={kind:=.function,names:=[(Str.ofString "reading",.local)],isGenerator:=false,isCoroutine:=false,more:=[]}
def lamPos : Pos:=⟨357,32,357,58⟩
theorem lam_turn {prog:Program}{w:World}{A:Around}{s:Shared}{f c' t:Addr}{pm ctv v0:Value}{its:List Value}{Q:Value→Shared→Prop}(hroom:A.depth < recursionLimit)
  (ho:s.heap.get? f=some (PySem.W.kla_obj "<lambda>" lamQ lamP lamB lamS [] pm c' ctv)) (hcd:s.heap.CodeRec (.ref c') lamQ) (hlim:s.heap.NoLimit) (ht:IsTup s.heap t its.toArray) (h0:its[0]? = some v0)
  (h:∀ h' tk,(∀ b o,s.heap.get? b=some o→h'.get? b=some o)→Q v0 {s with heap:=h',toks:=tk}) :
  wpAny (model prog w) A (call (.ref f) [.ref t]) Q (fun _ _=>False) s:=by
 refine wpAny_call (PySem.W.kla_callFunE hroom ho rfl rfl rfl rfl hcd ?_)
 have hb:bindArgs (PySem.W.kla_fn "<lambda>" lamQ lamP lamB lamS [] pm (.ref c') ctv) ⟨[.ref t],[]⟩=pure [(Str.ofString "reading",.ref t)]:=rfl
 rw [hb];refine wpAny_pure (wpAny_newFunctionEnv (scope:=lamS) (by decide) (by intro x hx;rw [List.mem_singleton.mp hx];rfl) (fun h1 hns hsb=>⟨hlim.fresh _ hsb,?_⟩) rfl)
 have hk₁:∀ b o,s.heap.get? b=some o→h1.get? b=some o:=fun b o e=>hsb.extBut b o (Nat.ne_of_lt (Heap.lt_size e)) (Heap.get?_push_of_some _ e)
 refine PySem.W.kla_codeExpr ?_
 have ht1:IsTup h1 t its.toArray:=by
  obtain ⟨o,e,r⟩:=ht
  exact ⟨o,hk₁ _ _ e,r⟩
 refine wpAny_Subscript_Constant_late (wpAny_Name (wpAny_loadName_local rfl rfl hns rfl ?_) (by decide))
 refine wpAny_Constant_int ⟨"tuple",_,PyProof.Rows.slot_tuple_getitem.lookup,ht1.typeIs,?_⟩
 refine PyProof.Rows.getItem_tuple (j:=0) ht1 (by decide) (by decide) ?_ (by simpa using h0) (h h1 _ hk₁)
 have : 0 < its.length:=(List.getElem?_eq_some_iff.mp h0).1
 have hz:its.toArray.size=its.length:=List.size_toArray ..
 unfold seqIndex?
 rw [hz];simp [this]
theorem codeRec_at {c':Addr}{q:Str}{h1 h2:Heap}(x:h1.CodeRec (.ref c') q)(k:∀ o,h1.get? c'=some o→h2.get? c'=some o):h2.CodeRec (.ref c') q:=by
 obtain ⟨c,o,vs,t,e,g,r⟩:=x
 cases e;exact ⟨c',o,vs,t,rfl,k _ g,r⟩
section
variable {X:Cx}{pins:List (Addr×Obj)}{σ:L2.St}{H:Hp}{s:Shared}{tb c:Addr}
theorem ctx_blt (I:Inv X pins σ H s)(htb:∃ ps,H tb=some (.tbl ps)):s.heap.BuiltinsAt X.mg tb∧mainGlobals≠tb:=by
 obtain ⟨ps,htb⟩:=htb
 obtain ⟨bm,ob,b1,b2,b3,b4,b5,b6⟩:=I.mod.bmain
 have hbP:bm≠tb:=fun q=>by
  have:=(I.bs _ _ b3).2
  rw [q,htb] at this;cases this
 have hgP:mainGlobals≠tb:=fun q=>by
  obtain ⟨o,es,ep,e,_⟩:=I.mod.glob
  have:=(I.bs _ _ e).2
  rw [q,htb] at this;cases this
 have hbG:bm≠mainGlobals:=fun q=>by
  obtain ⟨o,es,ep,e,hd,_⟩:=I.mod.glob
  rw [q,e] at b3;cases b3;rw [hd] at b6;cases b6
 exact ⟨⟨bm,ob,b1,b2,hbG,hbP,I.bk _ _ b3,b4,b5,b6⟩,hgP⟩
theorem pe_lam {Q:Value→Shared→Prop}{E:Value→Shared→Prop}(I:Inv X pins σ H s)(tt:TabOk tb H)(hc:X.env.code = .ref c)(C:∀ h:Heap,X.K.In h→PySem.W.CodeHd h c tb)(hq:X.env.qual++"<lambda>"=lamQ)
  (h:∀ H' s' f c' pm ctv,Inv X pins σ H' s'→SameT H H'→Kp H H'→(Clo H→Clo H')→TabOk tb H'→s'.heap.get? f=some (PySem.W.kla_obj "<lambda>" lamQ lamP lamB lamS [] pm c' ctv)→s'.heap.CodeRec (.ref c') lamQ→f≠X.env.locals→c'≠X.env.locals→Q (.ref f) s') :
  wpAny (model X.prog X.w) X.A (eval (.Lambda lamP lamB lamS lamPos) X.env) Q E s:=by
 obtain ⟨ps,e1,e2⟩:=tt
 obtain ⟨hb,hgP⟩:=ctx_blt I ⟨ps,e1⟩
 have hP:s.heap.get? tb=some (PySem.W.tabObj ps):=I.hok _ _ e1
 have hg:=I.mod.glob.keeps I.bk
 have nL:X.env.locals≠tb:=fun q=>by have:=I.free;rw [q,e1] at this;cases this
 refine PySem.W.kla_eval rfl ?_
 rw [hq];rcases e2 with rfl | ⟨c',rfl,hc'⟩
 ·refine PySem.W.kla_makeFunction (mg:=X.mg) (clos:=[]) rfl I.ok.glob hg hc (C _ I.kIn) hP trivial rfl hgP hb fun c' ctv h' tk hx hge hlt hrec htab=>?_
  have hk:∀ b o,b≠tb→s.heap.get? b=some o→(h'.push (PySem.W.kla_obj "<lambda>" lamQ lamP lamB lamS [] ((X.mg "__name__").getD .none) c' ctv)).get? b=some o:=fun b o n e=>Heap.get?_push_of_some _ (hx b o n e)
  have ntb:∀ b u,H b=some u→u≠.tbl #[]→b≠tb:=fun b u e n z=>by rw [z,e1] at e;cases e;exact n rfl
  have nc:∀ b o,s.heap.get? b=some o→b≠c':=fun b o e z=>absurd (Heap.lt_size e) (by rw [z];exact Nat.not_lt.mpr hge)
  have ncH:∀ b u,H b=some u→b≠c':=fun b u e z=>absurd ((I.hok b u e).lt) (by rw [z];exact Nat.not_lt.mpr hge)
  have tc:tb≠c':=ncH _ _ e1
  have oth:∀ b,b≠tb→b≠c'→(upd (upd H tb (.tbl (#[] ++ #[rawInt lamPos.line,rawInt lamPos.col,.ref c']))) c' (codeH c')) b=H b:=fun b n1 n2=>by rw [zH n2,zH n1]
  have att:(upd (upd H tb (.tbl (#[] ++ #[rawInt lamPos.line,rawInt lamPos.col,.ref c']))) c' (codeH c')) tb=some (.tbl (#[] ++ #[rawInt lamPos.line,rawInt lamPos.col,.ref c'])):=by rw [zH tc,upd_same]
  have sT:SameT H (upd (upd H tb (.tbl (#[] ++ #[rawInt lamPos.line,rawInt lamPos.col,.ref c']))) c' (codeH c')):=fun b u e n=>by rw [oth b (ntb b u e (n _)) (ncH b u e)];exact e
  have kp:Kp H (upd (upd H tb (.tbl (#[] ++ #[rawInt lamPos.line,rawInt lamPos.col,.ref c']))) c' (codeH c')):=⟨fun b xs e=>sT _ _ e (fun _ z=>nomatch z),fun b o u e=>sT _ _ e (fun _ z=>nomatch z),fun b qs e=>by
   by_cases z:b=tb
   ·subst z
    rw [e1] at e;cases e;exact ⟨_,att⟩
   ·exact ⟨#[],by rw [oth b z (ncH b _ e),e,Array.append_empty]⟩⟩
  have I2:=I.step (h':=h'.push (PySem.W.kla_obj "<lambda>" lamQ lamP lamB lamS [] ((X.mg "__name__").getD .none) c' ctv)) (g':=s.gens) (t':=tk) (d':=s.drawn) (ch:=[]) (H':=upd (upd H tb (.tbl (#[] ++ #[rawInt lamPos.line,rawInt lamPos.col,.ref c']))) c' (codeH c')) (fun _ z=>nomatch z)
   (fun b o _ _ _ e n=>hk b o (fun z=>by rw [z,e1] at n;cases n) e) (fun b o _ _ _ e n=>⟨o.slots,hk b o (fun z=>by rw [z,e1] at n;cases n) e⟩)
   (fun b o _ e n=>by rw [oth b (fun z=>by rw [z,e1] at n;cases n) (nc b o e)];exact n)
   (fun b o _ e=>by
    by_cases z:b=tb
    ·rw [z];exact ⟨_,Heap.get?_push_of_some _ htab⟩
    ·exact ⟨o,hk b o z e⟩) kp.tups kp.frzs kp.tbls (fun m hm=>(hm.extBut hx nL).push _) (fun b u e=>by
    by_cases z2:b=c'
    ·rw [z2,upd_same] at e
     cases e;obtain ⟨c2,o,vs,t,y1,y2,y3⟩:=hrec.push (PySem.W.kla_obj "<lambda>" lamQ lamP lamB lamS [] ((X.mg "__name__").getD .none) c' ctv)
     cases y1;rw [z2];exact ⟨⟨c',o,vs,t,rfl,y2,y3⟩,⟨o,y2⟩,fun h1 h2 x k=>codeRec_at x k⟩
    ·by_cases z1:b=tb
     ·rw [z1,att] at e
      cases e;rw [z1];exact Heap.get?_push_of_some _ htab
     ·rw [oth b z1 z2] at e
      refine (I.hok b u e).stay (fun b' u' z y=>?_) (fun b' y=>?_) (fun b' xs y=>?_)
      ·refine hk b' u' ?_ y
       rcases z with z | z
       ·rw [z];exact z1
       ·exact ntb _ _ z fun z=>nomatch z
      ·exact sT _ _ y fun _ z=>nomatch z
      ·exact sT _ _ y fun _ z=>nomatch z) I.bare
  refine h _ _ _ c' _ ctv I2 sT kp (fun cl=>?_) ⟨_,att,.inr ⟨c',rfl,upd_same⟩⟩ (Heap.get?_push_size _ rfl) (hrec.push _) (Nat.ne_of_gt (Nat.lt_of_lt_of_le I.lt (Nat.le_of_lt (Nat.lt_of_le_of_lt hge hlt)))) (Nat.ne_of_gt (Nat.lt_of_lt_of_le I.lt hge))
  refine Clo.put (Clo.put cl (fun y e=>by rw [e1] at e;cases e) (fun _ _ _ z=>nomatch z) (fun _ z=>nomatch z) fun _ _ z=>nomatch z) (fun y e=>?_) (fun _ _ _ z=>nomatch z) (fun _ z=>nomatch z) fun _ _ z=>nomatch z
  rw [zH tc.symm] at e;exact ncH _ _ e rfl
 ·refine PySem.W.kla_makeFunctionHit (mg:=X.mg) (clos:=[]) (cv:=.ref c') rfl I.ok.glob hg hc (C _ I.kIn) hP ?_ rfl hb fun ctv h' tk hk hsz=>?_
  ·exact TriplesOk_snoc 357 32 (.ref c') [] trivial
  have I2:Inv X pins σ H {s with heap:=h'.push (PySem.W.kla_obj "<lambda>" lamQ lamP lamB lamS [] ((X.mg "__name__").getD .none) c' ctv),toks:=tk}:=I.kept (t':=tk) fun b o e=>Heap.get?_push_of_some _ (hk b o e)
  obtain ⟨hcr,⟨o,ho⟩,_⟩:=I2.hok _ _ hc'
  refine h H _ _ c' _ ctv I2 (SameT.refl _) (Kp.refl _) id ⟨_,e1,.inr ⟨c',rfl,hc'⟩⟩ (Heap.get?_push_size _ rfl) hcr (Nat.ne_of_gt (Nat.lt_of_lt_of_le I.lt hsz)) (fun z=>?_)
  have:=I.free
  rw [← z,hc'] at this;cases this
end
end My
namespace My
open PySem PySem.Spec PyProof.Rows L2
open Vbtpah (Says Log Reading Park Sensor Ride Rule Check)
theorem ob_there {P:Program}{w:World}{H:Hp}{h:Heap}{a:Addr}{o:HO}(x:ObjOk P w H h a o):∃ u,h.get? a=some u:=by
 cases o with
 | lst xs=>obtain ⟨_,_,_,_,e⟩:=x;exact ⟨_,e⟩
 | tup xs=>obtain ⟨_,_,_,o,e,_⟩:=x;exact ⟨_,e⟩
 | dK kvs=>obtain ⟨_,_,_,_,o,_,_,e,_⟩:=x;exact ⟨_,e⟩
 | dT kvs=>obtain ⟨_,_,_,_,o,_,_,e,_⟩:=x;exact ⟨_,e⟩
 | set S n=>obtain ⟨o,_,_,_,e,_⟩:=x;exact ⟨_,e⟩
 | ins C dx fs=>obtain ⟨_,_,_,e,_⟩:=x;exact ⟨_,e⟩
 | own y=>exact x
 | xd fs=>obtain ⟨_,⟨_,_,_,e,_⟩,_⟩:=x;exact ⟨_,e⟩
 | rng lo hi=>obtain ⟨_,_,_,e⟩:=x;exact ⟨_,e⟩
 | frz ob u=>obtain ⟨e,_⟩:=x;exact ⟨_,e⟩
 | tbl ps=>exact ⟨_,x⟩
 | met f y=>exact ⟨_,x⟩
 | ext φ=>exact x.2.1
def adr : Value→Addr
 | .ref a=>a
 | _=>0
theorem zip_g (R:Addr→Reading):∀ ts:List Addr,(ts.map fun t=>M.key (R t)).zip (ts.map Value.ref)=ts.map fun t=>(M.key (R t),Value.ref t)
 | []=>rfl
 | t::r=>by
  exact congrArg (List.cons _) (zip_g R r)
theorem vals_refs : ∀ us:List Addr,Vals (us.map V.ref) (us.map Value.ref)
 | []=>.nil
 | _::r=>.cons rfl (vals_refs r)
theorem sort_core {X:Cx}{pins:List (Addr×Obj)}{σ:L2.St}{H:Hp}{s:Shared}{Q:Value→Shared→Prop}{E:Value→Shared→Prop}{l fl c':Addr}{ts:List Addr}{rs:List Reading}{pm ctv:Value}
  (I:Inv X pins σ H s) (hdep:X.A.depth+3 * 2+5 < recursionLimit) (ho:s.heap.get? fl=some (PySem.W.kla_obj "<lambda>" lamQ lamP lamB lamS [] pm c' ctv)) (hcr:s.heap.CodeRec (.ref c') lamQ) (n1:fl≠X.env.locals) (n2:c'≠X.env.locals)
  (hl:H l=some (.lst (ts.map V.ref))) (ha:All2 (uN X.K H) ts rs) (len:rs.length≤250)
  (h:∀ D s' us rs',Inv X pins σ (upd H D (.lst (us.map V.ref))) s'→H D=none→All2 (uN X.K H) us rs'→rs'.Pairwise (fun x y=>M.key x≤M.key y)→(∀ c,rs'.filter (fun y=>M.key y==c)=rs.filter (fun y=>M.key y==c))→Q (.ref D) s') :
  wpAny (model X.prog X.w) X.A (call (.builtin "sorted") [.ref l] [(Str.ofString "key",.ref fl)]) Q E s:=by
 obtain ⟨m,hn,_⟩:=id I.loc
 obtain ⟨_,its,n,rv,hg⟩:=(show ObjOk X.prog X.w H s.heap l (.lst (ts.map V.ref)) from I.hok _ _ hl)
 have eits:=refs_at rv
 subst eits;have sz:(250:Nat) < sizeLine:=by decide
 have hfun:∀ t r r',uN X.K H t r→uN X.K H t r'→r=r':=fun t r r' q q'=>by
  have e:=I.tuple_inj q q'
  injection e with e1 e2
  injection e2 with e2 _
  injection e1 with e1
  injection e2 with e2
  cases r;cases r'
  have e1':=Int.ofNat.inj e1
  have e2':=Int.ofNat.inj e2
  subst e1' e2'
  rfl
 obtain ⟨R,hR⟩:∃ R:Addr→Reading,∀ t r,uN X.K H t r→R t=r:=by
  classical
  refine ⟨fun t=>if q:∃ r,uN X.K H t r then Classical.choose q else ⟨0,0⟩,fun t r q=>?_⟩
  have q':∃ r,uN X.K H t r:=⟨r,q⟩
  show (if q:∃ r,uN X.K H t r then Classical.choose q else ⟨0,0⟩)=r
  rw [dif_pos q'];exact hfun t _ _ (Classical.choose_spec q') q
 have hat:∀ t∈ts,uN X.K H t (R t):=fun t ht=>by
  obtain ⟨i,hi⟩:=List.getElem?_of_mem ht
  have lt:=(List.getElem?_eq_some_iff.mp hi).1
  have hi2:rs[i]? = some (rs[i]'(by rw [← ha.len];exact lt)):=List.getElem?_eq_getElem _
  have q:=ha.at_ i t _ hi hi2
  rw [hR t _ q];exact q
 have ers:rs=ts.map R:=by
  apply List.ext_getElem?
  intro i
  rw [List.getElem?_map]
  cases e:ts[i]? with
  | none =>
   have:=List.getElem?_eq_none_iff.mp e
   exact List.getElem?_eq_none_iff.mpr (by rw [← ha.len];exact this)
  | some t =>
   have lt:=(List.getElem?_eq_some_iff.mp e).1
   have hi2:rs[i]? = some (rs[i]'(by rw [← ha.len];exact lt)):=List.getElem?_eq_getElem _
   rw [hi2];exact congrArg some (hR t _ (ha.at_ i t _ e hi2)).symm
 have hlen:=ha.len
 refine sort_all (m:=m) (L:=X.env.locals) (kz:=ts.map fun t=>M.key (R t)) (vs:=ts.map Value.ref) hn ⟨_,hg,rfl,_,rfl⟩ (by rw [List.length_map,List.length_map]) (by rw [List.length_map];omega) ?_ ?_
 ·intro i v k hv hk h1 tk kp hns
  rw [List.getElem?_map] at hv hk
  cases e:ts[i]? with
  | none=>rw [e] at hv;cases hv
  | some t =>
   rw [e] at hv hk;cases hv;cases hk;obtain ⟨its,rt,pt,_⟩:=I.tuple (hat t (List.mem_of_getElem? e))
   have tL:t≠X.env.locals:=fun z=>by
    obtain ⟨o,eo,_,_,d⟩:=pt
    obtain ⟨o',es,ep,eo',d',_⟩:=hn
    rw [z,eo'] at eo;cases eo;rw [d'] at d;cases d
   have pt2:IsTup h1 t its.toArray:=by
    obtain ⟨o,eo,rr⟩:=pt
    exact ⟨o,kp _ _ tL eo,rr⟩
   cases rt with
   | cons r1 r2 =>
    obtain ⟨tk1,rfl⟩:=r1
    have bL:∀ b o,X.base.get? b=some o→b≠X.env.locals:=fun b o e z=>absurd (Nat.lt_of_lt_of_le (Heap.lt_size e) (Nat.le_trans I.ok.bsz I.ok.above)) (by rw [z];exact Nat.lt_irrefl _)
    exact lam_turn (s:={s with heap:=h1,toks:=tk}) (by show X.A.depth < _;omega) (kp _ _ n1 ho) (codeRec_at hcr fun o e=>kp _ _ n2 e) (I.ok.mod.nolimit.keeps fun b o e=>kp b o (bL b o e) (I.bk b o e)) pt2 rfl fun h' tk' hk'=>⟨h',tk',_,rfl,rfl,hns.keeps hk',fun b o _ e=>hk' b o e⟩
 ·intro D h' tk out c kp hns hD hD0 hk
  obtain ⟨ps,perm,eo,pw,fi⟩:=hk
  rw [zip_g] at perm fi;have hps:ps=(ps.map fun p=>adr p.2).map fun t=>(M.key (R t),Value.ref t):=by
   rw [List.map_map];refine (List.map_id ps).symm.trans (List.map_congr_left fun p hp=>?_)
   obtain ⟨t,_,e⟩:=List.mem_map.mp (perm.mem_iff.mp hp)
   rw [← e];rfl
  generalize (ps.map fun p=>adr p.2)=us at hps
  subst hps;have usub:∀ u∈us,u∈ts:=fun u hu=>by
   obtain ⟨t,ht,e⟩:=List.mem_map.mp (perm.mem_iff.mp (List.mem_map_of_mem hu))
   injection e with _ e2
   injection e2 with e2
   rw [← e2];exact ht
  have hDn:H D=none:=by
   cases e:H D with
   | none=>rfl
   | some u =>
    obtain ⟨o,q⟩:=ob_there (I.hok D u e)
    rw [hD0] at q;cases q
  have ulen:us.length=ts.length:=by
   have:=perm.length_eq
   rw [List.length_map,List.length_map] at this;exact this
  have nD:∀ b o,s.heap.get? b=some o→b≠D:=fun b o e z=>by rw [z,hD0] at e;cases e
  have nH:∀ b u,H b=some u→b≠D:=fun b u e z=>by rw [z,hDn] at e;cases e
  have nHL:∀ b u,H b=some u→b≠X.env.locals:=fun b u e z=>by have:=I.free;rw [← z,e] at this;cases this
  have I2:=I.step (h':=h') (g':=s.gens) (t':=tk) (d':=s.drawn) (ch:=[]) (H':=upd H D (.lst (us.map V.ref))) (fun _ z=>nomatch z)
   (fun b o n _ _ e _=>kp b o n e) (fun b o n _ _ e _=>⟨o.slots,kp b o n e⟩) (fun b o _ e n=>by rw [zH (nD b o e)];exact n)
   (fun b o _ e=>by
    by_cases z:b=X.env.locals
    ·rw [z];obtain ⟨o',_,_,e',_⟩:=hns;exact ⟨o',e'⟩
    ·exact ⟨o,kp b o z e⟩)
   (fun b xs e=>by rw [zH (nH _ _ e)];exact e) (fun b o u e=>by rw [zH (nH _ _ e)];exact e) (fun b qs e=>⟨#[],by rw [zH (nH _ _ e),e,Array.append_empty]⟩)
   (fun m' hm=>by
    have : m'=m:=by
     obtain ⟨o1,es1,ep1,a1,a2,_,a4⟩:=hm
     obtain ⟨o2,es2,ep2,b1,b2,_,b4⟩:=hn
     rw [a1] at b1;cases b1;rw [a2] at b2;cases b2
     funext x
     rw [← a4 x,← b4 x]
    rw [this];exact hns)
   (fun b u e=>by
    by_cases z:b=D
    ·rw [z,upd_same] at e
     cases e;rw [z];refine ⟨by rw [List.length_map];omega,us.map Value.ref,c,vals_refs us,?_⟩
     rw [hD];have:out=(us.map Value.ref).toArray:=by
      rw [← Array.toArray_toList (xs:=out),eo,List.map_map];rfl
     rw [this]
    ·rw [zH z] at e
     refine (I.hok b u e).stay (fun b' u' y e'=>kp b' u' ?_ e') (fun b' y=>by rw [zH (nH _ _ y)];exact y) (fun b' xs y=>by rw [zH (nH _ _ y)];exact y)
     rcases y with y | y
     ·rw [y];exact nHL b u e
     ·exact nHL _ _ y) I.bare
  refine h D _ us (us.map R) I2 hDn ⟨by rw [List.length_map],fun i a x e1 e2=>?_⟩ ?_ fun cc=>?_
  ·rw [List.getElem?_map,e1] at e2
   cases e2;exact hat a (usub a (List.mem_of_getElem? e1))
  ·rw [List.pairwise_map] at pw ⊢
   exact pw.imp fun q=>by simpa using q
  ·have f1:=fi cc
   rw [List.filter_map,List.filter_map] at f1;have f2:=congrArg (List.map fun p:Int×Value=>adr p.2) f1
   rw [List.map_map,List.map_map] at f2;have idm:∀ zs:List Addr,zs.map ((fun p:Int×Value=>adr p.2)∘fun t=>(M.key (R t),Value.ref t))=zs:=fun zs=>(List.map_congr_left fun _ _=>rfl).trans (List.map_id zs)
   rw [idm,idm] at f2;rw [ers,List.filter_map,List.filter_map];exact congrArg (List.map R) f2
end My
namespace My
open PySem PySem.Spec PyProof.Rows L2
open Vbtpah (Says Log Reading Park Sensor Ride Rule Check)
theorem SameT.put {H H1:Hp}{l:Addr}{o:HO}(s:SameT H H1)(hl:H l=none):SameT H (upd H1 l o):=fun b u e n=>by
 rw [zH (zO e hl)];exact s b u e n
structure Lv (tb:Addr)(H H':Hp):Prop where
 s : SameT H H'
 k : Kp H H'
 c : Clo H'
 b : TabOk tb H'
theorem Lv.of {tb:Addr}{H H':Hp}(b:TabOk tb H)(s:Same H H')(c:Clo H'):Lv tb H H':=⟨s.t,Kp.of s,c,b.mono s⟩
theorem Lv.trans {tb:Addr}{H H1 H2:Hp}(a:Lv tb H H1)(b:Lv tb H1 H2):Lv tb H H2:=⟨a.s.trans b.s,a.k.trans b.k,b.c,b.b⟩
theorem Lv.more {tb:Addr}{H H1 H2:Hp}(a:Lv tb H H1)(s:Same H1 H2)(c:Clo H2):Lv tb H H2:=a.trans (Lv.of a.b s c)
theorem Lv.new {tb l:Addr}{H H1:Hp}{xs:List V}(a:Lv tb H H1)(hl:H1 l=none):Lv tb H (upd H1 l (.lst xs)):=a.more (Same.new hl) (a.c.lstN hl)
theorem Lv.lst {tb l:Addr}{H H1:Hp}{xs ys:List V}(a:Lv tb H H1)(hl:H l=none)(hl1:H1 l=some (.lst xs)):Lv tb H (upd H1 l (.lst ys)):=⟨SameT.put a.s hl,a.k.lst hl1,a.c.lstU hl1,a.b.lst hl1⟩
theorem Lv.tup {tb l:Addr}{H H1:Hp}{xs:List V}(a:Lv tb H H1)(hl:H1 l=none):Lv tb H (upd H1 l (.tup xs)):=a.more (Same.new hl) (a.c.tupN hl)
theorem Lv.none {tb l:Addr}{H H1:Hp}(a:Lv tb H H1)(h:H1 l=none)(hn:∀ ps,H l≠some (.tbl ps)):H l=none:=by
 cases e:H l with
 | none=>rfl
 | some o=>rw [a.s l o e fun ps z=>hn ps (by rw [e,z])] at h;cases h
theorem Lv.none' {tb l:Addr}{H H1:Hp}(a:Lv tb H H1)(h:H1 l=Option.none):H l=Option.none:=a.none h fun ps e=>by
 obtain ⟨m,q⟩:=a.k.tbls l ps e
 rw [q] at h;cases h
theorem pr_pushT {K:zF}{tb:Addr}{H H':Hp}{W T:Addr}{ts:List Addr}{ps:List (Nat×Nat)}{x:Nat×Nat}(l1:Lv tb H H')(hW:H W=none)(hw:H' W=some (.lst (ts.map V.ref)))(hT:H' T=none)(ht:All2 (PrAt K H') ts ps) :
  (upd H' T (.tup [vn x.1,vn x.2])) W=some (.lst (ts.map V.ref)) ∧
  Lv tb H (upd (upd H' T (.tup [vn x.1,vn x.2])) W (.lst (ts.map V.ref++[V.ref T]))) ∧
  (upd (upd H' T (.tup [vn x.1,vn x.2])) W (.lst (ts.map V.ref++[V.ref T]))) W=some (.lst ((ts++[T]).map V.ref))∧All2 (PrAt K (upd (upd H' T (.tup [vn x.1,vn x.2])) W (.lst (ts.map V.ref++[V.ref T])))) (ts++[T]) (ps++[x]) ∧
  (∀ t xs,SqT K H' t xs→SqT K (upd (upd H' T (.tup [vn x.1,vn x.2])) W (.lst (ts.map V.ref++[V.ref T]))) t xs)∧∀ Z o,Z≠W→H' Z=some o→(upd (upd H' T (.tup [vn x.1,vn x.2])) W (.lst (ts.map V.ref++[V.ref T]))) Z=some o:=by
 have e1:(upd H' T (.tup [vn x.1,vn x.2])) W=some (.lst (ts.map V.ref)):=by rw [zH (zO hw hT)];exact hw
 have e2:∀ t xs,SqT K H' t xs→SqT K (upd (upd H' T (.tup [vn x.1,vn x.2])) W (.lst (ts.map V.ref++[V.ref T]))) t xs:=fun t xs h=>SqT.lstU (SqT.monoT h (Same.new hT).t) e1
 refine ⟨e1,(l1.tup hT).lst hW e1,by rw [upd_same,List.map_append];rfl,?_,e2,fun Z o n h=>?_⟩
 ·exact All2.snoc (ht.mono fun a x h=>e2 _ _ h) (SqT.lstU (SqT.of upd_same) e1)
 ·rw [zH n,zH (zO h hT)];exact h
def vM {α:Type}(F:α→Bool)(c:Nat)(xs:List α):List (Nat×Nat):=(xs.zipIdx 1).filterMap fun x=>if F x.1=true then some (c,x.2) else none
theorem sel_snoc {α:Type}(F:α→Bool)(c:Nat)(xs:List α)(k:α):vM F c (xs++[k])=if F k=true then vM F c xs++[(c,xs.length+1)] else vM F c xs:=by
 unfold vM;rw [List.zipIdx_append,List.filterMap_append];simp only [List.zipIdx_cons,List.zipIdx_nil,List.filterMap_cons,List.filterMap_nil];rw [Nat.add_comm 1 xs.length]
 by_cases h:F k=true
 ·rw [if_pos h,if_pos h]
 ·rw [if_neg h,if_neg h,List.append_nil]
theorem uC {α:Type}(F:α→Bool)(c:Nat)(xs:List α):(vM F c xs).length≤xs.length:=by
 unfold vM;refine Nat.le_trans (List.length_filterMap_le ..) ?_
 rw [List.length_zipIdx];exact Nat.le_refl _
theorem All2.app {α:Type}{R:Addr→α→Prop}{as bs:List Addr}{xs ys:List α}(h:All2 R as xs)(k:All2 R bs ys):All2 R (as++bs) (xs++ys):=by
 refine ⟨by rw [List.length_append,List.length_append,h.len,k.len],fun i b y hb hy=>?_⟩
 by_cases lt:i < as.length
 ·rw [List.getElem?_append_left lt] at hb
  rw [List.getElem?_append_left (by rw [← h.len];exact lt)] at hy
  exact h.at_ i b y hb hy
 ·rw [List.getElem?_append_right (by omega)] at hb
  rw [List.getElem?_append_right (by rw [← h.len];omega),← h.len] at hy
  exact k.at_ _ b y hb hy
def wT (p:Park)(log:Log)(r t:Nat)(x:Rule):Bool:=decide (x.ride=r)&&Vbtpah.isStale ((p.sensors[x.sensor - 1]?).getD ⟨[],0⟩) (Vbtpah.readingsOf log x.sensor t) t
def vL (log:Log)(r t:Nat)(x:Rule):Bool:=decide (x.ride=r)&&(Vbtpah.switchOf x (Vbtpah.readingsOf log x.sensor t)).shut
theorem stale_eq (p:Park)(log:Log)(r t:Nat)(xs:List (Rule×Nat)):((xs.filter fun x=>x.1.ride==r).filterMap fun x=>if Vbtpah.isStale ((p.sensors[x.1.sensor - 1]?).getD ⟨[],0⟩) (Vbtpah.readingsOf log x.1.sensor t) t=true then some (1,x.2) else none)=xs.filterMap fun x=>if wT p log r t x.1=true then some (1,x.2) else none:=by
 rw [List.filterMap_filter]
 congr 1
 funext x
 unfold wT
 by_cases h:x.1.ride=r<;>simp [h]
theorem shut_eq (log:Log)(r t:Nat)(xs:List (Rule×Nat)):((xs.filter fun x=>x.1.ride==r).filterMap fun x=>if (Vbtpah.switchOf x.1 (Vbtpah.readingsOf log x.1.sensor t)).shut=true then some (2,x.2) else none)=xs.filterMap fun x=>if vL log r t x.1=true then some (2,x.2) else none:=by
 rw [List.filterMap_filter]
 congr 1
 funext x
 unfold vL
 by_cases h:x.1.ride=r<;>simp [h]
def staffR (p:Park)(log:Log)(r:Nat):List (Nat×Nat):=if Vbtpah.staffOf log r < ((p.rides[r - 1]?).getD ⟨[],0⟩).staff then [(6,((p.rides[r - 1]?).getD ⟨[],0⟩).staff - Vbtpah.staffOf log r)] else []
theorem why_eq (p:Park)(log:Log)(r t:Nat):Vbtpah.whyNot p log r t=vM (wT p log r t) 1 p.rules++vM (vL log r t) 2 p.rules++tI p log r t p.checks++((Vbtpah.locksOn log r).map fun w=>(4,w))++((Vbtpah.openOrders log r).map fun o=>(5,o))++staffR p log r:=by
 unfold Vbtpah.whyNot;simp only [stale_eq,shut_eq];rfl
theorem t8 {α:Type}{xs:List α}{r:Nat}{v:α}(h1:1≤r)(h:xs[r - 1]? = some v):yZ xs ((r:Int) - 1)=some v:=by
 have lt:=(List.getElem?_eq_some_iff.mp h).1
 unfold yZ ixN;rw [if_pos (by omega),if_pos (by omega)];show xs[((r:Int) - 1).toNat]? = some v
 rw [show ((r:Int) - 1).toNat=r - 1 by omega];exact h
def rdP (r:Reading):Nat×Nat:=(r.minute,r.value)
theorem raw_snoc (l:Log)(e:Vbtpah.Entry)(se t:Nat):M.rawReadings (l++[e]) se t=if kd e.says=0∧ab e.says=se∧td e.says≤t then M.rawReadings l se t++[⟨td e.says,th e.says⟩] else M.rawReadings l se t:=by
 unfold M.rawReadings;rw [List.filterMap_append]
 cases h:e.says with
 | reading q m v =>
  by_cases z:q=se∧m≤t
  ·rw [if_pos ⟨rfl,z.1,z.2⟩];simp [h,z,td,th]
  ·rw [if_neg (fun y=>z ⟨y.2.1,y.2.2⟩)];simp only [List.filterMap_cons,h,if_neg z,List.filterMap_nil,List.append_nil]
 | _=>simp [h,kd]
theorem raw_len (l:Log)(se t:Nat):(M.rawReadings l se t).length≤l.length:=List.length_filterMap_le ..
def tSortK (K:zF)(tb:Addr)(te:TE):TE:=fun σ H Q=>te σ H fun x H1=>∃ (l:Addr) (ts:List Addr) (rs:List Reading),x = .ref l∧H1 l=some (.lst (ts.map V.ref))∧All2 (uN K H1) ts rs∧rs.length≤250∧TabOk tb H1∧Clo H1 ∧
 ∀ H2 D us rs',Lv tb H1 H2→H1 D=none→H2 D=some (.lst (us.map V.ref))→All2 (uN K H2) us rs'→rs'.Pairwise (fun x y=>M.key x≤M.key y)→(∀ c,rs'.filter (fun y=>M.key y==c)=rs.filter (fun y=>M.key y==c))→Q (.ref D) H2
def sortKw : Stmt→List Keyword
 | .Return (some (.Call _ _ kws _)) _=>kws
 | _=>[]
section
variable {P:Program}{w:World}{K:zF}{mg:Str→Option Value}{base:Heap}{tb:Addr}
def sortQ (K:zF)(tb:Addr)(Q:VK):List V→Hp→Prop:=fun vs H1=>match vs with
 | [x]=>∃ (l:Addr) (ts:List Addr) (rs:List Reading),x = .ref l∧H1 l=some (.lst (ts.map V.ref))∧All2 (uN K H1) ts rs∧rs.length≤250∧TabOk tb H1∧Clo H1 ∧
  ∀ H2 D us rs',Lv tb H1 H2→H1 D=none→H2 D=some (.lst (us.map V.ref))→All2 (uN K H2) us rs'→rs'.Pairwise (fun x y=>M.key x≤M.key y)→(∀ c,rs'.filter (fun y=>M.key y==c)=rs.filter (fun y=>M.key y==c))→Q (.ref D) H2
 | _=>False
theorem pe_sortedKey {f:Addr}{cdv:Value}{A:Around}{outer:List Env}{s:Shared}{H:Hp}{E:XK}(T:Txt P w K mg)(cc:CodeC K cdv tb)(hdep:(A.deeper (envOfC "readings_of" (zE (z9 99)) s.heap.objs.size f cdv)).depth+3 * 2+5 < recursionLimit)
  {e:Expr} {te:TE} {p pos:Pos} {kws:List Keyword}
  (he:PE (tT CX0 P w K mg base ["entries","sensor","minute","readings","entry"] "readings_of" (zE (z9 99)) f cdv A outer s H E).nox e te)
  (hs:starEach [e] (tT CX0 P w K mg base ["entries","sensor","minute","readings","entry"] "readings_of" (zE (z9 99)) f cdv A outer s H E).nox.env=(false,eval e (tT CX0 P w K mg base ["entries","sensor","minute","readings","entry"] "readings_of" (zE (z9 99)) f cdv A outer s H E).nox.env)::starEach [] (tT CX0 P w K mg base ["entries","sensor","minute","readings","entry"] "readings_of" (zE (z9 99)) f cdv A outer s H E).nox.env:=by rfl)
  (hk:kws=sortKw ((xP (z9 99)).getD 2 (.Pass ⟨0,0,0,0⟩)):=by rfl) :
  PE (tT CX0 P w K mg base ["entries","sensor","minute","readings","entry"] "readings_of" (zE (z9 99)) f cdv A outer s H E).nox (.Call (.Name "sorted" p) [e] kws pos) (tSortK K tb te):=by
 have hk2:kws=[⟨some "key",.Lambda lamP lamB lamS lamPos,⟨357,28,357,58⟩⟩]:=hk
 clear hk;subst hk2;obtain ⟨c,hc,C⟩:=cc
 intro pins s1 σ H1 Q I h
 refine wpAny_Call_Name_kw (uY I rfl T.b_sorted bt_sorted (PyProof.Rows.callWith_kw (xE (zA he zC hs pos pins s1 σ H1 (sortQ K tb Q) I h) fun us s2 ⟨vs,H2,I2,r2,q2⟩=>?_) (by rw [hs];rfl) (by rw [hs];rfl)))
 obtain ⟨l,rfl,ts,rs,hl,ha,len,tt,cl,q⟩:∃ l,vs=[V.ref l]∧∃ (ts:List Addr) (rs:List Reading),H2 l=some (.lst (ts.map V.ref))∧All2 (uN K H2) ts rs∧rs.length≤250∧TabOk tb H2∧Clo H2 ∧
   ∀ H3 D us rs',Lv tb H2 H3→H2 D=none→H3 D=some (.lst (us.map V.ref))→All2 (uN K H3) us rs'→rs'.Pairwise (fun x y=>M.key x≤M.key y)→(∀ c,rs'.filter (fun y=>M.key y==c)=rs.filter (fun y=>M.key y==c))→Q (.ref D) H3:=by
  match vs,q2 with
  | [x],⟨l,ts,rs,ex,r⟩=>exact ⟨l,by rw [ex],ts,rs,r⟩
 cases r2 with
 | cons r rr =>
  cases rr;cases r;refine PyProof.Rows.kws_cons (pe_lam I2 tt hc C rfl fun H3 s3 fl c' pm ctv I3 sT kp cl3 tt3 ho hcr n1 n2=>PyProof.Rows.kws_nil ?_)
  refine sort_core I3 hdep ho hcr n1 n2 (sT _ _ hl fun _ z=>nomatch z) (ha.mono fun _ _ q=>SqT.monoT q sT) len fun D s4 us rs' I4 hD al pw fi=>?_
  have lv3:Lv tb H2 H3:=⟨sT,kp,cl3 cl,tt3⟩
  exact ⟨.ref D,_,I4,rfl,q _ D us rs' (lv3.new hD) (lv3.none' hD) upd_same (al.mono fun _ _ q=>SqT.monoT q (Same.new hD).t) pw fi⟩
def spReads (K:zF)(tb:Addr):Sp:=fun vs H Q _=>∃ (l:Addr) (log:Log) (s t:Nat),vs=[.ref l,.int (s:Int),.int (t:Int)]∧Clo H∧TabOk tb H∧LogAt K H l log∧log.length≤250 ∧
 ∀ H' D ts,Lv tb H H'→H D=none→H' D=some (.lst (ts.map V.ref))→All2 (uN K H') ts (Vbtpah.readingsOf log s t)→Q (.ref D) H'
theorem sc_readings_of : zK ["entries","sensor","minute","readings","entry"] ["entries","sensor","minute"] (zE (z9 99)):=by walk_at "sc"
theorem ok_readings_of (T:Txt P w K mg)(B:TabTxt K mg tb):Dfn P w K mg base "readings_of" ["entries","sensor","minute"] [] 3 (spReads K tb):=by
 have nd:=sc_readings_of.nd
 refine T.d_readings_of.okC B sc_readings_of (fun vs H Q E h=>?_) (fun f cdv A outer s H vs Q E cc hr h=>?_)
 ·obtain ⟨_,_,_,_,rfl,_⟩:=h;rfl
 obtain ⟨l,log,se,t,rfl,c,tt,la,lim,q⟩:=h
 refine ⟨_,(zJ H (zB (zL (i:=3) nd rfl (Or.inl rfl) (zT zC)) (zB (xH PassesOwn.never rfl (vH K (pv 0)) (zV (i:=4) nd rfl (Or.inl rfl)) (zJ H (zD (zX (PW.pt (wU (zP yH (zZ K (pv 4)) (yW T.g_READING) (zN _)) (wU (zP yH (zZ K (pv 4)) (pv 1) (zN _)) (wD (zP wJ (zZ K (pv 4)) (pv 2) (zN _)))))) (zD (yL (bmK K PySem.F.plainAttrs_list PySem.F.slot_list_append PySem.F.type_list_append yM (pv 3) (zA (vS (zA (zZ K (pv 4)) (zA (zZ K (pv 4)) zC))) zC)))) zM)))) (zD (zI (pe_sortedKey T cc hr.dp (pv 3))))))),?_⟩
 have sz:(250:Nat) < sizeLine:=by decide
 obtain ⟨as,hs,ha⟩:=la
 refine ⟨yF,fun W hW=>?_⟩
 refine ⟨_,rfl,l,rfl,⟨_,SqL.monoT hs (Same.new hW).t⟩,wC (K:=K) (a:=l) (xs:=as.map V.ref) (fun i σ H'=>∃ v ts,σ=[some (.ref l),some (.int se),some (.int t),some (.ref W),v]∧Same H H'∧Clo H'∧H' W=some (.lst (ts.map V.ref))∧All2 (PrAt K H') ts ((M.rawReadings (log.take i) se t).map rdP))
  ⟨none,[],rfl,Same.new hW,c.lstN hW,upd_same,All2.nil⟩ (fun i σ H' _ ⟨_,_,_,s,_⟩=>SqL.monoT hs s.t) ?_ ?_⟩
 ·rintro i y σ H' hi ⟨v,ts,rfl,s1,c1,hw,ht⟩
  obtain ⟨a,ha1,rfl⟩:=yB hi
  obtain ⟨e,he,ea⟩:=ha.getA ha1
  have ea1:=ea.mono s1.t
  have nx:=raw_snoc (log.take i) e se t
  rw [← yE he] at nx;have ll:=raw_len (log.take i) se t
  rw [List.length_take] at ll;have lt:=(List.getElem?_eq_some_iff.mp he).1
  have skip:¬ (kd e.says=0∧ab e.says=se∧td e.says≤t)→∃ H2,Fg H H' H2∧∃ v ts,[some (V.ref l),some (V.int se),some (V.int t),some (V.ref W),some (V.ref a)]=[some (.ref l),some (.int se),some (.int t),some (.ref W),v]∧Same H H2∧Clo H2∧H2 W=some (.lst (ts.map V.ref))∧All2 (PrAt K H2) ts ((M.rawReadings (log.take (i+1)) se t).map rdP):=fun z=>by
   rw [if_neg z] at nx;exact ⟨H',⟨Kp.of s1,c1,Same.refl _⟩,_,ts,rfl,s1,c1,hw,by rw [nx];exact ht⟩
  refine ⟨_,rfl,_,_,rfl,ea1.kd,rfl,_,rfl,?_⟩
  refine zR ?_ fun h1=>skip fun z=>y9 h1 z.1
  intro h1
  refine ⟨_,rfl,_,_,rfl,ea1.ab,_,rfl,rfl,_,rfl,?_⟩
  refine zR ?_ fun h2=>skip fun z=>y9 h2 (by rw [z.2.1])
  intro h2
  refine ⟨_,rfl,_,_,rfl,ea1.td,_,rfl,_,_,rfl,rfl,_,rfl,?_⟩
  refine zR ?_ fun h3=>skip fun z=>of_decide_eq_false h3 (by have:=z.2.2;omega)
  intro h3
  have z1:=y8 h1
  have z2:=y8 h2
  have z3:=of_decide_eq_true h3
  rw [if_pos ⟨z1,by omega,by omega⟩] at nx;refine ⟨_,rfl,.inl ⟨rfl,_,SqL.of hw⟩,_,rfl,_,_,rfl,ea1.td,_,rfl,_,_,rfl,ea1.th,yF,fun T' hT=>?_⟩
  obtain ⟨e1,s2,c2,a2,p2⟩:=pr_push s1 c1 hW hw hT ht (x:=(td e.says,th e.says))
  refine ⟨W,_,_,rfl,rfl,e1,?_,_,⟨Kp.of s2,c2,Same.refl _⟩,_,ts++[T'],rfl,s2,c2,a2,?_⟩
  ·have:=ht.len
   rw [List.length_map] at this;rw [List.length_map];omega
  ·rw [nx,List.map_append];exact p2
 ·rintro σ H' ⟨v,ts,rfl,s1,c1,hw,ht⟩
  rw [List.length_map,ha.len,List.take_length] at ht;have ll:=raw_len log se t
  refine ⟨_,rfl,W,ts,M.rawReadings log se t,rfl,hw,⟨by rw [ht.len,List.length_map],fun i a x h1 h2=>ht.at_ i a (rdP x) h1 (by rw [List.getElem?_map,h2];rfl)⟩,by omega,tt.mono s1,c1,fun H2 D us rs l2 hD0 hD2 al pw fi=>?_⟩
  have lv:=(Lv.of tt s1 c1).trans l2
  refine ⟨H2,⟨lv.k,lv.c,Same.refl _⟩,q H2 D us lv ((Lv.of tt s1 c1).none' hD0) hD2 ?_⟩
  rw [← M.sorted_is pw fi];exact al
def spStaffR (K:zF):Sp:=fun vs H Q _=>∃ (pl l:Addr) (p:Park) (log:Log) (r:Nat),vs=[.ref pl,.ref l,.int (r:Int)]∧Clo H∧PlanAt K H pl p∧1≤r∧r≤p.rides.length∧LogAt K H l log ∧
 ∀ H' D ts,Same H H'→Clo H'→H D=none→H' D=some (.lst (ts.map V.ref))→All2 (PrAt K H') ts (staffR p log r)→Q (.ref D) H'
theorem sc_staff_reasons : zK ["plan","entries","ride","missing"] ["plan","entries","ride"] (zE (z9 113)):=by walk_at "sc"
theorem ok_staff_reasons (T:Txt P w K mg):Dfn P w K mg base "staff_reasons" ["plan","entries","ride"] [] 2 (spStaffR K):=by
 have nd:=sc_staff_reasons.nd
 refine T.d_staff_reasons.ok sc_staff_reasons (fun vs H Q E h=>?_) (fun f cdv A outer s H vs Q E hr h=>?_)
 ·obtain ⟨_,_,_,_,_,rfl,_⟩:=h;rfl
 obtain ⟨pl,l,p,log,r,rfl,c,pa,r1,r2,la,q⟩:=h
 refine ⟨_,(zJ H (zB (zL (i:=3) nd rfl (Or.inl rfl) (yG wQ (zZ K (zY (yI K) (zZ K (pv 0)) (yG wQ (pv 2) zG) (fun _ _=>rfl))) (zS (ok_staff_of T) (hr.mono (by decide)) (zA (pv 1) (zA (pv 2) zC))))) (zD (zI (uT (zP w8 (pv 3) zG (zN _)) (zT (zA (vS (zA (yW T.g_STAFF_SHORT) (zA (pv 3) zC))) zC)) (zT zC)))))),?_⟩
 obtain ⟨x,hx⟩:∃ x,p.rides[r - 1]? = some x:=⟨_,List.getElem?_eq_getElem (by omega)⟩
 obtain ⟨lr,f1,as,hs,ha⟩:=pa.ri
 obtain ⟨a,ea,ax⟩:=ha.get hx
 have st:=ax.st
 have at1:yZ (as.map V.ref) ((r:Int) - 1)=some (V.ref a):=t8 r1 (by rw [List.getElem?_map,ea];rfl)
 unfold staffR at q;rw [hx] at q;walk_at "rd"
 refine zR ?_ ?_
 ·intro h1
  have z1:Vbtpah.staffOf log r < x.staff:=by have:=of_decide_eq_true h1;omega
  rw [show ((some x).getD ⟨[],0⟩:Ride)=x from rfl,if_pos z1] at q
  walk_at "rd"
  intro T hT
  refine ⟨yF,fun D hD=>?_⟩
  have hD0:H D=none:=yJ (Same.new hT) hD
  have s2:Same H (upd (upd H T (.tup [.int 6,.int ((x.staff:Int) - (Vbtpah.staffOf log r:Int))])) D (.lst [.ref T])):=(Same.new hT).put hD0
  refine ⟨_,⟨Kp.of s2,(c.tupN hT).lstN hD,Same.refl _⟩,q _ D [T] s2 ((c.tupN hT).lstN hD) hD0 upd_same ?_⟩
  refine All2.snoc All2.nil (SqT.monoT (SqT.of ?_) (Same.new hD).t)
  rw [upd_same];unfold vn;rw [show (((x.staff - Vbtpah.staffOf log r:Nat):Int))=(x.staff:Int) - (Vbtpah.staffOf log r:Int) by omega];rfl
 ·intro h1
  have z1:¬ Vbtpah.staffOf log r < x.staff:=by have:=of_decide_eq_false h1;omega
  rw [show ((some x).getD ⟨[],0⟩:Ride)=x from rfl,if_neg z1] at q
  refine ⟨yF,fun D hD=>?_⟩
  exact ⟨_,⟨Kp.of (Same.new hD),c.lstN hD,Same.refl _⟩,q _ D [] (Same.new hD) (c.lstN hD) hD upd_same All2.nil⟩
def spRuleR (K:zF)(tb:Addr):Sp:=fun vs H Q _=>∃ (pl l:Addr) (p:Park) (log:Log) (r t:Nat),vs=[.ref pl,.ref l,.int (r:Int),.int (t:Int)]∧Clo H∧TabOk tb H∧PlanAt K H pl p∧PlanWf p∧LogAt K H l log∧log.length≤250 ∧
 ∀ H' D ts,Lv tb H H'→H D=none→H' D=some (.lst (ts.map V.ref))→All2 (PrAt K H') ts (vM (wT p log r t) 1 p.rules++vM (vL log r t) 2 p.rules)→Q (.ref D) H'
theorem sc_rule_reasons : zK ["plan","entries","ride","minute","stale","shut","number","rule","readings"] ["plan","entries","ride","minute"] (zE (z9 111)):=by walk_at "sc"
theorem ok_rule_reasons (T:Txt P w K mg)(B:TabTxt K mg tb):Dfn P w K mg base "rule_reasons" ["plan","entries","ride","minute"] [] 4 (spRuleR K tb):=by
 have nd:=sc_rule_reasons.nd
 refine T.d_rule_reasons.ok sc_rule_reasons (fun vs H Q E h=>?_) (fun f cdv A outer s H vs Q E hr h=>?_)
 ·obtain ⟨_,_,_,_,_,_,rfl,_⟩:=h;rfl
 obtain ⟨pl,l,p,log,r,t,rfl,c,tt,pa,wf,la,lim,q⟩:=h
 refine ⟨_,(zJ H (zB (zL (i:=4) nd rfl (Or.inl rfl) (zT zC)) (zB (zL (i:=5) nd rfl (Or.inl rfl) (zT zC)) (zB (xH PassesOwn.never rfl (t7 K T.b_enumerate (zA (zZ K (pv 0)) zC) (vE zG uF)) (vR H (u9 K (n:=2) rfl (yA (zV (i:=6) nd rfl (Or.inl rfl)) (yA (zV (i:=7) nd rfl (Or.inl rfl)) xN)))) (zJ H (zD (zX (zP yH (zZ K (pv 7)) (pv 2) (zN _)) (zB (zL (i:=8) nd rfl (Or.inl rfl) (zS (ok_readings_of T B) (hr.mono (by decide)) (zA (pv 1) (zA (zZ K (pv 7)) (zA (pv 3) zC))))) (zB (zX (yC (zS (ok_is_stale T) (hr.mono (by decide)) (zA (zY (yI K) (zZ K (pv 0)) (yG wQ (zZ K (pv 7)) zG) (fun _ _=>rfl)) (zA (pv 8) (zA (pv 3) zC))))) (zD (yL (bmK K PySem.F.plainAttrs_list PySem.F.slot_list_append PySem.F.type_list_append yM (pv 4) (zA (vS (zA (yW T.g_SENSOR_STALE) (zA (pv 6) zC))) zC)))) zM) (zD (zX (yC (zZ K (zS (ok_walk_rule T) (hr.mono (by decide)) (zA (pv 7) (zA (pv 8) zC))))) (zD (yL (bmK K PySem.F.plainAttrs_list PySem.F.slot_list_append PySem.F.type_list_append yM (pv 5) (zA (vS (zA (yW T.g_RULE_SHUT) (zA (pv 6) zC))) zC)))) zM)))) zM)))) (zD (zI (yG wH (pv 4) (pv 5)))))))),?_⟩
 refine ⟨yF,fun W hW=>⟨yF,fun Z hZ=>?_⟩⟩
 have nWZ:W≠Z:=zO upd_same hZ
 have hZ0:H Z=none:=yJ (Same.new hW) hZ
 have l0:Lv tb H (upd (upd H W (.lst [])) Z (.lst [])):=((Lv.of tt (Same.refl _) c).new hW).new hZ
 obtain ⟨lc,f1,as,hs,ha⟩:=pa.ru
 obtain ⟨lq,f2,bs,hs2,hb⟩:=pa.se
 refine ⟨_,rfl,_,_,rfl,f1.mono l0.s,lc,_,rfl,rfl,SqL.monoT hs l0.s,wK (K:=K) (a:=lc) (xs:=as.map V.ref) (fun i σ H'=>∃ v v' v'' ts us,σ=[some (.ref pl),some (.ref l),some (.int r),some (.int t),some (.ref W),some (.ref Z),v,v',v'']∧Lv tb H H'∧H' W=some (.lst (ts.map V.ref))∧H' Z=some (.lst (us.map V.ref)) ∧
   All2 (PrAt K H') ts (vM (wT p log r t) 1 (p.rules.take i))∧All2 (PrAt K H') us (vM (vL log r t) 2 (p.rules.take i)))
  ⟨none,none,none,[],[],rfl,l0,by rw [zH nWZ];exact upd_same,upd_same,All2.nil,All2.nil⟩ (fun i σ H' _ ⟨_,_,_,_,_,_,l1,_⟩=>⟨SqL.monoT hs l1.s,l1.c,l1.k⟩) ?_ ?_⟩
 ·rintro i y σ H' hi ⟨v,v',v'',ts,us,rfl,l1,hw,hz,ht,hu⟩
  obtain ⟨a,hx,rfl⟩:=yB hi
  obtain ⟨k,hk,ak⟩:=ha.getA hx
  have ak':=ak.mono l1.s
  have ri:=ak'.ri
  have se:=ak'.se
  have lt:=(List.getElem?_eq_some_iff.mp hk).1
  have nx1:=sel_snoc (wT p log r t) 1 (p.rules.take i) k
  have nx2:=sel_snoc (vL log r t) 2 (p.rules.take i) k
  rw [← yE hk] at nx1 nx2;have li:(p.rules.take i).length=i:=by rw [List.length_take];omega
  rw [li] at nx1 nx2;have sz:(250:Nat) < sizeLine:=by decide
  walk_at "rd"
  refine zR ?_ ?_
  ·intro h1
   have z1:k.ride=r:=by have:=y8 h1;omega
   refine ⟨_,rfl,_,rfl,_,_,rfl,se,_,rfl,l,log,k.sensor,t,rfl,l1.c,l1.b,la.mono l1.s,lim,fun H1 D rs l2 hD0 hD hr=>?_⟩
   have l12:=l1.trans l2
   have nDW:D≠W:=fun e=>by rw [e,hw] at hD0;cases hD0
   have nDZ:D≠Z:=fun e=>by rw [e,hz] at hD0;cases hD0
   obtain ⟨k1,k2⟩:=wf.sn k (List.mem_of_getElem? hk)
   obtain ⟨x,hx⟩:∃ x,p.sensors[k.sensor - 1]? = some x:=⟨_,List.getElem?_eq_getElem (by omega)⟩
   obtain ⟨b,eb,bx⟩:=hb.get hx
   have at1:yZ (bs.map V.ref) ((k.sensor:Int) - 1)=some (V.ref b):=t8 k1 (by rw [List.getElem?_map,eb];rfl)
   have st1:wT p log r t k=Vbtpah.isStale x (Vbtpah.readingsOf log k.sensor t) t:=by
    unfold wT;rw [hx,decide_eq_true z1,Bool.true_and];rfl
   have st2:vL log r t k=(Vbtpah.switchOf k (Vbtpah.readingsOf log k.sensor t)).shut:=by
    unfold vL;rw [decide_eq_true z1,Bool.true_and]
   have hw1:H1 W=some (.lst (ts.map V.ref)):=l2.s _ _ hw fun _ z=>nomatch z
   have hz1:H1 Z=some (.lst (us.map V.ref)):=l2.s _ _ hz fun _ z=>nomatch z
   have ht1:All2 (PrAt K H1) ts _:=ht.mono fun _ _ q=>q.mono l2.s
   have hu1:All2 (PrAt K H1) us _:=hu.mono fun _ _ q=>q.mono l2.s
   have f2':=f2.mono l12.s
   have se':=se.mono l2.s
   have hs2':=SqL.monoT hs2 l12.s
   have bx':=bx.mono l12.s
   have c1:=l12.c
   have hr':RdsAt K H1 D (Vbtpah.readingsOf log k.sensor t):=⟨rs,SqL.of hD,hr⟩
   walk_at "rd"
   refine zR ?_ ?_
   ·intro h2
    rw [st1,if_pos h2] at nx1;refine ⟨_,rfl,.inl ⟨rfl,_,SqL.of hw1⟩,?_⟩
    walk_at "rd"
    intro T hT
    obtain ⟨e1,l3,hw3,ht3,kt,ko⟩:=pr_pushT l12 hW hw1 hT ht1 (x:=(1,i+1))
    rw [← nx1] at ht3;refine ⟨W,_,_,rfl,rfl,e1,?_,?_⟩
    ·have l1:=uC (wT p log r t) 1 (p.rules.take i)
     have l4:=wf.ru
     have l5:=ht.len
     rw [List.length_map];omega
    have hz3:=ko Z _ nWZ.symm hz1
    have hD3:=ko D _ nDW hD
    have hr3:=hr.mono fun _ _ q=>kt _ _ q
    have hu3:=hu1.mono fun _ _ q=>kt _ _ q
    have ra3:=ak.mono l3.s
    refine ⟨_,rfl,_,rfl,a,D,k,_,rfl,l3.c,ra3,⟨rs,SqL.of hD3,hr3⟩,fun H4 x4 s4 c4 g1 g2=>?_⟩
    have l4:=l3.more s4 c4
    have hw4:=s4 _ _ hw3
    have hz4:=s4 _ _ hz3
    have ht4:=ht3.mono fun _ _ q=>PrAt.mono q s4.t
    have hu4:=hu3.mono fun _ _ q=>PrAt.mono q s4.t
    walk_at "rd"
    refine zR ?_ ?_
    ·intro h5
     rw [st2,if_pos h5] at nx2;refine ⟨_,rfl,.inl ⟨rfl,_,SqL.of hz4⟩,?_⟩
     walk_at "rd"
     intro T' hT'
     obtain ⟨e1,l5,hz5,hu5,kt,ko⟩:=pr_pushT l4 hZ0 hz4 hT' hu4 (x:=(2,i+1))
     rw [← nx2] at hu5;have hw5:=ko W _ nWZ hw4
     have ht5:=ht4.mono fun _ _ q=>kt _ _ q
     refine ⟨Z,_,_,rfl,rfl,e1,?_,_,⟨l5.k,l5.c,Same.refl _⟩,_,_,_,_,_,rfl,l5,hw5,hz5,ht5,hu5⟩
     have l1:=uC (vL log r t) 2 (p.rules.take i)
     have l4:=wf.ru
     have l5:=hu.len
     rw [List.length_map];omega
    ·intro h5
     rw [st2,if_neg (by rw [h5];exact Bool.false_ne_true)] at nx2
     rw [← nx2] at hu4;exact ⟨_,⟨l4.k,l4.c,Same.refl _⟩,_,_,_,_,_,rfl,l4,hw4,hz4,ht4,hu4⟩
   ·intro h2
    rw [st1,if_neg (by rw [h2];exact Bool.false_ne_true)] at nx1
    have l3:=l12
    have hw3:=hw1
    have hz3:=hz1
    have hD3:=hD
    have hr3:=hr
    have hu3:=hu1
    have ht3:=ht1
    rw [← nx1] at ht3;have ra3:=ak.mono l3.s
    refine ⟨_,rfl,_,rfl,a,D,k,_,rfl,l3.c,ra3,⟨rs,SqL.of hD3,hr3⟩,fun H4 x4 s4 c4 g1 g2=>?_⟩
    have l4:=l3.more s4 c4
    have hw4:=s4 _ _ hw3
    have hz4:=s4 _ _ hz3
    have ht4:=ht3.mono fun _ _ q=>PrAt.mono q s4.t
    have hu4:=hu3.mono fun _ _ q=>PrAt.mono q s4.t
    walk_at "rd"
    refine zR ?_ ?_
    ·intro h5
     rw [st2,if_pos h5] at nx2;refine ⟨_,rfl,.inl ⟨rfl,_,SqL.of hz4⟩,?_⟩
     walk_at "rd"
     intro T' hT'
     obtain ⟨e1,l5,hz5,hu5,kt,ko⟩:=pr_pushT l4 hZ0 hz4 hT' hu4 (x:=(2,i+1))
     rw [← nx2] at hu5;have hw5:=ko W _ nWZ hw4
     have ht5:=ht4.mono fun _ _ q=>kt _ _ q
     refine ⟨Z,_,_,rfl,rfl,e1,?_,_,⟨l5.k,l5.c,Same.refl _⟩,_,_,_,_,_,rfl,l5,hw5,hz5,ht5,hu5⟩
     have l1:=uC (vL log r t) 2 (p.rules.take i)
     have l4:=wf.ru
     have l5:=hu.len
     rw [List.length_map];omega
    ·intro h5
     rw [st2,if_neg (by rw [h5];exact Bool.false_ne_true)] at nx2
     rw [← nx2] at hu4;exact ⟨_,⟨l4.k,l4.c,Same.refl _⟩,_,_,_,_,_,rfl,l4,hw4,hz4,ht4,hu4⟩
  ·intro h1
   have z1:k.ride≠r:=by have:=y9 h1;omega
   have e1:wT p log r t k=false:=by unfold wT;rw [decide_eq_false z1];rfl
   have e2:vL log r t k=false:=by unfold vL;rw [decide_eq_false z1];rfl
   rw [e1,if_neg Bool.false_ne_true] at nx1;rw [e2,if_neg Bool.false_ne_true] at nx2;refine ⟨_,⟨l1.k,l1.c,Same.refl _⟩,_,_,_,ts,us,rfl,l1,hw,hz,?_,?_⟩
   ·rw [nx1];exact ht
   ·rw [nx2];exact hu
 ·rintro σ H' ⟨v,v',v'',ts,us,rfl,l1,hw,hz,ht,hu⟩
  rw [List.length_map,ha.len,List.take_length] at ht hu;refine ⟨_,rfl,_,rfl,W,Z,_,_,rfl,rfl,hw,hz,?_,fun D hD=>?_⟩
  ·have l1:=uC (wT p log r t) 1 p.rules
   have l2:=uC (vL log r t) 2 p.rules
   have l4:=wf.ru
   have l5:=ht.len
   have l6:=hu.len
   have sz:(250:Nat) < sizeLine:=by decide
   rw [List.length_map,List.length_map];omega
  ·have l2:=l1.new (xs:=ts.map V.ref++us.map V.ref) hD
   refine ⟨_,⟨l2.k,l2.c,Same.refl _⟩,q _ D (ts++us) l2 (l1.none' hD) (by rw [upd_same,List.map_append]) ?_⟩
   exact (All2.app ht hu).mono fun _ _ q=>PrAt.mono q (Same.new hD).t
end
end My
namespace My
open PySem PySem.Spec PyProof.Rows L2
open Vbtpah (Says Log Reading Park Sensor Ride Rule Check)
structure RA (K:zF)(tb:Addr)(H:Hp)(R:Addr)(ps:List (Nat×Nat))(H':Hp)(ts:List Addr):Prop where
 lv : Lv tb H H'
 nw : H R=none
 at_ : H' R=some (.lst (ts.map V.ref))
 all : All2 (PrAt K H') ts ps
theorem RA.lv' {K:zF}{tb:Addr}{H H' H2:Hp}{R:Addr}{ps:List (Nat×Nat)}{ts:List Addr}(a:RA K tb H R ps H' ts)(l:Lv tb H' H2):RA K tb H R ps H2 ts :=
 ⟨a.lv.trans l,a.nw,l.s _ _ a.at_ (fun _ z=>nomatch z),a.all.mono fun _ _ q=>PrAt.mono q l.s⟩
theorem RA.ext {K:zF}{tb:Addr}{H H':Hp}{R:Addr}{ps qs:List (Nat×Nat)}{ts us:List Addr}(a:RA K tb H R ps H' ts)(h2:All2 (PrAt K H') us qs):RA K tb H R (ps++qs) (upd H' R (.lst (ts.map V.ref++us.map V.ref))) (ts++us) :=
 ⟨a.lv.lst a.nw a.at_,a.nw,by rw [upd_same,List.map_append],(a.all.app h2).mono fun _ _ q=>SqT.lstU q a.at_⟩
def PvP (K:zF)(c:Nat)(ns:List Nat)(H1:Hp)(D:Addr)(i:Nat)(H':Hp):Prop:=Same H1 H'∧Clo H'∧∃ ts:List Addr,H' D=some (.lst (ts.map V.ref))∧All2 (PrAt K H') ts ((ns.take i).map fun n=>(c,n))
theorem PvP.zero {K:zF}{c:Nat}{ns:List Nat}{H1:Hp}{D:Addr}(k:Clo H1)(hD:H1 D=none):PvP K c ns H1 D 0 (upd H1 D (.lst [])):=⟨Same.new hD,k.lstN hD,[],upd_same,All2.nil⟩
theorem PvP.step {K:zF}{c:Nat}{ns:List Nat}{H1 H':Hp}{D T:Addr}{i x:Nat}(p:PvP K c ns H1 D i H')(hx:ns[i]? = some x)(hl:ns.length≤250)(hD:H1 D=none)(hT:H' T=none) :
  ∃ acc,(upd H' T (.tup [.int (c:Int),.int (x:Int)])) D=some (.lst acc)∧acc.length < sizeLine∧PvP K c ns H1 D (i+1) (upd (upd H' T (.tup [.int (c:Int),.int (x:Int)])) D (.lst (acc++[V.ref T]))):=by
 obtain ⟨s,k,ts,hd,ht⟩:=p
 obtain ⟨e1,s2,c2,a2,p2⟩:=pr_push s k hD hd hT ht (x:=(c,x))
 refine ⟨_,e1,?_,s2,c2,ts++[T],a2,?_⟩
 ·have l1:=ht.len
  rw [List.length_map,List.length_take] at l1;have sz:(250:Nat) < sizeLine:=by decide
  rw [List.length_map];omega
 ·rw [yE hx,List.map_append];exact p2
theorem why_len (p:Park)(log:Log)(r t:Nat)(wf:PlanWf p)(lim:log.length≤250):(vM (wT p log r t) 1 p.rules).length≤20∧(vM (vL log r t) 2 p.rules).length≤20∧(tI p log r t p.checks).length≤20∧(Vbtpah.locksOn log r).length≤250∧(Vbtpah.openOrders log r).length≤250∧(staffR p log r).length≤1:=by
 refine ⟨Nat.le_trans (uC ..) wf.ru,Nat.le_trans (uC ..) wf.ru,Nat.le_trans (due_len ..) wf.ck,Nat.le_trans (u4 ..) lim,?_,?_⟩
 ·rw [wait_eq];exact Nat.le_trans (tY ..) (Nat.le_trans (ord_len log) lim)
 ·unfold staffR;split<;>simp
section
variable {P:Program}{w:World}{K:zF}{mg:Str→Option Value}{base:Heap}{tb:Addr}
def spWhy (K:zF)(tb:Addr):Sp:=fun vs H Q _=>∃ (pl l:Addr) (p:Park) (log:Log) (r t:Nat),vs=[.ref pl,.ref l,.int (r:Int),.int (t:Int)]∧Clo H∧TabOk tb H∧PlanAt K H pl p∧PlanWf p∧1≤r∧r≤p.rides.length∧LogAt K H l log∧log.length≤250∧M.LogOk log ∧
 ∀ H' D ts,Lv tb H H'→H D=none→H' D=some (.lst (ts.map V.ref))→All2 (PrAt K H') ts (Vbtpah.whyNot p log r t)→Q (.ref D) H'
theorem sc_reasons_against : zK ["plan","entries","ride","minute","reasons","who","order"] ["plan","entries","ride","minute"] (zE (z9 114)):=by walk_at "sc"
theorem xV (T:Txt P w K mg)(B:TabTxt K mg tb):Dfn P w K mg base "reasons_against" ["plan","entries","ride","minute"] [] 5 (spWhy K tb):=by
 have nd:=sc_reasons_against.nd
 refine T.d_reasons_against.ok sc_reasons_against (fun vs H Q E h=>?_) (fun f cdv A outer s H vs Q E hr h=>?_)
 ·obtain ⟨_,_,_,_,_,_,rfl,_⟩:=h;rfl
 obtain ⟨pl,l,p,log,r,t,rfl,c,tt,pa,wf,r1,r2,la,lim,lo,q⟩:=h
 refine ⟨_,(zJ H (zB (zL (i:=4) nd rfl (Or.inl rfl) (zS (ok_rule_reasons T B) (hr.mono (by decide)) (zA (pv 0) (zA (pv 1) (zA (pv 2) (zA (pv 3) zC)))))) (zB (yL (bmK K PySem.F.plainAttrs_list PySem.F.slot_list_extend PySem.F.type_list_extend wW (pv 4) (zA (zS (ok_check_reasons T) (hr.mono (by decide)) (zA (pv 0) (zA (pv 1) (zA (pv 2) (zA (pv 3) zC))))) zC))) (zB (yL (bmK K PySem.F.plainAttrs_list PySem.F.slot_list_extend PySem.F.type_list_extend wW (pv 4) (zA (vA rfl nd (vH K (zS (uW T) (hr.mono (by decide)) (zA (pv 1) (zA (pv 2) zC)))) (yS (own:=[("who",5)]) rfl) (fun _ _ _ _ _=>(zV (i:=5) nd rfl (Or.inl rfl))) (fun _ _ _ _ _=>xY) (fun _ _ _ _ _=>(vS (zA (yW T.g_LOCK_ON) (zA (pv 5) zC))))) zC))) (zB (yL (bmK K PySem.F.plainAttrs_list PySem.F.slot_list_extend PySem.F.type_list_extend wW (pv 4) (zA (vA rfl nd (vH K (zS (ok_orders_waiting T) (hr.mono (by decide)) (zA (pv 1) (zA (pv 2) zC)))) (yS (own:=[("order",6)]) rfl) (fun _ _ _ _ _=>(zV (i:=6) nd rfl (Or.inl rfl))) (fun _ _ _ _ _=>xY) (fun _ _ _ _ _=>(vS (zA (yW T.g_ORDER_WAITS) (zA (pv 6) zC))))) zC))) (zB (yL (bmK K PySem.F.plainAttrs_list PySem.F.slot_list_extend PySem.F.type_list_extend wW (pv 4) (zA (zS (ok_staff_reasons T) (hr.mono (by decide)) (zA (pv 0) (zA (pv 1) (zA (pv 2) zC)))) zC))) (zD (zI (pv 4))))))))),?_⟩
 obtain ⟨b1,b2,b3,b4,b5,b6⟩:=why_len p log r t wf lim
 have sz:(600:Nat) < sizeLine:=by decide
 rw [why_eq] at q;refine ⟨_,rfl,_,rfl,_,rfl,_,rfl,pl,l,p,log,r,t,rfl,c,tt,pa,wf,la,lim,fun H1 R ts1 l1 hR0 hR1 at1=>?_⟩
 have a1:RA K tb H R _ H1 ts1:=⟨l1,hR0,hR1,at1⟩
 refine ⟨_,rfl,.inl ⟨rfl,_,SqL.of hR1⟩,_,rfl,_,rfl,_,rfl,_,rfl,pl,l,p,log,r,t,rfl,l1.c,pa.mono l1.s,wf,la.mono l1.s,lim,fun H2 D2 us2 s2 c2 hD0 hD2 at2=>?_⟩
 have a2:=(a1.lv' (Lv.of l1.b s2 c2))
 have n2:D2≠R:=fun e=>by rw [e,hR1] at hD0;cases hD0
 refine ⟨R,D2,_,_,rfl,rfl,a2.at_,hD2,?_,?_⟩
 ·have:=a2.all.len
  have:=at2.len
  rw [List.length_map,List.length_map];rw [List.length_append] at *
  omega
 have a3:=a2.ext at2
 generalize upd H2 R _=H3 at a3 ⊢
 refine ⟨_,rfl,.inl ⟨rfl,_,SqL.of a3.at_⟩,?_⟩
 refine ⟨_,rfl,_,rfl,l,log,r,rfl,a3.lv.c,la.mono a3.lv.s,lim,lo,fun W hW=>?_⟩
 have lW:=(Lv.of a3.lv.b (Same.refl _) a3.lv.c).new (xs:=(Vbtpah.locksOn log r).map vn) hW
 have hWW:(upd H3 W (.lst ((Vbtpah.locksOn log r).map vn))) W=some (.lst ((Vbtpah.locksOn log r).map vn)):=upd_same
 have a4:=a3.lv' lW
 generalize upd H3 W _=H4 at a4 hWW lW ⊢
 refine ⟨W,rfl,⟨_,SqL.of hWW⟩,fun D hD=>x9 (K:=K) (xs:=(Vbtpah.locksOn log r).map vn) (PvP K 4 (Vbtpah.locksOn log r) H4 D) (PvP.zero a4.lv.c hD) (fun i H' _ p=>p.1.seq (SqL.of hWW)) ?_ ?_⟩
 ·rintro i y H' hi p5
  obtain ⟨x,hx,rfl⟩:=yB hi
  walk_at "rd"
  exact fun T hT=>p5.step hx b4 hD hT
 intro H5 ⟨s5,c5,us5,hD5,at5⟩
 rw [List.length_map,List.take_length] at at5;have n5:D≠R:=fun e=>by rw [e,a4.at_] at hD;cases hD
 have a5:=a4.lv' (Lv.of a4.lv.b s5 c5)
 refine ⟨R,D,_,_,rfl,rfl,a5.at_,hD5,?_,?_⟩
 ·have h1:=a5.all.len
  have h2:=at5.len
  simp only [List.length_append,List.length_map] at h1 h2 ⊢;omega
 have a6:=a5.ext at5
 generalize upd H5 R _=H6 at a6 ⊢
 clear a5 a4 a3 a2;refine ⟨_,rfl,.inl ⟨rfl,_,SqL.of a6.at_⟩,?_⟩
 refine ⟨_,rfl,_,rfl,l,log,r,rfl,a6.lv.c,la.mono a6.lv.s,lim,fun W hW=>?_⟩
 have lW:=(Lv.of a6.lv.b (Same.refl _) a6.lv.c).new (xs:=(Vbtpah.openOrders log r).map vn) hW
 have hWW:(upd H6 W (.lst ((Vbtpah.openOrders log r).map vn))) W=some (.lst ((Vbtpah.openOrders log r).map vn)):=upd_same
 have a7:=a6.lv' lW
 generalize upd H6 W _=H7 at a7 hWW lW ⊢
 refine ⟨W,rfl,⟨_,SqL.of hWW⟩,fun D hD=>x9 (K:=K) (xs:=(Vbtpah.openOrders log r).map vn) (PvP K 5 (Vbtpah.openOrders log r) H7 D) (PvP.zero a7.lv.c hD) (fun i H' _ p=>p.1.seq (SqL.of hWW)) ?_ ?_⟩
 ·rintro i y H' hi p5
  obtain ⟨x,hx,rfl⟩:=yB hi
  walk_at "rd"
  exact fun T hT=>p5.step hx b5 hD hT
 intro H8 ⟨s8,c8,us8,hD8,at8⟩
 rw [List.length_map,List.take_length] at at8;have n8:D≠R:=fun e=>by rw [e,a7.at_] at hD;cases hD
 have a8:=a7.lv' (Lv.of a7.lv.b s8 c8)
 refine ⟨R,D,_,_,rfl,rfl,a8.at_,hD8,?_,?_⟩
 ·have h1:=a8.all.len
  have h2:=at8.len
  simp only [List.length_append,List.length_map] at h1 h2 ⊢;omega
 have a9:=a8.ext at8
 generalize upd H8 R _=H9 at a9 ⊢
 clear a8 a7 a6;refine ⟨_,rfl,.inl ⟨rfl,_,SqL.of a9.at_⟩,_,rfl,_,rfl,_,rfl,pl,l,p,log,r,rfl,a9.lv.c,pa.mono a9.lv.s,r1,r2,la.mono a9.lv.s,fun H10 D10 us10 s10 c10 hD10 hE10 at10=>?_⟩
 have n10:D10≠R:=fun e=>by rw [e,a9.at_] at hD10;cases hD10
 have a10:=a9.lv' (Lv.of a9.lv.b s10 c10)
 refine ⟨R,D10,_,_,rfl,rfl,a10.at_,hE10,?_,?_⟩
 ·have h1:=a10.all.len
  have h2:=at10.len
  simp only [List.length_append,List.length_map] at h1 h2 ⊢;omega
 have a11:=a10.ext at10
 exact ⟨_,rfl,_,⟨a11.lv.k,a11.lv.c,Same.refl _⟩,q _ R _ a11.lv hR0 a11.at_ a11.all⟩
end
end My
namespace My
open PySem PySem.Spec PyProof.Rows L2
open Vbtpah (Says Log Reading Park Sensor Ride Rule Check)
def st (w:List Nat):Str:=⟨w.toArray⟩
abbrev sw (w:List Nat):V:=.str (st w)
theorem st_inj {a b:List Nat}:st a=st b ↔ a=b:=by
 constructor
 ·intro h
  have:=congrArg (fun z:Str=>z.cps.toList) h
  simpa [st] using this
 ·rintro rfl;rfl
theorem xX (w:List Nat):(st w).length=w.length:=by
 show w.toArray.size=_
 simp
theorem st_app (a b:List Nat):st a++st b=st (a++b):=by
 show Str.mk (a.toArray++b.toArray)=Str.mk (a++b).toArray
 simp
theorem st_of (x:Str):x=st x.cps.toList:=by
 show x=Str.mk x.cps.toList.toArray
 simp
def Sg (c:Nat):Prop:=c=10∨c=32∨(48≤c∧c≤57)∨(97≤c∧c≤122)∨c=63
abbrev SgW (w:List Nat):Prop:=∀ c∈w,Sg c
theorem sgn_sg (b:Nat):Sg (M.sgn b):=by
 unfold Sg M.sgn;split
 ·omega
 ·split
  ·omega
  ·split
   ·omega
   ·split<;>omega
theorem Sg.lt {c:Nat}(h:Sg c):c < 128:=by unfold Sg at h;omega
theorem alpha_all : ∀ c,c < 128→(65≤c∧c≤90)∨Unicode.isAlpha c=Vbtpah.isLetter c:=by decide +kernel
theorem digit_all : ∀ c,c < 128→Unicode.isDigit c=Vbtpah.isDigit c:=by decide +kernel
theorem Sg.alpha {c:Nat}(h:Sg c):Unicode.isAlpha c=Vbtpah.isLetter c:=(alpha_all c h.lt).resolve_left (by unfold Sg at h;omega)
theorem Sg.digit {c:Nat}(h:Sg c):Unicode.isDigit c=Vbtpah.isDigit c:=digit_all c h.lt
theorem tV {α:Type}{p q:α→Bool}:∀ {l:List α},(∀ c∈l,p c=q c)→l.all p=l.all q
 | [],_=>rfl
 | a::l,h=>by rw [List.all_cons,List.all_cons,h a (by simp),tV fun c hc=>h c (by simp [hc])]
theorem isalpha_st {w:List Nat}(h:SgW w):PySem.Txt.isalpha (st w)=(decide (0 < w.length)&&w.all Vbtpah.isLetter):=by
 unfold PySem.Txt.isalpha;rw [xX];show (decide (0 < w.length)&&w.toArray.all Unicode.isAlpha)=_
 rw [List.all_toArray,tV fun c hc=>(h c hc).alpha]
theorem isdigit_st {w:List Nat}(h:SgW w):PySem.Txt.isdigit (st w)=(decide (0 < w.length)&&w.all Vbtpah.isDigit):=by
 unfold PySem.Txt.isdigit;rw [xX];show (decide (0 < w.length)&&w.toArray.all Unicode.isDigit)=_
 rw [List.all_toArray,tV fun c hc=>(h c hc).digit]
theorem int_st {w:List Nat}(h:M.pNum w=true):PySem.intText? (st w)=some (M.valOf w:Int)∧(st w).length≤640:=by
 obtain ⟨h1,h2,_,h4⟩:=M.pNum_parts h
 have e:(st w).cps.toList=w:=by simp [st]
 have ad:PySem.NumText.AllDigits w:=fun c hc=>M.dig (List.all_eq_true.mp h2 c hc)
 have l:(st w).length≤5:=by rw [xX];exact h4
 refine ⟨?_,by omega⟩
 rw [PySem.intText_digits (by rw [e];exact ad) (by rw [e];exact h1) (by omega),e]
 unfold PySem.NumText.digitsVal M.valOf
 congr 2
 congr 1
 funext a c
 rw [Nat.mul_comm]
def joinC (c:Nat):List (List Nat)→List Nat
 | []=>[]
 | [w]=>w
 | w::v::r=>w++c::joinC c (v::r)
theorem cut_app (c:Nat):∀ (w r:List Nat),c∉w→Vbtpah.cutAt c (w++c::r)=w::Vbtpah.cutAt c r
 | [],r,_=>by
  show (match Vbtpah.cutAt c r with | []=>[[]] | w::t=>if c=c then []::w::t else (c::w)::t)=_
  cases e:Vbtpah.cutAt c r with
  | nil=>exact (M.cutAt_ne c r e).elim
  | cons a t=>simp
 | x::w,r,h=>by
  have ih:=cut_app c w r fun z=>h (by simp [z])
  show (match Vbtpah.cutAt c (w++c::r) with | []=>[[]] | w::t=>if x=c then []::w::t else (x::w)::t)=_
  rw [ih];have:x≠c:=fun z=>h (by simp [z])
  simp [this]
theorem cut_one (c:Nat):∀ (w:List Nat),c∉w→Vbtpah.cutAt c w=[w]
 | [],_=>rfl
 | x::w,h=>by
  have ih:=cut_one c w fun z=>h (by simp [z])
  show (match Vbtpah.cutAt c w with | []=>[[]] | w::t=>if x=c then []::w::t else (x::w)::t)=_
  rw [ih];have:x≠c:=fun z=>h (by simp [z])
  simp [this]
theorem cut_join (c:Nat):∀ (ws:List (List Nat)),ws≠[]→(∀ w∈ws,c∉w)→Vbtpah.cutAt c (joinC c ws)=ws
 | [],h,_=>(h rfl).elim
 | [w],_,h=>cut_one c w (h w (by simp))
 | w::v::r,_,h=>by
  show Vbtpah.cutAt c (w++c::joinC c (v::r))=_
  rw [cut_app c w _ (h w (by simp)),cut_join c (v::r) (by simp) fun u hu=>h u (by simp [List.mem_cons.mp hu])]
theorem join_st (c:Nat):∀ (xs:List Str),(Str.join ⟨#[c]⟩ xs).cps.toList=joinC c (xs.map fun x=>x.cps.toList)
 | []=>rfl
 | [x]=>rfl
 | x::y::r=>by
  show (x++⟨#[c]⟩++Str.join ⟨#[c]⟩ (y::r)).cps.toList=x.cps.toList++c::joinC c ((y::r).map fun x=>x.cps.toList)
  rw [← join_st c (y::r)];show (x.cps ++ #[c]++(Str.join ⟨#[c]⟩ (y::r)).cps).toList=_
  simp
theorem split_st (w:List Nat)(c:Nat):PySem.Txt.split (st w) ⟨#[c]⟩=(Vbtpah.cutAt c w).map st:=by
 have h1:=PySem.StrLaws.join_split (st w) ⟨#[c]⟩
 have h2:=PySem.StrLaws.split_free (st w) c
 have h3:=PyProof.Rows.split_pos (st w) ⟨#[c]⟩
 generalize PySem.Txt.split (st w) ⟨#[c]⟩=xs at *
 have e:=join_st c xs
 rw [h1] at e;have e2:w=joinC c (xs.map fun x=>x.cps.toList):=by rw [← e];simp [st]
 rw [e2,cut_join c _ (by intro z;have:=congrArg List.length z;simp at this;rw [this] at h3;simp at h3) (by
  intro u hu
  obtain ⟨x,hx,rfl⟩:=List.mem_map.mp hu
  exact h2 x hx),List.map_map]
 conv=>lhs;rw [← List.map_id xs]
 exact List.map_congr_left fun x _=>st_of x
theorem join0_st : ∀ (ws:List (List Nat)),PySem.Txt.join (st []) (ws.map st)=st ws.flatten:=by
 intro ws
 show PySem.Builtin.Str.glued _ _=_
 rw [PySem.StrLaws.glued_eq_join]
 induction ws with
 | nil=>rfl
 | cons w r ih =>
  cases r with
  | nil=>show st w=_;simp
  | cons v r =>
   show st w++st []++Str.join (st []) ((v::r).map st)=_
   rw [ih,st_app,List.append_nil,st_app];rfl
theorem cut_len (c:Nat):∀ (l:List Nat),(Vbtpah.cutAt c l).length≤l.length+1
 | []=>by simp [Vbtpah.cutAt]
 | x::l=>by
  have ih:=cut_len c l
  show (match Vbtpah.cutAt c l with | []=>[[]] | w::t=>if x=c then []::w::t else (x::w)::t).length≤_
  cases e:Vbtpah.cutAt c l with
  | nil=>simp
  | cons a t =>
   rw [e] at ih;simp only [List.length_cons] at ih ⊢
   split<;>simp<;>omega
theorem cut_mem (c:Nat):∀ (l w:List Nat),w∈Vbtpah.cutAt c l→w.length≤l.length∧∀ x∈w,x∈l
 | [],w,h=>by simp [Vbtpah.cutAt] at h;subst h;simp
 | x::l,w,h=>by
  have ih:=cut_mem c l
  change w∈(match Vbtpah.cutAt c l with | []=>[[]] | w::t=>if x=c then []::w::t else (x::w)::t) at h
  cases e:Vbtpah.cutAt c l with
  | nil=>exact (M.cutAt_ne c l e).elim
  | cons a t =>
   rw [e] at h;rw [e] at ih;simp only at h
   split at h
   ·rcases List.mem_cons.mp h with rfl | h
    ·simp
    ·have:=ih w h
     exact ⟨by simp;omega,fun y hy=>by simp [this.2 y hy]⟩
   ·rcases List.mem_cons.mp h with rfl | h
    ·have:=ih a (by simp)
     refine ⟨by simp;omega,fun y hy=>?_⟩
     rcases List.mem_cons.mp hy with rfl | hy
     ·simp
     ·simp [this.2 y hy]
    ·have:=ih w (by simp [h])
     exact ⟨by simp;omega,fun y hy=>by simp [this.2 y hy]⟩
end My
namespace My
open PySem PySem.Spec PyProof.Rows L2
open Vbtpah (Says Log Reading Park Sensor Ride Rule Check)
theorem s_n : Str.ofString "n"=st [110]:=by decide +kernel
theorem s_0 : Str.ofString "0"=st [48]:=by decide +kernel
theorem s_nl : Str.ofString "\n"=st [10]:=by decide +kernel
theorem s_sp : Str.ofString " "=st [32]:=by decide +kernel
theorem s_q : Str.ofString "?"=st [63]:=by decide +kernel
theorem s_e : Str.ofString ""=st []:=by decide +kernel
theorem digs_at : ∀ k,k < 10→(Str.ofString "0123456789").cps.toList[k]? = some (48+k):=by decide +kernel
theorem lets_at : ∀ k,k < 26→(Str.ofString "abcdefghijklmnopqrstuvwxyz").cps.toList[k]? = some (97+k):=by decide +kernel
theorem digs_len : (Str.ofString "0123456789").length≤sizeLine:=by decide +kernel
theorem lets_len : (Str.ofString "abcdefghijklmnopqrstuvwxyz").length≤sizeLine:=by decide +kernel
theorem xI {α:Type}{xs:List α}{k:Int}{n:Nat}{v:α}(hk:k=(n:Int))(h:xs[n]? = some v):yZ xs k=some v:=by
 have lt:=(List.getElem?_eq_some_iff.mp h).1
 subst hk;unfold yZ ixN;rw [if_pos (by omega),if_pos (by omega)];show xs[((n:Int)).toNat]? = some v
 rw [show ((n:Int)).toNat=n by omega];exact h
theorem decW (a b:List Nat):decide (V.str (st a)=V.str (st b))=(a==b):=by
 by_cases h:a=b
 ·subst h;simp
 ·rw [decide_eq_false (fun z=>h (st_inj.mp (V.str.inj z)))]
  exact (beq_eq_false_iff_ne.mpr h).symm
def vF : M.Mark→List Nat
 | .name=>[110]
 | .num=>[48]
 | .word k=>k
def MkOk : M.Mark→Prop
 | .word k=>k≠[110]∧k≠[48]
 | _=>True
theorem forms_ok : ∀ ms∈M.forms,∀ m∈ms,MkOk m:=by
 intro ms h m hm
 simp only [M.forms,List.mem_cons,List.not_mem_nil,or_false] at h;rcases h with rfl | rfl | rfl | rfl | rfl | rfl <;>
  (simp only [List.mem_cons,List.not_mem_nil,or_false] at hm;rcases hm with rfl | rfl | rfl | rfl | rfl | rfl | rfl | rfl | rfl | rfl<;>first | exact trivial | (constructor<;>decide) | skip)
section
variable {P:Program}{w:World}{K:zF}{mg:Str→Option Value}{base:Heap}{tb:Addr}
def spSign : Sp:=fun vs H Q _=>∃ (b:Nat),vs=[.int (b:Int)]∧Clo H∧Q (sw [M.sgn b]) H
theorem sc_sign_of : zK ["byte"] ["byte"] (zE (z9 66)):=by walk_at "sc"
theorem ok_sign_of (T:Txt P w K mg):Dfn P w K mg base "sign_of" ["byte"] [] 1 spSign:=by
 have nd:=sc_sign_of.nd
 refine T.d_sign_of.ok sc_sign_of (fun vs H Q E h=>?_) (fun f cdv A outer s H vs Q E hr h=>?_)
 ·obtain ⟨_,rfl,_⟩:=h;rfl
 obtain ⟨b,rfl,c,q⟩:=h
 refine ⟨_,(zJ H (zB (zX (zP yH (pv 0) zG (zN _)) (zD (zI wO)) zM) (zB (zX (zP yH (pv 0) zG (zN _)) (zD (zI wO)) zM) (zB (zX (uQ wJ wJ zG (pv 0) zG) (zD (zI (zY ix_str (pgs T.g_DIGITS) (yG wQ (pv 0) zG) (fun _ _=>rfl)))) zM) (zB (zX (uQ wJ wJ zG (pv 0) zG) (zD (zI (zY ix_str (pgs T.g_LETTERS) (yG wQ (pv 0) zG) (fun _ _=>rfl)))) zM) (zD (zI wO))))))),?_⟩
 unfold M.sgn at q;walk_at "rd"
 refine zR ?_ ?_
 ·intro h1
  have z1:=y8 h1
  rw [if_pos (by omega)] at q;refine ⟨_,Fg.self c (Same.refl _),?_⟩
  rw [s_nl];exact q
 intro h1
 have z1:=y9 h1
 rw [if_neg (by omega)] at q;walk_at "rd"
 refine zR ?_ ?_
 ·intro h2
  have z2:=y8 h2
  rw [if_pos (by omega)] at q;refine ⟨_,Fg.self c (Same.refl _),?_⟩
  rw [s_sp];exact q
 intro h2
 have z2:=y9 h2
 rw [if_neg (by omega)] at q;walk_at "rd"
 refine zR ?_ ?_
 ·intro h3
  have z3:48≤b:=by have:=of_decide_eq_true h3;omega
  walk_at "rd"
  refine zR ?_ ?_
  ·intro h4
   have z4:b≤57:=by have:=of_decide_eq_true h4;omega
   rw [if_pos (by omega)] at q;have e:=digs_at (b - 48) (by omega)
   rw [show 48+(b - 48)=b by omega] at e;have dl:=digs_len
   have at1:yZ (Str.ofString "0123456789").cps.toList ((b:Int) - 48)=some b:=xI (n:=b - 48) (by omega) e
   walk_at "rd"
   exact Fg.self c (Same.refl _)
  ·intro h4
   have z4:¬ b≤57:=by have:=of_decide_eq_false h4;omega
   rw [if_neg (by omega)] at q;walk_at "rd"
   refine zR ?_ ?_
   ·intro h3
    have y3:97≤b:=by have:=of_decide_eq_true h3;omega
    walk_at "rd"
    refine zR ?_ ?_
    ·intro h4
     have z4:b≤122:=by have:=of_decide_eq_true h4;omega
     rw [if_pos (by omega)] at q;have e:=lets_at (b - 97) (by omega)
     rw [show 97+(b - 97)=b by omega] at e;have dl:=lets_len
     have at1:yZ (Str.ofString "abcdefghijklmnopqrstuvwxyz").cps.toList ((b:Int) - 97)=some b:=xI (n:=b - 97) (by omega) e
     walk_at "rd"
     exact Fg.self c (Same.refl _)
    ·intro h4
     have z4:¬ b≤122:=by have:=of_decide_eq_false h4;omega
     rw [if_neg (by omega)] at q;exact ⟨_,Fg.self c (Same.refl _),s_q ▸ q⟩
   ·intro h3
    have y3:¬ 97≤b:=by have:=of_decide_eq_false h3;omega
    rw [if_neg (by omega)] at q;exact ⟨_,rfl,_,Fg.self c (Same.refl _),s_q ▸ q⟩
 ·intro h3
  have z3:¬ 48≤b:=by have:=of_decide_eq_false h3;omega
  rw [if_neg (by omega)] at q;refine ⟨_,rfl,?_⟩
  walk_at "rd"
  refine zR ?_ ?_
  ·intro h3
   have y3:97≤b:=by have:=of_decide_eq_true h3;omega
   walk_at "rd"
   refine zR ?_ ?_
   ·intro h4
    have z4:b≤122:=by have:=of_decide_eq_true h4;omega
    rw [if_pos (by omega)] at q;have e:=lets_at (b - 97) (by omega)
    rw [show 97+(b - 97)=b by omega] at e;have dl:=lets_len
    have at1:yZ (Str.ofString "abcdefghijklmnopqrstuvwxyz").cps.toList ((b:Int) - 97)=some b:=xI (n:=b - 97) (by omega) e
    walk_at "rd"
    exact Fg.self c (Same.refl _)
   ·intro h4
    have z4:¬ b≤122:=by have:=of_decide_eq_false h4;omega
    rw [if_neg (by omega)] at q;exact ⟨_,Fg.self c (Same.refl _),s_q ▸ q⟩
  ·intro h3
   have y3:¬ 97≤b:=by have:=of_decide_eq_false h3;omega
   rw [if_neg (by omega)] at q;exact ⟨_,rfl,_,Fg.self c (Same.refl _),s_q ▸ q⟩
def Wd (w:List Nat):Prop:=SgW w∧w.length≤2000
theorem Wd.sz {w:List Nat}(h:Wd w):(st w).length≤sizeLine:=by
 rw [xX];exact Nat.le_trans h.2 (by decide)
def spName : Sp:=fun vs H Q _=>∃ w,vs=[sw w]∧Wd w∧Clo H∧Q (.bl (Vbtpah.isName w)) H
theorem sc_is_name : zK ["word"] ["word"] (zE (z9 67)):=by walk_at "sc"
theorem ok_is_name (T:Txt P w K mg):Dfn P w K mg base "is_name" ["word"] [] 1 spName:=by
 have nd:=sc_is_name.nd
 refine T.d_is_name.ok sc_is_name (fun vs H Q E h=>?_) (fun f cdv A outer s H vs Q E hr h=>?_)
 ·obtain ⟨_,rfl,_⟩:=h;rfl
 obtain ⟨w,rfl,hw,c,q⟩:=h
 refine ⟨_,(zJ H (zD (zI (vU (yO wJ (zU call_len_str rfl T.b_len yD (zA (pv 0) zC)) zG (zN _)) (vT (pe_m0 PySem.F.slot_str_isalpha PySem.F.type_str_isalpha mt_isalpha (pv 0))))))),?_⟩
 have sz:=hw.sz
 unfold Vbtpah.isName at q;walk_at "rd"
 refine zR ?_ ?_
 ·intro h1
  have z1:w.length≤8:=by have:=of_decide_eq_true h1;rw [xX] at this;omega
  refine ⟨_,rfl,⟨_,rfl⟩,_,rfl,rfl,trivial,_,Fg.self c (Same.refl _),?_⟩
  rw [isalpha_st hw.1];rw [show decide (1≤w.length∧w.length≤8)=decide (0 < w.length) by
   by_cases h:0 < w.length
   ·rw [decide_eq_true h,decide_eq_true ⟨h,z1⟩]
   ·rw [decide_eq_false h,decide_eq_false (fun z=>h z.1)]] at q
  exact q
 ·intro h1
  have z1:¬ w.length≤8:=by have:=of_decide_eq_false h1;rw [xX] at this;omega
  rw [decide_eq_false (fun z=>z1 z.2),Bool.false_and] at q;exact ⟨_,Fg.self c (Same.refl _),q⟩
def spNumb : Sp:=fun vs H Q _=>∃ w,vs=[sw w]∧Wd w∧Clo H∧Q (.bl (M.pNum w)) H
theorem sc_is_number : zK ["word"] ["word"] (zE (z9 68)):=by walk_at "sc"
theorem ok_is_number (T:Txt P w K mg):Dfn P w K mg base "is_number" ["word"] [] 1 spNumb:=by
 have nd:=sc_is_number.nd
 refine T.d_is_number.ok sc_is_number (fun vs H Q E h=>?_) (fun f cdv A outer s H vs Q E hr h=>?_)
 ·obtain ⟨_,rfl,_⟩:=h;rfl
 obtain ⟨w,rfl,hw,c,q⟩:=h
 refine ⟨_,(zJ H (zD (zI (vU (yO wJ (zU call_len_str rfl T.b_len yD (zA (pv 0) zC)) zG (zN _)) (vU (pe_m0 PySem.F.slot_str_isdigit PySem.F.type_str_isdigit mt_isdigit (pv 0)) (vT (pe_or (yO yH (pv 0) wO (zN _)) (vT (yO tH (zY ix_str (pv 0) zG (fun _ _=>rfl)) wO (zN _)))))))))),?_⟩
 have sz:=hw.sz
 unfold M.pNum at q;walk_at "rd"
 refine zR ?_ ?_
 ·intro h1
  have z1:w.length≤5:=by have:=of_decide_eq_true h1;rw [xX] at this;omega
  rw [decide_eq_true z1,Bool.true_and] at q;refine ⟨_,rfl,⟨_,rfl⟩,_,rfl,rfl,trivial,?_⟩
  rw [isdigit_st hw.1]
  cases w with
  | nil=>exact ⟨_,rfl,_,Fg.self c (Same.refl _),q⟩
  | cons d r =>
   rw [show (decide (0 < (d::r).length)&&(d::r).all Vbtpah.isDigit)=(d::r).all Vbtpah.isDigit by simp];rw [show (!(d::r).isEmpty&&(d::r).all Vbtpah.isDigit)=(d::r).all Vbtpah.isDigit by simp] at q;refine ⟨_,rfl,?_⟩
   refine zR ?_ ?_
   ·intro h2
    rw [h2,Bool.true_and] at q;have at1:yZ (st (d::r)).cps.toList 0=some d:=xI (n:=0) rfl (by simp [st])
    walk_at "rd"
    rw [s_0];rw [decW];refine zR ?_ ?_
    ·intro h3
     rw [h3,Bool.true_or] at q;exact ⟨_,Fg.self c (Same.refl _),q⟩
    ·intro h3
     rw [h3,Bool.false_or] at q;refine ⟨_,rfl,_,_,_,rfl,rfl,sz,at1,rfl,_,Fg.self c (Same.refl _),?_⟩
     rw [show (⟨#[d]⟩:Str)=st [d] from rfl,decW]
     rw [show (!((d::r).head? == some 48)) = !([d]==[48]) by simp] at q
     exact q
   ·intro h2
    rw [h2,Bool.false_and] at q;exact ⟨_,Fg.self c (Same.refl _),q⟩
 ·intro h1
  have z1:¬ w.length≤5:=by have:=of_decide_eq_false h1;rw [xX] at this;omega
  rw [decide_eq_false z1,Bool.false_and,Bool.false_and] at q;exact ⟨_,Fg.self c (Same.refl _),q⟩
def spFit : Sp:=fun vs H Q _=>∃ w m,vs=[sw w,sw (vF m)]∧Wd w∧MkOk m∧Clo H∧Q (.bl (M.fit w m)) H
theorem sc_word_fits : zK ["word","mark"] ["word","mark"] (zE (z9 69)):=by walk_at "sc"
theorem ok_word_fits (T:Txt P w K mg):Dfn P w K mg base "word_fits" ["word","mark"] [] 2 spFit:=by
 have nd:=sc_word_fits.nd
 refine T.d_word_fits.ok sc_word_fits (fun vs H Q E h=>?_) (fun f cdv A outer s H vs Q E hr h=>?_)
 ·obtain ⟨_,_,rfl,_⟩:=h;rfl
 obtain ⟨w,m,rfl,hw,hm,c,q⟩:=h
 refine ⟨_,(zJ H (zB (zX (zP yH (pv 1) (pgs T.g_NAME) (zN _)) (zD (zI (zS (ok_is_name T) (hr.mono (by decide)) (zA (pv 0) zC)))) zM) (zB (zX (zP yH (pv 1) (pgs T.g_NUMBER) (zN _)) (zD (zI (zS (ok_is_number T) (hr.mono (by decide)) (zA (pv 0) zC)))) zM) (zD (zI (yO yH (pv 0) (pv 1) (zN _))))))),?_⟩
 walk_at "rd"
 rw [s_n,decW];refine zR ?_ ?_
 ·intro h1
  have z1:m = .name:=by
   cases m with
   | name=>rfl
   | num=>exact (by decide:([48]==[110])≠true) h1 |>.elim
   | word k=>exact (hm.1 (by simpa [vF] using h1)).elim
  subst z1;exact ⟨_,rfl,w,rfl,hw,c,_,Fg.self c (Same.refl _),q⟩
 ·intro h1
  walk_at "rd"
  rw [s_0,decW];refine zR ?_ ?_
  ·intro h2
   have z1:m = .num:=by
    cases m with
    | name=>exact (by decide:([110]==[48])≠true) h2 |>.elim
    | num=>rfl
    | word k=>exact (hm.2 (by simpa [vF] using h2)).elim
   subst z1;exact ⟨_,rfl,w,rfl,hw,c,_,Fg.self c (Same.refl _),q⟩
  ·intro h2
   cases m with
   | name=>exact (by decide:([110]==[110])≠false) h1 |>.elim
   | num=>exact (by decide:([48]==[48])≠false) h2 |>.elim
   | word k =>
    walk_at "rd"
    ·exact Fg.self c (Same.refl _)
    ·rw [decW];exact q
def PvK {α:Type}(G:α→Option V)(xs:List α)(H1:Hp)(D:Addr)(i:Nat)(H:Hp):Prop:=PvC G xs H1 D i H∧Clo H
theorem PvK.zero {α:Type}{G:α→Option V}{xs:List α}{H1:Hp}{D:Addr}(c:Clo H1)(hD:H1 D=none):PvK G xs H1 D 0 (upd H1 D (.lst [])):=⟨lc_0 hD,c.lstN hD⟩
theorem PvK.yes {α:Type}{G:α→Option V}{xs:List α}{H1 H H4:Hp}{D:Addr}{i:Nat}{x:α}{y:V}(hi:xs[i]? = some x)(hz:xs.length≤sizeLine)(hD:H1 D=none)(p:PvK G xs H1 D i H)(gx:G x=some y)(s4:Same H H4)(c4:Clo H4) :
  ∃ acc,H4 D=some (.lst acc)∧acc.length < sizeLine∧PvK G xs H1 D (i+1) (upd H4 D (.lst (acc++[y]))):=by
 obtain ⟨acc,e,l,p'⟩:=vK hi hz hD p.1 gx s4
 exact ⟨acc,e,l,p',c4.lstU e⟩
theorem PvK.no {α:Type}{G:α→Option V}{xs:List α}{H1 H H3:Hp}{D:Addr}{i:Nat}{x:α}(hi:xs[i]? = some x)(p:PvK G xs H1 D i H)(gx:G x=none)(s3:Same H H3)(c3:Clo H3):PvK G xs H1 D (i+1) H3:=⟨lc_no hi p.1 gx s3,c3⟩
theorem tK {α β:Type}{xs:List α}{ys:List β}{i:Nat}{x:α}{y:β}(hx:xs[i]? = some x)(hy:ys[i]? = some y):(xs.zip ys)[i]? = some (x,y):=by
 rw [List.getElem?_zip_eq_some];exact ⟨hx,hy⟩
theorem vG {α β:Type}(f:α→β)(l:List α):(l.filterMap fun x=>some (f x))=l.map f:=congrFun (List.filterMap_eq_map (f:=f)) l
def spFits (K:zF):Sp:=fun vs H Q _=>∃ (a b:Addr) (ws:List (List Nat)) (ms:List M.Mark),vs=[.ref a,.ref b]∧SqL K H a (ws.map sw)∧SqL K H b (ms.map fun m=>sw (vF m))∧(∀ w∈ws,Wd w)∧(∀ m∈ms,MkOk m)∧ms.length≤100∧Clo H∧Q (.bl (M.fits ws ms)) H
theorem sc_words_fit : zK ["words","marks","word","mark"] ["words","marks"] (zE (z9 70)):=by walk_at "sc"
theorem ok_words_fit (T:Txt P w K mg):Dfn P w K mg base "words_fit" ["words","marks"] [] 3 (spFits K):=by
 have nd:=sc_words_fit.nd
 refine T.d_words_fit.ok sc_words_fit (fun vs H Q E h=>?_) (fun f cdv A outer s H vs Q E hr h=>?_)
 ·obtain ⟨_,_,_,_,rfl,_⟩:=h;rfl
 obtain ⟨a,b,ws,ms,rfl,ha,hb,hw,hm,lm,c,q⟩:=h
 refine ⟨_,(zJ H (zB (zX (zP tH (zU (xS K) rfl T.b_len yD (zA (pv 0) zC)) (zU (xS K) rfl T.b_len yD (zA (pv 1) zC)) (zN _)) (zD (zI uU)) zM) (zD (zI (zU (allK K rfl) rfl T.b_all bt_all (zA (vA rfl nd (zipK K T.b_zip (zA (pv 0) (zA (pv 1) zC))) (yS (own:=[("word",2),("mark",3)]) rfl) (fun _ _ _ _ _=>(u9 K (n:=2) rfl (yA (zV (i:=2) nd rfl (Or.inl rfl)) (yA (zV (i:=3) nd rfl (Or.inl rfl)) xN)))) (fun _ _ _ _ _=>xY) (fun _ _ _ _ _=>(zS (ok_word_fits T) (hr.mono (by decide)) (zA (pv 2) (zA (pv 3) zC))))) zC)))))),?_⟩
 unfold M.fits at q;refine ⟨_,rfl,a,_,rfl,.inl ha,_,rfl,b,_,rfl,.inl hb,rfl,_,rfl,?_⟩
 rw [List.length_map,List.length_map];refine zR ?_ ?_
 ·intro h1
  have z1:ws.length≠ms.length:=by
   intro e
   rw [e] at h1;simp at h1
  rw [decide_eq_false z1,Bool.false_and] at q;exact ⟨_,Fg.self c (Same.refl _),q⟩
 ·intro h1
  have z1:ws.length=ms.length:=by
   have : V.int (ws.length:Int)=V.int (ms.length:Int):=by simpa using h1
   have:=V.int.inj this
   omega
  rw [decide_eq_true z1,Bool.true_and] at q;have lz:(ws.zip ms).length≤sizeLine:=by
   rw [List.length_zip];exact Nat.le_trans (Nat.min_le_right ..) (Nat.le_trans lm (by decide))
  refine ⟨_,rfl,_,rfl,a,b,_,_,rfl,ha,hb,fun D hD=>lc_zip (K:=K) (a:=a) (b:=b) (xs:=ws.map sw) (ys:=ms.map fun m=>sw (vF m)) (PvK (fun p=>some (V.bl (M.fit p.1 p.2))) (ws.zip ms) H D) (PvK.zero c hD) (fun i H' p=>⟨SqL.monoT ha p.1.1.t,SqL.monoT hb p.1.1.t⟩) (by rw [List.length_map,List.length_map,z1]) ?_ ?_⟩
  ·rintro i x y H' T' hx hy p hT
   obtain ⟨w,hw1,rfl⟩:=yB hx
   obtain ⟨m,hm1,rfl⟩:=yB hy
   refine ⟨rfl,?_⟩
   refine ⟨_,rfl,_,rfl,w,m,rfl,hw w (List.mem_of_getElem? hw1),hm m (List.mem_of_getElem? hm1),p.2.tupN hT,?_⟩
   exact PvK.yes (tK hw1 hm1) lz hD p rfl (Same.new hT) (p.2.tupN hT)
  ·intro H' p
   have e:=wI p.1 (by rw [List.length_map,List.length_zip,z1,Nat.min_self])
   have e2:((ws.zip ms).map fun p=>V.bl (M.fit p.1 p.2))=((ws.zip ms).map fun p=>M.fit p.1 p.2).map V.bl:=by rw [List.map_map];rfl
   rw [vG,e2] at e;refine ⟨_,_,rfl,SqL.of e,_,Fg.self c p.1.1,?_⟩
   rw [List.all_map];exact q
end
end My
namespace My
open PySem PySem.Spec PyProof.Rows L2
open Vbtpah (Says Log Reading Park Sensor Ride Rule Check)
def SameX (x:Addr)(H H':Hp):Prop:=∀ b o,b≠x→H b=some o→H' b=some o
theorem SameX.kp {H H':Hp}{x C dx:Addr}{fs:List (Str×V)}(s:SameX x H H')(hx:H x=some (.ins C dx fs)):Kp H H' where
 tups:=fun b xs e=>s b _ (xD e hx (by intro z;cases z)) e
 frzs:=fun b o u e=>s b _ (xD e hx (by intro z;cases z)) e
 tbls:=fun b ps e=>⟨#[],by rw [s b _ (xD e hx (by intro z;cases z)) e,Array.append_empty]⟩
theorem SameX.of {H H':Hp}{x:Addr}(s:Same H H'):SameX x H H':=fun b o _ e=>s b o e
theorem SameX.put {H H':Hp}{x:Addr}{o:HO}(s:SameX x H H'):SameX x H (upd H' x o):=fun b u n e=>by rw [zH n];exact s b u n e
theorem SameX.trans {H H1 H2:Hp}{x:Addr}(s:SameX x H H1)(t:SameX x H1 H2):SameX x H H2:=fun b u n e=>t b u n (s b u n e)
theorem SameX.more {H H1 H2:Hp}{x:Addr}(s:SameX x H H1)(t:Same H1 H2):SameX x H H2:=s.trans (SameX.of t)
section
variable {P:Program}{w:World}{K:zF}{mg:Str→Option Value}{base:Heap}{tb:Addr}
theorem sc_Sensor : zK ["self","name","stale","line"] ["self","name","stale","line"] (zE (yY (z9 60) 0)):=by walk_at "sc"
theorem mk_Sensor (T:Txt P w K mg):∃ C,Mkr P w K mg base "Sensor" C ["self","name","stale","line"] 1 ((tD ["name","stale","line"]) C)∧Cls K C∧∀ y∈(["name","stale","line"]:List Str),NoAttr K C y:=by
 have nd:=sc_Sensor.nd
 refine ClsOk.ok (P:=P) (w:=w) (base:=base) (k:=0) (sp:=(tD ["name","stale","line"])) T.c_Sensor sc_Sensor (fun C vs H Q E h=>?_) (fun C f cdv A outer s H vs Q E cl na hr h=>?_)
 ·obtain ⟨x,dx,args,rfl,hl,_⟩:=h;simpa using hl
 obtain ⟨x,dx,args,rfl,hl,c,hx,q⟩:=h
 obtain ⟨v1,v2,v3,rfl⟩:=lw3 (show args.length=3 from hl)
 refine ⟨_,(zJ H (zB (xB K (pv 0) (pv 1)) (zB (xB K (pv 0) (pv 2)) (zD (xB K (pv 0) (pv 3)))))),?_⟩
 have n1:=na "name" (by simp)
 have n2:=na "stale" (by simp)
 have n3:=na "line" (by simp)
 refine ⟨_,rfl,_,rfl,x,C,dx,_,rfl,hx,cl,n1,yF,?_⟩
 refine ⟨_,rfl,_,rfl,x,C,dx,_,rfl,upd_same,cl,n2,yF,?_⟩
 refine ⟨_,rfl,_,rfl,x,C,dx,_,rfl,upd_same,cl,n3,yF,?_⟩
 simp only [yQ];exact ⟨_,⟨(Kp.refl H).ins hx,c.insU hx,Same.refl _⟩,q⟩
theorem sc_Ride : zK ["self","name","staff","line"] ["self","name","staff","line"] (zE (yY (z9 61) 0)):=by walk_at "sc"
theorem mk_Ride (T:Txt P w K mg):∃ C,Mkr P w K mg base "Ride" C ["self","name","staff","line"] 1 ((tD ["name","staff","line"]) C)∧Cls K C∧∀ y∈(["name","staff","line"]:List Str),NoAttr K C y:=by
 have nd:=sc_Ride.nd
 refine ClsOk.ok (P:=P) (w:=w) (base:=base) (k:=0) (sp:=(tD ["name","staff","line"])) T.c_Ride sc_Ride (fun C vs H Q E h=>?_) (fun C f cdv A outer s H vs Q E cl na hr h=>?_)
 ·obtain ⟨x,dx,args,rfl,hl,_⟩:=h;simpa using hl
 obtain ⟨x,dx,args,rfl,hl,c,hx,q⟩:=h
 obtain ⟨v1,v2,v3,rfl⟩:=lw3 (show args.length=3 from hl)
 refine ⟨_,(zJ H (zB (xB K (pv 0) (pv 1)) (zB (xB K (pv 0) (pv 2)) (zD (xB K (pv 0) (pv 3)))))),?_⟩
 have n1:=na "name" (by simp)
 have n2:=na "staff" (by simp)
 have n3:=na "line" (by simp)
 refine ⟨_,rfl,_,rfl,x,C,dx,_,rfl,hx,cl,n1,yF,?_⟩
 refine ⟨_,rfl,_,rfl,x,C,dx,_,rfl,upd_same,cl,n2,yF,?_⟩
 refine ⟨_,rfl,_,rfl,x,C,dx,_,rfl,upd_same,cl,n3,yF,?_⟩
 simp only [yQ];exact ⟨_,⟨(Kp.refl H).ins hx,c.insU hx,Same.refl _⟩,q⟩
theorem sc_Check : zK ["self","ride","name","by_days","span","line"] ["self","ride","name","by_days","span","line"] (zE (yY (z9 63) 0)):=by walk_at "sc"
theorem mk_Check (T:Txt P w K mg):∃ C,Mkr P w K mg base "Check" C ["self","ride","name","by_days","span","line"] 1 ((tD ["ride","name","by_days","span","line"]) C)∧Cls K C∧∀ y∈(["ride","name","by_days","span","line"]:List Str),NoAttr K C y:=by
 have nd:=sc_Check.nd
 refine ClsOk.ok (P:=P) (w:=w) (base:=base) (k:=0) (sp:=(tD ["ride","name","by_days","span","line"])) T.c_Check sc_Check (fun C vs H Q E h=>?_) (fun C f cdv A outer s H vs Q E cl na hr h=>?_)
 ·obtain ⟨x,dx,args,rfl,hl,_⟩:=h;simpa using hl
 obtain ⟨x,dx,args,rfl,hl,c,hx,q⟩:=h
 obtain ⟨v1,v2,v3,v4,v5,rfl⟩:=lw5 (show args.length=5 from hl)
 refine ⟨_,(zJ H (zB (xB K (pv 0) (pv 1)) (zB (xB K (pv 0) (pv 2)) (zB (xB K (pv 0) (pv 3)) (zB (xB K (pv 0) (pv 4)) (zD (xB K (pv 0) (pv 5)))))))),?_⟩
 have n1:=na "ride" (by simp)
 have n2:=na "name" (by simp)
 have n3:=na "by_days" (by simp)
 have n4:=na "span" (by simp)
 have n5:=na "line" (by simp)
 refine ⟨_,rfl,_,rfl,x,C,dx,_,rfl,hx,cl,n1,yF,?_⟩
 refine ⟨_,rfl,_,rfl,x,C,dx,_,rfl,upd_same,cl,n2,yF,?_⟩
 refine ⟨_,rfl,_,rfl,x,C,dx,_,rfl,upd_same,cl,n3,yF,?_⟩
 refine ⟨_,rfl,_,rfl,x,C,dx,_,rfl,upd_same,cl,n4,yF,?_⟩
 refine ⟨_,rfl,_,rfl,x,C,dx,_,rfl,upd_same,cl,n5,yF,?_⟩
 simp only [yQ];exact ⟨_,⟨(Kp.refl H).ins hx,c.insU hx,Same.refl _⟩,q⟩
theorem sc_Entry : zK ["self","written","kind","about","told","third","fourth"] ["self","written","kind","about","told","third","fourth"] (zE (yY (z9 41) 0)):=by walk_at "sc"
theorem mk_Entry (T:Txt P w K mg):∃ C,Mkr P w K mg base "Entry" C ["self","written","kind","about","told","third","fourth"] 1 ((tD ["written","kind","about","told","third","fourth"]) C)∧Cls K C∧∀ y∈(["written","kind","about","told","third","fourth"]:List Str),NoAttr K C y:=by
 have nd:=sc_Entry.nd
 refine ClsOk.ok (P:=P) (w:=w) (base:=base) (k:=0) (sp:=(tD ["written","kind","about","told","third","fourth"])) T.c_Entry sc_Entry (fun C vs H Q E h=>?_) (fun C f cdv A outer s H vs Q E cl na hr h=>?_)
 ·obtain ⟨x,dx,args,rfl,hl,_⟩:=h;simpa using hl
 obtain ⟨x,dx,args,rfl,hl,c,hx,q⟩:=h
 obtain ⟨v1,v2,v3,v4,v5,v6,rfl⟩:=lw6 (show args.length=6 from hl)
 refine ⟨_,(zJ H (zB (xB K (pv 0) (pv 1)) (zB (xB K (pv 0) (pv 2)) (zB (xB K (pv 0) (pv 3)) (zB (xB K (pv 0) (pv 4)) (zB (xB K (pv 0) (pv 5)) (zD (xB K (pv 0) (pv 6))))))))),?_⟩
 have n1:=na "written" (by simp)
 have n2:=na "kind" (by simp)
 have n3:=na "about" (by simp)
 have n4:=na "told" (by simp)
 have n5:=na "third" (by simp)
 have n6:=na "fourth" (by simp)
 refine ⟨_,rfl,_,rfl,x,C,dx,_,rfl,hx,cl,n1,yF,?_⟩
 refine ⟨_,rfl,_,rfl,x,C,dx,_,rfl,upd_same,cl,n2,yF,?_⟩
 refine ⟨_,rfl,_,rfl,x,C,dx,_,rfl,upd_same,cl,n3,yF,?_⟩
 refine ⟨_,rfl,_,rfl,x,C,dx,_,rfl,upd_same,cl,n4,yF,?_⟩
 refine ⟨_,rfl,_,rfl,x,C,dx,_,rfl,upd_same,cl,n5,yF,?_⟩
 refine ⟨_,rfl,_,rfl,x,C,dx,_,rfl,upd_same,cl,n6,yF,?_⟩
 simp only [yQ];exact ⟨_,⟨(Kp.refl H).ins hx,c.insU hx,Same.refl _⟩,q⟩
def spRule (K:zF)(C:Addr):Sp:=fun vs H Q _=>∃ (x dx a:Addr) (v1 v2 v3 v5:V) (l1 l2 l3:V),vs=[.ref x,v1,v2,v3,.ref a,v5]∧Clo H∧H x=some (.ins C dx [])∧SqL K H a [l1,l2,l3] ∧
 Q .non (upd H x (.ins C dx (xJ ["ride","sensor","shuts_above","shut_level","fine_level","hold","line"] [v1,v2,v3,l1,l2,l3,v5] [])))
theorem uA {K:zF}{H:Hp}{a x C dx:Addr}{fs:List (Str×V)}{xs:List V}{o:HO}(h:SqL K H a xs)(hx:H x=some (.ins C dx fs)):SqL K (upd H x o) a xs:=by
 rcases h with (h | ⟨ob,h⟩) | h
 ·exact .inl (.inl (by rw [zH (xD h hx (by intro z;cases z))];exact h))
 ·exact .inl (.inr ⟨ob,by rw [zH (xD h hx (by intro z;cases z))];exact h⟩)
 ·exact .inr h
theorem sc_Rule : zK ["self","ride","sensor","shuts_above","levels","line"] ["self","ride","sensor","shuts_above","levels","line"] (zE (yY (z9 62) 0)):=by walk_at "sc"
theorem mk_Rule (T:Txt P w K mg):∃ C,Mkr P w K mg base "Rule" C ["self","ride","sensor","shuts_above","levels","line"] 1 ((spRule K) C)∧Cls K C∧∀ y∈(["ride","sensor","shuts_above","shut_level","fine_level","hold","line"]:List Str),NoAttr K C y:=by
 have nd:=sc_Rule.nd
 refine ClsOk.ok (P:=P) (w:=w) (base:=base) (k:=0) (sp:=(spRule K)) T.c_Rule sc_Rule (fun C vs H Q E h=>?_) (fun C f cdv A outer s H vs Q E cl na hr h=>?_)
 ·obtain ⟨x,dx,a,v1,v2,v3,v5,l1,l2,l3,rfl,_⟩:=h;rfl
 obtain ⟨x,dx,a,v1,v2,v3,v5,l1,l2,l3,rfl,c,hx,hs,q⟩:=h
 refine ⟨_,(zJ H (zB (xB K (pv 0) (pv 1)) (zB (xB K (pv 0) (pv 2)) (zB (xB K (pv 0) (pv 3)) (zB (xB K (pv 0) (zY (yI K) (pv 4) zG (fun _ _=>rfl))) (zB (xB K (pv 0) (zY (yI K) (pv 4) zG (fun _ _=>rfl))) (zB (xB K (pv 0) (zY (yI K) (pv 4) zG (fun _ _=>rfl))) (zD (xB K (pv 0) (pv 5)))))))))),?_⟩
 have n1:=na "ride" (by simp)
 have n2:=na "sensor" (by simp)
 have n3:=na "shuts_above" (by simp)
 have n4:=na "shut_level" (by simp)
 have n5:=na "fine_level" (by simp)
 have n6:=na "hold" (by simp)
 have n7:=na "line" (by simp)
 have i0:yZ [l1,l2,l3] 0=some l1:=rfl
 have i1:yZ [l1,l2,l3] 1=some l2:=rfl
 have i2:yZ [l1,l2,l3] 2=some l3:=rfl
 refine ⟨_,rfl,_,rfl,x,C,dx,_,rfl,hx,cl,n1,yF,?_⟩
 refine ⟨_,rfl,_,rfl,x,C,dx,_,rfl,upd_same,cl,n2,yF,?_⟩
 refine ⟨_,rfl,_,rfl,x,C,dx,_,rfl,upd_same,cl,n3,yF,?_⟩
 simp only [yQ];refine ⟨_,rfl,a,_,_,_,rfl,rfl,uA hs hx,i0,_,rfl,x,C,dx,_,rfl,upd_same,cl,n4,yF,?_⟩
 simp only [yQ];refine ⟨_,rfl,a,_,_,_,rfl,rfl,uA hs hx,i1,_,rfl,x,C,dx,_,rfl,upd_same,cl,n5,yF,?_⟩
 simp only [yQ];refine ⟨_,rfl,a,_,_,_,rfl,rfl,uA hs hx,i2,_,rfl,x,C,dx,_,rfl,upd_same,cl,n6,yF,?_⟩
 simp only [yQ];refine ⟨_,rfl,_,rfl,x,C,dx,_,rfl,upd_same,cl,n7,yF,?_⟩
 simp only [yQ];exact ⟨_,⟨(Kp.refl H).ins hx,c.insU hx,Same.refl _⟩,q⟩
end
end My
namespace My
open PySem PySem.Spec PyProof.Rows L2
open Vbtpah (Says Log Reading Park Sensor Ride Rule Check)
def vY : List Str:=["sensors","rides","rules","checks","wrong","wrong_line"]
def spPlan (C:Addr):Sp:=fun vs H Q _=>∃ (x dx:Addr),vs=[.ref x]∧Clo H∧H x=some (.ins C dx []) ∧
 ∀ H' l1 l2 l3 l4,SameX x H H'→Clo H'→H l1=none→H l2=none→H l3=none→H l4=none→l1≠l2∧l1≠l3∧l1≠l4∧l2≠l3∧l2≠l4∧l3≠l4→H' l1=some (.lst [])→H' l2=some (.lst [])→H' l3=some (.lst [])→H' l4=some (.lst []) →
  H' x=some (.ins C dx (xJ vY [.ref l1,.ref l2,.ref l3,.ref l4,.int 0,.int 0] []))→Q .non H'
def nmW (ws:List (List Nat))(ms:List M.Mark):List (List Nat):=(ws.zip ms).filterMap fun p=>if (vF p.2==[110])=true then some p.1 else none
def nuW (ws:List (List Nat))(ms:List M.Mark):List Nat:=(ws.zip ms).filterMap fun p=>if (vF p.2==[48])=true then some (M.valOf p.1) else none
def lineF : List Str:=["text","words","names","numbers"]
def spLine (K:zF)(C:Addr):Sp:=fun vs H Q _=>∃ (x dx a b:Addr) (l:List Nat) (ws:List (List Nat)) (ms:List M.Mark),vs=[.ref x,sw l,.ref a,.ref b]∧Clo H∧H x=some (.ins C dx [])∧SqL K H a (ws.map sw)∧SqL K H b (ms.map fun m=>sw (vF m)) ∧
 M.fits ws ms=true∧(∀ m∈ms,MkOk m)∧ms.length≤100 ∧
 ∀ H' N1 N2,SameX x H H'→Clo H'→H' x=some (.ins C dx (xJ lineF [sw l,.ref a,.ref N1,.ref N2] []))→H' N1=some (.lst ((nmW ws ms).map sw))→H' N2=some (.lst ((nuW ws ms).map vn))→Q .non H'
theorem uJ {ws:List (List Nat)}{ms:List M.Mark}(h:M.fits ws ms=true){i:Nat}{w:List Nat}{m:M.Mark}(hw:ws[i]? = some w)(hm:ms[i]? = some m):M.fit w m=true:=by
 unfold M.fits at h;simp only [Bool.and_eq_true] at h;exact List.all_eq_true.mp h.2 (w,m) (List.mem_of_getElem? (tK hw hm))
section
variable {P:Program}{w:World}{K:zF}{mg:Str→Option Value}{base:Heap}{tb:Addr}
theorem sc_Plan : zK ["self"] ["self"] (zE (yY (z9 64) 0)):=by walk_at "sc"
theorem mk_Plan (T:Txt P w K mg):∃ C,Mkr P w K mg base "Plan" C ["self"] 1 (spPlan C)∧Cls K C∧∀ y∈(["sensors","rides","rules","checks","wrong","wrong_line"]:List Str),NoAttr K C y:=by
 have nd:=sc_Plan.nd
 refine ClsOk.ok (P:=P) (w:=w) (base:=base) (k:=0) (sp:=spPlan) T.c_Plan sc_Plan (fun C vs H Q E h=>?_) (fun C f cdv A outer s H vs Q E cl na hr h=>?_)
 ·obtain ⟨x,dx,rfl,_⟩:=h;rfl
 obtain ⟨x,dx,rfl,c,hx,q⟩:=h
 refine ⟨_,(zJ H (zB (xB K (pv 0) (zT zC)) (zB (xB K (pv 0) (zT zC)) (zB (xB K (pv 0) (zT zC)) (zB (xB K (pv 0) (zT zC)) (zB (xB K (pv 0) zG) (zD (xB K (pv 0) zG)))))))),?_⟩
 have n1:=na "sensors" (by simp)
 have n2:=na "rides" (by simp)
 have n3:=na "rules" (by simp)
 have n4:=na "checks" (by simp)
 have n5:=na "wrong" (by simp)
 have n6:=na "wrong_line" (by simp)
 have z:=Nat.le_of_ble_eq_true (n:=0) (m:=sizeLine) rfl
 have step:∀ {H1:Hp} {l:Addr} {fs gs:List (Str×V)},Clo H1→SameX x H H1→H1 x=some (.ins C dx fs)→H1 l=none→Clo (upd (upd H1 l (.lst [])) x (.ins C dx gs))∧SameX x H (upd (upd H1 l (.lst [])) x (.ins C dx gs))∧(upd H1 l (.lst [])) x=some (.ins C dx fs)∧H l=none∧l≠x ∧
   (upd (upd H1 l (.lst [])) x (.ins C dx gs)) l=some (.lst [])∧∀ k ys,k≠x→H1 k=some (.lst ys)→(upd (upd H1 l (.lst [])) x (.ins C dx gs)) k=some (.lst ys)∧k≠l:=fun {H1 l fs gs} c1 s1 e1 hl=>by
  have e2:(upd H1 l (.lst [])) x=some (.ins C dx fs):=by rw [zH (zO e1 hl)];exact e1
  have nl:l≠x:=fun e=>by rw [e,e1] at hl;cases hl
  refine ⟨(c1.lstN hl).insU e2,(s1.more (Same.new hl)).put,e2,?_,nl,by rw [zH nl];exact upd_same,fun k ys nk e=>⟨by rw [zH nk,zH (zO e hl)];exact e,zO e hl⟩⟩
  cases e:H l with
  | none=>rfl
  | some o=>rw [s1 l o nl e] at hl;cases hl
 refine ⟨z,fun l1 h1=>⟨_,rfl,x,C,dx,[],rfl,(step c (SameX.of (Same.refl _)) hx h1 (gs:=[])).2.2.1,cl,n1,yF,?_⟩⟩
 obtain ⟨c1,s1,e1,f1,x1,a1,k1⟩:=step c (SameX.of (Same.refl _)) hx h1 (gs:=xR "sensors" (.ref l1) [])
 refine ⟨z,fun l2 h2=>⟨_,rfl,x,C,dx,_,rfl,(step c1 s1 upd_same h2 (gs:=[])).2.2.1,cl,n2,yF,?_⟩⟩
 obtain ⟨c2,s2,e2,f2,x2,a2,k2⟩:=step c1 s1 upd_same h2 (gs:=xR "rides" (.ref l2) (xR "sensors" (.ref l1) []))
 have b1:=k2 _ _ x1 a1
 refine ⟨z,fun l3 h3=>⟨_,rfl,x,C,dx,_,rfl,(step c2 s2 upd_same h3 (gs:=[])).2.2.1,cl,n3,yF,?_⟩⟩
 obtain ⟨c3,s3,e3,f3,x3,a3,k3⟩:=step c2 s2 upd_same h3 (gs:=xR "rules" (.ref l3) (xR "rides" (.ref l2) (xR "sensors" (.ref l1) [])))
 have b2:=k3 _ _ x1 b1.1
 have b3:=k3 _ _ x2 a2
 refine ⟨z,fun l4 h4=>⟨_,rfl,x,C,dx,_,rfl,(step c3 s3 upd_same h4 (gs:=[])).2.2.1,cl,n4,yF,?_⟩⟩
 obtain ⟨c4,s4,e4,f4,x4,a4,k4⟩:=step c3 s3 upd_same h4 (gs:=xR "checks" (.ref l4) (xR "rules" (.ref l3) (xR "rides" (.ref l2) (xR "sensors" (.ref l1) []))))
 have b4:=k4 _ _ x1 b2.1
 have b5:=k4 _ _ x2 b3.1
 have b6:=k4 _ _ x3 a3
 refine ⟨_,rfl,x,C,dx,_,rfl,upd_same,cl,n5,yF,?_⟩
 refine ⟨_,rfl,x,C,dx,_,rfl,upd_same,cl,n6,yF,?_⟩
 rw [yQ];refine ⟨_,⟨SameX.kp s4.put hx,c4.insU upd_same,Same.refl _⟩,q _ l1 l2 l3 l4 s4.put (c4.insU upd_same) f1 f2 f3 f4 ⟨b1.2,b2.2,b4.2,b3.2,b5.2,b6.2⟩ ?_ ?_ ?_ ?_ upd_same⟩
 ·rw [zH x1];exact b4.1
 ·rw [zH x2];exact b5.1
 ·rw [zH x3];exact b6.1
 ·rw [zH x4];exact a4
theorem sc_Line : zK ["self","text","words","marks","word","mark"] ["self","text","words","marks"] (zE (yY (z9 65) 0)):=by walk_at "sc"
theorem mk_Line (T:Txt P w K mg):∃ C,Mkr P w K mg base "Line" C ["self","text","words","marks"] 1 ((spLine K) C)∧Cls K C∧∀ y∈(["text","words","names","numbers"]:List Str),NoAttr K C y:=by
 have nd:=sc_Line.nd
 refine ClsOk.ok (P:=P) (w:=w) (base:=base) (k:=0) (sp:=(spLine K)) T.c_Line sc_Line (fun C vs H Q E h=>?_) (fun C f cdv A outer s H vs Q E cl na hr h=>?_)
 ·obtain ⟨x,dx,a,b,l,ws,ms,rfl,_⟩:=h;rfl
 obtain ⟨x,dx,a,b,l,ws,ms,rfl,c,hx,ha,hb,ft,mo,lm,q⟩:=h
 refine ⟨_,(zJ H (zB (xB K (pv 0) (pv 1)) (zB (xB K (pv 0) (pv 2)) (zB (xB K (pv 0) (vA rfl nd (zipK K T.b_zip (zA (pv 2) (zA (pv 3) zC))) (yS (own:=[("word",4),("mark",5)]) rfl) (fun _ _ _ _ _=>(u9 K (n:=2) rfl (yA (zV (i:=4) nd rfl (Or.inl rfl)) (yA (zV (i:=5) nd rfl (Or.inl rfl)) xN)))) (fun _ _ _ _ _=>(tZ (zP yH (pv 5) (pgs T.g_NAME) (zN _)))) (fun _ _ _ _ _=>(pv 4)))) (zD (xB K (pv 0) (vA rfl nd (zipK K T.b_zip (zA (pv 2) (zA (pv 3) zC))) (yS (own:=[("word",4),("mark",5)]) rfl) (fun _ _ _ _ _=>(u9 K (n:=2) rfl (yA (zV (i:=4) nd rfl (Or.inl rfl)) (yA (zV (i:=5) nd rfl (Or.inl rfl)) xN)))) (fun _ _ _ _ _=>(tZ (zP yH (pv 5) (pgs T.g_NUMBER) (zN _)))) (fun _ _ _ _ _=>(pe_callTy call_int_str rfl T.b_int bt_int (zA (pv 4) zC)))))))))),?_⟩
 have n1:=na "text" (by simp)
 have n2:=na "words" (by simp)
 have n3:=na "names" (by simp)
 have n4:=na "numbers" (by simp)
 have z1:=M.len_of_fits ft
 have lz:(ws.zip ms).length≤sizeLine:=by
  rw [List.length_zip];exact Nat.le_trans (Nat.min_le_right ..) (Nat.le_trans lm (by decide))
 have lq:(ws.map sw).length=(ms.map fun m=>sw (vF m)).length:=by rw [List.length_map,List.length_map,z1]
 have le:(ws.map sw).length=(ws.zip ms).length:=by rw [List.length_map,List.length_zip,z1,Nat.min_self]
 refine ⟨_,rfl,_,rfl,x,C,dx,_,rfl,hx,cl,n1,yF,?_⟩
 refine ⟨_,rfl,_,rfl,x,C,dx,_,rfl,upd_same,cl,n2,yF,?_⟩
 rw [yQ];have c1:Clo (upd H x (.ins C dx (xJ ["text","words"] [sw l,.ref a] []))):=c.insU hx
 have s1:SameX x H (upd H x (.ins C dx (xJ ["text","words"] [sw l,.ref a] []))):=(SameX.of (Same.refl _)).put
 have x1:(upd H x (.ins C dx (xJ ["text","words"] [sw l,.ref a] []))) x=some (.ins C dx (xJ ["text","words"] [sw l,.ref a] [])):=upd_same
 have a1:SqL K (upd H x (.ins C dx (xJ ["text","words"] [sw l,.ref a] []))) a (ws.map sw):=uA ha hx
 have b1:SqL K (upd H x (.ins C dx (xJ ["text","words"] [sw l,.ref a] []))) b (ms.map fun m=>sw (vF m)):=uA hb hx
 show _ ;change tSeq _ _ _ _ (upd H x (.ins C dx (xJ ["text","words"] [sw l,.ref a] [])))
 generalize upd H x (.ins C dx (xJ ["text","words"] [sw l,.ref a] []))=H1 at c1 s1 x1 a1 b1 ⊢
 refine ⟨_,rfl,_,rfl,a,b,_,_,rfl,a1,b1,fun D hD=>lc_zip (K:=K) (a:=a) (b:=b) (xs:=ws.map sw) (ys:=ms.map fun m=>sw (vF m)) (PvK (fun p=>(if (vF p.2==[110])=true then some p.1 else none).map sw) (ws.zip ms) H1 D) (PvK.zero c1 hD) (fun i H' p=>⟨SqL.monoT a1 p.1.1.t,SqL.monoT b1 p.1.1.t⟩) lq ?_ ?_⟩
 ·rintro i u v H' T' hu hv p hT
  obtain ⟨w,hw1,rfl⟩:=yB hu
  obtain ⟨m,hm1,rfl⟩:=yB hv
  refine ⟨rfl,?_⟩
  walk_at "rd"
  rw [s_n,decW];refine zR ?_ ?_
  ·intro h1
   exact ⟨_,rfl,PvK.yes (tK hw1 hm1) lz hD p (by rw [if_pos h1];rfl) (Same.new hT) (p.2.tupN hT)⟩
  ·intro h1
   exact PvK.no (tK hw1 hm1) p (by rw [if_neg (by rw [h1];exact Bool.false_ne_true)];rfl) (Same.new hT) (p.2.tupN hT)
 intro H2 p2
 have e2:=wI p2.1 le
 rw [fm_map] at e2;have x2:=p2.1.1 _ _ x1
 refine ⟨_,rfl,x,C,dx,_,rfl,x2,cl,n3,yF,?_⟩
 have s3:SameX x H (upd H2 x (.ins C dx (xR "names" (.ref D) (xJ ["text","words"] [sw l,.ref a] [])))):=(s1.more p2.1.1).put
 have c3:Clo (upd H2 x (.ins C dx (xR "names" (.ref D) (xJ ["text","words"] [sw l,.ref a] [])))):=p2.2.insU x2
 have x3:(upd H2 x (.ins C dx (xR "names" (.ref D) (xJ ["text","words"] [sw l,.ref a] [])))) x=some (.ins C dx (xR "names" (.ref D) (xJ ["text","words"] [sw l,.ref a] []))):=upd_same
 have a3:SqL K (upd H2 x (.ins C dx (xR "names" (.ref D) (xJ ["text","words"] [sw l,.ref a] [])))) a (ws.map sw):=uA (SqL.monoT a1 p2.1.1.t) x2
 have b3:SqL K (upd H2 x (.ins C dx (xR "names" (.ref D) (xJ ["text","words"] [sw l,.ref a] [])))) b (ms.map fun m=>sw (vF m)):=uA (SqL.monoT b1 p2.1.1.t) x2
 have e3:(upd H2 x (.ins C dx (xR "names" (.ref D) (xJ ["text","words"] [sw l,.ref a] [])))) D=some (.lst ((nmW ws ms).map sw)):=by rw [zH (xD e2 x2 (by intro z;cases z))];exact e2
 generalize upd H2 x (.ins C dx (xR "names" (.ref D) (xJ ["text","words"] [sw l,.ref a] [])))=H3 at c3 s3 x3 a3 b3 e3 ⊢
 refine ⟨_,rfl,_,rfl,a,b,_,_,rfl,a3,b3,fun D' hD'=>lc_zip (K:=K) (a:=a) (b:=b) (xs:=ws.map sw) (ys:=ms.map fun m=>sw (vF m)) (PvK (fun p=>(if (vF p.2==[48])=true then some (M.valOf p.1) else none).map vn) (ws.zip ms) H3 D') (PvK.zero c3 hD') (fun i H' p=>⟨SqL.monoT a3 p.1.1.t,SqL.monoT b3 p.1.1.t⟩) lq ?_ ?_⟩
 ·rintro i u v H' T' hu hv p hT
  obtain ⟨w,hw1,rfl⟩:=yB hu
  obtain ⟨m,hm1,rfl⟩:=yB hv
  refine ⟨rfl,?_⟩
  walk_at "rd"
  rw [s_0,decW];refine zR ?_ ?_
  ·intro h1
   have f1:=uJ ft hw1 hm1
   have mk:=mo m (List.mem_of_getElem? hm1)
   have pn:M.pNum w=true:=by
    cases m with
    | name=>exact ((by decide:([110]==[48])≠true) h1).elim
    | num=>exact f1
    | word k=>exact (mk.2 (by simpa [vF] using h1)).elim
   obtain ⟨i1,i2⟩:=int_st pn
   exact ⟨_,rfl,_,_,rfl,i1,i2,PvK.yes (tK hw1 hm1) lz hD' p (by rw [if_pos h1];rfl) (Same.new hT) (p.2.tupN hT)⟩
  ·intro h1
   exact PvK.no (tK hw1 hm1) p (by rw [if_neg (by rw [h1];exact Bool.false_ne_true)];rfl) (Same.new hT) (p.2.tupN hT)
 intro H4 p4
 have e4:=wI p4.1 le
 rw [fm_map] at e4;have x4:=p4.1.1 _ _ x3
 have d4:=p4.1.1 _ _ e3
 refine ⟨_,rfl,x,C,dx,_,rfl,x4,cl,n4,yF,?_⟩
 have s5:=(s3.more p4.1.1)
 refine ⟨_,⟨SameX.kp s5.put hx,p4.2.insU x4,Same.refl _⟩,q _ D D' s5.put (p4.2.insU x4) upd_same ?_ ?_⟩
 ·rw [zH (xD d4 x4 (by intro z;cases z))];exact d4
 ·rw [zH (xD e4 x4 (by intro z;cases z))];exact e4
end
end My
namespace My
open PySem PySem.Spec PyProof.Rows L2
open Vbtpah (Says Log Reading Park Sensor Ride Rule Check)
def formS : List Str:=["sensor n stale 0","ride n staff 0","rule n n above 0 below 0 hold 0","rule n n below 0 above 0 hold 0","check n n days 0","check n n rounds 0"]
def formC : List (List Nat):=[Vbtpah.text "sensor n stale 0",Vbtpah.text "ride n staff 0",Vbtpah.text "rule n n above 0 below 0 hold 0",Vbtpah.text "rule n n below 0 above 0 hold 0",Vbtpah.text "check n n days 0",Vbtpah.text "check n n rounds 0"]
theorem form_st : formS=formC.map st:=by decide +kernel
theorem form_cut : formC.map (Vbtpah.cutAt 32)=M.forms.map (fun ms=>ms.map vF):=by decide +kernel
theorem form_len : ∀ c∈formC,c.length+2≤100:=by decide +kernel
theorem form_sp {i:Nat}{z:Str}(h:formS[i]? = some z):∃ ms,M.forms[i]? = some ms∧PySem.Txt.split z ⟨#[32]⟩=ms.map (fun m=>st (vF m))∧z.length+2≤sizeLine∧ms.length≤100:=by
 rw [form_st] at h;obtain ⟨c,hc,rfl⟩:=yB h
 have hf:=congrArg (fun l=>l[i]?) form_cut
 simp only [List.getElem?_map,hc,Option.map_some] at hf
 cases e:M.forms[i]? with
 | none=>rw [e] at hf;cases hf
 | some ms =>
  rw [e,Option.map_some] at hf;have hf:=Option.some.inj hf
  have l1:=form_len c (List.mem_of_getElem? hc)
  refine ⟨ms,rfl,?_,?_,?_⟩
  ·rw [split_st,hf,List.map_map];rfl
  ·rw [xX];exact Nat.le_trans l1 (by decide)
  ·have:=cut_len 32 c
   rw [hf,List.length_map] at this;omega
structure LnAt (K:zF)(H:Hp)(x:Addr)(l:List Nat)(ws:List (List Nat))(ms:List M.Mark):Prop where
 tx : Fld K H x "text" (sw l)
 wd : ∃ L,Fld K H x "words" (.ref L)∧SqL K H L (ws.map sw)
 nm : ∃ L,Fld K H x "names" (.ref L)∧SqL K H L ((nmW ws ms).map sw)
 nu : ∃ L,Fld K H x "numbers" (.ref L)∧SqL K H L ((nuW ws ms).map vn)
def spSplit (K:zF):Sp:=fun vs H Q _=>∃ l,vs=[sw l]∧Wd l∧Clo H∧((∀ (i:Nat) (ms:List M.Mark),M.forms[i]? = some ms→M.fits (Vbtpah.cutAt 32 l) ms=false)→Q .non H) ∧
 ∀ (H':Hp) (x:Addr) (i:Nat) (ms:List M.Mark),M.forms[i]? = some ms→M.fits (Vbtpah.cutAt 32 l) ms=true→Same H H'→Clo H'→LnAt K H' x l (Vbtpah.cutAt 32 l) ms→Q (.ref x) H'
theorem s_sp' : Str.ofString " "=⟨#[32]⟩:=s_sp
section
variable {P:Program}{w:World}{K:zF}{mg:Str→Option Value}{base:Heap}{tb:Addr}
theorem sc_split_line : zK ["text","words","form","marks"] ["text"] (zE (z9 71)):=by walk_at "sc"
theorem ok_split_line (T:Txt P w K mg):Dfn P w K mg base "split_line" ["text"] [] 4 (spSplit K):=by
 have nd:=sc_split_line.nd
 refine T.d_split_line.ok sc_split_line (fun vs H Q E h=>?_) (fun f cdv A outer s H vs Q E hr h=>?_)
 ·obtain ⟨_,rfl,_⟩:=h;rfl
 obtain ⟨l,rfl,hl,c,q1,q2⟩:=h
 obtain ⟨FO,T_FORMS,kt⟩:=T.x_FORMS
 obtain ⟨C_Line,M_Line,cl,na⟩:=mk_Line (P:=P) (w:=w) (base:=base) T
 refine ⟨_,(zJ H (zB (zL (i:=1) nd rfl (Or.inl rfl) (pe_split (pv 0) wO)) (zB (xH PassesOwn.never rfl (piTK K (pgr T_FORMS)) (zV (i:=2) nd rfl (Or.inl rfl)) (zJ H (zB (zL (i:=3) nd rfl (Or.inl rfl) (pe_split (pv 2) wO)) (zD (zX (yC (zS (ok_words_fit T) (hr.mono (by decide)) (zA (pv 1) (zA (pv 3) zC)))) (zD (zI (pe_mk M_Line (hr.mono (by decide)) (zA (pv 0) (zA (pv 1) (zA (pv 3) zC)))))) zM))))) (zD (zI uS))))),?_⟩
 have wds:∀ u∈Vbtpah.cutAt 32 l,Wd u:=fun u hu=>let ⟨a,b⟩:=cut_mem 32 l u hu;⟨fun x hx=>hl.1 x (b x hx),Nat.le_trans a hl.2⟩
 refine ⟨_,rfl,⟨_,rfl⟩,_,_,rfl,rfl,rfl,by rw [xX];exact Nat.le_trans (Nat.add_le_add_right hl.2 2) (by decide),fun L hL=>?_⟩
 rw [s_sp',split_st];have sL:Same H (upd H L (.lst (((Vbtpah.cutAt 32 l).map st).map V.str))):=Same.new hL
 have cL:Clo (upd H L (.lst (((Vbtpah.cutAt 32 l).map st).map V.str))):=c.lstN hL
 have aL:(upd H L (.lst (((Vbtpah.cutAt 32 l).map st).map V.str))) L=some (.lst ((Vbtpah.cutAt 32 l).map sw)):=by rw [upd_same,List.map_map];rfl
 generalize upd H L (.lst (((Vbtpah.cutAt 32 l).map st).map V.str))=HL at sL cL aL ⊢
 refine ⟨FO,rfl,⟨_,kt.sq⟩,for_tup (K:=K) (a:=FO) (xs:=formS.map V.str) (fun i σ H'=>∃ v v',σ=[some (sw l),some (.ref L),v,v']∧H'=HL∧∀ j ms,j < i→M.forms[j]? = some ms→M.fits (Vbtpah.cutAt 32 l) ms=false)
  ⟨none,none,rfl,rfl,fun j ms h=>by omega⟩ (fun i σ H' _ _=>kt.sq) ?_ ?_⟩
 ·rintro i y σ H' hi ⟨v,v',rfl,e0,hn⟩
  obtain rfl:HL=H':=e0.symm
  obtain ⟨z,hz,rfl⟩:=yB hi
  obtain ⟨ms,hms,hsp,hzl,lm⟩:=form_sp hz
  refine ⟨_,rfl,⟨_,rfl⟩,_,_,rfl,rfl,rfl,hzl,fun N hN=>?_⟩
  rw [hsp];have sN:Same HL (upd HL N (.lst ((ms.map fun m=>st (vF m)).map V.str))):=Same.new hN
  have cN:Clo (upd HL N (.lst ((ms.map fun m=>st (vF m)).map V.str))):=cL.lstN hN
  have aN:(upd HL N (.lst ((ms.map fun m=>st (vF m)).map V.str))) N=some (.lst (ms.map fun m=>sw (vF m))):=by rw [upd_same,List.map_map];rfl
  generalize upd HL N (.lst ((ms.map fun m=>st (vF m)).map V.str))=HN at sN cN aN ⊢
  have aLN:=sN _ _ aL
  have mo:∀ m∈ms,MkOk m:=forms_ok ms (List.mem_of_getElem? hms)
  refine ⟨_,rfl,_,rfl,L,N,_,ms,rfl,SqL.of aLN,SqL.of aN,wds,mo,lm,cN,_,rfl,?_⟩
  refine zR ?_ ?_
  ·intro h1
   refine ⟨_,rfl,_,rfl,_,rfl,fun x dx hx hd hn=>⟨x,dx,L,N,l,_,ms,rfl,cN.insN hx hd hn,upd_same,SqL.monoT (SqL.of aLN) (xZ hx hd).t,SqL.monoT (SqL.of aN) (xZ hx hd).t,h1,mo,lm,fun H5 N1 N2 s5 c5 x5 e1 e2=>⟨rfl,?_⟩⟩⟩
   have s6:Same H H5:=fun b o e=>s5 b o (zO (sN _ _ (sL _ _ e)) hx) (xZ hx hd _ _ (sN _ _ (sL _ _ e)))
   have aL5:H5 L=some (.lst ((Vbtpah.cutAt 32 l).map sw)):=s5 _ _ (zO aLN hx) (xZ hx hd _ _ aLN)
   refine ⟨H5,⟨Kp.of s6,c5,Same.refl _⟩,H5,⟨Kp.of s6,c5,Same.refl _⟩,q2 H5 x i ms hms h1 s6 c5 ⟨⟨_,_,_,x5,cl,na _ (by simp),rfl⟩,⟨L,⟨_,_,_,x5,cl,na _ (by simp),rfl⟩,SqL.of aL5⟩,⟨N1,⟨_,_,_,x5,cl,na _ (by simp),rfl⟩,SqL.of e1⟩,⟨N2,⟨_,_,_,x5,cl,na _ (by simp),rfl⟩,SqL.of e2⟩⟩⟩
  ·intro h1
   refine ⟨HL,⟨Kp.of sL,cL,sN⟩,_,_,rfl,rfl,fun j ms' hj hf=>?_⟩
   rcases Nat.lt_succ_iff_lt_or_eq.mp hj with hj | rfl
   ·exact hn j ms' hj hf
   ·rw [hms] at hf;cases hf;exact h1
 ·rintro σ H' ⟨v,v',rfl,rfl,hn⟩
  refine ⟨H,Fg.self c sL,q1 fun i ms hf=>hn i ms ?_ hf⟩
  exact (List.getElem?_eq_some_iff.mp hf).1
def spNumOf (K:zF):Sp:=fun vs H Q _=>∃ (L:Addr) (as:List Addr) (ns:List (List Nat)) (n:List Nat),vs=[.ref L,sw n]∧Clo H∧SqL K H L (as.map V.ref)∧All2 (fun a u=>Fld K H a "name" (sw u)) as ns∧Q (.int (Vbtpah.placeIn id ns n:Int)) H
theorem sc_number_of : zK ["things","name","number","thing"] ["things","name"] (zE (z9 72)):=by walk_at "sc"
theorem wR (T:Txt P w K mg):Dfn P w K mg base "number_of" ["things","name"] [] 1 (spNumOf K):=by
 have nd:=sc_number_of.nd
 refine T.d_number_of.ok sc_number_of (fun vs H Q E h=>?_) (fun f cdv A outer s H vs Q E hr h=>?_)
 ·obtain ⟨_,_,_,_,rfl,_⟩:=h;rfl
 obtain ⟨L,as,ns,n,rfl,c,hs,ha,q⟩:=h
 refine ⟨_,(zJ H (zB (xH PassesOwn.never rfl (t7 K T.b_enumerate (zA (pv 0) zC) (vE zG uF)) (vR H (u9 K (n:=2) rfl (yA (zV (i:=2) nd rfl (Or.inl rfl)) (yA (zV (i:=3) nd rfl (Or.inl rfl)) xN)))) (zJ H (zD (zX (zP yH (zZ K (pv 3)) (pv 1) (zN _)) (zD (zI (pv 2))) zM)))) (zD (zI zG)))),?_⟩
 refine ⟨_,rfl,L,_,rfl,rfl,hs,wK (K:=K) (a:=L) (xs:=as.map V.ref) (fun i σ H'=>∃ v v',σ=[some (.ref L),some (sw n),v,v']∧H'=H∧∀ j u,j < i→ns[j]? = some u→u≠n)
  ⟨none,none,rfl,rfl,fun j ms h=>by omega⟩ (fun i σ H' _ ⟨_,_,_,e,_⟩=>by rw [e];exact ⟨hs,c,Kp.refl H⟩) ?_ ?_⟩
 ·rintro i y σ H' hi ⟨v,v',rfl,rfl,hn⟩
  obtain ⟨a,ha1,rfl⟩:=yB hi
  obtain ⟨u,hu,fu⟩:=ha.getA ha1
  walk_at "rd"
  rw [decW];refine zR ?_ ?_
  ·intro h1
   have z1:u=n:=by simpa using h1
   refine ⟨_,rfl,H',Fg.self c (Same.refl _),H',Fg.self c (Same.refl _),?_⟩
   have e:Vbtpah.placeIn id ns n=i+1:=by
    unfold Vbtpah.placeIn;have:ns.findIdx? (fun x=>id x==n)=some i:=by
     rw [List.findIdx?_eq_some_iff_getElem];obtain ⟨lt,e⟩:=List.getElem?_eq_some_iff.mp hu
     refine ⟨lt,by rw [e];simpa using z1,fun j hj=>?_⟩
     have:=hn j ns[j] hj (by simp [Nat.lt_trans hj lt])
     simpa using this
    rw [this]
   rw [e] at q;exact q
  ·intro h1
   have z1:u≠n:=by simpa using h1
   refine ⟨_,Fg.self c (Same.refl _),_,_,rfl,rfl,fun j u' hj hu'=>?_⟩
   rcases Nat.lt_succ_iff_lt_or_eq.mp hj with hj | rfl
   ·exact hn j u' hj hu'
   ·rw [hu] at hu';cases hu';exact z1
 ·rintro σ H' ⟨v,v',rfl,rfl,hn⟩
  refine ⟨_,Fg.self c (Same.refl _),?_⟩
  have e:Vbtpah.placeIn id ns n=0:=by
   unfold Vbtpah.placeIn;have:ns.findIdx? (fun x=>id x==n)=none:=by
    rw [List.findIdx?_eq_none_iff];intro x hx
    obtain ⟨j,hj⟩:=List.mem_iff_getElem?.mp hx
    have lt:=(List.getElem?_eq_some_iff.mp hj).1
    have:=hn j x (by rw [List.length_map,ha.len];exact lt) hj
    simpa using this
   rw [this]
  rw [e] at q;exact q
end
end My
namespace My
open PySem PySem.Spec PyProof.Rows L2
open Vbtpah (Says Log Reading Park Sensor Ride Rule Check)
open Vbtpah (placeIn nameOf rideName sensorName ridePlace sensorPlace doLine)
def lt (x:Vbtpah.Line):List Nat:=M.unwords (M.wordsOf x)
def w9 (p:Park):List (List Nat):=p.sensors.map fun x=>lt (.sensor x.name x.stale)
def xW (p:Park):List (List Nat):=p.rides.map fun x=>lt (.ride x.name x.staff)
def xQ (p:Park):List (List Nat):=p.rules.map fun x=>lt (.rule (rideName p x.ride) (sensorName p x.sensor) x.up x.off x.on x.hold)
def wX (p:Park):List (List Nat):=p.checks.map fun x=>lt (.check (rideName p x.ride) x.name x.byDays x.every)
def u1 (p:Park):List (List Nat):=w9 p++xW p++xQ p++wX p
theorem tN (p:Park):Vbtpah.printed p=((u1 p).map fun t=>t++[10]).flatten:=by
 unfold Vbtpah.printed u1 w9 xW xQ wX lt;rw [M.text_sensor,M.text_stale,M.text_ride,M.text_staff,M.text_rule,M.text_above,M.text_below,M.text_hold,M.text_check,M.text_days,M.text_rounds];simp only [List.map_append,List.flatten_append,List.map_map]
 congr 1
 ·congr 1
  ·congr 1
   ·rw [List.flatMap_def];congr 1
    refine List.map_congr_left fun x _=>?_
    rw [M.joined_eq _ (by simp)];rfl
   ·rw [List.flatMap_def];congr 1
    refine List.map_congr_left fun x _=>?_
    rw [M.joined_eq _ (by simp)];rfl
  ·rw [List.flatMap_def];congr 1
   refine List.map_congr_left fun x _=>?_
   rw [M.joined_eq _ (by simp)];rfl
 ·rw [List.flatMap_def];congr 1
  refine List.map_congr_left fun x _=>?_
  rw [M.joined_eq _ (by simp)];rfl
structure Wf (p:Park):Prop extends PlanWf p where
 rr : ∀ x∈p.rules,1≤x.ride∧x.ride≤p.rides.length
 cr : ∀ x∈p.checks,1≤x.ride∧x.ride≤p.rides.length
 tx : ∀ t∈u1 p,t.length≤100
theorem vZ {α:Type}(f:α→List Nat)(l:List α)(n:List Nat):placeIn f l n=placeIn id (l.map f) n:=by
 unfold placeIn;rw [List.findIdx?_map];rfl
theorem place_le {α:Type}(f:α→List Nat)(l:List α)(n:List Nat):placeIn f l n≤l.length:=by
 unfold placeIn;split
 ·rename_i i h
  have:=(List.findIdx?_eq_some_iff_getElem.mp h).1
  omega
 ·omega
theorem tO {α:Type}(f:α→List Nat)(l:List α)(n:List Nat)(h:placeIn f l n≠0):nameOf f l (placeIn f l n)=n:=by
 unfold placeIn at h ⊢
 unfold nameOf
 split at h
 ·rename_i i hi
  obtain ⟨lt,e,_⟩:=List.findIdx?_eq_some_iff_getElem.mp hi
  show ((l[i+1 - 1]?).map f).getD []=n
  rw [Nat.add_sub_cancel,List.getElem?_eq_getElem lt];simpa using e
 ·exact (h rfl).elim
theorem tP {α:Type}(f:α→List Nat)(l m:List α){r:Nat}(h:1≤r)(h2:r≤l.length):nameOf f (l++m) r=nameOf f l r:=by
 unfold nameOf;rw [List.getElem?_append_left (by omega)]
theorem ruleT_same {p q:Park}(h:q.rules=p.rules)(w:Wf p)(hr:∃ m,q.rides=p.rides++m)(hs:∃ m,q.sensors=p.sensors++m):xQ q=xQ p:=by
 obtain ⟨m,hr⟩:=hr
 obtain ⟨k,hs⟩:=hs
 unfold xQ rideName sensorName;rw [h,hr,hs];refine List.map_congr_left fun x hx=>?_
 rw [tP _ _ _ (w.rr x hx).1 (w.rr x hx).2,tP _ _ _ (w.sn x hx).1 (w.sn x hx).2]
theorem chkT_same {p q:Park}(h:q.checks=p.checks)(w:Wf p)(hr:∃ m,q.rides=p.rides++m):wX q=wX p:=by
 obtain ⟨m,hr⟩:=hr
 unfold wX rideName;rw [h,hr];refine List.map_congr_left fun x hx=>?_
 rw [tP _ _ _ (w.cr x hx).1 (w.cr x hx).2]
theorem mem_all {p:Park}{t:List Nat}:t∈u1 p ↔ t∈w9 p∨t∈xW p∨t∈xQ p∨t∈wX p:=by
 unfold u1;simp only [List.mem_append,or_assoc]
def uV (p:Park)(n:List Nat)(m:Nat):Park:={p with sensors:=p.sensors++[⟨n,m⟩]}
def vB (p:Park)(n:List Nat)(m:Nat):Park:={p with rides:=p.rides++[⟨n,m⟩]}
def tG (p:Park)(r s:List Nat)(up:Bool)(a b h:Nat):Park:={p with rules:=p.rules++[⟨ridePlace p r,sensorPlace p s,up,a,b,h⟩]}
def pChk (p:Park)(r c:List Nat)(d:Bool)(n:Nat):Park:={p with checks:=p.checks++[⟨ridePlace p r,c,d,n⟩]}
theorem add_sen {p:Park}{n:List Nat}{m:Nat}(w:Wf p)(hl:p.sensors.length < 6)(ht:(lt (.sensor n m)).length≤100) :
  Wf (uV p n m)∧w9 (uV p n m)=w9 p++[lt (.sensor n m)]∧xW (uV p n m)=xW p∧xQ (uV p n m)=xQ p∧wX (uV p n m)=wX p:=by
 have e1:w9 (uV p n m)=w9 p++[lt (.sensor n m)]:=by unfold w9 uV;rw [List.map_append];rfl
 have e2:xW (uV p n m)=xW p:=rfl
 have e3:xQ (uV p n m)=xQ p:=ruleT_same rfl w ⟨[],by simp [uV]⟩ ⟨_,rfl⟩
 have e4:wX (uV p n m)=wX p:=chkT_same rfl w ⟨[],by simp [uV]⟩
 refine ⟨⟨⟨?_,w.ri,w.ru,w.ck,fun x hx=>?_⟩,w.rr,w.cr,fun t h=>?_⟩,e1,e2,e3,e4⟩
 ·show (p.sensors++[_]).length≤6
  rw [List.length_append];simp;omega
 ·have:=w.sn x hx
  show _∧_≤(p.sensors++[_]).length
  rw [List.length_append];omega
 ·rw [mem_all,e1,e2,e3,e4,List.mem_append,List.mem_singleton] at h
  rcases h with (h | rfl) | h | h | h
  ·exact w.tx t (mem_all.mpr (.inl h))
  ·exact ht
  ·exact w.tx t (mem_all.mpr (.inr (.inl h)))
  ·exact w.tx t (mem_all.mpr (.inr (.inr (.inl h))))
  ·exact w.tx t (mem_all.mpr (.inr (.inr (.inr h))))
theorem add_rid {p:Park}{n:List Nat}{m:Nat}(w:Wf p)(hl:p.rides.length < 10)(ht:(lt (.ride n m)).length≤100) :
  Wf (vB p n m)∧w9 (vB p n m)=w9 p∧xW (vB p n m)=xW p++[lt (.ride n m)]∧xQ (vB p n m)=xQ p∧wX (vB p n m)=wX p:=by
 have e1:w9 (vB p n m)=w9 p:=rfl
 have e2:xW (vB p n m)=xW p++[lt (.ride n m)]:=by unfold xW vB;rw [List.map_append];rfl
 have e3:xQ (vB p n m)=xQ p:=ruleT_same rfl w ⟨_,rfl⟩ ⟨[],by simp [vB]⟩
 have e4:wX (vB p n m)=wX p:=chkT_same rfl w ⟨_,rfl⟩
 refine ⟨⟨⟨w.se,?_,w.ru,w.ck,w.sn⟩,fun x hx=>?_,fun x hx=>?_,fun t h=>?_⟩,e1,e2,e3,e4⟩
 ·show (p.rides++[_]).length≤10
  rw [List.length_append];simp;omega
 ·have:=w.rr x hx
  show _∧_≤(p.rides++[_]).length
  rw [List.length_append];omega
 ·have:=w.cr x hx
  show _∧_≤(p.rides++[_]).length
  rw [List.length_append];omega
 ·rw [mem_all,e1,e2,e3,e4,List.mem_append,List.mem_singleton] at h
  rcases h with h | (h | rfl) | h | h
  ·exact w.tx t (mem_all.mpr (.inl h))
  ·exact w.tx t (mem_all.mpr (.inr (.inl h)))
  ·exact ht
  ·exact w.tx t (mem_all.mpr (.inr (.inr (.inl h))))
  ·exact w.tx t (mem_all.mpr (.inr (.inr (.inr h))))
theorem add_rul {p:Park}{r s:List Nat}{up:Bool}{a b h:Nat}(w:Wf p)(hl:p.rules.length < 20)(ht:(lt (.rule r s up a b h)).length≤100)(h1:ridePlace p r≠0)(h2:sensorPlace p s≠0) :
  Wf (tG p r s up a b h)∧w9 (tG p r s up a b h)=w9 p∧xW (tG p r s up a b h)=xW p∧xQ (tG p r s up a b h)=xQ p++[lt (.rule r s up a b h)]∧wX (tG p r s up a b h)=wX p:=by
 have e1:w9 (tG p r s up a b h)=w9 p:=rfl
 have e2:xW (tG p r s up a b h)=xW p:=rfl
 have e3:xQ (tG p r s up a b h)=xQ p++[lt (.rule r s up a b h)]:=by
  show List.map _ (p.rules++[_])=_
  rw [List.map_append];show _++[lt (.rule (nameOf _ p.rides (ridePlace p r)) (nameOf _ p.sensors (sensorPlace p s)) up a b h)]=_
  rw [show nameOf (fun x=>x.name) p.rides (ridePlace p r)=r from tO _ _ _ h1,show nameOf (fun x=>x.name) p.sensors (sensorPlace p s)=s from tO _ _ _ h2];rfl
 have e4:wX (tG p r s up a b h)=wX p:=rfl
 have k1:ridePlace p r≤p.rides.length:=place_le ..
 have k2:sensorPlace p s≤p.sensors.length:=place_le ..
 refine ⟨⟨⟨w.se,w.ri,?_,w.ck,fun x hx=>?_⟩,fun x hx=>?_,w.cr,fun t h=>?_⟩,e1,e2,e3,e4⟩
 ·show (p.rules++[_]).length≤20
  rw [List.length_append];simp;omega
 ·rcases List.mem_append.mp (show x∈p.rules++[_] from hx) with hx | hx
  ·exact w.sn x hx
  ·rw [List.mem_singleton.mp hx]
   exact ⟨Nat.pos_of_ne_zero h2,k2⟩
 ·rcases List.mem_append.mp (show x∈p.rules++[_] from hx) with hx | hx
  ·exact w.rr x hx
  ·rw [List.mem_singleton.mp hx]
   exact ⟨Nat.pos_of_ne_zero h1,k1⟩
 ·rw [mem_all,e1,e2,e3,e4,List.mem_append,List.mem_singleton] at h
  rcases h with h | h | (h | rfl) | h
  ·exact w.tx t (mem_all.mpr (.inl h))
  ·exact w.tx t (mem_all.mpr (.inr (.inl h)))
  ·exact w.tx t (mem_all.mpr (.inr (.inr (.inl h))))
  ·exact ht
  ·exact w.tx t (mem_all.mpr (.inr (.inr (.inr h))))
theorem add_chk {p:Park}{r c:List Nat}{d:Bool}{n:Nat}(w:Wf p)(hl:p.checks.length < 20)(ht:(lt (.check r c d n)).length≤100)(h1:ridePlace p r≠0) :
  Wf (pChk p r c d n)∧w9 (pChk p r c d n)=w9 p∧xW (pChk p r c d n)=xW p∧xQ (pChk p r c d n)=xQ p∧wX (pChk p r c d n)=wX p++[lt (.check r c d n)]:=by
 have e1:w9 (pChk p r c d n)=w9 p:=rfl
 have e2:xW (pChk p r c d n)=xW p:=rfl
 have e3:xQ (pChk p r c d n)=xQ p:=rfl
 have e4:wX (pChk p r c d n)=wX p++[lt (.check r c d n)]:=by
  show List.map _ (p.checks++[_])=_
  rw [List.map_append];show _++[lt (.check (nameOf _ p.rides (ridePlace p r)) c d n)]=_
  rw [show nameOf (fun x=>x.name) p.rides (ridePlace p r)=r from tO _ _ _ h1];rfl
 have k1:ridePlace p r≤p.rides.length:=place_le ..
 refine ⟨⟨⟨w.se,w.ri,w.ru,?_,w.sn⟩,w.rr,fun x hx=>?_,fun t h=>?_⟩,e1,e2,e3,e4⟩
 ·show (p.checks++[_]).length≤20
  rw [List.length_append];simp;omega
 ·rcases List.mem_append.mp (show x∈p.checks++[_] from hx) with hx | hx
  ·exact w.cr x hx
  ·rw [List.mem_singleton.mp hx]
   exact ⟨Nat.pos_of_ne_zero h1,k1⟩
 ·rw [mem_all,e1,e2,e3,e4,List.mem_append,List.mem_singleton] at h
  rcases h with h | h | h | h | rfl
  ·exact w.tx t (mem_all.mpr (.inl h))
  ·exact w.tx t (mem_all.mpr (.inr (.inl h)))
  ·exact w.tx t (mem_all.mpr (.inr (.inr (.inl h))))
  ·exact w.tx t (mem_all.mpr (.inr (.inr (.inr h))))
  ·exact ht
theorem wf0 : Wf Vbtpah.noPark:=⟨⟨by simp [Vbtpah.noPark],by simp [Vbtpah.noPark],by simp [Vbtpah.noPark],by simp [Vbtpah.noPark],by simp [Vbtpah.noPark]⟩,by simp [Vbtpah.noPark],by simp [Vbtpah.noPark],fun t h=>by simp [u1,w9,xW,xQ,wX,Vbtpah.noPark] at h⟩
end My
namespace My
open PySem PySem.Spec PyProof.Rows L2
open Vbtpah (Says Log Reading Park Sensor Ride Rule Check)
open Vbtpah (placeIn nameOf rideName sensorName ridePlace sensorPlace doLine)
theorem unwords_len : ∀ ws:List (List Nat),(∀ w∈ws,w.length≤8)→(M.unwords ws).length≤9 * ws.length
 | [],_=>by simp [M.unwords]
 | [w],h=>by
  have:=h w (by simp)
  show w.length≤9 * 1
  omega
 | w::v::r,h=>by
  have ih:=unwords_len (v::r) fun u hu=>h u (by simp [List.mem_cons.mp hu])
  have:=h w (by simp)
  show (w++32::M.unwords (v::r)).length≤_
  rw [List.length_append,List.length_cons];simp only [List.length_cons] at ih ⊢;omega
theorem forms_small : ∀ ms∈M.forms,ms.length≤9∧∀ m∈ms,∀ w,M.fit w m=true→w.length≤8:=by
 intro ms h
 have key:ms.length≤9∧∀ m∈ms,(vF m).length≤8:=by
  simp only [M.forms,List.mem_cons,List.not_mem_nil,or_false] at h;rcases h with rfl | rfl | rfl | rfl | rfl | rfl<;>refine ⟨by decide,?_⟩<;>intro m hm<;>simp only [List.mem_cons,List.not_mem_nil,or_false] at hm <;>
   rcases hm with rfl | rfl | rfl | rfl | rfl | rfl | rfl | rfl | rfl | rfl<;>first | decide | skip
 refine ⟨key.1,fun m hm w hw=>?_⟩
 cases m with
 | name=>exact (M.name_len hw).2
 | num=>exact Nat.le_trans (M.pNum_parts hw).2.2.2 (by decide)
 | word k =>
  have e:w=k:=by simpa [M.fit] using hw
  rw [e];exact key.2 _ hm
theorem uI {l:List Nat}{i:Nat}{ms:List M.Mark}(hi:M.forms[i]? = some ms)(ft:M.fits (Vbtpah.cutAt 32 l) ms=true):l.length≤100:=by
 obtain ⟨h1,h2⟩:=forms_small ms (List.mem_of_getElem? hi)
 have hl:=M.len_of_fits ft
 have:=unwords_len (Vbtpah.cutAt 32 l) fun w hw=>by
  obtain ⟨j,hj⟩:=List.mem_iff_getElem?.mp hw
  have lt:=(List.getElem?_eq_some_iff.mp hj).1
  obtain ⟨m,hm⟩:∃ m,ms[j]? = some m:=⟨_,List.getElem?_eq_getElem (by omega)⟩
  exact h2 m (List.mem_of_getElem? hm) w (uJ ft hj hm)
 rw [M.unwords_cut 32 rfl] at this;omega
structure Pa where
 pl : Addr
 l1 : Addr
 l2 : Addr
 l3 : Addr
 l4 : Addr
 C : Addr
 dx : Addr
def LnF (K:zF)(H:Hp)(a:Addr)(t:List Nat):Prop:=Fld K H a "line" (sw t)
def ML {α:Type}(K:zF)(H:Hp)(R:Addr→α→Prop)(l:Addr)(xs:List α)(ts:List (List Nat)):Prop:=∃ as:List Addr,H l=some (.lst (as.map V.ref))∧All2 R as xs∧All2 (LnF K H) as ts
def planV (d:Pa)(wr wl:Int):List (Str×V):=xJ vY [.ref d.l1,.ref d.l2,.ref d.l3,.ref d.l4,.int wr,.int wl] []
structure PlanM (K:zF)(H:Hp)(d:Pa)(p:Park)(wr wl:Int):Prop where
 ob : H d.pl=some (.ins d.C d.dx (planV d wr wl))
 cl : Cls K d.C
 na : ∀ y∈vY,NoAttr K d.C y
 nd : d.l1≠d.l2∧d.l1≠d.l3∧d.l1≠d.l4∧d.l2≠d.l3∧d.l2≠d.l4∧d.l3≠d.l4
 m1 : ML K H (SenAt K H) d.l1 p.sensors (w9 p)
 m2 : ML K H (RideAt K H) d.l2 p.rides (xW p)
 m3 : ML K H (RuleAt K H) d.l3 p.rules (xQ p)
 m4 : ML K H (ChkAt K H) d.l4 p.checks (wX p)
section
variable {K:zF}{H H':Hp}{d:Pa}{p:Park}{wr wl:Int}
theorem PlanM.f1 (m:PlanM K H d p wr wl):Fld K H d.pl "sensors" (.ref d.l1):=⟨_,_,_,m.ob,m.cl,m.na _ (by simp [vY]),rfl⟩
theorem PlanM.f2 (m:PlanM K H d p wr wl):Fld K H d.pl "rides" (.ref d.l2):=⟨_,_,_,m.ob,m.cl,m.na _ (by simp [vY]),rfl⟩
theorem PlanM.f3 (m:PlanM K H d p wr wl):Fld K H d.pl "rules" (.ref d.l3):=⟨_,_,_,m.ob,m.cl,m.na _ (by simp [vY]),rfl⟩
theorem PlanM.f4 (m:PlanM K H d p wr wl):Fld K H d.pl "checks" (.ref d.l4):=⟨_,_,_,m.ob,m.cl,m.na _ (by simp [vY]),rfl⟩
theorem PlanM.f5 (m:PlanM K H d p wr wl):Fld K H d.pl "wrong" (.int wr):=⟨_,_,_,m.ob,m.cl,m.na _ (by simp [vY]),rfl⟩
theorem PlanM.f6 (m:PlanM K H d p wr wl):Fld K H d.pl "wrong_line" (.int wl):=⟨_,_,_,m.ob,m.cl,m.na _ (by simp [vY]),rfl⟩
theorem PlanM.at_ (m:PlanM K H d p wr wl):PlanAt K H d.pl p :=
 ⟨let ⟨as,h1,h2,_⟩:=m.m1;⟨d.l1,m.f1,as,SqL.of h1,h2⟩,let ⟨as,h1,h2,_⟩:=m.m2;⟨d.l2,m.f2,as,SqL.of h1,h2⟩,let ⟨as,h1,h2,_⟩:=m.m3;⟨d.l3,m.f3,as,SqL.of h1,h2⟩,let ⟨as,h1,h2,_⟩:=m.m4;⟨d.l4,m.f4,as,SqL.of h1,h2⟩⟩
def FK (K:zF)(H H':Hp):Prop:=∀ a f v,Fld K H a f v→Fld K H' a f v
theorem FK.of (s:SameT H H'):FK K H H':=fun _ _ _ h=>h.mono s
theorem SenAt.fk {a:Addr}{x:Sensor}(h:SenAt K H a x)(k:FK K H H'):SenAt K H' a x:=⟨k _ _ _ h.nm,k _ _ _ h.st⟩
theorem RideAt.fk {a:Addr}{x:Ride}(h:RideAt K H a x)(k:FK K H H'):RideAt K H' a x:=⟨k _ _ _ h.nm,k _ _ _ h.st⟩
theorem RuleAt.fk {a:Addr}{x:Rule}(h:RuleAt K H a x)(k:FK K H H'):RuleAt K H' a x:=⟨k _ _ _ h.ri,k _ _ _ h.se,k _ _ _ h.up,k _ _ _ h.off,k _ _ _ h.on,k _ _ _ h.ho⟩
theorem ChkAt.fk {a:Addr}{x:Check}(h:ChkAt K H a x)(k:FK K H H'):ChkAt K H' a x:=⟨k _ _ _ h.ri,k _ _ _ h.nm,k _ _ _ h.bd,k _ _ _ h.sp⟩
theorem EntAt.fk {a:Addr}{x:Vbtpah.Entry}(h:EntAt K H a x)(k:FK K H H'):EntAt K H' a x:=⟨k _ _ _ h.wr,k _ _ _ h.kd,k _ _ _ h.ab,k _ _ _ h.td,k _ _ _ h.th,k _ _ _ h.fo⟩
theorem ML.keep {α:Type}{R S:Addr→α→Prop}{l:Addr}{xs:List α}{ts:List (List Nat)}(m:ML K H R l xs ts)(k:FK K H H')(hl:∀ o,H l=some o→H' l=some o)(hr:∀ a x,R a x→S a x):ML K H' S l xs ts :=
 let ⟨as,h1,h2,h3⟩:=m;⟨as,hl _ h1,h2.mono hr,h3.mono fun _ _ q=>k _ _ _ q⟩
theorem PlanM.mono (m:PlanM K H d p wr wl)(s:SameT H H'):PlanM K H' d p wr wl :=
 ⟨s _ _ m.ob (fun _ z=>nomatch z),m.cl,m.na,m.nd,
  let ⟨as,h1,h2,h3⟩:=m.m1;⟨as,s _ _ h1 (fun _ z=>nomatch z),h2.mono fun _ _ q=>q.mono s,h3.mono fun _ _ q=>Fld.mono q s⟩,
  let ⟨as,h1,h2,h3⟩:=m.m2;⟨as,s _ _ h1 (fun _ z=>nomatch z),h2.mono fun _ _ q=>q.mono s,h3.mono fun _ _ q=>Fld.mono q s⟩,
  let ⟨as,h1,h2,h3⟩:=m.m3;⟨as,s _ _ h1 (fun _ z=>nomatch z),h2.mono fun _ _ q=>q.mono s,h3.mono fun _ _ q=>Fld.mono q s⟩,
  let ⟨as,h1,h2,h3⟩:=m.m4;⟨as,s _ _ h1 (fun _ z=>nomatch z),h2.mono fun _ _ q=>q.mono s,h3.mono fun _ _ q=>Fld.mono q s⟩⟩
def SameL (d:Pa)(H H':Hp):Prop:=∀ b o,b≠d.l1→b≠d.l2→b≠d.l3→b≠d.l4→H b=some o→H' b=some o
structure Grown (K:zF)(H:Hp)(l:Addr)(as:List Addr)(x:Addr)(H':Hp):Prop where
 fk : FK K H H'
 c : Clo H'
 kp : Kp H H'
 at_ : H' l=some (.lst ((as++[x]).map V.ref))
 oth : ∀ b o,b≠l→H b=some o→H' b=some o
theorem grown {l x dx C:Addr}{as:List Addr}{fs:List (Str×V)}(c:Clo H)(hl:H l=some (.lst (as.map V.ref)))(hx:H x=none)(hd:H dx=none)(hn:dx≠x) :
  (upd (upd H dx (.own x)) x (.ins C dx fs)) l=some (.lst (as.map V.ref))∧Grown K H l as x (upd (upd (upd H dx (.own x)) x (.ins C dx fs)) l (.lst (as.map V.ref++[.ref x]))) ∧
  ∀ f v,Cls K C→NoAttr K C f→fs.lookup f=some v→Fld K (upd (upd (upd H dx (.own x)) x (.ins C dx fs)) l (.lst (as.map V.ref++[.ref x]))) x f v:=by
 have s:=xZ (C:=C) (fs:=fs) hx hd
 have e1:=s _ _ hl
 refine ⟨e1,⟨fun a f v h=>(h.mono s.t).put fun C dx fs e=>(by rw [e1] at e;cases e),(c.insN hx hd hn).lstU e1,(Kp.of s).lst e1,by rw [upd_same,List.map_append];rfl,fun b o nb e=>by rw [zH nb];exact s _ _ e⟩,fun f v h1 h2 h3=>?_⟩
 exact Fld.put ⟨C,dx,fs,upd_same,h1,h2,h3⟩ fun C dx fs e=>by rw [e1] at e;cases e
end
theorem All2.map {α β:Type}{R:Addr→α→Prop}{S:Addr→β→Prop}{f:α→β}{as:List Addr}{xs:List α}(k:∀ a x,R a x→S a (f x))(h:All2 R as xs):All2 S as (xs.map f):=by
 refine ⟨by rw [List.length_map,h.len],fun i a y ha hy=>?_⟩
 obtain ⟨x,hx,rfl⟩:=yB hy
 exact k a x (h.at_ i a x ha hx)
def spAdd (K:zF)(is:List Nat):Sp:=fun vs H Q _=>∃ (d:Pa) (p:Park) (wr wl:Int) (x:Addr) (l:List Nat) (ms:List M.Mark) (i:Nat),vs=[.ref d.pl,.ref x]∧Clo H∧PlanM K H d p wr wl∧Wf p∧LnAt K H x l (Vbtpah.cutAt 32 l) ms ∧
 M.forms[i]? = some ms∧M.fits (Vbtpah.cutAt 32 l) ms=true∧l.length≤2000∧i∈is∧(∀ k,doLine p (M.lineAs i (Vbtpah.cutAt 32 l)) = .error k→Q (.int (k:Int)) H) ∧
 ∀ p' H',doLine p (M.lineAs i (Vbtpah.cutAt 32 l)) = .ok p'→Wf p'→PlanM K H' d p' wr wl→SameL d H H'→Clo H'→Kp H H'→Q (.int 0) H'
section
variable {P:Program}{w:World}{K:zF}{mg:Str→Option Value}{base:Heap}{tb:Addr}
theorem sc_add_sensor : zK ["plan","line","name","stale"] ["plan","line"] (zE (z9 73)):=by walk_at "sc"
theorem ok_add_sensor (T:Txt P w K mg):Dfn P w K mg base "add_sensor" ["plan","line"] [] 3 (spAdd K [0]):=by
 have nd:=sc_add_sensor.nd
 refine T.d_add_sensor.ok sc_add_sensor (fun vs H Q E h=>?_) (fun f cdv A outer s H vs Q E hr h=>?_)
 ·obtain ⟨_,_,_,_,_,_,_,_,rfl,_⟩:=h;rfl
 obtain ⟨d,p,wr,wl,x,l,ms,i,rfl,c,pm,wf,ln,hi,ft,lm,hin,qe,qo⟩:=h
 have l100:=uI hi ft
 obtain rfl:i=0:=by simpa using hin
 obtain ⟨C_Sensor,M_Sensor,cl,na⟩:=mk_Sensor (P:=P) (w:=w) (base:=base) T
 refine ⟨_,(zJ H (zB (zL (i:=2) nd rfl (Or.inl rfl) (zY (yI K) (zZ K (pv 1)) zG (fun _ _=>rfl))) (zB (zL (i:=3) nd rfl (Or.inl rfl) (zY (yI K) (zZ K (pv 1)) zG (fun _ _=>rfl))) (zB (zX (zP tH (zS (wR T) (hr.mono (by decide)) (zA (zZ K (pv 0)) (zA (pv 2) zC))) zG (zN _)) (zD (zI (yW T.g_WRONG_NAME))) zM) (zB (zX (zP w8 (pv 3) (yW T.g_MOST_MINUTES) (zN _)) (zD (zI (yW T.g_WRONG_NUMBER))) zM) (zB (zX (zP t5 (zU (xS K) rfl T.b_len yD (zA (zZ K (pv 0)) zC)) (yW T.g_MOST_SENSORS) (zN _)) (zD (zI (yW T.g_TOO_MANY))) zM) (zB (yL (bmK K PySem.F.plainAttrs_list PySem.F.slot_list_append PySem.F.type_list_append yM (zZ K (pv 0)) (zA (pe_mk M_Sensor (hr.mono (by decide)) (zA (pv 2) (zA (pv 3) (zA (zZ K (pv 1)) zC)))) zC))) (zD (zI zG))))))))),?_⟩
 cases hi;have wl1:=M.unwords_cut 32 rfl l
 have wb:=M.words_back (i:=0) rfl ft
 obtain ⟨k,n,w',u,ew⟩:∃ a b c d,Vbtpah.cutAt 32 l=[a,b,c,d]:=by
  have:=M.len_of_fits ft
  match Vbtpah.cutAt 32 l,this with
  | [a,b,c,d],_=>exact ⟨a,b,c,d,rfl⟩
 rw [ew] at ln ft qe qo wb wl1;rw [← wb] at wl1
 change lt (.sensor n (M.valOf u))=l at wl1
 change ∀ k,doLine p (.sensor n (M.valOf u)) = .error k→_ at qe
 change ∀ p' H',doLine p (.sensor n (M.valOf u)) = .ok p'→_ at qo
 obtain ⟨N1,g1,hn1⟩:=ln.nm
 obtain ⟨N2,g2,hn2⟩:=ln.nu
 change SqL K H N1 [sw n] at hn1
 change SqL K H N2 [vn (M.valOf u)] at hn2
 have tx:=ln.tx
 have i1:yZ [sw n] 0=some (sw n):=rfl
 have i2:yZ [vn (M.valOf u)] 0=some (vn (M.valOf u)):=rfl
 have f1:=pm.f1
 obtain ⟨as,hl1,ha,hb⟩:=pm.m1
 have sl1:SqL K H d.l1 (as.map V.ref):=SqL.of hl1
 have nms:All2 (fun a u=>Fld K H a "name" (sw u)) as (p.sensors.map fun x=>x.name):=All2.map (fun _ _ q=>q.nm) ha
 have ds:doLine p (.sensor n (M.valOf u))=(if sensorPlace p n≠0 then .error 2 else if 1440 < M.valOf u then .error 3 else if Vbtpah.SENSORS≤p.sensors.length then .error 4 else .ok (uV p n (M.valOf u))):=rfl
 rw [ds] at qe qo;walk_at "rd"
 rw [← vZ];refine zR ?_ ?_
 ·intro h1
  have z1:sensorPlace p n≠0:=fun e=>by
   have : placeIn (fun x=>x.name) p.sensors n=0:=e
   rw [this] at h1;simp at h1
  exact ⟨_,Fg.self c (Same.refl _),qe 2 (by rw [if_pos z1])⟩
 intro h1
 have z1:¬ sensorPlace p n≠0:=by
  intro z
  have : V.int (placeIn (fun x=>x.name) p.sensors n:Int)=V.int 0:=by simpa using h1
  have:=V.int.inj this
  exact z (show placeIn (fun x=>x.name) p.sensors n=0 by omega)
 rw [if_neg z1] at qe qo;walk_at "rd"
 refine zR ?_ ?_
 ·intro h2
  have z2:1440 < M.valOf u:=by have:=of_decide_eq_true h2;omega
  exact ⟨_,Fg.self c (Same.refl _),qe 3 (by rw [if_pos z2])⟩
 intro h2
 have z2:¬ 1440 < M.valOf u:=by have:=of_decide_eq_false h2;omega
 rw [if_neg z2] at qe qo;refine ⟨_,rfl,_,_,rfl,f1,_,_,rfl,.inl sl1,?_⟩
 walk_at "rd"
 rw [List.length_map,ha.len];refine zR ?_ ?_
 ·intro h3
  have z3:Vbtpah.SENSORS≤p.sensors.length:=by have:=of_decide_eq_true h3;show 6≤_;omega
  exact ⟨_,Fg.self c (Same.refl _),qe 4 (by rw [if_pos z3])⟩
 intro h3
 have z3:¬ Vbtpah.SENSORS≤p.sensors.length:=by have:=of_decide_eq_false h3;show ¬ 6≤_;omega
 rw [if_neg z3] at qo;have sz:(100:Nat) < sizeLine:=by decide
 have z4:p.sensors.length < 6:=Nat.lt_of_not_le z3
 refine ⟨_,rfl,_,_,rfl,f1,.inl ⟨rfl,_,sl1⟩,_,rfl,_,rfl,_,rfl,_,_,rfl,tx,fun y dy hy hd hn=>?_⟩
 refine ⟨y,dy,_,rfl,rfl,c.insN hy hd hn,upd_same,rfl,?_⟩
 rw [yQ];obtain ⟨e1,gr,fl⟩:=grown (K:=K) (C:=C_Sensor) (fs:=xJ ["name","stale","line"] ([sw n,vn (M.valOf u),sw l]++[]) []) c hl1 hy hd hn
 refine ⟨d.l1,_,_,rfl,rfl,e1,by rw [List.length_map,ha.len];omega,?_⟩
 have fl1:=fl "name" _ cl (na _ (by simp)) rfl
 have fl2:=fl "stale" _ cl (na _ (by simp)) rfl
 have fl3:=fl "line" _ cl (na _ (by simp)) rfl
 obtain ⟨w1,t1,t2,t3,t4⟩:=add_sen (n:=n) (m:=M.valOf u) wf z4 (by rw [wl1];exact l100)
 generalize upd (upd (upd H dy (.own y)) y _) d.l1 _=H5 at gr fl1 fl2 fl3 ⊢
 obtain ⟨n12,n13,n14,n23,n24,n34⟩:=pm.nd
 refine ⟨H5,⟨gr.kp,gr.c,Same.refl _⟩,qo _ H5 rfl w1 ⟨gr.oth _ _ (xD pm.ob hl1 (by intro z;cases z)) pm.ob,pm.cl,pm.na,pm.nd,?_,?_,?_,?_⟩ (fun b o h1 _ _ _ e=>gr.oth b o h1 e) gr.c gr.kp⟩
 ·refine ⟨as++[y],gr.at_,All2.snoc (ha.mono fun _ _ q=>q.fk gr.fk) ⟨fl1,fl2⟩,?_⟩
  change All2 _ _ (w9 (uV p n (M.valOf u)))
  rw [t1];exact All2.snoc (hb.mono fun _ _ q=>gr.fk _ _ _ q) (by rw [wl1];exact fl3)
 ·change ML K H5 _ _ _ (xW (uV p n (M.valOf u)))
  rw [t2];exact pm.m2.keep gr.fk (fun o e=>gr.oth _ _ n12.symm e) fun _ _ q=>q.fk gr.fk
 ·change ML K H5 _ _ _ (xQ (uV p n (M.valOf u)))
  rw [t3];exact pm.m3.keep gr.fk (fun o e=>gr.oth _ _ n13.symm e) fun _ _ q=>q.fk gr.fk
 ·change ML K H5 _ _ _ (wX (uV p n (M.valOf u)))
  rw [t4];exact pm.m4.keep gr.fk (fun o e=>gr.oth _ _ n14.symm e) fun _ _ q=>q.fk gr.fk
end
end My
namespace My
open PySem PySem.Spec PyProof.Rows L2
open Vbtpah (Says Log Reading Park Sensor Ride Rule Check)
open Vbtpah (placeIn nameOf rideName sensorName ridePlace sensorPlace doLine)
section
variable {P:Program}{w:World}{K:zF}{mg:Str→Option Value}{base:Heap}{tb:Addr}
theorem sc_add_ride : zK ["plan","line","name","staff"] ["plan","line"] (zE (z9 74)):=by walk_at "sc"
theorem ok_add_ride (T:Txt P w K mg):Dfn P w K mg base "add_ride" ["plan","line"] [] 3 (spAdd K [1]):=by
 have nd:=sc_add_ride.nd
 refine T.d_add_ride.ok sc_add_ride (fun vs H Q E h=>?_) (fun f cdv A outer s H vs Q E hr h=>?_)
 ·obtain ⟨_,_,_,_,_,_,_,_,rfl,_⟩:=h;rfl
 obtain ⟨d,p,wr,wl,x,l,ms,i,rfl,c,pm,wf,ln,hi,ft,lm,hin,qe,qo⟩:=h
 have l100:=uI hi ft
 obtain rfl:i=1:=by simpa using hin
 obtain ⟨C_Ride,M_Ride,cl,na⟩:=mk_Ride (P:=P) (w:=w) (base:=base) T
 refine ⟨_,(zJ H (zB (zL (i:=2) nd rfl (Or.inl rfl) (zY (yI K) (zZ K (pv 1)) zG (fun _ _=>rfl))) (zB (zL (i:=3) nd rfl (Or.inl rfl) (zY (yI K) (zZ K (pv 1)) zG (fun _ _=>rfl))) (zB (zX (zP tH (zS (wR T) (hr.mono (by decide)) (zA (zZ K (pv 0)) (zA (pv 2) zC))) zG (zN _)) (zD (zI (yW T.g_WRONG_NAME))) zM) (zB (zX (zP w8 (pv 3) (yW T.g_MOST_STAFF) (zN _)) (zD (zI (yW T.g_WRONG_NUMBER))) zM) (zB (zX (zP t5 (zU (xS K) rfl T.b_len yD (zA (zZ K (pv 0)) zC)) (yW T.g_MOST_RIDES) (zN _)) (zD (zI (yW T.g_TOO_MANY))) zM) (zB (yL (bmK K PySem.F.plainAttrs_list PySem.F.slot_list_append PySem.F.type_list_append yM (zZ K (pv 0)) (zA (pe_mk M_Ride (hr.mono (by decide)) (zA (pv 2) (zA (pv 3) (zA (zZ K (pv 1)) zC)))) zC))) (zD (zI zG))))))))),?_⟩
 cases hi;have wl1:=M.unwords_cut 32 rfl l
 have wb:=M.words_back (i:=1) rfl ft
 obtain ⟨k,n,w',u,ew⟩:∃ a b c d,Vbtpah.cutAt 32 l=[a,b,c,d]:=by
  have:=M.len_of_fits ft
  match Vbtpah.cutAt 32 l,this with
  | [a,b,c,d],_=>exact ⟨a,b,c,d,rfl⟩
 rw [ew] at ln ft qe qo wb wl1;rw [← wb] at wl1
 change lt (.ride n (M.valOf u))=l at wl1
 change ∀ k,doLine p (.ride n (M.valOf u)) = .error k→_ at qe
 change ∀ p' H',doLine p (.ride n (M.valOf u)) = .ok p'→_ at qo
 obtain ⟨N1,g1,hn1⟩:=ln.nm
 obtain ⟨N2,g2,hn2⟩:=ln.nu
 change SqL K H N1 [sw n] at hn1
 change SqL K H N2 [vn (M.valOf u)] at hn2
 have tx:=ln.tx
 have i1:yZ [sw n] 0=some (sw n):=rfl
 have i2:yZ [vn (M.valOf u)] 0=some (vn (M.valOf u)):=rfl
 have f1:=pm.f2
 obtain ⟨as,hl1,ha,hb⟩:=pm.m2
 have sl1:SqL K H d.l2 (as.map V.ref):=SqL.of hl1
 have nms:All2 (fun a u=>Fld K H a "name" (sw u)) as (p.rides.map fun x=>x.name):=All2.map (fun _ _ q=>q.nm) ha
 have ds:doLine p (.ride n (M.valOf u))=(if ridePlace p n≠0 then .error 2 else if 9 < M.valOf u then .error 3 else if Vbtpah.RIDES≤p.rides.length then .error 4 else .ok (vB p n (M.valOf u))):=rfl
 rw [ds] at qe qo;walk_at "rd"
 rw [← vZ];refine zR ?_ ?_
 ·intro h1
  have z1:ridePlace p n≠0:=fun e=>by
   have : placeIn (fun x=>x.name) p.rides n=0:=e
   rw [this] at h1;simp at h1
  exact ⟨_,Fg.self c (Same.refl _),qe 2 (by rw [if_pos z1])⟩
 intro h1
 have z1:¬ ridePlace p n≠0:=by
  intro z
  have : V.int (placeIn (fun x=>x.name) p.rides n:Int)=V.int 0:=by simpa using h1
  have:=V.int.inj this
  exact z (show placeIn (fun x=>x.name) p.rides n=0 by omega)
 rw [if_neg z1] at qe qo;walk_at "rd"
 refine zR ?_ ?_
 ·intro h2
  have z2:9 < M.valOf u:=by have:=of_decide_eq_true h2;omega
  exact ⟨_,Fg.self c (Same.refl _),qe 3 (by rw [if_pos z2])⟩
 intro h2
 have z2:¬ 9 < M.valOf u:=by have:=of_decide_eq_false h2;omega
 rw [if_neg z2] at qe qo;refine ⟨_,rfl,_,_,rfl,f1,_,_,rfl,.inl sl1,?_⟩
 walk_at "rd"
 rw [List.length_map,ha.len];refine zR ?_ ?_
 ·intro h3
  have z3:Vbtpah.RIDES≤p.rides.length:=by have:=of_decide_eq_true h3;show 10≤_;omega
  exact ⟨_,Fg.self c (Same.refl _),qe 4 (by rw [if_pos z3])⟩
 intro h3
 have z3:¬ Vbtpah.RIDES≤p.rides.length:=by have:=of_decide_eq_false h3;show ¬ 10≤_;omega
 rw [if_neg z3] at qo;have sz:(100:Nat) < sizeLine:=by decide
 have z4:p.rides.length < 10:=Nat.lt_of_not_le z3
 refine ⟨_,rfl,_,_,rfl,f1,.inl ⟨rfl,_,sl1⟩,_,rfl,_,rfl,_,rfl,_,_,rfl,tx,fun y dy hy hd hn=>?_⟩
 refine ⟨y,dy,_,rfl,rfl,c.insN hy hd hn,upd_same,rfl,?_⟩
 rw [yQ];obtain ⟨e1,gr,fl⟩:=grown (K:=K) (C:=C_Ride) (fs:=xJ ["name","staff","line"] ([sw n,vn (M.valOf u),sw l]++[]) []) c hl1 hy hd hn
 refine ⟨d.l2,_,_,rfl,rfl,e1,by rw [List.length_map,ha.len];omega,?_⟩
 have fl1:=fl "name" _ cl (na _ (by simp)) rfl
 have fl2:=fl "staff" _ cl (na _ (by simp)) rfl
 have fl3:=fl "line" _ cl (na _ (by simp)) rfl
 obtain ⟨w1,t1,t2,t3,t4⟩:=add_rid (n:=n) (m:=M.valOf u) wf z4 (by rw [wl1];exact l100)
 generalize upd (upd (upd H dy (.own y)) y _) d.l2 _=H5 at gr fl1 fl2 fl3 ⊢
 obtain ⟨n12,n13,n14,n23,n24,n34⟩:=pm.nd
 refine ⟨H5,⟨gr.kp,gr.c,Same.refl _⟩,qo _ H5 rfl w1 ⟨gr.oth _ _ (xD pm.ob hl1 (by intro z;cases z)) pm.ob,pm.cl,pm.na,pm.nd,?_,?_,?_,?_⟩ (fun b o _ h1 _ _ e=>gr.oth b o h1 e) gr.c gr.kp⟩
 ·change ML K H5 _ _ _ (w9 (vB p n (M.valOf u)))
  rw [t1];exact pm.m1.keep gr.fk (fun o e=>gr.oth _ _ n12 e) fun _ _ q=>q.fk gr.fk
 ·refine ⟨as++[y],gr.at_,All2.snoc (ha.mono fun _ _ q=>q.fk gr.fk) ⟨fl1,fl2⟩,?_⟩
  change All2 _ _ (xW (vB p n (M.valOf u)))
  rw [t2];exact All2.snoc (hb.mono fun _ _ q=>gr.fk _ _ _ q) (by rw [wl1];exact fl3)
 ·change ML K H5 _ _ _ (xQ (vB p n (M.valOf u)))
  rw [t3];exact pm.m3.keep gr.fk (fun o e=>gr.oth _ _ n23.symm e) fun _ _ q=>q.fk gr.fk
 ·change ML K H5 _ _ _ (wX (vB p n (M.valOf u)))
  rw [t4];exact pm.m4.keep gr.fk (fun o e=>gr.oth _ _ n24.symm e) fun _ _ q=>q.fk gr.fk
abbrev lvW (up:Bool)(a b h:Nat):Prop:=1000 < a∨1000 < b∨1440 < h∨(up=true∧a < b)∨(up=false∧b < a)
def spLv (K:zF):Sp:=fun vs H Q _=>∃ (L:Addr) (up:Bool) (a b h:Nat),vs=[.bl up,.ref L]∧Clo H∧SqL K H L [vn a,vn b,vn h]∧Q (.bl (decide (lvW up a b h))) H
theorem sc_levels_are_wrong : zK ["shuts_above","levels","shut_level","fine_level"] ["shuts_above","levels"] (zE (z9 75)):=by walk_at "sc"
theorem ok_levels_are_wrong (T:Txt P w K mg):Dfn P w K mg base "levels_are_wrong" ["shuts_above","levels"] [] 1 (spLv K):=by
 have nd:=sc_levels_are_wrong.nd
 refine T.d_levels_are_wrong.ok sc_levels_are_wrong (fun vs H Q E h=>?_) (fun f cdv A outer s H vs Q E hr h=>?_)
 ·obtain ⟨_,_,_,_,_,rfl,_⟩:=h;rfl
 obtain ⟨L,up,a,b,h,rfl,c,hs,q⟩:=h
 refine ⟨_,(zJ H (zB (zL (i:=2) nd rfl (Or.inl rfl) (zY (yI K) (pv 1) zG (fun _ _=>rfl))) (zB (zL (i:=3) nd rfl (Or.inl rfl) (zY (yI K) (pv 1) zG (fun _ _=>rfl))) (zB (zX (PW.pt (pw_or (zP w8 (zU (call_max2 rfl) rfl T.b_max bt_max (zA (pv 2) (zA (pv 3) zC))) (yW T.g_MOST_LEVEL) (zN _)) (tM (zP w8 (zY (yI K) (pv 1) zG (fun _ _=>rfl)) (yW T.g_MOST_MINUTES) (zN _))))) (zD (zI uU)) zM) (zB (zX (yC (pv 0)) (zD (zI (yO w8 (pv 3) (pv 2) (zN _)))) zM) (zD (zI (yO w8 (pv 2) (pv 3) (zN _))))))))),?_⟩
 have i0:yZ [vn a,vn b,vn h] 0=some (vn a):=rfl
 have i1:yZ [vn a,vn b,vn h] 1=some (vn b):=rfl
 have i2:yZ [vn a,vn b,vn h] 2=some (vn h):=rfl
 walk_at "rd"
 have qt:(1000 < a∨1000 < b∨1440 < h)→Q (.bl true) H:=fun z=>by
  rw [decide_eq_true (p:=lvW up a b h) (z.elim .inl fun z=>z.elim (fun z=>.inr (.inl z)) fun z=>.inr (.inr (.inl z)))] at q;exact q
 refine zR ?_ ?_
 ·intro h1
  have z1:=of_decide_eq_true h1
  exact ⟨_,Fg.self c (Same.refl _),qt (by split at z1<;>omega)⟩
 intro h1
 have z1:=of_decide_eq_false h1
 have y1:¬ 1000 < a∧¬ 1000 < b:=by constructor<;>(split at z1<;>omega)
 walk_at "rd"
 refine zR ?_ ?_
 ·intro h2
  have z2:=of_decide_eq_true h2
  exact ⟨_,Fg.self c (Same.refl _),qt (by omega)⟩
 intro h2
 have z2:¬ 1440 < h:=by have:=of_decide_eq_false h2;omega
 walk_at "rd"
 cases up with
 | true =>
  rw [if_pos rfl];walk_at "rd"
  ·exact Fg.self c (Same.refl _)
  ·rw [show decide (1000 < a∨1000 < b∨1440 < h∨(true=true∧a < b)∨(true=false∧b < a))=decide ((a:Int) < (b:Int)) by
    rw [tJ];simp [y1,z2]] at q
   exact q
 | false =>
  rw [if_neg Bool.false_ne_true];walk_at "rd"
  ·exact Fg.self c (Same.refl _)
  ·rw [show decide (1000 < a∨1000 < b∨1440 < h∨(false=true∧a < b)∨(false=false∧b < a))=decide ((b:Int) < (a:Int)) by
    rw [tJ];simp [y1,z2]] at q
   exact q
def spHasC (K:zF):Sp:=fun vs H Q _=>∃ (pl l:Addr) (r:Nat) (n:List Nat) (cs:List Check),vs=[.ref pl,.int (r:Int),sw n]∧Clo H∧Fld K H pl "checks" (.ref l)∧ListAt K H (ChkAt K H) l cs∧cs.length≤20∧Q (.bl (cs.any fun x=>x.ride==r&&x.name==n)) H
theorem sc_has_check : zK ["plan","ride","name","check"] ["plan","ride","name"] (zE (z9 77)):=by walk_at "sc"
theorem ok_has_check (T:Txt P w K mg):Dfn P w K mg base "has_check" ["plan","ride","name"] [] 1 (spHasC K):=by
 have nd:=sc_has_check.nd
 refine T.d_has_check.ok sc_has_check (fun vs H Q E h=>?_) (fun f cdv A outer s H vs Q E hr h=>?_)
 ·obtain ⟨_,_,_,_,_,rfl,_⟩:=h;rfl
 obtain ⟨pl,l,r,n,cs,rfl,c,fl,⟨as,hs,ha⟩,lim,q⟩:=h
 refine ⟨_,(zJ H (zD (zI (zU (anyK K rfl) rfl T.b_any bt_any (zA (vA rfl nd (vH K (zZ K (pv 0))) (yS (own:=[("check",3)]) rfl) (fun _ _ _ _ _=>(zV (i:=3) nd rfl (Or.inl rfl))) (fun _ _ _ _ _=>xY) (fun _ _ _ _ _=>(vU (yO yH (zZ K (pv 3)) (pv 1) (zN _)) (vT (yO yH (zZ K (pv 3)) (pv 2) (zN _)))))) zC))))),?_⟩
 refine ⟨_,rfl,_,_,rfl,fl,l,rfl,⟨_,hs⟩,fun D hD=>x9 (K:=K) (xs:=as.map V.ref) (PvC (fun x=>some (V.bl (x.ride==r&&x.name==n))) cs H D) (lc_0 hD) (fun i H' _ p=>p.1.seq hs) ?_ ?_⟩
 ·rintro i y H' hi p
  obtain ⟨a,ha1,rfl⟩:=yB hi
  obtain ⟨k,hk,ka⟩:=ha.getA ha1
  have ri:=ka.ri.mono p.1.t
  have nm:=ka.nm.mono p.1.t
  have lz:cs.length≤sizeLine:=Nat.le_trans lim (by decide)
  walk_at "rd"
  refine zR ?_ ?_
  ·intro h1
   have z1:k.ride=r:=by have:=y8 h1;omega
   refine ⟨_,rfl,_,_,rfl,nm,_,rfl,rfl,vK hk lz hD p ?_ (Same.refl _)⟩
   show some (V.bl _)=some (V.bl (decide (V.str (st k.name)=V.str (st n))))
   rw [decW,z1];simp
  ·intro h1
   have z1:k.ride≠r:=by have:=y9 h1;omega
   refine vK hk lz hD p ?_ (Same.refl _)
   simp [z1]
 ·intro H' p
  have e:=wI p (by rw [List.length_map,ha.len])
  have e2:(cs.filterMap fun x=>some (V.bl (x.ride==r&&x.name==n)))=(cs.map fun x=>(x.ride==r&&x.name==n)).map V.bl:=by
   rw [vG,List.map_map];rfl
  rw [e2] at e;refine ⟨_,_,rfl,SqL.of e,_,Fg.self c p.1,?_⟩
  rw [List.any_map];exact q
end
end My
namespace My
open PySem PySem.Spec PyProof.Rows L2
open Vbtpah (Says Log Reading Park Sensor Ride Rule Check)
open Vbtpah (placeIn nameOf rideName sensorName ridePlace sensorPlace doLine)
section
variable {P:Program}{w:World}{K:zF}{mg:Str→Option Value}{base:Heap}{tb:Addr}
theorem s_above : Str.ofString "above"=st M.tAbove:=by decide +kernel
theorem s_days : Str.ofString "days"=st M.tDays:=by decide +kernel
theorem sc_add_rule : zK ["plan","line","ride","sensor","shuts_above"] ["plan","line"] (zE (z9 76)):=by walk_at "sc"
theorem ok_add_rule (T:Txt P w K mg):Dfn P w K mg base "add_rule" ["plan","line"] [] 3 (spAdd K [2,3]):=by
 have nd:=sc_add_rule.nd
 refine T.d_add_rule.ok sc_add_rule (fun vs H Q E h=>?_) (fun f cdv A outer s H vs Q E hr h=>?_)
 ·obtain ⟨_,_,_,_,_,_,_,_,rfl,_⟩:=h;rfl
 obtain ⟨d,p,wr,wl,x,l,ms,i,rfl,c,pm,wf,ln,hi,ft,lm,hin,qe,qo⟩:=h
 have l100:=uI hi ft
 obtain ⟨C_Rule,M_Rule,cl,na⟩:=mk_Rule (P:=P) (w:=w) (base:=base) T
 refine ⟨_,(zJ H (zB (zL (i:=2) nd rfl (Or.inl rfl) (zS (wR T) (hr.mono (by decide)) (zA (zZ K (pv 0)) (zA (zY (yI K) (zZ K (pv 1)) zG (fun _ _=>rfl)) zC)))) (zB (zL (i:=3) nd rfl (Or.inl rfl) (zS (wR T) (hr.mono (by decide)) (zA (zZ K (pv 0)) (zA (zY (yI K) (zZ K (pv 1)) zG (fun _ _=>rfl)) zC)))) (zB (zL (i:=4) nd rfl (Or.inl rfl) (yO yH (zY (yI K) (zZ K (pv 1)) zG (fun _ _=>rfl)) wO (zN _))) (zB (zX (PW.pt (pw_or (zP yH (pv 2) zG (zN _)) (tM (zP yH (pv 3) zG (zN _))))) (zD (zI (yW T.g_WRONG_NAME))) zM) (zB (zX (yC (zS (ok_levels_are_wrong T) (hr.mono (by decide)) (zA (pv 4) (zA (zZ K (pv 1)) zC)))) (zD (zI (yW T.g_WRONG_NUMBER))) zM) (zB (zX (zP t5 (zU (xS K) rfl T.b_len yD (zA (zZ K (pv 0)) zC)) (yW T.g_MOST_RULES) (zN _)) (zD (zI (yW T.g_TOO_MANY))) zM) (zB (yL (bmK K PySem.F.plainAttrs_list PySem.F.slot_list_append PySem.F.type_list_append yM (zZ K (pv 0)) (zA (pe_mk M_Rule (hr.mono (by decide)) (zA (pv 2) (zA (pv 3) (zA (pv 4) (zA (zZ K (pv 1)) (zA (zZ K (pv 1)) zC)))))) zC))) (zD (zI zG)))))))))),?_⟩
 have wl1:=M.unwords_cut 32 rfl l
 have wb:=M.words_back hi ft
 obtain ⟨k,r,s',u,a,v,b,w',h',up,ew,hup,hnm,hnu,hli⟩:∃ k r s' u a v b w' h',∃ up:Bool,Vbtpah.cutAt 32 l=[k,r,s',u,a,v,b,w',h']∧(u==M.tAbove)=up∧nmW (Vbtpah.cutAt 32 l) ms=[r,s']∧nuW (Vbtpah.cutAt 32 l) ms=[M.valOf a,M.valOf b,M.valOf h'] ∧
   M.lineAs i (Vbtpah.cutAt 32 l) = .rule r s' up (M.valOf a) (M.valOf b) (M.valOf h'):=by
  have hl:=M.len_of_fits ft
  rcases (by simpa using hin:i=2∨i=3) with rfl | rfl
  ·cases hi
   match Vbtpah.cutAt 32 l,hl,ft with
   | [k,r,s',u,a,v,b,w',h'],_,ft =>
    have : u=M.tAbove:=by
     have:=uJ ft (i:=3) rfl rfl
     simpa [M.fit] using this
    subst this;exact ⟨k,r,s',_,a,v,b,w',h',true,rfl,by simp,rfl,rfl,rfl⟩
  ·cases hi
   match Vbtpah.cutAt 32 l,hl,ft with
   | [k,r,s',u,a,v,b,w',h'],_,ft =>
    have : u=M.tBelow:=by
     have:=uJ ft (i:=3) rfl rfl
     simpa [M.fit] using this
    subst this;exact ⟨k,r,s',_,a,v,b,w',h',false,rfl,by decide,rfl,rfl,rfl⟩
 rw [hli] at qe qo wb;rw [← wb] at wl1
 change lt (.rule r s' up (M.valOf a) (M.valOf b) (M.valOf h'))=l at wl1
 obtain ⟨N1,g1,hn1⟩:=ln.nm
 obtain ⟨N2,g2,hn2⟩:=ln.nu
 obtain ⟨N3,g3,hn3⟩:=ln.wd
 rw [hnm] at hn1;rw [hnu] at hn2;rw [ew] at hn3
 change SqL K H N1 [sw r,sw s'] at hn1
 change SqL K H N2 [vn (M.valOf a),vn (M.valOf b),vn (M.valOf h')] at hn2
 have i3:yZ ([k,r,s',u,a,v,b,w',h'].map sw) 3=some (sw u):=xI (n:=3) rfl rfl
 generalize M.valOf a=na1 at *
 generalize M.valOf b=nb1 at *
 generalize M.valOf h'=nh1 at *
 have tx:=ln.tx
 have i1:yZ [sw r,sw s'] 0=some (sw r):=rfl
 have i2:yZ [sw r,sw s'] 1=some (sw s'):=rfl
 have f1:=pm.f1
 have f2:=pm.f2
 have f3:=pm.f3
 obtain ⟨as1,hl1,ha1,_⟩:=pm.m1
 obtain ⟨as2,hl2,ha2,_⟩:=pm.m2
 obtain ⟨as,hl3,ha,hb⟩:=pm.m3
 have sl1:SqL K H d.l1 (as1.map V.ref):=SqL.of hl1
 have sl2:SqL K H d.l2 (as2.map V.ref):=SqL.of hl2
 have sl3:SqL K H d.l3 (as.map V.ref):=SqL.of hl3
 have nms1:All2 (fun a u=>Fld K H a "name" (sw u)) as1 (p.sensors.map fun x=>x.name):=All2.map (fun _ _ q=>q.nm) ha1
 have nms2:All2 (fun a u=>Fld K H a "name" (sw u)) as2 (p.rides.map fun x=>x.name):=All2.map (fun _ _ q=>q.nm) ha2
 have ds:doLine p (.rule r s' up na1 nb1 nh1)=(if ridePlace p r=0∨sensorPlace p s'=0 then .error 2 else if lvW up na1 nb1 nh1 then .error 3 else if Vbtpah.RULES≤p.rules.length then .error 4 else .ok (tG p r s' up na1 nb1 nh1)):=rfl
 rw [ds] at qe qo;refine ⟨_,rfl,_,_,rfl,f2,_,rfl,_,_,rfl,g1,N1,_,_,_,rfl,rfl,hn1,i1,d.l2,as2,_,r,rfl,c,sl2,nms2,?_⟩
 refine ⟨_,rfl,_,_,rfl,f1,_,rfl,_,_,rfl,g1,N1,_,_,_,rfl,rfl,hn1,i2,d.l1,as1,_,s',rfl,c,sl1,nms1,?_⟩
 rw [← vZ,← vZ];refine ⟨_,rfl,_,_,rfl,g3,N3,_,_,_,rfl,rfl,hn3,i3,rfl,?_⟩
 rw [s_above,decW,hup];walk_at "rd"
 refine zR ?_ ?_
 ·intro h1
  have z1:ridePlace p r=0:=by have:=y8 h1;show placeIn (fun x=>x.name) p.rides r=0;omega
  exact ⟨_,Fg.self c (Same.refl _),qe 2 (by rw [if_pos (.inl z1)])⟩
 intro h1
 have z1:ridePlace p r≠0:=by have:=y9 h1;show placeIn (fun x=>x.name) p.rides r≠0;omega
 walk_at "rd"
 refine zR ?_ ?_
 ·intro h2
  have z2:sensorPlace p s'=0:=by have:=y8 h2;show placeIn (fun x=>x.name) p.sensors s'=0;omega
  exact ⟨_,Fg.self c (Same.refl _),qe 2 (by rw [if_pos (.inr z2)])⟩
 intro h2
 have z2:sensorPlace p s'≠0:=by have:=y9 h2;show placeIn (fun x=>x.name) p.sensors s'≠0;omega
 rw [if_neg (by intro z;rcases z with z | z;exact z1 z;exact z2 z)] at qe qo
 refine ⟨_,rfl,_,rfl,_,_,rfl,g2,N2,up,na1,nb1,nh1,rfl,c,hn2,_,rfl,?_⟩
 refine zR ?_ ?_
 ·intro h3
  have z3:=of_decide_eq_true h3
  exact ⟨_,Fg.self c (Same.refl _),qe 3 (by rw [if_pos z3])⟩
 intro h3
 have z3:=of_decide_eq_false h3
 rw [if_neg z3] at qe qo;refine ⟨_,rfl,_,_,rfl,f3,_,_,rfl,.inl sl3,?_⟩
 walk_at "rd"
 rw [List.length_map,ha.len];refine zR ?_ ?_
 ·intro h4
  have z4:Vbtpah.RULES≤p.rules.length:=by have:=of_decide_eq_true h4;show 20≤_;omega
  exact ⟨_,Fg.self c (Same.refl _),qe 4 (by rw [if_pos z4])⟩
 intro h4
 have z4:¬ Vbtpah.RULES≤p.rules.length:=by have:=of_decide_eq_false h4;show ¬ 20≤_;omega
 rw [if_neg z4] at qo;have sz:(100:Nat) < sizeLine:=by decide
 have z5:p.rules.length < 20:=Nat.lt_of_not_le z4
 refine ⟨_,rfl,_,_,rfl,f3,.inl ⟨rfl,_,sl3⟩,_,rfl,_,rfl,_,rfl,_,rfl,_,_,rfl,g2,_,rfl,_,_,rfl,tx,fun y dy hy hd hn=>?_⟩
 refine ⟨y,dy,N2,_,_,_,_,_,_,_,rfl,c.insN hy hd hn,upd_same,SqL.monoT hn2 (xZ hy hd).t,rfl,?_⟩
 rw [yQ];obtain ⟨e1,gr,fl⟩:=grown (K:=K) (C:=C_Rule) (fs:=xJ ["ride","sensor","shuts_above","shut_level","fine_level","hold","line"] [.int (placeIn (fun x=>x.name) p.rides r:Int),.int (placeIn (fun x=>x.name) p.sensors s':Int),.bl up,vn na1,vn nb1,vn nh1,sw l] []) c hl3 hy hd hn
 refine ⟨d.l3,_,_,rfl,rfl,e1,by rw [List.length_map,ha.len];omega,?_⟩
 have fl1:=fl "ride" _ cl (na _ (by simp)) rfl
 have fl2:=fl "sensor" _ cl (na _ (by simp)) rfl
 have fl3:=fl "shuts_above" _ cl (na _ (by simp)) rfl
 have fl4:=fl "shut_level" _ cl (na _ (by simp)) rfl
 have fl5:=fl "fine_level" _ cl (na _ (by simp)) rfl
 have fl6:=fl "hold" _ cl (na _ (by simp)) rfl
 have fl7:=fl "line" _ cl (na _ (by simp)) rfl
 obtain ⟨w1,t1,t2,t3,t4⟩:=add_rul (up:=up) (a:=na1) (b:=nb1) (h:=nh1) wf z5 (by rw [wl1];exact l100) z1 z2
 generalize upd (upd (upd H dy (.own y)) y _) d.l3 _=H5 at gr fl1 fl2 fl3 fl4 fl5 fl6 fl7 ⊢
 obtain ⟨n12,n13,n14,n23,n24,n34⟩:=pm.nd
 refine ⟨H5,⟨gr.kp,gr.c,Same.refl _⟩,qo _ H5 rfl w1 ⟨gr.oth _ _ (xD pm.ob hl3 (by intro z;cases z)) pm.ob,pm.cl,pm.na,pm.nd,?_,?_,?_,?_⟩ (fun b o _ _ h1 _ e=>gr.oth b o h1 e) gr.c gr.kp⟩
 ·rw [t1]
  exact pm.m1.keep gr.fk (fun o e=>gr.oth _ _ n13 e) fun _ _ q=>q.fk gr.fk
 ·rw [t2]
  exact pm.m2.keep gr.fk (fun o e=>gr.oth _ _ n23 e) fun _ _ q=>q.fk gr.fk
 ·refine ⟨as++[y],gr.at_,All2.snoc (ha.mono fun _ _ q=>q.fk gr.fk) ⟨fl1,fl2,fl3,fl4,fl5,fl6⟩,?_⟩
  rw [t3];exact All2.snoc (hb.mono fun _ _ q=>gr.fk _ _ _ q) (by rw [wl1];exact fl7)
 ·rw [t4]
  exact pm.m4.keep gr.fk (fun o e=>gr.oth _ _ n34.symm e) fun _ _ q=>q.fk gr.fk
end
end My
namespace My
open PySem PySem.Spec PyProof.Rows L2
open Vbtpah (Says Log Reading Park Sensor Ride Rule Check)
open Vbtpah (placeIn nameOf rideName sensorName ridePlace sensorPlace doLine)
section
variable {P:Program}{w:World}{K:zF}{mg:Str→Option Value}{base:Heap}{tb:Addr}
theorem sc_add_check : zK ["plan","line","ride","name","by_days","span"] ["plan","line"] (zE (z9 78)):=by walk_at "sc"
theorem ok_add_check (T:Txt P w K mg):Dfn P w K mg base "add_check" ["plan","line"] [] 3 (spAdd K [4,5]):=by
 have nd:=sc_add_check.nd
 refine T.d_add_check.ok sc_add_check (fun vs H Q E h=>?_) (fun f cdv A outer s H vs Q E hr h=>?_)
 ·obtain ⟨_,_,_,_,_,_,_,_,rfl,_⟩:=h;rfl
 obtain ⟨d,p,wr,wl,x,l,ms,i,rfl,c,pm,wf,ln,hi,ft,lm,hin,qe,qo⟩:=h
 have l100:=uI hi ft
 obtain ⟨C_Check,M_Check,cl,na⟩:=mk_Check (P:=P) (w:=w) (base:=base) T
 refine ⟨_,(zJ H (zB (zL (i:=2) nd rfl (Or.inl rfl) (zS (wR T) (hr.mono (by decide)) (zA (zZ K (pv 0)) (zA (zY (yI K) (zZ K (pv 1)) zG (fun _ _=>rfl)) zC)))) (zB (zL (i:=3) nd rfl (Or.inl rfl) (zY (yI K) (zZ K (pv 1)) zG (fun _ _=>rfl))) (zB (zL (i:=4) nd rfl (Or.inl rfl) (yO yH (zY (yI K) (zZ K (pv 1)) zG (fun _ _=>rfl)) wO (zN _))) (zB (zL (i:=5) nd rfl (Or.inl rfl) (zY (yI K) (zZ K (pv 1)) zG (fun _ _=>rfl))) (zB (zX (PW.pt (pw_or (zP yH (pv 2) zG (zN _)) (tM (yC (zS (ok_has_check T) (hr.mono (by decide)) (zA (pv 0) (zA (pv 2) (zA (pv 3) zC)))))))) (zD (zI (yW T.g_WRONG_NAME))) zM) (zB (zX (xG (uQ wJ wJ zG (pv 5) (yW T.g_MOST_SPAN))) (zD (zI (yW T.g_WRONG_NUMBER))) zM) (zB (zX (zP t5 (zU (xS K) rfl T.b_len yD (zA (zZ K (pv 0)) zC)) (yW T.g_MOST_CHECKS) (zN _)) (zD (zI (yW T.g_TOO_MANY))) zM) (zB (yL (bmK K PySem.F.plainAttrs_list PySem.F.slot_list_append PySem.F.type_list_append yM (zZ K (pv 0)) (zA (pe_mk M_Check (hr.mono (by decide)) (zA (pv 2) (zA (pv 3) (zA (pv 4) (zA (pv 5) (zA (zZ K (pv 1)) zC)))))) zC))) (zD (zI zG))))))))))),?_⟩
 have wl1:=M.unwords_cut 32 rfl l
 have wb:=M.words_back hi ft
 obtain ⟨k,r,s',u,a,up,ew,hup,hnm,hnu,hli⟩:∃ k r s' u a,∃ up:Bool,Vbtpah.cutAt 32 l=[k,r,s',u,a]∧(u==M.tDays)=up∧nmW (Vbtpah.cutAt 32 l) ms=[r,s']∧nuW (Vbtpah.cutAt 32 l) ms=[M.valOf a] ∧
   M.lineAs i (Vbtpah.cutAt 32 l) = .check r s' up (M.valOf a):=by
  have hl:=M.len_of_fits ft
  rcases (by simpa using hin:i=4∨i=5) with rfl | rfl
  ·cases hi
   match Vbtpah.cutAt 32 l,hl,ft with
   | [k,r,s',u,a],_,ft =>
    have : u=M.tDays:=by
     have:=uJ ft (i:=3) rfl rfl
     simpa [M.fit] using this
    subst this;exact ⟨k,r,s',_,a,true,rfl,by simp,rfl,rfl,rfl⟩
  ·cases hi
   match Vbtpah.cutAt 32 l,hl,ft with
   | [k,r,s',u,a],_,ft =>
    have : u=M.tRounds:=by
     have:=uJ ft (i:=3) rfl rfl
     simpa [M.fit] using this
    subst this;exact ⟨k,r,s',_,a,false,rfl,by decide,rfl,rfl,rfl⟩
 rw [hli] at qe qo wb;rw [← wb] at wl1
 change lt (.check r s' up (M.valOf a))=l at wl1
 obtain ⟨N1,g1,hn1⟩:=ln.nm
 obtain ⟨N2,g2,hn2⟩:=ln.nu
 obtain ⟨N3,g3,hn3⟩:=ln.wd
 rw [hnm] at hn1;rw [hnu] at hn2;rw [ew] at hn3
 change SqL K H N1 [sw r,sw s'] at hn1
 change SqL K H N2 [vn (M.valOf a)] at hn2
 have i3:yZ ([k,r,s',u,a].map sw) 3=some (sw u):=xI (n:=3) rfl rfl
 generalize M.valOf a=na1 at *
 have tx:=ln.tx
 have i1:yZ [sw r,sw s'] 0=some (sw r):=rfl
 have i2:yZ [sw r,sw s'] 1=some (sw s'):=rfl
 have i4:yZ [vn na1] 0=some (vn na1):=rfl
 have f2:=pm.f2
 have f4:=pm.f4
 obtain ⟨as2,hl2,ha2,_⟩:=pm.m2
 obtain ⟨as,hl4,ha,hb⟩:=pm.m4
 have sl2:SqL K H d.l2 (as2.map V.ref):=SqL.of hl2
 have sl4:SqL K H d.l4 (as.map V.ref):=SqL.of hl4
 have nms2:All2 (fun a u=>Fld K H a "name" (sw u)) as2 (p.rides.map fun x=>x.name):=All2.map (fun _ _ q=>q.nm) ha2
 have ds:doLine p (.check r s' up na1)=(if ridePlace p r=0∨(p.checks.any fun x=>x.ride==ridePlace p r&&x.name==s')=true then .error 2 else if na1=0∨10000 < na1 then .error 3 else if Vbtpah.CHECKS≤p.checks.length then .error 4 else .ok (pChk p r s' up na1)):=rfl
 rw [ds] at qe qo;refine ⟨_,rfl,_,_,rfl,f2,_,rfl,_,_,rfl,g1,N1,_,_,_,rfl,rfl,hn1,i1,d.l2,as2,_,r,rfl,c,sl2,nms2,?_⟩
 rw [← vZ];refine ⟨_,rfl,_,_,rfl,g1,N1,_,_,_,rfl,rfl,hn1,i2,?_⟩
 refine ⟨_,rfl,_,_,rfl,g3,N3,_,_,_,rfl,rfl,hn3,i3,rfl,?_⟩
 rw [s_days,decW,hup];refine ⟨_,rfl,_,_,rfl,g2,N2,_,_,_,rfl,rfl,hn2,i4,?_⟩
 walk_at "rd"
 refine zR ?_ ?_
 ·intro h1
  have z1:ridePlace p r=0:=by have:=y8 h1;show placeIn (fun x=>x.name) p.rides r=0;omega
  exact ⟨_,Fg.self c (Same.refl _),qe 2 (by rw [if_pos (.inl z1)])⟩
 intro h1
 have z1:ridePlace p r≠0:=by have:=y9 h1;show placeIn (fun x=>x.name) p.rides r≠0;omega
 refine ⟨_,rfl,_,rfl,_,rfl,d.pl,d.l4,ridePlace p r,s',p.checks,rfl,c,f4,⟨as,sl4,ha⟩,wf.ck,_,rfl,?_⟩
 refine zR ?_ ?_
 ·intro h2
  exact ⟨_,Fg.self c (Same.refl _),qe 2 (by rw [if_pos (.inr h2)])⟩
 intro h2
 rw [if_neg (by intro z;rcases z with z | z;exact z1 z;rw [h2] at z;cases z)] at qe qo
 walk_at "rd"
 have bad:(na1=0∨10000 < na1)→∃ H2,Fg H H H2∧Q (V.int 3) H2:=fun z=>⟨_,Fg.self c (Same.refl _),qe 3 (by rw [if_pos z])⟩
 refine zR ?_ ?_
 ·intro h3
  have z3:1≤na1:=by have:=of_decide_eq_true h3;omega
  walk_at "rd"
  have key:decide ((na1:Int)≤10000)=decide (na1≤10000):=decLe na1 10000
  rw [key]
  by_cases z4:na1≤10000
  ·rw [decide_eq_true z4]
   refine zR (b:=!true) (fun z=>absurd z (by decide)) fun _=>?_
   rw [if_neg (by omega)] at qe qo;refine ⟨_,rfl,_,_,rfl,f4,_,_,rfl,.inl sl4,?_⟩
   walk_at "rd"
   rw [List.length_map,ha.len];refine zR ?_ ?_
   ·intro h4
    have z4:Vbtpah.CHECKS≤p.checks.length:=by have:=of_decide_eq_true h4;show 20≤_;omega
    exact ⟨_,Fg.self c (Same.refl _),qe 4 (by rw [if_pos z4])⟩
   intro h4
   have z4:¬ Vbtpah.CHECKS≤p.checks.length:=by have:=of_decide_eq_false h4;show ¬ 20≤_;omega
   rw [if_neg z4] at qo;have sz:(100:Nat) < sizeLine:=by decide
   have z5:p.checks.length < 20:=Nat.lt_of_not_le z4
   refine ⟨_,rfl,_,_,rfl,f4,.inl ⟨rfl,_,sl4⟩,_,rfl,_,rfl,_,rfl,_,rfl,_,rfl,_,_,rfl,tx,fun y dy hy hd hn=>?_⟩
   refine ⟨y,dy,_,rfl,rfl,c.insN hy hd hn,upd_same,rfl,?_⟩
   rw [yQ];obtain ⟨e1,gr,fl⟩:=grown (K:=K) (C:=C_Check) (fs:=xJ ["ride","name","by_days","span","line"] ([.int (placeIn (fun x=>x.name) p.rides r:Int),sw s',.bl up,vn na1,sw l]++[]) []) c hl4 hy hd hn
   refine ⟨d.l4,_,_,rfl,rfl,e1,by rw [List.length_map,ha.len];omega,?_⟩
   have fl1:=fl "ride" _ cl (na _ (by simp)) rfl
   have fl2:=fl "name" _ cl (na _ (by simp)) rfl
   have fl3:=fl "by_days" _ cl (na _ (by simp)) rfl
   have fl4:=fl "span" _ cl (na _ (by simp)) rfl
   have fl5:=fl "line" _ cl (na _ (by simp)) rfl
   obtain ⟨w1,t1,t2,t3,t4⟩:=add_chk (d:=up) (n:=na1) wf z5 (by rw [wl1];exact l100) z1
   generalize upd (upd (upd H dy (.own y)) y _) d.l4 _=H5 at gr fl1 fl2 fl3 fl4 fl5 ⊢
   obtain ⟨n12,n13,n14,n23,n24,n34⟩:=pm.nd
   refine ⟨H5,⟨gr.kp,gr.c,Same.refl _⟩,qo _ H5 rfl w1 ⟨gr.oth _ _ (xD pm.ob hl4 (by intro z;cases z)) pm.ob,pm.cl,pm.na,pm.nd,?_,?_,?_,?_⟩ (fun b o _ _ _ h1 e=>gr.oth b o h1 e) gr.c gr.kp⟩
   ·rw [t1]
    exact pm.m1.keep gr.fk (fun o e=>gr.oth _ _ n14 e) fun _ _ q=>q.fk gr.fk
   ·rw [t2]
    exact pm.m2.keep gr.fk (fun o e=>gr.oth _ _ n24 e) fun _ _ q=>q.fk gr.fk
   ·rw [t3]
    exact pm.m3.keep gr.fk (fun o e=>gr.oth _ _ n34 e) fun _ _ q=>q.fk gr.fk
   ·refine ⟨as++[y],gr.at_,All2.snoc (ha.mono fun _ _ q=>q.fk gr.fk) ⟨fl1,fl2,fl3,fl4⟩,?_⟩
    rw [t4];exact All2.snoc (hb.mono fun _ _ q=>gr.fk _ _ _ q) (by rw [wl1];exact fl5)
  ·rw [decide_eq_false z4]
   exact zR (b:=!false) (fun _=>bad (by omega)) fun z=>absurd z (by decide)
 ·intro h3
  have z3:¬ 1≤na1:=by have:=of_decide_eq_false h3;omega
  refine ⟨_,rfl,?_⟩
  exact bad (by omega)
end
end My
namespace My
open PySem PySem.Spec PyProof.Rows L2
open Vbtpah (Says Log Reading Park Sensor Ride Rule Check)
open Vbtpah (placeIn nameOf rideName sensorName ridePlace sensorPlace doLine)
theorem Dfn.fv {P:Program}{w:World}{K:zF}{mg:Str→Option Value}{base:Heap}{x:Str}{ps:List Str}{j k:Nat}{sp:Sp}{f:Addr}(D:Dfn P w K mg base x ps [] j sp)(hj:j≤k)(hm:mg x=some (.ref f)):Fv P w K mg base k (.ref f) sp:=by
 obtain ⟨f',fd,dv,F,hm',hk,hb,hv⟩:=D.ex
 rw [hm] at hm'
 cases hm'
 cases hv;exact ⟨f,fd,ps,rfl,F.mono hj,hk,hb⟩
theorem k_sensor : st M.tSensor=Str.ofString "sensor":=by decide +kernel
theorem k_ride : st M.tRide=Str.ofString "ride":=by decide +kernel
theorem k_rule : st M.tRule=Str.ofString "rule":=by decide +kernel
theorem k_check : st M.tCheck=Str.ofString "check":=by decide +kernel
def spAddL (K:zF):Sp:=fun vs H Q _=>∃ (d:Pa) (p:Park) (wr wl:Int) (l:List Nat),vs=[.ref d.pl,sw l]∧Clo H∧PlanM K H d p wr wl∧Wf p∧Wd l ∧
 (M.lineW (Vbtpah.cutAt 32 l)=none→Q (.int 1) H)∧∀ x,M.lineW (Vbtpah.cutAt 32 l)=some x→(∀ k,doLine p x = .error k→Q (.int (k:Int)) H) ∧
  ∀ p' H',doLine p x = .ok p'→Wf p'→PlanM K H' d p' wr wl→SameL d H H'→Clo H'→Kp H H'→Q (.int 0) H'
section
variable {P:Program}{w:World}{K:zF}{mg:Str→Option Value}{base:Heap}{tb:Addr}
theorem sc_add_line : zK ["plan","text","line","adder"] ["plan","text"] (zE (z9 80)):=by walk_at "sc"
theorem ok_add_line (T:Txt P w K mg):Dfn P w K mg base "add_line" ["plan","text"] [] 5 (spAddL K):=by
 have nd:=sc_add_line.nd
 refine T.d_add_line.ok sc_add_line (fun vs H Q E h=>?_) (fun f cdv A outer s H vs Q E hr h=>?_)
 ·obtain ⟨_,_,_,_,_,rfl,_⟩:=h;rfl
 obtain ⟨d,p,wr,wl,l,rfl,c,pm,wf,wd,q1,q2⟩:=h
 obtain ⟨AD,fa1,fa2,fa3,fa4,T_ADDERS,kd,m1,m2,m3,m4⟩:=T.x_ADDERS
 have hrV:Room 3 _:=hr.mono (by decide)
 refine ⟨_,(zJ H (zB (zL (i:=2) nd rfl (Or.inl rfl) (zS (ok_split_line T) (hr.mono (by decide)) (zA (pv 1) zC))) (zB (zX (zP op_isN (pv 2) uS (zN _)) (zD (zI (yW T.g_NO_SUCH_LINE))) zM) (zB (zL (i:=3) nd rfl (Or.inl rfl) (pe_kget (pgr T_ADDERS) (zY (yI K) (zZ K (pv 2)) zG (fun _ _=>rfl)) (fun _ _=>rfl))) (zD (zI (pe_callV (pv 3) hrV (zA (pv 0) (zA (pv 2) zC))))))))),?_⟩
 refine ⟨_,rfl,l,rfl,wd,c,fun hno=>?_,fun H1 x i ms hi ft s1 c1 ln=>?_⟩
 ·walk_at "rd"
  ·exact Fg.self c (Same.refl _)
  ·exact q1 (M.nofit_line hno)
 ·obtain ⟨N3,g3,hn3⟩:=ln.wd
  obtain ⟨qe,qo⟩:=q2 _ (M.fits_line hi ft)
  have go:∀ (is:List Nat),i∈is→spAdd K is [.ref d.pl,.ref x] H1 (fgE H {nx:=fun _ H'=>Q .non H',rt:=Q}).rt E0:=fun is hin =>
   ⟨d,p,wr,wl,x,l,ms,i,rfl,c1,pm.mono s1.t,wf,ln,hi,ft,wd.2,hin,fun k hk=>⟨H,Fg.self c s1,qe k hk⟩,fun p' H' hp w' pm' sl c' kp=>⟨H',⟨(Kp.of s1).trans kp,c',Same.refl _⟩,qo p' H' hp w' pm' (fun b o n1 n2 n3 n4 e=>sl b o n1 n2 n3 n4 (s1 _ _ e)) c' ((Kp.of s1).trans kp)⟩⟩
  have hw:∃ (k0:List Nat) (rest:List (List Nat)),Vbtpah.cutAt 32 l=k0::rest:=by
   cases e:Vbtpah.cutAt 32 l with
   | nil=>exact (M.cutAt_ne 32 l e).elim
   | cons a t=>exact ⟨a,t,rfl⟩
  obtain ⟨k0,rest,ew⟩:=hw
  have first:∀ (k:List Nat) (tl:List M.Mark),ms = .word k::tl→k0=k:=fun k tl e=>by
   have:=uJ ft (i:=0) (w:=k0) (m:=.word k) (by rw [ew];rfl) (by rw [e];rfl)
   simpa [M.fit] using this
  rw [ew] at hn3;have i0:yZ ((k0::rest).map sw) 0=some (sw k0):=xI (n:=0) rfl rfl
  obtain ⟨fa,is,hin,hv,fv⟩:∃ (fa:Addr) (is:List Nat),i∈is∧valV [(Sum.inr (Str.ofString "sensor"),V.ref fa1),(.inr (Str.ofString "ride"),.ref fa2),(.inr (Str.ofString "rule"),.ref fa3),(.inr (Str.ofString "check"),.ref fa4)] (Sum.inr (st k0):u8)=some (V.ref fa)∧Fv P w K mg base 3 (.ref fa) (spAdd K is):=by
   have lti:=(List.getElem?_eq_some_iff.mp hi).1
   have li:i < 6:=lti
   have cs:i=0∨i=1∨i=2∨i=3∨i=4∨i=5:=by omega
   rcases cs with rfl | rfl | rfl | rfl | rfl | rfl
   ·cases hi
    rw [first _ _ rfl,k_sensor];exact ⟨fa1,[0],by simp,rfl,Dfn.fv (ok_add_sensor T) (by decide) m1⟩
   ·cases hi
    rw [first _ _ rfl,k_ride];exact ⟨fa2,[1],by simp,rfl,Dfn.fv (ok_add_ride T) (by decide) m2⟩
   ·cases hi
    rw [first _ _ rfl,k_rule];exact ⟨fa3,[2,3],by simp,rfl,Dfn.fv (ok_add_rule T) (by decide) m3⟩
   ·cases hi
    rw [first _ _ rfl,k_rule];exact ⟨fa3,[2,3],by simp,rfl,Dfn.fv (ok_add_rule T) (by decide) m3⟩
   ·cases hi
    rw [first _ _ rfl,k_check];exact ⟨fa4,[4,5],by simp,rfl,Dfn.fv (ok_add_check T) (by decide) m4⟩
   ·cases hi
    rw [first _ _ rfl,k_check];exact ⟨fa4,[4,5],by simp,rfl,Dfn.fv (ok_add_check T) (by decide) m4⟩
  refine ⟨_,rfl,rfl,_,rfl,?_⟩
  refine ⟨_,rfl,_,_,rfl,g3,N3,_,_,_,rfl,rfl,hn3,i0,AD,_,Sum.inr (st k0),_,rfl,rfl,kd,hv,?_⟩
  exact ⟨_,rfl,spAdd K is,fv,_,rfl,_,rfl,go is hin⟩
end
end My
namespace My
open PySem PySem.Spec PyProof.Rows L2
open Vbtpah (Says Log Reading Park Sensor Ride Rule Check)
open Vbtpah (placeIn nameOf rideName sensorName ridePlace sensorPlace doLine readLines readPark)
section
variable {K:zF}{H H':Hp}{d:Pa}{p:Park}{wr wl:Int}
theorem putW (d:Pa)(wr wl k:Int):xR "wrong" (.int k) (planV d wr wl)=planV d k wl:=rfl
theorem putL (d:Pa)(wr wl k:Int):xR "wrong_line" (.int k) (planV d wr wl)=planV d wr k:=rfl
abbrev wN (d:Pa)(wr wl:Int):HO:=.ins d.C d.dx (planV d wr wl)
theorem PlanM.fk (m:PlanM K H d p wr wl)(wr' wl':Int){a:Addr}{f:Str}{v:V}(hf:(planV d wr wl).lookup f=none)(h:Fld K H a f v):Fld K (upd H d.pl (wN d wr' wl')) a f v:=by
 obtain ⟨C,dx,fs,h1,h2,h3,h4⟩:=h
 have ne:a≠d.pl:=fun e=>by
  rw [e,m.ob] at h1;cases h1;rw [hf] at h4;cases h4
 exact ⟨C,dx,fs,by rw [zH ne];exact h1,h2,h3,h4⟩
theorem PlanM.set (m:PlanM K H d p wr wl)(wr' wl':Int):PlanM K (upd H d.pl (wN d wr' wl')) d p wr' wl':=by
 have nm:∀ {a v},Fld K H a "name" v→Fld K (upd H d.pl (wN d wr' wl')) a "name" v:=fun h=>m.fk wr' wl' rfl h
 have ln:∀ {a v},Fld K H a "line" v→Fld K (upd H d.pl (wN d wr' wl')) a "line" v:=fun h=>m.fk wr' wl' rfl h
 have rd:∀ {a v},Fld K H a "ride" v→Fld K (upd H d.pl (wN d wr' wl')) a "ride" v:=fun h=>m.fk wr' wl' rfl h
 refine ⟨upd_same,m.cl,m.na,m.nd,?_,?_,?_,?_⟩
 ·obtain ⟨as,h1,h2,h3⟩:=m.m1
  exact ⟨as,by rw [zH (xD h1 m.ob (by intro z;cases z))];exact h1,h2.mono fun _ _ q=>⟨nm q.nm,m.fk wr' wl' rfl q.st⟩,h3.mono fun _ _ q=>ln q⟩
 ·obtain ⟨as,h1,h2,h3⟩:=m.m2
  exact ⟨as,by rw [zH (xD h1 m.ob (by intro z;cases z))];exact h1,h2.mono fun _ _ q=>⟨nm q.nm,m.fk wr' wl' rfl q.st⟩,h3.mono fun _ _ q=>ln q⟩
 ·obtain ⟨as,h1,h2,h3⟩:=m.m3
  exact ⟨as,by rw [zH (xD h1 m.ob (by intro z;cases z))];exact h1,h2.mono fun _ _ q=>⟨rd q.ri,m.fk wr' wl' rfl q.se,m.fk wr' wl' rfl q.up,m.fk wr' wl' rfl q.off,m.fk wr' wl' rfl q.on,m.fk wr' wl' rfl q.ho⟩,h3.mono fun _ _ q=>ln q⟩
 ·obtain ⟨as,h1,h2,h3⟩:=m.m4
  exact ⟨as,by rw [zH (xD h1 m.ob (by intro z;cases z))];exact h1,h2.mono fun _ _ q=>⟨rd q.ri,nm q.nm,m.fk wr' wl' rfl q.bd,m.fk wr' wl' rfl q.sp⟩,h3.mono fun _ _ q=>ln q⟩
end
theorem do_err {p:Park}{x:Vbtpah.Line}{k:Nat}(h:doLine p x = .error k):k≠0:=by
 cases x<;>simp only [doLine] at h<;>(repeat' split at h)<;>first | (cases h;decide) | cases h
theorem flat_sgn : ∀ t:List Nat,(t.map fun b=>[M.sgn b]).flatten=t.map M.sgn
 | []=>rfl
 | a::t=>by rw [List.map_cons,List.flatten_cons,flat_sgn t];rfl
theorem sum_sgn : ∀ l:List Nat,(((l.map fun b=>[M.sgn b]).map st).map fun x=>x.length).sum=l.length
 | []=>rfl
 | a::l=>by
  have:=sum_sgn l
  simp only [List.map_cons,List.sum_cons,xX,List.length_cons,List.length_nil] at this ⊢;omega
structure PNew (H:Hp)(d:Pa):Prop where
 pl : H d.pl=none
 l1 : H d.l1=none
 l2 : H d.l2=none
 l3 : H d.l3=none
 l4 : H d.l4=none
def spRead (K:zF):Sp:=fun vs H Q _=>∃ (L:Addr) (t:List Nat),vs=[.ref L]∧Clo H∧SqL K H L (t.map vn)∧t.length≤2000 ∧
 (∀ e H' a,readPark t = .error e→Same H H'→Clo H'→Fld K H' a "wrong" (vn e.kind)→Fld K H' a "wrong_line" (vn e.line)→e.kind≠0→Q (.ref a) H') ∧
 ∀ p H' d,readPark t = .ok p→Same H H'→Clo H'→PNew H d→PlanM K H' d p 0 0→Wf p→Q (.ref d.pl) H'
section
variable {P:Program}{w:World}{K:zF}{mg:Str→Option Value}{base:Heap}{tb:Addr}
theorem sc_read_plan : zK ["text","plan","lines","byte","rest","number","line"] ["text"] (zE (z9 81)):=by walk_at "sc"
theorem ok_read_plan (T:Txt P w K mg):Dfn P w K mg base "read_plan" ["text"] [] 6 (spRead K):=by
 have nd:=sc_read_plan.nd
 refine T.d_read_plan.ok sc_read_plan (fun vs H Q E h=>?_) (fun f cdv A outer s H vs Q E hr h=>?_)
 ·obtain ⟨_,_,rfl,_⟩:=h;rfl
 obtain ⟨L,t,rfl,c,hL,lt,qe,qo⟩:=h
 obtain ⟨C_Plan,M_Plan,cl,na⟩:=mk_Plan (P:=P) (w:=w) (base:=base) T
 refine ⟨_,(zJ H (zB (zL (i:=1) nd rfl (Or.inl rfl) (pe_mk0 M_Plan (hr.mono (by decide)))) (zB (zL (i:=2) nd rfl (Or.inl rfl) (pe_split (joinK K wO (vA rfl nd (vH K (pv 0)) (yS (own:=[("byte",3)]) rfl) (fun _ _ _ _ _=>(zV (i:=3) nd rfl (Or.inl rfl))) (fun _ _ _ _ _=>xY) (fun _ _ _ _ _=>(zS (ok_sign_of T) (hr.mono (by decide)) (zA (pv 3) zC))))) wO)) (zB (zL (i:=4) nd rfl (Or.inl rfl) (bm0K K PySem.F.plainAttrs_list PySem.F.slot_list_pop PySem.F.type_list_pop mt_pop (pv 2))) (zB (xH PassesOwn.never rfl (t7 K T.b_enumerate (zA (pv 2) zC) (vE zG uF)) (vR H (u9 K (n:=2) rfl (yA (zV (i:=5) nd rfl (Or.inl rfl)) (yA (zV (i:=6) nd rfl (Or.inl rfl)) xN)))) (zJ H (zB (xB K (pv 1) (zS (ok_add_line T) (hr.mono (by decide)) (zA (pv 1) (zA (pv 6) zC)))) (zD (zX (zP tH (zZ K (pv 1)) zG (zN _)) (zB (xB K (pv 1) (pv 5)) (zD (zI (pv 1)))) zM))))) (zB (zX (zP tH (pv 4) wO (zN _)) (zB (xB K (pv 1) (yW T.g_NO_SUCH_LINE)) (zD (xB K (pv 1) (yG vJ (zU (xS K) rfl T.b_len yD (zA (pv 2) zC)) zG)))) zM) (zD (zI (pv 1))))))))),?_⟩
 refine fun x dx hx hd hn=>⟨x,dx,rfl,c.insN hx hd hn,upd_same,fun H1 l1 l2 l3 l4 s1 c1 f1 f2 f3 f4 nd e1 e2 e3 e4 ex=>⟨rfl,?_⟩⟩
 have sm:=xZ (C:=C_Plan) (fs:=[]) hx hd
 have S1:Same H H1:=fun b o e=>s1 b o (zO e hx) (sm _ _ e)
 have pm1:PlanM K H1 ⟨x,l1,l2,l3,l4,C_Plan,dx⟩ Vbtpah.noPark 0 0:=⟨ex,cl,na,nd,⟨[],e1,All2.nil,All2.nil⟩,⟨[],e2,All2.nil,All2.nil⟩,⟨[],e3,All2.nil,All2.nil⟩,⟨[],e4,All2.nil,All2.nil⟩⟩
 have pn:PNew H ⟨x,l1,l2,l3,l4,C_Plan,dx⟩:=⟨hx,yJ sm f1,yJ sm f2,yJ sm f3,yJ sm f4⟩
 generalize hdd:(⟨x,l1,l2,l3,l4,C_Plan,dx⟩:Pa)=d at pm1 pn
 obtain rfl:d.pl=x:=by rw [← hdd]
 clear hdd e1 e2 e3 e4 ex s1 f1 f2 f3 f4 nd;have hL1:=SqL.monoT hL S1.t
 have lz:t.length≤sizeLine:=Nat.le_trans lt (by decide)
 refine ⟨⟨_,rfl⟩,_,rfl,L,rfl,⟨_,hL1⟩,fun D hD=>x9 (K:=K) (xs:=t.map vn) (PvK (fun b=>some (sw [M.sgn b])) t H1 D) (PvK.zero c1 hD) (fun i H' _ p=>SqL.monoT hL1 p.1.1.t) ?_ ?_⟩
 ·rintro i y H' hi p
  obtain ⟨b,hb,rfl⟩:=yB hi
  refine ⟨rfl,?_⟩
  exact ⟨_,rfl,b,rfl,p.2,PvK.yes hb lz hD p rfl (Same.refl _) p.2⟩
 intro H2 p2
 have e2:=wI p2.1 (by rw [List.length_map])
 rw [vG] at e2;have e2':H2 D=some (.lst (((t.map fun b=>[M.sgn b]).map st).map V.str)):=by
  rw [e2,List.map_map,List.map_map];rfl
 have fl:=flat_sgn t
 refine ⟨_,D,(t.map fun b=>[M.sgn b]).map st,rfl,rfl,.inl (SqL.of e2'),?_,?_⟩
 ·rw [sum_sgn,s_e,xX]
  simp
  omega
 rw [s_e,join0_st,fl];refine ⟨⟨_,rfl⟩,_,_,rfl,rfl,rfl,by rw [xX,List.length_map];exact Nat.le_trans (Nat.add_le_add_right lt 2) (by decide),fun LL hLL=>?_⟩
 rw [show Str.ofString "\n"=⟨#[10]⟩ from s_nl,split_st,M.cutAt_map M.sgn_10]
 have S2:Same H H2:=S1.trans p2.1.1
 have pm2:=pm1.mono p2.1.1.t
 have S3:=S2.put (o:=.lst ((((Vbtpah.cutAt 10 t).map (List.map M.sgn)).map st).map V.str)) (yJ S2 hLL)
 have pm3:=pm2.mono (Same.new (o:=.lst ((((Vbtpah.cutAt 10 t).map (List.map M.sgn)).map st).map V.str)) hLL).t
 have c3:Clo (upd H2 LL (.lst ((((Vbtpah.cutAt 10 t).map (List.map M.sgn)).map st).map V.str))):=p2.2.lstN hLL
 have a3:(upd H2 LL (.lst ((((Vbtpah.cutAt 10 t).map (List.map M.sgn)).map st).map V.str))) LL=some (.lst ((Vbtpah.cutAt 10 t).map fun u=>sw (u.map M.sgn))):=by rw [upd_same,List.map_map,List.map_map];rfl
 have nLL:LL≠d.l1∧LL≠d.l2∧LL≠d.l3∧LL≠d.l4∧LL≠d.pl:=by
  refine ⟨?_,?_,?_,?_,?_⟩<;>intro e
  ·obtain ⟨_,h,_⟩:=pm2.m1;rw [← e,hLL] at h;cases h
  ·obtain ⟨_,h,_⟩:=pm2.m2;rw [← e,hLL] at h;cases h
  ·obtain ⟨_,h,_⟩:=pm2.m3;rw [← e,hLL] at h;cases h
  ·obtain ⟨_,h,_⟩:=pm2.m4;rw [← e,hLL] at h;cases h
  ·have h:=pm2.ob;rw [← e,hLL] at h;cases h
 have hLL0:H LL=none:=yJ S2 hLL
 generalize upd H2 LL _=H3 at S3 pm3 c3 a3 ⊢
 generalize hls:Vbtpah.cutAt 10 t=ls at *
 have ne:ls≠[]:=by rw [← hls];exact M.cutAt_ne 10 t
 obtain ⟨la,hla⟩:∃ la,ls.getLast? = some la:=by
  cases e:ls.getLast? with
  | none=>exact (ne (List.getLast?_eq_none_iff.mp e)).elim
  | some y=>exact ⟨y,rfl⟩
 have hla2:ls[ls.length - 1]? = some la:=by rw [← List.getLast?_eq_getElem?];exact hla
 refine ⟨_,rfl,.inl ⟨rfl,_,SqL.of a3⟩,LL,_,sw (la.map M.sgn),rfl,rfl,a3,by rw [List.length_map,List.getElem?_map,hla2];rfl,?_⟩
 have a4:(upd H3 LL (.lst ((ls.map fun u=>sw (u.map M.sgn)).dropLast))) LL=some (.lst (ls.dropLast.map fun u=>sw (u.map M.sgn))):=by rw [upd_same,List.map_dropLast]
 have S4:=S3.put (o:=.lst ((ls.map fun u=>sw (u.map M.sgn)).dropLast)) hLL0
 have c4:Clo (upd H3 LL (.lst ((ls.map fun u=>sw (u.map M.sgn)).dropLast))):=c3.lstU a3
 have pm4:PlanM K (upd H3 LL (.lst ((ls.map fun u=>sw (u.map M.sgn)).dropLast))) d Vbtpah.noPark 0 0:=by
  have k:FK K H3 (upd H3 LL (.lst ((ls.map fun u=>sw (u.map M.sgn)).dropLast))):=fun a f v h=>h.put fun C dx fs e=>(by rw [a3] at e;cases e)
  refine ⟨by rw [zH nLL.2.2.2.2.symm];exact pm3.ob,pm3.cl,pm3.na,pm3.nd,pm3.m1.keep k (fun o e=>?_) fun _ _ q=>q.fk k,pm3.m2.keep k (fun o e=>?_) fun _ _ q=>q.fk k,pm3.m3.keep k (fun o e=>?_) fun _ _ q=>q.fk k,pm3.m4.keep k (fun o e=>?_) fun _ _ q=>q.fk k⟩
  ·rw [zH nLL.1.symm];exact e
  ·rw [zH nLL.2.1.symm];exact e
  ·rw [zH nLL.2.2.1.symm];exact e
  ·rw [zH nLL.2.2.2.1.symm];exact e
 generalize upd H3 LL _=H4 at a4 S4 c4 pm4 ⊢
 refine ⟨_,rfl,LL,_,rfl,rfl,SqL.of a4,wK (K:=K) (a:=LL) (xs:=ls.dropLast.map fun u=>sw (u.map M.sgn)) (fun i σ H'=>∃ v v' v'' p,σ=[some (.ref L),some (.ref d.pl),some (.ref LL),v,some (sw (la.map M.sgn)),v',v'']∧Same H H'∧Clo H'∧H' LL=some (.lst (ls.dropLast.map fun u=>sw (u.map M.sgn))) ∧
   PlanM K H' d p 0 0∧Wf p∧readLines 1 Vbtpah.noPark (ls.dropLast.take i) = .ok p) ⟨_,_,_,_,rfl,S4,c4,a4,pm4,wf0,rfl⟩ (fun i σ H' _ ⟨_,_,_,_,_,s,c,a,_⟩=>⟨SqL.of a,c,Kp.of s⟩) ?_ ?_⟩
 ·rintro i y σ H' hi ⟨v,v',v'',p,rfl,s5,c5,a5,pm5,wf5,rl⟩
  obtain ⟨u,hu,rfl⟩:=yB hi
  have li:(ls.dropLast.take i).length=i:=by
   have:=(List.getElem?_eq_some_iff.mp hu).1
   rw [List.length_take];omega
  have sn:=M.readLines_snoc (ls.dropLast.take i) 1 Vbtpah.noPark u
  rw [← yE hu,rl,li,Nat.add_comm 1 i] at sn;have eq1:M.lineW (Vbtpah.cutAt 32 (u.map M.sgn))=Vbtpah.lineOf u:=by rw [M.cutAt_map M.sgn_32,M.lineOf_sgn]
  have um:u∈ls:=List.dropLast_subset _ (List.mem_of_getElem? hu)
  have ul:u.length≤t.length:=(cut_mem 10 t u (hls ▸ um)).1
  have wdu:Wd (u.map M.sgn):=⟨fun x hx=>by
   obtain ⟨y,_,rfl⟩:=List.mem_map.mp hx
   exact sgn_sg y,by rw [List.length_map];omega⟩
  have nw:=pm5.na "wrong" (by simp [vY])
  have nl:=pm5.na "wrong_line" (by simp [vY])
  have rp:∀ e,readLines 1 Vbtpah.noPark (ls.dropLast.take (i+1)) = .error e→readPark t = .error e:=fun e h=>by
   have:=M.readLines_err _ (ls.dropLast.drop (i+1)) 1 Vbtpah.noPark h
   rw [List.take_append_drop] at this;unfold readPark;simp only [hls,this]
  refine ⟨_,rfl,_,rfl,d,p,0,0,u.map M.sgn,rfl,c5,pm5,wf5,wdu,fun hno=>?_,fun x hx=>⟨fun k hk=>?_,fun p' H6 hp w6 pm6 sl c6 kp=>?_⟩⟩
  ·rw [eq1] at hno
   rw [hno] at sn;have hk0:(1:Nat)≠0:=by decide
   have rp1:=rp _ sn
   refine ⟨_,rfl,d.pl,d.C,d.dx,_,rfl,pm5.ob,pm5.cl,nw,yF,?_⟩
   have pm7:=pm5.set (1:Int) 0
   have f5:=pm7.f5
   have s7:Same H (upd H' d.pl (wN d (1:Int) 0)):=s5.put pn.pl
   have c7:Clo (upd H' d.pl (wN d (1:Int) 0)):=c5.insU pm5.ob
   rw [putW];generalize upd H' d.pl (wN d (1:Int) 0)=H7 at pm7 f5 s7 c7 ⊢
   refine ⟨_,rfl,_,_,rfl,f5,rfl,_,rfl,?_⟩
   refine zR ?_ fun z=>absurd z (by rw [show decide (V.int (1:Int)=V.int 0)=false from decide_eq_false (fun e=>hk0 (by have:=V.int.inj e;omega))];decide)
   intro _
   refine ⟨_,rfl,_,rfl,d.pl,d.C,d.dx,_,rfl,pm7.ob,pm7.cl,nl,yF,?_⟩
   rw [putL];have pm8:=pm7.set (1:Int) ((i:Int)+1)
   have f8:=pm8.f5
   have g8:=pm8.f6
   have s8:Same H (upd H7 d.pl (wN d (1:Int) ((i:Int)+1))):=s7.put pn.pl
   have c8:Clo (upd H7 d.pl (wN d (1:Int) ((i:Int)+1))):=c7.insU pm7.ob
   have fg8:Fg H (upd H7 d.pl (wN d (1:Int) ((i:Int)+1))) (upd H7 d.pl (wN d (1:Int) ((i:Int)+1))):=⟨Kp.of s8,c8,Same.refl _⟩
   exact ⟨_,rfl,_,fg8,_,fg8,qe ⟨1,i+1⟩ _ d.pl rp1 s8 c8 f8 g8 hk0⟩
  ·rw [eq1] at hx
   rw [hx] at sn;simp only [hk] at sn;have hk0:=do_err hk
   have rp1:=rp _ sn
   refine ⟨_,rfl,d.pl,d.C,d.dx,_,rfl,pm5.ob,pm5.cl,nw,yF,?_⟩
   have pm7:=pm5.set (k:Int) 0
   have f5:=pm7.f5
   have s7:Same H (upd H' d.pl (wN d (k:Int) 0)):=s5.put pn.pl
   have c7:Clo (upd H' d.pl (wN d (k:Int) 0)):=c5.insU pm5.ob
   rw [putW];generalize upd H' d.pl (wN d (k:Int) 0)=H7 at pm7 f5 s7 c7 ⊢
   refine ⟨_,rfl,_,_,rfl,f5,rfl,_,rfl,?_⟩
   refine zR ?_ fun z=>absurd z (by rw [show decide (V.int (k:Int)=V.int 0)=false from decide_eq_false (fun e=>hk0 (by have:=V.int.inj e;omega))];decide)
   intro _
   refine ⟨_,rfl,_,rfl,d.pl,d.C,d.dx,_,rfl,pm7.ob,pm7.cl,nl,yF,?_⟩
   rw [putL];have pm8:=pm7.set (k:Int) ((i:Int)+1)
   have f8:=pm8.f5
   have g8:=pm8.f6
   have s8:Same H (upd H7 d.pl (wN d (k:Int) ((i:Int)+1))):=s7.put pn.pl
   have c8:Clo (upd H7 d.pl (wN d (k:Int) ((i:Int)+1))):=c7.insU pm7.ob
   have fg8:Fg H (upd H7 d.pl (wN d (k:Int) ((i:Int)+1))) (upd H7 d.pl (wN d (k:Int) ((i:Int)+1))):=⟨Kp.of s8,c8,Same.refl _⟩
   exact ⟨_,rfl,_,fg8,_,fg8,qe ⟨k,i+1⟩ _ d.pl rp1 s8 c8 f8 g8 hk0⟩
  ·rw [eq1] at hx
   rw [hx] at sn;simp only [hp] at sn;refine ⟨_,rfl,d.pl,d.C,d.dx,_,rfl,pm6.ob,pm6.cl,nw,yF,?_⟩
   have pm7:=pm6.set 0 0
   have f5:=pm7.f5
   have s6:Same H H6:=fun b o e=>sl b o (zO e pn.l1) (zO e pn.l2) (zO e pn.l3) (zO e pn.l4) (s5 _ _ e)
   have s7:Same H (upd H6 d.pl (wN d 0 0)):=s6.put pn.pl
   have c7:Clo (upd H6 d.pl (wN d 0 0)):=c6.insU pm6.ob
   have a7:(upd H6 d.pl (wN d 0 0)) LL=some (.lst (ls.dropLast.map fun u=>sw (u.map M.sgn))):=by
    rw [zH nLL.2.2.2.2];exact sl _ _ nLL.1 nLL.2.1 nLL.2.2.1 nLL.2.2.2.1 a5
   rw [putW];generalize upd H6 d.pl (wN d 0 0)=H7 at pm7 f5 s7 c7 a7 ⊢
   refine ⟨_,rfl,_,_,rfl,f5,rfl,_,rfl,?_⟩
   refine zR (fun z=>absurd z (by decide)) fun _=>⟨_,⟨Kp.of s7,c7,Same.refl _⟩,_,_,_,p',rfl,s7,c7,a7,pm7,w6,sn⟩
 ·rintro σ H' ⟨v,v',v'',p,rfl,s5,c5,a5,pm5,wf5,rl⟩
  rw [List.length_map,List.take_length] at rl;have nw:=pm5.na "wrong" (by simp [vY])
  have nl:=pm5.na "wrong_line" (by simp [vY])
  have rp:readPark t=if la=[] then .ok p else .error ⟨1,ls.length⟩:=by
   unfold readPark;simp only [hls,rl,hla]
   by_cases e:la=[]
   ·rw [if_pos e,if_pos (by rw [e])]
   ·rw [if_neg e,if_neg (fun z=>e (Option.some.inj z))]
  refine ⟨_,rfl,rfl,_,rfl,?_⟩
  rw [show decide (sw (la.map M.sgn)=V.str (st []))=(la.map M.sgn==[]) from decW _ _]
  refine zR ?_ ?_
  ·intro h1
   have e1:la≠[]:=fun e=>by rw [e] at h1;simp at h1
   rw [if_neg e1] at rp;refine ⟨_,rfl,d.pl,d.C,d.dx,_,rfl,pm5.ob,pm5.cl,nw,yF,?_⟩
   rw [putW];have pm7:=pm5.set (1:Int) 0
   have s7:Same H (upd H' d.pl (wN d (1:Int) 0)):=s5.put pn.pl
   have c7:Clo (upd H' d.pl (wN d (1:Int) 0)):=c5.insU pm5.ob
   have a7:(upd H' d.pl (wN d 1 0)) LL=some (.lst (ls.dropLast.map fun u=>sw (u.map M.sgn))):=by
    rw [zH nLL.2.2.2.2];exact a5
   generalize upd H' d.pl (wN d (1:Int) 0)=H7 at pm7 s7 c7 a7 ⊢
   refine ⟨_,rfl,LL,_,rfl,.inl (SqL.of a7),_,_,rfl,rfl,_,rfl,d.pl,d.C,d.dx,_,rfl,pm7.ob,pm7.cl,nl,yF,?_⟩
   rw [putL];have el:((ls.dropLast.map fun u=>sw (u.map M.sgn)).length:Int)+1=(ls.length:Int):=by
    rw [List.length_map,List.length_dropLast];have:=List.length_pos_iff.mpr ne
    omega
   rw [el];have pm8:=pm7.set (1:Int) (ls.length:Int)
   have s8:Same H (upd H7 d.pl (wN d (1:Int) (ls.length:Int))):=s7.put pn.pl
   have c8:Clo (upd H7 d.pl (wN d (1:Int) (ls.length:Int))):=c7.insU pm7.ob
   exact ⟨_,rfl,_,⟨Kp.of s8,c8,Same.refl _⟩,qe ⟨1,ls.length⟩ _ d.pl rp s8 c8 pm8.f5 pm8.f6 Nat.one_ne_zero⟩
  ·intro h1
   have e1:la=[]:=by
    have : la.map M.sgn=[]:=by simpa using h1
    exact List.map_eq_nil_iff.mp this
   rw [if_pos e1] at rp;exact ⟨_,rfl,_,⟨Kp.of s5,c5,Same.refl _⟩,qo p H' d rp s5 c5 pn pm5 wf5⟩
end
end My
namespace My
open PySem PySem.Spec PyProof.Rows L2
open Vbtpah (Says Log Reading Park Sensor Ride Rule Check)
def uP (p:Park):List V:=[vn p.sensors.length,vn p.rides.length,vn p.rules.length,vn p.checks.length]
def spSizes (K:zF):Sp:=fun vs H Q _=>∃ (pl:Addr) (p:Park),vs=[.ref pl]∧Clo H∧PlanAt K H pl p∧∀ D,H D=none→Q (.ref D) (upd H D (.lst (uP p)))
def spForm (K:zF):Sp:=fun vs H Q _=>∃ (d:Pa) (p:Park),vs=[.ref d.pl]∧Clo H∧PlanM K H d p 0 0∧Wf p∧∀ D,H D=none→Q (.ref D) (upd H D (.lst ((Vbtpah.printed p).map vn)))
theorem sum_le {α:Type}(f:α→Nat)(k:Nat):∀ (l:List α),(∀ x∈l,f x≤k)→(l.map f).sum≤l.length * k
 | [],_=>by simp
 | a::l,h=>by
  have:=sum_le f k l fun x hx=>h x (by simp [hx])
  have h1:=h a (by simp)
  rw [List.map_cons,List.sum_cons,List.length_cons,Nat.succ_mul];omega
section
variable {P:Program}{w:World}{K:zF}{mg:Str→Option Value}{base:Heap}{tb:Addr}
theorem sc_plan_sizes : zK ["plan"] ["plan"] (zE (z9 83)):=by walk_at "sc"
theorem ok_plan_sizes (T:Txt P w K mg):Dfn P w K mg base "plan_sizes" ["plan"] [] 1 (spSizes K):=by
 have nd:=sc_plan_sizes.nd
 refine T.d_plan_sizes.ok sc_plan_sizes (fun vs H Q E h=>?_) (fun f cdv A outer s H vs Q E hr h=>?_)
 ·obtain ⟨_,_,rfl,_⟩:=h;rfl
 obtain ⟨pl,p,rfl,c,pa,q⟩:=h
 refine ⟨_,(zJ H (zD (zI (zT (zA (zU (xS K) rfl T.b_len yD (zA (zZ K (pv 0)) zC)) (zA (zU (xS K) rfl T.b_len yD (zA (zZ K (pv 0)) zC)) (zA (zU (xS K) rfl T.b_len yD (zA (zZ K (pv 0)) zC)) (zA (zU (xS K) rfl T.b_len yD (zA (zZ K (pv 0)) zC)) zC)))))))),?_⟩
 obtain ⟨l1,f1,as1,s1,h1⟩:=pa.se
 obtain ⟨l2,f2,as2,s2,h2⟩:=pa.ri
 obtain ⟨l3,f3,as3,s3,h3⟩:=pa.ru
 obtain ⟨l4,f4,as4,s4,h4⟩:=pa.ck
 refine ⟨_,rfl,_,_,rfl,f1,l1,_,rfl,.inl s1,?_⟩
 refine ⟨_,rfl,_,_,rfl,f2,l2,_,rfl,.inl s2,?_⟩
 refine ⟨_,rfl,_,_,rfl,f3,l3,_,rfl,.inl s3,?_⟩
 refine ⟨_,rfl,_,_,rfl,f4,l4,_,rfl,.inl s4,yF,fun D hD=>?_⟩
 have:=q D hD
 unfold uP vn at this;rw [List.length_map,List.length_map,List.length_map,List.length_map,h1.len,h2.len,h3.len,h4.len];exact ⟨_,⟨(Kp.refl H).new hD,c.lstN hD,Same.refl _⟩,this⟩
theorem sc_one_form : zK ["plan","lines","thing","sign"] ["plan"] (zE (z9 84)):=by walk_at "sc"
theorem ok_one_form (T:Txt P w K mg):Dfn P w K mg base "one_form" ["plan"] [] 1 (spForm K):=by
 have nd:=sc_one_form.nd
 refine T.d_one_form.ok sc_one_form (fun vs H Q E h=>?_) (fun f cdv A outer s H vs Q E hr h=>?_)
 ·obtain ⟨_,_,rfl,_⟩:=h;rfl
 obtain ⟨d,p,rfl,c,pm,wf,q⟩:=h
 refine ⟨_,(zJ H (zB (ps_setLc (i:=1) rfl nd rfl rfl (sw_true rfl rfl rfl rfl) (vH K (yG wH (yG wH (yG wH (zZ K (pv 0)) (zZ K (pv 0))) (zZ K (pv 0))) (zZ K (pv 0)))) (yS (own:=[("thing",2)]) rfl) (fun _ _ _ _ _=>(zV (i:=2) nd rfl (Or.inl rfl))) (fun _ _ _ _ _=>xY) (fun _ _ _ _ _=>(yG op_add_str (zZ K (pv 2)) wO))) (zD (zI (vA rfl nd (pi_str (joinK K wO (pv 1))) (yS (own:=[("sign",3)]) rfl) (fun _ _ _ _ _=>(zV (i:=3) nd rfl (Or.inl rfl))) (fun _ _ _ _ _=>xY) (fun _ _ _ _ _=>(zU call_ord rfl T.b_ord bt_ord (zA (pv 3) zC)))))))),?_⟩
 obtain ⟨as1,e1,h1,t1⟩:=pm.m1
 obtain ⟨as2,e2,h2,t2⟩:=pm.m2
 obtain ⟨as3,e3,h3,t3⟩:=pm.m3
 obtain ⟨as4,e4,h4,t4⟩:=pm.m4
 have f1:=pm.f1
 have f2:=pm.f2
 have f3:=pm.f3
 have f4:=pm.f4
 have k1:=wf.se
 have k2:=wf.ri
 have k3:=wf.ru
 have k4:=wf.ck
 have n1:=h1.len
 have n2:=h2.len
 have n3:=h3.len
 have n4:=h4.len
 have sz:(2000:Nat) * 100 < sizeLine:=by decide
 refine ⟨_,rfl,_,_,rfl,f1,_,rfl,_,_,rfl,f2,d.l1,d.l2,_,_,rfl,rfl,e1,e2,by rw [List.length_map,List.length_map];omega,fun D1 hD1=>?_⟩
 have s1:=Same.new (o:=.lst (as1.map V.ref++as2.map V.ref)) hD1
 have x1:(upd H D1 (.lst (as1.map V.ref++as2.map V.ref))) D1=_:=upd_same
 refine ⟨_,rfl,_,_,rfl,f3.mono s1.t,D1,d.l3,_,_,rfl,rfl,x1,s1 _ _ e3,by simp only [List.length_append,List.length_map];omega,fun D2 hD2=>?_⟩
 have s2:=s1.trans (Same.new (o:=.lst (as1.map V.ref++as2.map V.ref++as3.map V.ref)) hD2)
 have x2:(upd (upd H D1 (.lst (as1.map V.ref++as2.map V.ref))) D2 (.lst (as1.map V.ref++as2.map V.ref++as3.map V.ref))) D2=_:=upd_same
 refine ⟨_,rfl,_,_,rfl,f4.mono s2.t,D2,d.l4,_,_,rfl,rfl,x2,s2 _ _ e4,by simp only [List.length_append,List.length_map];omega,fun D3 hD3=>?_⟩
 have s3:=s2.trans (Same.new (o:=.lst (as1.map V.ref++as2.map V.ref++as3.map V.ref++as4.map V.ref)) hD3)
 have x3:(upd (upd (upd H D1 (.lst (as1.map V.ref++as2.map V.ref))) D2 (.lst (as1.map V.ref++as2.map V.ref++as3.map V.ref))) D3 (.lst (as1.map V.ref++as2.map V.ref++as3.map V.ref++as4.map V.ref))) D3=some (.lst ((as1++as2++as3++as4).map V.ref)):=by
  rw [upd_same];simp only [List.map_append]
 generalize upd (upd (upd H D1 _) D2 _) D3 _=H3 at s3 x3 ⊢
 have al:All2 (LnF K H) (as1++as2++as3++as4) (u1 p):=((t1.app t2).app t3).app t4
 have ll:(u1 p).length≤56:=by
  have:=al.len
  simp only [List.length_append] at this;omega
 refine ⟨D3,rfl,⟨_,SqL.of x3⟩,fun D hD=>x9 (K:=K) (xs:=(as1++as2++as3++as4).map V.ref) (PvC (fun t=>some (sw (t++[10]))) (u1 p) H3 D) (lc_0 hD) (fun i H' _ p=>p.1.seq (SqL.of x3)) ?_ ?_⟩
 ·rintro i y H' hi p'
  obtain ⟨a,ha1,rfl⟩:=yB hi
  obtain ⟨t,ht,ta⟩:=al.getA ha1
  have ln:=Fld.mono ta (s3.trans p'.1).t
  have tl:=wf.tx t (List.mem_of_getElem? ht)
  refine ⟨rfl,?_⟩
  refine ⟨_,rfl,_,_,rfl,ln,_,_,rfl,rfl,by rw [s_nl,xX,xX];simp;omega,?_⟩
  rw [s_nl,st_app];exact vK ht (by omega) hD p' rfl (Same.refl _)
 intro H4 p4
 have e5:=wI p4 (by rw [List.length_map,al.len])
 rw [vG] at e5;have e5':H4 D=some (.lst (((((u1 p).map fun t=>t++[10])).map st).map V.str)):=by
  rw [e5,List.map_map,List.map_map];rfl
 have S4:=s3.trans p4.1
 have sl:((((u1 p).map fun t=>t++[10]).map st).map fun x=>x.length).sum≤56 * 2001:=by
  have:=sum_le (fun x:Str=>x.length) 2001 (((u1 p).map fun t=>t++[10]).map st) fun x hx=>by
   obtain ⟨u,hu,rfl⟩:=List.mem_map.mp hx
   obtain ⟨t,ht,rfl⟩:=List.mem_map.mp hu
   have:=wf.tx t ht
   rw [xX];simp;omega
  rw [List.length_map,List.length_map] at this;refine Nat.le_trans this (Nat.mul_le_mul_right _ ll)
 refine ⟨⟨_,rfl⟩,_,rfl,_,D,_,rfl,rfl,.inl (SqL.of e5'),?_,?_⟩
 ·rw [s_e,xX,List.length_nil,Nat.mul_zero,Nat.add_zero]
  exact Nat.le_trans sl (by decide)
 rw [s_e,join0_st,← tN];have pl:(Vbtpah.printed p).length≤56 * 2001:=by
  rw [tN,List.length_flatten];rw [List.map_map] at sl;have:(List.map List.length ((u1 p).map fun t=>t++[10]))=List.map ((fun x:Str=>x.length)∘st) ((u1 p).map fun t=>t++[10]):=List.map_congr_left fun u _=>(xX u).symm
  rw [this];exact sl
 have cp:(st (Vbtpah.printed p)).cps.toList=Vbtpah.printed p:=by simp [st]
 refine ⟨_,rfl,fun D' hD'=>lc_str (PvC (fun c=>some (vn c)) (Vbtpah.printed p) H4 D') (lc_0 hD') ?_ ?_⟩
 ·rintro i cc H' hi p'
  have hi':(Vbtpah.printed p)[i]? = some cc:=by rw [← cp,Array.getElem?_toList];exact hi
  refine ⟨rfl,?_⟩
  refine ⟨_,rfl,_,rfl,rfl,?_⟩
  exact vK hi' (by omega) hD' p' rfl (Same.refl _)
 intro H5 p5
 have e6:=wI p5 (by simp [st])
 rw [vG] at e6;have hD0:H D'=none:=yJ S4 hD'
 exact ⟨_,uL c hD0 (S4.trans p5.1) e6,q D' hD0⟩
end
end My
namespace My
open PySem PySem.Spec PyProof.Rows L2
open Vbtpah (Says Log Reading Park Sensor Ride Rule Check)
open Vbtpah (ways loadOf able longest parted sumNat)
def able1 (skills:List Nat)(s w:Nat):Bool:=((skills[w - 1]?).getD 0) / 2 ^ s % 2==1
def ppl (skills:List Nat)(s:Nat):List Nat:=((List.range skills.length).map fun i=>i+1).filter (able1 skills s)
def Wy (skills:List Nat)(jobs:List (Nat×Nat)):List (List Nat):=(ways skills.length jobs.length).filter (able skills jobs)
theorem u3 (k:Nat):∀ n,ways k (n+1)=(ways k n).flatMap fun l=>((List.range k).map fun i=>i+1).map fun w=>l++[w]
 | 0=>by
  show (((List.range k).map fun i=>i+1).flatMap fun w=>[[]].map fun l=>w::l)=[[]].flatMap _
  simp [List.flatMap_def]
  rw [← List.flatMap_def]
  induction (List.range k) with
  | nil=>rfl
  | cons a l ih=>simp;exact ih
 | n+1=>by
  show (((List.range k).map fun i=>i+1).flatMap fun w=>(ways k (n+1)).map fun l=>w::l)=(((List.range k).map fun i=>i+1).flatMap fun w=>(ways k n).map fun l=>w::l).flatMap _
  rw [u3 k n,List.flatMap_assoc]
  congr 1
  funext w
  rw [List.map_flatMap,List.flatMap_map]
  congr 1
  funext l
  rw [List.map_map];rfl
theorem vX (k:Nat):∀ n l,l∈ways k n→l.length=n
 | 0,l,h=>by
  have : l=[]:=by simpa [ways] using h
  rw [this];rfl
 | n+1,l,h=>by
  rw [u3] at h;obtain ⟨m,hm,h⟩:=List.mem_flatMap.mp h
  obtain ⟨w,_,rfl⟩:=List.mem_map.mp h
  rw [List.length_append,vX k n m hm];rfl
theorem ways_in (k:Nat):∀ n l,l∈ways k n→∀ w∈l,1≤w∧w≤k
 | 0,l,h=>by
  have : l=[]:=by simpa [ways] using h
  rw [this];simp
 | n+1,l,h=>by
  rw [u3] at h;obtain ⟨m,hm,h⟩:=List.mem_flatMap.mp h
  obtain ⟨w,hw,rfl⟩:=List.mem_map.mp h
  obtain ⟨i,hi,rfl⟩:=List.mem_map.mp hw
  have:=List.mem_range.mp hi
  intro v hv
  rcases List.mem_append.mp hv with hv | hv
  ·exact ways_in k n m hm v hv
  ·rw [List.mem_singleton.mp hv];omega
theorem able_snoc {skills:List Nat}{jobs:List (Nat×Nat)}{j:Nat×Nat}{l:List Nat}{w:Nat}(h:l.length=jobs.length):able skills (jobs++[j]) (l++[w])=(able skills jobs l&&able1 skills j.2 w):=by
 unfold able able1;rw [List.zip_append h.symm,List.all_append];simp
theorem filter_flat {α β:Type}(p:α→Bool)(f:α→List β):∀ l:List α,(l.filter p).flatMap f=l.flatMap fun x=>if p x=true then f x else []
 | []=>rfl
 | a::l=>by
  rw [List.flatMap_cons,← filter_flat p f l]
  by_cases h:p a=true
  ·rw [if_pos h,List.filter_cons_of_pos h,List.flatMap_cons]
  ·rw [if_neg h,List.filter_cons_of_neg h,List.nil_append]
theorem flat_congr {α β:Type}{f g:α→List β}:∀ {l:List α},(∀ x∈l,f x=g x)→l.flatMap f=l.flatMap g
 | [],_=>rfl
 | a::l,h=>by rw [List.flatMap_cons,List.flatMap_cons,h a (by simp),flat_congr fun x hx=>h x (by simp [hx])]
theorem filter_flat2 {α β:Type}(p:β→Bool)(f:α→List β):∀ l:List α,(l.flatMap f).filter p=l.flatMap fun x=>(f x).filter p
 | []=>rfl
 | a::l=>by rw [List.flatMap_cons,List.flatMap_cons,List.filter_append,filter_flat2 p f l]
theorem Wy_snoc (skills:List Nat)(jobs:List (Nat×Nat))(j:Nat×Nat):Wy skills (jobs++[j])=(Wy skills jobs).flatMap fun l=>(ppl skills j.2).map fun w=>l++[w]:=by
 unfold Wy;rw [List.length_append,List.length_singleton,u3,filter_flat,filter_flat2];refine flat_congr fun l hl=>?_
 have e:=vX _ _ l hl
 unfold ppl;rw [List.filter_map];have:((able skills (jobs++[j]))∘fun w=>l++[w])=fun w=>able skills jobs l&&able1 skills j.2 w:=by
  funext w;exact able_snoc e
 rw [this]
 by_cases h:able skills jobs l=true
 ·rw [if_pos h];simp only [h,Bool.true_and]
 ·rw [if_neg h]
  have h':able skills jobs l=false:=by simpa using h
  simp only [h',Bool.false_and];simp
theorem ways_count (k:Nat):∀ n,(ways k n).length=k ^ n
 | 0=>rfl
 | n+1=>by
  show (((List.range k).map fun i=>i+1).flatMap fun w=>(ways k n).map fun l=>w::l).length=_
  rw [List.length_flatMap];have:(((List.range k).map fun i=>i+1).map fun w=>((ways k n).map fun l=>w::l).length)=List.replicate k (k ^ n):=by
   rw [List.eq_replicate_iff];refine ⟨by simp,fun b hb=>?_⟩
   obtain ⟨w,_,rfl⟩:=List.mem_map.mp hb
   rw [List.length_map,ways_count k n]
  rw [this,List.sum_replicate_nat,Nat.pow_succ,Nat.mul_comm]
theorem Wy_le {skills:List Nat}{jobs:List (Nat×Nat)}(h1:skills.length≤3)(h2:jobs.length≤7):(Wy skills jobs).length≤2187:=by
 unfold Wy;refine Nat.le_trans (List.length_filter_le ..) ?_
 rw [ways_count]
 calc skills.length ^ jobs.length≤3 ^ jobs.length:=Nat.pow_le_pow_left h1 _
  _≤3 ^ 7:=Nat.pow_le_pow_right (by decide) h2
  _=2187:=by decide
theorem load_snoc {js:List (Nat×Nat)}{ws:List Nat}{j:Nat×Nat}{w a:Nat}(h:ws.length=js.length):loadOf (js++[j]) (ws++[w]) a=loadOf js ws a+if w=a then j.1 else 0:=by
 unfold loadOf;rw [List.zip_append h.symm,List.map_append,M.sumNat_eq,M.sumNat_eq,List.sum_append];simp
def x8 (jobs:List (Nat×Nat))(k:Nat)(way:List Nat):List Nat:=(List.range k).map fun i=>loadOf jobs way (i+1)
theorem loads_at {jobs:List (Nat×Nat)}{k:Nat}{way:List Nat}{i:Nat}(h:i < k):(x8 jobs k way)[i]? = some (loadOf jobs way (i+1)):=by
 unfold x8;rw [List.getElem?_map,List.getElem?_range h];rfl
theorem loads_snoc {js:List (Nat×Nat)}{ws:List Nat}{j:Nat×Nat}{w k:Nat}(h:ws.length=js.length)(h1:1≤w)(h2:w≤k):x8 (js++[j]) k (ws++[w])=(x8 js k ws).set (w - 1) (loadOf js ws w+j.1):=by
 refine List.ext_getElem? fun i=>?_
 rw [List.getElem?_set]
 by_cases hi:i < k
 ·rw [loads_at hi,load_snoc h]
  by_cases e:w - 1=i
  ·have:w=i+1:=by omega
   have l2:(x8 js k ws).length=k:=by simp [x8]
   rw [if_pos e,if_pos this,if_pos (by omega),this]
  ·rw [if_neg e,loads_at hi,if_neg (by omega),Nat.add_zero]
 ·have l1:(x8 (js++[j]) k (ws++[w])).length=k:=by simp [x8]
  have l2:(x8 js k ws).length=k:=by simp [x8]
  rw [List.getElem?_eq_none (by omega),if_neg (by omega),List.getElem?_eq_none (by omega)]
theorem fold_max : ∀ (l:List Nat) (a m:Nat),(m=a∨m∈l)→a≤m→(∀ y∈l,y≤m)→l.foldl max a=m
 | [],a,m,h,_,_=>by rcases h with h | h;exact h.symm;simp at h
 | b::l,a,m,h,h1,h2=>by
  rw [List.foldl_cons];have hb:=h2 b (by simp)
  refine fold_max l (max a b) m ?_ (by omega) fun y hy=>h2 y (by simp [hy])
  rcases h with h | h
  ·left;omega
  ·rcases List.mem_cons.mp h with h | h
   ·left;omega
   ·right;exact h
theorem longest_is {jobs:List (Nat×Nat)}{k:Nat}{way:List Nat}{m:Nat}(h:m∈x8 jobs k way)(h2:∀ y∈x8 jobs k way,y≤m):longest jobs k way=m:=fold_max _ 0 m (.inr h) (Nat.zero_le _) h2
def xL (jobs:List (Nat×Nat))(k:Nat)(b:Option (Nat×List Nat))(w:List Nat):Option (Nat×List Nat):=match b with
 | none=>some (longest jobs k w,w)
 | some x=>if longest jobs k w < x.1 then some (longest jobs k w,w) else b
theorem parted_eq (skills:List Nat)(jobs:List (Nat×Nat)):parted skills jobs=(Wy skills jobs).foldl (xL jobs skills.length) none:=by
 unfold parted Wy
 congr 1
theorem best_inv (jobs:List (Nat×Nat))(k:Nat):∀ (l:List (List Nat)) (b:Option (Nat×List Nat)),(∀ x,b=some x→x.1=longest jobs k x.2)→∀ x,l.foldl (xL jobs k) b=some x→x.1=longest jobs k x.2
 | [],b,h,x,e=>h x e
 | w::l,b,h,x,e=>by
  refine best_inv jobs k l _ ?_ x e
  intro y hy
  unfold xL at hy
  cases b with
  | none=>cases hy;rfl
  | some z =>
   simp only at hy
   split at hy
   ·cases hy;rfl
   ·exact h y hy
end My
namespace My
open PySem PySem.Spec PyProof.Rows L2
open Vbtpah (Says Log Reading Park Sensor Ride Rule Check)
open Vbtpah (ways loadOf able longest parted sumNat)
def wG : List Int→List (Int×Int)
 | a::b::r=>(a,b)::wG r
 | _=>[]
theorem vI : ∀ zs:List Int,(wG zs).length=zs.length / 2
 | []=>rfl
 | [_]=>by simp [wG]
 | a::b::r=>by
  show (wG r).length+1=(r.length+2) / 2
  rw [vI r];omega
theorem pairsI_at : ∀ (zs:List Int) (i:Nat),i < zs.length / 2→∃ x y,zs[2 * i]? = some x∧zs[2 * i+1]? = some y∧(wG zs)[i]? = some (x,y)
 | [],i,h=>by simp at h
 | [_],i,h=>by simp at h
 | a::b::r,0,h=>⟨a,b,rfl,rfl,rfl⟩
 | a::b::r,i+1,h=>by
  have hh:i < r.length / 2:=by simp only [List.length_cons] at h;omega
  obtain ⟨x,y,h1,h2,h3⟩:=pairsI_at r i hh
  exact ⟨x,y,h1,h2,h3⟩
theorem uG : ∀ zs:List Int,Vbtpah.pairsOf zs=(wG zs).map fun p=>(p.1.toNat,p.2.toNat)
 | []=>rfl
 | [_]=>rfl
 | a::b::r=>by
  show _::_=_::_
  rw [uG r]
def PiAt (K:zF)(H:Hp)(t:Addr)(p:Int×Int):Prop:=SqT K H t [.int p.1,.int p.2]
def spPairs (K:zF):Sp:=fun vs H Q _=>∃ (L:Addr) (zs:List Int),vs=[.ref L]∧Clo H∧SqL K H L (zs.map V.int)∧zs.length % 2=0∧zs.length≤2500 ∧
 ∀ H' D ts,Same H H'→Clo H'→H D=none→H' D=some (.lst (ts.map V.ref))→All2 (PiAt K H') ts (wG zs)→Q (.ref D) H'
theorem fitsL {i:Int}(h1 : -100000≤i)(h2:i≤100000):Builtin.Range.rangeFitsLong i=true:=by
 unfold Builtin.Range.rangeFitsLong;rw [decide_eq_true (by omega),decide_eq_true (by omega)];rfl
theorem rg2 {n:Nat}(h:n % 2=0)(h2:n≤2500):RgC 0 (n:Int) 2 (n / 2):=by
 refine ⟨by decide,by decide,?_,?_⟩
 ·unfold Builtin.Range.small
  rw [PyProof.Rows.rangeSize_pos (by decide) (by omega)];rw [fitsL (i:=0) (by decide) (by decide),fitsL (i:=(n:Int)) (by omega) (by omega),fitsL (i:=2) (by decide) (by decide),fitsL (i:=((n:Int)+2 - 1) / 2) (by omega) (by omega),if_pos (by decide),fitsL (i:=(n:Int)+(2 - 1)) (by omega) (by omega),Bool.or_true];rfl
 ·rw [PyProof.Rows.rangeSize_pos (by decide) (by omega)]
  omega
section
variable {P:Program}{w:World}{K:zF}{mg:Str→Option Value}{base:Heap}{tb:Addr}
theorem sc_pairs_of : zK ["row","at"] ["row"] (zE (z9 1)):=by walk_at "sc"
theorem ok_pairs_of (T:Txt P w K mg):Dfn P w K mg base "pairs_of" ["row"] [] 1 (spPairs K):=by
 have nd:=sc_pairs_of.nd
 refine T.d_pairs_of.ok sc_pairs_of (fun vs H Q E h=>?_) (fun f cdv A outer s H vs Q E hr h=>?_)
 ·obtain ⟨_,_,rfl,_⟩:=h;rfl
 obtain ⟨L,zs,rfl,c,hL,ev,lim,q⟩:=h
 refine ⟨_,(zJ H (zD (zI (vA rfl nd (pi_range3 rfl T.b_range (zA zG (zA (zU (xS K) rfl T.b_len yD (zA (pv 0) zC)) (zA zG zC)))) (yS (own:=[("at",1)]) rfl) (fun _ _ _ _ _=>(zV (i:=1) nd rfl (Or.inl rfl))) (fun _ _ _ _ _=>xY) (fun _ _ _ _ _=>(vS (zA (zY (yI K) (pv 0) (pv 1) (fun _ _=>rfl)) (zA (zY (yI K) (pv 0) (yG vJ (pv 1) zG) (fun _ _=>rfl)) zC)))))))),?_⟩
 refine ⟨_,rfl,L,_,rfl,.inl hL,0,_,2,zs.length / 2,rfl,by rw [List.length_map];exact rg2 ev lim,fun D hD=>lc_rng3 (fun i H'=>Same H H'∧Clo H'∧∃ ts:List Addr,H' D=some (.lst (ts.map V.ref))∧All2 (PiAt K H') ts ((wG zs).take i)) ⟨Same.new hD,c.lstN hD,[],upd_same,All2.nil⟩ ?_ ?_⟩
 ·rintro i H' hi ⟨s1,c1,ts,hd,ht⟩
  obtain ⟨x,y,h1,h2,h3⟩:=pairsI_at zs i hi
  have hL1:=SqL.monoT hL s1.t
  have at1:yZ (zs.map V.int) (0+(i:Nat) * 2)=some (V.int x):=xI (n:=2 * i) (by omega) (by rw [List.getElem?_map,h1];rfl)
  have at2:yZ (zs.map V.int) (0+(i:Nat) * 2+1)=some (V.int y):=xI (n:=2 * i+1) (by omega) (by rw [List.getElem?_map,h2];rfl)
  refine ⟨rfl,?_⟩
  refine ⟨_,rfl,_,rfl,L,_,_,_,rfl,rfl,hL1,at1,_,rfl,_,rfl,_,_,rfl,rfl,L,_,_,_,rfl,rfl,hL1,at2,yF,fun T' hT=>?_⟩
  have e1:(upd H' T' (.tup [.int x,.int y])) D=some (.lst (ts.map V.ref)):=by rw [zH (zO hd hT)];exact hd
  refine ⟨_,e1,?_,(s1.trans (Same.new hT)).put hD,(c1.tupN hT).lstU e1,ts++[T'],by rw [upd_same,List.map_append];rfl,?_⟩
  ·have:=ht.len
   have sz:(2500:Nat) < sizeLine:=by decide
   rw [List.length_take] at this;rw [List.length_map];omega
  ·rw [yE h3]
   exact All2.snoc (ht.mono fun _ _ q=>SqT.lstU (SqT.monoT q (Same.new hT).t) e1) (SqT.lstU (SqT.of upd_same) e1)
 ·rintro H' ⟨s1,c1,ts,hd,ht⟩
  rw [← vI,List.take_length] at ht;exact ⟨_,⟨Kp.of s1,c1,Same.refl _⟩,q H' D ts s1 c1 hD hd ht⟩
def spSkill : Sp:=fun vs H Q _=>∃ (a s:Nat),vs=[vn a,vn s]∧Clo H∧Q (.bl (a / 2 ^ s % 2==1)) H
theorem sc_has_skill : zK ["skills","skill"] ["skills","skill"] (zE (z9 2)):=by walk_at "sc"
theorem ok_has_skill (T:Txt P w K mg):Dfn P w K mg base "has_skill" ["skills","skill"] [] 1 spSkill:=by
 have nd:=sc_has_skill.nd
 refine T.d_has_skill.ok sc_has_skill (fun vs H Q E h=>?_) (fun f cdv A outer s H vs Q E hr h=>?_)
 ·obtain ⟨_,_,rfl,_⟩:=h;rfl
 obtain ⟨a,s,rfl,c,q⟩:=h
 refine ⟨_,(zJ H (zD (zI (yO yH (yG op_and (yG op_shr (pv 0) (pv 1)) zG) zG (zN _))))),?_⟩
 have e:decide (V.int (Builtin.bitAnd ((a:Int) / 2 ^ ((s:Int)).toNat) 1)=V.int 1)=(a / 2 ^ s % 2==1):=by
  rw [bitAnd_m1,decI,show ((s:Int)).toNat=s by omega];have:((a:Int) / 2 ^ s) % 2=((a / 2 ^ s % 2:Nat):Int):=by
   rw [Int.natCast_emod,Int.natCast_ediv,Int.natCast_pow];rfl
  rw [this]
  by_cases h:a / 2 ^ s % 2=1
  ·rw [h];rfl
  ·rw [decide_eq_false (by omega)]
   exact (beq_eq_false_iff_ne.mpr h).symm
 refine ⟨_,rfl,_,rfl,_,_,rfl,rfl,Int.natCast_nonneg _,_,_,rfl,rfl,rfl,_,Fg.self c (Same.refl _),?_⟩
 rw [e];exact q
def spPpl (K:zF):Sp:=fun vs H Q _=>∃ (L:Addr) (skills:List Nat) (s:Nat),vs=[.ref L,vn s]∧Clo H∧SqL K H L (skills.map vn)∧skills.length≤3∧∀ D H',Same H H'→Clo H'→H D=none→H' D=some (.lst ((ppl skills s).map vn))→Q (.ref D) H'
theorem filter_fm {α β:Type}(f:α→β)(p:β→Bool):∀ l:List α,(l.map f).filter p=l.filterMap fun i=>if p (f i)=true then some (f i) else none
 | []=>rfl
 | a::l=>by
  rw [List.map_cons,List.filterMap_cons]
  by_cases h:p (f a)=true
  ·rw [List.filter_cons_of_pos h,if_pos h,filter_fm f p l]
  ·rw [List.filter_cons_of_neg h,if_neg h,filter_fm f p l]
theorem sc_people_with : zK ["crew","skill","who","skills"] ["crew","skill"] (zE (z9 3)):=by walk_at "sc"
theorem ok_people_with (T:Txt P w K mg):Dfn P w K mg base "people_with" ["crew","skill"] [] 2 (spPpl K):=by
 have nd:=sc_people_with.nd
 refine T.d_people_with.ok sc_people_with (fun vs H Q E h=>?_) (fun f cdv A outer s H vs Q E hr h=>?_)
 ·obtain ⟨_,_,_,rfl,_⟩:=h;rfl
 obtain ⟨L,skills,s',rfl,c,hL,lim,q⟩:=h
 refine ⟨_,(zJ H (zD (zI (vA rfl nd (t7 K T.b_enumerate (zA (pv 0) zC) (vE zG uF)) (yS (own:=[("who",2),("skills",3)]) rfl) (fun _ _ _ _ _=>(u9 K (n:=2) rfl (yA (zV (i:=2) nd rfl (Or.inl rfl)) (yA (zV (i:=3) nd rfl (Or.inl rfl)) xN)))) (fun _ _ _ _ _=>(tZ (yC (zS (ok_has_skill T) (hr.mono (by decide)) (zA (pv 3) (zA (pv 1) zC)))))) (fun _ _ _ _ _=>(pv 2)))))),?_⟩
 have lz:(List.range skills.length).length≤sizeLine:=by rw [List.length_range];exact Nat.le_trans lim (by decide)
 refine ⟨_,rfl,L,_,rfl,rfl,hL,fun D hD=>lc_enum1 (K:=K) (a:=L) (xs:=skills.map vn) (PvK (fun i=>(if able1 skills s' (i+1)=true then some (i+1) else none).map vn) (List.range skills.length) H D) (PvK.zero c hD) (fun i H' p=>SqL.monoT hL p.1.1.t) ?_ ?_⟩
 ·rintro i x H' T' hx p hT
  obtain ⟨a,ha,rfl⟩:=yB hx
  have lt:=(List.getElem?_eq_some_iff.mp ha).1
  have ri:(List.range skills.length)[i]? = some i:=List.getElem?_range lt
  refine ⟨rfl,?_⟩
  refine ⟨_,rfl,_,rfl,a,s',rfl,p.2.tupN hT,_,rfl,?_⟩
  have ea:able1 skills s' (i+1)=(a / 2 ^ s' % 2==1):=by unfold able1;rw [Nat.add_sub_cancel,ha];rfl
  rw [← ea];refine zR ?_ ?_
  ·intro h1
   exact ⟨_,rfl,PvK.yes ri lz hD p (by rw [if_pos h1];rfl) (Same.new hT) (p.2.tupN hT)⟩
  ·intro h1
   exact PvK.no ri p (by rw [if_neg (by rw [h1];exact Bool.false_ne_true)];rfl) (Same.new hT) (p.2.tupN hT)
 ·intro H' p
  have e:=wI p.1 (by rw [List.length_map,List.length_range])
  rw [fm_map] at e;refine ⟨_,⟨Kp.of p.1.1,p.2,Same.refl _⟩,q D H' p.1.1 p.2 hD ?_⟩
  unfold ppl;rw [filter_fm];exact e
def WsAt (H:Hp)(t:Addr)(l:List Nat):Prop:=H t=some (.lst (l.map vn))
theorem ws_ne {H:Hp}{b D:Addr}{z:List Nat}{us:List Addr}(h:WsAt H b z)(hz:z≠[])(hd:H D=some (.lst (us.map V.ref))):b≠D:=fun e=>by
 unfold WsAt at h;rw [e,hd] at h
 cases z with
 | nil=>exact hz rfl
 | cons n z =>
  cases us with
  | nil=>simp at h
  | cons u us=>simp [vn] at h
def spLonger (K:zF):Sp:=fun vs H Q _=>∃ (W L:Addr) (ts:List Addr) (ws:List (List Nat)) (ps:List Nat),vs=[.ref W,.ref L]∧Clo H∧SqL K H W (ts.map V.ref)∧All2 (WsAt H) ts ws∧SqL K H L (ps.map vn)∧(∀ l∈ws,l.length≤7)∧ps.length≤3∧ws.length * ps.length≤2187 ∧
 ∀ H' D ts',Same H H'→Clo H'→H' D=some (.lst (ts'.map V.ref))→All2 (WsAt H') ts' (ws.flatMap fun l=>ps.map fun w=>l++[w])→Q (.ref D) H'
theorem t6 {α β:Type}(f:α→List β)(k:Nat):∀ (l:List α),(∀ x,(f x).length=k)→(l.flatMap f).length=l.length * k
 | [],_=>by simp
 | a::l,h=>by rw [List.flatMap_cons,List.length_append,h,t6 f k l h,List.length_cons,Nat.succ_mul,Nat.add_comm]
theorem sc_longer_ways : zK ["ways","people","longer","way","who"] ["ways","people"] (zE (z9 4)):=by walk_at "sc"
theorem ok_longer_ways (T:Txt P w K mg):Dfn P w K mg base "longer_ways" ["ways","people"] [] 1 (spLonger K):=by
 have nd:=sc_longer_ways.nd
 refine T.d_longer_ways.ok sc_longer_ways (fun vs H Q E h=>?_) (fun f cdv A outer s H vs Q E hr h=>?_)
 ·obtain ⟨_,_,_,_,_,rfl,_⟩:=h;rfl
 obtain ⟨W,L,ts,ws,ps,rfl,c,hW,ht,hL,l7,p3,lim,q⟩:=h
 refine ⟨_,(zJ H (zB (zL (i:=2) nd rfl (Or.inl rfl) (zT zC)) (zB (xH PassesOwn.never rfl (vH K (pv 0)) (zV (i:=3) nd rfl (Or.inr rfl)) (zJ H (zD (yL (bmK K PySem.F.plainAttrs_list PySem.F.slot_list_extend PySem.F.type_list_extend wW (pv 2) (zA (vA rfl nd (vH K (pv 1)) (yS (own:=[("who",4)]) rfl) (fun _ _ _ _ _=>(zV (i:=4) nd rfl (Or.inl rfl))) (fun _ _ _ _ _=>xY) (fun _ _ _ _ _=>(yG wH (pv 3) (zT (zA (pv 4) zC))))) zC)))))) (zD (zI (pv 2)))))),?_⟩
 have sz:(2500:Nat) < sizeLine:=by decide
 refine ⟨yF,fun R hR=>?_⟩
 refine ⟨_,rfl,W,rfl,⟨_,SqL.monoT hW (Same.new hR).t⟩,wC (K:=K) (a:=W) (xs:=ts.map V.ref) (fun i σ H'=>∃ v v' us,σ=[some (.ref W),some (.ref L),some (.ref R),v,v']∧Same H H'∧Clo H'∧H' R=some (.lst (us.map V.ref))∧All2 (WsAt H') us ((ws.take i).flatMap fun l=>ps.map fun w=>l++[w]))
  ⟨none,none,[],rfl,Same.new hR,c.lstN hR,upd_same,All2.nil⟩ (fun i σ H' _ ⟨_,_,_,_,s,_⟩=>SqL.monoT hW s.t) ?_ ?_⟩
 ·rintro i y σ H' hi ⟨v,v',us,rfl,s1,c1,hr1,hu⟩
  obtain ⟨a,ha,rfl⟩:=yB hi
  obtain ⟨l,hl,wl⟩:=ht.getA ha
  have wl1:H' a=some (.lst (l.map vn)):=s1 _ _ wl
  have hL1:=SqL.monoT hL s1.t
  have ll:=l7 l (List.mem_of_getElem? hl)
  refine ⟨_,rfl,.inl ⟨rfl,_,SqL.of hr1⟩,?_⟩
  refine ⟨_,rfl,L,rfl,⟨_,hL1⟩,fun D hD=>x9 (K:=K) (xs:=ps.map vn) (fun j H2=>Same H' H2∧Clo H2∧∃ us2:List Addr,H2 D=some (.lst (us2.map V.ref))∧All2 (WsAt H2) us2 ((ps.take j).map fun w=>l++[w])) ⟨Same.new hD,c1.lstN hD,[],upd_same,All2.nil⟩ (fun j H2 _ p=>SqL.monoT hL1 p.1.t) ?_ ?_⟩
  ·rintro j x H2 hx ⟨s2,c2,us2,hd2,hu2⟩
   obtain ⟨w1,hw1,rfl⟩:=yB hx
   refine ⟨rfl,?_⟩
   refine ⟨_,rfl,_,rfl,yF,fun B1 hB1=>?_⟩
   have n1:=Same.new (o:=.lst [vn w1]) hB1
   refine ⟨a,B1,_,_,rfl,rfl,n1 _ _ (s2 _ _ wl1),upd_same,by rw [List.length_map];simp;omega,fun B2 hB2=>?_⟩
   have n2:=n1.trans (Same.new (o:=.lst (l.map vn++[vn w1])) hB2)
   have e1:=n2 _ _ hd2
   have c3:Clo (upd (upd H2 B1 (.lst [vn w1])) B2 (.lst (l.map vn++[vn w1]))):=(c2.lstN hB1).lstN hB2
   have nB:B2≠D:=fun e=>by rw [e,n1 _ _ hd2] at hB2;cases hB2
   refine ⟨_,e1,?_,(s2.trans n2).put hD,c3.lstU e1,us2++[B2],by rw [upd_same,List.map_append];rfl,?_⟩
   ·have:=hu2.len
    rw [List.length_map,List.length_take] at this;rw [List.length_map];omega
   ·rw [yE hw1,List.map_append]
    refine All2.snoc ?_ ?_
    ·refine ⟨hu2.len,fun k b z hb hz=>?_⟩
     have h0:H2 b=some (.lst (z.map vn)):=hu2.at_ k b z hb hz
     have nb:b≠D:=ws_ne h0 (by
      obtain ⟨q1,_,rfl⟩:=yB hz
      simp) hd2
     show upd _ D _ b=_
     rw [zH nb];exact n2 _ _ h0
    ·show upd _ D _ B2=_
     rw [zH nB,upd_same,List.map_append];rfl
  ·rintro H2 ⟨s2,c2,us2,hd2,hu2⟩
   rw [List.length_map,List.take_length] at hu2;have hr2:=s2 _ _ hr1
   have s3:Same H (upd H2 R (.lst (us.map V.ref++us2.map V.ref))):=(s1.trans s2).put hR
   have c3:Clo (upd H2 R (.lst (us.map V.ref++us2.map V.ref))):=c2.lstU hr2
   have h1:=hu.len
   have h2:=hu2.len
   rw [t6 _ ps.length _ (fun x=>by rw [List.length_map]),List.length_take] at h1
   rw [List.length_map] at h2;have lt:=(List.getElem?_eq_some_iff.mp hl).1
   have hm:min i ws.length * ps.length+ps.length≤ws.length * ps.length:=by
    rw [← Nat.succ_mul];exact Nat.mul_le_mul_right _ (by omega)
   refine ⟨R,D,_,_,rfl,rfl,hr2,hd2,by rw [List.length_map,List.length_map];omega,_,⟨Kp.of s3,c3,Same.refl _⟩,_,_,us++us2,rfl,s3,c3,by rw [upd_same,List.map_append],?_⟩
   rw [yE hl,List.flatMap_append];have keep:∀ b z,WsAt H2 b z→z≠[]→WsAt (upd H2 R (.lst (us.map V.ref++us2.map V.ref))) b z:=fun b z h0 hz=>by
    show upd _ R _ b=_
    rw [zH (ws_ne h0 hz hr2)];exact h0
   refine All2.app ⟨hu.len,fun k b z hb hz=>keep b z (s2 _ _ (hu.at_ k b z hb hz)) ?_⟩ ?_
   ·obtain ⟨l0,_,h0⟩:=List.mem_flatMap.mp (List.mem_of_getElem? hz)
    obtain ⟨w0,_,rfl⟩:=List.mem_map.mp h0
    simp
   ·rw [List.flatMap_cons,List.flatMap_nil,List.append_nil]
    refine ⟨hu2.len,fun k b z hb hz=>keep b z (hu2.at_ k b z hb hz) ?_⟩
    obtain ⟨q1,_,rfl⟩:=yB hz
    simp
 ·rintro σ H' ⟨v,v',us,rfl,s1,c1,hr1,hu⟩
  rw [List.length_map,ht.len,List.take_length] at hu;exact ⟨_,rfl,_,⟨Kp.of s1,c1,Same.refl _⟩,q H' R us s1 c1 hr1 hu⟩
end
end My
namespace My
open PySem PySem.Spec PyProof.Rows L2
open Vbtpah (Says Log Reading Park Sensor Ride Rule Check)
open Vbtpah (ways loadOf able longest parted sumNat)
theorem ppl_len (skills:List Nat)(s:Nat):(ppl skills s).length≤skills.length:=by
 unfold ppl;refine Nat.le_trans (List.length_filter_le ..) ?_
 rw [List.length_map,List.length_range];exact Nat.le_refl _
structure CrewAt (K:zF)(H:Hp)(L J:Addr)(skills:List Nat)(jobs:List (Nat×Nat)):Prop where
 sk : SqL K H L (skills.map vn)
 jb : ∃ js:List Addr,SqL K H J (js.map V.ref)∧All2 (PrAt K H) js jobs
 k1 : 1≤skills.length
 k3 : skills.length≤3
 n7 : jobs.length≤7
theorem CrewAt.mono {K:zF}{H H':Hp}{L J:Addr}{skills:List Nat}{jobs:List (Nat×Nat)}(h:CrewAt K H L J skills jobs)(s:SameT H H'):CrewAt K H' L J skills jobs :=
 ⟨SqL.monoT h.sk s,let ⟨js,a,b⟩:=h.jb;⟨js,SqL.monoT a s,b.mono fun _ _ q=>SqT.monoT q s⟩,h.k1,h.k3,h.n7⟩
section
variable {P:Program}{w:World}{K:zF}{mg:Str→Option Value}{base:Heap}{tb:Addr}
def spAll (K:zF):Sp:=fun vs H Q _=>∃ (L J:Addr) (skills:List Nat) (jobs:List (Nat×Nat)),vs=[.ref L,.ref J]∧Clo H∧CrewAt K H L J skills jobs ∧
 ∀ H' D ts,Same H H'→Clo H'→H' D=some (.lst (ts.map V.ref))→All2 (WsAt H') ts (Wy skills jobs)→Q (.ref D) H'
theorem sc_all_ways : zK ["crew","jobs","ways","job"] ["crew","jobs"] (zE (z9 5)):=by walk_at "sc"
theorem ok_all_ways (T:Txt P w K mg):Dfn P w K mg base "all_ways" ["crew","jobs"] [] 3 (spAll K):=by
 have nd:=sc_all_ways.nd
 refine T.d_all_ways.ok sc_all_ways (fun vs H Q E h=>?_) (fun f cdv A outer s H vs Q E hr h=>?_)
 ·obtain ⟨_,_,_,_,rfl,_⟩:=h;rfl
 obtain ⟨L,J,skills,jobs,rfl,c,ca,q⟩:=h
 refine ⟨_,(zJ H (zB (zL (i:=2) nd rfl (Or.inl rfl) (zT (zA (zT zC) zC))) (zB (xH PassesOwn.never rfl (vH K (pv 1)) (zV (i:=3) nd rfl (Or.inl rfl)) (zJ H (zD (zL (i:=2) nd rfl (Or.inl rfl) (zS (ok_longer_ways T) (hr.mono (by decide)) (zA (pv 2) (zA (zS (ok_people_with T) (hr.mono (by decide)) (zA (pv 0) (zA (zY (ixTK K) (pv 3) zG (fun _ _=>rfl)) zC))) zC))))))) (zD (zI (pv 2)))))),?_⟩
 obtain ⟨js,hJ,ht⟩:=ca.jb
 refine ⟨yF,fun B0 hB0=>⟨yF,fun B1 hB1=>?_⟩⟩
 have s0:=(Same.new (o:=.lst []) hB0).trans (Same.new (o:=.lst [.ref B0]) hB1)
 have c0:Clo (upd (upd H B0 (.lst [])) B1 (.lst [.ref B0])):=(c.lstN hB0).lstN hB1
 have x0:(upd (upd H B0 (.lst [])) B1 (.lst [.ref B0])) B0=some (.lst []):=by rw [zH (zO upd_same hB1)];exact upd_same
 refine ⟨_,rfl,J,rfl,⟨_,SqL.monoT hJ s0.t⟩,wC (K:=K) (a:=J) (xs:=js.map V.ref) (fun i σ H'=>∃ v Wa ts,σ=[some (.ref L),some (.ref J),some (.ref Wa),v]∧Same H H'∧Clo H'∧H' Wa=some (.lst (ts.map V.ref))∧All2 (WsAt H') ts (Wy skills (jobs.take i)))
  ⟨none,B1,[B0],rfl,s0,c0,upd_same,All2.snoc All2.nil x0⟩ (fun i σ H' _ ⟨_,_,_,_,s,_⟩=>SqL.monoT hJ s.t) ?_ ?_⟩
 ·rintro i y σ H' hi ⟨v,Wa,ts,rfl,s1,c1,hw,hu⟩
  obtain ⟨a,ha,rfl⟩:=yB hi
  obtain ⟨j,hj,ja⟩:=ht.getA ha
  have ja1:SqT K H' a [vn j.1,vn j.2]:=SqT.monoT ja s1.t
  have i1:yZ [vn j.1,vn j.2] 1=some (vn j.2):=rfl
  refine ⟨_,rfl,_,rfl,_,rfl,a,_,_,_,rfl,rfl,ja1,i1,L,skills,j.2,rfl,c1,SqL.monoT ca.sk s1.t,ca.k3,fun D2 H2 s2 c2 _ hd2=>?_⟩
  have hw2:=s2 _ _ hw
  have hu2:All2 (WsAt H2) ts (Wy skills (jobs.take i)):=hu.mono fun b z h0=>s2 _ _ h0
  have wy:=Wy_snoc skills (jobs.take i) j
  rw [← yE hj] at wy;have lm:(Wy skills (jobs.take i)).length * (ppl skills j.2).length≤2187:=by
   have:=Wy_le (skills:=skills) (jobs:=jobs.take (i+1)) ca.k3 (by rw [List.length_take];have:=ca.n7;omega)
   rw [wy,t6 _ (ppl skills j.2).length _ (fun x=>by rw [List.length_map])] at this
   exact this
  refine ⟨Wa,D2,ts,_,ppl skills j.2,rfl,c2,SqL.of hw2,hu2,SqL.of hd2,fun l hl=>?_,Nat.le_trans (ppl_len ..) ca.k3,lm,fun H3 D3 ts3 s3 c3 hd3 hu3=>?_⟩
  ·have:=vX _ _ l (List.mem_filter.mp hl).1
   rw [this,List.length_take];have:=ca.n7
   omega
  ·have s4:=(s1.trans s2).trans s3
   rw [← wy] at hu3;exact ⟨_,⟨Kp.of s4,c3,Same.refl _⟩,_,D3,ts3,rfl,s4,c3,hd3,hu3⟩
 ·rintro σ H' ⟨v,Wa,ts,rfl,s1,c1,hw,hu⟩
  rw [List.length_map,ht.len,List.take_length] at hu;exact ⟨_,rfl,_,⟨Kp.of s1,c1,Same.refl _⟩,q H' Wa ts s1 c1 hw hu⟩
def spTime (K:zF):Sp:=fun vs H Q _=>∃ (a L J:Addr) (way skills:List Nat) (jobs:List (Nat×Nat)),vs=[.ref a,.ref L,.ref J]∧Clo H∧CrewAt K H L J skills jobs∧SqL K H a (way.map vn)∧way.length=jobs.length∧(∀ x∈way,1≤x∧x≤skills.length)∧Q (vn (longest jobs skills.length way)) H
theorem sc_time_taken : zK ["way","crew","jobs","minutes_of","who","job"] ["way","crew","jobs"] (zE (z9 6)):=by walk_at "sc"
theorem ok_time_taken (T:Txt P w K mg):Dfn P w K mg base "time_taken" ["way","crew","jobs"] [] 1 (spTime K):=by
 have nd:=sc_time_taken.nd
 refine T.d_time_taken.ok sc_time_taken (fun vs H Q E h=>?_) (fun f cdv A outer s H vs Q E hr h=>?_)
 ·obtain ⟨_,_,_,_,_,_,rfl,_⟩:=h;rfl
 obtain ⟨a,L,J,way,skills,jobs,rfl,c,ca,hs,hl,hin,q⟩:=h
 refine ⟨_,(zJ H (zB (zL (i:=3) nd rfl (Or.inl rfl) (yG op_rep (zT (zA zG zC)) (zU (xS K) rfl T.b_len yD (zA (pv 1) zC)))) (zB (xH PassesOwn.never rfl (zipK K T.b_zip (zA (pv 0) (zA (pv 2) zC))) (vR H (u9 K (n:=2) rfl (yA (zV (i:=4) nd rfl (Or.inl rfl)) (yA (zV (i:=5) nd rfl (Or.inl rfl)) xN)))) (zJ H (zD (ps_augS (pv 3) (yG wQ (pv 4) zG) (getLK K) (zY (ixTK K) (pv 5) zG (fun _ _=>rfl)) ip_add set_list)))) (zD (zI (zU (maxK K rfl) rfl T.b_max bt_max (zA (pv 3) zC))))))),?_⟩
 obtain ⟨js,hJ,ht⟩:=ca.jb
 have k3:=ca.k3
 have sk:=ca.sk
 refine ⟨yF,fun B0 hB0=>?_⟩
 have s0:=Same.new (o:=.lst [.int 0]) hB0
 refine ⟨_,rfl,L,_,rfl,.inl (SqL.monoT sk s0.t),B0,_,_,rfl,rfl,upd_same,?_,?_,?_,fun W hW=>?_⟩
 ·rw [List.length_map];omega
 ·rw [List.length_map];omega
 ·rw [List.length_map];exact Nat.le_trans (by simp;omega) (by decide:(10:Nat)≤sizeLine)
 have hW0:H W=none:=yJ s0 hW
 have e0:(List.replicate (((skills.map vn).length:Int)).toNat [V.int 0]).flatten=(x8 [] skills.length []).map vn:=by
  rw [List.length_map];show (List.replicate skills.length [V.int 0]).flatten=_
  unfold x8;rw [List.map_map];have:∀ n,(List.replicate n [V.int 0]).flatten=(List.range n).map fun _=>V.int 0:=by
   intro n
   induction n with
   | zero=>rfl
   | succ n ih=>rw [List.replicate_succ',List.flatten_append,ih,List.range_succ,List.map_append];rfl
  rw [this];rfl
 rw [e0];have s1:=s0.trans (Same.new (o:=.lst ((x8 [] skills.length []).map vn)) hW)
 have c1:Clo (upd (upd H B0 (.lst [.int 0])) W (.lst ((x8 [] skills.length []).map vn))):=(c.lstN hB0).lstN hW
 refine ⟨_,rfl,_,rfl,a,J,_,_,rfl,SqL.monoT hs s1.t,SqL.monoT hJ s1.t,for_zip (K:=K) (a:=a) (b:=J) (xs:=way.map vn) (ys:=js.map V.ref) (fun i σ H'=>∃ v v',σ=[some (.ref a),some (.ref L),some (.ref J),some (.ref W),v,v']∧Same H H'∧Clo H'∧H' W=some (.lst ((x8 (jobs.take i) skills.length (way.take i)).map vn)))
  ⟨none,none,rfl,s1,c1,upd_same⟩ (fun i σ H' ⟨_,_,_,s,c,_⟩=>⟨SqL.monoT hs s.t,SqL.monoT hJ s.t,c,Kp.of s⟩) (by rw [List.length_map,List.length_map,ht.len,hl]) ?_ ?_⟩
 ·rintro i x y σ H' hx hy ⟨v,v',rfl,s2,c2,hw⟩
  obtain ⟨w1,hw1,rfl⟩:=yB hx
  obtain ⟨b,hb,rfl⟩:=yB hy
  obtain ⟨j,hj,jb⟩:=ht.getA hb
  have jb1:SqT K H' b [vn j.1,vn j.2]:=SqT.monoT jb s2.t
  have i0:yZ [vn j.1,vn j.2] 0=some (vn j.1):=rfl
  obtain ⟨g1,g2⟩:=hin w1 (List.mem_of_getElem? hw1)
  have ld:=loads_at (jobs:=jobs.take i) (k:=skills.length) (way:=way.take i) (i:=w1 - 1) (by omega)
  rw [show w1 - 1+1=w1 by omega] at ld;have lw:(way.take i).length=(jobs.take i).length:=by rw [List.length_take,List.length_take,hl]
  have ls:=loads_snoc (j:=j) (k:=skills.length) lw g1 g2
  rw [← yE hj,← yE hw1] at ls;refine ⟨_,rfl,_,rfl,_,_,rfl,rfl,?_⟩
  have e1:V.int ((w1:Int) - 1)=V.int ((w1 - 1:Nat):Int):=congrArg V.int (by omega)
  have ix:ixN ((x8 (jobs.take i) skills.length (way.take i)).map vn).length ((w1:Int) - 1)=some (w1 - 1):=by
   unfold ixN;have:(x8 (jobs.take i) skills.length (way.take i)).length=skills.length:=by simp [x8]
   rw [List.length_map,this,if_pos (by omega),if_pos (by omega),show ((w1:Int) - 1).toNat=w1 - 1 by omega]
  refine ⟨W,_,w1 - 1,vn (loadOf (jobs.take i) (way.take i) w1),rfl,e1,SqL.of hw,by rw [List.getElem?_map,ld];rfl,?_⟩
  refine ⟨_,rfl,b,_,_,_,rfl,rfl,jb1,i0,_,_,rfl,rfl,W,_,_,w1 - 1,rfl,rfl,hw,ix,?_⟩
  refine ⟨_,⟨(Kp.of s2).lst hw,c2.lstU hw,Same.refl _⟩,_,_,rfl,s2.put hW0,c2.lstU hw,?_⟩
  rw [upd_same,ls,List.map_set];rfl
 ·rintro σ H' ⟨v,v',rfl,s2,c2,hw⟩
  rw [List.length_map,List.take_length,hl,List.take_length] at hw;have e1:(x8 jobs skills.length way).map vn=((x8 jobs skills.length way).map fun (n:Nat)=>(n:Int)).map V.int:=by rw [List.map_map];rfl
  rw [e1] at hw;have k1:=ca.k1
  refine ⟨_,rfl,W,_,rfl,SqL.of hw,by simp [x8];omega,fun m hm hmax=>?_⟩
  obtain ⟨n,hn,rfl⟩:=List.mem_map.mp hm
  have : longest jobs skills.length way=n:=longest_is hn fun y hy=>by
   have:=hmax (y:Int) (List.mem_map.mpr ⟨y,hy,rfl⟩)
   omega
  rw [this] at q;exact ⟨_,Fg.self c s2,q⟩
def spBest (K:zF):Sp:=fun vs H Q _=>∃ (L J:Addr) (skills:List Nat) (jobs:List (Nat×Nat)),vs=[.ref L,.ref J]∧Clo H∧CrewAt K H L J skills jobs∧(parted skills jobs=none→Q .non H) ∧
 ∀ n wy a H',parted skills jobs=some (n,wy)→n=longest jobs skills.length wy→wy∈Wy skills jobs→Same H H'→Clo H'→H' a=some (.lst (wy.map vn))→Q (.ref a) H'
theorem sc_best_way : zK ["crew","jobs","best","least","way","taken"] ["crew","jobs"] (zE (z9 7)):=by walk_at "sc"
theorem ok_best_way (T:Txt P w K mg):Dfn P w K mg base "best_way" ["crew","jobs"] [] 4 (spBest K):=by
 have nd:=sc_best_way.nd
 refine T.d_best_way.ok sc_best_way (fun vs H Q E h=>?_) (fun f cdv A outer s H vs Q E hr h=>?_)
 ·obtain ⟨_,_,_,_,rfl,_⟩:=h;rfl
 obtain ⟨L,J,skills,jobs,rfl,c,ca,q1,q2⟩:=h
 refine ⟨_,(zJ H (zB (zL (i:=2) nd rfl (Or.inl rfl) uS) (zB (zL (i:=3) nd rfl (Or.inl rfl) zG) (zB (xH PassesOwn.never rfl (vH K (zS (ok_all_ways T) (hr.mono (by decide)) (zA (pv 0) (zA (pv 1) zC)))) (zV (i:=4) nd rfl (Or.inl rfl)) (zJ H (zB (zL (i:=5) nd rfl (Or.inl rfl) (zS (ok_time_taken T) (hr.mono (by decide)) (zA (pv 4) (zA (pv 0) (zA (pv 1) zC))))) (zD (zX (PW.pt (pw_or (zP op_isN (pv 2) uS (zN _)) (tM (zP op_lt (pv 5) (pv 3) (zN _))))) (zB (zL (i:=2) nd rfl (Or.inl rfl) (pv 4)) (zD (zL (i:=3) nd rfl (Or.inl rfl) (pv 5)))) zM))))) (zD (zI (pv 2))))))),?_⟩
 rw [parted_eq] at q1;have q2':∀ n wy a H',(Wy skills jobs).foldl (xL jobs skills.length) none=some (n,wy)→wy∈Wy skills jobs→Same H H'→Clo H'→H' a=some (.lst (wy.map vn))→Q (.ref a) H':=fun n wy a H' e=>q2 n wy a H' (by rw [parted_eq];exact e) (best_inv _ _ _ none (fun x h=>nomatch h) _ e)
 clear q2;refine ⟨_,rfl,_,rfl,L,J,skills,jobs,rfl,c,ca,fun H1 D ts s1 c1 hD hu=>?_⟩
 refine ⟨D,rfl,⟨_,SqL.of hD⟩,wC (K:=K) (a:=D) (xs:=ts.map V.ref) (fun i σ H'=>∃ v v' be le,σ=[some (.ref L),some (.ref J),some be,some (.int le),v,v']∧H'=H1 ∧
   (((Wy skills jobs).take i).foldl (xL jobs skills.length) none=none∧be = .non∨∃ n wy a,((Wy skills jobs).take i).foldl (xL jobs skills.length) none=some (n,wy)∧be = .ref a∧le=(n:Int)∧H1 a=some (.lst (wy.map vn))∧wy∈Wy skills jobs))
  ⟨none,none,.non,0,rfl,rfl,.inl ⟨rfl,rfl⟩⟩ (fun i σ H' _ ⟨_,_,_,_,_,e,_⟩=>by rw [e];exact SqL.of hD) ?_ ?_⟩
 ·rintro i y σ H' hi ⟨v,v',be,le,rfl,e0,hb⟩
  obtain rfl:H1=H':=e0.symm
  obtain ⟨a,ha,rfl⟩:=yB hi
  obtain ⟨wy,hw,wa⟩:=hu.getA ha
  have wm:=List.mem_of_getElem? hw
  have wm2:=(List.mem_filter.mp wm).1
  have fs:((Wy skills jobs).take (i+1)).foldl (xL jobs skills.length) none=xL jobs skills.length (((Wy skills jobs).take i).foldl (xL jobs skills.length) none) wy:=by
   rw [yE hw,List.foldl_append];rfl
  refine ⟨_,rfl,_,rfl,_,rfl,a,L,J,wy,skills,jobs,rfl,c1,ca.mono s1.t,SqL.of wa,vX _ _ _ wm2,ways_in _ _ _ wm2,?_⟩
  have fgs:Fg H H1 H1:=⟨Kp.of s1,c1,Same.refl _⟩
  rcases hb with ⟨h0,rfl⟩ | ⟨n,w0,a0,h0,rfl,rfl,ha0,hm0⟩
  ·refine ⟨_,rfl,rfl,_,rfl,?_⟩
   refine zR (fun _=>?_) fun z=>absurd z (by simp)
   refine ⟨_,rfl,_,rfl,H1,fgs,_,_,_,_,rfl,rfl,.inr ⟨_,wy,a,?_,rfl,rfl,wa,wm⟩⟩
   rw [fs,h0];rfl
  ·refine ⟨_,rfl,rfl,_,rfl,?_⟩
   refine zR (fun z=>absurd z (by simp)) fun _=>?_
   walk_at "rd"
   refine zR ?_ ?_
   ·intro h1
    have z1:longest jobs skills.length wy < n:=by have:=of_decide_eq_true h1;omega
    refine ⟨_,rfl,_,rfl,H1,fgs,_,_,_,_,rfl,rfl,.inr ⟨_,wy,a,?_,rfl,rfl,wa,wm⟩⟩
    rw [fs,h0];unfold xL;simp only
    rw [if_pos z1]
   ·intro h1
    have z1:¬ longest jobs skills.length wy < n:=by have:=of_decide_eq_false h1;omega
    refine ⟨H1,fgs,_,_,_,_,rfl,rfl,.inr ⟨n,w0,a0,?_,rfl,rfl,ha0,hm0⟩⟩
    rw [fs,h0];unfold xL;simp only
    rw [if_neg z1]
 ·rintro σ H' ⟨v,v',be,le,rfl,e0,hb⟩
  obtain rfl:H1=H':=e0.symm
  rw [List.length_map,hu.len,List.take_length] at hb;rcases hb with ⟨h0,rfl⟩ | ⟨n,w0,a0,h0,rfl,rfl,ha0,hm0⟩
  ·exact ⟨_,rfl,H,Fg.self c s1,q1 h0⟩
  ·exact ⟨_,rfl,H1,⟨Kp.of s1,c1,Same.refl _⟩,q2' n w0 a0 H1 h0 hm0 s1 c1 ha0⟩
end
end My
namespace My
open PySem PySem.Spec PyProof.Rows L2
open Vbtpah (Says Log Reading Park Sensor Ride Rule Check)
open Vbtpah (inside)
theorem wA (n lo hi:Int):inside n lo hi=(decide (lo≤n)&&decide (n≤hi)):=rfl
structure CallAt (K:zF)(H:Hp)(a:Addr)(p:Int)(ns:List Int)(rows:List (List Int)):Prop where
 nu : Fld K H a "number" (.int p)
 nl : ∃ L,Fld K H a "numbers" (.ref L)∧SqL K H L (ns.map V.int)
 rl : ∃ R bs,Fld K H a "rows" (.ref R)∧SqL K H R (bs.map V.ref)∧All2 (fun b r=>SqL K H b (r.map V.int)) bs rows
def spWithin (K:zF):Sp:=fun vs H Q _=>∃ (L:Addr) (zs:List Int) (lo hi:Int),vs=[.ref L,.int lo,.int hi]∧Clo H∧SqL K H L (zs.map V.int)∧zs.length≤20000∧Q (.bl (zs.all fun z=>inside z lo hi)) H
section
variable {P:Program}{w:World}{K:zF}{mg:Str→Option Value}{base:Heap}{tb:Addr}
theorem sc_are_within : zK ["numbers","least","greatest","number"] ["numbers","least","greatest"] (zE (z9 22)):=by walk_at "sc"
theorem wY (T:Txt P w K mg):Dfn P w K mg base "are_within" ["numbers","least","greatest"] [] 1 (spWithin K):=by
 have nd:=sc_are_within.nd
 refine T.d_are_within.ok sc_are_within (fun vs H Q E h=>?_) (fun f cdv A outer s H vs Q E hr h=>?_)
 ·obtain ⟨_,_,_,_,rfl,_⟩:=h;rfl
 obtain ⟨L,zs,lo,hi,rfl,c,hL,lim,q⟩:=h
 refine ⟨_,(zJ H (zD (zI (zU (allK K rfl) rfl T.b_all bt_all (zA (vA rfl nd (vH K (pv 0)) (yS (own:=[("number",3)]) rfl) (fun _ _ _ _ _=>(zV (i:=3) nd rfl (Or.inl rfl))) (fun _ _ _ _ _=>xY) (fun _ _ _ _ _=>(pe_chain wJ wJ (pv 1) (pv 3) (pv 2)))) zC))))),?_⟩
 have lz:zs.length≤sizeLine:=Nat.le_trans lim (by decide)
 refine ⟨_,rfl,L,rfl,⟨_,hL⟩,fun D hD=>x9 (K:=K) (xs:=zs.map V.int) (PvC (fun z=>some (V.bl (inside z lo hi))) zs H D) (lc_0 hD) (fun i H' _ p=>p.1.seq hL) ?_ ?_⟩
 ·rintro i y H' hi' p
  obtain ⟨z,hz,rfl⟩:=yB hi'
  refine ⟨rfl,?_⟩
  refine ⟨_,rfl,_,rfl,_,_,rfl,rfl,_,rfl,?_⟩
  refine zR ?_ ?_
  ·intro h1
   refine ⟨_,rfl,_,_,rfl,rfl,vK hz lz hD p ?_ (Same.refl _)⟩
   rw [wA,h1,Bool.true_and]
  ·intro h1
   refine vK hz lz hD p ?_ (Same.refl _)
   rw [wA,h1,Bool.false_and]
 ·intro H' p
  have e:=wI p (by rw [List.length_map])
  have e2:(zs.filterMap fun z=>some (V.bl (inside z lo hi)))=(zs.map fun z=>inside z lo hi).map V.bl:=by
   rw [vG,List.map_map];rfl
  rw [e2] at e;refine ⟨_,_,rfl,SqL.of e,_,Fg.self c p.1,?_⟩
  rw [List.all_map];exact q
def spRow (K:zF)(F:List Int→Bool):Sp:=fun vs H Q _=>∃ (L:Addr) (zs:List Int),vs=[.ref L]∧Clo H∧SqL K H L (zs.map V.int)∧zs.length≤2500∧Q (.bl (F zs)) H
def isSk (q:List Int):Bool:=decide (1≤q.length∧q.length≤3)&&q.all fun x=>inside x 0 31
theorem sc_is_text : zK ["row"] ["row"] (zE (z9 23)):=by walk_at "sc"
theorem ok_is_text (T:Txt P w K mg):Dfn P w K mg base "is_text" ["row"] [] 2 (spRow K Vbtpah.isText):=by
 have nd:=sc_is_text.nd
 refine T.d_is_text.ok sc_is_text (fun vs H Q E h=>?_) (fun f cdv A outer s H vs Q E hr h=>?_)
 ·obtain ⟨_,_,rfl,_⟩:=h;rfl
 obtain ⟨L,zs,rfl,c,hL,lim,q⟩:=h
 refine ⟨_,(zJ H (zD (zI (vU (yO wJ (zU (xS K) rfl T.b_len yD (zA (pv 0) zC)) (yW T.g_MOST_BYTES) (zN _)) (vT (zS (wY T) (hr.mono (by decide)) (zA (pv 0) (zA zG (zA (yW T.g_MOST_BYTE) zC))))))))),?_⟩
 unfold Vbtpah.isText at q;refine ⟨_,rfl,L,_,rfl,.inl hL,_,_,rfl,rfl,_,rfl,?_⟩
 rw [List.length_map,show decide ((zs.length:Int)≤2000)=decide (zs.length≤Vbtpah.TEXT) from decLe _ 2000];refine zR ?_ ?_
 ·intro h1
  rw [h1,Bool.true_and] at q;exact ⟨_,rfl,L,zs,0,255,rfl,c,hL,by omega,_,Fg.self c (Same.refl _),q⟩
 ·intro h1
  rw [h1,Bool.false_and] at q;exact ⟨_,Fg.self c (Same.refl _),q⟩
theorem sc_are_skills : zK ["row"] ["row"] (zE (z9 24)):=by walk_at "sc"
theorem ok_are_skills (T:Txt P w K mg):Dfn P w K mg base "are_skills" ["row"] [] 2 (spRow K isSk):=by
 have nd:=sc_are_skills.nd
 refine T.d_are_skills.ok sc_are_skills (fun vs H Q E h=>?_) (fun f cdv A outer s H vs Q E hr h=>?_)
 ·obtain ⟨_,_,rfl,_⟩:=h;rfl
 obtain ⟨L,zs,rfl,c,hL,lim,q⟩:=h
 refine ⟨_,(zJ H (zD (zI (vU (pe_chain wJ wJ zG (zU (xS K) rfl T.b_len yD (zA (pv 0) zC)) (yW T.g_MOST_PEOPLE)) (vT (zS (wY T) (hr.mono (by decide)) (zA (pv 0) (zA zG (zA (yW T.g_MOST_SKILLS) zC))))))))),?_⟩
 unfold isSk at q;have no:¬ (1≤zs.length∧zs.length≤3)→∃ H2,Fg H H H2∧Q (.bl false) H2:=fun z=>by
  rw [decide_eq_false z,Bool.false_and] at q;exact ⟨_,Fg.self c (Same.refl _),q⟩
 refine ⟨_,rfl,L,_,rfl,.inl hL,_,_,rfl,rfl,_,rfl,?_⟩
 rw [List.length_map];refine zR ?_ ?_
 ·intro h1
  have z1:1≤zs.length:=by have:=of_decide_eq_true h1;omega
  refine ⟨_,_,rfl,rfl,_,rfl,?_⟩
  refine zR ?_ ?_
  ·intro h2
   have z2:zs.length≤3:=by have:=of_decide_eq_true h2;omega
   rw [decide_eq_true ⟨z1,z2⟩,Bool.true_and] at q;exact ⟨_,rfl,L,zs,0,31,rfl,c,hL,by omega,_,Fg.self c (Same.refl _),q⟩
  ·intro h2
   have z2:¬ zs.length≤3:=by have:=of_decide_eq_false h2;omega
   exact no (fun z=>z2 z.2)
 ·intro h1
  have z1:¬ 1≤zs.length:=by have:=of_decide_eq_false h1;omega
  refine ⟨_,rfl,?_⟩
  exact zR (b:=false) (fun z=>nomatch z) fun _=>no (fun z=>z1 z.1)
end
end My
namespace My
open PySem PySem.Spec PyProof.Rows L2
open Vbtpah (Says Log Reading Park Sensor Ride Rule Check)
open Vbtpah (inside)
def jobF (x:Int×Nat):Bool:=if x.2 % 2=0 then inside x.1 1 1000 else inside x.1 0 4
theorem jobs_all : ∀ (zs:List Int) (n:Nat),n % 2=0→zs.length % 2=0→(zs.zipIdx n).all jobF=(((wG zs).map fun p=>p.1).all (fun z=>inside z 1 1000)&&((wG zs).map fun p=>p.2).all (fun z=>inside z 0 4))
 | [],n,_,_=>rfl
 | [_],n,_,h=>by simp at h
 | a::b::r,n,h,h2=>by
  have ih:=jobs_all r (n+2) (by omega) (by simp only [List.length_cons] at h2;omega)
  show (jobF (a,n)&&(jobF (b,n+1)&&(r.zipIdx (n+1+1)).all jobF))=((inside a 1 1000&&_)&&(inside b 0 4&&_))
  rw [ih];have e1:jobF (a,n)=inside a 1 1000:=by unfold jobF;rw [if_pos h]
  have e2:jobF (b,n+1)=inside b 0 4:=by unfold jobF;rw [if_neg (by simp only;omega)]
  rw [e1,e2]
  cases inside a 1 1000<;>cases inside b 0 4<;>simp
section
variable {P:Program}{w:World}{K:zF}{mg:Str→Option Value}{base:Heap}{tb:Addr}
theorem sc_are_jobs : zK ["row","jobs","minutes","job","skills"] ["row"] (zE (z9 25)):=by walk_at "sc"
theorem ok_are_jobs (T:Txt P w K mg):Dfn P w K mg base "are_jobs" ["row"] [] 2 (spRow K Vbtpah.isJobs):=by
 have nd:=sc_are_jobs.nd
 refine T.d_are_jobs.ok sc_are_jobs (fun vs H Q E h=>?_) (fun f cdv A outer s H vs Q E hr h=>?_)
 ·obtain ⟨_,_,rfl,_⟩:=h;rfl
 obtain ⟨L,zs,rfl,c,hL,lim,q⟩:=h
 refine ⟨_,(zJ H (zB (zX (PW.pt (pw_or (zP tH (yG op_mod (zU (xS K) rfl T.b_len yD (zA (pv 0) zC)) zG) zG (zN _)) (tM (zP w8 (zU (xS K) rfl T.b_len yD (zA (pv 0) zC)) (yG op_mul zG (yW T.g_MOST_JOBS)) (zN _))))) (zD (zI uU)) zM) (zB (zL (i:=1) nd rfl (Or.inl rfl) (zS (ok_pairs_of T) (hr.mono (by decide)) (zA (pv 0) zC))) (zB (ps_setLc (i:=2) rfl nd rfl rfl (sw_true rfl rfl rfl rfl) (vH K (pv 1)) (yS (own:=[("job",3)]) rfl) (fun _ _ _ _ _=>(zV (i:=3) nd rfl (Or.inl rfl))) (fun _ _ _ _ _=>xY) (fun _ _ _ _ _=>(zY (ixTK K) (pv 3) zG (fun _ _=>rfl)))) (zB (ps_setLc (i:=4) rfl nd rfl rfl (sw_true rfl rfl rfl rfl) (vH K (pv 1)) (yS (own:=[("job",3)]) rfl) (fun _ _ _ _ _=>(zV (i:=3) nd rfl (Or.inl rfl))) (fun _ _ _ _ _=>xY) (fun _ _ _ _ _=>(zY (ixTK K) (pv 3) zG (fun _ _=>rfl)))) (zD (zI (vU (zS (wY T) (hr.mono (by decide)) (zA (pv 2) (zA zG (zA (yW T.g_MOST_JOB_MINUTES) zC)))) (vT (zS (wY T) (hr.mono (by decide)) (zA (pv 4) (zA zG (zA (yW T.g_MOST_SKILL) zC))))))))))))),?_⟩
 unfold Vbtpah.isJobs at q;have no:¬ (zs.length % 2=0∧zs.length≤14)→∃ H2,Fg H H H2∧Q (.bl false) H2:=fun z=>by
  rw [decide_eq_false z,Bool.false_and] at q;exact ⟨_,Fg.self c (Same.refl _),q⟩
 refine ⟨_,rfl,L,_,rfl,.inl hL,_,_,rfl,rfl,(by decide:(0:Int) < 2),rfl,_,rfl,?_⟩
 rw [List.length_map];refine zR ?_ ?_
 ·intro h1
  refine no (fun z=>?_)
  have e:((zs.length:Int) % 2)=0:=by omega
  change (!decide (V.int ((zs.length:Int) % 2)=V.int 0))=true at h1
  rw [e] at h1;simp at h1
 intro h1
 have z1:zs.length % 2=0:=by
  have : V.int ((zs.length:Int) % 2)=V.int 0:=by simpa using h1
  have:=V.int.inj this
  omega
 refine ⟨_,rfl,L,_,rfl,.inl hL,_,_,rfl,rfl,?_,_,_,rfl,rfl,_,rfl,?_⟩
 ·exact .inl ⟨by decide,by decide⟩
 rw [List.length_map];refine zR ?_ ?_
 ·intro h2
  have:=of_decide_eq_true h2
  exact no (fun z=>by omega)
 intro h2
 have z2:zs.length≤14:=by have:=of_decide_eq_false h2;omega
 rw [decide_eq_true ⟨z1,z2⟩,Bool.true_and,show (zs.zipIdx.all fun x=>if x.2 % 2=0 then inside x.1 1 1000 else inside x.1 0 4)=(zs.zipIdx 0).all jobF from rfl,jobs_all zs 0 rfl z1] at q;refine ⟨_,rfl,L,zs,rfl,c,hL,z1,by omega,fun H1 D ts s1 c1 hD0 hD ht=>?_⟩
 have lp:(wG zs).length≤7:=by rw [vI];omega
 have sz:(100:Nat) < sizeLine:=by decide
 refine ⟨_,rfl,D,rfl,⟨_,SqL.of hD⟩,fun D2 hD2=>x9 (K:=K) (xs:=ts.map V.ref) (PvK (fun p=>some (V.int p.1)) (wG zs) H1 D2) (PvK.zero c1 hD2) (fun i H' _ p=>SqL.monoT (SqL.of hD) p.1.1.t) ?_ ?_⟩
 ·rintro i y H' hi' p
  obtain ⟨a,ha,rfl⟩:=yB hi'
  obtain ⟨j,hj,ja⟩:=ht.getA ha
  have ja1:SqT K H' a [.int j.1,.int j.2]:=SqT.monoT ja p.1.1.t
  have i0:yZ [V.int j.1,V.int j.2] 0=some (V.int j.1):=rfl
  refine ⟨rfl,?_⟩
  exact ⟨_,rfl,a,_,_,_,rfl,rfl,ja1,i0,PvK.yes hj (by omega) hD2 p rfl (Same.refl _) p.2⟩
 intro H2 p2
 have e2:=wI p2.1 (by rw [List.length_map,ht.len])
 rw [vG] at e2;have hD':=p2.1.1 _ _ hD
 refine ⟨_,rfl,D,rfl,⟨_,SqL.of hD'⟩,fun D3 hD3=>x9 (K:=K) (xs:=ts.map V.ref) (PvK (fun p=>some (V.int p.2)) (wG zs) H2 D3) (PvK.zero p2.2 hD3) (fun i H' _ p=>SqL.monoT (SqL.of hD') p.1.1.t) ?_ ?_⟩
 ·rintro i y H' hi' p
  obtain ⟨a,ha,rfl⟩:=yB hi'
  obtain ⟨j,hj,ja⟩:=ht.getA ha
  have ja1:SqT K H' a [.int j.1,.int j.2]:=SqT.monoT ja (p2.1.1.trans p.1.1).t
  have i0:yZ [V.int j.1,V.int j.2] 1=some (V.int j.2):=rfl
  refine ⟨rfl,?_⟩
  exact ⟨_,rfl,a,_,_,_,rfl,rfl,ja1,i0,PvK.yes hj (by omega) hD3 p rfl (Same.refl _) p.2⟩
 intro H3 p3
 have e3:=wI p3.1 (by rw [List.length_map,ht.len])
 rw [vG] at e3;have S3:=(s1.trans p2.1.1).trans p3.1.1
 have g2:H3 D2=some (.lst (((wG zs).map fun p=>p.1).map V.int)):=by rw [p3.1.1 _ _ e2,List.map_map];rfl
 have g3:H3 D3=some (.lst (((wG zs).map fun p=>p.2).map V.int)):=by rw [e3,List.map_map];rfl
 refine ⟨_,rfl,D2,_,1,1000,rfl,p3.2,SqL.of g2,by rw [List.length_map];omega,?_⟩
 refine ⟨_,rfl,?_⟩
 refine zR ?_ ?_
 ·intro h3
  rw [h3,Bool.true_and] at q;exact ⟨_,rfl,D3,_,0,4,rfl,p3.2,SqL.of g3,by rw [List.length_map];omega,_,Fg.self c S3,q⟩
 ·intro h3
  rw [h3,Bool.false_and] at q;exact ⟨_,Fg.self c S3,q⟩
def yV (p:Int)(rows:List (List Int)):Bool:=if p=21 then (isSk (rows.getD 0 [])&&Vbtpah.isJobs (rows.getD 1 [])) else rows.all Vbtpah.isText
def spRows (K:zF):Sp:=fun vs H Q _=>∃ (a:Addr) (p:Int) (ns:List Int) (rows:List (List Int)),vs=[.ref a]∧Clo H∧CallAt K H a p ns rows∧(∀ r∈rows,r.length≤2500)∧(p=21→rows.length=2)∧rows.length≤2∧Q (.bl (yV p rows)) H
theorem sc_are_rows_in_range : zK ["call","row"] ["call"] (zE (z9 26)):=by walk_at "sc"
theorem ok_are_rows_in_range (T:Txt P w K mg):Dfn P w K mg base "are_rows_in_range" ["call"] [] 3 (spRows K):=by
 have nd:=sc_are_rows_in_range.nd
 refine T.d_are_rows_in_range.ok sc_are_rows_in_range (fun vs H Q E h=>?_) (fun f cdv A outer s H vs Q E hr h=>?_)
 ·obtain ⟨_,_,_,_,rfl,_⟩:=h;rfl
 obtain ⟨a,p,ns,rows,rfl,c,ca,hl,h21,h2,q⟩:=h
 refine ⟨_,(zJ H (zB (zX (zP yH (zZ K (pv 0)) (yW T.g_CREW) (zN _)) (zD (zI (vU (zS (ok_are_skills T) (hr.mono (by decide)) (zA (zY (yI K) (zZ K (pv 0)) zG (fun _ _=>rfl)) zC)) (vT (zS (ok_are_jobs T) (hr.mono (by decide)) (zA (zY (yI K) (zZ K (pv 0)) zG (fun _ _=>rfl)) zC)))))) zM) (zD (zI (zU (allK K rfl) rfl T.b_all bt_all (zA (vA rfl nd (vH K (zZ K (pv 0))) (yS (own:=[("row",1)]) rfl) (fun _ _ _ _ _=>(zV (i:=1) nd rfl (Or.inl rfl))) (fun _ _ _ _ _=>xY) (fun _ _ _ _ _=>(zS (ok_is_text T) (hr.mono (by decide)) (zA (pv 1) zC)))) zC)))))),?_⟩
 unfold yV at q;have nu:=ca.nu
 obtain ⟨R,bs,fr,hR,hb⟩:=ca.rl
 walk_at "rd"
 refine zR ?_ ?_
 ·intro h1
  have z1:p=21:=y8 h1
  rw [if_pos z1] at q;have e2:=h21 z1
  obtain ⟨r0,r1,rfl⟩:∃ r0 r1,rows=[r0,r1]:=by
   match rows,e2 with
   | [r0,r1],_=>exact ⟨r0,r1,rfl⟩
  obtain ⟨b0,hb0,rb0⟩:=hb.get (i:=0) rfl
  obtain ⟨b1,hb1,rb1⟩:=hb.get (i:=1) rfl
  have i0:yZ (bs.map V.ref) 0=some (V.ref b0):=xI (n:=0) rfl (by rw [List.getElem?_map,hb0];rfl)
  have i1:yZ (bs.map V.ref) 1=some (V.ref b1):=xI (n:=1) rfl (by rw [List.getElem?_map,hb1];rfl)
  refine ⟨_,rfl,_,_,rfl,fr,R,_,_,_,rfl,rfl,hR,i0,b0,r0,rfl,c,rb0,hl r0 (by simp),_,rfl,?_⟩
  change if isSk r0=true then _ else _
  change Q (.bl (isSk r0&&Vbtpah.isJobs r1)) H at q
  refine zR ?_ ?_
  ·intro h3
   rw [h3,Bool.true_and] at q;exact ⟨_,rfl,_,_,rfl,fr,R,_,_,_,rfl,rfl,hR,i1,b1,r1,rfl,c,rb1,hl r1 (by simp),_,Fg.self c (Same.refl _),q⟩
  ·intro h3
   rw [h3,Bool.false_and] at q;exact ⟨_,Fg.self c (Same.refl _),q⟩
 ·intro h1
  have z1:p≠21:=y9 h1
  rw [if_neg z1] at q;have sz:(100:Nat) < sizeLine:=by decide
  refine ⟨_,rfl,_,_,rfl,fr,R,rfl,⟨_,hR⟩,fun D hD=>x9 (K:=K) (xs:=bs.map V.ref) (PvK (fun r=>some (V.bl (Vbtpah.isText r))) rows H D) (PvK.zero c hD) (fun i H' _ p=>SqL.monoT hR p.1.1.t) ?_ ?_⟩
  ·rintro i y H' hi' p'
   obtain ⟨b,hb1,rfl⟩:=yB hi'
   obtain ⟨r,hr1,rb⟩:=hb.getA hb1
   refine ⟨rfl,?_⟩
   exact ⟨_,rfl,b,r,rfl,p'.2,SqL.monoT rb p'.1.1.t,hl r (List.mem_of_getElem? hr1),PvK.yes hr1 (by omega) hD p' rfl (Same.refl _) p'.2⟩
  ·intro H' p'
   have e:=wI p'.1 (by rw [List.length_map,hb.len])
   have e2:(rows.filterMap fun r=>some (V.bl (Vbtpah.isText r)))=(rows.map Vbtpah.isText).map V.bl:=by
    rw [vG,List.map_map];rfl
   rw [e2] at e;refine ⟨_,_,rfl,SqL.of e,_,Fg.self c p'.1.1,?_⟩
   rw [List.all_map];exact q
end
end My
namespace My
open PySem PySem.Spec PyProof.Rows L2
open Vbtpah (Says Log Reading Park Sensor Ride Rule Check)
open Vbtpah (inside)
def y6 (p:Int)(ns:List Int):Bool:=(ns.zip (ranges.getD p.toNat [])).all fun x=>inside x.1 x.2.1 x.2.2
def rowsD : List (u8×V):=[(.inl 0,.int 1),(.inl 1,.int 1),(.inl 21,.int 2)]
structure Shp (p:Int)(n k:Nat):Prop where
 lo : 0≤p
 hi : p < 24
 rg : ∃ ps,ranges[p.toNat]? = some ps∧ps.length=n
 rw_ : (valV rowsD (.inl p)).getD (.int 0) = .int (k:Int)
 k2 : k≤2
 k21 : p=21→k=2
theorem shp {p:Int}{n k:Nat}(h:PyVbtpah.shape p=some (n,k)):Shp p n k:=by
 unfold PyVbtpah.shape at h
 by_cases e:p=0
 ·subst e
  rw [if_pos rfl] at h;cases h;exact ⟨by decide,by decide,⟨_,rfl,rfl⟩,rfl,by decide,by decide⟩
 rw [if_neg e] at h;clear e
 by_cases e:p=1
 ·subst e
  rw [if_pos rfl] at h;cases h;exact ⟨by decide,by decide,⟨_,rfl,rfl⟩,rfl,by decide,by decide⟩
 rw [if_neg e] at h;clear e
 by_cases e:p=2
 ·subst e
  rw [if_pos rfl] at h;cases h;exact ⟨by decide,by decide,⟨_,rfl,rfl⟩,rfl,by decide,by decide⟩
 rw [if_neg e] at h;clear e
 by_cases e:p=3
 ·subst e
  rw [if_pos rfl] at h;cases h;exact ⟨by decide,by decide,⟨_,rfl,rfl⟩,rfl,by decide,by decide⟩
 rw [if_neg e] at h;clear e
 by_cases e:p=4
 ·subst e
  rw [if_pos rfl] at h;cases h;exact ⟨by decide,by decide,⟨_,rfl,rfl⟩,rfl,by decide,by decide⟩
 rw [if_neg e] at h;clear e
 by_cases e:p=5
 ·subst e
  rw [if_pos rfl] at h;cases h;exact ⟨by decide,by decide,⟨_,rfl,rfl⟩,rfl,by decide,by decide⟩
 rw [if_neg e] at h;clear e
 by_cases e:p=6
 ·subst e
  rw [if_pos rfl] at h;cases h;exact ⟨by decide,by decide,⟨_,rfl,rfl⟩,rfl,by decide,by decide⟩
 rw [if_neg e] at h;clear e
 by_cases e:p=7
 ·subst e
  rw [if_pos rfl] at h;cases h;exact ⟨by decide,by decide,⟨_,rfl,rfl⟩,rfl,by decide,by decide⟩
 rw [if_neg e] at h;clear e
 by_cases e:p=8
 ·subst e
  rw [if_pos rfl] at h;cases h;exact ⟨by decide,by decide,⟨_,rfl,rfl⟩,rfl,by decide,by decide⟩
 rw [if_neg e] at h;clear e
 by_cases e:p=9
 ·subst e
  rw [if_pos rfl] at h;cases h;exact ⟨by decide,by decide,⟨_,rfl,rfl⟩,rfl,by decide,by decide⟩
 rw [if_neg e] at h;clear e
 by_cases e:p=10
 ·subst e
  rw [if_pos rfl] at h;cases h;exact ⟨by decide,by decide,⟨_,rfl,rfl⟩,rfl,by decide,by decide⟩
 rw [if_neg e] at h;clear e
 by_cases e:p=11
 ·subst e
  rw [if_pos rfl] at h;cases h;exact ⟨by decide,by decide,⟨_,rfl,rfl⟩,rfl,by decide,by decide⟩
 rw [if_neg e] at h;clear e
 by_cases e:p=12
 ·subst e
  rw [if_pos rfl] at h;cases h;exact ⟨by decide,by decide,⟨_,rfl,rfl⟩,rfl,by decide,by decide⟩
 rw [if_neg e] at h;clear e
 by_cases e:p=13
 ·subst e
  rw [if_pos rfl] at h;cases h;exact ⟨by decide,by decide,⟨_,rfl,rfl⟩,rfl,by decide,by decide⟩
 rw [if_neg e] at h;clear e
 by_cases e:p=14
 ·subst e
  rw [if_pos rfl] at h;cases h;exact ⟨by decide,by decide,⟨_,rfl,rfl⟩,rfl,by decide,by decide⟩
 rw [if_neg e] at h;clear e
 by_cases e:p=15
 ·subst e
  rw [if_pos rfl] at h;cases h;exact ⟨by decide,by decide,⟨_,rfl,rfl⟩,rfl,by decide,by decide⟩
 rw [if_neg e] at h;clear e
 by_cases e:p=16
 ·subst e
  rw [if_pos rfl] at h;cases h;exact ⟨by decide,by decide,⟨_,rfl,rfl⟩,rfl,by decide,by decide⟩
 rw [if_neg e] at h;clear e
 by_cases e:p=17
 ·subst e
  rw [if_pos rfl] at h;cases h;exact ⟨by decide,by decide,⟨_,rfl,rfl⟩,rfl,by decide,by decide⟩
 rw [if_neg e] at h;clear e
 by_cases e:p=18
 ·subst e
  rw [if_pos rfl] at h;cases h;exact ⟨by decide,by decide,⟨_,rfl,rfl⟩,rfl,by decide,by decide⟩
 rw [if_neg e] at h;clear e
 by_cases e:p=19
 ·subst e
  rw [if_pos rfl] at h;cases h;exact ⟨by decide,by decide,⟨_,rfl,rfl⟩,rfl,by decide,by decide⟩
 rw [if_neg e] at h;clear e
 by_cases e:p=20
 ·subst e
  rw [if_pos rfl] at h;cases h;exact ⟨by decide,by decide,⟨_,rfl,rfl⟩,rfl,by decide,by decide⟩
 rw [if_neg e] at h;clear e
 by_cases e:p=21
 ·subst e
  rw [if_pos rfl] at h;cases h;exact ⟨by decide,by decide,⟨_,rfl,rfl⟩,rfl,by decide,by decide⟩
 rw [if_neg e] at h;clear e
 by_cases e:p=22
 ·subst e
  rw [if_pos rfl] at h;cases h;exact ⟨by decide,by decide,⟨_,rfl,rfl⟩,rfl,by decide,by decide⟩
 rw [if_neg e] at h;clear e
 by_cases e:p=23
 ·subst e
  rw [if_pos rfl] at h;cases h;exact ⟨by decide,by decide,⟨_,rfl,rfl⟩,rfl,by decide,by decide⟩
 rw [if_neg e] at h;clear e;cases h
def spIn (K:zF):Sp:=fun vs H Q _=>∃ (a:Addr) (p:Int) (ns:List Int) (rows:List (List Int)) (k:Nat),vs=[.ref a]∧Clo H∧CallAt K H a p ns rows∧Shp p ns.length k∧rows.length=k∧(∀ r∈rows,r.length≤2500)∧Q (.bl (y6 p ns&&yV p rows)) H
section
variable {P:Program}{w:World}{K:zF}{mg:Str→Option Value}{base:Heap}{tb:Addr}
theorem sc_is_in_range : zK ["call","number","limits"] ["call"] (zE (z9 27)):=by walk_at "sc"
theorem ok_is_in_range (T:Txt P w K mg):Dfn P w K mg base "is_in_range" ["call"] [] 4 (spIn K):=by
 have nd:=sc_is_in_range.nd
 refine T.d_is_in_range.ok sc_is_in_range (fun vs H Q E h=>?_) (fun f cdv A outer s H vs Q E hr h=>?_)
 ·obtain ⟨_,_,_,_,_,rfl,_⟩:=h;rfl
 obtain ⟨a,p,ns,rows,k,rfl,c,ca,sh,hk,hl,q⟩:=h
 obtain ⟨RA1,cs,T_RANGES,kt,al⟩:=T.x_RANGES
 refine ⟨_,(zJ H (zB (xH PassesOwn.never rfl (zipTK K T.b_zip (zA (zZ K (pv 0)) (zA (zY (ixTK K) (pgr T_RANGES) (zZ K (pv 0)) (fun _ _=>rfl)) zC))) (vR H (u9 K (n:=2) rfl (yA (zV (i:=1) nd rfl (Or.inl rfl)) (yA (zV (i:=2) nd rfl (Or.inl rfl)) xN)))) (zJ H (zD (zX (xG (uQ wJ wJ (zY (ixTK K) (pv 2) zG (fun _ _=>rfl)) (pv 1) (zY (ixTK K) (pv 2) zG (fun _ _=>rfl)))) (zD (zI uU)) zM)))) (zD (zI (zS (ok_are_rows_in_range T) (hr.mono (by decide)) (zA (pv 0) zC)))))),?_⟩
 unfold y6 at q;obtain ⟨ps,hps,lps⟩:=sh.rg
 have lo:=sh.lo
 have hi:=sh.hi
 rw [List.getD_eq_getElem?_getD,hps,Option.getD_some] at q;obtain ⟨cc,hcc,ds,kds,ald⟩:=al.get hps
 have nu:=ca.nu
 obtain ⟨L,fl,hL⟩:=ca.nl
 have at1:yZ (cs.map V.ref) p=some (V.ref cc):=xI (n:=p.toNat) (by omega) (by rw [List.getElem?_map,hcc];rfl)
 refine ⟨_,rfl,_,_,rfl,fl,_,rfl,_,_,rfl,nu,RA1,_,_,_,rfl,rfl,kt.sq,at1,L,cc,_,_,rfl,hL,kds.sq,for_zipT (K:=K) (a:=L) (b:=cc) (xs:=ns.map V.int) (ys:=ds.map V.ref) (fun i σ H'=>∃ v v',σ=[some (.ref a),v,v']∧H'=H∧((ns.zip ps).take i).all (fun x=>inside x.1 x.2.1 x.2.2)=true)
  ⟨none,none,rfl,rfl,rfl⟩ (fun i σ H' ⟨_,_,_,e,_⟩=>by rw [e];exact ⟨hL,kds.sq,c,Kp.refl H⟩) (by rw [List.length_map,List.length_map,ald.len,lps]) ?_ ?_⟩
 ·rintro i x y σ H' hx hy ⟨v,v',rfl,rfl,hn⟩
  obtain ⟨z,hz,rfl⟩:=yB hx
  obtain ⟨d,hd,rfl⟩:=yB hy
  obtain ⟨pp,hpp,dp⟩:=ald.getA hd
  have zz:=tK hz hpp
  have i0:yZ [V.int pp.1,V.int pp.2] 0=some (V.int pp.1):=rfl
  have i1:yZ [V.int pp.1,V.int pp.2] 1=some (V.int pp.2):=rfl
  have dp1:SqT K H' d [.int pp.1,.int pp.2]:=dp.sq
  have fs:=yE zz
  have no:inside z pp.1 pp.2=false→∃ H2,Fg H' H' H2∧∃ H3,Fg H' H2 H3∧Q (.bl false) H3:=fun e=>by
   have : (ns.zip ps).all (fun x=>inside x.1 x.2.1 x.2.2)=false:=by
    rw [List.all_eq_false];exact ⟨_,List.mem_of_getElem? zz,by simp [e]⟩
   rw [this,Bool.false_and] at q;exact ⟨_,Fg.self c (Same.refl _),_,Fg.self c (Same.refl _),q⟩
  refine ⟨_,rfl,d,_,_,_,rfl,rfl,dp1,i0,_,rfl,_,_,rfl,rfl,_,rfl,?_⟩
  refine zR ?_ ?_
  ·intro h1
   refine ⟨_,rfl,d,_,_,_,rfl,rfl,dp1,i1,_,_,rfl,rfl,_,rfl,?_⟩
   by_cases z2:z≤pp.2
   ·rw [decide_eq_true z2]
    refine zR (b:=!true) (fun z=>absurd z (by decide)) fun _=>?_
    refine ⟨_,Fg.self c (Same.refl _),_,_,rfl,rfl,?_⟩
    rw [fs,List.all_append,hn,Bool.true_and];simp only [List.all_cons,List.all_nil,Bool.and_true];rw [wA,h1,decide_eq_true z2];rfl
   ·rw [decide_eq_false z2]
    refine zR (b:=!false) (fun _=>no ?_) fun z=>absurd z (by decide)
    rw [wA,decide_eq_false z2,Bool.and_false]
  ·intro h1
   refine ⟨_,rfl,?_⟩
   refine zR (b:=!false) (fun _=>no ?_) fun z=>absurd z (by decide)
   rw [wA,h1,Bool.false_and]
 ·rintro σ H' ⟨v,v',rfl,rfl,hn⟩
  have e1:(ns.zip ps).take (ns.map V.int).length=ns.zip ps:=List.take_of_length_le (by rw [List.length_zip,List.length_map];exact Nat.min_le_left ..)
  rw [e1] at hn;rw [hn,Bool.true_and] at q;refine ⟨_,rfl,a,p,ns,rows,rfl,c,ca,hl,fun e=>by rw [hk];exact sh.k21 e,by rw [hk];exact sh.k2,_,Fg.self c (Same.refl _),q⟩
def spWants (K:zF):Sp:=fun vs H Q _=>∃ (a:Addr) (p:Int) (ns:List Int) (rows:List (List Int)),vs=[.ref a]∧Clo H∧CallAt K H a p ns rows∧Q (.bl (decide (p≠0∧p≠1∧p≠21))) H
theorem sc_wants_park : zK ["call"] ["call"] (zE (z9 28)):=by walk_at "sc"
theorem ok_wants_park (T:Txt P w K mg):Dfn P w K mg base "wants_park" ["call"] [] 1 (spWants K):=by
 have nd:=sc_wants_park.nd
 refine T.d_wants_park.ok sc_wants_park (fun vs H Q E h=>?_) (fun f cdv A outer s H vs Q E hr h=>?_)
 ·obtain ⟨_,_,_,_,rfl,_⟩:=h;rfl
 obtain ⟨a,p,ns,rows,rfl,c,ca,q⟩:=h
 obtain ⟨RO,T_ROWS,kd⟩:=T.x_ROWS
 refine ⟨_,(zJ H (zD (zI (pe_cmp (pc_knotin (zZ K (pv 0)) (pgr T_ROWS)))))),?_⟩
 have e:(!(valV rowsD (.inl p)).isSome)=decide (p≠0∧p≠1∧p≠21):=by
  unfold valV rowsD
  by_cases h0:p=0
  ·subst h0;rfl
  by_cases h1:p=1
  ·subst h1;rfl
  by_cases h2:p=21
  ·subst h2;rfl
  rw [decide_eq_true ⟨h0,h1,h2⟩];have n0:¬ (Sum.inl 0:u8)=Sum.inl p:=fun e=>h0 (Sum.inl.inj e).symm
  have n1:¬ (Sum.inl 1:u8)=Sum.inl p:=fun e=>h1 (Sum.inl.inj e).symm
  have n2:¬ (Sum.inl 21:u8)=Sum.inl p:=fun e=>h2 (Sum.inl.inj e).symm
  simp [n0,n1,n2]
 refine ⟨_,rfl,_,_,rfl,ca.nu,RO,_,.inl p,rfl,rfl,kd,_,Fg.self c (Same.refl _),?_⟩
 rw [← e] at q;exact q
end
end My
namespace My
open PySem PySem.Spec PyProof.Rows L2
open Vbtpah (Says Log Reading Park Sensor Ride Rule Check)
def callF : List Str:=["number","numbers","rows"]
def spCall (C:Addr):Sp:=fun vs H Q _=>∃ (x dx:Addr) (v1 v2:V),vs=[.ref x,v1,v2]∧Clo H∧H x=some (.ins C dx [])∧∀ R,H R=none→Q .non (upd (upd H R (.lst [])) x (.ins C dx (xJ callF [v1,v2,.ref R] [])))
structure CallF (K:zF)(H:Hp)(Z:Addr→Prop)(a:Addr)(p:Int)(ns:List Int)(rows:List (List Int)):Prop where
 nu : Fld K H a "number" (.int p)
 nl : ∃ L,Z L∧Fld K H a "numbers" (.ref L)∧H L=some (.lst (ns.map V.int))
 rl : ∃ R bs,Z R∧Fld K H a "rows" (.ref R)∧H R=some (.lst (bs.map V.ref))∧(∀ b∈bs,Z b)∧All2 (fun b r=>H b=some (.lst (r.map V.int))) bs rows
theorem CallF.at_ {K:zF}{H:Hp}{Z:Addr→Prop}{a:Addr}{p:Int}{ns:List Int}{rows:List (List Int)}(h:CallF K H Z a p ns rows):CallAt K H a p ns rows :=
 ⟨h.nu,let ⟨L,_,f,e⟩:=h.nl;⟨L,f,SqL.of e⟩,let ⟨R,bs,_,f,e,_,al⟩:=h.rl;⟨R,bs,f,SqL.of e,al.mono fun _ _ q=>SqL.of q⟩⟩
theorem CallF.keep {K:zF}{H H':Hp}{Z:Addr→Prop}{a:Addr}{p:Int}{ns:List Int}{rows:List (List Int)}(h:CallF K H Z a p ns rows)(k:FK K H H')(s:∀ b o,Z b→H b=some o→H' b=some o):CallF K H' Z a p ns rows :=
 ⟨k _ _ _ h.nu,let ⟨L,n,f,e⟩:=h.nl;⟨L,n,k _ _ _ f,s _ _ n e⟩,let ⟨R,bs,n,f,e,nb,al⟩:=h.rl;⟨R,bs,n,k _ _ _ f,s _ _ n e,nb,al.len,fun i b r hb hr=>s _ _ (nb b (List.mem_of_getElem? hb)) (al.at_ i b r hb hr)⟩⟩
theorem CallF.weak {K:zF}{H:Hp}{Z Y:Addr→Prop}{a:Addr}{p:Int}{ns:List Int}{rows:List (List Int)}(h:CallF K H Z a p ns rows)(w:∀ b,Z b→Y b):CallF K H Y a p ns rows :=
 ⟨h.nu,let ⟨L,n,f,e⟩:=h.nl;⟨L,w _ n,f,e⟩,let ⟨R,bs,n,f,e,nb,al⟩:=h.rl;⟨R,bs,w _ n,f,e,fun b hb=>w _ (nb b hb),al⟩⟩
def CF (K:zF)(H:Hp)(Z:Addr→Prop)(a:Addr)(c:List (List Int)):Prop:=∃ p ns rows,c=(p::ns)::rows∧CallF K H Z a p ns rows
def Zf (H0:Hp)(F b:Addr):Prop:=b≠F∧H0 b=none
theorem cut_mid (xs:List V)(a b:Nat)(h1:a≤b)(h2:b≤xs.length):tU xs (some (a:Int)) (some (b:Int))=(xs.drop a).take (b - a):=by
 unfold tU;rw [HT.sIx_nat,HT.sIx_nat,Nat.min_eq_left h2,Nat.min_eq_left (Nat.le_trans h1 h2)]
section
variable {P:Program}{w:World}{K:zF}{mg:Str→Option Value}{base:Heap}{tb:Addr}
theorem sc_Call : zK ["self","number","numbers"] ["self","number","numbers"] (zE (yY (z9 20) 0)):=by walk_at "sc"
theorem mk_Call (T:Txt P w K mg):∃ C,Mkr P w K mg base "Call" C ["self","number","numbers"] 1 (spCall C)∧Cls K C∧∀ y∈(["number","numbers","rows"]:List Str),NoAttr K C y:=by
 have nd:=sc_Call.nd
 refine ClsOk.ok (P:=P) (w:=w) (base:=base) (k:=0) (sp:=spCall) T.c_Call sc_Call (fun C vs H Q E h=>?_) (fun C f cdv A outer s H vs Q E cl na hr h=>?_)
 ·obtain ⟨x,dx,v1,v2,rfl,_⟩:=h;rfl
 obtain ⟨x,dx,v1,v2,rfl,c,hx,q⟩:=h
 refine ⟨_,(zJ H (zB (xB K (pv 0) (pv 1)) (zB (xB K (pv 0) (pv 2)) (zD (xB K (pv 0) (zT zC)))))),?_⟩
 have n1:=na "number" (by simp)
 have n2:=na "numbers" (by simp)
 have n3:=na "rows" (by simp)
 refine ⟨_,rfl,_,rfl,x,C,dx,_,rfl,hx,cl,n1,yF,?_⟩
 refine ⟨_,rfl,_,rfl,x,C,dx,_,rfl,upd_same,cl,n2,yF,?_⟩
 rw [yQ];refine ⟨yF,fun R hR=>?_⟩
 have nx:x≠R:=zO upd_same hR
 have hR0:H R=none:=by rw [zH nx.symm] at hR;exact hR
 have e1:∀ fs gs,upd (upd (upd H x (.ins C dx fs)) R (.lst [])) x (.ins C dx gs)=upd (upd H R (.lst [])) x (.ins C dx gs):=fun fs gs=>by
  funext b
  by_cases h1:b=x
  ·subst h1;rw [upd_same,upd_same]
  ·rw [zH h1,zH h1]
   by_cases h2:b=R
   ·subst h2;rw [upd_same,upd_same]
   ·rw [zH h2,zH h2,zH h1]
 refine ⟨_,rfl,x,C,dx,_,rfl,by rw [zH nx];exact upd_same,cl,n3,yF,?_⟩
 rw [e1];have e2:(upd H R (.lst [])) x=some (.ins C dx []):=by rw [zH nx];exact hx
 exact ⟨_,⟨((Kp.refl H).new hR0).ins e2,(c.lstN hR0).insU e2,Same.refl _⟩,q R hR0⟩
theorem rows_len : ∀ {k:Nat} {r t:List Int} {xs:List (List Int)},PyFlat.rows k r=some (xs,t)→xs.length=k
 | 0,r,t,xs,h=>by rw [(M.rows_zero h).1];rfl
 | k+1,r,t,xs,h=>by
  obtain ⟨n,q,ys,_,_,_,h1,rfl⟩:=M.rows_succ h
  rw [List.length_cons,rows_len h1]
def spSplitC (K:zF):Sp:=fun vs H Q _=>∃ (L:Addr) (zs:List Int) (cs:List (List (List Int))),vs=[.ref L]∧Clo H∧SqL K H L (zs.map V.int)∧zs.length≤20000∧M.callsAt PyVbtpah.shape zs=some cs ∧
 ∀ H' D as,Same H H'→Clo H'→H D=none→H' D=some (.lst (as.map V.ref))→All2 (CF K H' fun b=>H b=none) as cs→Q (.ref D) H'
theorem drop_cons {α:Type}{l:List α}{n:Nat}(h:n < l.length):∃ x r,l.drop n=x::r∧l[n]? = some x∧r=l.drop (n+1) :=
 ⟨l[n],l.drop (n+1),List.drop_eq_getElem_cons h,by simp [h],rfl⟩
theorem sc_split_calls : zK ["calls","found","at","number","behind","call","start"] ["calls"] (zE (z9 21)):=by walk_at "sc"
theorem ok_split_calls (T:Txt P w K mg):Dfn P w K mg base "split_calls" ["calls"] [] 3 (spSplitC K):=by
 have nd:=sc_split_calls.nd
 refine T.d_split_calls.ok sc_split_calls (fun vs H Q E h=>?_) (fun f cdv A outer s H vs Q E hr h=>?_)
 ·obtain ⟨_,_,_,rfl,_⟩:=h;rfl
 obtain ⟨L,zs,cs,rfl,c,hL,lim,hc,q⟩:=h
 obtain ⟨RA1,rcs,T_RANGES,kt,al⟩:=T.x_RANGES
 obtain ⟨RO,T_ROWS,kd⟩:=T.x_ROWS
 obtain ⟨C_Call,M_Call,cl,na⟩:=mk_Call (P:=P) (w:=w) (base:=base) T
 refine ⟨_,(zJ H (zB (zL (i:=1) nd rfl (Or.inl rfl) (zT zC)) (zB (zL (i:=2) nd rfl (Or.inl rfl) zG) (zB (ps_while PassesOwn.never (zP op_lt (pv 2) (zU (xS K) rfl T.b_len yD (zA (pv 0) zC)) (zN _)) (zJ H (zB (zL (i:=3) nd rfl (Or.inl rfl) (zY (yI K) (pv 0) (pv 2) (fun _ _=>rfl))) (zB (zX (xG (uQ wJ op_lt zG (pv 3) (zU (xS K) rfl T.b_len yD (zA (pgr T_RANGES) zC)))) (zD ps_never) zM) (zB (zL (i:=4) nd rfl (Or.inl rfl) (yG vJ (yG vJ (pv 2) zG) (zU (xS K) rfl T.b_len yD (zA (zY (ixTK K) (pgr T_RANGES) (pv 3) (fun _ _=>rfl)) zC)))) (zB (zL (i:=5) nd rfl (Or.inl rfl) (pe_mk M_Call (hr.mono (by decide)) (zA (pv 3) (zA (uR (slK K) (pv 0) (uE (yG vJ (pv 2) zG)) (uE (pv 4))) zC)))) (zB (ps_while PassesOwn.never (zP op_lt (zU (xS K) rfl T.b_len yD (zA (zZ K (pv 5)) zC)) (pe_kget2 (pgr T_ROWS) (pv 3) zG ⟨rfl,rfl,rfl,rfl⟩) (zN _)) (zJ H (zB (zL (i:=6) nd rfl (Or.inl rfl) (yG vJ (pv 4) zG)) (zB (zL (i:=4) nd rfl (Or.inl rfl) (yG vJ (pv 6) (zY (yI K) (pv 0) (pv 4) (fun _ _=>rfl)))) (zD (yL (bmK K PySem.F.plainAttrs_list PySem.F.slot_list_append PySem.F.type_list_append yM (zZ K (pv 5)) (zA (uR (slK K) (pv 0) (uE (pv 6)) (uE (pv 4))) zC)))))))) (zB (yL (bmK K PySem.F.plainAttrs_list PySem.F.slot_list_append PySem.F.type_list_append yM (pv 1) (zA (pv 5) zC))) (zD (zL (i:=2) nd rfl (Or.inl rfl) (pv 4))))))))))) (zD (zI (pv 1))))))),?_⟩
 have sz:(100000:Nat) < sizeLine:=by decide
 refine ⟨yF,fun F hF=>?_⟩
 refine ⟨fun m σ H'=>∃ (at_:Nat) (v3 v4 v5 v6:Option V) (cs1 rest:List (List (List Int))) (as:List Addr),m=zs.length - at_∧at_≤zs.length∧σ=[some (.ref L),some (.ref F),some (.int (at_:Int)),v3,v4,v5,v6]∧Same H H'∧Clo H'∧H' F=some (.lst (as.map V.ref))∧All2 (CF K H' (Zf H F)) as cs1 ∧
   M.callsAt PyVbtpah.shape (zs.drop at_)=some rest∧cs=cs1++rest∧cs1.length≤at_,⟨_,0,none,none,none,none,[],cs,[],rfl,Nat.zero_le _,rfl,Same.new hF,c.lstN hF,upd_same,All2.nil,hc,rfl,Nat.le_refl _⟩,?_⟩
 rintro m σ H' ⟨a0,v3,v4,v5,v6,cs1,rest,as,rfl,ha0,rfl,s1,c1,hf,hcs,hr1,rfl,lcs⟩
 have hL1:=SqL.monoT hL s1.t
 refine ⟨_,rfl,_,rfl,L,_,rfl,.inl hL1,_,_,rfl,rfl,_,rfl,?_⟩
 rw [List.length_map];refine zR ?_ ?_
 ·intro h1
  have z1:a0 < zs.length:=by have:=of_decide_eq_true h1;omega
  obtain ⟨p,r,hd,hp,rfl⟩:=drop_cons z1
  rw [hd] at hr1;obtain ⟨n,k,xs,t,rest',hsh,hn,hrows,hrest,rfl⟩:=M.callsAt_cons hr1
  have sh:=shp hsh
  rw [List.length_drop] at hn;have lo:=sh.lo
  have hi:=sh.hi
  obtain ⟨ps,hps,lps⟩:=sh.rg
  obtain ⟨cc,hcc,ds,kds,ald⟩:=al.get hps
  have atp:yZ (zs.map V.int) (a0:Int)=some (.int p):=xI (n:=a0) rfl (by rw [List.getElem?_map,hp];rfl)
  have atr:yZ (rcs.map V.ref) p=some (V.ref cc):=xI (n:=p.toNat) (by omega) (by rw [List.getElem?_map,hcc];rfl)
  refine ⟨fun σ' H2=>∃ (at_:Nat) (v3 v4 v5 v6:Option V) (cs2 rest:List (List (List Int))) (as:List Addr),a0 < at_∧at_≤zs.length∧σ'=[some (.ref L),some (.ref F),some (.int (at_:Int)),v3,v4,v5,v6]∧Same H H2∧Clo H2∧H2 F=some (.lst (as.map V.ref))∧All2 (CF K H2 (Zf H F)) as cs2 ∧
   M.callsAt PyVbtpah.shape (zs.drop at_)=some rest∧cs1++((p::List.take n (zs.drop (a0+1)))::xs)::rest'=cs2++rest∧cs2.length≤at_,?_,?_⟩
  ·rintro σ' H2 ⟨at_,w3,w4,w5,w6,cs2,rst,as2,h1,h2,rfl,h4,h5,h6,h7,h8,h9,h10⟩
   exact ⟨zs.length - at_,by omega,at_,w3,w4,w5,w6,cs2,rst,as2,rfl,h2,rfl,h4,h5,h6,h7,h8,h9,h10⟩
  refine ⟨_,rfl,_,rfl,L,_,_,_,rfl,rfl,hL1,atp,?_⟩
  refine ⟨_,rfl,_,_,rfl,rfl,_,rfl,?_⟩
  rw [decide_eq_true lo];refine zR (b:=true) (fun _=>?_) fun z=>nomatch z
  refine ⟨RA1,_,rfl,.inr kt.sq,_,_,rfl,rfl,_,rfl,?_⟩
  rw [List.length_map,al.len,show decide (p < (ranges.length:Int))=true from decide_eq_true hi];refine zR (b:=!true) (fun z=>absurd z (by decide)) fun _=>?_
  refine ⟨_,rfl,_,_,rfl,rfl,_,rfl,RA1,_,_,_,rfl,rfl,kt.sq,atr,cc,_,rfl,.inr kds.sq,_,_,rfl,rfl,?_⟩
  rw [List.length_map,ald.len,lps];have lz:(zs.map V.int).length=zs.length:=List.length_map ..
  have cut:tU (zs.map V.int) (some ((a0:Int)+1)) (some ((a0:Int)+1+(n:Int)))=((zs.drop (a0+1)).take n).map V.int:=by
   rw [show (a0:Int)+1+(n:Int)=((a0+1+n:Nat):Int) by omega,show (a0:Int)+1=((a0+1:Nat):Int) by omega,cut_mid _ _ _ (by omega) (by omega),List.map_take,List.map_drop,show a0+1+n - (a0+1)=n by omega]
  refine ⟨_,rfl,_,rfl,_,rfl,_,_,rfl,rfl,_,rfl,_,rfl,_,rfl,L,_,rfl,hL1,fun S1 hS1=>?_⟩
  rw [cut];have n1:=Same.new (o:=.lst (((zs.drop (a0+1)).take n).map V.int)) hS1
  have c2:Clo (upd H' S1 (.lst (((zs.drop (a0+1)).take n).map V.int))):=c1.lstN hS1
  have x1:(upd H' S1 (.lst (((zs.drop (a0+1)).take n).map V.int))) S1=some (.lst (((zs.drop (a0+1)).take n).map V.int)):=upd_same
  generalize upd H' S1 (.lst (((zs.drop (a0+1)).take n).map V.int))=H2 at n1 c2 x1 ⊢
  refine fun y dy hy hd hn=>⟨y,dy,_,_,rfl,c2.insN hy hd hn,upd_same,fun R hR=>⟨rfl,?_⟩⟩
  have nyR:y≠R:=zO upd_same hR
  have hR2:H2 R=none:=yJ (xZ hy hd) hR
  have n2:Same H2 (upd (upd (upd (upd H2 dy (.own y)) y (.ins C_Call dy [])) R (.lst [])) y (.ins C_Call dy (xJ callF [.int p,.ref S1,.ref R] []))):=(((xZ hy hd).trans (Same.new hR))).put hy
  have c3:Clo (upd (upd (upd (upd H2 dy (.own y)) y (.ins C_Call dy [])) R (.lst [])) y (.ins C_Call dy (xJ callF [.int p,.ref S1,.ref R] []))):=((c2.insN hy hd hn).lstN hR).insU (C:=C_Call) (dx:=dy) (fs:=[]) (by rw [zH nyR];exact upd_same)
  have x2:(upd (upd (upd (upd H2 dy (.own y)) y (.ins C_Call dy [])) R (.lst [])) y (.ins C_Call dy (xJ callF [.int p,.ref S1,.ref R] []))) R=some (.lst []):=by rw [zH nyR.symm];exact upd_same
  have x3:(upd (upd (upd (upd H2 dy (.own y)) y (.ins C_Call dy [])) R (.lst [])) y (.ins C_Call dy (xJ callF [.int p,.ref S1,.ref R] []))) y=some (.ins C_Call dy (xJ callF [.int p,.ref S1,.ref R] [])):=upd_same
  generalize upd (upd (upd (upd H2 dy (.own y)) y (.ins C_Call dy [])) R (.lst [])) y (.ins C_Call dy _)=H3 at n2 c3 x2 x3 ⊢
  have hf2:=n1 _ _ hf
  have nSF:S1≠F:=fun e=>by rw [e,hf] at hS1;cases hS1
  have nRF:R≠F:=fun e=>by rw [e,hf2] at hR2;cases hR2
  have nyF:y≠F:=fun e=>by rw [e,hf2] at hy;cases hy
  have xl:=rows_len hrows
  refine ⟨fun m σ H4=>∃ (j b:Nat) (bi:Int) (w6:Option V) (bs:List Addr),m=k - j∧j≤k∧σ=[some (.ref L),some (.ref F),some (.int (a0:Int)),some (.int p),some (.int bi),some (.ref y),w6]∧bi=(b:Int)∧b≤zs.length∧a0+1≤b∧Same H2 H4∧Clo H4 ∧
    H4 y=some (.ins C_Call dy (xJ callF [.int p,.ref S1,.ref R] []))∧H4 R=some (.lst (bs.map V.ref))∧(∀ b∈bs,Zf H F b∧b≠R)∧All2 (fun b r=>H4 b=some (.lst (r.map V.int))) bs (xs.take j)∧PyFlat.rows (k - j) (zs.drop b)=some (xs.drop j,t),
   ⟨_,0,a0+1+n,_,_,[],rfl,Nat.zero_le _,rfl,by omega,by omega,by omega,n2,c3,x3,x2,by simp,All2.nil,by rw [List.drop_drop] at hrows;exact hrows⟩,?_⟩
  rintro m σ H4 ⟨j,b,bi,w6,bs,rfl,hj,rfl,rfl,hb,hab,s4,c4,y4,r4,nb,hbs,hrw⟩
  have fR:Fld K H4 y "rows" (.ref R):=⟨_,_,_,y4,cl,na _ (by simp),rfl⟩
  have S4:Same H H4:=(s1.trans n1).trans s4
  have hL4:=SqL.monoT hL S4.t
  have lb:bs.length=j:=by rw [hbs.len,List.length_take];omega
  refine ⟨_,rfl,_,_,rfl,fR,R,_,rfl,.inl (SqL.of r4),RO,_,rfl,kd,_,rfl,.inl p,rfl,_,_,rfl,sh.rw_,_,rfl,?_⟩
  rw [List.length_map,lb];refine zR ?_ ?_
  ·intro g1
   have z3:j < k:=by have:=of_decide_eq_true g1;omega
   obtain ⟨k',hk'⟩:∃ k',k - j=k'+1:=⟨k - j - 1,by omega⟩
   rw [hk'] at hrw;obtain ⟨n1',q1,ys,hd1,h0,h1',hrw',hxs⟩:=M.rows_succ hrw
   have ltb:b < zs.length:=by
    have:=congrArg List.length hd1
    rw [List.length_drop,List.length_cons] at this;omega
   obtain ⟨pp,rr,hd2,hp2,rfl⟩:=drop_cons ltb
   rw [hd1] at hd2;cases hd2;rw [List.length_drop] at h1';refine ⟨fun σ' H5=>∃ (b':Nat) (bi:Int) (w6:Option V) (bs:List Addr),σ'=[some (.ref L),some (.ref F),some (.int (a0:Int)),some (.int p),some (.int bi),some (.ref y),w6]∧bi=(b':Int)∧b'≤zs.length∧a0+1≤b'∧Same H2 H5∧Clo H5 ∧
    H5 y=some (.ins C_Call dy (xJ callF [.int p,.ref S1,.ref R] []))∧H5 R=some (.lst (bs.map V.ref))∧(∀ b∈bs,Zf H F b∧b≠R)∧All2 (fun b r=>H5 b=some (.lst (r.map V.int))) bs (xs.take (j+1))∧PyFlat.rows (k - (j+1)) (zs.drop b')=some (xs.drop (j+1),t),?_,?_⟩
   ·rintro σ' H5 ⟨b',bi,w6,bs',rfl,e1,e2,e3,e4,e5,e6,e7,e8,e9,e10⟩
    exact ⟨k - (j+1),by omega,j+1,b',bi,w6,bs',rfl,z3,rfl,e1,e2,e3,e4,e5,e6,e7,e8,e9,e10⟩
   have atb:yZ (zs.map V.int) (b:Int)=some (.int n1'):=xI (n:=b) rfl (by rw [List.getElem?_map,hp2];rfl)
   have cut2:tU (zs.map V.int) (some ((b:Int)+1)) (some ((b:Int)+1+n1'))=((zs.drop (b+1)).take n1'.toNat).map V.int:=by
    rw [show (b:Int)+1+n1'=((b+1+n1'.toNat:Nat):Int) by omega,show (b:Int)+1=((b+1:Nat):Int) by omega,cut_mid _ _ _ (by omega) (by omega),List.map_take,List.map_drop,show b+1+n1'.toNat - (b+1)=n1'.toNat by omega]
   refine ⟨_,rfl,_,_,rfl,rfl,?_⟩
   refine ⟨_,rfl,_,rfl,_,rfl,L,_,_,_,rfl,rfl,hL4,atb,_,_,rfl,rfl,?_⟩
   refine ⟨_,rfl,_,_,rfl,fR,.inl ⟨rfl,_,SqL.of r4⟩,_,rfl,_,rfl,_,rfl,_,rfl,_,rfl,L,_,rfl,hL4,fun S2 hS2=>?_⟩
   rw [cut2];have n5:=Same.new (o:=.lst (((zs.drop (b+1)).take n1'.toNat).map V.int)) hS2
   have r5:=n5 _ _ r4
   have nS2R:S2≠R:=fun e=>by rw [e,r4] at hS2;cases hS2
   have hR0:H R=none:=yJ (s1.trans n1) hR2
   refine ⟨R,_,_,rfl,rfl,r5,by rw [List.length_map];have:=sh.k2;omega,?_⟩
   have c5:Clo (upd (upd H4 S2 (.lst (((zs.drop (b+1)).take n1'.toNat).map V.int))) R (.lst (bs.map V.ref++[V.ref S2]))):=(c4.lstN hS2).lstU r5
   have s5:Same H (upd (upd H4 S2 (.lst (((zs.drop (b+1)).take n1'.toNat).map V.int))) R (.lst (bs.map V.ref++[V.ref S2]))):=(S4.trans n5).put hR0
   refine ⟨_,⟨Kp.of s5,c5,Same.refl _⟩,b+1+n1'.toNat,_,_,bs++[S2],rfl,by omega,by omega,by omega,(s4.trans n5).put hR2,c5,?_,by rw [upd_same,List.map_append];rfl,?_,?_,?_⟩
   ·rw [zH nyR];exact n5 _ _ y4
   ·intro b1 hb1
    rcases List.mem_append.mp hb1 with hb1 | hb1
    ·exact nb b1 hb1
    ·rw [List.mem_singleton.mp hb1]
     exact ⟨⟨fun e=>(by rw [e,s4 _ _ hf2] at hS2;cases hS2),yJ S4 hS2⟩,nS2R⟩
   ·have hxj:xs[j]? = some ((zs.drop (b+1)).take n1'.toNat):=by
     have:=congrArg (fun l=>l[0]?) hxs
     simpa using this
    rw [yE hxj];refine All2.snoc ⟨hbs.len,fun i b1 r1 hb1 hr1=>?_⟩ ?_
    ·rw [zH (nb b1 (List.mem_of_getElem? hb1)).2];exact n5 _ _ (hbs.at_ i b1 r1 hb1 hr1)
    ·rw [zH nS2R];exact upd_same
   ·rw [show k - (j+1)=k' by omega]
    have e1:xs.drop (j+1)=ys:=by
     have:=congrArg List.tail hxs
     rw [List.tail_drop] at this;exact this
    rw [e1,← List.drop_drop,← hrw']
  ·intro g1
   have z3:j=k:=by have:=of_decide_eq_false g1;omega
   subst z3;rw [Nat.sub_self] at hrw;obtain ⟨hx0,ht⟩:=M.rows_zero hrw
   rw [List.take_of_length_le (by omega)] at hbs;have f4:=s4 _ _ hf2
   have hF0:H F=none:=hF
   have FKs:FK K H4 (upd H4 F (.lst (as.map V.ref++[V.ref y]))):=fun a f v h=>h.put fun C dx fs e=>(by rw [f4] at e;cases e)
   have KPs:∀ b o,Zf H F b→H4 b=some o→(upd H4 F (.lst (as.map V.ref++[V.ref y]))) b=some o:=fun b o nb e=>by rw [zH nb.1];exact e
   have cfy:CallF K H4 (Zf H F) y p (List.take n (zs.drop (a0+1))) xs:=⟨⟨_,_,_,y4,cl,na _ (by simp),rfl⟩,⟨S1,⟨nSF,yJ s1 hS1⟩,⟨_,_,_,y4,cl,na _ (by simp),rfl⟩,s4 _ _ x1⟩,⟨R,bs,⟨nRF,yJ (s1.trans n1) hR2⟩,fR,r4,fun b hb=>(nb b hb).1,hbs⟩⟩
   refine ⟨_,rfl,.inl ⟨rfl,_,SqL.of f4⟩,_,rfl,F,_,_,rfl,rfl,f4,by rw [List.length_map,hcs.len];omega,?_⟩
   have s6:Same H (upd H4 F (.lst (as.map V.ref++[V.ref y]))):=S4.put hF0
   refine ⟨_,rfl,_,⟨Kp.of s6,c4.lstU f4,Same.refl _⟩,b,_,_,_,_,cs1++[(p::List.take n (zs.drop (a0+1)))::xs],rest',as++[y],by omega,hb,rfl,s6,c4.lstU f4,by rw [upd_same,List.map_append];rfl,?_,?_,by rw [List.append_assoc];rfl,by rw [List.length_append];simp;omega⟩
   ·refine All2.snoc (hcs.mono fun a c ⟨p1,ns1,rw1,e1,h1⟩=>⟨p1,ns1,rw1,e1,(h1.keep (FK.of (n1.trans s4).t) fun b o _ e=>s4 _ _ (n1 _ _ e)).keep FKs KPs⟩) ⟨p,_,xs,rfl,cfy.keep FKs KPs⟩
   ·rw [← ht];exact hrest
 ·intro h1
  have z1:¬ a0 < zs.length:=by have:=of_decide_eq_false h1;omega
  have e0:zs.drop a0=[]:=List.drop_of_length_le (by omega)
  rw [e0] at hr1;cases hr1;refine ⟨_,rfl,_,⟨Kp.of s1,c1,Same.refl _⟩,q H' F as s1 c1 hF hf ?_⟩
  rw [List.append_nil];exact hcs.mono fun _ _ ⟨p,ns,rows,e,h⟩=>⟨p,ns,rows,e,h.weak fun _ z=>z.2⟩
end
end My
namespace My
open PySem PySem.Spec PyProof.Rows L2
open Vbtpah (Says Log Reading Park Sensor Ride Rule Check)
def vN : List Str:=["plan","minute","entries"]
structure Pk where
 pk : Addr
 le : Addr
 C : Addr
 dx : Addr
 tw : Addr
def wP (k:Pk)(v:V)(now:Nat):List (Str×V):=xJ vN [v,.int (now:Int),.ref k.le] []
def Apart (le:Addr)(d:Pa):Prop:=d.l1≠le∧d.l2≠le∧d.l3≠le∧d.l4≠le
def PlOk (K:zF)(H:Hp)(k:Pk)(v:V):Option Park→Prop
 | none=>v = .non
 | some p=>∃ d:Pa,v = .ref d.pl∧PlanM K H d p 0 0∧Wf p∧Apart k.le d∧Apart k.tw d
theorem PlanM.app {K:zF}{H H':Hp}{d:Pa}{p:Park}{wr wl:Int}{le:Addr}{xs:List V}(m:PlanM K H d p wr wl)(hle:H le=some (.lst xs))(k:FK K H H')(s:∀ b o,b≠le→H b=some o→H' b=some o)(ap:Apart le d):PlanM K H' d p wr wl :=
 ⟨s _ _ (xD m.ob hle (by intro z;cases z)) m.ob,m.cl,m.na,m.nd,m.m1.keep k (fun o e=>s _ _ ap.1 e) fun _ _ q=>q.fk k,m.m2.keep k (fun o e=>s _ _ ap.2.1 e) fun _ _ q=>q.fk k,m.m3.keep k (fun o e=>s _ _ ap.2.2.1 e) fun _ _ q=>q.fk k,m.m4.keep k (fun o e=>s _ _ ap.2.2.2 e) fun _ _ q=>q.fk k⟩
structure StAt (K:zF)(H:Hp)(k:Pk)(s:Vbtpah.State):Prop where
 pl : ∃ v,H k.pk=some (.ins k.C k.dx (wP k v s.now))∧PlOk K H k v s.park
 cl : Cls K k.C
 na : ∀ y∈vN,NoAttr K k.C y
 en : ∃ as:List Addr,H k.le=some (.lst (as.map V.ref))∧All2 (EntAt K H) as s.log
 ok : M.LogOk s.log
 n250 : s.log.length≤250
 mn : s.now≤1000000
 tw : (∃ xs,H k.tw=some (.lst xs))∧k.tw≠k.le
structure Fr (k:Pk)(tb:Addr)(H H':Hp):Prop where
 s : ∀ b o,b≠k.pk→b≠k.le→H b=some o→(∀ ps,o≠.tbl ps)→H' b=some o
 k : Kp H H'
 c : Clo H'
 b : TabOk tb H'
section
variable {K:zF}{H H':Hp}{k:Pk}{s:Vbtpah.State}{tb:Addr}
theorem StAt.mono (h:StAt K H k s)(t:SameT H H'):StAt K H' k s:=by
 refine ⟨?_,h.cl,h.na,?_,h.ok,h.n250,h.mn,⟨let ⟨xs,e⟩:=h.tw.1;⟨xs,t _ _ e (fun _ z=>nomatch z)⟩,h.tw.2⟩⟩
 ·obtain ⟨v,h1,h2⟩:=h.pl
  refine ⟨v,t _ _ h1 (fun _ z=>nomatch z),?_⟩
  cases e:s.park with
  | none=>rw [e] at h2;exact h2
  | some p=>rw [e] at h2;obtain ⟨d,a,b,c,ap⟩:=h2;exact ⟨d,a,b.mono t,c,ap⟩
 ·obtain ⟨as,h1,h2⟩:=h.en
  exact ⟨as,t _ _ h1 (fun _ z=>nomatch z),h2.mono fun _ _ q=>q.mono t⟩
theorem StAt.lstU {ys:List V}(h:StAt K H k s):StAt K (upd H k.tw (.lst ys)) k s:=by
 obtain ⟨⟨xs,hw⟩,nw⟩:=h.tw
 have fk:FK K H (upd H k.tw (.lst ys)):=fun a f v e=>e.put fun C dx fs z=>(by rw [hw] at z;cases z)
 have ot:∀ b o,b≠k.tw→H b=some o→(upd H k.tw (.lst ys)) b=some o:=fun b o n e=>by rw [zH n];exact e
 refine ⟨?_,h.cl,h.na,?_,h.ok,h.n250,h.mn,⟨_,upd_same⟩,nw⟩
 ·obtain ⟨v,h1,h2⟩:=h.pl
  refine ⟨v,ot _ _ (xD h1 hw (by intro z;cases z)) h1,?_⟩
  cases e:s.park with
  | none=>rw [e] at h2;exact h2
  | some p=>rw [e] at h2;obtain ⟨d,a,b,c,ap⟩:=h2;exact ⟨d,a,b.app hw fk ot ap.2,c,ap⟩
 ·obtain ⟨as,h1,h2⟩:=h.en
  exact ⟨as,ot _ _ nw.symm h1,h2.mono fun _ _ q=>q.fk fk⟩
theorem StAt.log (h:StAt K H k s):LogAt K H k.le s.log:=let ⟨as,h1,h2⟩:=h.en;⟨as,SqL.of h1,h2⟩
theorem StAt.f2 (h:StAt K H k s):Fld K H k.pk "minute" (.int (s.now:Int)):=let ⟨_,h1,_⟩:=h.pl;⟨_,_,_,h1,h.cl,h.na _ (by simp [vN]),rfl⟩
theorem StAt.f3 (h:StAt K H k s):Fld K H k.pk "entries" (.ref k.le):=let ⟨_,h1,_⟩:=h.pl;⟨_,_,_,h1,h.cl,h.na _ (by simp [vN]),rfl⟩
theorem StAt.f1 (h:StAt K H k s){p:Park}(e:s.park=some p):∃ d:Pa,Fld K H k.pk "plan" (.ref d.pl)∧PlanM K H d p 0 0∧Wf p:=by
 obtain ⟨v,h1,h2⟩:=h.pl
 rw [e] at h2;obtain ⟨d,rfl,a,b,_⟩:=h2
 exact ⟨d,⟨_,_,_,h1,h.cl,h.na _ (by simp [vN]),rfl⟩,a,b⟩
theorem StAt.f0 (h:StAt K H k s)(e:s.park=none):Fld K H k.pk "plan" .non:=by
 obtain ⟨v,h1,h2⟩:=h.pl
 rw [e] at h2;obtain rfl:v = .non:=h2
 exact ⟨_,_,_,h1,h.cl,h.na _ (by simp [vN]),rfl⟩
theorem Fr.of (l:Lv tb H H'):Fr k tb H H':=⟨fun b o _ _ e n=>l.s b o e n,l.k,l.c,l.b⟩
theorem Fr.trans {H2:Hp}(a:Fr k tb H H')(b:Fr k tb H' H2):Fr k tb H H2:=⟨fun c o n1 n2 e n=>b.s c o n1 n2 (a.s c o n1 n2 e n) n,a.k.trans b.k,b.c,b.b⟩
end
abbrev sayF : List Str:=["written","kind","about","told","third","fourth"]
def uB (K:zF)(tb:Addr):Sp:=fun vs H Q _=>∃ (k:Pk) (s:Vbtpah.State) (x:Says),vs=[.ref k.pk,.int (kd x),.int (ab x:Int),.int (td x:Int),.int (th x:Int),.int (fo x:Int)]∧Clo H∧TabOk tb H∧StAt K H k s∧M.EntryOk s.log ⟨s.now,x⟩ ∧
 (250≤s.log.length→∀ D,H D=none→Q (.ref D) (upd H D (.lst [.int (-4)]))) ∧
 (s.log.length < 250→∀ H1 D,Fr k tb H H1→StAt K H1 k {s with log:=s.log++[⟨s.now,x⟩]}→H D=none→H1 D=none→Q (.ref D) (upd H1 D (.lst [.int 0,.int ((s.log.length:Int)+1)])))
section
variable {P:Program}{w:World}{K:zF}{mg:Str→Option Value}{base:Heap}{tb:Addr}
theorem DefD.ok {x:Str}{st:Stmt}{N ps:List Str}{ds:List V}{k:Nat}{sp:Sp}(D:DefD K mg x st ps ds)(S:zK N ps (zE st))(len:∀ vs H Q E,sp vs H Q E→vs.length=ps.length)
  (hbody:∀ (f:Addr) (cdv:Value) (A:Around) (outer:List Env) (s:Shared) (H:Hp) (vs:List V) (Q:VK) (E:XK),Room k (A.deeper (envOfC x (zE st) s.heap.objs.size f cdv))→sp vs H Q E →
   ∃ t,PSs (tT CX0 P w K mg base N x (zE st) f cdv A outer s H E).nox (xP st) t∧t {nx:=fun _ H'=>Q .non H',rt:=Q} (start N vs) H):∀ n,n≤ds.length→Dfn P w K mg base x ps (ds.drop n) (k+1) sp:=by
 intro n hn
 obtain ⟨f,fd,oc,od,dV,kV,doc,pm,an,cdv,ct,osl,h1,rfl,lk,hcd,kp,hb⟩:=D
 obtain ⟨dv,hb1,hb2⟩:=hb n hn
 refine ⟨f,_,dv,fn_of lk hcd S len fun A outer s H vs Q E hr hsp=>?_,h1,kp,hb1,hb2⟩
 obtain ⟨t,h,q⟩:=hbody f cdv A outer s H vs Q E hr hsp
 exact ⟨t,h.nox,q⟩
theorem sc_write_entry : zK ["park","kind","about","told","third","fourth"] ["park","kind","about","told","third","fourth"] (zE (z9 154)):=by walk_at "sc"
theorem wr_all (T:Txt P w K mg):∀ n,n≤3→Dfn P w K mg base "write_entry" ["park","kind","about","told","third","fourth"] ([V.int 0,V.int 0,V.int 0].drop n) 3 (uB K tb):=by
 have nd:=sc_write_entry.nd
 refine DefD.ok T.d_write_entry sc_write_entry (fun vs H Q E h=>?_) (fun f cdv A outer s H vs Q E hr h=>?_)
 ·obtain ⟨_,_,_,rfl,_⟩:=h;rfl
 obtain ⟨k,st,x,rfl,c,tt,sa,eo,q1,q2⟩:=h
 obtain ⟨C_Entry,M_Entry,cl,na⟩:=mk_Entry (P:=P) (w:=w) (base:=base) T
 refine ⟨_,(zJ H (zB (zX (zP t5 (zU (xS K) rfl T.b_len yD (zA (zZ K (pv 0)) zC)) (yW T.g_MOST_ENTRIES) (zN _)) (zD (zI (zT (zA (yW T.g_ENTRIES_FULL) zC)))) zM) (zB (yL (bmK K PySem.F.plainAttrs_list PySem.F.slot_list_append PySem.F.type_list_append yM (zZ K (pv 0)) (zA (pe_mk M_Entry (hr.mono (by decide)) (zA (zZ K (pv 0)) (zA (pv 1) (zA (pv 2) (zA (pv 3) (zA (pv 4) (zA (pv 5) zC))))))) zC))) (zD (zI (zT (zA zG (zA (zU (xS K) rfl T.b_len yD (zA (zZ K (pv 0)) zC)) zC)))))))),?_⟩
 have f2:=sa.f2
 have f3:=sa.f3
 obtain ⟨as,hle,hal⟩:=sa.en
 have sz:(1000:Nat) < sizeLine:=by decide
 have n250:=sa.n250
 refine ⟨_,rfl,_,_,rfl,f3,k.le,_,rfl,.inl (SqL.of hle),_,_,rfl,rfl,_,rfl,?_⟩
 rw [List.length_map,hal.len];refine zR ?_ ?_
 ·intro h1
  have z1:250≤st.log.length:=by have:=of_decide_eq_true h1;omega
  refine ⟨yF,fun D hD=>⟨_,⟨(Kp.refl H).new hD,c.lstN hD,Same.refl _⟩,q1 z1 D hD⟩⟩
 intro h1
 have z1:st.log.length < 250:=by have:=of_decide_eq_false h1;omega
 refine ⟨_,rfl,_,_,rfl,f3,.inl ⟨rfl,_,SqL.of hle⟩,_,rfl,_,_,rfl,f2,_,rfl,_,rfl,_,rfl,_,rfl,_,rfl,fun y dy hy hd hn=>?_⟩
 refine ⟨y,dy,_,rfl,rfl,c.insN hy hd hn,upd_same,rfl,?_⟩
 rw [yQ];obtain ⟨e1,gr,fl⟩:=grown (K:=K) (C:=C_Entry) (fs:=xJ sayF ([.int (st.now:Int),.int (kd x),.int (ab x:Int),.int (td x:Int),.int (th x:Int),.int (fo x:Int)]++[]) []) c hle hy hd hn
 refine ⟨k.le,_,_,rfl,rfl,e1,by rw [List.length_map,hal.len];omega,?_⟩
 have ea:EntAt K (upd (upd (upd H dy (.own y)) y (.ins C_Entry dy (xJ sayF ([.int (st.now:Int),.int (kd x),.int (ab x:Int),.int (td x:Int),.int (th x:Int),.int (fo x:Int)]++[]) []))) k.le (.lst (as.map V.ref++[.ref y]))) y ⟨st.now,x⟩ :=
  ⟨fl "written" _ cl (na _ (by simp)) rfl,fl "kind" _ cl (na _ (by simp)) rfl,fl "about" _ cl (na _ (by simp)) rfl,fl "told" _ cl (na _ (by simp)) rfl,fl "third" _ cl (na _ (by simp)) rfl,fl "fourth" _ cl (na _ (by simp)) rfl⟩
 have tb5:TabOk tb (upd (upd (upd H dy (.own y)) y (.ins C_Entry dy (xJ sayF ([.int (st.now:Int),.int (kd x),.int (ab x:Int),.int (td x:Int),.int (th x:Int),.int (fo x:Int)]++[]) []))) k.le (.lst (as.map V.ref++[.ref y]))):=(tt.mono (xZ hy hd)).lst e1
 generalize upd (upd (upd H dy (.own y)) y _) k.le _=H5 at gr ea tb5 ⊢
 have sa5:StAt K H5 k {st with log:=st.log++[⟨st.now,x⟩]}:=by
  refine ⟨?_,sa.cl,sa.na,⟨as++[y],gr.at_,All2.snoc (hal.mono fun _ _ q=>q.fk gr.fk) ea⟩,M.LogOk.snoc sa.ok eo,by rw [List.length_append];simp;omega,sa.mn,⟨let ⟨xs,e⟩:=sa.tw.1;⟨xs,gr.oth _ _ sa.tw.2 e⟩,sa.tw.2⟩⟩
  obtain ⟨v,h1,h2⟩:=sa.pl
  refine ⟨v,gr.oth _ _ (xD h1 hle (by intro z;cases z)) h1,?_⟩
  show PlOk K H5 k v st.park
  cases e:st.park with
  | none=>rw [e] at h2;exact h2
  | some p=>rw [e] at h2;obtain ⟨d,a,b,c,ap⟩:=h2;exact ⟨d,a,b.app hle gr.fk gr.oth ap.1,c,ap⟩
 have f35:=sa5.f3
 obtain ⟨as5,hle5,hal5⟩:=sa5.en
 refine ⟨_,rfl,_,_,rfl,f35,k.le,_,rfl,.inl (SqL.of hle5),yF,fun D hD=>?_⟩
 have l5:(as5.map V.ref).length=st.log.length+1:=by rw [List.length_map,hal5.len];simp
 rw [l5];have hD0:H D=none:=by
  by_cases e:D=k.le
  ·rw [e,hle5] at hD;cases hD
  ·cases e2:H D with
   | none=>rfl
   | some o=>rw [gr.oth D o e e2] at hD;cases hD
 have fr:Fr k tb H H5:=⟨fun b o n1 n2 e n=>gr.oth b o n2 e,gr.kp,gr.c,tb5⟩
 exact ⟨_,⟨gr.kp.new hD,gr.c.lstN hD,Same.refl _⟩,q2 z1 H5 D fr sa5 hD0 hD⟩
theorem ok_write_entry_3 (T:Txt P w K mg):Dfn P w K mg base "write_entry" ["park","kind","about","told","third","fourth"] [V.int 0,V.int 0,V.int 0] 3 (uB K tb):=wr_all T 0 (by decide)
theorem xA (T:Txt P w K mg):Dfn P w K mg base "write_entry" ["park","kind","about","told","third","fourth"] [V.int 0,V.int 0] 3 (uB K tb):=wr_all T 1 (by decide)
theorem ok_write_entry_5 (T:Txt P w K mg):Dfn P w K mg base "write_entry" ["park","kind","about","told","third","fourth"] [V.int 0] 3 (uB K tb):=wr_all T 2 (by decide)
theorem ok_write_entry_6 (T:Txt P w K mg):Dfn P w K mg base "write_entry" ["park","kind","about","told","third","fourth"] [] 3 (uB K tb):=wr_all T 3 (by decide)
theorem inN (x:Nat)(l:List Nat):inV (vn x) (l.map vn)=l.contains x:=by
 unfold inV;rw [List.any_map,List.contains_eq_any_beq]
 congr 1
 funext y
 show ((y:Int)==(x:Int))=(x==y)
 by_cases h:x=y
 ·subst h;simp
 ·rw [beq_eq_false_iff_ne.mpr h]
  exact beq_eq_false_iff_ne.mpr (by omega)
def spLock (K:zF):Sp:=fun vs H Q _=>∃ (k:Pk) (s:Vbtpah.State) (r who:Nat),vs=[.ref k.pk,vn r,vn who]∧Clo H∧StAt K H k s∧Q (.bl ((Vbtpah.locksOn s.log r).contains who)) H
theorem sc_has_lock : zK ["park","ride","who"] ["park","ride","who"] (zE (z9 155)):=by walk_at "sc"
theorem vO (T:Txt P w K mg):Dfn P w K mg base "has_lock" ["park","ride","who"] [] 2 (spLock K):=by
 have nd:=sc_has_lock.nd
 refine T.d_has_lock.ok sc_has_lock (fun vs H Q E h=>?_) (fun f cdv A outer s H vs Q E hr h=>?_)
 ·obtain ⟨_,_,_,_,rfl,_⟩:=h;rfl
 obtain ⟨k,st,r,who,rfl,c,sa,q⟩:=h
 refine ⟨_,(zJ H (zD (zI (yO (in_K K) (pv 2) (zS (uW T) (hr.mono (by decide)) (zA (zZ K (pv 0)) (zA (pv 1) zC))) (by with_unfolding_all rfl))))),?_⟩
 refine ⟨_,rfl,_,rfl,_,_,rfl,sa.f3,_,rfl,k.le,st.log,r,rfl,c,sa.log,sa.n250,sa.ok,fun D hD=>?_⟩
 refine ⟨D,_,rfl,.inl (SqL.of upd_same),rfl,by rw [List.all_map];exact List.all_eq_true.mpr fun _ _=>rfl,_,Fg.self c (Same.new hD),?_⟩
 rw [if_neg Bool.false_ne_true,inN];exact q
end
end My
namespace My
open PySem PySem.Spec PyProof.Rows L2
open Vbtpah (Says Log Reading Park Sensor Ride Rule Check)
open Vbtpah (does guards inside decode)
def ansS (s:Vbtpah.State)(c:Vbtpah.Call):Vbtpah.State×List Int:=match does s c with
 | .error e=>(s,[e])
 | .ok (t,l)=>(t,0::l)
theorem xT (b:Bool)(e:Int)(l:List (Bool×Int))(x:Vbtpah.Res):guards ((b,e)::l) x=if b=true then .error e else guards l x:=by
 unfold guards
 cases b<;>rfl
theorem zQ {b:Bool}{a c:Vbtpah.Call}(h:Vbtpah.guard b a=some c):b=true∧c=a:=by
 unfold Vbtpah.guard at h
 split at h
 ·rename_i e;cases h;exact ⟨e,rfl⟩
 ·cases h
theorem zW {z lo hi:Int}(h:inside z lo hi=true)(h0:0≤lo):∃ n:Nat,z=(n:Int)∧lo≤(n:Int)∧(n:Int)≤hi:=by
 rw [wA,Bool.and_eq_true] at h;have h1:=of_decide_eq_true h.1
 have h2:=of_decide_eq_true h.2
 exact ⟨z.toNat,by omega,by omega,by omega⟩
def Fin (K:zF)(tb:Addr)(k:Pk)(s:Vbtpah.State)(c:Vbtpah.Call)(H:Hp)(Q:VK):Prop:=∀ s' ans H' D,ansS s c=(s',ans)→Fr k tb H H'→StAt K H' k s'→H D=none→H' D=some (.lst (ans.map V.int))→Q (.ref D) H'
structure Hd (K:zF)(tb:Addr)(H:Hp)(k:Pk)(s:Vbtpah.State)(a:Addr)(p:Int)(ns:List Int)(rows:List (List Int))(c:Vbtpah.Call):Prop where
 clo : Clo H
 t : TabOk tb H
 st : StAt K H k s
 ca : CallAt K H a p ns rows
 sh : Shp p ns.length rows.length
 rl : ∀ r∈rows,r.length≤2500
 dc : decode ((p::ns)::rows)=some c
 pk : s.park.isNone=true→Vbtpah.needsPark c=false
def yR (K:zF)(tb:Addr)(p:Int):Sp:=fun vs H Q _=>∃ (k:Pk) (s:Vbtpah.State) (a:Addr) (ns:List Int) (rows:List (List Int)) (c:Vbtpah.Call),vs=[.ref k.pk,.ref a]∧Hd K tb H k s a p ns rows c∧Fin K tb k s c H Q
section
variable {K:zF}{H H':Hp}{k:Pk}{s:Vbtpah.State}{tb:Addr}{c0:Vbtpah.Call}{Q:VK}
theorem wS {x:Int}(c:Clo H)(tt:TabOk tb H)(sa:StAt K H k s)(fin:Fin K tb k s c0 H Q)(e:does s c0 = .error x)(D:Addr)(hD:H D=none):∃ H2,Fg H (upd H D (.lst [.int x])) H2∧Q (.ref D) H2:=by
 have l:=(Lv.of tt (Same.refl _) c).new (xs:=[.int x]) hD
 refine ⟨_,⟨l.k,l.c,Same.refl _⟩,fin s [x] _ D ?_ (Fr.of l) (sa.mono l.s) hD upd_same⟩
 unfold ansS;rw [e]
theorem retL {l:List Int}{D:Addr}(lv:Lv tb H H')(sa:StAt K H k s)(fin:Fin K tb k s c0 H Q)(e:does s c0 = .ok (s,l))(hD:H D=none)(hD':H' D=some (.lst ((0::l).map V.int))):∃ H2,Fg H H' H2∧Q (.ref D) H2:=by
 refine ⟨_,⟨lv.k,lv.c,Same.refl _⟩,fin s (0::l) _ D ?_ (Fr.of lv) (sa.mono lv.s) hD hD'⟩
 unfold ansS;rw [e]
theorem tX {x:Says}{nx:L2.St→Hp→Prop}(c:Clo H)(tt:TabOk tb H)(sa:StAt K H k s)(eo:M.EntryOk s.log ⟨s.now,x⟩)(fin:Fin K tb k s c0 H Q)(e:does s c0=guards [Vbtpah.full s] (Vbtpah.write s x [Vbtpah.nat (s.log.length+1)])) :
  uB K tb [.ref k.pk,.int (kd x),.int (ab x:Int),.int (td x:Int),.int (th x:Int),.int (fo x:Int)] H (fgE H {nx:=nx,rt:=Q}).rt E0:=by
 refine ⟨k,s,x,rfl,c,tt,sa,eo,fun h D hD=>wS c tt sa fin ?_ D hD,fun h H1 D fr sa' hD hD'=>⟨_,⟨fr.k.new hD',fr.c.lstN hD',Same.refl _⟩,fin _ [0,(s.log.length:Int)+1] _ D ?_ (fr.trans (Fr.of ((Lv.of fr.b (Same.refl _) fr.c).new hD'))) (sa'.mono (Same.new hD').t) hD upd_same⟩⟩
 ·rw [e];unfold Vbtpah.full;rw [xT,if_pos (decide_eq_true (show Vbtpah.ENTRIES≤_ from h))]
 ·unfold ansS
  rw [e];unfold Vbtpah.full;rw [xT,if_neg (by rw [decide_eq_false (show ¬ Vbtpah.ENTRIES≤_ by show ¬ 250≤_;omega)];exact Bool.false_ne_true)]
  rfl
theorem fkp {v0:V}{n0:Nat}{o:HO}{a:Addr}{f:Str}{v:V}(hp:H k.pk=some (.ins k.C k.dx (wP k v0 n0)))(hf:(wP k v0 n0).lookup f=none)(h:Fld K H a f v):Fld K (upd H k.pk o) a f v:=by
 obtain ⟨C,dx,fs,h1,h2,h3,h4⟩:=h
 have ne:a≠k.pk:=fun e=>by
  rw [e,hp] at h1;cases h1;rw [hf] at h4;cases h4
 exact ⟨C,dx,fs,by rw [zH ne];exact h1,h2,h3,h4⟩
theorem PlanM.pk {v0:V}{n0:Nat}{o:HO}{d:Pa}{p:Park}{wr wl:Int}(m:PlanM K H d p wr wl)(hp:H k.pk=some (.ins k.C k.dx (wP k v0 n0))):PlanM K (upd H k.pk o) d p wr wl:=by
 have nm:∀ {a v},Fld K H a "name" v→Fld K (upd H k.pk o) a "name" v:=fun h=>fkp hp rfl h
 have ln:∀ {a v},Fld K H a "line" v→Fld K (upd H k.pk o) a "line" v:=fun h=>fkp hp rfl h
 have rd:∀ {a v},Fld K H a "ride" v→Fld K (upd H k.pk o) a "ride" v:=fun h=>fkp hp rfl h
 have ne:d.pl≠k.pk:=fun e=>by
  have h1:=m.ob
  rw [e,hp] at h1;have h2:=Option.some.inj h1
  injection h2 with _ _ h3
  have h4:(wP k v0 n0).lookup (Str.ofString "sensors")=none:=rfl
  have h5:(planV d wr wl).lookup (Str.ofString "sensors")=some (.ref d.l1):=rfl
  rw [h3,h5] at h4;cases h4
 refine ⟨by rw [zH ne];exact m.ob,m.cl,m.na,m.nd,?_,?_,?_,?_⟩
 ·obtain ⟨as,h1,h2,h3⟩:=m.m1
  exact ⟨as,by rw [zH (xD h1 hp (by intro z;cases z))];exact h1,h2.mono fun _ _ q=>⟨nm q.nm,fkp hp rfl q.st⟩,h3.mono fun _ _ q=>ln q⟩
 ·obtain ⟨as,h1,h2,h3⟩:=m.m2
  exact ⟨as,by rw [zH (xD h1 hp (by intro z;cases z))];exact h1,h2.mono fun _ _ q=>⟨nm q.nm,fkp hp rfl q.st⟩,h3.mono fun _ _ q=>ln q⟩
 ·obtain ⟨as,h1,h2,h3⟩:=m.m3
  exact ⟨as,by rw [zH (xD h1 hp (by intro z;cases z))];exact h1,h2.mono fun _ _ q=>⟨rd q.ri,fkp hp rfl q.se,fkp hp rfl q.up,fkp hp rfl q.off,fkp hp rfl q.on,fkp hp rfl q.ho⟩,h3.mono fun _ _ q=>ln q⟩
 ·obtain ⟨as,h1,h2,h3⟩:=m.m4
  exact ⟨as,by rw [zH (xD h1 hp (by intro z;cases z))];exact h1,h2.mono fun _ _ q=>⟨rd q.ri,nm q.nm,fkp hp rfl q.bd,fkp hp rfl q.sp⟩,h3.mono fun _ _ q=>ln q⟩
theorem StAt.set {v0 v:V}{now:Nat}{pp:Option Park}(sa:StAt K H k s)(hp:H k.pk=some (.ins k.C k.dx (wP k v0 s.now)))(hv:PlOk K H k v pp)(hn:now≤1000000):StAt K (upd H k.pk (.ins k.C k.dx (wP k v now))) k {s with park:=pp,now:=now}:=by
 refine ⟨⟨v,upd_same,?_⟩,sa.cl,sa.na,?_,sa.ok,sa.n250,hn,⟨let ⟨xs,e⟩:=sa.tw.1;⟨xs,by rw [zH (xD e hp (by intro z;cases z))];exact e⟩,sa.tw.2⟩⟩
 ·show PlOk K _ k v pp
  cases pp with
  | none=>exact hv
  | some p=>obtain ⟨d,a,b,c,ap⟩:=hv;exact ⟨d,a,b.pk hp,c,ap⟩
 ·obtain ⟨as,h1,h2⟩:=sa.en
  exact ⟨as,by rw [zH (xD h1 hp (by intro z;cases z))];exact h1,h2.mono fun _ _ q=>⟨fkp hp rfl q.wr,fkp hp rfl q.kd,fkp hp rfl q.ab,fkp hp rfl q.td,fkp hp rfl q.th,fkp hp rfl q.fo⟩⟩
theorem putM (k:Pk)(v:V)(now m:Nat):xR "minute" (.int (m:Int)) (wP k v now)=wP k v m:=rfl
theorem putP (k:Pk)(v u:V)(now:Nat):xR "plan" u (wP k v now)=wP k u now:=rfl
theorem Fr.pk {C dx:Addr}{fs:List (Str×V)}{o:HO}(c:Clo H)(tt:TabOk tb H)(hp:H k.pk=some (.ins C dx fs))(c':Clo (upd H k.pk o)):Fr k tb H (upd H k.pk o) :=
 ⟨fun b u n1 _ e _=>by rw [zH n1];exact e,(Kp.refl H).ins hp,c',tt.put (fun _ e=>by rw [hp] at e;cases e) fun _ e=>by rw [hp] at e;cases e⟩
theorem yT {a:Addr}{p:Int}{ns:List Int}{rows:List (List Int)}(h:Hd K tb H k s a p ns rows c0)(hn:Vbtpah.needsPark c0=true):∃ q d,s.park=some q∧Vbtpah.parkOf s=q∧Fld K H k.pk "plan" (.ref d)∧∃ dd:Pa,d=dd.pl∧PlanM K H dd q 0 0∧Wf q:=by
 cases e:s.park with
 | none=>have:=h.pk (by rw [e];rfl);rw [hn] at this;cases this
 | some q =>
  obtain ⟨dd,f,pm,wf⟩:=h.st.f1 e
  exact ⟨q,dd.pl,rfl,by unfold Vbtpah.parkOf;rw [e];rfl,f,dd,rfl,pm,wf⟩
theorem vW {a:Addr}{p:Int}{ns:List Int}{rows:List (List Int)}(h:Hd K tb H k s a p ns rows c0):∃ L,Fld K H a "numbers" (.ref L)∧SqL K H L (ns.map V.int):=h.ca.nl
theorem z0 {p:Int}{n k:Nat}(h:Shp p n k){m:Nat}(e:(ranges.getD p.toNat []).length=m):n=m:=by
 obtain ⟨ps,h1,h2⟩:=h.rg
 rw [List.getD_eq_getElem?_getD,h1] at e;rw [← h2,← e];rfl
end
section
variable {P:Program}{w:World}{K:zF}{mg:Str→Option Value}{base:Heap}{tb:Addr}
theorem sc_pass_minutes : zK ["park","call","minute"] ["park","call"] (zE (z9 159)):=by walk_at "sc"
theorem ok_pass_minutes (T:Txt P w K mg):Dfn P w K mg base "pass_minutes" ["park","call"] [] 1 (yR K tb 3):=by
 have nd:=sc_pass_minutes.nd
 refine T.d_pass_minutes.ok sc_pass_minutes (fun vs H Q E h=>?_) (fun f cdv A outer s H vs Q E hr h=>?_)
 ·obtain ⟨_,_,_,_,_,_,rfl,_⟩:=h;rfl
 obtain ⟨k,st,a,ns,rows,c0,rfl,hd,fin⟩:=h
 refine ⟨_,(zJ H (zB (zL (i:=2) nd rfl (Or.inl rfl) (yG vJ (zZ K (pv 0)) (zY (yI K) (zZ K (pv 1)) zG (fun _ _=>rfl)))) (zB (zX (zP w8 (pv 2) (yW T.g_LAST_MINUTE) (zN _)) (zD (zI (zT (zA (yW T.g_TO_COME) zC)))) zM) (zB (xB K (pv 0) (pv 2)) (zD (zI (zT (zA zG (zA (pv 2) zC))))))))),?_⟩
 obtain ⟨n,rfl⟩:∃ n,ns=[n]:=by
  have:=z0 hd.sh (m:=1) rfl
  match ns,this with
  | [n],_=>exact ⟨n,rfl⟩
 obtain rfl:rows=[]:=by
  have:=hd.sh.rw_
  have e:(rows.length:Int)=0:=(V.int.inj this).symm
  exact List.eq_nil_of_length_eq_zero (by omega)
 obtain ⟨g,rfl⟩:=zQ (show Vbtpah.guard (inside n 1 100000) (.pass n.toNat)=some c0 from hd.dc)
 obtain ⟨n,rfl,b1,b2⟩:=zW g (by decide)
 obtain ⟨L,fl,hL⟩:=vW hd
 have i0:yZ ([(n:Int)].map V.int) 0=some (vn n):=rfl
 have f2:=hd.st.f2
 have ds:does st (.pass ((n:Int)).toNat)=if Vbtpah.LAST < st.now+n then .error (-8) else .ok ({st with now:=st.now+n},[Vbtpah.nat (st.now+n)]):=by
  rw [show ((n:Int)).toNat=n by omega];rfl
 refine ⟨_,rfl,_,_,rfl,f2,_,rfl,_,_,rfl,fl,L,_,_,_,rfl,rfl,hL,i0,_,_,rfl,rfl,?_⟩
 refine ⟨_,rfl,_,_,rfl,rfl,_,rfl,?_⟩
 refine zR ?_ ?_
 ·intro h1
  have z1:Vbtpah.LAST < st.now+n:=by have:=of_decide_eq_true h1;show 1000000 < _;omega
  exact ⟨yF,fun D hD=>wS hd.clo hd.t hd.st fin (by rw [ds,if_pos z1]) D hD⟩
 intro h1
 have z1:¬ Vbtpah.LAST < st.now+n:=by have:=of_decide_eq_false h1;show ¬ 1000000 < _;omega
 rw [if_neg z1] at ds;obtain ⟨v,hp,hv⟩:=hd.st.pl
 have e1:(st.now:Int)+(n:Int)=((st.now+n:Nat):Int):=by omega
 have nm:=hd.st.na "minute" (by simp [vN])
 have z2:st.now+n≤1000000:=Nat.le_of_not_lt z1
 have sa5:=hd.st.set (now:=st.now+n) hp hv z2
 have c5:Clo (upd H k.pk (.ins k.C k.dx (wP k v (st.now+n)))):=hd.clo.insU hp
 have fr5:=Fr.pk hd.clo hd.t hp c5
 refine ⟨_,rfl,_,rfl,k.pk,k.C,k.dx,_,rfl,hp,hd.st.cl,nm,yF,?_⟩
 have key:xR "minute" ((fun i j=>V.int (i+j)) (st.now:Int) (n:Int)) (wP k v st.now)=wP k v (st.now+n):=by
  show xR "minute" (.int ((st.now:Int)+(n:Int))) _=_
  rw [e1,putM]
 rw [key];refine ⟨_,rfl,yF,fun D hD=>?_⟩
 have hD0:H D=none:=by
  by_cases e:D=k.pk
  ·rw [e,upd_same] at hD;cases hD
  ·rw [zH e] at hD;exact hD
 have l6:=(Lv.of fr5.b (Same.refl _) fr5.c).new (xs:=[V.int 0,V.int ((st.now:Int)+(n:Int))]) hD
 have fr6:=fr5.trans (Fr.of l6)
 refine ⟨_,⟨fr6.k,fr6.c,Same.refl _⟩,fin {st with now:=st.now+n} [0,(st.now:Int)+n] _ D ?_ fr6 (sa5.mono l6.s) hD0 upd_same⟩
 unfold ansS;rw [ds];rfl
end
end My
namespace My
open PySem PySem.Spec PyProof.Rows L2
open Vbtpah (Says Log Reading Park Sensor Ride Rule Check)
open Vbtpah (does guards inside decode isGone locksOn)
theorem xF {s:Vbtpah.State}{c:Vbtpah.Call}{b:Bool}{x:Int}{l:List (Bool×Int)}{y:Vbtpah.Res}(e:does s c=guards ((b,x)::l) y)(h:b=true):does s c = .error x:=by rw [e,xT,if_pos h]
theorem wL {s:Vbtpah.State}{c:Vbtpah.Call}{b:Bool}{x:Int}{l:List (Bool×Int)}{y:Vbtpah.Res}(e:does s c=guards ((b,x)::l) y)(h:b=false):does s c=guards l y:=by rw [e,xT,if_neg (by rw [h];exact Bool.false_ne_true)]
section
variable {P:Program}{w:World}{K:zF}{mg:Str→Option Value}{base:Heap}{tb:Addr}
theorem sc_take_reading : zK ["park","call","sensor","minute"] ["park","call"] (zE (z9 160)):=by walk_at "sc"
theorem ok_take_reading (T:Txt P w K mg):Dfn P w K mg base "take_reading" ["park","call"] [] 4 (yR K tb 4):=by
 have nd:=sc_take_reading.nd
 refine T.d_take_reading.ok sc_take_reading (fun vs H Q E h=>?_) (fun f cdv A outer s H vs Q E hr h=>?_)
 ·obtain ⟨_,_,_,_,_,_,rfl,_⟩:=h;rfl
 obtain ⟨k,st,a,ns,rows,c0,rfl,hd,fin⟩:=h
 refine ⟨_,(zJ H (zB (zL (i:=2) nd rfl (Or.inl rfl) (zY (yI K) (zZ K (pv 1)) zG (fun _ _=>rfl))) (zB (zL (i:=3) nd rfl (Or.inl rfl) (zY (yI K) (zZ K (pv 1)) zG (fun _ _=>rfl))) (zB (zX (zP w8 (pv 2) (zU (xS K) rfl T.b_len yD (zA (zZ K (zZ K (pv 0))) zC)) (zN _)) (zD (zI (zT (zA (yW T.g_NO_SENSOR) zC)))) zM) (zB (zX (zP w8 (pv 3) (zZ K (pv 0)) (zN _)) (zD (zI (zT (zA (yW T.g_TO_COME) zC)))) zM) (zD (zI (zS (ok_write_entry_5 (tb:=tb) T) (hr.mono (by decide)) (zA (pv 0) (zA (yW T.g_READING) (zA (pv 2) (zA (pv 3) (zA (zY (yI K) (zZ K (pv 1)) zG (fun _ _=>rfl)) zC))))))))))))),?_⟩
 obtain ⟨r,m,v,rfl⟩:∃ r m v,ns=[r,m,v]:=by
  have:=z0 hd.sh (m:=3) rfl
  match ns,this with
  | [r,m,v],_=>exact ⟨r,m,v,rfl⟩
 obtain rfl:rows=[]:=by
  have:=hd.sh.rw_
  have e:(rows.length:Int)=0:=(V.int.inj this).symm
  exact List.eq_nil_of_length_eq_zero (by omega)
 obtain ⟨g,rfl⟩:=zQ (show Vbtpah.guard (inside r 1 6&&(Vbtpah.isMinute m&&inside v 0 1000)) (.reading r.toNat m.toNat v.toNat)=some c0 from hd.dc)
 simp only [Bool.and_eq_true] at g;obtain ⟨g1,g2,g3⟩:=g
 obtain ⟨r,rfl,lo1,hi1⟩:=zW g1 (by decide)
 obtain ⟨m,rfl,lo2,hi2⟩:=zW g2 (by decide)
 obtain ⟨v,rfl,lo3,hi3⟩:=zW g3 (by decide)
 simp only [Int.toNat_natCast] at fin;obtain ⟨L,fl,hL⟩:=vW hd
 have i0:yZ ([(r:Int),(m:Int),(v:Int)].map V.int) 0=some (vn r):=rfl
 have i1:yZ ([(r:Int),(m:Int),(v:Int)].map V.int) 1=some (vn m):=rfl
 have i2:yZ ([(r:Int),(m:Int),(v:Int)].map V.int) 2=some (vn v):=rfl
 have c:=hd.clo
 have tt:=hd.t
 have sa:=hd.st
 have f2:=sa.f2
 have f3:=sa.f3
 obtain ⟨q,dpl,hq0,hq,fp,d,rfl,pm,wf⟩:=yT hd rfl
 obtain ⟨l1,fs,as1,sl1,al1⟩:=pm.at_.se
 have e:does st (.reading r m v)=guards [(decide (q.sensors.length < r),-6),(decide (st.now < m),-8),Vbtpah.full st] (Vbtpah.write st (.reading r m v) [Vbtpah.nat (st.log.length+1)]):=by rw [← hq];rfl
 refine ⟨_,rfl,_,_,rfl,fl,L,_,_,_,rfl,rfl,hL,i0,?_⟩
 refine ⟨_,rfl,_,_,rfl,fl,L,_,_,_,rfl,rfl,hL,i1,?_⟩
 refine ⟨_,rfl,_,rfl,_,_,rfl,fp,_,_,rfl,fs,l1,_,rfl,.inl sl1,_,_,rfl,rfl,_,rfl,?_⟩
 rw [List.length_map,al1.len,tJ];refine zR (fun h=>⟨yF,fun D hD=>wS c tt sa fin (xF e h) D hD⟩) fun h=>?_
 replace e:=wL e h
 refine ⟨_,rfl,_,rfl,_,_,rfl,f2,_,_,rfl,rfl,_,rfl,?_⟩
 rw [tJ];refine zR (fun h=>⟨yF,fun D hD=>wS c tt sa fin (xF e h) D hD⟩) fun h=>?_
 replace e:=wL e h
 exact ⟨_,rfl,_,rfl,_,rfl,_,rfl,_,_,rfl,fl,L,_,_,_,rfl,rfl,hL,i2,tX (x:=.reading r m v) c tt sa trivial fin e⟩
theorem sc_make_check : zK ["park","call","number","who"] ["park","call"] (zE (z9 163)):=by walk_at "sc"
theorem ok_make_check (T:Txt P w K mg):Dfn P w K mg base "make_check" ["park","call"] [] 4 (yR K tb 6):=by
 have nd:=sc_make_check.nd
 refine T.d_make_check.ok sc_make_check (fun vs H Q E h=>?_) (fun f cdv A outer s H vs Q E hr h=>?_)
 ·obtain ⟨_,_,_,_,_,_,rfl,_⟩:=h;rfl
 obtain ⟨k,st,a,ns,rows,c0,rfl,hd,fin⟩:=h
 refine ⟨_,(zJ H (zB (zL (i:=2) nd rfl (Or.inl rfl) (zY (yI K) (zZ K (pv 1)) zG (fun _ _=>rfl))) (zB (zL (i:=3) nd rfl (Or.inl rfl) (zY (yI K) (zZ K (pv 1)) zG (fun _ _=>rfl))) (zB (zX (zP w8 (pv 2) (zU (xS K) rfl T.b_len yD (zA (zZ K (zZ K (pv 0))) zC)) (zN _)) (zD (zI (zT (zA (yW T.g_NO_CHECK) zC)))) zM) (zB (zX (yC (zS (x6 T) (hr.mono (by decide)) (zA (zZ K (pv 0)) (zA (pv 3) zC)))) (zD (zI (zT (zA (yW T.g_NOT_HERE_OR_HERE) zC)))) zM) (zD (zI (zS (xA (tb:=tb) T) (hr.mono (by decide)) (zA (pv 0) (zA (yW T.g_CHECKED) (zA (pv 2) (zA (pv 3) zC)))))))))))),?_⟩
 obtain ⟨r,w1,rfl⟩:∃ r w1,ns=[r,w1]:=by
  have:=z0 hd.sh (m:=2) rfl
  match ns,this with
  | [r,w1],_=>exact ⟨r,w1,rfl⟩
 obtain rfl:rows=[]:=by
  have:=hd.sh.rw_
  have e:(rows.length:Int)=0:=(V.int.inj this).symm
  exact List.eq_nil_of_length_eq_zero (by omega)
 obtain ⟨g,rfl⟩:=zQ (show Vbtpah.guard (inside r 1 20&&Vbtpah.isWho w1) (.checked r.toNat w1.toNat)=some c0 from hd.dc)
 simp only [Bool.and_eq_true] at g;obtain ⟨g1,g2⟩:=g
 obtain ⟨r,rfl,lo1,hi1⟩:=zW g1 (by decide)
 obtain ⟨w1,rfl,lo2,hi2⟩:=zW g2 (by decide)
 simp only [Int.toNat_natCast] at fin;obtain ⟨L,fl,hL⟩:=vW hd
 have i0:yZ ([(r:Int),(w1:Int)].map V.int) 0=some (vn r):=rfl
 have i1:yZ ([(r:Int),(w1:Int)].map V.int) 1=some (vn w1):=rfl
 have c:=hd.clo
 have tt:=hd.t
 have sa:=hd.st
 have f2:=sa.f2
 have f3:=sa.f3
 obtain ⟨q,dpl,hq0,hq,fp,d,rfl,pm,wf⟩:=yT hd rfl
 obtain ⟨l1,fs,as1,sl1,al1⟩:=pm.at_.ck
 have e:does st (.checked r w1)=guards [(decide (q.checks.length < r),-7),(isGone st.log w1,-11),Vbtpah.full st] (Vbtpah.write st (.checked r w1) [Vbtpah.nat (st.log.length+1)]):=by rw [← hq];rfl
 refine ⟨_,rfl,_,_,rfl,fl,L,_,_,_,rfl,rfl,hL,i0,?_⟩
 refine ⟨_,rfl,_,_,rfl,fl,L,_,_,_,rfl,rfl,hL,i1,?_⟩
 refine ⟨_,rfl,_,rfl,_,_,rfl,fp,_,_,rfl,fs,l1,_,rfl,.inl sl1,_,_,rfl,rfl,_,rfl,?_⟩
 rw [List.length_map,al1.len,tJ];refine zR (fun h=>⟨yF,fun D hD=>wS c tt sa fin (xF e h) D hD⟩) fun h=>?_
 replace e:=wL e h
 refine ⟨_,rfl,_,_,rfl,f3,_,rfl,k.le,st.log,w1,rfl,c,sa.log,_,rfl,?_⟩
 refine zR (fun h=>⟨yF,fun D hD=>wS c tt sa fin (xF e h) D hD⟩) fun h=>?_
 replace e:=wL e h
 exact ⟨_,rfl,_,rfl,_,rfl,tX (x:=.checked r w1) c tt sa trivial fin e⟩
theorem sc_put_lock_on : zK ["park","call","ride","who"] ["park","call"] (zE (z9 164)):=by walk_at "sc"
theorem ok_put_lock_on (T:Txt P w K mg):Dfn P w K mg base "put_lock_on" ["park","call"] [] 4 (yR K tb 7):=by
 have nd:=sc_put_lock_on.nd
 refine T.d_put_lock_on.ok sc_put_lock_on (fun vs H Q E h=>?_) (fun f cdv A outer s H vs Q E hr h=>?_)
 ·obtain ⟨_,_,_,_,_,_,rfl,_⟩:=h;rfl
 obtain ⟨k,st,a,ns,rows,c0,rfl,hd,fin⟩:=h
 refine ⟨_,(zJ H (zB (zL (i:=2) nd rfl (Or.inl rfl) (zY (yI K) (zZ K (pv 1)) zG (fun _ _=>rfl))) (zB (zL (i:=3) nd rfl (Or.inl rfl) (zY (yI K) (zZ K (pv 1)) zG (fun _ _=>rfl))) (zB (zX (xG (yC (zS (yX T) (hr.mono (by decide)) (zA (zZ K (pv 0)) (zA (pv 2) zC))))) (zD (zI (zT (zA (yW T.g_NO_RIDE) zC)))) zM) (zB (zX (yC (zS (x6 T) (hr.mono (by decide)) (zA (zZ K (pv 0)) (zA (pv 3) zC)))) (zD (zI (zT (zA (yW T.g_NOT_HERE_OR_HERE) zC)))) zM) (zB (zX (yC (zS (vO T) (hr.mono (by decide)) (zA (pv 0) (zA (pv 2) (zA (pv 3) zC))))) (zD (zI (zT (zA (yW T.g_LOCK_ON_OR_OFF) zC)))) zM) (zD (zI (zS (xA (tb:=tb) T) (hr.mono (by decide)) (zA (pv 0) (zA (yW T.g_LOCKED) (zA (pv 2) (zA (pv 3) zC))))))))))))),?_⟩
 obtain ⟨r,w1,rfl⟩:∃ r w1,ns=[r,w1]:=by
  have:=z0 hd.sh (m:=2) rfl
  match ns,this with
  | [r,w1],_=>exact ⟨r,w1,rfl⟩
 obtain rfl:rows=[]:=by
  have:=hd.sh.rw_
  have e:(rows.length:Int)=0:=(V.int.inj this).symm
  exact List.eq_nil_of_length_eq_zero (by omega)
 obtain ⟨g,rfl⟩:=zQ (show Vbtpah.guard (Vbtpah.isRide r&&Vbtpah.isWho w1) (.lock r.toNat w1.toNat)=some c0 from hd.dc)
 simp only [Bool.and_eq_true] at g;obtain ⟨g1,g2⟩:=g
 obtain ⟨r,rfl,lo1,hi1⟩:=zW g1 (by decide)
 obtain ⟨w1,rfl,lo2,hi2⟩:=zW g2 (by decide)
 simp only [Int.toNat_natCast] at fin;obtain ⟨L,fl,hL⟩:=vW hd
 have i0:yZ ([(r:Int),(w1:Int)].map V.int) 0=some (vn r):=rfl
 have i1:yZ ([(r:Int),(w1:Int)].map V.int) 1=some (vn w1):=rfl
 have c:=hd.clo
 have tt:=hd.t
 have sa:=hd.st
 have f2:=sa.f2
 have f3:=sa.f3
 obtain ⟨q,dpl,hq0,hq,fp,d,rfl,pm,wf⟩:=yT hd rfl
 have e:does st (.lock r w1)=guards [(decide (q.rides.length < r),-5),(isGone st.log w1,-11),((locksOn st.log r).contains w1,-12),Vbtpah.full st] (Vbtpah.write st (.locked r w1) [Vbtpah.nat (st.log.length+1)]):=by rw [← hq];rfl
 refine ⟨_,rfl,_,_,rfl,fl,L,_,_,_,rfl,rfl,hL,i0,?_⟩
 refine ⟨_,rfl,_,_,rfl,fl,L,_,_,_,rfl,rfl,hL,i1,?_⟩
 have gr:(!decide (r≤q.rides.length))=decide (q.rides.length < r):=by by_cases h:r≤q.rides.length<;>simp [h]<;>omega
 refine ⟨_,rfl,_,_,rfl,fp,_,rfl,d.pl,q,r,rfl,c,pm.at_,_,rfl,?_⟩
 refine zR (b:=!decide (r≤q.rides.length)) (fun h=>⟨yF,fun D hD=>wS c tt sa fin (xF e (gr.symm.trans h)) D hD⟩) fun h=>?_
 rw [gr] at h
 replace e:=wL e h
 refine ⟨_,rfl,_,_,rfl,f3,_,rfl,k.le,st.log,w1,rfl,c,sa.log,_,rfl,?_⟩
 refine zR (fun h=>⟨yF,fun D hD=>wS c tt sa fin (xF e h) D hD⟩) fun h=>?_
 replace e:=wL e h
 refine ⟨_,rfl,_,rfl,_,rfl,k,st,r,w1,rfl,c,sa,_,rfl,?_⟩
 refine zR (fun h=>⟨yF,fun D hD=>wS c tt sa fin (xF e h) D hD⟩) fun h=>?_
 replace e:=wL e h
 exact ⟨_,rfl,_,rfl,_,rfl,tX (x:=.locked r w1) c tt sa (by show w1∉_;simpa using h) fin e⟩
theorem sc_take_lock_off : zK ["park","call","ride","who"] ["park","call"] (zE (z9 165)):=by walk_at "sc"
theorem ok_take_lock_off (T:Txt P w K mg):Dfn P w K mg base "take_lock_off" ["park","call"] [] 4 (yR K tb 8):=by
 have nd:=sc_take_lock_off.nd
 refine T.d_take_lock_off.ok sc_take_lock_off (fun vs H Q E h=>?_) (fun f cdv A outer s H vs Q E hr h=>?_)
 ·obtain ⟨_,_,_,_,_,_,rfl,_⟩:=h;rfl
 obtain ⟨k,st,a,ns,rows,c0,rfl,hd,fin⟩:=h
 refine ⟨_,(zJ H (zB (zL (i:=2) nd rfl (Or.inl rfl) (zY (yI K) (zZ K (pv 1)) zG (fun _ _=>rfl))) (zB (zL (i:=3) nd rfl (Or.inl rfl) (zY (yI K) (zZ K (pv 1)) zG (fun _ _=>rfl))) (zB (zX (xG (yC (zS (yX T) (hr.mono (by decide)) (zA (zZ K (pv 0)) (zA (pv 2) zC))))) (zD (zI (zT (zA (yW T.g_NO_RIDE) zC)))) zM) (zB (zX (yC (zS (x6 T) (hr.mono (by decide)) (zA (zZ K (pv 0)) (zA (pv 3) zC)))) (zD (zI (zT (zA (yW T.g_NOT_HERE_OR_HERE) zC)))) zM) (zB (zX (xG (yC (zS (vO T) (hr.mono (by decide)) (zA (pv 0) (zA (pv 2) (zA (pv 3) zC)))))) (zD (zI (zT (zA (yW T.g_LOCK_ON_OR_OFF) zC)))) zM) (zD (zI (zS (xA (tb:=tb) T) (hr.mono (by decide)) (zA (pv 0) (zA (yW T.g_UNLOCKED) (zA (pv 2) (zA (pv 3) zC))))))))))))),?_⟩
 obtain ⟨r,w1,rfl⟩:∃ r w1,ns=[r,w1]:=by
  have:=z0 hd.sh (m:=2) rfl
  match ns,this with
  | [r,w1],_=>exact ⟨r,w1,rfl⟩
 obtain rfl:rows=[]:=by
  have:=hd.sh.rw_
  have e:(rows.length:Int)=0:=(V.int.inj this).symm
  exact List.eq_nil_of_length_eq_zero (by omega)
 obtain ⟨g,rfl⟩:=zQ (show Vbtpah.guard (Vbtpah.isRide r&&Vbtpah.isWho w1) (.unlock r.toNat w1.toNat)=some c0 from hd.dc)
 simp only [Bool.and_eq_true] at g;obtain ⟨g1,g2⟩:=g
 obtain ⟨r,rfl,lo1,hi1⟩:=zW g1 (by decide)
 obtain ⟨w1,rfl,lo2,hi2⟩:=zW g2 (by decide)
 simp only [Int.toNat_natCast] at fin;obtain ⟨L,fl,hL⟩:=vW hd
 have i0:yZ ([(r:Int),(w1:Int)].map V.int) 0=some (vn r):=rfl
 have i1:yZ ([(r:Int),(w1:Int)].map V.int) 1=some (vn w1):=rfl
 have c:=hd.clo
 have tt:=hd.t
 have sa:=hd.st
 have f2:=sa.f2
 have f3:=sa.f3
 obtain ⟨q,dpl,hq0,hq,fp,d,rfl,pm,wf⟩:=yT hd rfl
 have e:does st (.unlock r w1)=guards [(decide (q.rides.length < r),-5),(isGone st.log w1,-11),(!(locksOn st.log r).contains w1,-12),Vbtpah.full st] (Vbtpah.write st (.unlocked r w1) [Vbtpah.nat (st.log.length+1)]):=by rw [← hq];rfl
 refine ⟨_,rfl,_,_,rfl,fl,L,_,_,_,rfl,rfl,hL,i0,?_⟩
 refine ⟨_,rfl,_,_,rfl,fl,L,_,_,_,rfl,rfl,hL,i1,?_⟩
 have gr:(!decide (r≤q.rides.length))=decide (q.rides.length < r):=by by_cases h:r≤q.rides.length<;>simp [h]<;>omega
 refine ⟨_,rfl,_,_,rfl,fp,_,rfl,d.pl,q,r,rfl,c,pm.at_,_,rfl,?_⟩
 refine zR (b:=!decide (r≤q.rides.length)) (fun h=>⟨yF,fun D hD=>wS c tt sa fin (xF e (gr.symm.trans h)) D hD⟩) fun h=>?_
 rw [gr] at h
 replace e:=wL e h
 refine ⟨_,rfl,_,_,rfl,f3,_,rfl,k.le,st.log,w1,rfl,c,sa.log,_,rfl,?_⟩
 refine zR (fun h=>⟨yF,fun D hD=>wS c tt sa fin (xF e h) D hD⟩) fun h=>?_
 replace e:=wL e h
 refine ⟨_,rfl,_,rfl,_,rfl,k,st,r,w1,rfl,c,sa,_,rfl,?_⟩
 refine zR (fun h=>⟨yF,fun D hD=>wS c tt sa fin (xF e h) D hD⟩) fun h=>?_
 replace e:=wL e h
 exact ⟨_,rfl,_,rfl,_,rfl,tX (x:=.unlocked r w1) c tt sa (by show w1∈_;simpa using h) fin e⟩
theorem sc_tell_staff : zK ["park","call","ride"] ["park","call"] (zE (z9 169)):=by walk_at "sc"
theorem ok_tell_staff (T:Txt P w K mg):Dfn P w K mg base "tell_staff" ["park","call"] [] 4 (yR K tb 12):=by
 have nd:=sc_tell_staff.nd
 refine T.d_tell_staff.ok sc_tell_staff (fun vs H Q E h=>?_) (fun f cdv A outer s H vs Q E hr h=>?_)
 ·obtain ⟨_,_,_,_,_,_,rfl,_⟩:=h;rfl
 obtain ⟨k,st,a,ns,rows,c0,rfl,hd,fin⟩:=h
 refine ⟨_,(zJ H (zB (zL (i:=2) nd rfl (Or.inl rfl) (zY (yI K) (zZ K (pv 1)) zG (fun _ _=>rfl))) (zB (zX (xG (yC (zS (yX T) (hr.mono (by decide)) (zA (zZ K (pv 0)) (zA (pv 2) zC))))) (zD (zI (zT (zA (yW T.g_NO_RIDE) zC)))) zM) (zD (zI (zS (xA (tb:=tb) T) (hr.mono (by decide)) (zA (pv 0) (zA (yW T.g_STAFFED) (zA (pv 2) (zA (zY (yI K) (zZ K (pv 1)) zG (fun _ _=>rfl)) zC)))))))))),?_⟩
 obtain ⟨r,m,rfl⟩:∃ r m,ns=[r,m]:=by
  have:=z0 hd.sh (m:=2) rfl
  match ns,this with
  | [r,m],_=>exact ⟨r,m,rfl⟩
 obtain rfl:rows=[]:=by
  have:=hd.sh.rw_
  have e:(rows.length:Int)=0:=(V.int.inj this).symm
  exact List.eq_nil_of_length_eq_zero (by omega)
 obtain ⟨g,rfl⟩:=zQ (show Vbtpah.guard (Vbtpah.isRide r&&inside m 0 20) (.staff r.toNat m.toNat)=some c0 from hd.dc)
 simp only [Bool.and_eq_true] at g;obtain ⟨g1,g2⟩:=g
 obtain ⟨r,rfl,lo1,hi1⟩:=zW g1 (by decide)
 obtain ⟨m,rfl,lo2,hi2⟩:=zW g2 (by decide)
 simp only [Int.toNat_natCast] at fin;obtain ⟨L,fl,hL⟩:=vW hd
 have i0:yZ ([(r:Int),(m:Int)].map V.int) 0=some (vn r):=rfl
 have i1:yZ ([(r:Int),(m:Int)].map V.int) 1=some (vn m):=rfl
 have c:=hd.clo
 have tt:=hd.t
 have sa:=hd.st
 have f2:=sa.f2
 have f3:=sa.f3
 obtain ⟨q,dpl,hq0,hq,fp,d,rfl,pm,wf⟩:=yT hd rfl
 have e:does st (.staff r m)=guards [(decide (q.rides.length < r),-5),Vbtpah.full st] (Vbtpah.write st (.staffed r m) [Vbtpah.nat (st.log.length+1)]):=by rw [← hq];rfl
 refine ⟨_,rfl,_,_,rfl,fl,L,_,_,_,rfl,rfl,hL,i0,?_⟩
 have gr:(!decide (r≤q.rides.length))=decide (q.rides.length < r):=by by_cases h:r≤q.rides.length<;>simp [h]<;>omega
 refine ⟨_,rfl,_,_,rfl,fp,_,rfl,d.pl,q,r,rfl,c,pm.at_,_,rfl,?_⟩
 refine zR (b:=!decide (r≤q.rides.length)) (fun h=>⟨yF,fun D hD=>wS c tt sa fin (xF e (gr.symm.trans h)) D hD⟩) fun h=>?_
 rw [gr] at h
 replace e:=wL e h
 exact ⟨_,rfl,_,rfl,_,rfl,_,_,rfl,fl,L,_,_,_,rfl,rfl,hL,i1,tX (x:=.staffed r m) c tt sa trivial fin e⟩
theorem sc_force_lock_off : zK ["park","call","ride","who","one","another"] ["park","call"] (zE (z9 166)):=by walk_at "sc"
theorem ok_force_lock_off (T:Txt P w K mg):Dfn P w K mg base "force_lock_off" ["park","call"] [] 4 (yR K tb 9):=by
 have nd:=sc_force_lock_off.nd
 refine T.d_force_lock_off.ok sc_force_lock_off (fun vs H Q E h=>?_) (fun f cdv A outer s H vs Q E hr h=>?_)
 ·obtain ⟨_,_,_,_,_,_,rfl,_⟩:=h;rfl
 obtain ⟨k,st,a,ns,rows,c0,rfl,hd,fin⟩:=h
 refine ⟨_,(zJ H (zB (zL (i:=2) nd rfl (Or.inl rfl) (zY (yI K) (zZ K (pv 1)) zG (fun _ _=>rfl))) (zB (zL (i:=3) nd rfl (Or.inl rfl) (zY (yI K) (zZ K (pv 1)) zG (fun _ _=>rfl))) (zB (zL (i:=4) nd rfl (Or.inl rfl) (zY (yI K) (zZ K (pv 1)) zG (fun _ _=>rfl))) (zB (zL (i:=5) nd rfl (Or.inl rfl) (zY (yI K) (zZ K (pv 1)) zG (fun _ _=>rfl))) (zB (zX (xG (yC (zS (yX T) (hr.mono (by decide)) (zA (zZ K (pv 0)) (zA (pv 2) zC))))) (zD (zI (zT (zA (yW T.g_NO_RIDE) zC)))) zM) (zB (zX (xG (yC (zS (x6 T) (hr.mono (by decide)) (zA (zZ K (pv 0)) (zA (pv 3) zC))))) (zD (zI (zT (zA (yW T.g_NOT_HERE_OR_HERE) zC)))) zM) (zB (zX (xG (yC (zS (vO T) (hr.mono (by decide)) (zA (pv 0) (zA (pv 2) (zA (pv 3) zC)))))) (zD (zI (zT (zA (yW T.g_LOCK_ON_OR_OFF) zC)))) zM) (zB (zX (PW.pt (pw_or (zP yH (pv 4) (pv 5) (zN _)) (pw_or (yC (zS (x6 T) (hr.mono (by decide)) (zA (zZ K (pv 0)) (zA (pv 4) zC)))) (tM (yC (zS (x6 T) (hr.mono (by decide)) (zA (zZ K (pv 0)) (zA (pv 5) zC)))))))) (zD (zI (zT (zA (yW T.g_NOT_TWO_OTHERS) zC)))) zM) (zD (zI (zS (ok_write_entry_6 (tb:=tb) T) (hr.mono (by decide)) (zA (pv 0) (zA (yW T.g_FORCED) (zA (pv 2) (zA (pv 3) (zA (pv 4) (zA (pv 5) zC)))))))))))))))))),?_⟩
 obtain ⟨r,w1,o1,o2,rfl⟩:∃ r w1 o1 o2,ns=[r,w1,o1,o2]:=by
  have:=z0 hd.sh (m:=4) rfl
  match ns,this with
  | [r,w1,o1,o2],_=>exact ⟨r,w1,o1,o2,rfl⟩
 obtain rfl:rows=[]:=by
  have:=hd.sh.rw_
  have e:(rows.length:Int)=0:=(V.int.inj this).symm
  exact List.eq_nil_of_length_eq_zero (by omega)
 obtain ⟨g,rfl⟩:=zQ (show Vbtpah.guard (Vbtpah.isRide r&&(Vbtpah.isWho w1&&(Vbtpah.isWho o1&&Vbtpah.isWho o2))) (.force r.toNat w1.toNat o1.toNat o2.toNat)=some c0 from hd.dc)
 simp only [Bool.and_eq_true] at g;obtain ⟨g1,g2,g3,g4⟩:=g
 obtain ⟨r,rfl,lo1,hi1⟩:=zW g1 (by decide)
 obtain ⟨w1,rfl,lo2,hi2⟩:=zW g2 (by decide)
 obtain ⟨o1,rfl,lo3,hi3⟩:=zW g3 (by decide)
 obtain ⟨o2,rfl,lo4,hi4⟩:=zW g4 (by decide)
 simp only [Int.toNat_natCast] at fin;obtain ⟨L,fl,hL⟩:=vW hd
 have i0:yZ ([(r:Int),(w1:Int),(o1:Int),(o2:Int)].map V.int) 0=some (vn r):=rfl
 have i1:yZ ([(r:Int),(w1:Int),(o1:Int),(o2:Int)].map V.int) 1=some (vn w1):=rfl
 have i2:yZ ([(r:Int),(w1:Int),(o1:Int),(o2:Int)].map V.int) 2=some (vn o1):=rfl
 have i3:yZ ([(r:Int),(w1:Int),(o1:Int),(o2:Int)].map V.int) 3=some (vn o2):=rfl
 have c:=hd.clo
 have tt:=hd.t
 have sa:=hd.st
 have f2:=sa.f2
 have f3:=sa.f3
 obtain ⟨q,dpl,hq0,hq,fp,d,rfl,pm,wf⟩:=yT hd rfl
 have e:does st (.force r w1 o1 o2)=guards [(decide (q.rides.length < r),-5),(!isGone st.log w1,-11),(!(locksOn st.log r).contains w1,-12),(o1==o2||(isGone st.log o1||isGone st.log o2),-14),Vbtpah.full st] (Vbtpah.write st (.forced r w1 o1 o2) [Vbtpah.nat (st.log.length+1)]):=by rw [← hq];rfl
 refine ⟨_,rfl,_,_,rfl,fl,L,_,_,_,rfl,rfl,hL,i0,?_⟩
 refine ⟨_,rfl,_,_,rfl,fl,L,_,_,_,rfl,rfl,hL,i1,?_⟩
 refine ⟨_,rfl,_,_,rfl,fl,L,_,_,_,rfl,rfl,hL,i2,?_⟩
 refine ⟨_,rfl,_,_,rfl,fl,L,_,_,_,rfl,rfl,hL,i3,?_⟩
 have gr:(!decide (r≤q.rides.length))=decide (q.rides.length < r):=by by_cases h:r≤q.rides.length<;>simp [h]<;>omega
 refine ⟨_,rfl,_,_,rfl,fp,_,rfl,d.pl,q,r,rfl,c,pm.at_,_,rfl,?_⟩
 refine zR (b:=!decide (r≤q.rides.length)) (fun h=>⟨yF,fun D hD=>wS c tt sa fin (xF e (gr.symm.trans h)) D hD⟩) fun h=>?_
 rw [gr] at h
 replace e:=wL e h
 refine ⟨_,rfl,_,_,rfl,f3,_,rfl,k.le,st.log,w1,rfl,c,sa.log,_,rfl,?_⟩
 refine zR (fun h=>⟨yF,fun D hD=>wS c tt sa fin (xF e h) D hD⟩) fun h=>?_
 replace e:=wL e h
 refine ⟨_,rfl,_,rfl,_,rfl,k,st,r,w1,rfl,c,sa,_,rfl,?_⟩
 refine zR (fun h=>⟨yF,fun D hD=>wS c tt sa fin (xF e h) D hD⟩) fun hlk=>?_
 replace e:=wL e hlk
 have bad:(o1==o2||(isGone st.log o1||isGone st.log o2))=true→∀ D,H D=none→∃ H2,Fg H (upd H D (.lst [.int (-14)])) H2∧Q (.ref D) H2:=fun h D hD=>wS c tt sa fin (xF e h) D hD
 refine ⟨_,rfl,_,rfl,rfl,_,rfl,?_⟩
 rw [decI];refine zR (fun h1=>⟨yF,bad (by rw [show o1=o2 by have:=of_decide_eq_true h1;omega];simp)⟩) fun h1=>?_
 have e1:(o1==o2)=false:=by
  have:=of_decide_eq_false h1
  exact beq_eq_false_iff_ne.mpr (by omega)
 refine ⟨_,rfl,_,_,rfl,f3,_,rfl,k.le,st.log,o1,rfl,c,sa.log,_,rfl,?_⟩
 refine zR (fun h2=>⟨yF,bad (by rw [h2];simp)⟩) fun h2=>?_
 refine ⟨_,rfl,_,_,rfl,f3,_,rfl,k.le,st.log,o2,rfl,c,sa.log,_,rfl,?_⟩
 refine zR (fun h3=>⟨yF,bad (by rw [h3];simp)⟩) fun h3=>?_
 replace e:=wL e (by rw [e1,h2,h3];rfl)
 exact ⟨_,rfl,_,rfl,_,rfl,_,rfl,_,rfl,tX (x:=.forced r w1 o1 o2) c tt sa (by show w1∈_;simpa using hlk) fin e⟩
end
end My
namespace My
open PySem PySem.Spec PyProof.Rows L2
open Vbtpah (Says Log Reading Park Sensor Ride Rule Check)
open Vbtpah (does guards inside decode isGone locksOn ordersIn isFinished)
section
variable {K:zF}{H0 H H':Hp}{k:Pk}{s:Vbtpah.State}{tb:Addr}{c0:Vbtpah.Call}{Q:VK}
theorem Fin.shift (fin:Fin K tb k s c0 H0 Q)(l:Lv tb H0 H):Fin K tb k s c0 H Q:=fun s' ans H' D e fr sa hD hD'=>fin s' ans H' D e ((Fr.of l).trans fr) sa (l.none' hD) hD'
theorem tE {x:Int}(k0:Kp H0 H)(c:Clo H)(tt:TabOk tb H)(sa:StAt K H k s)(fin:Fin K tb k s c0 H Q)(e:does s c0 = .error x)(D:Addr)(hD:H D=none):∃ H2,Fg H0 (upd H D (.lst [.int x])) H2∧Q (.ref D) H2:=by
 obtain ⟨H2,g,q⟩:=wS c tt sa fin e D hD
 exact ⟨H2,⟨k0.trans g.kp,g.clo,g.sub⟩,q⟩
theorem wroteg {x:Says}{nx:L2.St→Hp→Prop}(k0:Kp H0 H)(c:Clo H)(tt:TabOk tb H)(sa:StAt K H k s)(eo:M.EntryOk s.log ⟨s.now,x⟩)(fin:Fin K tb k s c0 H Q)(e:does s c0=guards [Vbtpah.full s] (Vbtpah.write s x [Vbtpah.nat (s.log.length+1)])) :
  uB K tb [.ref k.pk,.int (kd x),.int (ab x:Int),.int (td x:Int),.int (th x:Int),.int (fo x:Int)] H (fgE H0 {nx:=nx,rt:=Q}).rt E0:=by
 obtain ⟨k',s',x',e1,h1,h2,h3,h4,h5,h6⟩:=tX (nx:=nx) c tt sa eo fin e
 refine ⟨k',s',x',e1,h1,h2,h3,h4,fun h D hD=>?_,fun h H' D fr sa' hD hD'=>?_⟩
 ·obtain ⟨H2,g,q⟩:=h5 h D hD
  exact ⟨H2,⟨k0.trans g.kp,g.clo,g.sub⟩,q⟩
 ·obtain ⟨H2,g,q⟩:=h6 h H' D fr sa' hD hD'
  exact ⟨H2,⟨k0.trans g.kp,g.clo,g.sub⟩,q⟩
end
theorem xO {H:Hp}{a b:Addr}{o:HO}(h:H a=none)(h2:H b=some o):a≠b:=fun e=>by rw [e,h2] at h;cases h
section
variable {P:Program}{w:World}{K:zF}{mg:Str→Option Value}{base:Heap}{tb:Addr}
theorem sc_leave_or_come : zK ["park","call","who","leaves"] ["park","call"] (zE (z9 170)):=by walk_at "sc"
theorem ok_leave_or_come (T:Txt P w K mg):Dfn P w K mg base "leave_or_come" ["park","call"] [] 4 (yR K tb 13):=by
 have nd:=sc_leave_or_come.nd
 refine T.d_leave_or_come.ok sc_leave_or_come (fun vs H Q E h=>?_) (fun f cdv A outer s H vs Q E hr h=>?_)
 ·obtain ⟨_,_,_,_,_,_,rfl,_⟩:=h;rfl
 obtain ⟨k,st,a,ns,rows,c0,rfl,hd,fin⟩:=h
 refine ⟨_,(zJ H (zB (zL (i:=2) nd rfl (Or.inl rfl) (zY (yI K) (zZ K (pv 1)) zG (fun _ _=>rfl))) (zB (zL (i:=3) nd rfl (Or.inl rfl) (yO yH (zY (yI K) (zZ K (pv 1)) zG (fun _ _=>rfl)) zG (zN _))) (zB (zX (zP yH (zS (x6 T) (hr.mono (by decide)) (zA (zZ K (pv 0)) (zA (pv 2) zC))) (pv 3) (zN _)) (zD (zI (zT (zA (yW T.g_NOT_HERE_OR_HERE) zC)))) zM) (zD (zI (zS (ok_write_entry_3 (tb:=tb) T) (hr.mono (by decide)) (zA (pv 0) (zA (uT (yC (pv 3)) (yW T.g_LEFT) (yW T.g_CAME)) (zA (pv 2) zC)))))))))),?_⟩
 obtain ⟨w1,b1,rfl⟩:∃ w1 b1,ns=[w1,b1]:=by
  have:=z0 hd.sh (m:=2) rfl
  match ns,this with
  | [w1,b1],_=>exact ⟨w1,b1,rfl⟩
 obtain rfl:rows=[]:=by
  have:=hd.sh.rw_
  have e:(rows.length:Int)=0:=(V.int.inj this).symm
  exact List.eq_nil_of_length_eq_zero (by omega)
 obtain ⟨g,rfl⟩:=zQ (show Vbtpah.guard (Vbtpah.isWho w1&&inside b1 0 1) (.leaves w1.toNat b1.toNat)=some c0 from hd.dc)
 simp only [Bool.and_eq_true] at g;obtain ⟨g1,g2⟩:=g
 obtain ⟨w1,rfl,lo1,hi1⟩:=zW g1 (by decide)
 obtain ⟨b1,rfl,lo2,hi2⟩:=zW g2 (by decide)
 simp only [Int.toNat_natCast] at fin;obtain ⟨L,fl,hL⟩:=vW hd
 have i0:yZ ([(w1:Int),(b1:Int)].map V.int) 0=some (vn w1):=rfl
 have i1:yZ ([(w1:Int),(b1:Int)].map V.int) 1=some (vn b1):=rfl
 have c:=hd.clo
 have tt:=hd.t
 have sa:=hd.st
 have f2:=sa.f2
 have f3:=sa.f3
 have e:does st (.leaves w1 b1)=guards [(isGone st.log w1==(b1==1),-11),Vbtpah.full st] (Vbtpah.write st (if b1=1 then .left w1 else .came w1) [Vbtpah.nat (st.log.length+1)]):=rfl
 refine ⟨_,rfl,_,_,rfl,fl,L,_,_,_,rfl,rfl,hL,i0,?_⟩
 refine ⟨_,rfl,_,_,rfl,fl,L,_,_,_,rfl,rfl,hL,i1,rfl,?_⟩
 have e1:decide (V.int (b1:Int)=V.int 1)=(b1==1):=by
  rw [decI]
  by_cases h:b1=1
  ·subst h;rfl
  ·rw [decide_eq_false (by omega)];exact (beq_eq_false_iff_ne.mpr h).symm
 rw [e1];refine ⟨_,rfl,_,_,rfl,f3,_,rfl,k.le,st.log,w1,rfl,c,sa.log,_,rfl,rfl,_,rfl,?_⟩
 rw [show decide (V.bl (isGone st.log w1)=V.bl (b1==1))=(isGone st.log w1==(b1==1)) by
  cases isGone st.log w1<;>cases (b1==1)<;>decide]
 refine zR (fun h=>⟨yF,fun D hD=>wS c tt sa fin (xF e h) D hD⟩) fun h=>?_
 replace e:=wL e h
 refine ⟨_,rfl,_,rfl,_,rfl,?_⟩
 by_cases h1:b1=1
 ·subst h1
  exact zR (b:=true) (fun _=>⟨_,rfl,tX (x:=.left w1) c tt sa trivial fin e⟩) fun z=>nomatch z
 ·rw [show (b1==1)=false from beq_eq_false_iff_ne.mpr h1]
  rw [if_neg h1] at e;exact zR (b:=false) (fun z=>nomatch z) fun _=>⟨_,rfl,tX (x:=.came w1) c tt sa trivial fin e⟩
theorem sc_finish_order : zK ["park","call","order","who","rides"] ["park","call"] (zE (z9 168)):=by walk_at "sc"
theorem ok_finish_order (T:Txt P w K mg):Dfn P w K mg base "finish_order" ["park","call"] [] 4 (yR K tb 11):=by
 have nd:=sc_finish_order.nd
 refine T.d_finish_order.ok sc_finish_order (fun vs H Q E h=>?_) (fun f cdv A outer s H vs Q E hr h=>?_)
 ·obtain ⟨_,_,_,_,_,_,rfl,_⟩:=h;rfl
 obtain ⟨k,st,a,ns,rows,c0,rfl,hd,fin⟩:=h
 refine ⟨_,(zJ H (zB (zL (i:=2) nd rfl (Or.inl rfl) (zY (yI K) (zZ K (pv 1)) zG (fun _ _=>rfl))) (zB (zL (i:=3) nd rfl (Or.inl rfl) (zY (yI K) (zZ K (pv 1)) zG (fun _ _=>rfl))) (zB (zL (i:=4) nd rfl (Or.inl rfl) (zS (xU T) (hr.mono (by decide)) (zA (zZ K (pv 0)) zC))) (zB (zX (zP w8 (pv 2) (zU (xS K) rfl T.b_len yD (zA (pv 4) zC)) (zN _)) (zD (zI (zT (zA (yW T.g_NO_ORDER) zC)))) zM) (zB (zX (yC (zS (ok_is_finished T) (hr.mono (by decide)) (zA (zZ K (pv 0)) (zA (pv 2) zC)))) (zD (zI (zT (zA (yW T.g_FINISHED_ALREADY) zC)))) zM) (zB (zX (yC (zS (x6 T) (hr.mono (by decide)) (zA (zZ K (pv 0)) (zA (pv 3) zC)))) (zD (zI (zT (zA (yW T.g_NOT_HERE_OR_HERE) zC)))) zM) (zB (zX (xG (yC (zS (vO T) (hr.mono (by decide)) (zA (pv 0) (zA (zY (yI K) (pv 4) (yG wQ (pv 2) zG) (fun _ _=>rfl)) (zA (pv 3) zC)))))) (zD (zI (zT (zA (yW T.g_LOCK_ON_OR_OFF) zC)))) zM) (zD (zI (zS (xA (tb:=tb) T) (hr.mono (by decide)) (zA (pv 0) (zA (yW T.g_FINISHED) (zA (pv 2) (zA (pv 3) zC))))))))))))))),?_⟩
 obtain ⟨o1,w1,rfl⟩:∃ o1 w1,ns=[o1,w1]:=by
  have:=z0 hd.sh (m:=2) rfl
  match ns,this with
  | [o1,w1],_=>exact ⟨o1,w1,rfl⟩
 obtain rfl:rows=[]:=by
  have:=hd.sh.rw_
  have e:(rows.length:Int)=0:=(V.int.inj this).symm
  exact List.eq_nil_of_length_eq_zero (by omega)
 obtain ⟨g,rfl⟩:=zQ (show Vbtpah.guard (inside o1 1 250&&Vbtpah.isWho w1) (.finish o1.toNat w1.toNat)=some c0 from hd.dc)
 simp only [Bool.and_eq_true] at g;obtain ⟨g1,g2⟩:=g
 obtain ⟨o1,rfl,lo1,hi1⟩:=zW g1 (by decide)
 obtain ⟨w1,rfl,lo2,hi2⟩:=zW g2 (by decide)
 simp only [Int.toNat_natCast] at fin;obtain ⟨L,fl,hL⟩:=vW hd
 have i0:yZ ([(o1:Int),(w1:Int)].map V.int) 0=some (vn o1):=rfl
 have i1:yZ ([(o1:Int),(w1:Int)].map V.int) 1=some (vn w1):=rfl
 have c:=hd.clo
 have tt:=hd.t
 have sa:=hd.st
 have f2:=sa.f2
 have f3:=sa.f3
 have e:does st (.finish o1 w1)=guards [(decide ((ordersIn st.log).length < o1),-15),(isFinished st.log o1,-16),(isGone st.log w1,-11),(!(locksOn st.log (((ordersIn st.log)[o1 - 1]?).getD 0)).contains w1,-12),Vbtpah.full st] (Vbtpah.write st (.finished o1 w1) [Vbtpah.nat (st.log.length+1)]):=rfl
 refine ⟨_,rfl,_,_,rfl,fl,L,_,_,_,rfl,rfl,hL,i0,?_⟩
 refine ⟨_,rfl,_,_,rfl,fl,L,_,_,_,rfl,rfl,hL,i1,?_⟩
 refine ⟨_,rfl,_,_,rfl,f3,k.le,st.log,rfl,c,sa.log,sa.n250,fun DR hDR=>?_⟩
 have lv:=(Lv.of tt (Same.refl _) c).new (xs:=(ordersIn st.log).map vn) hDR
 have aR:(upd H DR (.lst ((ordersIn st.log).map vn))) DR=some (.lst ((ordersIn st.log).map vn)):=upd_same
 generalize upd H DR (.lst ((ordersIn st.log).map vn))=H1 at lv aR ⊢
 replace fin:=fin.shift lv
 replace sa:=sa.mono lv.s
 replace f3:=sa.f3
 replace c:=lv.c
 replace tt:=lv.b
 refine ⟨_,rfl,_,rfl,DR,_,rfl,.inl (SqL.of aR),_,_,rfl,rfl,_,rfl,?_⟩
 rw [List.length_map,tJ];refine zR (fun h=>⟨yF,fun D hD=>tE lv.k c tt sa fin (xF e h) D hD⟩) fun hlen=>?_
 replace e:=wL e hlen
 refine ⟨_,rfl,_,_,rfl,f3,_,rfl,k.le,st.log,o1,rfl,c,sa.log,sa.n250,_,rfl,?_⟩
 refine zR (fun h=>⟨yF,fun D hD=>tE lv.k c tt sa fin (xF e h) D hD⟩) fun h=>?_
 replace e:=wL e h
 refine ⟨_,rfl,_,_,rfl,f3,_,rfl,k.le,st.log,w1,rfl,c,sa.log,_,rfl,?_⟩
 refine zR (fun h=>⟨yF,fun D hD=>tE lv.k c tt sa fin (xF e h) D hD⟩) fun h=>?_
 replace e:=wL e h
 have lo:o1 - 1 < (ordersIn st.log).length:=by have:=of_decide_eq_false hlen;omega
 obtain ⟨rr,hrr⟩:∃ rr,(ordersIn st.log)[o1 - 1]? = some rr:=⟨_,List.getElem?_eq_getElem lo⟩
 rw [hrr] at e
 change does st (.finish o1 w1)=guards [(!(locksOn st.log rr).contains w1,-12),Vbtpah.full st] _ at e
 have ir:yZ ((ordersIn st.log).map vn) ((o1:Int) - 1)=some (vn rr):=t8 (by omega) (by rw [List.getElem?_map,hrr];rfl)
 refine ⟨_,rfl,_,rfl,_,rfl,_,_,rfl,rfl,DR,_,_,_,rfl,rfl,SqL.of aR,ir,_,rfl,k,st,rr,w1,rfl,c,sa,_,rfl,?_⟩
 refine zR (fun h=>⟨yF,fun D hD=>tE lv.k c tt sa fin (xF e h) D hD⟩) fun h=>?_
 replace e:=wL e h
 exact ⟨_,rfl,_,rfl,_,rfl,wroteg (x:=.finished o1 w1) lv.k c tt sa trivial fin e⟩
theorem sc_order_work : zK ["park","call","ride","answer"] ["park","call"] (zE (z9 167)):=by walk_at "sc"
theorem ok_order_work (T:Txt P w K mg):Dfn P w K mg base "order_work" ["park","call"] [] 4 (yR K tb 10):=by
 have nd:=sc_order_work.nd
 refine T.d_order_work.ok sc_order_work (fun vs H Q E h=>?_) (fun f cdv A outer s H vs Q E hr h=>?_)
 ·obtain ⟨_,_,_,_,_,_,rfl,_⟩:=h;rfl
 obtain ⟨k,st,a,ns,rows,c0,rfl,hd,fin⟩:=h
 refine ⟨_,(zJ H (zB (zL (i:=2) nd rfl (Or.inl rfl) (zY (yI K) (zZ K (pv 1)) zG (fun _ _=>rfl))) (zB (zX (xG (yC (zS (yX T) (hr.mono (by decide)) (zA (zZ K (pv 0)) (zA (pv 2) zC))))) (zD (zI (zT (zA (yW T.g_NO_RIDE) zC)))) zM) (zB (zL (i:=3) nd rfl (Or.inl rfl) (zS (ok_write_entry_3 (tb:=tb) T) (hr.mono (by decide)) (zA (pv 0) (zA (yW T.g_ORDERED) (zA (pv 2) zC))))) (zB (zX (zP yH (zY (yI K) (pv 3) zG (fun _ _=>rfl)) zG (zN _)) (zD (yL (bmK K PySem.F.plainAttrs_list PySem.F.slot_list_append PySem.F.type_list_append yM (pv 3) (zA (zU (xS K) rfl T.b_len yD (zA (zS (xU T) (hr.mono (by decide)) (zA (zZ K (pv 0)) zC)) zC)) zC)))) zM) (zD (zI (pv 3)))))))),?_⟩
 obtain ⟨r,rfl⟩:∃ r,ns=[r]:=by
  have:=z0 hd.sh (m:=1) rfl
  match ns,this with
  | [r],_=>exact ⟨r,rfl⟩
 obtain rfl:rows=[]:=by
  have:=hd.sh.rw_
  have e:(rows.length:Int)=0:=(V.int.inj this).symm
  exact List.eq_nil_of_length_eq_zero (by omega)
 obtain ⟨g,rfl⟩:=zQ (show Vbtpah.guard (Vbtpah.isRide r) (.order r.toNat)=some c0 from hd.dc)
 have g1:=g
 obtain ⟨r,rfl,lo1,hi1⟩:=zW g1 (by decide)
 simp only [Int.toNat_natCast] at fin;obtain ⟨L,fl,hL⟩:=vW hd
 have i0:yZ ([(r:Int)].map V.int) 0=some (vn r):=rfl
 have c:=hd.clo
 have tt:=hd.t
 have sa:=hd.st
 have f2:=sa.f2
 have f3:=sa.f3
 obtain ⟨q,dpl,hq0,hq,fp,d,rfl,pm,wf⟩:=yT hd rfl
 have e:does st (.order r)=guards [(decide (q.rides.length < r),-5),Vbtpah.full st] (Vbtpah.write st (.ordered r) [Vbtpah.nat (st.log.length+1),Vbtpah.nat ((ordersIn st.log).length+1)]):=by rw [← hq];rfl
 refine ⟨_,rfl,_,_,rfl,fl,L,_,_,_,rfl,rfl,hL,i0,?_⟩
 have gr:(!decide (r≤q.rides.length))=decide (q.rides.length < r):=by by_cases h:r≤q.rides.length<;>simp [h]<;>omega
 refine ⟨_,rfl,_,_,rfl,fp,_,rfl,d.pl,q,r,rfl,c,pm.at_,_,rfl,?_⟩
 refine zR (b:=!decide (r≤q.rides.length)) (fun h=>⟨yF,fun D hD=>wS c tt sa fin (xF e (gr.symm.trans h)) D hD⟩) fun h=>?_
 rw [gr] at h
 replace e:=wL e h
 refine ⟨_,rfl,_,rfl,k,st,.ordered r,rfl,c,tt,sa,trivial,fun hfull D hD=>?_,fun hfull H1 D fr sa1 hD hD1=>?_⟩
 ·have l1:=(Lv.of tt (Same.refl _) c).new (xs:=[.int (-4)]) hD
  have aD:(upd H D (.lst [.int (-4)])) D=some (.lst [.int (-4)]):=upd_same
  refine ⟨_,rfl,D,_,_,_,rfl,rfl,SqL.of aD,(rfl:yZ [V.int (-4)] 0=some (V.int (-4))),rfl,_,rfl,?_⟩
  refine zR (fun z=>absurd z (by decide)) fun _=>?_
  refine ⟨_,rfl,wS c tt sa fin ?_ D hD⟩
  rw [e];unfold Vbtpah.full;rw [xT,if_pos (decide_eq_true (show Vbtpah.ENTRIES≤_ from hfull))]
 ·have lD:=(Lv.of fr.b (Same.refl _) fr.c).new (xs:=[V.int 0,V.int ((st.log.length:Int)+1)]) hD1
  have aD0:(upd H1 D (.lst [V.int 0,V.int ((st.log.length:Int)+1)])) D=some (.lst [V.int 0,V.int ((st.log.length:Int)+1)]):=upd_same
  have saD:=sa1.mono lD.s
  have sD:=Same.new (o:=.lst [V.int 0,V.int ((st.log.length:Int)+1)]) hD1
  generalize upd H1 D (.lst [V.int 0,V.int ((st.log.length:Int)+1)])=HD at lD aD0 saD sD ⊢
  refine ⟨_,rfl,D,_,_,_,rfl,rfl,SqL.of aD0,(rfl:yZ [V.int 0,V.int ((st.log.length:Int)+1)] 0=some (V.int 0)),rfl,_,rfl,?_⟩
  refine zR (fun _=>?_) fun z=>absurd z (by decide)
  refine ⟨_,rfl,.inl ⟨rfl,_,SqL.of aD0⟩,_,rfl,_,_,rfl,saD.f3,k.le,_,rfl,lD.c,saD.log,saD.n250,fun DR hDR=>?_⟩
  have sR:=Same.new (o:=.lst ((ordersIn (st.log++[⟨st.now,.ordered r⟩])).map vn)) hDR
  have aD:=sR _ _ aD0
  have aR:(upd HD DR (.lst ((ordersIn (st.log++[⟨st.now,.ordered r⟩])).map vn))) DR=some (.lst ((ordersIn (st.log++[⟨st.now,.ordered r⟩])).map vn)):=upd_same
  have lR:=lD.new (xs:=(ordersIn (st.log++[⟨st.now,.ordered r⟩])).map vn) hDR
  refine ⟨DR,_,rfl,.inl (SqL.of aR),D,_,_,rfl,rfl,aD,(by decide:(2:Nat) < sizeLine),?_⟩
  have el:((ordersIn (st.log++[⟨st.now,.ordered r⟩])).map vn).length=(ordersIn st.log).length+1:=by
   rw [List.length_map];unfold ordersIn;rw [List.filterMap_append,List.length_append];rfl
  rw [el];have l3:=lR.lst (ys:=[V.int 0,V.int ((st.log.length:Int)+1)]++[V.int (((ordersIn st.log).length+1:Nat):Int)]) hD1 aD
  have fr3:=fr.trans (Fr.of l3)
  refine ⟨_,rfl,_,⟨fr3.k,fr3.c,Same.refl _⟩,fin {st with log:=st.log++[⟨st.now,.ordered r⟩]} [0,(st.log.length:Int)+1,(((ordersIn st.log).length+1:Nat):Int)] _ D ?_ fr3 (sa1.mono l3.s) hD upd_same⟩
  unfold ansS;rw [e];unfold Vbtpah.full;rw [xT,if_neg (by rw [decide_eq_false (show ¬ Vbtpah.ENTRIES≤_ by show ¬ 250≤_;omega)];exact Bool.false_ne_true)]
  rfl
end
end My
namespace My
open PySem PySem.Spec PyProof.Rows L2
open Vbtpah (Says Log Reading Park Sensor Ride Rule Check)
open Vbtpah (does guards inside decode isGone locksOn ordersIn isFinished leftOf roundsLeft whyNot readPark)
def letF (log:Log)(r t n:Nat)(x:Check×Nat):Bool:=decide (x.1.ride=r∧x.1.byDays=false)&&decide (leftOf x.1 log x.2 t < n)
def spLet (K:zF):Sp:=fun vs H Q _=>∃ (k:Pk) (s:Vbtpah.State) (q:Park) (r n:Nat),vs=[.ref k.pk,vn r,vn n]∧Clo H∧StAt K H k s∧s.park=some q∧Q (.bl (!((roundsLeft q s.log r s.now).any fun j=>decide (j < n)))) H
section
variable {P:Program}{w:World}{K:zF}{mg:Str→Option Value}{base:Heap}{tb:Addr}
theorem sc_checks_let : zK ["park","ride","rounds","number","check"] ["park","ride","rounds"] (zE (z9 161)):=by walk_at "sc"
theorem ok_checks_let (T:Txt P w K mg):Dfn P w K mg base "checks_let" ["park","ride","rounds"] [] 3 (spLet K):=by
 have nd:=sc_checks_let.nd
 refine T.d_checks_let.ok sc_checks_let (fun vs H Q E h=>?_) (fun f cdv A outer s H vs Q E hr h=>?_)
 ·obtain ⟨_,_,_,_,_,rfl,_⟩:=h;rfl
 obtain ⟨k,st,q,r,n,rfl,c,sa,hq,qq⟩:=h
 refine ⟨_,(zJ H (zB (xH PassesOwn.never rfl (t7 K T.b_enumerate (zA (zZ K (zZ K (pv 0))) zC) (vE zG uF)) (vR H (u9 K (n:=2) rfl (yA (zV (i:=3) nd rfl (Or.inl rfl)) (yA (zV (i:=4) nd rfl (Or.inl rfl)) xN)))) (zJ H (zD (zX (PW.pt (wU (zP yH (zZ K (pv 4)) (pv 1) (zN _)) (wD (xG (yC (zZ K (pv 4))))))) (zD (zX (zP op_lt (zS (vV T) (hr.mono (by decide)) (zA (pv 4) (zA (pv 3) (zA (zZ K (pv 0)) (zA (zZ K (pv 0)) zC))))) (pv 2) (zN _)) (zD (zI uU)) zM)) zM)))) (zD (zI uU)))),?_⟩
 obtain ⟨d,fp,pm,wf⟩:=sa.f1 hq
 have f2:=sa.f2
 have f3:=sa.f3
 obtain ⟨l4,f4,as,hs,ha⟩:=pm.at_.ck
 rw [M.rounds_any] at qq
 change Q (.bl (!((q.checks.zipIdx 1).any (letF st.log r st.now n)))) H at qq
 refine ⟨_,rfl,_,_,rfl,fp,_,_,rfl,f4,l4,_,rfl,rfl,hs,wK (K:=K) (a:=l4) (xs:=as.map V.ref) (fun i σ H'=>∃ v v',σ=[some (.ref k.pk),some (vn r),some (vn n),v,v']∧H'=H∧((q.checks.take i).zipIdx 1).any (letF st.log r st.now n)=false)
  ⟨none,none,rfl,rfl,rfl⟩ (fun i σ H' _ ⟨_,_,_,e,_⟩=>by rw [e];exact ⟨hs,c,Kp.refl H⟩) ?_ ?_⟩
 ·rintro i y σ H' hi ⟨v,v',rfl,rfl,hn⟩
  obtain ⟨a,hx,rfl⟩:=yB hi
  obtain ⟨x,hk,ak⟩:=ha.getA hx
  have ri:=ak.ri
  have bd:=ak.bd
  have lt:=(List.getElem?_eq_some_iff.mp hk).1
  have li:(q.checks.take i).length=i:=by rw [List.length_take];omega
  have nx:((q.checks.take (i+1)).zipIdx 1).any (letF st.log r st.now n)=letF st.log r st.now n (x,i+1):=by
   rw [yE hk,List.zipIdx_append,List.any_append,hn,Bool.false_or,li,Nat.add_comm 1 i];simp only [List.zipIdx_cons,List.zipIdx_nil,List.any_cons,List.any_nil,Bool.or_false]
  have go:letF st.log r st.now n (x,i+1)=false→∃ H2,Fg H' H' H2∧∃ v v',[some (V.ref k.pk),some (vn r),some (vn n),some (V.int ((i:Int)+1)),some (V.ref a)]=[some (.ref k.pk),some (vn r),some (vn n),v,v']∧H2=H'∧((q.checks.take (i+1)).zipIdx 1).any (letF st.log r st.now n)=false:=fun e=>⟨_,Fg.self c (Same.refl _),_,_,rfl,rfl,by rw [nx];exact e⟩
  refine ⟨_,rfl,_,_,rfl,ri,_,rfl,rfl,_,rfl,?_⟩
  refine zR ?_ ?_
  ·intro h1
   have z1:x.ride=r:=by have:=y8 h1;omega
   refine ⟨_,rfl,_,_,rfl,bd,_,rfl,?_⟩
   cases hbd:x.byDays with
   | true =>
    refine zR (b:=!true) (fun z=>absurd z (by decide)) fun _=>?_
    exact go (by unfold letF;simp [hbd])
   | false =>
    refine zR (b:=!false) (fun _=>?_) fun z=>absurd z (by decide)
    refine ⟨_,rfl,_,rfl,_,rfl,_,_,rfl,f3,_,rfl,_,_,rfl,f2,a,k.le,x,i+1,st.now,st.log,rfl,c,ak,sa.log,sa.n250,_,rfl,_,_,rfl,rfl,_,rfl,?_⟩
    rw [tJ];refine zR ?_ ?_
    ·intro h2
     have yes:letF st.log r st.now n (x,i+1)=true:=by unfold letF;rw [decide_eq_true ⟨z1,hbd⟩,h2];rfl
     have : (q.checks.zipIdx 1).any (letF st.log r st.now n)=true:=by
      rw [List.any_eq_true];refine ⟨(x,i+1),?_,yes⟩
      rw [List.mem_zipIdx_iff_le_and_getElem?_sub];exact ⟨by omega,by simpa using hk⟩
     rw [this] at qq;exact ⟨_,Fg.self c (Same.refl _),_,Fg.self c (Same.refl _),qq⟩
    ·intro h2
     exact go (by unfold letF;rw [h2,Bool.and_false])
  ·intro h1
   have z1:x.ride≠r:=by have:=y9 h1;omega
   exact go (by unfold letF;simp [z1])
 ·rintro σ H' ⟨v,v',rfl,rfl,hn⟩
  rw [List.length_map,ha.len,List.take_length] at hn;rw [hn] at qq;exact ⟨_,Fg.self c (Same.refl _),qq⟩
theorem sc_run_ride : zK ["park","call","ride","rounds"] ["park","call"] (zE (z9 162)):=by walk_at "sc"
theorem ok_run_ride (T:Txt P w K mg)(B:TabTxt K mg tb):Dfn P w K mg base "run_ride" ["park","call"] [] 6 (yR K tb 5):=by
 have nd:=sc_run_ride.nd
 refine T.d_run_ride.ok sc_run_ride (fun vs H Q E h=>?_) (fun f cdv A outer s H vs Q E hr h=>?_)
 ·obtain ⟨_,_,_,_,_,_,rfl,_⟩:=h;rfl
 obtain ⟨k,st,a,ns,rows,c0,rfl,hd,fin⟩:=h
 refine ⟨_,(zJ H (zB (zL (i:=2) nd rfl (Or.inl rfl) (zY (yI K) (zZ K (pv 1)) zG (fun _ _=>rfl))) (zB (zL (i:=3) nd rfl (Or.inl rfl) (zY (yI K) (zZ K (pv 1)) zG (fun _ _=>rfl))) (zB (zX (xG (yC (zS (yX T) (hr.mono (by decide)) (zA (zZ K (pv 0)) (zA (pv 2) zC))))) (zD (zI (zT (zA (yW T.g_NO_RIDE) zC)))) zM) (zB (zX (zP w8 (zU (xS K) rfl T.b_len yD (zA (zS (xV T B) (hr.mono (by decide)) (zA (zZ K (pv 0)) (zA (zZ K (pv 0)) (zA (pv 2) (zA (zZ K (pv 0)) zC))))) zC)) zG (zN _)) (zD (zI (zT (zA (yW T.g_MAY_NOT_RUN) zC)))) zM) (zB (zX (xG (yC (zS (ok_checks_let T) (hr.mono (by decide)) (zA (pv 0) (zA (pv 2) (zA (pv 3) zC)))))) (zD (zI (zT (zA (yW T.g_TOO_MANY_ROUNDS) zC)))) zM) (zD (zI (zS (xA (tb:=tb) T) (hr.mono (by decide)) (zA (pv 0) (zA (yW T.g_RAN) (zA (pv 2) (zA (pv 3) zC))))))))))))),?_⟩
 obtain ⟨r,m,rfl⟩:∃ r m,ns=[r,m]:=by
  have:=z0 hd.sh (m:=2) rfl
  match ns,this with
  | [r,m],_=>exact ⟨r,m,rfl⟩
 obtain rfl:rows=[]:=by
  have:=hd.sh.rw_
  have e:(rows.length:Int)=0:=(V.int.inj this).symm
  exact List.eq_nil_of_length_eq_zero (by omega)
 obtain ⟨g,rfl⟩:=zQ (show Vbtpah.guard (Vbtpah.isRide r&&inside m 1 1000) (.run r.toNat m.toNat)=some c0 from hd.dc)
 simp only [Bool.and_eq_true] at g;obtain ⟨g1,g2⟩:=g
 obtain ⟨r,rfl,lo1,hi1⟩:=zW g1 (by decide)
 obtain ⟨m,rfl,lo2,hi2⟩:=zW g2 (by decide)
 simp only [Int.toNat_natCast] at fin;obtain ⟨L,fl,hL⟩:=vW hd
 have i0:yZ ([(r:Int),(m:Int)].map V.int) 0=some (vn r):=rfl
 have i1:yZ ([(r:Int),(m:Int)].map V.int) 1=some (vn m):=rfl
 have c:=hd.clo
 have tt:=hd.t
 have sa:=hd.st
 have f2:=sa.f2
 have f3:=sa.f3
 obtain ⟨q,dpl,hq0,hq,fp,d,rfl,pm,wf⟩:=yT hd rfl
 have e:does st (.run r m)=guards [(decide (q.rides.length < r),-5),(!(whyNot q st.log r st.now).isEmpty,-9),((roundsLeft q st.log r st.now).any fun j=>decide (j < m),-10),Vbtpah.full st] (Vbtpah.write st (.ran r m) [Vbtpah.nat (st.log.length+1)]):=by rw [← hq];rfl
 refine ⟨_,rfl,_,_,rfl,fl,L,_,_,_,rfl,rfl,hL,i0,?_⟩
 refine ⟨_,rfl,_,_,rfl,fl,L,_,_,_,rfl,rfl,hL,i1,?_⟩
 have gr:(!decide (r≤q.rides.length))=decide (q.rides.length < r):=by by_cases h:r≤q.rides.length<;>simp [h]<;>omega
 refine ⟨_,rfl,_,_,rfl,fp,_,rfl,d.pl,q,r,rfl,c,pm.at_,_,rfl,?_⟩
 refine zR (b:=!decide (r≤q.rides.length)) (fun h=>⟨yF,fun D hD=>wS c tt sa fin (xF e (gr.symm.trans h)) D hD⟩) fun h=>?_
 rw [gr] at h
 replace e:=wL e h
 have r2:r≤q.rides.length:=by have:=of_decide_eq_false h;omega
 refine ⟨_,rfl,_,_,rfl,fp,_,rfl,_,_,rfl,f3,_,rfl,_,rfl,_,_,rfl,f2,d.pl,k.le,q,st.log,r,st.now,rfl,c,tt,pm.at_,wf.toPlanWf,by omega,r2,sa.log,sa.n250,sa.ok,fun H1 D1 ts lv hD0 hD1 al=>?_⟩
 replace fin:=fin.shift lv
 replace sa:=sa.mono lv.s
 replace f3:=sa.f3
 replace f2:=sa.f2
 replace c:=lv.c
 replace tt:=lv.b
 refine ⟨D1,_,rfl,.inl (SqL.of hD1),_,_,rfl,rfl,_,rfl,?_⟩
 have ee:decide (((ts.map V.ref).length:Int) > 0) = !(whyNot q st.log r st.now).isEmpty:=by
  rw [List.length_map,al.len]
  cases whyNot q st.log r st.now with
  | nil=>rfl
  | cons a l=>simp
 refine zR (fun h=>⟨yF,fun D hD=>tE lv.k c tt sa fin (xF e (ee.symm.trans h)) D hD⟩) fun h=>?_
 replace e:=wL e (ee.symm.trans h)
 refine ⟨_,rfl,_,rfl,_,rfl,k,st,q,r,m,rfl,c,sa,hq0,_,rfl,?_⟩
 refine zR (fun h=>⟨yF,fun D hD=>tE lv.k c tt sa fin (xF e ((Bool.not_not _).symm.trans h)) D hD⟩) fun h=>?_
 replace e:=wL e ((Bool.not_not _).symm.trans h)
 exact ⟨_,rfl,_,rfl,_,rfl,wroteg (x:=.ran r m) lv.k c tt sa trivial fin e⟩
end
end My
namespace My
open PySem PySem.Spec PyProof.Rows L2
open Vbtpah (Says Log Reading Park Sensor Ride Rule Check)
open Vbtpah (does guards inside decode readPark nats)
theorem text_nat {t:List Int}(h:Vbtpah.isText t=true):(nats t).length≤2000∧t.map V.int=(nats t).map vn:=by
 unfold Vbtpah.isText at h;rw [Bool.and_eq_true] at h;have h1:=of_decide_eq_true h.1
 refine ⟨by unfold nats;rw [List.length_map];exact h1,?_⟩
 unfold nats;rw [List.map_map];refine List.map_congr_left fun z hz=>?_
 have:=List.all_eq_true.mp h.2 z hz
 rw [wA,Bool.and_eq_true] at this;have h2:=of_decide_eq_true this.1
 show V.int z=V.int ((z.toNat:Nat):Int)
 rw [Int.toNat_of_nonneg h2]
theorem printed_len {p:Park}(wf:Wf p):(Vbtpah.printed p).length≤56 * 101:=by
 rw [tN,List.length_flatten,List.map_map];have:=sum_le (List.length∘fun t:List Nat=>t++[10]) 101 (u1 p) fun t ht=>by
  have:=wf.tx t ht
  show (t++[10]).length≤101
  rw [List.length_append];simp;omega
 have l:(u1 p).length≤56:=by
  unfold u1 w9 xW xQ wX;simp only [List.length_append,List.length_map];have:=wf.se
  have:=wf.ri
  have:=wf.ru
  have:=wf.ck
  omega
 exact Nat.le_trans this (Nat.mul_le_mul_right _ l)
def sizesI (p:Park):List Int:=[Vbtpah.nat p.sensors.length,Vbtpah.nat p.rides.length,Vbtpah.nat p.rules.length,Vbtpah.nat p.checks.length]
section
variable {P:Program}{w:World}{K:zF}{mg:Str→Option Value}{base:Heap}{tb:Addr}
theorem sc_check_text : zK ["park","call","plan"] ["park","call"] (zE (z9 157)):=by walk_at "sc"
theorem ok_check_text (T:Txt P w K mg):Dfn P w K mg base "check_text" ["park","call"] [] 7 (yR K tb 1):=by
 have nd:=sc_check_text.nd
 refine T.d_check_text.ok sc_check_text (fun vs H Q E h=>?_) (fun f cdv A outer s H vs Q E hr h=>?_)
 ·obtain ⟨_,_,_,_,_,_,rfl,_⟩:=h;rfl
 obtain ⟨k,st,a,ns,rows,c0,rfl,hd,fin⟩:=h
 refine ⟨_,(zJ H (zB (zL (i:=2) nd rfl (Or.inl rfl) (zS (ok_read_plan T) (hr.mono (by decide)) (zA (zY (yI K) (zZ K (pv 1)) zG (fun _ _=>rfl)) zC))) (zB (zX (zP tH (zZ K (pv 2)) zG (zN _)) (zD (zI (zT (zA zG (zA zG (zA (zZ K (pv 2)) (zA (zZ K (pv 2)) zC))))))) zM) (zD (zI (yG wH (zT (zA zG (zA zG zC))) (zS (ok_plan_sizes T) (hr.mono (by decide)) (zA (pv 2) zC)))))))),?_⟩
 obtain rfl:ns=[]:=List.eq_nil_of_length_eq_zero (z0 hd.sh (m:=0) rfl)
 obtain ⟨t,rfl⟩:∃ t,rows=[t]:=by
  have:=hd.sh.rw_
  have e:(rows.length:Int)=1:=(V.int.inj this).symm
  have e2:rows.length=1:=by omega
  match rows,e2 with
  | [t],_=>exact ⟨t,rfl⟩
 obtain ⟨g,rfl⟩:=zQ (show Vbtpah.guard (Vbtpah.isText t) (.check t)=some c0 from hd.dc)
 obtain ⟨tl,tv⟩:=text_nat g
 obtain ⟨R,bs,fr0,hR,hb⟩:=hd.ca.rl
 obtain ⟨b0,hb0,rb0⟩:=hb.get (i:=0) rfl
 rw [tv] at rb0;have i0:yZ (bs.map V.ref) 0=some (V.ref b0):=xI (n:=0) rfl (by rw [List.getElem?_map,hb0];rfl)
 have c:=hd.clo
 have tt:=hd.t
 have sa:=hd.st
 refine ⟨_,rfl,_,_,rfl,fr0,R,_,_,_,rfl,rfl,hR,i0,b0,nats t,rfl,c,rb0,tl,fun e H1 x he s1 c1 fw fwl hk=>?_,fun p H1 d hp s1 c1 pn pm wf=>?_⟩
 ·have lv:=Lv.of tt s1 c1
  have ds:does st (.check t) = .ok (st,[1,Vbtpah.nat e.kind,Vbtpah.nat e.line]):=by show (match readPark (nats t) with | .error e=>_ | .ok p=>_)=_;rw [he]
  refine ⟨_,rfl,_,_,rfl,fw,rfl,_,rfl,?_⟩
  refine zR (fun _=>?_) fun z=>absurd z (by rw [show decide (vn e.kind=V.int 0)=false from decide_eq_false (fun z=>hk (by have:=V.int.inj z;omega))];decide)
  refine ⟨_,rfl,_,_,rfl,fw,_,rfl,_,_,rfl,fwl,yF,fun D hD=>?_⟩
  exact retL (lv.new (xs:=[V.int 0,V.int 1,vn e.kind,vn e.line]) hD) sa fin ds (lv.none' hD) upd_same
 ·have lv:=Lv.of tt s1 c1
  have ds:does st (.check t) = .ok (st,0::sizesI p):=by show (match readPark (nats t) with | .error e=>_ | .ok p=>_)=_;rw [hp];rfl
  refine ⟨_,rfl,_,_,rfl,pm.f5,rfl,_,rfl,?_⟩
  refine zR (fun z=>absurd z (by decide)) fun _=>?_
  refine ⟨yF,fun D1 hD1=>?_⟩
  have l1:=lv.new (xs:=[V.int 0,V.int 0]) hD1
  refine ⟨_,rfl,d.pl,p,rfl,l1.c,pm.at_.mono (Same.new hD1).t,fun D2 hD2=>?_⟩
  have l2:=l1.new (xs:=uP p) hD2
  refine ⟨D1,D2,[V.int 0,V.int 0],uP p,rfl,rfl,by rw [zH (zO upd_same hD2)];exact upd_same,upd_same,(by decide:(2:Nat)+4≤sizeLine),fun D hD=>?_⟩
  exact retL (l2.new (xs:=[V.int 0,V.int 0]++uP p) hD) sa fin ds (l2.none' hD) upd_same
theorem sc_tell_park : zK ["park","call","plan"] ["park","call"] (zE (z9 156)):=by walk_at "sc"
theorem ok_tell_park (T:Txt P w K mg):Dfn P w K mg base "tell_park" ["park","call"] [] 7 (yR K tb 0):=by
 have nd:=sc_tell_park.nd
 refine T.d_tell_park.ok sc_tell_park (fun vs H Q E h=>?_) (fun f cdv A outer s H vs Q E hr h=>?_)
 ·obtain ⟨_,_,_,_,_,_,rfl,_⟩:=h;rfl
 obtain ⟨k,st,a,ns,rows,c0,rfl,hd,fin⟩:=h
 refine ⟨_,(zJ H (zB (zX (zP op_notN (zZ K (pv 0)) uS (zN _)) (zD (zI (zT (zA (yW T.g_PARK_TOLD) zC)))) zM) (zB (zL (i:=2) nd rfl (Or.inl rfl) (zS (ok_read_plan T) (hr.mono (by decide)) (zA (zY (yI K) (zZ K (pv 1)) zG (fun _ _=>rfl)) zC))) (zB (zX (zP tH (zZ K (pv 2)) zG (zN _)) (zD (zI (zT (zA (yW T.g_TEXT_WRONG) zC)))) zM) (zB (xB K (pv 0) (pv 2)) (zD (zI (yG wH (zT (zA zG zC)) (zS (ok_plan_sizes T) (hr.mono (by decide)) (zA (pv 2) zC)))))))))),?_⟩
 obtain rfl:ns=[]:=List.eq_nil_of_length_eq_zero (z0 hd.sh (m:=0) rfl)
 obtain ⟨t,rfl⟩:∃ t,rows=[t]:=by
  have:=hd.sh.rw_
  have e:(rows.length:Int)=1:=(V.int.inj this).symm
  have e2:rows.length=1:=by omega
  match rows,e2 with
  | [t],_=>exact ⟨t,rfl⟩
 obtain ⟨g,rfl⟩:=zQ (show Vbtpah.guard (Vbtpah.isText t) (.opens t)=some c0 from hd.dc)
 obtain ⟨tl,tv⟩:=text_nat g
 obtain ⟨R,bs,fr0,hR,hb⟩:=hd.ca.rl
 obtain ⟨b0,hb0,rb0⟩:=hb.get (i:=0) rfl
 rw [tv] at rb0;have i0:yZ (bs.map V.ref) 0=some (V.ref b0):=xI (n:=0) rfl (by rw [List.getElem?_map,hb0];rfl)
 have c:=hd.clo
 have tt:=hd.t
 have sa:=hd.st
 cases hp0:st.park with
 | some q0 =>
  obtain ⟨d0,fp,_,_⟩:=sa.f1 hp0
  have ds:does st (.opens t) = .error (-3):=by
   show guards [(st.park.isSome,-3)] _=_
   rw [xT,if_pos (by rw [hp0];rfl)]
  refine ⟨_,rfl,_,_,rfl,fp,rfl,_,rfl,?_⟩
  refine zR (fun _=>⟨yF,fun D hD=>wS c tt sa fin ds D hD⟩) fun z=>absurd z (by simp)
 | none =>
 have fp:=sa.f0 hp0
 have ds0:does st (.opens t)=(match readPark (nats t) with
  | .error _=>.error (-13)
  | .ok p=>.ok ({st with park:=some p},sizesI p)):=by
   show guards [(st.park.isSome,-3)] _=_
   rw [xT,if_neg (by rw [hp0];exact Bool.false_ne_true)]
   rfl
 refine ⟨_,rfl,_,_,rfl,fp,rfl,_,rfl,?_⟩
 refine zR (fun z=>absurd z (by simp)) fun _=>?_
 refine ⟨_,rfl,_,_,rfl,fr0,R,_,_,_,rfl,rfl,hR,i0,b0,nats t,rfl,c,rb0,tl,fun e H1 x he s1 c1 fw fwl hk=>?_,fun p H1 d hp s1 c1 pn pm wf=>?_⟩
 ·have lv:=Lv.of tt s1 c1
  rw [he] at ds0;refine ⟨_,rfl,_,_,rfl,fw,rfl,_,rfl,?_⟩
  refine zR (fun _=>?_) fun z=>absurd z (by rw [show decide (vn e.kind=V.int 0)=false from decide_eq_false (fun z=>hk (by have:=V.int.inj z;omega))];decide)
  exact ⟨yF,fun D hD=>tE lv.k lv.c lv.b (sa.mono lv.s) (fin.shift lv) ds0 D hD⟩
 ·have lv:=Lv.of tt s1 c1
  rw [hp] at ds0;refine ⟨_,rfl,_,_,rfl,pm.f5,rfl,_,rfl,?_⟩
  refine zR (fun z=>absurd z (by decide)) fun _=>?_
  obtain ⟨v,hpk,hv⟩:=sa.pl
  obtain ⟨asx,hle,_⟩:=sa.en
  obtain ⟨⟨xsw,htw⟩,_⟩:=sa.tw
  have ap:Apart k.le d∧Apart k.tw d:=⟨⟨xO pn.l1 hle,xO pn.l2 hle,xO pn.l3 hle,xO pn.l4 hle⟩,⟨xO pn.l1 htw,xO pn.l2 htw,xO pn.l3 htw,xO pn.l4 htw⟩⟩
  have sa1:=sa.mono lv.s
  have hpk1:=s1 _ _ hpk
  have sa2:=sa1.set (v:=.ref d.pl) (now:=st.now) (pp:=some p) hpk1 ⟨d,rfl,pm,wf,ap⟩ sa.mn
  have pm2:PlanM K (upd H1 k.pk (.ins k.C k.dx (wP k (.ref d.pl) st.now))) d p 0 0:=pm.pk hpk1
  have c2:Clo (upd H1 k.pk (.ins k.C k.dx (wP k (.ref d.pl) st.now))):=c1.insU hpk1
  have fr2:=(Fr.of lv).trans (Fr.pk lv.c lv.b hpk1 c2)
  refine ⟨_,rfl,_,rfl,k.pk,k.C,k.dx,_,rfl,hpk1,sa.cl,sa.na _ (by simp [vN]),yF,?_⟩
  rw [putP];have hn2:∀ D,(upd H1 k.pk (.ins k.C k.dx (wP k (.ref d.pl) st.now))) D=none→H D=none:=fun D hD=>by
   by_cases e:D=k.pk
   ·rw [e,upd_same] at hD;cases hD
   ·rw [zH e] at hD;exact yJ s1 hD
  generalize upd H1 k.pk (.ins k.C k.dx (wP k (.ref d.pl) st.now))=H2 at sa2 pm2 c2 fr2 hn2 ⊢
  have l0:=Lv.of fr2.b (Same.refl _) c2
  refine ⟨yF,fun D1 hD1=>?_⟩
  have l1:=l0.new (xs:=[V.int 0]) hD1
  refine ⟨_,rfl,d.pl,p,rfl,l1.c,pm2.at_.mono (Same.new hD1).t,fun D2 hD2=>?_⟩
  have l2:=l1.new (xs:=uP p) hD2
  refine ⟨D1,D2,[V.int 0],uP p,rfl,rfl,by rw [zH (zO upd_same hD2)];exact upd_same,upd_same,(by decide:(1:Nat)+4≤sizeLine),fun D hD=>?_⟩
  have l3:=l2.new (xs:=[V.int 0]++uP p) hD
  have fr3:=fr2.trans (Fr.of l3)
  refine ⟨_,⟨fr3.k,fr3.c,Same.refl _⟩,fin {st with park:=some p} (0::sizesI p) _ D ?_ fr3 (sa2.mono l3.s) (hn2 D (l2.none' hD)) upd_same⟩
  unfold ansS;rw [ds0]
theorem sc_show_park : zK ["park","call"] ["park","call"] (zE (z9 158)):=by walk_at "sc"
theorem ok_show_park (T:Txt P w K mg):Dfn P w K mg base "show_park" ["park","call"] [] 2 (yR K tb 2):=by
 have nd:=sc_show_park.nd
 refine T.d_show_park.ok sc_show_park (fun vs H Q E h=>?_) (fun f cdv A outer s H vs Q E hr h=>?_)
 ·obtain ⟨_,_,_,_,_,_,rfl,_⟩:=h;rfl
 obtain ⟨k,st,a,ns,rows,c0,rfl,hd,fin⟩:=h
 refine ⟨_,(zJ H (zD (zI (yG wH (zT (zA zG zC)) (zS (ok_one_form T) (hr.mono (by decide)) (zA (zZ K (pv 0)) zC)))))),?_⟩
 obtain rfl:ns=[]:=List.eq_nil_of_length_eq_zero (z0 hd.sh (m:=0) rfl)
 obtain rfl:rows=[]:=by
  have:=hd.sh.rw_
  have e:(rows.length:Int)=0:=(V.int.inj this).symm
  exact List.eq_nil_of_length_eq_zero (by omega)
 obtain rfl : .print=c0:=Option.some.inj (show some (.print)=some c0 from hd.dc)
 obtain ⟨L,fl,hL⟩:=vW hd
 have c:=hd.clo
 have tt:=hd.t
 have sa:=hd.st
 have f2:=sa.f2
 have f3:=sa.f3
 obtain ⟨q,dpl,hq0,hq,fp,d,rfl,pm,wf⟩:=yT hd rfl
 have ds:does st .print = .ok (st,(Vbtpah.printed q).map Vbtpah.nat):=by rw [← hq];rfl
 have l0:=Lv.of tt (Same.refl _) c
 refine ⟨yF,fun D1 hD1=>?_⟩
 have l1:=l0.new (xs:=[V.int 0]) hD1
 refine ⟨_,rfl,_,_,rfl,fp.mono l1.s,d,q,rfl,l1.c,pm.mono l1.s,wf,fun D2 hD2=>?_⟩
 have l2:=l1.new (xs:=(Vbtpah.printed q).map vn) hD2
 refine ⟨D1,D2,_,_,rfl,rfl,by rw [zH (zO upd_same hD2)];exact upd_same,upd_same,?_,fun D hD=>?_⟩
 ·have:=printed_len wf
  rw [List.length_map];exact Nat.le_trans (Nat.add_le_add_left this 1) (by decide)
 ·refine retL (l2.new (xs:=[V.int 0]++(Vbtpah.printed q).map vn) hD) sa fin ds (l2.none' hD) ?_
  rw [upd_same];show _=some (HO.lst (V.int 0::((Vbtpah.printed q).map Vbtpah.nat).map V.int))
  rw [List.map_map];rfl
end
end My
namespace My
open PySem PySem.Spec PyProof.Rows L2
open Vbtpah (Says Log Reading Park Sensor Ride Rule Check)
open Vbtpah (does guards inside decode isGone locksOn ordersIn openOrders isFinished leftOf whyNot whyTold listed nat)
def spTold (K:zF):Sp:=fun vs H Q _=>∃ (R:Addr) (ts:List Addr) (ps:List (Nat×Nat)),vs=[.ref R]∧Clo H∧SqL K H R (ts.map V.ref)∧All2 (PrAt K H) ts ps∧ps.length≤700∧∀ D,H D=none→Q (.ref D) (upd H D (.lst ((whyTold ps).map V.int)))
def spListT (K:zF):Sp:=fun vs H Q _=>∃ (R:Addr) (l:List Nat),vs=[.ref R]∧Clo H∧H R=some (.lst (l.map vn))∧l.length≤700∧∀ D,H D=none→Q (.ref D) (upd H D (.lst ((listed l).map V.int)))
theorem u5 (ps:List (Nat×Nat)):(ps.flatMap fun x=>[nat x.1,nat x.2]).length=2 * ps.length:=by
 rw [t6 _ 2 _ (fun _=>rfl),Nat.mul_comm]
theorem whyT_len (ps:List (Nat×Nat)):((whyTold ps).map V.int).length=2 * ps.length+1:=by
 unfold whyTold;rw [List.length_map,List.length_cons,u5]
theorem listT_len (l:List Nat):((listed l).map V.int).length=l.length+1:=by
 unfold listed;rw [List.length_map,List.length_cons,List.length_map]
theorem why_le (p:Park)(log:Log)(r t:Nat)(wf:PlanWf p)(lim:log.length≤250):(whyNot p log r t).length≤700:=by
 obtain ⟨b1,b2,b3,b4,b5,b6⟩:=why_len p log r t wf lim
 rw [why_eq];simp only [List.length_append,List.length_map];omega
section
variable {P:Program}{w:World}{K:zF}{mg:Str→Option Value}{base:Heap}{tb:Addr}
theorem sc_reasons_told : zK ["reasons","told","reason","number"] ["reasons"] (zE (z9 136)):=by walk_at "sc"
theorem ok_reasons_told (T:Txt P w K mg):Dfn P w K mg base "reasons_told" ["reasons"] [] 1 (spTold K):=by
 have nd:=sc_reasons_told.nd
 refine T.d_reasons_told.ok sc_reasons_told (fun vs H Q E h=>?_) (fun f cdv A outer s H vs Q E hr h=>?_)
 ·obtain ⟨_,_,_,rfl,_⟩:=h;rfl
 obtain ⟨R,ts,ps,rfl,c,hR,al,lim,q⟩:=h
 refine ⟨_,(zJ H (zB (zL (i:=1) nd rfl (Or.inl rfl) (zT (zA (zU (xS K) rfl T.b_len yD (zA (pv 0) zC)) zC))) (zB (xH PassesOwn.never rfl (vH K (pv 0)) (u9 K (n:=2) rfl (yA (zV (i:=2) nd rfl (Or.inl rfl)) (yA (zV (i:=3) nd rfl (Or.inl rfl)) xN))) (zJ H (zB (yL (bmK K PySem.F.plainAttrs_list PySem.F.slot_list_append PySem.F.type_list_append yM (pv 1) (zA (pv 2) zC))) (zD (yL (bmK K PySem.F.plainAttrs_list PySem.F.slot_list_append PySem.F.type_list_append yM (pv 1) (zA (pv 3) zC))))))) (zD (zI (pv 1)))))),?_⟩
 have sz:(10000:Nat) < sizeLine:=by decide
 refine ⟨_,rfl,R,_,rfl,.inl hR,yF,fun W hW=>?_⟩
 rw [List.length_map,al.len];refine ⟨_,rfl,R,rfl,⟨_,SqL.monoT hR (Same.new hW).t⟩,wC (K:=K) (a:=R) (xs:=ts.map V.ref) (fun i σ H'=>∃ v v',σ=[some (.ref R),some (.ref W),v,v']∧H'=upd H W (.lst (V.int (ps.length:Int)::((ps.take i).flatMap fun x=>[nat x.1,nat x.2]).map V.int)))
  ⟨none,none,rfl,rfl⟩ (fun i σ H' _ ⟨_,_,_,e⟩=>by rw [e];exact SqL.monoT hR (Same.new hW).t) ?_ ?_⟩
 ·rintro i y σ H' hi ⟨v,v',rfl,rfl⟩
  obtain ⟨t,ht1,rfl⟩:=yB hi
  obtain ⟨x,hx,tx⟩:=al.getA ht1
  have lt:=(List.getElem?_eq_some_iff.mp hx).1
  have tx1:SqT K (upd H W (.lst (V.int (ps.length:Int)::((ps.take i).flatMap fun x=>[nat x.1,nat x.2]).map V.int))) t [vn x.1,vn x.2]:=SqT.monoT tx (Same.new hW).t
  have ll:((ps.take i).flatMap fun x=>[nat x.1,nat x.2]).length≤1400:=by rw [u5,List.length_take];omega
  refine ⟨_,_,rfl,tx1,rfl,_,_,rfl,_,_,rfl,rfl,?_⟩
  refine ⟨_,rfl,.inl ⟨rfl,_,SqL.of upd_same⟩,_,rfl,W,_,_,rfl,rfl,upd_same,by rw [List.length_cons,List.length_map];omega,?_⟩
  rw [yQ];refine ⟨_,rfl,.inl ⟨rfl,_,SqL.of upd_same⟩,_,rfl,W,_,_,rfl,rfl,upd_same,by rw [List.length_append,List.length_cons,List.length_map];show _+1+1 < _;omega,?_⟩
  rw [yQ];refine ⟨_,⟨(Kp.refl H).new hW,c.lstN hW,Same.refl _⟩,_,_,rfl,?_⟩
  rw [yE hx,List.flatMap_append];simp only [List.flatMap_cons,List.flatMap_nil,List.map_append,List.cons_append,List.append_assoc,List.map_cons,List.map_nil,List.append_nil,List.nil_append];rfl
 ·rintro σ H' ⟨v,v',rfl,rfl⟩
  rw [List.length_map,al.len,List.take_length];exact ⟨_,rfl,_,⟨(Kp.refl H).new hW,c.lstN hW,Same.refl _⟩,q W hW⟩
theorem sc_list_told : zK ["numbers"] ["numbers"] (zE (z9 137)):=by walk_at "sc"
theorem uH (T:Txt P w K mg):Dfn P w K mg base "list_told" ["numbers"] [] 1 (spListT K):=by
 have nd:=sc_list_told.nd
 refine T.d_list_told.ok sc_list_told (fun vs H Q E h=>?_) (fun f cdv A outer s H vs Q E hr h=>?_)
 ·obtain ⟨_,_,rfl,_⟩:=h;rfl
 obtain ⟨R,l,rfl,c,hR,lim,q⟩:=h
 refine ⟨_,(zJ H (zD (zI (yG wH (zT (zA (zU (xS K) rfl T.b_len yD (zA (pv 0) zC)) zC)) (pv 0))))),?_⟩
 have sz:(10000:Nat) < sizeLine:=by decide
 refine ⟨_,rfl,R,_,rfl,.inl (SqL.of hR),yF,fun W hW=>?_⟩
 rw [List.length_map];have s1:=Same.new (o:=.lst [V.int (l.length:Int)]) hW
 refine ⟨_,rfl,W,R,_,_,rfl,rfl,upd_same,s1 _ _ hR,by rw [List.length_map];simp;omega,fun D hD=>?_⟩
 have hD0:H D=none:=yJ s1 hD
 have e:[V.int (l.length:Int)]++l.map vn=(listed l).map V.int:=by unfold listed;rw [List.map_cons,List.map_map];rfl
 rw [e];exact ⟨_,⟨(Kp.refl H).new hD0,c.lstN hD0,Same.both s1⟩,q D hD0⟩
theorem sc_answer_why : zK ["park","call","ride"] ["park","call"] (zE (z9 138)):=by walk_at "sc"
theorem ok_answer_why (T:Txt P w K mg)(B:TabTxt K mg tb):Dfn P w K mg base "answer_why" ["park","call"] [] 6 (yR K tb 14):=by
 have nd:=sc_answer_why.nd
 refine T.d_answer_why.ok sc_answer_why (fun vs H Q E h=>?_) (fun f cdv A outer s H vs Q E hr h=>?_)
 ·obtain ⟨_,_,_,_,_,_,rfl,_⟩:=h;rfl
 obtain ⟨k,st,a,ns,rows,c0,rfl,hd,fin⟩:=h
 refine ⟨_,(zJ H (zB (zL (i:=2) nd rfl (Or.inl rfl) (zY (yI K) (zZ K (pv 1)) zG (fun _ _=>rfl))) (zB (zX (xG (yC (zS (yX T) (hr.mono (by decide)) (zA (zZ K (pv 0)) (zA (pv 2) zC))))) (zD (zI (zT (zA (yW T.g_NO_RIDE) zC)))) zM) (zD (zI (yG wH (zT (zA zG zC)) (zS (ok_reasons_told T) (hr.mono (by decide)) (zA (zS (xV T B) (hr.mono (by decide)) (zA (zZ K (pv 0)) (zA (zZ K (pv 0)) (zA (pv 2) (zA (zZ K (pv 0)) zC))))) zC)))))))),?_⟩
 obtain ⟨r,rfl⟩:∃ r,ns=[r]:=by
  have:=z0 hd.sh (m:=1) rfl
  match ns,this with
  | [r],_=>exact ⟨r,rfl⟩
 obtain rfl:rows=[]:=by
  have:=hd.sh.rw_
  have e:(rows.length:Int)=0:=(V.int.inj this).symm
  exact List.eq_nil_of_length_eq_zero (by omega)
 obtain ⟨g,rfl⟩:=zQ (show Vbtpah.guard (Vbtpah.isRide r) (.why r.toNat)=some c0 from hd.dc)
 have g1:=g
 obtain ⟨r,rfl,lo1,hi1⟩:=zW g1 (by decide)
 simp only [Int.toNat_natCast] at fin;obtain ⟨L,fl,hL⟩:=vW hd
 have i0:yZ ([(r:Int)].map V.int) 0=some (vn r):=rfl
 have c:=hd.clo
 have tt:=hd.t
 have sa:=hd.st
 have f2:=sa.f2
 have f3:=sa.f3
 obtain ⟨q,dpl,hq0,hq,fp,d,rfl,pm,wf⟩:=yT hd rfl
 have e:does st (.why r)=guards [(decide (q.rides.length < r),-5)] (.ok (st,whyTold (whyNot q st.log r st.now))):=by rw [← hq];rfl
 refine ⟨_,rfl,_,_,rfl,fl,L,_,_,_,rfl,rfl,hL,i0,?_⟩
 have gr:(!decide (r≤q.rides.length))=decide (q.rides.length < r):=by by_cases h:r≤q.rides.length<;>simp [h]<;>omega
 refine ⟨_,rfl,_,_,rfl,fp,_,rfl,d.pl,q,r,rfl,c,pm.at_,_,rfl,?_⟩
 refine zR (b:=!decide (r≤q.rides.length)) (fun h=>⟨yF,fun D hD=>wS c tt sa fin (xF e (gr.symm.trans h)) D hD⟩) fun h=>?_
 rw [gr] at h
 replace e:=wL e h
 have r2:r≤q.rides.length:=by have:=of_decide_eq_false h;omega
 refine ⟨yF,fun D1 hD1=>?_⟩
 have l1:=(Lv.of tt (Same.refl _) c).new (xs:=[V.int 0]) hD1
 have a1:(upd H D1 (.lst [V.int 0])) D1=some (.lst [V.int 0]):=upd_same
 generalize upd H D1 (.lst [V.int 0])=H1 at l1 a1 ⊢
 refine ⟨_,rfl,_,_,rfl,fp.mono l1.s,_,rfl,_,_,rfl,f3.mono l1.s,_,rfl,_,rfl,_,_,rfl,f2.mono l1.s,d.pl,k.le,q,st.log,r,st.now,rfl,l1.c,l1.b,pm.at_.mono l1.s,wf.toPlanWf,by omega,r2,sa.log.mono l1.s,sa.n250,sa.ok,fun H2 R ts lv hR0 hR2 al=>?_⟩
 have l2:=l1.trans lv
 have a2:=lv.s _ _ a1 (fun _ z=>nomatch z)
 have wl:=why_le q st.log r st.now wf.toPlanWf sa.n250
 refine ⟨R,ts,_,rfl,lv.c,SqL.of hR2,al,wl,fun D2 hD2=>?_⟩
 have l3:=l2.new (xs:=(whyTold (whyNot q st.log r st.now)).map V.int) hD2
 refine ⟨D1,D2,_,_,rfl,rfl,by rw [zH (zO a2 hD2)];exact a2,upd_same,?_,fun D hD=>?_⟩
 ·have sz:(10000:Nat) < sizeLine:=by decide
  rw [whyT_len];show 1+_≤_
  omega
 ·exact retL (l3.new (xs:=[V.int 0]++(whyTold (whyNot q st.log r st.now)).map V.int) hD) sa fin e (l3.none' hD) upd_same
theorem sc_answer_whythen : zK ["park","call","ride","minute","known"] ["park","call"] (zE (z9 139)):=by walk_at "sc"
theorem ok_answer_whythen (T:Txt P w K mg)(B:TabTxt K mg tb):Dfn P w K mg base "answer_whythen" ["park","call"] [] 6 (yR K tb 15):=by
 have nd:=sc_answer_whythen.nd
 refine T.d_answer_whythen.ok sc_answer_whythen (fun vs H Q E h=>?_) (fun f cdv A outer s H vs Q E hr h=>?_)
 ·obtain ⟨_,_,_,_,_,_,rfl,_⟩:=h;rfl
 obtain ⟨k,st,a,ns,rows,c0,rfl,hd,fin⟩:=h
 refine ⟨_,(zJ H (zB (zL (i:=2) nd rfl (Or.inl rfl) (zY (yI K) (zZ K (pv 1)) zG (fun _ _=>rfl))) (zB (zL (i:=3) nd rfl (Or.inl rfl) (zY (yI K) (zZ K (pv 1)) zG (fun _ _=>rfl))) (zB (zL (i:=4) nd rfl (Or.inl rfl) (uR (slK K) (zZ K (pv 0)) po_none (uE (zY (yI K) (zZ K (pv 1)) zG (fun _ _=>rfl))))) (zB (zX (xG (yC (zS (yX T) (hr.mono (by decide)) (zA (zZ K (pv 0)) (zA (pv 2) zC))))) (zD (zI (zT (zA (yW T.g_NO_RIDE) zC)))) zM) (zD (zI (yG wH (zT (zA zG zC)) (zS (ok_reasons_told T) (hr.mono (by decide)) (zA (zS (xV T B) (hr.mono (by decide)) (zA (zZ K (pv 0)) (zA (pv 4) (zA (pv 2) (zA (pv 3) zC))))) zC)))))))))),?_⟩
 obtain ⟨r,m,z,rfl⟩:∃ r m z,ns=[r,m,z]:=by
  have:=z0 hd.sh (m:=3) rfl
  match ns,this with
  | [r,m,z],_=>exact ⟨r,m,z,rfl⟩
 obtain rfl:rows=[]:=by
  have:=hd.sh.rw_
  have e:(rows.length:Int)=0:=(V.int.inj this).symm
  exact List.eq_nil_of_length_eq_zero (by omega)
 obtain ⟨g,rfl⟩:=zQ (show Vbtpah.guard (Vbtpah.isRide r&&(Vbtpah.isMinute m&&inside z 0 250)) (.whyThen r.toNat m.toNat z.toNat)=some c0 from hd.dc)
 simp only [Bool.and_eq_true] at g;obtain ⟨g1,g2,g3⟩:=g
 obtain ⟨r,rfl,lo1,hi1⟩:=zW g1 (by decide)
 obtain ⟨m,rfl,lo2,hi2⟩:=zW g2 (by decide)
 obtain ⟨z,rfl,lo3,hi3⟩:=zW g3 (by decide)
 simp only [Int.toNat_natCast] at fin;obtain ⟨L,fl,hL⟩:=vW hd
 have i0:yZ ([(r:Int),(m:Int),(z:Int)].map V.int) 0=some (vn r):=rfl
 have i1:yZ ([(r:Int),(m:Int),(z:Int)].map V.int) 1=some (vn m):=rfl
 have i2:yZ ([(r:Int),(m:Int),(z:Int)].map V.int) 2=some (vn z):=rfl
 have c:=hd.clo
 have tt:=hd.t
 have sa:=hd.st
 have f2:=sa.f2
 have f3:=sa.f3
 obtain ⟨q,dpl,hq0,hq,fp,d,rfl,pm,wf⟩:=yT hd rfl
 have e:does st (.whyThen r m z)=guards [(decide (q.rides.length < r),-5)] (.ok (st,whyTold (whyNot q (st.log.take z) r m))):=by rw [← hq];rfl
 refine ⟨_,rfl,_,_,rfl,fl,L,_,_,_,rfl,rfl,hL,i0,?_⟩
 refine ⟨_,rfl,_,_,rfl,fl,L,_,_,_,rfl,rfl,hL,i1,?_⟩
 obtain ⟨as,hle,hal⟩:=sa.en
 refine ⟨_,rfl,_,_,rfl,f3,_,rfl,_,_,rfl,fl,L,_,_,_,rfl,rfl,hL,i2,_,rfl,k.le,_,rfl,SqL.of hle,fun KN hKN=>?_⟩
 rw [cut_to];have l0:=(Lv.of tt (Same.refl _) c).new (xs:=(as.map V.ref).take z) hKN
 have aK:(upd H KN (.lst ((as.map V.ref).take z))) KN=some (.lst ((as.take z).map V.ref)):=by rw [upd_same,List.map_take]
 generalize upd H KN (.lst ((as.map V.ref).take z))=H0 at l0 aK ⊢
 have lg:LogAt K H0 KN (st.log.take z):=⟨as.take z,SqL.of aK,(hal.take z).mono fun _ _ q=>q.mono l0.s⟩
 have lz:(st.log.take z).length≤250:=by rw [List.length_take];have:=sa.n250;omega
 replace fin:=fin.shift l0
 replace sa:=sa.mono l0.s
 replace c:=l0.c
 replace tt:=l0.b
 replace fp:=fp.mono l0.s
 replace pm:=pm.mono l0.s
 have k0:=l0.k
 have gr:(!decide (r≤q.rides.length))=decide (q.rides.length < r):=by by_cases h:r≤q.rides.length<;>simp [h]<;>omega
 refine ⟨_,rfl,_,_,rfl,fp,_,rfl,d.pl,q,r,rfl,c,pm.at_,_,rfl,?_⟩
 refine zR (b:=!decide (r≤q.rides.length)) (fun h=>⟨yF,fun D hD=>tE k0 c tt sa fin (xF e (gr.symm.trans h)) D hD⟩) fun h=>?_
 rw [gr] at h
 replace e:=wL e h
 have r2:r≤q.rides.length:=by have:=of_decide_eq_false h;omega
 refine ⟨yF,fun D1 hD1=>?_⟩
 have l1:=(Lv.of tt (Same.refl _) c).new (xs:=[V.int 0]) hD1
 have a1:(upd H0 D1 (.lst [V.int 0])) D1=some (.lst [V.int 0]):=upd_same
 generalize upd H0 D1 (.lst [V.int 0])=H1 at l1 a1 ⊢
 refine ⟨_,rfl,_,_,rfl,fp.mono l1.s,_,rfl,_,rfl,_,rfl,d.pl,KN,q,st.log.take z,r,m,rfl,l1.c,l1.b,pm.at_.mono l1.s,wf.toPlanWf,by omega,r2,lg.mono l1.s,lz,sa.ok.take z,fun H2 R ts lv hR0 hR2 al=>?_⟩
 have l2:=l1.trans lv
 have a2:=lv.s _ _ a1 (fun _ z=>nomatch z)
 have wl:=why_le q (st.log.take z) r m wf.toPlanWf lz
 refine ⟨R,ts,_,rfl,lv.c,SqL.of hR2,al,wl,fun D2 hD2=>?_⟩
 have l3:=l2.new (xs:=(whyTold (whyNot q (st.log.take z) r m)).map V.int) hD2
 refine ⟨D1,D2,_,_,rfl,rfl,by rw [zH (zO a2 hD2)];exact a2,upd_same,?_,fun D hD=>?_⟩
 ·have sz:(10000:Nat) < sizeLine:=by decide
  rw [whyT_len];show 1+_≤_
  omega
 ·obtain ⟨H9,g9,q9⟩:=retL (l3.new (xs:=[V.int 0]++(whyTold (whyNot q (st.log.take z) r m)).map V.int) hD) sa fin e (l3.none' hD) upd_same
  exact ⟨H9,⟨k0.trans g9.kp,g9.clo,g9.sub⟩,q9⟩
theorem sc_answer_locks : zK ["park","call","ride"] ["park","call"] (zE (z9 142)):=by walk_at "sc"
theorem ok_answer_locks (T:Txt P w K mg):Dfn P w K mg base "answer_locks" ["park","call"] [] 4 (yR K tb 18):=by
 have nd:=sc_answer_locks.nd
 refine T.d_answer_locks.ok sc_answer_locks (fun vs H Q E h=>?_) (fun f cdv A outer s H vs Q E hr h=>?_)
 ·obtain ⟨_,_,_,_,_,_,rfl,_⟩:=h;rfl
 obtain ⟨k,st,a,ns,rows,c0,rfl,hd,fin⟩:=h
 refine ⟨_,(zJ H (zB (zL (i:=2) nd rfl (Or.inl rfl) (zY (yI K) (zZ K (pv 1)) zG (fun _ _=>rfl))) (zB (zX (xG (yC (zS (yX T) (hr.mono (by decide)) (zA (zZ K (pv 0)) (zA (pv 2) zC))))) (zD (zI (zT (zA (yW T.g_NO_RIDE) zC)))) zM) (zD (zI (yG wH (zT (zA zG zC)) (zS (uH T) (hr.mono (by decide)) (zA (zS (uW T) (hr.mono (by decide)) (zA (zZ K (pv 0)) (zA (pv 2) zC))) zC)))))))),?_⟩
 obtain ⟨r,rfl⟩:∃ r,ns=[r]:=by
  have:=z0 hd.sh (m:=1) rfl
  match ns,this with
  | [r],_=>exact ⟨r,rfl⟩
 obtain rfl:rows=[]:=by
  have:=hd.sh.rw_
  have e:(rows.length:Int)=0:=(V.int.inj this).symm
  exact List.eq_nil_of_length_eq_zero (by omega)
 obtain ⟨g,rfl⟩:=zQ (show Vbtpah.guard (Vbtpah.isRide r) (.locks r.toNat)=some c0 from hd.dc)
 have g1:=g
 obtain ⟨r,rfl,lo1,hi1⟩:=zW g1 (by decide)
 simp only [Int.toNat_natCast] at fin;obtain ⟨L,fl,hL⟩:=vW hd
 have i0:yZ ([(r:Int)].map V.int) 0=some (vn r):=rfl
 have c:=hd.clo
 have tt:=hd.t
 have sa:=hd.st
 have f2:=sa.f2
 have f3:=sa.f3
 obtain ⟨q,dpl,hq0,hq,fp,d,rfl,pm,wf⟩:=yT hd rfl
 have e:does st (.locks r)=guards [(decide (q.rides.length < r),-5)] (.ok (st,listed (locksOn st.log r))):=by rw [← hq];rfl
 refine ⟨_,rfl,_,_,rfl,fl,L,_,_,_,rfl,rfl,hL,i0,?_⟩
 have gr:(!decide (r≤q.rides.length))=decide (q.rides.length < r):=by by_cases h:r≤q.rides.length<;>simp [h]<;>omega
 refine ⟨_,rfl,_,_,rfl,fp,_,rfl,d.pl,q,r,rfl,c,pm.at_,_,rfl,?_⟩
 refine zR (b:=!decide (r≤q.rides.length)) (fun h=>⟨yF,fun D hD=>wS c tt sa fin (xF e (gr.symm.trans h)) D hD⟩) fun h=>?_
 rw [gr] at h
 replace e:=wL e h
 refine ⟨yF,fun D1 hD1=>?_⟩
 have l1:=(Lv.of tt (Same.refl _) c).new (xs:=[V.int 0]) hD1
 have a1:(upd H D1 (.lst [V.int 0])) D1=some (.lst [V.int 0]):=upd_same
 generalize upd H D1 (.lst [V.int 0])=H1 at l1 a1 ⊢
 refine ⟨_,rfl,_,_,rfl,f3.mono l1.s,_,rfl,k.le,st.log,r,rfl,l1.c,sa.log.mono l1.s,sa.n250,sa.ok,fun R hR=>?_⟩
 have l2:=l1.new (xs:=(locksOn st.log r).map vn) hR
 have a2:=(Same.new (o:=.lst ((locksOn st.log r).map vn)) hR) _ _ a1
 have ll:(locksOn st.log r).length≤250:=Nat.le_trans (u4 ..) sa.n250
 refine ⟨R,_,rfl,l2.c,upd_same,by omega,fun D2 hD2=>?_⟩
 have l3:=l2.new (xs:=(listed (locksOn st.log r)).map V.int) hD2
 refine ⟨D1,D2,_,_,rfl,rfl,by rw [zH (zO a2 hD2)];exact a2,upd_same,?_,fun D hD=>?_⟩
 ·have sz:(10000:Nat) < sizeLine:=by decide
  rw [listT_len];show 1+_≤_
  omega
 ·exact retL (l3.new (xs:=[V.int 0]++(listed (locksOn st.log r)).map V.int) hD) sa fin e (l3.none' hD) upd_same
theorem sc_answer_orders : zK ["park","call","ride"] ["park","call"] (zE (z9 143)):=by walk_at "sc"
theorem ok_answer_orders (T:Txt P w K mg):Dfn P w K mg base "answer_orders" ["park","call"] [] 4 (yR K tb 19):=by
 have nd:=sc_answer_orders.nd
 refine T.d_answer_orders.ok sc_answer_orders (fun vs H Q E h=>?_) (fun f cdv A outer s H vs Q E hr h=>?_)
 ·obtain ⟨_,_,_,_,_,_,rfl,_⟩:=h;rfl
 obtain ⟨k,st,a,ns,rows,c0,rfl,hd,fin⟩:=h
 refine ⟨_,(zJ H (zB (zL (i:=2) nd rfl (Or.inl rfl) (zY (yI K) (zZ K (pv 1)) zG (fun _ _=>rfl))) (zB (zX (xG (yC (zS (yX T) (hr.mono (by decide)) (zA (zZ K (pv 0)) (zA (pv 2) zC))))) (zD (zI (zT (zA (yW T.g_NO_RIDE) zC)))) zM) (zD (zI (yG wH (zT (zA zG zC)) (zS (uH T) (hr.mono (by decide)) (zA (zS (ok_orders_waiting T) (hr.mono (by decide)) (zA (zZ K (pv 0)) (zA (pv 2) zC))) zC)))))))),?_⟩
 obtain ⟨r,rfl⟩:∃ r,ns=[r]:=by
  have:=z0 hd.sh (m:=1) rfl
  match ns,this with
  | [r],_=>exact ⟨r,rfl⟩
 obtain rfl:rows=[]:=by
  have:=hd.sh.rw_
  have e:(rows.length:Int)=0:=(V.int.inj this).symm
  exact List.eq_nil_of_length_eq_zero (by omega)
 obtain ⟨g,rfl⟩:=zQ (show Vbtpah.guard (Vbtpah.isRide r) (.orders r.toNat)=some c0 from hd.dc)
 have g1:=g
 obtain ⟨r,rfl,lo1,hi1⟩:=zW g1 (by decide)
 simp only [Int.toNat_natCast] at fin;obtain ⟨L,fl,hL⟩:=vW hd
 have i0:yZ ([(r:Int)].map V.int) 0=some (vn r):=rfl
 have c:=hd.clo
 have tt:=hd.t
 have sa:=hd.st
 have f2:=sa.f2
 have f3:=sa.f3
 obtain ⟨q,dpl,hq0,hq,fp,d,rfl,pm,wf⟩:=yT hd rfl
 have e:does st (.orders r)=guards [(decide (q.rides.length < r),-5)] (.ok (st,listed (openOrders st.log r))):=by rw [← hq];rfl
 refine ⟨_,rfl,_,_,rfl,fl,L,_,_,_,rfl,rfl,hL,i0,?_⟩
 have gr:(!decide (r≤q.rides.length))=decide (q.rides.length < r):=by by_cases h:r≤q.rides.length<;>simp [h]<;>omega
 refine ⟨_,rfl,_,_,rfl,fp,_,rfl,d.pl,q,r,rfl,c,pm.at_,_,rfl,?_⟩
 refine zR (b:=!decide (r≤q.rides.length)) (fun h=>⟨yF,fun D hD=>wS c tt sa fin (xF e (gr.symm.trans h)) D hD⟩) fun h=>?_
 rw [gr] at h
 replace e:=wL e h
 refine ⟨yF,fun D1 hD1=>?_⟩
 have l1:=(Lv.of tt (Same.refl _) c).new (xs:=[V.int 0]) hD1
 have a1:(upd H D1 (.lst [V.int 0])) D1=some (.lst [V.int 0]):=upd_same
 generalize upd H D1 (.lst [V.int 0])=H1 at l1 a1 ⊢
 refine ⟨_,rfl,_,_,rfl,f3.mono l1.s,_,rfl,k.le,st.log,r,rfl,l1.c,sa.log.mono l1.s,sa.n250,fun R hR=>?_⟩
 have l2:=l1.new (xs:=(openOrders st.log r).map vn) hR
 have a2:=(Same.new (o:=.lst ((openOrders st.log r).map vn)) hR) _ _ a1
 have ll:(openOrders st.log r).length≤250:=by rw [wait_eq];exact Nat.le_trans (tY ..) (Nat.le_trans (ord_len _) sa.n250)
 refine ⟨R,_,rfl,l2.c,upd_same,by omega,fun D2 hD2=>?_⟩
 have l3:=l2.new (xs:=(listed (openOrders st.log r)).map V.int) hD2
 refine ⟨D1,D2,_,_,rfl,rfl,by rw [zH (zO a2 hD2)];exact a2,upd_same,?_,fun D hD=>?_⟩
 ·have sz:(10000:Nat) < sizeLine:=by decide
  rw [listT_len];show 1+_≤_
  omega
 ·exact retL (l3.new (xs:=[V.int 0]++(listed (openOrders st.log r)).map V.int) hD) sa fin e (l3.none' hD) upd_same
end
end My
namespace My
open PySem PySem.Spec PyProof.Rows L2
open Vbtpah (Says Log Reading Park Sensor Ride Rule Check)
open Vbtpah (does guards inside decode isGone locksOn ordersIn openOrders isFinished leftOf whyNot whyTold listed nat)
def uK (st:Vbtpah.State)(r:Nat)(x:Check×Nat):List Int:=if x.1.ride=r then [nat x.2,if x.1.byDays=true then 1 else 0,nat (leftOf x.1 st.log x.2 st.now)] else []
theorem flat_le {α β:Type}(f:α→List β)(k:Nat):∀ (l:List α),(∀ x,(f x).length≤k)→(l.flatMap f).length≤l.length * k
 | [],_=>by simp
 | a::l,h=>by
  have:=flat_le f k l h
  have:=h a
  rw [List.flatMap_cons,List.length_append,List.length_cons,Nat.succ_mul];omega
section
variable {P:Program}{w:World}{K:zF}{mg:Str→Option Value}{base:Heap}{tb:Addr}
theorem sc_answer_state : zK ["park","call"] ["park","call"] (zE (z9 147)):=by walk_at "sc"
theorem ok_answer_state (T:Txt P w K mg):Dfn P w K mg base "answer_state" ["park","call"] [] 4 (yR K tb 23):=by
 have nd:=sc_answer_state.nd
 refine T.d_answer_state.ok sc_answer_state (fun vs H Q E h=>?_) (fun f cdv A outer s H vs Q E hr h=>?_)
 ·obtain ⟨_,_,_,_,_,_,rfl,_⟩:=h;rfl
 obtain ⟨k,st,a,ns,rows,c0,rfl,hd,fin⟩:=h
 refine ⟨_,(zJ H (zD (zI (zT (zA zG (zA (zZ K (pv 0)) (zA (zU (xS K) rfl T.b_len yD (zA (zZ K (pv 0)) zC)) (zA (zU (xS K) rfl T.b_len yD (zA (zS (xU T) (hr.mono (by decide)) (zA (zZ K (pv 0)) zC)) zC)) zC)))))))),?_⟩
 obtain rfl:ns=[]:=List.eq_nil_of_length_eq_zero (z0 hd.sh (m:=0) rfl)
 obtain rfl:rows=[]:=by
  have:=hd.sh.rw_
  have e:(rows.length:Int)=0:=(V.int.inj this).symm
  exact List.eq_nil_of_length_eq_zero (by omega)
 obtain rfl : .state=c0:=Option.some.inj (show some (.state)=some c0 from hd.dc)
 obtain ⟨L,fl,hL⟩:=vW hd
 have c:=hd.clo
 have tt:=hd.t
 have sa:=hd.st
 have f2:=sa.f2
 have f3:=sa.f3
 have ds:does st .state = .ok (st,[nat st.now,nat st.log.length,nat (ordersIn st.log).length]):=rfl
 obtain ⟨as,hle,hal⟩:=sa.en
 refine ⟨_,rfl,_,_,rfl,f2,_,rfl,_,_,rfl,f3,k.le,_,rfl,.inl (SqL.of hle),_,rfl,_,_,rfl,f3,k.le,st.log,rfl,c,sa.log,sa.n250,fun R hR=>?_⟩
 have l1:=(Lv.of tt (Same.refl _) c).new (xs:=(ordersIn st.log).map vn) hR
 refine ⟨R,_,rfl,.inl (SqL.of upd_same),yF,fun D hD=>?_⟩
 rw [List.length_map,List.length_map,hal.len];exact retL (l1.new (xs:=[V.int 0,V.int (st.now:Int),V.int (st.log.length:Int),V.int ((ordersIn st.log).length:Int)]) hD) sa fin ds (l1.none' hD) upd_same
theorem sc_answer_entry : zK ["park","call","number","entry"] ["park","call"] (zE (z9 146)):=by walk_at "sc"
theorem ok_answer_entry (T:Txt P w K mg):Dfn P w K mg base "answer_entry" ["park","call"] [] 4 (yR K tb 22):=by
 have nd:=sc_answer_entry.nd
 refine T.d_answer_entry.ok sc_answer_entry (fun vs H Q E h=>?_) (fun f cdv A outer s H vs Q E hr h=>?_)
 ·obtain ⟨_,_,_,_,_,_,rfl,_⟩:=h;rfl
 obtain ⟨k,st,a,ns,rows,c0,rfl,hd,fin⟩:=h
 refine ⟨_,(zJ H (zB (zL (i:=2) nd rfl (Or.inl rfl) (zY (yI K) (zZ K (pv 1)) zG (fun _ _=>rfl))) (zB (zX (zP w8 (pv 2) (zU (xS K) rfl T.b_len yD (zA (zZ K (pv 0)) zC)) (zN _)) (zD (zI (zT (zA (yW T.g_NO_ENTRY) zC)))) zM) (zB (zL (i:=3) nd rfl (Or.inl rfl) (zY (yI K) (zZ K (pv 0)) (yG wQ (pv 2) zG) (fun _ _=>rfl))) (zD (zI (zT (zA zG (zA (zZ K (pv 3)) (zA (zZ K (pv 3)) (zA (zZ K (pv 3)) (zA (zZ K (pv 3)) (zA (zZ K (pv 3)) (zA (zZ K (pv 3)) zC)))))))))))))),?_⟩
 obtain ⟨z,rfl⟩:∃ z,ns=[z]:=by
  have:=z0 hd.sh (m:=1) rfl
  match ns,this with
  | [z],_=>exact ⟨z,rfl⟩
 obtain rfl:rows=[]:=by
  have:=hd.sh.rw_
  have e:(rows.length:Int)=0:=(V.int.inj this).symm
  exact List.eq_nil_of_length_eq_zero (by omega)
 obtain ⟨g,rfl⟩:=zQ (show Vbtpah.guard (inside z 1 250) (.entry z.toNat)=some c0 from hd.dc)
 have g1:=g
 obtain ⟨z,rfl,lo1,hi1⟩:=zW g1 (by decide)
 simp only [Int.toNat_natCast] at fin;obtain ⟨L,fl,hL⟩:=vW hd
 have i0:yZ ([(z:Int)].map V.int) 0=some (vn z):=rfl
 have c:=hd.clo
 have tt:=hd.t
 have sa:=hd.st
 have f2:=sa.f2
 have f3:=sa.f3
 have ds:does st (.entry z)=(match (if z=0 then none else st.log[z - 1]?) with
  | none=>.error (-15)
  | some e=>.ok (st,nat e.at_::Vbtpah.saysTold e.says)):=rfl
 obtain ⟨as,hle,hal⟩:=sa.en
 refine ⟨_,rfl,_,_,rfl,fl,L,_,_,_,rfl,rfl,hL,i0,?_⟩
 refine ⟨_,rfl,_,rfl,_,_,rfl,f3,k.le,_,rfl,.inl (SqL.of hle),_,_,rfl,rfl,_,rfl,?_⟩
 rw [List.length_map,hal.len,tJ];rw [if_neg (by omega)] at ds;refine zR ?_ ?_
 ·intro h
  have z1:=of_decide_eq_true h
  rw [List.getElem?_eq_none (by omega)] at ds;exact ⟨yF,fun D hD=>wS c tt sa fin ds D hD⟩
 ·intro h
  have z1:=of_decide_eq_false h
  obtain ⟨en,hen⟩:∃ en,st.log[z - 1]? = some en:=⟨_,List.getElem?_eq_getElem (by omega)⟩
  rw [hen] at ds;obtain ⟨b,hb,eb⟩:=hal.get hen
  obtain ⟨wr,kd1,ab1,td1,th1,fo1⟩:=eb
  have ix:yZ (as.map V.ref) ((z:Int) - 1)=some (V.ref b):=t8 (by omega) (by rw [List.getElem?_map,hb];rfl)
  refine ⟨_,rfl,_,_,rfl,f3,_,rfl,_,_,rfl,rfl,k.le,_,_,_,rfl,rfl,SqL.of hle,ix,?_⟩
  refine ⟨_,rfl,_,_,rfl,wr,_,rfl,_,_,rfl,kd1,_,rfl,_,_,rfl,ab1,_,rfl,_,_,rfl,td1,_,rfl,_,_,rfl,th1,_,rfl,_,_,rfl,fo1,yF,fun D hD=>?_⟩
  refine retL ((Lv.of tt (Same.refl _) c).new (xs:=[V.int 0,V.int (en.at_:Int),V.int (kd en.says),V.int (ab en.says:Int),V.int (td en.says:Int),V.int (th en.says:Int),V.int (fo en.says:Int)]) hD) sa fin ds hD ?_
  rw [upd_same]
  cases en.says<;>rfl
theorem sc_answer_due : zK ["park","call","ride","told","number","check","left"] ["park","call"] (zE (z9 141)):=by walk_at "sc"
theorem ok_answer_due (T:Txt P w K mg):Dfn P w K mg base "answer_due" ["park","call"] [] 4 (yR K tb 17):=by
 have nd:=sc_answer_due.nd
 refine T.d_answer_due.ok sc_answer_due (fun vs H Q E h=>?_) (fun f cdv A outer s H vs Q E hr h=>?_)
 ·obtain ⟨_,_,_,_,_,_,rfl,_⟩:=h;rfl
 obtain ⟨k,st,a,ns,rows,c0,rfl,hd,fin⟩:=h
 refine ⟨_,(zJ H (zB (zL (i:=2) nd rfl (Or.inl rfl) (zY (yI K) (zZ K (pv 1)) zG (fun _ _=>rfl))) (zB (zX (xG (yC (zS (yX T) (hr.mono (by decide)) (zA (zZ K (pv 0)) (zA (pv 2) zC))))) (zD (zI (zT (zA (yW T.g_NO_RIDE) zC)))) zM) (zB (zL (i:=3) nd rfl (Or.inl rfl) (zT (zA zG zC))) (zB (xH PassesOwn.never rfl (t7 K T.b_enumerate (zA (zZ K (zZ K (pv 0))) zC) (vE zG uF)) (vR H (u9 K (n:=2) rfl (yA (zV (i:=4) nd rfl (Or.inl rfl)) (yA (zV (i:=5) nd rfl (Or.inl rfl)) xN)))) (zJ H (zD (zX (zP yH (zZ K (pv 5)) (pv 2) (zN _)) (zB (zL (i:=6) nd rfl (Or.inl rfl) (zS (vV T) (hr.mono (by decide)) (zA (pv 5) (zA (pv 4) (zA (zZ K (pv 0)) (zA (zZ K (pv 0)) zC)))))) (zD (yL (bmK K PySem.F.plainAttrs_list PySem.F.slot_list_extend PySem.F.type_list_extend wW (pv 3) (zA (zT (zA (pv 4) (zA (uT (yC (zZ K (pv 5))) zG zG) (zA (pv 6) zC)))) zC))))) zM)))) (zD (zI (pv 3)))))))),?_⟩
 obtain ⟨r,rfl⟩:∃ r,ns=[r]:=by
  have:=z0 hd.sh (m:=1) rfl
  match ns,this with
  | [r],_=>exact ⟨r,rfl⟩
 obtain rfl:rows=[]:=by
  have:=hd.sh.rw_
  have e:(rows.length:Int)=0:=(V.int.inj this).symm
  exact List.eq_nil_of_length_eq_zero (by omega)
 obtain ⟨g,rfl⟩:=zQ (show Vbtpah.guard (Vbtpah.isRide r) (.due r.toNat)=some c0 from hd.dc)
 have g1:=g
 obtain ⟨r,rfl,lo1,hi1⟩:=zW g1 (by decide)
 simp only [Int.toNat_natCast] at fin;obtain ⟨L,fl,hL⟩:=vW hd
 have i0:yZ ([(r:Int)].map V.int) 0=some (vn r):=rfl
 have c:=hd.clo
 have tt:=hd.t
 have sa:=hd.st
 have f2:=sa.f2
 have f3:=sa.f3
 obtain ⟨q,dpl,hq0,hq,fp,d,rfl,pm,wf⟩:=yT hd rfl
 have e:does st (.due r)=guards [(decide (q.rides.length < r),-5)] (.ok (st,(q.checks.zipIdx 1).flatMap (uK st r))):=by rw [← hq];rfl
 refine ⟨_,rfl,_,_,rfl,fl,L,_,_,_,rfl,rfl,hL,i0,?_⟩
 have gr:(!decide (r≤q.rides.length))=decide (q.rides.length < r):=by by_cases h:r≤q.rides.length<;>simp [h]<;>omega
 refine ⟨_,rfl,_,_,rfl,fp,_,rfl,d.pl,q,r,rfl,c,pm.at_,_,rfl,?_⟩
 refine zR (b:=!decide (r≤q.rides.length)) (fun h=>⟨yF,fun D hD=>wS c tt sa fin (xF e (gr.symm.trans h)) D hD⟩) fun h=>?_
 rw [gr] at h
 replace e:=wL e h
 obtain ⟨l4,f4,as,hs,ha⟩:=pm.at_.ck
 have sz:(10000:Nat) < sizeLine:=by decide
 have ck:=wf.ck
 refine ⟨yF,fun W hW=>?_⟩
 have lW:=(Lv.of tt (Same.refl _) c).new (xs:=[V.int 0]) hW
 refine ⟨_,rfl,_,_,rfl,fp.mono lW.s,_,_,rfl,f4.mono lW.s,l4,_,rfl,rfl,SqL.monoT hs lW.s,wK (K:=K) (a:=l4) (xs:=as.map V.ref) (fun i σ H'=>∃ v v' v'',σ=[some (.ref k.pk),some (.ref a),some (vn r),some (.ref W),v,v',v'']∧H'=upd H W (.lst (V.int 0::(((q.checks.take i).zipIdx 1).flatMap (uK st r)).map V.int)))
  ⟨none,none,none,rfl,rfl⟩ (fun i σ H' _ ⟨_,_,_,_,e⟩=>by rw [e];exact ⟨SqL.monoT hs (Same.new hW).t,c.lstN hW,(Kp.refl H).new hW⟩) ?_ ?_⟩
 ·rintro i y σ H' hi ⟨v,v',v'',rfl,rfl⟩
  obtain ⟨b,hx,rfl⟩:=yB hi
  obtain ⟨x,hk,ak⟩:=ha.getA hx
  have sW:=Same.new (o:=.lst (V.int 0::(((q.checks.take i).zipIdx 1).flatMap (uK st r)).map V.int)) hW
  have cW:Clo (upd H W (.lst (V.int 0::(((q.checks.take i).zipIdx 1).flatMap (uK st r)).map V.int))):=c.lstN hW
  have aW:(upd H W (.lst (V.int 0::(((q.checks.take i).zipIdx 1).flatMap (uK st r)).map V.int))) W=some (.lst (V.int 0::(((q.checks.take i).zipIdx 1).flatMap (uK st r)).map V.int)):=upd_same
  have ak1:=ak.mono sW.t
  have lt:=(List.getElem?_eq_some_iff.mp hk).1
  have li:(q.checks.take i).length=i:=by rw [List.length_take];omega
  have nx:((q.checks.take (i+1)).zipIdx 1).flatMap (uK st r)=((q.checks.take i).zipIdx 1).flatMap (uK st r)++uK st r (x,i+1):=by
   rw [yE hk,List.zipIdx_append,List.flatMap_append,li,Nat.add_comm 1 i];simp only [List.zipIdx_cons,List.zipIdx_nil,List.flatMap_cons,List.flatMap_nil,List.append_nil]
  have dl:(((q.checks.take i).zipIdx 1).flatMap (uK st r)).length≤60:=by
   refine Nat.le_trans (flat_le _ 3 _ fun x=>?_) ?_
   ·unfold uK;split<;>simp
   ·rw [List.length_zipIdx,li];omega
  refine ⟨_,rfl,_,_,rfl,ak1.ri,_,rfl,rfl,_,rfl,?_⟩
  refine zR ?_ ?_
  ·intro h1
   have z1:x.ride=r:=by have:=y8 h1;omega
   refine ⟨_,rfl,_,rfl,_,rfl,_,_,rfl,f3.mono sW.t,_,rfl,_,_,rfl,f2.mono sW.t,b,k.le,x,i+1,st.now,st.log,rfl,cW,ak1,sa.log.mono sW.t,sa.n250,?_⟩
   have go:∀ by_:Int,by_=(if x.byDays=true then 1 else 0)→∀ B,(upd H W (.lst (V.int 0::(((q.checks.take i).zipIdx 1).flatMap (uK st r)).map V.int))) B=none→(upd (upd (upd H W (.lst (V.int 0::(((q.checks.take i).zipIdx 1).flatMap (uK st r)).map V.int))) B (.lst [V.int ((i:Int)+1),V.int by_,V.int (leftOf x st.log (i+1) st.now:Int)])) W (.lst ((V.int 0::(((q.checks.take i).zipIdx 1).flatMap (uK st r)).map V.int)++[V.int ((i:Int)+1),V.int by_,V.int (leftOf x st.log (i+1) st.now:Int)]))) =
     upd (upd H W (.lst (V.int 0::(((q.checks.take (i+1)).zipIdx 1).flatMap (uK st r)).map V.int))) B (.lst [V.int ((i:Int)+1),V.int by_,V.int (leftOf x st.log (i+1) st.now:Int)]):=fun by_ hby B hB=>by
    rw [nx,List.map_append,hby];unfold uK;rw [if_pos z1];exact upd_swap (zO aW hB)
   refine ⟨_,rfl,.inl ⟨rfl,_,SqL.of aW⟩,_,rfl,_,rfl,_,_,rfl,ak1.bd,_,rfl,?_⟩
   cases hbd:x.byDays with
   | true =>
    refine zR (b:=true) (fun _=>?_) fun z=>nomatch z
    refine ⟨_,rfl,yF,fun B hB=>?_⟩
    refine ⟨W,B,_,_,rfl,rfl,by rw [zH (zO aW hB)];exact aW,upd_same,by rw [List.length_cons,List.length_map];show _+1+3≤_;omega,?_⟩
    refine ⟨_,⟨(Kp.refl H).new hW,c.lstN hW,?_⟩,_,_,_,rfl,rfl⟩
    rw [go 1 (by rw [hbd];rfl) B hB]
    have nWB:=zO aW hB
    have hB0:H B=none:=by rw [zH nWB.symm] at hB;exact hB
    exact Same.new (by rw [zH nWB.symm];exact hB0)
   | false =>
    refine zR (b:=false) (fun z=>nomatch z) fun _=>?_
    refine ⟨_,rfl,yF,fun B hB=>?_⟩
    refine ⟨W,B,_,_,rfl,rfl,by rw [zH (zO aW hB)];exact aW,upd_same,by rw [List.length_cons,List.length_map];show _+1+3≤_;omega,?_⟩
    refine ⟨_,⟨(Kp.refl H).new hW,c.lstN hW,?_⟩,_,_,_,rfl,rfl⟩
    rw [go 0 (by rw [hbd];rfl) B hB]
    have nWB:=zO aW hB
    have hB0:H B=none:=by rw [zH nWB.symm] at hB;exact hB
    exact Same.new (by rw [zH nWB.symm];exact hB0)
  ·intro h1
   have z1:x.ride≠r:=by have:=y9 h1;omega
   refine ⟨_,⟨(Kp.refl H).new hW,cW,Same.refl _⟩,_,_,_,rfl,?_⟩
   rw [nx,show uK st r (x,i+1)=[] by unfold uK;rw [if_neg z1],List.append_nil]
 ·rintro σ H' ⟨v,v',v'',rfl,rfl⟩
  rw [List.length_map,ha.len,List.take_length];exact ⟨_,rfl,retL ((Lv.of tt (Same.refl _) c).new (xs:=V.int 0::((q.checks.zipIdx 1).flatMap (uK st r)).map V.int) hW) sa fin e hW upd_same⟩
end
end My
namespace My
open PySem PySem.Spec PyProof.Rows L2
open Vbtpah (Says Log Reading Park Sensor Ride Rule Check)
open Vbtpah (does guards inside decode isGone locksOn ordersIn openOrders isFinished leftOf whyNot whyTold listed nat nats readingsOf switchOf parted pairsOf longest)
def v7 (q:Park)(log:Log)(t r:Nat):Bool:=(whyNot q log r t).isEmpty
def ruleA (ru:Rule)(l:Log)(t:Nat):List Int :=
 [if (switchOf ru (readingsOf l ru.sensor t)).shut=true then 1 else 0,match (switchOf ru (readingsOf l ru.sensor t)).last with
  | none=>-1
  | some m=>nat m,nat (readingsOf l ru.sensor t).length,match (readingsOf l ru.sensor t).getLast? with
  | none=>-1
  | some x=>nat x.minute]
section
variable {P:Program}{w:World}{K:zF}{mg:Str→Option Value}{base:Heap}{tb:Addr}
theorem sc_answer_openrides : zK ["park","call","minute","rides","ride"] ["park","call"] (zE (z9 144)):=by walk_at "sc"
theorem ok_answer_openrides (T:Txt P w K mg)(B:TabTxt K mg tb):Dfn P w K mg base "answer_openrides" ["park","call"] [] 6 (yR K tb 20):=by
 have nd:=sc_answer_openrides.nd
 refine T.d_answer_openrides.ok sc_answer_openrides (fun vs H Q E h=>?_) (fun f cdv A outer s H vs Q E hr h=>?_)
 ·obtain ⟨_,_,_,_,_,_,rfl,_⟩:=h;rfl
 obtain ⟨k,st,a,ns,rows,c0,rfl,hd,fin⟩:=h
 refine ⟨_,(zJ H (zB (zL (i:=2) nd rfl (Or.inl rfl) (zY (yI K) (zZ K (pv 1)) zG (fun _ _=>rfl))) (zB (zL (i:=3) nd rfl (Or.inl rfl) (zT zC)) (zB (xH PassesOwn.never rfl (pi_range2 rfl T.b_range (zA zG (zA (yG vJ (zU (xS K) rfl T.b_len yD (zA (zZ K (zZ K (pv 0))) zC)) zG) zC))) (zV (i:=4) nd rfl (Or.inl rfl)) (zJ H (zD (zX (zP yH (zU (xS K) rfl T.b_len yD (zA (zS (xV T B) (hr.mono (by decide)) (zA (zZ K (pv 0)) (zA (zZ K (pv 0)) (zA (pv 4) (zA (pv 2) zC))))) zC)) zG (zN _)) (zD (yL (bmK K PySem.F.plainAttrs_list PySem.F.slot_list_append PySem.F.type_list_append yM (pv 3) (zA (pv 4) zC)))) zM)))) (zD (zI (yG wH (zT (zA zG zC)) (zS (uH T) (hr.mono (by decide)) (zA (pv 3) zC))))))))),?_⟩
 obtain ⟨m,rfl⟩:∃ m,ns=[m]:=by
  have:=z0 hd.sh (m:=1) rfl
  match ns,this with
  | [m],_=>exact ⟨m,rfl⟩
 obtain rfl:rows=[]:=by
  have:=hd.sh.rw_
  have e:(rows.length:Int)=0:=(V.int.inj this).symm
  exact List.eq_nil_of_length_eq_zero (by omega)
 obtain ⟨g,rfl⟩:=zQ (show Vbtpah.guard (Vbtpah.isMinute m) (.open_ m.toNat)=some c0 from hd.dc)
 have g1:=g
 obtain ⟨m,rfl,lo1,hi1⟩:=zW g1 (by decide)
 simp only [Int.toNat_natCast] at fin;obtain ⟨L,fl,hL⟩:=vW hd
 have i0:yZ ([(m:Int)].map V.int) 0=some (vn m):=rfl
 have c:=hd.clo
 have tt:=hd.t
 have sa:=hd.st
 have f2:=sa.f2
 have f3:=sa.f3
 obtain ⟨q,dpl,hq0,hq,fp,d,rfl,pm,wf⟩:=yT hd rfl
 have e:does st (.open_ m) = .ok (st,listed (((List.range q.rides.length).map fun i=>i+1).filter (v7 q st.log m))):=by rw [← hq];rfl
 refine ⟨_,rfl,_,_,rfl,fl,L,_,_,_,rfl,rfl,hL,i0,?_⟩
 have sz:(10000:Nat) < sizeLine:=by decide
 have ri:=wf.ri
 obtain ⟨l2,f2r,as2,hs2,ha2⟩:=pm.at_.ri
 refine ⟨yF,fun W hW=>?_⟩
 have l0:=(Lv.of tt (Same.refl _) c).new (xs:=[]) hW
 refine ⟨_,rfl,_,_,rfl,fp.mono l0.s,_,_,rfl,f2r.mono l0.s,l2,_,rfl,.inl (SqL.monoT hs2 l0.s),_,_,rfl,rfl,1,_,rfl,by rw [List.length_map,ha2.len];omega,?_⟩
 have en:(((as2.map V.ref).length:Int)+1 - 1).toNat=q.rides.length:=by rw [List.length_map,ha2.len];omega
 refine for_range (lo:=1) (n:=(((as2.map V.ref).length:Int)+1 - 1).toNat) (fun i σ H'=>∃ v,σ=[some (.ref k.pk),some (.ref a),some (vn m),some (.ref W),v]∧Lv tb H H'∧H' W=some (.lst ((((List.range i).map fun j=>j+1).filter (v7 q st.log m)).map vn)))
  ⟨none,rfl,l0,upd_same⟩ ?_ ?_
 ·rw [en]
  rintro i σ H' hi ⟨v,rfl,lv,hw⟩
  have fl1:((List.range (i+1)).map fun j=>j+1).filter (v7 q st.log m)=((List.range i).map fun j=>j+1).filter (v7 q st.log m)++if v7 q st.log m (i+1)=true then [i+1] else []:=by
   rw [List.range_succ,List.map_append,List.filter_append]
   congr 1
   by_cases h:v7 q st.log m (i+1)=true<;>simp [h]
  have ll:((((List.range i).map fun j=>j+1).filter (v7 q st.log m)).map vn).length≤10:=by
   rw [List.length_map];refine Nat.le_trans (List.length_filter_le ..) ?_
   rw [List.length_map,List.length_range];omega
  have er:V.int (1+(i:Int))=vn (i+1):=congrArg V.int (by omega)
  rw [er];refine ⟨_,rfl,_,_,rfl,fp.mono lv.s,_,rfl,_,_,rfl,f3.mono lv.s,_,rfl,_,rfl,d.pl,k.le,q,st.log,i+1,m,rfl,lv.c,lv.b,pm.at_.mono lv.s,wf.toPlanWf,by omega,by omega,sa.log.mono lv.s,sa.n250,sa.ok,fun H1 D1 ts l1 hD0 hD1 al=>?_⟩
  have lw:=lv.trans l1
  have hw1:=l1.s _ _ hw (fun _ z=>nomatch z)
  refine ⟨D1,_,rfl,.inl (SqL.of hD1),rfl,_,rfl,?_⟩
  have ee:decide (V.int ((ts.map V.ref).length:Int)=V.int 0)=v7 q st.log m (i+1):=by
   rw [List.length_map,al.len,decI];unfold v7
   cases whyNot q st.log (i+1) m with
   | nil=>rfl
   | cons a l=>simp;omega
  refine zR ?_ ?_
  ·intro h1
   rw [ee] at h1;rw [if_pos h1] at fl1;have l3:=lw.lst (ys:=(((List.range i).map fun j=>j+1).filter (v7 q st.log m)).map vn++[vn (i+1)]) hW hw1
   refine ⟨_,rfl,.inl ⟨rfl,_,SqL.of hw1⟩,_,rfl,W,_,_,rfl,rfl,hw1,by omega,_,⟨l3.k,l3.c,Same.refl _⟩,_,rfl,l3,?_⟩
   rw [upd_same,fl1,List.map_append];rfl
  ·intro h1
   rw [ee] at h1;rw [if_neg (by rw [h1];exact Bool.false_ne_true),List.append_nil] at fl1
   exact ⟨_,⟨lw.k,lw.c,Same.refl _⟩,_,rfl,lw,by rw [fl1];exact hw1⟩
 ·rw [en]
  rintro σ H' ⟨v,rfl,lv,hw⟩
  refine ⟨yF,fun D1 hD1=>?_⟩
  have l1:=lv.new (xs:=[V.int 0]) hD1
  have a1:(upd H' D1 (.lst [V.int 0])) D1=some (.lst [V.int 0]):=upd_same
  have ll:(((List.range q.rides.length).map fun j=>j+1).filter (v7 q st.log m)).length≤10:=by
   refine Nat.le_trans (List.length_filter_le ..) ?_
   rw [List.length_map,List.length_range];omega
  refine ⟨_,rfl,W,_,rfl,l1.c,(Same.new hD1) _ _ hw,by omega,fun D2 hD2=>?_⟩
  have l3:=l1.new (xs:=(listed (((List.range q.rides.length).map fun j=>j+1).filter (v7 q st.log m))).map V.int) hD2
  refine ⟨D1,D2,_,_,rfl,rfl,by rw [zH (zO a1 hD2)];exact a1,upd_same,?_,fun D hD=>?_⟩
  ·rw [listT_len]
   show 1+_≤_
   omega
  ·exact retL (l3.new (xs:=[V.int 0]++(listed (((List.range q.rides.length).map fun j=>j+1).filter (v7 q st.log m))).map V.int) hD) sa fin e (l3.none' hD) upd_same
theorem sc_answer_rule : zK ["park","call","number","minute","known","rule","readings","walked","last_minute"] ["park","call"] (zE (z9 140)):=by walk_at "sc"
theorem ok_answer_rule (T:Txt P w K mg)(B:TabTxt K mg tb):Dfn P w K mg base "answer_rule" ["park","call"] [] 6 (yR K tb 16):=by
 have nd:=sc_answer_rule.nd
 refine T.d_answer_rule.ok sc_answer_rule (fun vs H Q E h=>?_) (fun f cdv A outer s H vs Q E hr h=>?_)
 ·obtain ⟨_,_,_,_,_,_,rfl,_⟩:=h;rfl
 obtain ⟨k,st,a,ns,rows,c0,rfl,hd,fin⟩:=h
 refine ⟨_,(zJ H (zB (zL (i:=2) nd rfl (Or.inl rfl) (zY (yI K) (zZ K (pv 1)) zG (fun _ _=>rfl))) (zB (zL (i:=3) nd rfl (Or.inl rfl) (zY (yI K) (zZ K (pv 1)) zG (fun _ _=>rfl))) (zB (zL (i:=4) nd rfl (Or.inl rfl) (uR (slK K) (zZ K (pv 0)) po_none (uE (zY (yI K) (zZ K (pv 1)) zG (fun _ _=>rfl))))) (zB (zX (zP w8 (pv 2) (zU (xS K) rfl T.b_len yD (zA (zZ K (zZ K (pv 0))) zC)) (zN _)) (zD (zI (zT (zA (yW T.g_NO_RULE) zC)))) zM) (zB (zL (i:=5) nd rfl (Or.inl rfl) (zY (yI K) (zZ K (zZ K (pv 0))) (yG wQ (pv 2) zG) (fun _ _=>rfl))) (zB (zL (i:=6) nd rfl (Or.inl rfl) (zS (ok_readings_of T B) (hr.mono (by decide)) (zA (pv 4) (zA (zZ K (pv 5)) (zA (pv 3) zC))))) (zB (zL (i:=7) nd rfl (Or.inl rfl) (zS (ok_walk_rule T) (hr.mono (by decide)) (zA (pv 5) (zA (pv 6) zC)))) (zB (zL (i:=8) nd rfl (Or.inl rfl) (uT (zP w8 (zU (xS K) rfl T.b_len yD (zA (pv 6) zC)) zG (zN _)) (zY (ixTK K) (zY (yI K) (pv 6) (pe_un un_neg zG) (fun _ _=>rfl)) zG (fun _ _=>rfl)) (yW T.g_NEVER))) (zD (zI (zT (zA zG (zA (uT (yC (zZ K (pv 7))) zG zG) (zA (zZ K (pv 7)) (zA (zU (xS K) rfl T.b_len yD (zA (pv 6) zC)) (zA (pv 8) zC))))))))))))))))),?_⟩
 obtain ⟨r,m,z,rfl⟩:∃ r m z,ns=[r,m,z]:=by
  have:=z0 hd.sh (m:=3) rfl
  match ns,this with
  | [r,m,z],_=>exact ⟨r,m,z,rfl⟩
 obtain rfl:rows=[]:=by
  have:=hd.sh.rw_
  have e:(rows.length:Int)=0:=(V.int.inj this).symm
  exact List.eq_nil_of_length_eq_zero (by omega)
 obtain ⟨g,rfl⟩:=zQ (show Vbtpah.guard (inside r 1 20&&(Vbtpah.isMinute m&&inside z 0 250)) (.rule r.toNat m.toNat z.toNat)=some c0 from hd.dc)
 simp only [Bool.and_eq_true] at g;obtain ⟨g1,g2,g3⟩:=g
 obtain ⟨r,rfl,lo1,hi1⟩:=zW g1 (by decide)
 obtain ⟨m,rfl,lo2,hi2⟩:=zW g2 (by decide)
 obtain ⟨z,rfl,lo3,hi3⟩:=zW g3 (by decide)
 simp only [Int.toNat_natCast] at fin;obtain ⟨L,fl,hL⟩:=vW hd
 have i0:yZ ([(r:Int),(m:Int),(z:Int)].map V.int) 0=some (vn r):=rfl
 have i1:yZ ([(r:Int),(m:Int),(z:Int)].map V.int) 1=some (vn m):=rfl
 have i2:yZ ([(r:Int),(m:Int),(z:Int)].map V.int) 2=some (vn z):=rfl
 have c:=hd.clo
 have tt:=hd.t
 have sa:=hd.st
 have f2:=sa.f2
 have f3:=sa.f3
 obtain ⟨q,dpl,hq0,hq,fp,d,rfl,pm,wf⟩:=yT hd rfl
 obtain ⟨l3,f3r,as3,hs3,ha3⟩:=pm.at_.ru
 have e:does st (.rule r m z)=guards [(decide (q.rules.length < r),-17)] (.ok (st,ruleA ((q.rules[r - 1]?).getD ⟨0,0,true,0,0,0⟩) (st.log.take z) m)):=by rw [← hq];rfl
 refine ⟨_,rfl,_,_,rfl,fl,L,_,_,_,rfl,rfl,hL,i0,?_⟩
 refine ⟨_,rfl,_,_,rfl,fl,L,_,_,_,rfl,rfl,hL,i1,?_⟩
 obtain ⟨as,hle,hal⟩:=sa.en
 refine ⟨_,rfl,_,_,rfl,f3,_,rfl,_,_,rfl,fl,L,_,_,_,rfl,rfl,hL,i2,_,rfl,k.le,_,rfl,SqL.of hle,fun KN hKN=>?_⟩
 rw [cut_to];have l0:=(Lv.of tt (Same.refl _) c).new (xs:=(as.map V.ref).take z) hKN
 have aK:(upd H KN (.lst ((as.map V.ref).take z))) KN=some (.lst ((as.take z).map V.ref)):=by rw [upd_same,List.map_take]
 generalize upd H KN (.lst ((as.map V.ref).take z))=H0 at l0 aK ⊢
 have lg:LogAt K H0 KN (st.log.take z):=⟨as.take z,SqL.of aK,(hal.take z).mono fun _ _ q=>q.mono l0.s⟩
 have lz:(st.log.take z).length≤250:=by rw [List.length_take];have:=sa.n250;omega
 refine ⟨_,rfl,_,rfl,_,_,rfl,fp.mono l0.s,_,_,rfl,f3r.mono l0.s,l3,_,rfl,.inl (SqL.monoT hs3 l0.s),_,_,rfl,rfl,_,rfl,?_⟩
 rw [List.length_map,ha3.len,tJ];refine zR (fun h=>⟨yF,fun D hD=>tE l0.k l0.c l0.b (sa.mono l0.s) (fin.shift l0) (xF e h) D hD⟩) fun h=>?_
 replace e:=wL e h
 have r2:r≤q.rules.length:=by have:=of_decide_eq_false h;omega
 obtain ⟨ru,hru⟩:∃ ru,q.rules[r - 1]? = some ru:=⟨_,List.getElem?_eq_getElem (by omega)⟩
 rw [hru] at e
 change does st (.rule r m z) = .ok (st,ruleA ru (st.log.take z) m) at e
 obtain ⟨b,hb,rb⟩:=ha3.get hru
 have ix:yZ (as3.map V.ref) ((r:Int) - 1)=some (V.ref b):=t8 (by omega) (by rw [List.getElem?_map,hb];rfl)
 refine ⟨_,rfl,_,_,rfl,fp.mono l0.s,_,_,rfl,f3r.mono l0.s,_,rfl,_,_,rfl,rfl,l3,_,_,_,rfl,rfl,SqL.monoT hs3 l0.s,ix,?_⟩
 refine ⟨_,rfl,_,rfl,_,_,rfl,rb.se.mono l0.s,_,rfl,KN,st.log.take z,ru.sensor,m,rfl,l0.c,l0.b,lg,lz,fun H1 D1 ts l1 hD10 hD1 al=>?_⟩
 have l01:=l0.trans l1
 have rds:RdsAt K H1 D1 (readingsOf (st.log.take z) ru.sensor m):=⟨ts,SqL.of hD1,al⟩
 refine ⟨_,rfl,_,rfl,b,D1,ru,_,rfl,l01.c,rb.mono l01.s,rds,fun H2 x s2 c2 g1 g2=>?_⟩
 have l2:=l01.more s2 c2
 have hD2:=s2 _ _ hD1
 have al2:All2 (uN K H2) ts (readingsOf (st.log.take z) ru.sensor m):=al.mono fun _ _ q=>SqT.monoT q s2.t
 have fini:∀ lm:Int,lm=(match (readingsOf (st.log.take z) ru.sensor m).getLast? with | none=>-1 | some x=>nat x.minute)→∀ D,H2 D=none→∀ sh:Int,sh=(if (switchOf ru (readingsOf (st.log.take z) ru.sensor m)).shut=true then 1 else 0)→∃ H9,Fg H (upd H2 D (.lst [V.int 0,V.int sh,V.int (uM (switchOf ru (readingsOf (st.log.take z) ru.sensor m)).last),V.int ((ts.map V.ref).length:Int),V.int lm])) H9∧Q (.ref D) H9:=fun lm hlm D hD sh hsh=>by
  refine retL (l2.new (xs:=[V.int 0,V.int sh,V.int (uM (switchOf ru (readingsOf (st.log.take z) ru.sensor m)).last),V.int ((ts.map V.ref).length:Int),V.int lm]) hD) sa fin e (l2.none' hD) ?_
  rw [upd_same,List.length_map,al.len,hlm,hsh];unfold ruleA
  cases (switchOf ru (readingsOf (st.log.take z) ru.sensor m)).last<;>rfl
 refine ⟨_,rfl,D1,_,rfl,.inl (SqL.of hD2),_,_,rfl,rfl,_,rfl,?_⟩
 have tail:∀ lm:Int,lm=(match (readingsOf (st.log.take z) ru.sensor m).getLast? with | none=>-1 | some x=>nat x.minute)→True:=fun _ _=>trivial
 refine zR ?_ ?_
 ·intro h1
  have z1:0 < ts.length:=by have:=of_decide_eq_true h1;rw [List.length_map] at this;omega
  have hl:=al.len
  obtain ⟨y,hy⟩:∃ y,(readingsOf (st.log.take z) ru.sensor m).getLast? = some y:=by
   cases e:(readingsOf (st.log.take z) ru.sensor m).getLast? with
   | none=>rw [List.getLast?_eq_none_iff] at e;rw [e,List.length_nil] at hl;omega
   | some y=>exact ⟨y,rfl⟩
  have hy2:(readingsOf (st.log.take z) ru.sensor m)[(readingsOf (st.log.take z) ru.sensor m).length - 1]? = some y:=by rw [← List.getLast?_eq_getElem?];exact hy
  obtain ⟨b9,hb9,tb9⟩:=al2.get hy2
  have at1:yZ (ts.map V.ref) (-1)=some (V.ref b9):=at_last (by rw [List.length_map,hl,List.getElem?_map,hb9];rfl)
  have at2:yZ [V.int (y.minute:Int),V.int (y.value:Int)] 0=some (V.int (y.minute:Int)):=rfl
  refine ⟨_,rfl,_,rfl,D1,_,_,_,rfl,rfl,SqL.of hD2,at1,b9,_,_,_,rfl,rfl,tb9,at2,?_⟩
  refine ⟨_,rfl,_,_,rfl,g1,_,rfl,?_⟩
  cases hsh:(switchOf ru (readingsOf (st.log.take z) ru.sensor m)).shut with
  | true =>
   refine zR (b:=true) (fun _=>?_) fun z=>nomatch z
   exact ⟨_,rfl,_,_,rfl,g2,_,rfl,D1,_,rfl,.inl (SqL.of hD2),_,rfl,yF,fun D hD=>fini (y.minute:Int) (by rw [hy];rfl) D hD 1 (by rw [hsh];rfl)⟩
  | false =>
   refine zR (b:=false) (fun z=>nomatch z) fun _=>?_
   exact ⟨_,rfl,_,_,rfl,g2,_,rfl,D1,_,rfl,.inl (SqL.of hD2),_,rfl,yF,fun D hD=>fini (y.minute:Int) (by rw [hy];rfl) D hD 0 (by rw [hsh];rfl)⟩
 ·intro h1
  have z1:ts.length=0:=by have:=of_decide_eq_false h1;rw [List.length_map] at this;omega
  have hn:(readingsOf (st.log.take z) ru.sensor m).getLast? = none:=by
   rw [List.getLast?_eq_none_iff];exact List.eq_nil_of_length_eq_zero (by rw [← al.len];exact z1)
  refine ⟨_,rfl,_,_,rfl,g1,_,rfl,?_⟩
  cases hsh:(switchOf ru (readingsOf (st.log.take z) ru.sensor m)).shut with
  | true =>
   refine zR (b:=true) (fun _=>?_) fun z=>nomatch z
   exact ⟨_,rfl,_,_,rfl,g2,_,rfl,D1,_,rfl,.inl (SqL.of hD2),_,rfl,yF,fun D hD=>fini (-1) (by rw [hn]) D hD 1 (by rw [hsh];rfl)⟩
  | false =>
   refine zR (b:=false) (fun z=>nomatch z) fun _=>?_
   exact ⟨_,rfl,_,_,rfl,g2,_,rfl,D1,_,rfl,.inl (SqL.of hD2),_,rfl,yF,fun D hD=>fini (-1) (by rw [hn]) D hD 0 (by rw [hsh];rfl)⟩
end
end My
namespace My
open PySem PySem.Spec PyProof.Rows L2
open Vbtpah (Says Log Reading Park Sensor Ride Rule Check)
open Vbtpah (does guards inside decode nats nat parted pairsOf longest)
theorem nat_all {t:List Int}{lo hi:Int}(h:(t.all fun z=>inside z lo hi)=true)(h0:0≤lo):t.map V.int=(nats t).map vn:=by
 unfold nats;rw [List.map_map];refine List.map_congr_left fun z hz=>?_
 have:=List.all_eq_true.mp h z hz
 rw [wA,Bool.and_eq_true] at this;have h2:=of_decide_eq_true this.1
 show V.int z=V.int ((z.toNat:Nat):Int)
 rw [Int.toNat_of_nonneg (by omega)]
section
variable {P:Program}{w:World}{K:zF}{mg:Str→Option Value}{base:Heap}{tb:Addr}
theorem sc_answer_crew : zK ["park","call","crew","jobs","way"] ["park","call"] (zE (z9 145)):=by walk_at "sc"
theorem ok_answer_crew (T:Txt P w K mg):Dfn P w K mg base "answer_crew" ["park","call"] [] 5 (yR K tb 21):=by
 have nd:=sc_answer_crew.nd
 refine T.d_answer_crew.ok sc_answer_crew (fun vs H Q E h=>?_) (fun f cdv A outer s H vs Q E hr h=>?_)
 ·obtain ⟨_,_,_,_,_,_,rfl,_⟩:=h;rfl
 obtain ⟨k,st,a,ns,rows,c0,rfl,hd,fin⟩:=h
 refine ⟨_,(zJ H (zB (zL (i:=2) nd rfl (Or.inl rfl) (zY (yI K) (zZ K (pv 1)) zG (fun _ _=>rfl))) (zB (zL (i:=3) nd rfl (Or.inl rfl) (zS (ok_pairs_of T) (hr.mono (by decide)) (zA (zY (yI K) (zZ K (pv 1)) zG (fun _ _=>rfl)) zC))) (zB (zL (i:=4) nd rfl (Or.inl rfl) (zS (ok_best_way T) (hr.mono (by decide)) (zA (pv 2) (zA (pv 3) zC)))) (zB (zX (zP op_isN (pv 4) uS (zN _)) (zD (zI (zT (zA (yW T.g_NO_WAY) zC)))) zM) (zD (zI (yG wH (zT (zA zG (zA (zS (ok_time_taken T) (hr.mono (by decide)) (zA (pv 4) (zA (pv 2) (zA (pv 3) zC)))) zC))) (pv 4))))))))),?_⟩
 obtain rfl:ns=[]:=List.eq_nil_of_length_eq_zero (z0 hd.sh (m:=0) rfl)
 obtain ⟨qs,js,rfl⟩:∃ qs js,rows=[qs,js]:=by
  have e2:=hd.sh.k21 rfl
  match rows,e2 with
  | [a,b],_=>exact ⟨a,b,rfl⟩
 obtain ⟨g,rfl⟩:=zQ (show Vbtpah.guard (decide (1≤qs.length∧qs.length≤3)&&(qs.all (fun x=>inside x 0 31)&&Vbtpah.isJobs js)) (.crew qs js)=some c0 from hd.dc)
 simp only [Bool.and_eq_true] at g;obtain ⟨g1,g2,g3⟩:=g
 have g1:=of_decide_eq_true g1
 unfold Vbtpah.isJobs at g3;rw [Bool.and_eq_true] at g3;obtain ⟨j1,j3⟩:=g3
 obtain ⟨j1,j2⟩:=of_decide_eq_true j1
 rw [show (js.zipIdx.all fun x=>if x.2 % 2=0 then inside x.1 1 1000 else inside x.1 0 4)=(js.zipIdx 0).all jobF from rfl,jobs_all js 0 rfl j1,Bool.and_eq_true] at j3;obtain ⟨j3,j4⟩:=j3
 obtain ⟨R,bs,fr0,hR,hb⟩:=hd.ca.rl
 obtain ⟨b0,hb0,rb0⟩:=hb.get (i:=0) rfl
 obtain ⟨b1,hb1,rb1⟩:=hb.get (i:=1) rfl
 rw [nat_all g2 (by decide)] at rb0;have i0:yZ (bs.map V.ref) 0=some (V.ref b0):=xI (n:=0) rfl (by rw [List.getElem?_map,hb0];rfl)
 have i1:yZ (bs.map V.ref) 1=some (V.ref b1):=xI (n:=1) rfl (by rw [List.getElem?_map,hb1];rfl)
 have c:=hd.clo
 have tt:=hd.t
 have sa:=hd.st
 have ds:does st (.crew qs js)=(match parted (nats qs) (pairsOf js) with
  | none=>.error (-18)
  | some x=>.ok (st,nat x.1::x.2.map nat)):=rfl
 refine ⟨_,rfl,_,_,rfl,fr0,R,_,_,_,rfl,rfl,hR,i0,?_⟩
 refine ⟨_,rfl,_,_,rfl,fr0,R,_,_,_,rfl,rfl,hR,i1,b1,js,rfl,c,rb1,j1,by omega,fun H1 D1 ts s1 c1 hD0 hD1 al=>?_⟩
 have lq:(nats qs).length=qs.length:=by unfold nats;rw [List.length_map]
 have ca:CrewAt K H1 b0 D1 (nats qs) (pairsOf js):=by
  refine ⟨SqL.monoT rb0 s1.t,⟨ts,SqL.of hD1,?_⟩,by omega,by omega,by rw [uG,List.length_map,vI];omega⟩
  rw [uG];refine ⟨by rw [al.len,List.length_map],fun i t x ht hx=>?_⟩
  obtain ⟨p,hp,rfl⟩:=yB hx
  have pa:=al.at_ i t p ht hp
  have pm:=List.mem_of_getElem? hp
  have q1:=List.all_eq_true.mp j3 p.1 (List.mem_map.mpr ⟨p,pm,rfl⟩)
  have q2:=List.all_eq_true.mp j4 p.2 (List.mem_map.mpr ⟨p,pm,rfl⟩)
  rw [wA,Bool.and_eq_true] at q1 q2;have q1:=of_decide_eq_true q1.1
  have q2:=of_decide_eq_true q2.1
  unfold PiAt at pa;show SqT K H1 t [V.int ((p.1.toNat:Nat):Int),V.int ((p.2.toNat:Nat):Int)]
  rw [Int.toNat_of_nonneg (by omega),Int.toNat_of_nonneg (by omega)];exact pa
 have l1:=Lv.of tt s1 c1
 refine ⟨_,rfl,_,rfl,b0,D1,nats qs,pairsOf js,rfl,c1,ca,fun hno=>?_,fun n wy wa H2 hp hn hm s2 c2 hw=>?_⟩
 ·rw [hno] at ds
  refine ⟨_,rfl,rfl,_,rfl,?_⟩
  refine zR (fun _=>⟨yF,fun D hD=>tE l1.k l1.c l1.b (sa.mono l1.s) (fin.shift l1) ds D hD⟩) fun z=>absurd z (by simp)
 ·rw [hp] at ds
  have l2:=l1.more s2 c2
  have wm2:=(List.mem_filter.mp hm).1
  have wl:=vX _ _ _ wm2
  refine ⟨_,rfl,rfl,_,rfl,?_⟩
  refine zR (fun z=>absurd z (by simp)) fun _=>?_
  refine ⟨_,rfl,_,rfl,_,rfl,wa,b0,D1,wy,nats qs,pairsOf js,rfl,c2,ca.mono s2.t,SqL.of hw,wl,ways_in _ _ _ wm2,yF,fun B hB=>?_⟩
  rw [← hn];have l3:=l2.new (xs:=[V.int 0,vn n]) hB
  have sz:(10000:Nat) < sizeLine:=by decide
  refine ⟨_,rfl,B,wa,_,_,rfl,rfl,upd_same,(Same.new hB) _ _ hw,?_,fun D hD=>?_⟩
  ·rw [List.length_map,wl]
   have:=ca.n7
   show 2+_≤_
   omega
  ·refine retL (l3.new (xs:=[V.int 0,vn n]++wy.map vn) hD) sa fin ds (l3.none' hD) ?_
   rw [upd_same];show _=some (HO.lst (V.int 0::V.int (nat n)::(wy.map nat).map V.int))
   rw [List.map_map];rfl
def spQs (K:zF)(tb:Addr):Sp:=fun vs H Q _=>∃ (k:Pk) (s:Vbtpah.State) (a:Addr) (p:Int) (ns:List Int) (rows:List (List Int)) (c:Vbtpah.Call),vs=[.ref k.pk,.ref a]∧Hd K tb H k s a p ns rows c∧Fin K tb k s c H Q∧14≤p
theorem ans_fv (T:Txt P w K mg)(B:TabTxt K mg tb){fs:List Addr}(al:All2 (fun f (n:Str)=>mg n=some (.ref f)) fs ["answer_why","answer_whythen","answer_rule","answer_due","answer_locks","answer_orders","answer_openrides","answer_crew","answer_entry","answer_state"]){j:Nat}(hj:j < 10):∃ f,fs[j]? = some f∧Fv P w K mg base 6 (.ref f) (yR K tb (14+(j:Int))):=by
 have cs:=c10 j (by omega)
 rcases cs with rfl | rfl | rfl | rfl | rfl | rfl | rfl | rfl | rfl | rfl
 ·obtain ⟨f,hf,hm⟩:=al.get (i:=0) rfl;exact ⟨f,hf,Dfn.fv (ok_answer_why T B) (by decide) hm⟩
 ·obtain ⟨f,hf,hm⟩:=al.get (i:=1) rfl;exact ⟨f,hf,Dfn.fv (ok_answer_whythen T B) (by decide) hm⟩
 ·obtain ⟨f,hf,hm⟩:=al.get (i:=2) rfl;exact ⟨f,hf,Dfn.fv (ok_answer_rule T B) (by decide) hm⟩
 ·obtain ⟨f,hf,hm⟩:=al.get (i:=3) rfl;exact ⟨f,hf,Dfn.fv (ok_answer_due T) (by decide) hm⟩
 ·obtain ⟨f,hf,hm⟩:=al.get (i:=4) rfl;exact ⟨f,hf,Dfn.fv (ok_answer_locks T) (by decide) hm⟩
 ·obtain ⟨f,hf,hm⟩:=al.get (i:=5) rfl;exact ⟨f,hf,Dfn.fv (ok_answer_orders T) (by decide) hm⟩
 ·obtain ⟨f,hf,hm⟩:=al.get (i:=6) rfl;exact ⟨f,hf,Dfn.fv (ok_answer_openrides T B) (by decide) hm⟩
 ·obtain ⟨f,hf,hm⟩:=al.get (i:=7) rfl;exact ⟨f,hf,Dfn.fv (ok_answer_crew T) (by decide) hm⟩
 ·obtain ⟨f,hf,hm⟩:=al.get (i:=8) rfl;exact ⟨f,hf,Dfn.fv (ok_answer_entry T) (by decide) hm⟩
 ·obtain ⟨f,hf,hm⟩:=al.get (i:=9) rfl;exact ⟨f,hf,Dfn.fv (ok_answer_state T) (by decide) hm⟩
theorem sc_answer_question : zK ["park","call","answerer"] ["park","call"] (zE (z9 149)):=by walk_at "sc"
theorem ok_answer_question (T:Txt P w K mg)(B:TabTxt K mg tb):Dfn P w K mg base "answer_question" ["park","call"] [] 7 (spQs K tb):=by
 have nd:=sc_answer_question.nd
 refine T.d_answer_question.ok sc_answer_question (fun vs H Q E h=>?_) (fun f cdv A outer s H vs Q E hr h=>?_)
 ·obtain ⟨_,_,_,_,_,_,_,rfl,_⟩:=h;rfl
 obtain ⟨k,st,a,p,ns,rows,c0,rfl,hd,fin,hp⟩:=h
 obtain ⟨AN,fs,T_ANSWERERS,kt,al⟩:=T.x_ANSWERERS
 have hrV:Room 6 _:=hr.mono (by decide)
 refine ⟨_,(zJ H (zB (zL (i:=2) nd rfl (Or.inl rfl) (zY (ixTK K) (pgr T_ANSWERERS) (yG wQ (zZ K (pv 1)) (yW T.g_FIRST_QUESTION)) (fun _ _=>rfl))) (zD (zI (pe_callV (pv 2) hrV (zA (pv 0) (zA (pv 1) zC))))))),?_⟩
 have hi:=hd.sh.hi
 obtain ⟨f1,hf,fv⟩:=ans_fv (base:=base) T B al (j:=(p - 14).toNat) (by omega)
 rw [show 14+(((p - 14).toNat:Nat):Int)=p by omega] at fv;have ix:yZ (fs.map V.ref) (p - 14)=some (V.ref f1):=xI (n:=(p - 14).toNat) (by omega) (by rw [List.getElem?_map,hf];rfl)
 refine ⟨_,rfl,_,_,rfl,hd.ca.nu,_,_,rfl,rfl,AN,_,_,_,rfl,rfl,kt.sq,ix,?_⟩
 refine ⟨_,rfl,yR K tb p,fv,_,rfl,_,rfl,k,st,a,ns,rows,c0,rfl,hd,fun s' ans H' D e fr sa' hD hD'=>⟨_,⟨fr.k,fr.c,Same.refl _⟩,fin s' ans H' D e fr sa' hD hD'⟩⟩
end
end My
namespace My
open PySem PySem.Spec PyProof.Rows L2
open Vbtpah (Says Log Reading Park Sensor Ride Rule Check)
open Vbtpah (does guards inside decode stepNumbers)
theorem yK (b:Bool)(a:Vbtpah.Call):(Vbtpah.guard b a).isSome=b:=by unfold Vbtpah.guard;cases b<;>rfl
theorem dec_all {p:Int}{ns:List Int}{rows:List (List Int)}(sh:Shp p ns.length rows.length):(decode ((p::ns)::rows)).isSome=(y6 p ns&&yV p rows)∧∀ c,decode ((p::ns)::rows)=some c→Vbtpah.needsPark c=decide (p≠0∧p≠1∧p≠21):=by
 have lo:=sh.lo
 have hi:=sh.hi
 have cs:=c24 p (by omega) (by omega)
 rcases cs with rfl | rfl | rfl | rfl | rfl | rfl | rfl | rfl | rfl | rfl | rfl | rfl | rfl | rfl | rfl | rfl | rfl | rfl | rfl | rfl | rfl | rfl | rfl | rfl
 ·have ln:ns.length=0:=z0 sh rfl
  have lr:rows.length=1:=by have e:(rows.length:Int)=1:=(V.int.inj sh.rw_).symm;omega
  match ns,rows,ln,lr with
  | [],[r0],_,_ =>
   refine ⟨(yK _ _).trans ?_,fun c h=>by obtain ⟨_,rfl⟩:=zQ h;rfl⟩
   simp [y6,yV,ranges]
 ·have ln:ns.length=0:=z0 sh rfl
  have lr:rows.length=1:=by have e:(rows.length:Int)=1:=(V.int.inj sh.rw_).symm;omega
  match ns,rows,ln,lr with
  | [],[r0],_,_ =>
   refine ⟨(yK _ _).trans ?_,fun c h=>by obtain ⟨_,rfl⟩:=zQ h;rfl⟩
   simp [y6,yV,ranges]
 ·have ln:ns.length=0:=z0 sh rfl
  have lr:rows.length=0:=by have e:(rows.length:Int)=0:=(V.int.inj sh.rw_).symm;omega
  match ns,rows,ln,lr with
  | [],[],_,_ =>
   exact ⟨rfl,fun c h=>by cases (Option.some.inj (show some _=some c from h));rfl⟩
 ·have ln:ns.length=1:=z0 sh rfl
  have lr:rows.length=0:=by have e:(rows.length:Int)=0:=(V.int.inj sh.rw_).symm;omega
  match ns,rows,ln,lr with
  | [x0],[],_,_ =>
   refine ⟨(yK _ _).trans ?_,fun c h=>by obtain ⟨_,rfl⟩:=zQ h;rfl⟩
   simp [y6,yV,ranges,Vbtpah.isRide,Vbtpah.isWho,Vbtpah.isMinute]
 ·have ln:ns.length=3:=z0 sh rfl
  have lr:rows.length=0:=by have e:(rows.length:Int)=0:=(V.int.inj sh.rw_).symm;omega
  match ns,rows,ln,lr with
  | [x0,x1,x2],[],_,_ =>
   refine ⟨(yK _ _).trans ?_,fun c h=>by obtain ⟨_,rfl⟩:=zQ h;rfl⟩
   simp [y6,yV,ranges,Vbtpah.isRide,Vbtpah.isWho,Vbtpah.isMinute]
 ·have ln:ns.length=2:=z0 sh rfl
  have lr:rows.length=0:=by have e:(rows.length:Int)=0:=(V.int.inj sh.rw_).symm;omega
  match ns,rows,ln,lr with
  | [x0,x1],[],_,_ =>
   refine ⟨(yK _ _).trans ?_,fun c h=>by obtain ⟨_,rfl⟩:=zQ h;rfl⟩
   simp [y6,yV,ranges,Vbtpah.isRide,Vbtpah.isWho,Vbtpah.isMinute]
 ·have ln:ns.length=2:=z0 sh rfl
  have lr:rows.length=0:=by have e:(rows.length:Int)=0:=(V.int.inj sh.rw_).symm;omega
  match ns,rows,ln,lr with
  | [x0,x1],[],_,_ =>
   refine ⟨(yK _ _).trans ?_,fun c h=>by obtain ⟨_,rfl⟩:=zQ h;rfl⟩
   simp [y6,yV,ranges,Vbtpah.isRide,Vbtpah.isWho,Vbtpah.isMinute]
 ·have ln:ns.length=2:=z0 sh rfl
  have lr:rows.length=0:=by have e:(rows.length:Int)=0:=(V.int.inj sh.rw_).symm;omega
  match ns,rows,ln,lr with
  | [x0,x1],[],_,_ =>
   refine ⟨(yK _ _).trans ?_,fun c h=>by obtain ⟨_,rfl⟩:=zQ h;rfl⟩
   simp [y6,yV,ranges,Vbtpah.isRide,Vbtpah.isWho,Vbtpah.isMinute]
 ·have ln:ns.length=2:=z0 sh rfl
  have lr:rows.length=0:=by have e:(rows.length:Int)=0:=(V.int.inj sh.rw_).symm;omega
  match ns,rows,ln,lr with
  | [x0,x1],[],_,_ =>
   refine ⟨(yK _ _).trans ?_,fun c h=>by obtain ⟨_,rfl⟩:=zQ h;rfl⟩
   simp [y6,yV,ranges,Vbtpah.isRide,Vbtpah.isWho,Vbtpah.isMinute]
 ·have ln:ns.length=4:=z0 sh rfl
  have lr:rows.length=0:=by have e:(rows.length:Int)=0:=(V.int.inj sh.rw_).symm;omega
  match ns,rows,ln,lr with
  | [x0,x1,x2,x3],[],_,_ =>
   refine ⟨(yK _ _).trans ?_,fun c h=>by obtain ⟨_,rfl⟩:=zQ h;rfl⟩
   simp [y6,yV,ranges,Vbtpah.isRide,Vbtpah.isWho,Vbtpah.isMinute]
 ·have ln:ns.length=1:=z0 sh rfl
  have lr:rows.length=0:=by have e:(rows.length:Int)=0:=(V.int.inj sh.rw_).symm;omega
  match ns,rows,ln,lr with
  | [x0],[],_,_ =>
   refine ⟨(yK _ _).trans ?_,fun c h=>by obtain ⟨_,rfl⟩:=zQ h;rfl⟩
   simp [y6,yV,ranges,Vbtpah.isRide,Vbtpah.isWho,Vbtpah.isMinute]
 ·have ln:ns.length=2:=z0 sh rfl
  have lr:rows.length=0:=by have e:(rows.length:Int)=0:=(V.int.inj sh.rw_).symm;omega
  match ns,rows,ln,lr with
  | [x0,x1],[],_,_ =>
   refine ⟨(yK _ _).trans ?_,fun c h=>by obtain ⟨_,rfl⟩:=zQ h;rfl⟩
   simp [y6,yV,ranges,Vbtpah.isRide,Vbtpah.isWho,Vbtpah.isMinute]
 ·have ln:ns.length=2:=z0 sh rfl
  have lr:rows.length=0:=by have e:(rows.length:Int)=0:=(V.int.inj sh.rw_).symm;omega
  match ns,rows,ln,lr with
  | [x0,x1],[],_,_ =>
   refine ⟨(yK _ _).trans ?_,fun c h=>by obtain ⟨_,rfl⟩:=zQ h;rfl⟩
   simp [y6,yV,ranges,Vbtpah.isRide,Vbtpah.isWho,Vbtpah.isMinute]
 ·have ln:ns.length=2:=z0 sh rfl
  have lr:rows.length=0:=by have e:(rows.length:Int)=0:=(V.int.inj sh.rw_).symm;omega
  match ns,rows,ln,lr with
  | [x0,x1],[],_,_ =>
   refine ⟨(yK _ _).trans ?_,fun c h=>by obtain ⟨_,rfl⟩:=zQ h;rfl⟩
   simp [y6,yV,ranges,Vbtpah.isRide,Vbtpah.isWho,Vbtpah.isMinute]
 ·have ln:ns.length=1:=z0 sh rfl
  have lr:rows.length=0:=by have e:(rows.length:Int)=0:=(V.int.inj sh.rw_).symm;omega
  match ns,rows,ln,lr with
  | [x0],[],_,_ =>
   refine ⟨(yK _ _).trans ?_,fun c h=>by obtain ⟨_,rfl⟩:=zQ h;rfl⟩
   simp [y6,yV,ranges,Vbtpah.isRide,Vbtpah.isWho,Vbtpah.isMinute]
 ·have ln:ns.length=3:=z0 sh rfl
  have lr:rows.length=0:=by have e:(rows.length:Int)=0:=(V.int.inj sh.rw_).symm;omega
  match ns,rows,ln,lr with
  | [x0,x1,x2],[],_,_ =>
   refine ⟨(yK _ _).trans ?_,fun c h=>by obtain ⟨_,rfl⟩:=zQ h;rfl⟩
   simp [y6,yV,ranges,Vbtpah.isRide,Vbtpah.isWho,Vbtpah.isMinute]
 ·have ln:ns.length=3:=z0 sh rfl
  have lr:rows.length=0:=by have e:(rows.length:Int)=0:=(V.int.inj sh.rw_).symm;omega
  match ns,rows,ln,lr with
  | [x0,x1,x2],[],_,_ =>
   refine ⟨(yK _ _).trans ?_,fun c h=>by obtain ⟨_,rfl⟩:=zQ h;rfl⟩
   simp [y6,yV,ranges,Vbtpah.isRide,Vbtpah.isWho,Vbtpah.isMinute]
 ·have ln:ns.length=1:=z0 sh rfl
  have lr:rows.length=0:=by have e:(rows.length:Int)=0:=(V.int.inj sh.rw_).symm;omega
  match ns,rows,ln,lr with
  | [x0],[],_,_ =>
   refine ⟨(yK _ _).trans ?_,fun c h=>by obtain ⟨_,rfl⟩:=zQ h;rfl⟩
   simp [y6,yV,ranges,Vbtpah.isRide,Vbtpah.isWho,Vbtpah.isMinute]
 ·have ln:ns.length=1:=z0 sh rfl
  have lr:rows.length=0:=by have e:(rows.length:Int)=0:=(V.int.inj sh.rw_).symm;omega
  match ns,rows,ln,lr with
  | [x0],[],_,_ =>
   refine ⟨(yK _ _).trans ?_,fun c h=>by obtain ⟨_,rfl⟩:=zQ h;rfl⟩
   simp [y6,yV,ranges,Vbtpah.isRide,Vbtpah.isWho,Vbtpah.isMinute]
 ·have ln:ns.length=1:=z0 sh rfl
  have lr:rows.length=0:=by have e:(rows.length:Int)=0:=(V.int.inj sh.rw_).symm;omega
  match ns,rows,ln,lr with
  | [x0],[],_,_ =>
   refine ⟨(yK _ _).trans ?_,fun c h=>by obtain ⟨_,rfl⟩:=zQ h;rfl⟩
   simp [y6,yV,ranges,Vbtpah.isRide,Vbtpah.isWho,Vbtpah.isMinute]
 ·have ln:ns.length=1:=z0 sh rfl
  have lr:rows.length=0:=by have e:(rows.length:Int)=0:=(V.int.inj sh.rw_).symm;omega
  match ns,rows,ln,lr with
  | [x0],[],_,_ =>
   refine ⟨(yK _ _).trans ?_,fun c h=>by obtain ⟨_,rfl⟩:=zQ h;rfl⟩
   simp [y6,yV,ranges,Vbtpah.isRide,Vbtpah.isWho,Vbtpah.isMinute]
 ·have ln:ns.length=0:=z0 sh rfl
  have lr:rows.length=2:=by have e:(rows.length:Int)=2:=(V.int.inj sh.rw_).symm;omega
  match ns,rows,ln,lr with
  | [],[r0,r1],_,_ =>
   refine ⟨(yK _ _).trans ?_,fun c h=>by obtain ⟨_,rfl⟩:=zQ h;rfl⟩
   simp [y6,yV,ranges,isSk,Bool.and_assoc]
 ·have ln:ns.length=1:=z0 sh rfl
  have lr:rows.length=0:=by have e:(rows.length:Int)=0:=(V.int.inj sh.rw_).symm;omega
  match ns,rows,ln,lr with
  | [x0],[],_,_ =>
   refine ⟨(yK _ _).trans ?_,fun c h=>by obtain ⟨_,rfl⟩:=zQ h;rfl⟩
   simp [y6,yV,ranges,Vbtpah.isRide,Vbtpah.isWho,Vbtpah.isMinute]
 ·have ln:ns.length=0:=z0 sh rfl
  have lr:rows.length=0:=by have e:(rows.length:Int)=0:=(V.int.inj sh.rw_).symm;omega
  match ns,rows,ln,lr with
  | [],[],_,_ =>
   exact ⟨rfl,fun c h=>by cases (Option.some.inj (show some _=some c from h));rfl⟩
def spStep (K:zF)(tb:Addr):Sp:=fun vs H Q _=>∃ (k:Pk) (s:Vbtpah.State) (a:Addr) (p:Int) (ns:List Int) (rows:List (List Int)),vs=[.ref k.pk,.ref a]∧Clo H∧TabOk tb H∧StAt K H k s∧CallAt K H a p ns rows∧Shp p ns.length rows.length∧(∀ r∈rows,r.length≤2500) ∧
 ∀ s' ans H' D,stepNumbers s ((p::ns)::rows)=(s',ans)→Fr k tb H H'→StAt K H' k s'→H D=none→H' D=some (.lst (ans.map V.int))→Q (.ref D) H'
section
variable {P:Program}{w:World}{K:zF}{mg:Str→Option Value}{base:Heap}{tb:Addr}
theorem han_fv (T:Txt P w K mg)(B:TabTxt K mg tb){fs:List Addr}(al:All2 (fun f (n:Str)=>mg n=some (.ref f)) fs ["tell_park","check_text","show_park","pass_minutes","take_reading","run_ride","make_check","put_lock_on","take_lock_off","force_lock_off","order_work","finish_order","tell_staff","leave_or_come"]){j:Nat}(hj:j < 14):∃ f,fs[j]? = some f∧Fv P w K mg base 7 (.ref f) (yR K tb (j:Int)):=by
 have cs:=c14 j (by omega)
 rcases cs with rfl | rfl | rfl | rfl | rfl | rfl | rfl | rfl | rfl | rfl | rfl | rfl | rfl | rfl
 ·obtain ⟨f,hf,hm⟩:=al.get (i:=0) rfl;exact ⟨f,hf,Dfn.fv (ok_tell_park T) (by decide) hm⟩
 ·obtain ⟨f,hf,hm⟩:=al.get (i:=1) rfl;exact ⟨f,hf,Dfn.fv (ok_check_text T) (by decide) hm⟩
 ·obtain ⟨f,hf,hm⟩:=al.get (i:=2) rfl;exact ⟨f,hf,Dfn.fv (ok_show_park T) (by decide) hm⟩
 ·obtain ⟨f,hf,hm⟩:=al.get (i:=3) rfl;exact ⟨f,hf,Dfn.fv (ok_pass_minutes T) (by decide) hm⟩
 ·obtain ⟨f,hf,hm⟩:=al.get (i:=4) rfl;exact ⟨f,hf,Dfn.fv (ok_take_reading T) (by decide) hm⟩
 ·obtain ⟨f,hf,hm⟩:=al.get (i:=5) rfl;exact ⟨f,hf,Dfn.fv (ok_run_ride T B) (by decide) hm⟩
 ·obtain ⟨f,hf,hm⟩:=al.get (i:=6) rfl;exact ⟨f,hf,Dfn.fv (ok_make_check T) (by decide) hm⟩
 ·obtain ⟨f,hf,hm⟩:=al.get (i:=7) rfl;exact ⟨f,hf,Dfn.fv (ok_put_lock_on T) (by decide) hm⟩
 ·obtain ⟨f,hf,hm⟩:=al.get (i:=8) rfl;exact ⟨f,hf,Dfn.fv (ok_take_lock_off T) (by decide) hm⟩
 ·obtain ⟨f,hf,hm⟩:=al.get (i:=9) rfl;exact ⟨f,hf,Dfn.fv (ok_force_lock_off T) (by decide) hm⟩
 ·obtain ⟨f,hf,hm⟩:=al.get (i:=10) rfl;exact ⟨f,hf,Dfn.fv (ok_order_work T) (by decide) hm⟩
 ·obtain ⟨f,hf,hm⟩:=al.get (i:=11) rfl;exact ⟨f,hf,Dfn.fv (ok_finish_order T) (by decide) hm⟩
 ·obtain ⟨f,hf,hm⟩:=al.get (i:=12) rfl;exact ⟨f,hf,Dfn.fv (ok_tell_staff T) (by decide) hm⟩
 ·obtain ⟨f,hf,hm⟩:=al.get (i:=13) rfl;exact ⟨f,hf,Dfn.fv (ok_leave_or_come T) (by decide) hm⟩
theorem sc_answer_call : zK ["park","call","handler"] ["park","call"] (zE (z9 172)):=by walk_at "sc"
theorem ok_answer_call (T:Txt P w K mg)(B:TabTxt K mg tb):Dfn P w K mg base "answer_call" ["park","call"] [] 8 (spStep K tb):=by
 have nd:=sc_answer_call.nd
 refine T.d_answer_call.ok sc_answer_call (fun vs H Q E h=>?_) (fun f cdv A outer s H vs Q E hr h=>?_)
 ·obtain ⟨_,_,_,_,_,_,rfl,_⟩:=h;rfl
 obtain ⟨k,st,a,p,ns,rows,rfl,c,tt,sa,ca,sh,rl,fin⟩:=h
 obtain ⟨HA,fs,T_HANDLERS,kt,al⟩:=T.x_HANDLERS
 have hrV:Room 7 _:=hr.mono (by decide)
 refine ⟨_,(zJ H (zB (zX (xG (yC (zS (ok_is_in_range T) (hr.mono (by decide)) (zA (pv 1) zC)))) (zD (zI (zT (zA (yW T.g_OUT_OF_RANGE) zC)))) zM) (zB (zX (PW.pt (wU (zP op_isN (zZ K (pv 0)) uS (zN _)) (wD (yC (zS (ok_wants_park T) (hr.mono (by decide)) (zA (pv 1) zC)))))) (zD (zI (zT (zA (yW T.g_NO_PARK) zC)))) zM) (zB (zX (zP t5 (zZ K (pv 1)) (yW T.g_FIRST_QUESTION) (zN _)) (zD (zI (zS (ok_answer_question T B) (hr.mono (by decide)) (zA (pv 0) (zA (pv 1) zC))))) zM) (zB (zL (i:=2) nd rfl (Or.inl rfl) (zY (ixTK K) (pgr T_HANDLERS) (zZ K (pv 1)) (fun _ _=>rfl))) (zD (zI (pe_callV (pv 2) hrV (zA (pv 0) (zA (pv 1) zC)))))))))),?_⟩
 obtain ⟨di,dn⟩:=dec_all sh
 have ret:∀ x:Int,stepNumbers st ((p::ns)::rows)=(st,[x])→∀ D,H D=none→∃ H2,Fg H (upd H D (.lst [.int x])) H2∧Q (.ref D) H2:=fun x e D hD=>by
  have l:=(Lv.of tt (Same.refl _) c).new (xs:=[.int x]) hD
  exact ⟨_,⟨l.k,l.c,Same.refl _⟩,fin st [x] _ D e (Fr.of l) (sa.mono l.s) hD upd_same⟩
 refine ⟨_,rfl,a,p,ns,rows,rows.length,rfl,c,ca,sh,rfl,rl,_,rfl,?_⟩
 rw [← di]
 cases hdc:decode ((p::ns)::rows) with
 | none =>
  refine zR (b:=!false) (fun _=>?_) fun z=>absurd z (by decide)
  refine ⟨yF,fun D hD=>ret (-1) ?_ D hD⟩
  unfold stepNumbers;rw [hdc]
 | some c0 =>
  refine zR (b:=!true) (fun z=>absurd z (by decide)) fun _=>?_
  have np:=dn c0 hdc
  have sn:stepNumbers st ((p::ns)::rows)=Vbtpah.step st c0:=by unfold stepNumbers;rw [hdc]
  have cont:(st.park.isNone=true→Vbtpah.needsPark c0=false)→Fin K tb k st c0 H Q:=fun hpk s' ans H' D e fr sa' hD hD'=>fin s' ans H' D (by
   rw [sn];unfold Vbtpah.step;rw [if_neg (fun z=>by have:=hpk z.1;rw [z.2] at this;cases this)]
   exact e) fr sa' hD hD'
  cases hp0:st.park with
  | some q0 =>
   obtain ⟨d0,fp,_,_⟩:=sa.f1 hp0
   refine ⟨_,rfl,_,_,rfl,fp,rfl,_,rfl,?_⟩
   refine zR (fun z=>absurd z (by simp)) fun _=>?_
   have hpk:st.park.isNone=true→Vbtpah.needsPark c0=false:=fun z=>by rw [hp0] at z;cases z
   have hd:Hd K tb H k st a p ns rows c0:=⟨c,tt,sa,ca,sh,rl,hdc,hpk⟩
   have fin1:Fin K tb k st c0 H (fgE H {nx:=fun _ H'=>Q .non H',rt:=Q}).rt:=fun s' ans H' D e fr sa' hD hD'=>⟨_,⟨fr.k,fr.c,Same.refl _⟩,cont hpk s' ans H' D e fr sa' hD hD'⟩
   refine ⟨_,rfl,_,_,rfl,ca.nu,_,_,rfl,rfl,_,rfl,?_⟩
   refine zR ?_ ?_
   ·intro h2
    have z2:14≤p:=of_decide_eq_true h2
    exact ⟨_,rfl,_,rfl,k,st,a,p,ns,rows,c0,rfl,hd,fin1,z2⟩
   ·intro h2
    have z2:¬ 14≤p:=of_decide_eq_false h2
    have lo:=sh.lo
    obtain ⟨f1,hf,fv⟩:=han_fv (base:=base) T B al (j:=p.toNat) (by omega)
    rw [show ((p.toNat:Nat):Int)=p by omega] at fv;have ix:yZ (fs.map V.ref) p=some (V.ref f1):=xI (n:=p.toNat) (by omega) (by rw [List.getElem?_map,hf];rfl)
    refine ⟨_,rfl,_,_,rfl,ca.nu,HA,_,_,_,rfl,rfl,kt.sq,ix,?_⟩
    exact ⟨_,rfl,yR K tb p,fv,_,rfl,_,rfl,k,st,a,ns,rows,c0,rfl,hd,fin1⟩
  | none =>
   have fp:=sa.f0 hp0
   refine ⟨_,rfl,_,_,rfl,fp,rfl,_,rfl,?_⟩
   refine zR (fun _=>?_) fun z=>absurd z (by simp)
   refine ⟨_,rfl,a,p,ns,rows,rfl,c,ca,_,rfl,?_⟩
   rw [← np];refine zR ?_ ?_
   ·intro h1
    refine ⟨yF,fun D hD=>ret (-2) ?_ D hD⟩
    rw [sn];unfold Vbtpah.step;rw [if_pos ⟨by rw [hp0];rfl,h1⟩]
   ·intro h1
    have hpk:st.park.isNone=true→Vbtpah.needsPark c0=false:=fun _=>h1
    have hd:Hd K tb H k st a p ns rows c0:=⟨c,tt,sa,ca,sh,rl,hdc,hpk⟩
    have fin1:Fin K tb k st c0 H (fgE H {nx:=fun _ H'=>Q .non H',rt:=Q}).rt:=fun s' ans H' D e fr sa' hD hD'=>⟨_,⟨fr.k,fr.c,Same.refl _⟩,cont hpk s' ans H' D e fr sa' hD hD'⟩
    refine ⟨_,rfl,_,_,rfl,ca.nu,_,_,rfl,rfl,_,rfl,?_⟩
    refine zR ?_ ?_
    ·intro h2
     have z2:14≤p:=of_decide_eq_true h2
     exact ⟨_,rfl,_,rfl,k,st,a,p,ns,rows,c0,rfl,hd,fin1,z2⟩
    ·intro h2
     have z2:¬ 14≤p:=of_decide_eq_false h2
     have lo:=sh.lo
     obtain ⟨f1,hf,fv⟩:=han_fv (base:=base) T B al (j:=p.toNat) (by omega)
     rw [show ((p.toNat:Nat):Int)=p by omega] at fv;have ix:yZ (fs.map V.ref) p=some (V.ref f1):=xI (n:=p.toNat) (by omega) (by rw [List.getElem?_map,hf];rfl)
     refine ⟨_,rfl,_,_,rfl,ca.nu,HA,_,_,_,rfl,rfl,kt.sq,ix,?_⟩
     exact ⟨_,rfl,yR K tb p,fv,_,rfl,_,rfl,k,st,a,ns,rows,c0,rfl,hd,fin1⟩
end
end My
namespace My
open PySem PySem.Spec PyProof.Rows L2
open Vbtpah (Says Log Reading Park Sensor Ride Rule Check)
open Vbtpah (does guards inside decode stepNumbers nat)
open Vbtpah (longest)
theorem best_mem (jobs:List (Nat×Nat))(k:Nat)(L:List (List Nat)):∀ (b:Option (Nat×List Nat)),(∀ x,b=some x→x.2∈L)→∀ x,L.foldl (xL jobs k) b=some x→x.2∈L:=by
 have key:∀ (l:List (List Nat)) (b:Option (Nat×List Nat)),(∀ w∈l,w∈L)→(∀ x,b=some x→x.2∈L)→∀ x,l.foldl (xL jobs k) b=some x→x.2∈L:=by
  intro l
  induction l with
  | nil=>intro b _ h x e;exact h x e
  | cons w l ih =>
   intro b hl h x e
   refine ih _ (fun u hu=>hl u (by simp [hu])) ?_ x e
   intro y hy
   unfold xL at hy
   cases b with
   | none=>cases hy;exact hl w (by simp)
   | some z =>
    simp only at hy
    split at hy
    ·cases hy;exact hl w (by simp)
    ·exact h y hy
 exact fun b h x e=>key L b (fun _ hw=>hw) h x e
theorem ok_len {s t:Vbtpah.State}{c:Vbtpah.Call}{l:List Int}(wf:∀ p,s.park=some p→Wf p)(n250:s.log.length≤250)(hc:∀ q j,c = .crew q j→(Vbtpah.pairsOf j).length≤7)(h:does s c = .ok (t,l)):l.length≤5999:=by
 have wp:Wf (Vbtpah.parkOf s):=by
  unfold Vbtpah.parkOf
  cases e:s.park with
  | none=>exact wf0
  | some p=>exact wf p e
 have gd:∀ {gs:List (Bool×Int)} {x:Vbtpah.Res},guards gs x = .ok (t,l)→x = .ok (t,l):=fun {gs x} h=>by
  unfold guards at h
  split at h
  ·cases h
  ·exact h
 have wr:∀ {x:Says} {r:List Int},Vbtpah.write s x r = .ok (t,l)→l=r:=fun {x r} h=>by cases h;rfl
 cases c with
 | opens tt =>
  have h:=gd (show guards [(s.park.isSome,-3)] _=_ from h)
  split at h
  ·cases h
  ·cases h;exact yF
 | check tt =>
  change (match Vbtpah.readPark (Vbtpah.nats tt) with | .error e=>_ | .ok p=>_)=_ at h
  split at h<;>(cases h;exact yF)
 | print =>
  cases h;rw [List.length_map];exact Nat.le_trans (printed_len wp) (by decide)
 | pass n =>
  change (if _ then _ else _)=_ at h
  split at h
  ·cases h
  ·cases h;exact yF
 | reading q m v=>have:=wr (gd h);rw [this];exact yF
 | run r n=>have:=wr (gd h);rw [this];exact yF
 | checked c w=>have:=wr (gd h);rw [this];exact yF
 | lock r w=>have:=wr (gd h);rw [this];exact yF
 | unlock r w=>have:=wr (gd h);rw [this];exact yF
 | force r w a b=>have:=wr (gd h);rw [this];exact yF
 | order r=>have:=wr (gd h);rw [this];exact yF
 | finish o w=>have:=wr (gd h);rw [this];exact yF
 | staff r k=>have:=wr (gd h);rw [this];exact yF
 | leaves w b=>have:=wr (gd h);rw [this];exact yF
 | why r =>
  cases (gd h)
  have:=why_le (Vbtpah.parkOf s) s.log r s.now wp.toPlanWf n250
  unfold Vbtpah.whyTold;rw [List.length_cons,u5];omega
 | whyThen r m k =>
  cases (gd h)
  have:=why_le (Vbtpah.parkOf s) (s.log.take k) r m wp.toPlanWf (by rw [List.length_take];omega)
  unfold Vbtpah.whyTold;rw [List.length_cons,u5];omega
 | rule i m k=>cases (gd h);simp
 | due r =>
  cases (gd h)
  refine Nat.le_trans (flat_le _ 3 _ fun x=>?_) ?_
  ·split<;>simp
  ·rw [List.length_zipIdx];have:=wp.ck;omega
 | locks r =>
  cases (gd h)
  have:=u4 r s.log
  unfold Vbtpah.listed;rw [List.length_cons,List.length_map];omega
 | orders r =>
  cases (gd h)
  have h1:(Vbtpah.openOrders s.log r).length≤250:=by rw [wait_eq];exact Nat.le_trans (tY ..) (Nat.le_trans (ord_len _) n250)
  unfold Vbtpah.listed;rw [List.length_cons,List.length_map];omega
 | open_ m =>
  cases h;unfold Vbtpah.listed;rw [List.length_cons,List.length_map];have h1:=List.length_filter_le (fun r=>(Vbtpah.whyNot (Vbtpah.parkOf s) s.log r m).isEmpty) ((List.range (Vbtpah.parkOf s).rides.length).map fun i=>i+1)
  rw [List.length_map,List.length_range] at h1;have:=wp.ri
  omega
 | crew q j =>
  change (match Vbtpah.parted (Vbtpah.nats q) (Vbtpah.pairsOf j) with | none=>_ | some x=>_)=_ at h
  cases e:Vbtpah.parted (Vbtpah.nats q) (Vbtpah.pairsOf j) with
  | none=>rw [e] at h;cases h
  | some x =>
   rw [e] at h;cases h;have hj:=hc q j rfl
   rw [parted_eq] at e;have:=best_mem _ _ _ none (fun x h=>nomatch h) _ e
   have:=vX _ _ _ (List.mem_filter.mp this).1
   rw [List.length_cons,List.length_map];omega
 | entry k =>
  change (match (if k=0 then none else s.log[k - 1]?) with | none=>_ | some e=>_)=_ at h
  split at h
  ·cases h
  ·rename_i e _
   cases h
   cases e.says<;>exact yF
 | state=>cases h;exact yF
end My
namespace My
open PySem PySem.Spec PyProof.Rows L2
open Vbtpah (Says Log Reading Park Sensor Ride Rule Check)
open Vbtpah (does guards inside decode stepNumbers nat)
def spParkC (C:Addr):Sp:=fun vs H Q _=>∃ (x dx:Addr),vs=[.ref x]∧Clo H∧H x=some (.ins C dx [])∧∀ R,H R=none→Q .non (upd (upd H R (.lst [])) x (.ins C dx (xJ vN [.non,.int 0,.ref R] [])))
theorem vQ : ∀ (m:Nat) (zs:List Int) (cs:List (List (List Int))),zs.length≤m→M.callsAt PyVbtpah.shape zs=some cs→∀ c∈cs,∃ p ns rows,c=(p::ns)::rows∧PyVbtpah.shape p=some (ns.length,rows.length)
 | _,[],cs,_,h,c,hc=>by
  rw [M.callsAt_nil] at h;cases h;simp at hc
 | 0,z::zs,cs,hm,_,_,_=>by simp at hm
 | m+1,z::zs,cs,hm,h,c,hc=>by
  obtain ⟨n,k,xs,t,rest,h1,h2,h3,h4,rfl⟩:=M.callsAt_cons h
  rcases List.mem_cons.mp hc with rfl | hc
  ·refine ⟨z,_,xs,rfl,?_⟩
   rw [List.length_take,Nat.min_eq_left h2,rows_len h3];exact h1
  ·have:=M.rows_le h3
   rw [List.length_drop] at this;exact vQ m t rest (by simp only [List.length_cons] at hm;omega) h4 c hc
def vD (cs:List (List (List Int))):Vbtpah.State:=cs.foldl (fun s c=>(stepNumbers s c).1) Vbtpah.start
def wM (cs:List (List (List Int))):List Int:=PyFlat.told (PyFlat.played stepNumbers Vbtpah.start cs)
theorem told_next (cs:List (List (List Int)))(c:List (List Int)):wM (cs++[c])=wM cs++(((stepNumbers (vD cs) c).2.length:Int)::(stepNumbers (vD cs) c).2):=by
 unfold wM vD;rw [M.played_snoc,M.told_snoc]
theorem st_next (cs:List (List (List Int)))(c:List (List Int)):vD (cs++[c])=(stepNumbers (vD cs) c).1:=by
 unfold vD;rw [List.foldl_append];rfl
theorem crew_21 {p:Int}{ns:List Int}{rows:List (List Int)}{q j:List Int}(sh:Shp p ns.length rows.length)(h:decode ((p::ns)::rows)=some (.crew q j)):p=21:=by
 have np:=(dec_all sh).2 _ h
 have e:decide (p≠0∧p≠1∧p≠21)=false:=np.symm
 have e2:=of_decide_eq_false e
 by_cases h0:p=0
 ·subst h0
  have ln:ns=[]:=List.eq_nil_of_length_eq_zero (z0 sh rfl)
  subst ln;have lr:rows.length=1:=by have e:(rows.length:Int)=1:=(V.int.inj sh.rw_).symm;omega
  match rows,lr with
  | [t],_=>obtain ⟨_,e3⟩:=zQ (show Vbtpah.guard (Vbtpah.isText t) (.opens t)=some (.crew q j) from h);cases e3
 ·by_cases h1:p=1
  ·subst h1
   have ln:ns=[]:=List.eq_nil_of_length_eq_zero (z0 sh rfl)
   subst ln;have lr:rows.length=1:=by have e:(rows.length:Int)=1:=(V.int.inj sh.rw_).symm;omega
   match rows,lr with
   | [t],_=>obtain ⟨_,e3⟩:=zQ (show Vbtpah.guard (Vbtpah.isText t) (.check t)=some (.crew q j) from h);cases e3
  ·exact Classical.byContradiction fun h2=>e2 ⟨h0,h1,h2⟩
theorem step_len {s:Vbtpah.State}{p:Int}{ns:List Int}{rows:List (List Int)}(wf:∀ q,s.park=some q→Wf q)(n250:s.log.length≤250)(sh:Shp p ns.length rows.length):(stepNumbers s ((p::ns)::rows)).2.length≤6000:=by
 unfold stepNumbers
 cases hd:decode ((p::ns)::rows) with
 | none=>simp
 | some c =>
  show (Vbtpah.step s c).2.length≤6000
  unfold Vbtpah.step;split
  ·simp
  ·cases e:does s c with
   | error x=>simp
   | ok tl =>
    have:=ok_len (l:=tl.2) (t:=tl.1) wf n250 (fun q j hc=>by
     subst hc
     by_cases h21:p=21
     ·subst h21
      have ln:ns=[]:=List.eq_nil_of_length_eq_zero (z0 sh rfl)
      subst ln;obtain ⟨a,b,rfl⟩:∃ a b,rows=[a,b]:=by
       have e2:=sh.k21 rfl
       match rows,e2 with
       | [a,b],_=>exact ⟨a,b,rfl⟩
      obtain ⟨g,e3⟩:=zQ (show Vbtpah.guard (decide (1≤a.length∧a.length≤3)&&(a.all (fun x=>inside x 0 31)&&Vbtpah.isJobs b)) (.crew a b)=some (.crew q j) from hd)
      cases e3;simp only [Bool.and_eq_true] at g;have g3:=g.2.2
      unfold Vbtpah.isJobs at g3;rw [Bool.and_eq_true] at g3;have:=(of_decide_eq_true g3.1).2
      rw [uG,List.length_map,vI];omega
     ·exact (h21 (crew_21 sh hd)).elim) e
    simp
    omega
section
variable {P:Program}{w:World}{K:zF}{mg:Str→Option Value}{base:Heap}{tb:Addr}
theorem sc_Park : zK ["self"] ["self"] (zE (yY (z9 153) 0)):=by walk_at "sc"
theorem mk_Park (T:Txt P w K mg):∃ C,Mkr P w K mg base "Park" C ["self"] 1 (spParkC C)∧Cls K C∧∀ y∈(["plan","minute","entries"]:List Str),NoAttr K C y:=by
 have nd:=sc_Park.nd
 refine ClsOk.ok (P:=P) (w:=w) (base:=base) (k:=0) (sp:=spParkC) T.c_Park sc_Park (fun C vs H Q E h=>?_) (fun C f cdv A outer s H vs Q E cl na hr h=>?_)
 ·obtain ⟨x,dx,rfl,_⟩:=h;rfl
 obtain ⟨x,dx,rfl,c,hx,q⟩:=h
 refine ⟨_,(zJ H (zB (xB K (pv 0) uS) (zB (xB K (pv 0) zG) (zD (xB K (pv 0) (zT zC)))))),?_⟩
 have n1:=na "plan" (by simp)
 have n2:=na "minute" (by simp)
 have n3:=na "entries" (by simp)
 refine ⟨_,rfl,x,C,dx,_,rfl,hx,cl,n1,yF,?_⟩
 refine ⟨_,rfl,x,C,dx,_,rfl,upd_same,cl,n2,yF,?_⟩
 rw [yQ];refine ⟨yF,fun R hR=>?_⟩
 have nx:x≠R:=zO upd_same hR
 have hR0:H R=none:=by rw [zH nx.symm] at hR;exact hR
 have e1:∀ fs gs,upd (upd (upd H x (.ins C dx fs)) R (.lst [])) x (.ins C dx gs)=upd (upd H R (.lst [])) x (.ins C dx gs):=fun fs gs=>by
  funext b
  by_cases h1:b=x
  ·subst h1;rw [upd_same,upd_same]
  ·rw [zH h1,zH h1]
   by_cases h2:b=R
   ·subst h2;rw [upd_same,upd_same]
   ·rw [zH h2,zH h2,zH h1]
 refine ⟨_,rfl,x,C,dx,_,rfl,by rw [zH nx];exact upd_same,cl,n3,yF,?_⟩
 rw [e1];have e2:(upd H R (.lst [])) x=some (.ins C dx []):=by rw [zH nx];exact hx
 exact ⟨_,⟨((Kp.refl H).new hR0).ins e2,(c.lstN hR0).insU e2,Same.refl _⟩,q R hR0⟩
theorem CallF.fr {H0 H H':Hp}{k:Pk}{s:Vbtpah.State}{a:Addr}{p:Int}{ns:List Int}{rows:List (List Int)}(h:CallF K H (fun b=>H0 b=none) a p ns rows)(sa:StAt K H k s)(hpk:∃ o,H0 k.pk=some o)(hle:∃ o,H0 k.le=some o)(fr:Fr k tb H H'):CallF K H' (fun b=>H0 b=none) a p ns rows:=by
 obtain ⟨v,hp,_⟩:=sa.pl
 obtain ⟨o1,hpk⟩:=hpk
 obtain ⟨o2,hle⟩:=hle
 obtain ⟨asx,hl,_⟩:=sa.en
 have fk:∀ {f:Str} {v2:V},(wP k v s.now).lookup f=none→Fld K H a f v2→Fld K H' a f v2:=fun {f v2} hf h=>by
  obtain ⟨C,dx,fs,h1,h2,h3,h4⟩:=h
  have ne:a≠k.pk:=fun e=>by
   rw [e,hp] at h1;cases h1;rw [hf] at h4;cases h4
  exact ⟨C,dx,fs,fr.s a _ ne (xD h1 hl (by intro z;cases z)) h1 (fun _ z=>nomatch z),h2,h3,h4⟩
 have ks:∀ b xs,H0 b=none→H b=some (.lst xs)→H' b=some (.lst xs):=fun b xs hb e=>fr.s b _ (xO hb hpk) (xO hb hle) e (fun _ z=>nomatch z)
 exact ⟨fk rfl h.nu,let ⟨L,n,f,e⟩:=h.nl;⟨L,n,fk rfl f,ks _ _ n e⟩,let ⟨R,bs,n,f,e,nb,al⟩:=h.rl;⟨R,bs,n,fk rfl f,ks _ _ n e,nb,al.len,fun i b r hb hr=>ks _ _ (nb b (List.mem_of_getElem? hb)) (al.at_ i b r hb hr)⟩⟩
def spAns (K:zF)(tb:Addr):Sp:=fun vs H Q _=>∃ (L:Addr) (zs:List Int) (cs:List (List (List Int))),vs=[.ref L]∧Clo H∧TabOk tb H∧SqL K H L (zs.map V.int)∧zs.length≤20000∧M.callsAt PyVbtpah.shape zs=some cs∧cs.length≤300∧(∀ c∈cs,∀ r∈c.tail,r.length≤2500) ∧
 ∀ H' D,H' D=some (.lst ((wM cs).map V.int))→Q (.ref D) H'
theorem sc_answers : zK ["calls","park","told","call","answer"] ["calls"] (zE (z9 173)):=by walk_at "sc"
theorem ok_answers (T:Txt P w K mg)(B:TabTxt K mg tb):Dfn P w K mg base "answers" ["calls"] [] 9 (spAns K tb):=by
 have nd:=sc_answers.nd
 refine T.d_answers.ok sc_answers (fun vs H Q E h=>?_) (fun f cdv A outer s H vs Q E hr h=>?_)
 ·obtain ⟨_,_,_,rfl,_⟩:=h;rfl
 obtain ⟨L,zs,cs,rfl,c,tt,hL,lim,hcs,l300,hrl,q⟩:=h
 obtain ⟨C_Park,M_Park,cl,na⟩:=mk_Park (P:=P) (w:=w) (base:=base) T
 refine ⟨_,(zJ H (zB (zL (i:=1) nd rfl (Or.inl rfl) (pe_mk0 M_Park (hr.mono (by decide)))) (zB (zL (i:=2) nd rfl (Or.inl rfl) (zT zC)) (zB (xH PassesOwn.never rfl (vH K (zS (ok_split_calls T) (hr.mono (by decide)) (zA (pv 0) zC))) (zV (i:=3) nd rfl (Or.inl rfl)) (zJ H (zB (zL (i:=4) nd rfl (Or.inl rfl) (zS (ok_answer_call T B) (hr.mono (by decide)) (zA (pv 1) (zA (pv 3) zC)))) (zB (yL (bmK K PySem.F.plainAttrs_list PySem.F.slot_list_append PySem.F.type_list_append yM (pv 2) (zA (zU (xS K) rfl T.b_len yD (zA (pv 4) zC)) zC))) (zD (yL (bmK K PySem.F.plainAttrs_list PySem.F.slot_list_extend PySem.F.type_list_extend wW (pv 2) (zA (pv 4) zC)))))))) (zD (zI (pv 2))))))),?_⟩
 have sz:(6001 * 301:Nat) < sizeLine:=by decide
 refine fun x dx hx hd hn=>⟨x,dx,rfl,c.insN hx hd hn,upd_same,fun R hR=>⟨rfl,?_⟩⟩
 have nxR:x≠R:=zO upd_same hR
 have hR0:H R=none:=yJ (xZ hx hd) hR
 have s1:Same H (upd (upd (upd (upd H dx (.own x)) x (.ins C_Park dx [])) R (.lst [])) x (.ins C_Park dx (xJ vN [.non,.int 0,.ref R] []))):=(((xZ hx hd).trans (Same.new hR))).put hx
 have c1:Clo (upd (upd (upd (upd H dx (.own x)) x (.ins C_Park dx [])) R (.lst [])) x (.ins C_Park dx (xJ vN [.non,.int 0,.ref R] []))):=((c.insN hx hd hn).lstN hR).insU (C:=C_Park) (dx:=dx) (fs:=[]) (by rw [zH nxR];exact upd_same)
 have x1:(upd (upd (upd (upd H dx (.own x)) x (.ins C_Park dx [])) R (.lst [])) x (.ins C_Park dx (xJ vN [.non,.int 0,.ref R] []))) x=some (.ins C_Park dx (xJ vN [.non,.int 0,.ref R] [])):=upd_same
 have r1:(upd (upd (upd (upd H dx (.own x)) x (.ins C_Park dx [])) R (.lst [])) x (.ins C_Park dx (xJ vN [.non,.int 0,.ref R] []))) R=some (.lst []):=by rw [zH nxR.symm];exact upd_same
 generalize upd (upd (upd (upd H dx (.own x)) x (.ins C_Park dx [])) R (.lst [])) x (.ins C_Park dx _)=H1 at s1 c1 x1 r1 ⊢
 refine ⟨yF,fun W hW=>?_⟩
 have lW:=(Lv.of tt s1 c1).new (xs:=[]) hW
 have sW:Same H1 (upd H1 W (.lst [])):=Same.new hW
 have sa2:StAt K (upd H1 W (.lst [])) ⟨x,R,C_Park,dx,W⟩ Vbtpah.start:=⟨⟨.non,sW _ _ x1,rfl⟩,cl,na,⟨[],sW _ _ r1,All2.nil⟩,M.LogOk.nil,by decide,by decide,⟨_,upd_same⟩,xO hW r1⟩
 have aW:(upd H1 W (.lst [])) W=some (.lst []):=upd_same
 have x2:=sW _ _ x1
 have r2:=sW _ _ r1
 have hW0:H W=none:=yJ s1 hW
 generalize hkk:(⟨x,R,C_Park,dx,W⟩:Pk)=k at sa2
 obtain rfl:k.pk=x:=by rw [← hkk]
 obtain rfl:k.le=R:=by rw [← hkk]
 obtain rfl:k.tw=W:=by rw [← hkk]
 clear hkk;generalize upd H1 k.tw (.lst [])=H2 at lW aW sa2 sW x2 r2 ⊢
 refine ⟨_,rfl,L,zs,cs,rfl,lW.c,SqL.monoT hL lW.s,lim,hcs,fun H3 D as s3 c3 hD2 hD3 al=>?_⟩
 have l3:=lW.more s3 c3
 have nD:D≠k.pk∧D≠k.le∧D≠k.tw:=⟨xO hD2 x2,xO hD2 r2,xO hD2 aW⟩
 have nT:k.tw≠k.pk∧k.tw≠k.le:=⟨xD aW x2 (by intro z;cases z),sa2.tw.2⟩
 have csh:=vQ zs.length zs cs (Nat.le_refl _) hcs
 refine ⟨D,rfl,⟨_,SqL.of hD3⟩,wC (K:=K) (a:=D) (xs:=as.map V.ref) (fun i σ H'=>∃ v v',σ=[some (.ref L),some (.ref k.pk),some (.ref k.tw),v,v']∧Clo H'∧TabOk tb H'∧Kp H H'∧StAt K H' k (vD (cs.take i))∧H' k.tw=some (.lst ((wM (cs.take i)).map V.int))∧H' D=some (.lst (as.map V.ref))∧All2 (CF K H' fun b=>H2 b=none) as cs∧(wM (cs.take i)).length≤6001 * i)
  ⟨none,none,rfl,l3.c,l3.b,l3.k,sa2.mono s3.t,s3 _ _ aW,hD3,al,Nat.le_refl _⟩ (fun i σ H' _ ⟨_,_,_,_,_,_,_,_,e,_⟩=>SqL.of e) ?_ ?_⟩
 ·rintro i y σ H' hi ⟨v,v',rfl,c4,t4,k4,sa4,w4,d4,al4,ll⟩
  obtain ⟨a,ha,rfl⟩:=yB hi
  obtain ⟨cc,hcc,p,ns,rows,rfl,cf⟩:=al4.getA ha
  have cm:=List.mem_of_getElem? hcc
  obtain ⟨p',ns',rows',ecc,hsh⟩:=csh _ cm
  cases ecc;have sh:=shp hsh
  have i300:i < 300:=by have:=(List.getElem?_eq_some_iff.mp hcc).1;omega
  have wfs:∀ q,(vD (cs.take i)).park=some q→Wf q:=fun q hq=>let ⟨_,_,_,wf⟩:=sa4.f1 hq;wf
  have sl:=step_len wfs sa4.n250 sh
  refine ⟨_,rfl,_,rfl,k,vD (cs.take i),a,p,ns,rows,rfl,c4,t4,sa4,cf.at_,sh,fun r hr=>hrl _ cm r hr,fun s' ans H5 A1 es fr sa5 hA hA5=>?_⟩
  rw [es] at sl;have tn:=told_next (cs.take i) ((p::ns)::rows)
  have sn:=st_next (cs.take i) ((p::ns)::rows)
  rw [← yE hcc,es] at tn sn;simp only at tn sn sl
  have w5:H5 k.tw=some (.lst ((wM (cs.take i)).map V.int)):=fr.s _ _ nT.1 nT.2 w4 (fun _ z=>nomatch z)
  have d5:H5 D=some (.lst (as.map V.ref)):=fr.s _ _ nD.1 nD.2.1 d4 (fun _ z=>nomatch z)
  have nA:A1≠k.tw:=xO hA w4
  have al5:All2 (CF K H5 fun b=>H2 b=none) as cs:=al4.mono fun _ _ ⟨p,ns,rows,e,h⟩=>⟨p,ns,rows,e,h.fr sa4 ⟨_,x2⟩ ⟨_,r2⟩ fr⟩
  refine ⟨_,rfl,.inl ⟨rfl,_,SqL.of w5⟩,_,rfl,A1,_,rfl,.inl (SqL.of hA5),k.tw,_,_,rfl,rfl,w5,by rw [List.length_map];omega,?_⟩
  rw [List.length_map];have a6:(upd H5 k.tw (.lst ((wM (cs.take i)).map V.int++[V.int (ans.length:Int)]))) A1=some (.lst (ans.map V.int)):=by rw [zH nA];exact hA5
  refine ⟨_,rfl,.inl ⟨rfl,_,SqL.of upd_same⟩,_,rfl,k.tw,A1,_,_,rfl,rfl,upd_same,a6,by rw [List.length_append,List.length_map,List.length_map];show _+1+_≤_;omega,?_⟩
  rw [yQ];have e6:(wM (cs.take i)).map V.int++[V.int (ans.length:Int)]++ans.map V.int=(wM (cs.take (i+1))).map V.int:=by
   rw [tn,List.map_append,List.map_cons,List.append_assoc];rfl
  rw [e6];have k6:Kp H (upd H5 k.tw (.lst ((wM (cs.take (i+1))).map V.int))):=(k4.trans fr.k).lst w5
  have c6:Clo (upd H5 k.tw (.lst ((wM (cs.take (i+1))).map V.int))):=fr.c.lstU w5
  have fk6:FK K H5 (upd H5 k.tw (.lst ((wM (cs.take (i+1))).map V.int))):=fun a f v e=>e.put fun C dx fs z=>(by rw [w5] at z;cases z)
  refine ⟨_,⟨k6,c6,Same.refl _⟩,_,_,rfl,c6,fr.b.lst w5,k6,?_,upd_same,by rw [zH nD.2.2];exact d5,?_,?_⟩
  ·rw [sn];exact sa5.lstU
  ·exact al5.mono fun _ _ ⟨p,ns,rows,e,h⟩=>⟨p,ns,rows,e,h.keep fk6 fun b o hb e=>by rw [zH (xO hb aW)];exact e⟩
  ·rw [tn,List.length_append,List.length_cons];omega
 ·rintro σ H' ⟨v,v',rfl,c4,t4,k4,sa4,w4,d4,al4,ll⟩
  rw [List.length_map,al.len,List.take_length] at w4;exact ⟨_,rfl,_,⟨k4,c4,Same.refl _⟩,q H' k.tw w4⟩
end
end My
namespace My
open PySem PySem.Spec PyProof.Rows L2
open Vbtpah (Says Log Reading Park Sensor Ride Rule Check)
abbrev rowA : PySem.W.OpenSpec:=PySem.Challenge.rw_ridespark_s01_answers
theorem so4 {a b c d:Nat}(h:some (a,b)=some (c,d)):c=a∧d=b:=by cases h;exact ⟨rfl,rfl⟩
theorem ln0 {α:Type}{l:List α}(h:l.length=0):l=[]:=List.eq_nil_of_length_eq_zero h
theorem ln1 {α:Type}{l:List α}(h:l.length=1):∃ a,l=[a]:=by
 cases l with
 | nil=>cases h
 | cons a r=>exact ⟨a,by rw [ln0 (Nat.succ.inj h)]⟩
theorem ln2 {α:Type}{l:List α}(h:l.length=2):∃ a b,l=[a,b]:=by
 cases l with
 | nil=>cases h
 | cons a r=>obtain ⟨b,e⟩:=ln1 (Nat.succ.inj h);exact ⟨a,b,by rw [e]⟩
theorem ln3 {α:Type}{l:List α}(h:l.length=3):∃ a b c,l=[a,b,c]:=by
 cases l with
 | nil=>cases h
 | cons a r=>obtain ⟨b,c,e⟩:=ln2 (Nat.succ.inj h);exact ⟨a,b,c,by rw [e]⟩
theorem ln4 {α:Type}{l:List α}(h:l.length=4):∃ a b c d,l=[a,b,c,d]:=by
 cases l with
 | nil=>cases h
 | cons a r=>obtain ⟨b,c,d,e⟩:=ln3 (Nat.succ.inj h);exact ⟨a,b,c,d,by rw [e]⟩
theorem by_shape {P:List (List Int)→Prop}(a0:∀ r,P [[0],r])(a1:∀ r,P [[1],r])(a2:P [[2]])(a3:∀ x,P [[3,x]])(a4:∀ x y z,P [[4,x,y,z]])(a5:∀ x y,P [[5,x,y]])(a6:∀ x y,P [[6,x,y]])(a7:∀ x y,P [[7,x,y]])(a8:∀ x y,P [[8,x,y]])(a9:∀ x y z u,P [[9,x,y,z,u]])(a10:∀ x,P [[10,x]])(a11:∀ x y,P [[11,x,y]])(a12:∀ x y,P [[12,x,y]])(a13:∀ x y,P [[13,x,y]])(a14:∀ x,P [[14,x]])(a15:∀ x y z,P [[15,x,y,z]])(a16:∀ x y z,P [[16,x,y,z]])(a17:∀ x,P [[17,x]])(a18:∀ x,P [[18,x]])(a19:∀ x,P [[19,x]])(a20:∀ x,P [[20,x]])(a21:∀ r s,P [[21],r,s])(a22:∀ x,P [[22,x]])(a23:P [[23]]){p:Int}{ns:List Int}{rows:List (List Int)}(h:PyVbtpah.shape p=some (ns.length,rows.length)):P ((p::ns)::rows):=by
 unfold PyVbtpah.shape at h
 by_cases e:p=0
 ·rw [if_pos e] at h;obtain ⟨h1,h2⟩:=so4 h;subst e;rw [ln0 h1];obtain ⟨r,rfl⟩:=ln1 h2;exact a0 _
 rw [if_neg e] at h;clear e
 by_cases e:p=1
 ·rw [if_pos e] at h;obtain ⟨h1,h2⟩:=so4 h;subst e;rw [ln0 h1];obtain ⟨r,rfl⟩:=ln1 h2;exact a1 _
 rw [if_neg e] at h;clear e
 by_cases e:p=2
 ·rw [if_pos e] at h;obtain ⟨h1,h2⟩:=so4 h;subst e;rw [ln0 h1];rw [ln0 h2];exact a2
 rw [if_neg e] at h;clear e
 by_cases e:p=3
 ·rw [if_pos e] at h;obtain ⟨h1,h2⟩:=so4 h;subst e;obtain ⟨x,rfl⟩:=ln1 h1;rw [ln0 h2];exact a3 _
 rw [if_neg e] at h;clear e
 by_cases e:p=4
 ·rw [if_pos e] at h;obtain ⟨h1,h2⟩:=so4 h;subst e;obtain ⟨x,y,z,rfl⟩:=ln3 h1;rw [ln0 h2];exact a4 _ _ _
 rw [if_neg e] at h;clear e
 by_cases e:p=5
 ·rw [if_pos e] at h;obtain ⟨h1,h2⟩:=so4 h;subst e;obtain ⟨x,y,rfl⟩:=ln2 h1;rw [ln0 h2];exact a5 _ _
 rw [if_neg e] at h;clear e
 by_cases e:p=6
 ·rw [if_pos e] at h;obtain ⟨h1,h2⟩:=so4 h;subst e;obtain ⟨x,y,rfl⟩:=ln2 h1;rw [ln0 h2];exact a6 _ _
 rw [if_neg e] at h;clear e
 by_cases e:p=7
 ·rw [if_pos e] at h;obtain ⟨h1,h2⟩:=so4 h;subst e;obtain ⟨x,y,rfl⟩:=ln2 h1;rw [ln0 h2];exact a7 _ _
 rw [if_neg e] at h;clear e
 by_cases e:p=8
 ·rw [if_pos e] at h;obtain ⟨h1,h2⟩:=so4 h;subst e;obtain ⟨x,y,rfl⟩:=ln2 h1;rw [ln0 h2];exact a8 _ _
 rw [if_neg e] at h;clear e
 by_cases e:p=9
 ·rw [if_pos e] at h;obtain ⟨h1,h2⟩:=so4 h;subst e;obtain ⟨x,y,z,u,rfl⟩:=ln4 h1;rw [ln0 h2];exact a9 _ _ _ _
 rw [if_neg e] at h;clear e
 by_cases e:p=10
 ·rw [if_pos e] at h;obtain ⟨h1,h2⟩:=so4 h;subst e;obtain ⟨x,rfl⟩:=ln1 h1;rw [ln0 h2];exact a10 _
 rw [if_neg e] at h;clear e
 by_cases e:p=11
 ·rw [if_pos e] at h;obtain ⟨h1,h2⟩:=so4 h;subst e;obtain ⟨x,y,rfl⟩:=ln2 h1;rw [ln0 h2];exact a11 _ _
 rw [if_neg e] at h;clear e
 by_cases e:p=12
 ·rw [if_pos e] at h;obtain ⟨h1,h2⟩:=so4 h;subst e;obtain ⟨x,y,rfl⟩:=ln2 h1;rw [ln0 h2];exact a12 _ _
 rw [if_neg e] at h;clear e
 by_cases e:p=13
 ·rw [if_pos e] at h;obtain ⟨h1,h2⟩:=so4 h;subst e;obtain ⟨x,y,rfl⟩:=ln2 h1;rw [ln0 h2];exact a13 _ _
 rw [if_neg e] at h;clear e
 by_cases e:p=14
 ·rw [if_pos e] at h;obtain ⟨h1,h2⟩:=so4 h;subst e;obtain ⟨x,rfl⟩:=ln1 h1;rw [ln0 h2];exact a14 _
 rw [if_neg e] at h;clear e
 by_cases e:p=15
 ·rw [if_pos e] at h;obtain ⟨h1,h2⟩:=so4 h;subst e;obtain ⟨x,y,z,rfl⟩:=ln3 h1;rw [ln0 h2];exact a15 _ _ _
 rw [if_neg e] at h;clear e
 by_cases e:p=16
 ·rw [if_pos e] at h;obtain ⟨h1,h2⟩:=so4 h;subst e;obtain ⟨x,y,z,rfl⟩:=ln3 h1;rw [ln0 h2];exact a16 _ _ _
 rw [if_neg e] at h;clear e
 by_cases e:p=17
 ·rw [if_pos e] at h;obtain ⟨h1,h2⟩:=so4 h;subst e;obtain ⟨x,rfl⟩:=ln1 h1;rw [ln0 h2];exact a17 _
 rw [if_neg e] at h;clear e
 by_cases e:p=18
 ·rw [if_pos e] at h;obtain ⟨h1,h2⟩:=so4 h;subst e;obtain ⟨x,rfl⟩:=ln1 h1;rw [ln0 h2];exact a18 _
 rw [if_neg e] at h;clear e
 by_cases e:p=19
 ·rw [if_pos e] at h;obtain ⟨h1,h2⟩:=so4 h;subst e;obtain ⟨x,rfl⟩:=ln1 h1;rw [ln0 h2];exact a19 _
 rw [if_neg e] at h;clear e
 by_cases e:p=20
 ·rw [if_pos e] at h;obtain ⟨h1,h2⟩:=so4 h;subst e;obtain ⟨x,rfl⟩:=ln1 h1;rw [ln0 h2];exact a20 _
 rw [if_neg e] at h;clear e
 by_cases e:p=21
 ·rw [if_pos e] at h;obtain ⟨h1,h2⟩:=so4 h;subst e;rw [ln0 h1];obtain ⟨r,s,rfl⟩:=ln2 h2;exact a21 _ _
 rw [if_neg e] at h;clear e
 by_cases e:p=22
 ·rw [if_pos e] at h;obtain ⟨h1,h2⟩:=so4 h;subst e;obtain ⟨x,rfl⟩:=ln1 h1;rw [ln0 h2];exact a22 _
 rw [if_neg e] at h;clear e
 by_cases e:p=23
 ·rw [if_pos e] at h;obtain ⟨h1,h2⟩:=so4 h;subst e;rw [ln0 h1];rw [ln0 h2];exact a23
 rw [if_neg e] at h;clear e;cases h
theorem whole_sh {p:Int}{ns:List Int}{rows:List (List Int)}(h:PyVbtpah.shape p=some (ns.length,rows.length)):PyVbtpah.whole ((p::ns)::rows)=(p::ns)::rows :=
 by_shape (P:=fun c=>PyVbtpah.whole c=c) (fun _=>rfl) (fun _=>rfl) rfl (fun _=>rfl) (fun _ _ _=>rfl) (fun _ _=>rfl) (fun _ _=>rfl) (fun _ _=>rfl) (fun _ _=>rfl) (fun _ _ _ _=>rfl) (fun _=>rfl) (fun _ _=>rfl) (fun _ _=>rfl) (fun _ _=>rfl) (fun _=>rfl) (fun _ _ _=>rfl) (fun _ _ _=>rfl) (fun _=>rfl) (fun _=>rfl) (fun _=>rfl) (fun _=>rfl) (fun _ _=>rfl) (fun _=>rfl) rfl h
theorem rows1 {x:List Int}{t:List Int}(h:(t.all (fun (z:Int)=>VbtpahNeutral.whole60 z)&&decide (t.length≤2500))=true):∀ r∈[x,t].tail,r.length≤2500:=fun r hr=>by
 rw [List.mem_singleton.mp hr];exact of_decide_eq_true (Bool.and_eq_true_iff.mp h).2
theorem rows2 {x:List Int}{t u:List Int}(h:((t.all (fun (z:Int)=>VbtpahNeutral.whole60 z)&&decide (t.length≤2500))&&(u.all (fun (z:Int)=>VbtpahNeutral.whole60 z)&&decide (u.length≤2500)))=true):∀ r∈[x,t,u].tail,r.length≤2500:=fun r hr=>by
 have h2:=Bool.and_eq_true_iff.mp h
 rcases List.mem_cons.mp hr with e | hr
 ·rw [e];exact of_decide_eq_true (Bool.and_eq_true_iff.mp h2.1).2
 ·rw [List.mem_singleton.mp hr];exact of_decide_eq_true (Bool.and_eq_true_iff.mp h2.2).2
theorem asked1_rows {p:Int}{ns:List Int}{rows:List (List Int)}(h:PyVbtpah.shape p=some (ns.length,rows.length)):VbtpahNeutral.asked1 ((p::ns)::rows)=true→∀ r∈((p::ns)::rows).tail,r.length≤2500 :=
 by_shape (P:=fun c=>VbtpahNeutral.asked1 c=true→∀ r∈c.tail,r.length≤2500) (fun _ h=>rows1 h) (fun _ h=>rows1 h) (fun _ r hr=>nomatch hr) (fun _ _ r hr=>nomatch hr) (fun _ _ _ _ r hr=>nomatch hr) (fun _ _ _ r hr=>nomatch hr) (fun _ _ _ r hr=>nomatch hr) (fun _ _ _ r hr=>nomatch hr) (fun _ _ _ r hr=>nomatch hr) (fun _ _ _ _ _ r hr=>nomatch hr) (fun _ _ r hr=>nomatch hr) (fun _ _ _ r hr=>nomatch hr) (fun _ _ _ r hr=>nomatch hr) (fun _ _ _ r hr=>nomatch hr) (fun _ _ r hr=>nomatch hr) (fun _ _ _ _ r hr=>nomatch hr) (fun _ _ _ _ r hr=>nomatch hr) (fun _ _ r hr=>nomatch hr) (fun _ _ r hr=>nomatch hr) (fun _ _ r hr=>nomatch hr) (fun _ _ r hr=>nomatch hr) (fun _ _ h=>rows2 h) (fun _ _ r hr=>nomatch hr) (fun _ r hr=>nomatch hr) h
theorem asked_is {zs:List Int}(h:PyVbtpah.answers_asked zs=true):∃ cs,M.callsAt PyVbtpah.shape zs=some cs∧cs.length≤300∧(∀ c∈cs,∀ r∈c.tail,r.length≤2500)∧PyVbtpah.answers zs=wM cs:=by
 have e:PyVbtpah.calls zs=M.callsAt PyVbtpah.shape zs:=by
  unfold PyVbtpah.calls;show (match M.callsAt PyVbtpah.shape zs with | none=>none | some cs=>some (cs.map PyVbtpah.whole))=_
  cases e:M.callsAt PyVbtpah.shape zs with
  | none=>rfl
  | some cs =>
   refine congrArg some ((List.map_congr_left fun c hc=>?_).trans (List.map_id cs))
   obtain ⟨p,ns,rows,rfl,sh⟩:=vQ _ zs cs (Nat.le_refl _) e c hc
   exact whole_sh sh
 unfold PyVbtpah.answers_asked at h;unfold PyVbtpah.answers;rw [e] at h ⊢
 cases e2:M.callsAt PyVbtpah.shape zs with
 | none=>rw [e2] at h;cases h
 | some cs =>
  rw [e2] at h;have h2:=(Bool.and_eq_true_iff.mp h)
  refine ⟨cs,rfl,of_decide_eq_true h2.1,fun c hc=>?_,rfl⟩
  have h3:=h2.2
  unfold VbtpahNeutral.asked at h3;have h4:=List.all_eq_true.mp (Bool.and_eq_true_iff.mp h3).1 c hc
  obtain ⟨p,ns,rows,rfl,sh⟩:=vQ _ zs cs (Nat.le_refl _) e2 c hc
  exact asked1_rows sh h4
theorem well_ints {Pm:Params}{h:Heap}:∀ {vs:List Value} {zs:List Int},PySem.W.WellAll Pm h vs (zs.map PySem.W.WData.int)→Vals (zs.map V.int) vs
 | _,[],x=>by cases x;exact .nil
 | _,z::r,x=>by
  cases x with
  | cons a b =>
   cases a;exact .cons ⟨_,rfl⟩ (well_ints b)
theorem reads_ints {R:PySem.W.WRecords}{cl:Str→Option Addr}{h:Heap}:∀ {us:List Value} (ys:List Int),Vals (ys.map V.int) us→∃ as,PySem.W.ReadsAllW R cl h us (ys.map PySem.W.WData.int) as
 | us,[],x=>by cases x;exact ⟨_,PySem.W.ReadsAllW.nil⟩
 | us,y::r,x=>by
  cases x with
  | cons a b =>
   obtain ⟨t,rfl⟩:=a
   obtain ⟨as,q⟩:=reads_ints (R:=R) (cl:=cl) (h:=h) r b
   exact ⟨_,PySem.W.ReadsAllW.cons (PySem.W.ReadsW.int y t) q⟩
def entH (K:zF)(tb a:Addr)(o:Obj)(zs:List Int):Hp:=fun b=>if b=tb then some (.tbl #[]) else if b=a then (if (K.lookup a).isNone=true then some (.frz o (.lst (zs.map V.int))) else none) else none
theorem spec_one {P:Program}{w:World}{K:zF}{mg mb:Str→Option Value}{k:Nat}{fa a tb c:Addr}{ps:List Str}{sp:Sp}{s₁:Shared}{vs:List Value}{zs ys:List Int}{R:PySem.W.WRecords}{cl:Str→Option Addr}
  (KX:K.In s₁.heap) (hns:s₁.heap.Ns mainGlobals mg) (hb:s₁.heap.Ns builtinsNs mb) (hbb:∀ x:Str,x≠"__name__"→mb x=bootBuiltins x) (hlim:s₁.heap.NoLimit)
  (hbm:∃ bm ob,mg "__builtins__"=some (.ref bm)∧bm≠builtinsNs∧s₁.heap.get? bm=some ob∧ob.cls = .type "module"∧ob.dict=some builtinsNs∧ob.data = .plain) (hg:s₁.gens = #[])
  (ha:s₁.heap.get? a=some {cls:=.type "list",data:=.seq vs.toArray}) (rv:Vals (zs.map V.int) vs) (hl:zs.length≤sizeLine)
  (C:PySem.W.CodeHd s₁.heap c tb) (htb:s₁.heap.get? tb=some (PySem.W.tabObj #[])) (hKt:K.lookup tb=none) (hr:Room k callerA)
  (F:∀ base:Heap,∃ fd,FnOk P w K mg base CX0 k fa fd ps sp∧Binds K fd ps []) (hlen:ps.length=1)
  (hsp:∀ H:Hp,Clo H→TabOk tb H→SqL K H a (zs.map V.int)→sp [.ref a] H (fun v H'=>∃ D,v = .ref D∧H' D=some (.lst (ys.map V.int))) fun _ _ _=>False) :
  codeAny (model P w) callerA (.call (.ref fa) ⟨[.ref a],[]⟩) (fun r s'=>∃ u as,r = .ok (.ret u)∧PySem.W.ReadsW R cl s'.heap u (.list (ys.map PySem.W.WData.int)) as∧OldK s₁.heap s'.heap∧s'.os=s₁.os∧AllBare s'.gens) s₁:=by
 obtain ⟨H,hH⟩:∃ H,H=entH K tb a {cls:=.type "list",data:=.seq vs.toArray} zs:=⟨_,rfl⟩
 have nat:a≠tb:=fun e=>by
  rw [e,htb] at ha;have:=congrArg Obj.cls (Option.some.inj ha)
  cases this
 have H1:H tb=some (.tbl #[]):=by rw [hH];exact if_pos rfl
 have H2:∀ b,b≠tb→b≠a→H b=none:=fun b n1 n2=>by
  rw [hH];show (if b=tb then _ else if b=a then _ else none)=none
  rw [if_neg n1,if_neg n2]
 have H3:H a=if (K.lookup a).isNone=true then some (.frz {cls:=.type "list",data:=.seq vs.toArray} (.lst (zs.map V.int))) else none:=by
  rw [hH];show (if a=tb then _ else if a=a then _ else none)=_
  rw [if_neg nat,if_pos rfl]
 clear hH;have all:∀ b u,H b=some u→(b=tb∧u = .tbl #[])∨(b=a∧K.lookup a=none∧u = .frz {cls:=.type "list",data:=.seq vs.toArray} (.lst (zs.map V.int))):=fun b u e=>by
  by_cases z1:b=tb
  ·rw [z1,H1] at e;cases e;exact .inl ⟨z1,rfl⟩
  ·by_cases z2:b=a
   ·rw [z2,H3] at e
    cases hk:K.lookup a with
    | none=>rw [hk] at e;exact .inr ⟨z2,rfl,(Option.some.inj e).symm⟩
    | some o=>rw [hk] at e;cases e
   ·rw [H2 b z1 z2] at e;cases e
 have hok:HOk P w H s₁.heap:=fun b u e=>by
  rcases all b u e with ⟨rfl,rfl⟩ | ⟨rfl,_,rfl⟩
  ·exact htb
  ·exact ⟨ha,by rw [List.length_map];exact hl,vs,_,rv,ha⟩
 have hS:SqL K H a (zs.map V.int):=by
  cases hk:K.lookup a with
  | none=>exact .inl (.inr ⟨{cls:=.type "list",data:=.seq vs.toArray},by rw [H3,hk];rfl⟩)
  | some o =>
   have e:=KX a o hk
   rw [ha] at e;cases e;have lv:=rv.length
   exact .inr ⟨_,vs.toArray,_,hk,rfl,rfl,rfl,by rw [List.size_toArray,← lv,List.length_map];exact hl,by simpa using rv⟩
 have cl0:Clo H:=by
  refine ⟨fun b C dx fs e=>?_,fun b kvs e=>?_,fun b o u e=>?_⟩
  ·rcases all b _ e with ⟨_,z⟩ | ⟨_,_,z⟩
   ·cases z
   ·cases z
  ·rcases all b _ e with ⟨_,z⟩ | ⟨_,_,z⟩
   ·cases z
   ·cases z
  ·rcases all b _ e with ⟨_,z⟩ | ⟨_,_,z⟩
   ·cases z
   ·cases z;exact .inl ⟨_,rfl⟩
 have nK:∀ b o,K.lookup b=some o→H b=none:=fun b o e=>by
  cases q:H b with
  | none=>rfl
  | some u =>
   rcases all b u q with ⟨rfl,_⟩ | ⟨rfl,z,_⟩
   ·rw [hKt] at e;cases e
   ·rw [z] at e;cases e
 have noA:∀ {b:Addr} {o:Obj},s₁.heap.get? b=some o→(∀ xs n,o.data≠.seq xs n)→(∀ xs,o.data≠.fields xs)→H b=none:=fun {b o} e d1 d2=>by
  cases q:H b with
  | none=>rfl
  | some u =>
   rcases all b u q with ⟨rfl,_⟩ | ⟨rfl,_,_⟩
   ·rw [htb] at e;cases e;exact absurd rfl (d2 _)
   ·rw [ha] at e;cases e;exact absurd rfl (d1 _ _)
 have base_of:∀ {b:Addr} {o:Obj},s₁.heap.get? b=some o→H b=none→(hidT s₁.heap H).get? b=some o:=fun e n=>hidT_get e n
 have nsK:∀ {b:Addr} {m:Str→Option Value},s₁.heap.Ns b m→(hidT s₁.heap H).Ns b m:=fun {b m} ⟨o,es,ep,e,d,r⟩=>⟨o,es,ep,base_of e (noA e (fun _ _ z=>by rw [d] at z;cases z) fun _ z=>by rw [d] at z;cases z),d,r⟩
 have hKb:K.In (hidT s₁.heap H):=fun b o e=>base_of (KX b o e) (nK b o e)
 have hM:Mod K mg (hidT s₁.heap H):=⟨hKb,nsK hns,⟨mb,nsK hb,hbb⟩,let ⟨mc,h1,h2⟩:=hlim;⟨mc,nsK h1,h2⟩,
  let ⟨bm,ob,b1,b2,b3,b4,b5,b6⟩:=hbm;⟨bm,ob,b1,b2,base_of b3 (noA b3 (fun _ _ z=>by rw [b6] at z;cases z) fun _ z=>by rw [b6] at z;cases z),b4,b5,b6⟩⟩
 have e0:Env0 P w K mg (hidT s₁.heap H) callerA [] s₁ H:=⟨rfl,hM,fun b o e=>of_hidT e,Nat.le_of_eq (hidT_size _ _),trivial,fun b hb=>absurd (show b∈([]:List Addr) from hb) (by simp),hok,.of_eq hg⟩
 obtain ⟨fd,F1,F2⟩:=F (hidT s₁.heap H)
 have hbd:=F2 s₁ [.ref a] KX (by rw [hlen];rfl)
 rw [List.append_nil] at hbd;refine codeAny_mono (F1.run callerA [] s₁ H ⟨[.ref a],[]⟩ [.ref a] [.ref a] _ _ hr e0 hbd (.cons rfl .nil) (hsp H cl0 ⟨_,H1,.inl rfl⟩ hS)) fun r s' x=>?_
 cases r with
 | error e=>exact False.elim x
 | ok fl =>
  cases fl with
  | next=>exact False.elim x
  | brk=>exact False.elim x
  | cont=>exact False.elim x
  | ret u =>
   obtain ⟨v,H',os,bare,un,hok',r',D,rfl,hD⟩:=x
   cases r'
   have nil:∀ b:Addr,b∉([]:List Addr):=fun b=>by simp
   have kept:∀ b o,b≠tb→s₁.heap.get? b=some o→s'.heap.get? b=some o:=fun b o nb e=>by
    cases q2:H b with
    | none=>exact un.keep b o e q2 (nil b) (nil b)
    | some u2 =>
     rcases all b u2 q2 with ⟨z,_⟩ | ⟨rfl,_,rfl⟩
     ·exact absurd z nb
     ·obtain ⟨e2,_⟩:=hok' b _ (un.frzs b _ _ q2)
      rw [ha] at e;cases e;exact e2
   obtain ⟨more,hmore⟩:=un.tbls tb #[] H1
   have htb':s'.heap.get? tb=some (PySem.W.tabObj (#[]++more)):=hok' _ _ hmore
   obtain ⟨_,its,n,rv',hget⟩:=(show ObjOk P w H' s'.heap D (.lst (ys.map V.int)) from hok' _ _ hD)
   obtain ⟨as,hra⟩:=reads_ints (R:=R) (cl:=cl) (h:=s'.heap) ys rv'
   have old:OldK s₁.heap s'.heap:=⟨fun b o e=>by
     by_cases z:b=tb
     ·subst z
      rw [htb] at e;cases e;exact .inr (.inl ⟨(C.tab htb).isCodeTable,rfl,_,more,rfl,htb'⟩)
     ·exact .inl (kept b o z e),fun b o e=>by
     by_cases z:b=tb
     ·subst z;exact ⟨_,htb'⟩
     ·exact ⟨o,kept b o z e⟩⟩
   exact ⟨_,_,rfl,PySem.W.ReadsW.list hget rfl rfl hra,old,os,bare⟩
theorem walk_my {q:Program}{loose:List Str}{XP:(Str→Option Value)→Heap→Prop}{YP:World→Heap→Prop}{d:DefRec}(hwell:rowA.wellSaid=true)(hdn:d.name="answers")
  (hY:∀ (w:World) (s₀ s₁:Shared) (mg mb:Str→Option Value),PySem.W.Ground q loose [] XP w s₀ mg mb s₁.heap→YP w s₁.heap →
   ∃ (K:zF) (tb c:Addr),K.In s₁.heap∧K.lookup tb=none∧PySem.W.CodeHd s₁.heap c tb∧s₁.heap.get? tb=some (PySem.W.tabObj #[])∧Txt rowA.prog w K mg∧TabTxt K mg tb) :
  PySem.W.WalkOS q loose XP YP rowA d [] (fun f vs=>PySem.call f vs):=by
 intro w s_0 s₁ mg mb G Y fa o pm cd doc dV kV ho hd hcd hD hmg hg args vals as hpre hlay hrd hwl hlo
 obtain ⟨a,e1,e2⟩:=PySem.W.os_pre_some hpre
 obtain ⟨e3,hwi⟩:=PySem.W.Codec.encAll_of_decAll rowA.args args a e1
 subst e3;obtain ⟨zs,a2⟩:=a
 cases a2;obtain ⟨K,tb,c,KX,hKt,C,htb,T,B⟩:=hY w s_0 s₁ mg mb G Y
 have hz:zs.length≤17000:=by
  have h1:=(Bool.and_eq_true_iff.mp (show (PySem.W.Codec.within (.list 0 17000 (.int (Int.negSucc 999999999999999999) (Int.ofNat 1000000000000000000))) zs&&PySem.W.Codec.withinAll [] ())=true from hwi)).1
  have h2:(PySem.W.Codec.inList 0 17000 _ zs)=true:=h1
  unfold PySem.W.Codec.inList at h2;have h3:=(Bool.and_eq_true_iff.mp h2).1
  unfold PySem.W.Codec.inLen PySem.W.Codec.inNat at h3;have h4:=(Bool.and_eq_true_iff.mp h3).2
  exact of_decide_eq_true h4
 obtain ⟨cs,hc1,hc2,hc3,hc4⟩:=asked_is (show PyVbtpah.answers_asked zs=true from e2)
 have hwl2:PySem.W.WellAll w.params s₁.heap vals [.list (zs.map PySem.W.WData.int)]:=hwl
 cases hwl2 with
 | cons x1 x2 =>
  cases x2
  cases x1 with
  | list hget hall =>
   rename_i aa vs
   rw [hdn] at hmg;have sz:(20000:Nat) < sizeLine:=by decide
   refine PySem.W.enter_call (codeAny_mono (spec_one (R:=[]) (cl:=classAt s_0.heap) (ys:=PyVbtpah.answers zs) (sp:=spAns K tb) (ps:=["calls"]) (k:=9) KX G.T.g G.T.b G.T.builtins G.T.nolimit G.T.bmain hg hget (well_ints hall) (by omega) C htb hKt ⟨rfl,by decide,by decide⟩
    (fun base=>?_) rfl fun H c1 t1 s1=>⟨aa,zs,cs,rfl,c1,t1,s1,by omega,hc1,hc2,hc3,fun H' D e=>⟨D,rfl,by rw [hc4];exact e⟩⟩) fun r' s' hq=>?_)
   ·obtain ⟨f,fd,dv,F1,h1,_,h3,h4⟩:=ok_answers (base:=base) T B
    rw [hmg] at h1;cases h1;cases h4;exact ⟨fd,F1,h3⟩
   ·obtain ⟨u,as',rfl,h1,h2,h3,h4⟩:=hq
    exact ⟨.inl ⟨u,_,as',rfl,fun _=>rfl,h1,(PySem.W.OpenSpec.post_iff hwell hwi _ _).mpr rfl,fun z=>Bool.noConfusion (show false=true from z)⟩,h2,h3,h4⟩
end My
namespace My
open PySem PySem.Spec PyProof.Rows L2
open Vbtpah (Says Log Reading Park Sensor Ride Rule Check)
def AllArgs : Nat→(List Value→Prop)→Prop
 | 0,P=>P []
 | n+1,P=>∀ a,AllArgs n fun l=>P (a::l)
theorem AllArgs.get : ∀ {n:Nat} {P:List Value→Prop},AllArgs n P→∀ us:List Value,us.length=n→P us
 | 0,_,h,us,e=>by rw [ln0 e];exact h
 | n+1,_,h,[],e=>by cases e
 | n+1,_,h,a::r,e=>AllArgs.get (h a) r (Nat.succ.inj e)
section
variable {P:Program}{w:World}{K:zF}{mg:Str→Option Value}{h:Heap}
theorem x_gi {x:Str}{i:Int}{t:Tok}(X:K.In h)(G:h.Ns mainGlobals mg)(e:PySem.W.nsIn K mainGlobals x=some (some (.int i t))):GI mg x i:=⟨t,PySem.W.mg_of X G e⟩
theorem x_gs {x z:Str}{t:Tok}(X:K.In h)(G:h.Ns mainGlobals mg)(e:PySem.W.nsIn K mainGlobals x=some (some (.str z t))):GS mg x z:=⟨t,PySem.W.mg_of X G e⟩
theorem x_def {x:Str}{st:Stmt}{f:Addr}{oc:Value}{od an:Option Addr}{osl:Array (Option Value)}{kV doc pm cdv ct:Value}{ps:List Str}(X:K.In h)(G:h.Ns mainGlobals mg)
  (e:PySem.W.nsIn K mainGlobals x=some (some (.ref f)))
  (l:K.lookup f=some ⟨oc,od,.func (PySem.W.fnOf x x (wZ st) (xP st) (zE st) .none kV doc pm an cdv ct),osl⟩)
  (c:PySem.W.codeIn K cdv x=true) (k:PySem.W.keepIn K (.ref f)=true)
  (hb:∀ (kV doc pm:Value) (an:Option Addr) (cdv ct:Value),AllArgs ps.length fun us=>bindArgs (PySem.W.fnOf x x (wZ st) (xP st) (zE st) .none kV doc pm an cdv ct) ⟨us,[]⟩=pure (ps.zip us)):DefOk K mg x st ps :=
 ⟨f,_,PySem.W.mg_of X G e,fun_mk l c k,(fun_mk l c k).binds fun _ _ _ _ _ _ us hl=>(hb ..).get us hl⟩
def NoAll (K:zF)(C:Addr):List Str→Prop
 | []=>True
 | y::r=>PySem.W.findIn K (.ref C) y=some none∧NoAll K C r
theorem NoAll.get {C:Addr}:∀ {fs:List Str},NoAll K C fs→∀ y∈fs,NoAttr K C y
 | [],_,y,hy=>absurd hy (by simp)
 | z::r,hn,y,hy=>by
  rcases List.mem_cons.mp hy with e | hy
  ·rw [e];exact hn.1
  ·exact NoAll.get hn.2 y hy
theorem x_cls {x q:Str}{st:Stmt}{C f:Addr}{oc:Value}{od an:Option Addr}{osl:Array (Option Value)}{kV doc pm cdv ct:Value}{ps fs:List Str}(X:K.In h)(G:h.Ns mainGlobals mg)
  (e:PySem.W.nsIn K mainGlobals x=some (some (.ref C)))
  (m2:PySem.W.findIn K (.ref C) "__init__"=some (some (.ref f)))
  (l:K.lookup f=some ⟨oc,od,.func (PySem.W.fnOf "__init__" q (wZ st) (xP st) (zE st) .none kV doc pm an cdv ct),osl⟩)
  (c:PySem.W.codeIn K cdv q=true) (k:PySem.W.keepIn K (.ref f)=true)
  (m1:PySem.W.makesIn K C=true) (m3:PySem.W.isFn K (.ref f)=true) (m4:PySem.W.keepIn K (.ref C)=true)
  (c1:PySem.W.plainGet K C Str.empty=true) (c2:PySem.W.hasDictIn K C=true) (c3:PySem.W.plainOver K C=true) (c4:PySem.W.findIn K (.ref C) "__setattr__"=some (some (.builtin "object.__setattr__"))) (nn:NoAll K C fs)
  (hb:∀ (kV doc pm:Value) (an:Option Addr) (cdv ct:Value),AllArgs ps.length fun us=>bindArgs (PySem.W.fnOf "__init__" q (wZ st) (xP st) (zE st) .none kV doc pm an cdv ct) ⟨us,[]⟩=pure (ps.zip us)):ClsOk K mg x q st ps fs :=
 ⟨C,f,_,PySem.W.mg_of X G e,⟨m1,m2,m3,m4⟩,fun_mk l c k,(fun_mk l c k).binds fun _ _ _ _ _ _ us hl=>(hb ..).get us hl,⟨c1,c2,c3,c4⟩,nn.get⟩
theorem yP {a:Addr}{xs:List V}{od:Option Addr}{sl:Array (Option Value)}{its:Array Value}{n:Nat}(e:K.lookup a=some ⟨.type "tuple",od,.seq its n,sl⟩)(hz:Nat.ble its.size 1000=true)(hv:Vals xs its.toList):KT K a xs :=
 ⟨_,its,n,e,rfl,rfl,Nat.le_trans (Nat.le_of_ble_eq_true hz) (by decide),hv⟩
end
theorem All2.cons {α:Type}{R:Addr→α→Prop}{a:Addr}{x:α}{as:List Addr}{xs:List α}(r:R a x)(h:All2 R as xs):All2 R (a::as) (x::xs):=by
 refine ⟨congrArg (·+1) h.len,fun i b y hb hy=>?_⟩
 cases i with
 | zero=>cases hb;cases hy;exact r
 | succ i=>exact h.at_ i b y hb hy
section
variable {P:Program}{w:World}{K:zF}{mg:Str→Option Value}{h:Heap}
inductive KDs (w:World):List DictEntry→List (u8×V)→Prop
 | nil : KDs w [] []
 | cons {e:DictEntry} {es:List DictEntry} {k:u8} {v:V} {r:List (u8×V)}:keyIs k e.key=true→e.hash=keyH w k→RelV v e.val→KDs w es r→KDs w (e::es) ((k,v)::r)
theorem KDs.ex : ∀ {es:List DictEntry} {kvs:List (u8×V)},KDs w es kvs→(∀ e∈es,∃ k,(wE P w).is k e.key=true∧e.hash=(wE P w).hash k)∧∃ vs,Pairs (wE P w) es vs∧vs.map (·.1)=kvs.map (·.1)∧KV kvs vs
 | _,_,.nil=>⟨fun e he=>absurd he (by simp),[],.nil,rfl,.nil⟩
 | _,_,.cons (e:=e) (k:=k) h1 h2 h3 h4=>by
  obtain ⟨a,vs,b,c,d⟩:=KDs.ex h4
  refine ⟨fun e' he=>?_,(k,e.val)::vs,.cons h1 rfl b,?_,.cons ⟨rfl,h3⟩ d⟩
  ·rcases List.mem_cons.mp he with z | z
   ·rw [z];exact ⟨k,h1,h2⟩
   ·exact a e' z
  ·show k::vs.map (·.1)=k::_
   rw [c]
theorem x_kd {a:Addr}{es:Array DictEntry}{ep:Nat}{kvs:List (u8×V)}(e:K.lookup a=some ⟨.type "dict",none,.dict es ep,#[]⟩)(hk:KDs w es.toList kvs)(nd:(kvs.map (·.1)).Nodup)(ns:(a==sysModules)=false):KD P w K a kvs:=by
 obtain ⟨h1,vs,h2,h3,h4⟩:=hk.ex (P:=P)
 exact ⟨⟨_,es,ep,vs,e,⟨rfl,rfl,rfl⟩,rfl,fun x hx=>h1 x (by simpa using hx),h2,by rw [h3];exact nd,h4⟩,ns⟩
theorem x_wr {f T:Addr}{oc:Value}{od an od2:Option Addr}{osl sl2:Array (Option Value)}{kV doc pm cdv ct:Value}{t0 t1 t2:Tok}{n2:Nat}(X:K.In h)(G:h.Ns mainGlobals mg)(e:PySem.W.nsIn K mainGlobals "write_entry"=some (some (.ref f)))
  (l:K.lookup f=some ⟨oc,od,.func (PySem.W.fnOf "write_entry" "write_entry" (wZ (z9 154)) (xP (z9 154)) (zE (z9 154)) (.ref T) kV doc pm an cdv ct),osl⟩)
  (lt:K.lookup T=some ⟨.type "tuple",od2,.seq #[.int 0 t0,.int 0 t1,.int 0 t2] n2,sl2⟩) (c:PySem.W.codeIn K cdv "write_entry"=true) (k:PySem.W.keepIn K (.ref f)=true) :
  DefD K mg "write_entry" (z9 154) ["park","kind","about","told","third","fourth"] [.int 0,.int 0,.int 0]:=by
 refine ⟨f,_,oc,od,.ref T,kV,doc,pm,an,cdv,ct,osl,PySem.W.mg_of X G e,rfl,l,c,k,fun n hn=>?_⟩
 refine ⟨[Value.int 0 t0,.int 0 t1,.int 0 t2].drop n,fun s us hX hl=>?_,Vals.drop n (.cons ⟨_,rfl⟩ (.cons ⟨_,rfl⟩ (.cons ⟨_,rfl⟩ .nil)))⟩
 have hl2:us.length=3+n:=by
  rw [List.length_append,List.length_drop] at hl;have hl:us.length+(3 - n)=6:=hl
  have hn:n≤3:=hn
  omega
 have get:∀ P:List Value→Prop,AllArgs (3+n) P→P us:=fun P hP=>hP.get us hl2
 have n4:n=0∨n=1∨n=2∨n=3:=by
  have hn:n≤3:=hn
  omega
 clear hl hl2;rcases n4 with rfl | rfl | rfl | rfl
 ·exact get (fun us=>BindsTo s _ ⟨us,[]⟩ ((["park","kind","about","told","third","fourth"]:List Str).zip (us++_))) fun _ _ _=>PySem.W.binds_K hX rfl lt rfl rfl rfl
 ·exact get (fun us=>BindsTo s _ ⟨us,[]⟩ ((["park","kind","about","told","third","fourth"]:List Str).zip (us++_))) fun _ _ _ _=>PySem.W.binds_K hX rfl lt rfl rfl rfl
 ·exact get (fun us=>BindsTo s _ ⟨us,[]⟩ ((["park","kind","about","told","third","fourth"]:List Str).zip (us++_))) fun _ _ _ _ _=>PySem.W.binds_K hX rfl lt rfl rfl rfl
 ·exact get (fun us=>BindsTo s _ ⟨us,[]⟩ ((["park","kind","about","told","third","fourth"]:List Str).zip (us++_))) fun _ _ _ _ _ _=>by first | exact PySem.W.binds_K hX rfl lt rfl rfl rfl | exact .of_eq rfl
theorem x_tab {q:Program}{loose:List Str}{mean:ExcName→Option Value}{mb:Str→Option Value}{f c tb:Addr}{oc:Value}{od od2:Option Addr}{osl sl2:Array (Option Value)}{fd:FuncData}{vs:Array Value}{file:Str}{tf:Tok}{flags text:Int}{tg tt:Tok}{inF:Bool}(X:K.In h)(T:Top q loose mean mg mb h)
  (hq:∃ d∈recsOf q,d.name="readings_of") (e:PySem.W.nsIn K mainGlobals "readings_of"=some (some (.ref f))) (l:K.lookup f=some ⟨oc,od,.func fd,osl⟩) (hc:fd.code = .ref c) (lc:K.lookup c=some ⟨.type "code",od2,.fields vs,sl2⟩)
  (v11:vs[11]? = some (.ref tb)) (d11:vs.getD 11 .none = .ref tb) (d18:vs.getD 18 .none = .str file tf) (d7:vs.getD 7 .none = .int flags tg) (d9:vs.getD 9 .none = .bool inF) (d10:vs.getD 10 .none = .int text tt) (n:c≠tb) :
  PySem.W.CodeHd h c tb∧h.get? tb=some (PySem.W.tabObj #[])∧TabTxt K mg tb:=by
 have all:∀ h:Heap,K.In h→PySem.W.CodeHd h c tb:=fun h X=>⟨_,vs,file,tf,flags,tg,inF,text,tt,X _ _ lc,rfl,rfl,v11,d11,d18,d7,d9,d10,n⟩
 have e1:=PySem.W.mg_of X T.g e
 refine ⟨all h X,?_,⟨⟨f,_,fd,e1,l,rfl,c,hc,all⟩⟩⟩
 obtain ⟨d,hd,hn⟩:=hq
 obtain ⟨a,o,fd',c',P',h1,h2,h3,h4,h5,h6⟩:=T.tab d hd
 rw [hn,e1] at h1;cases h1;rw [X _ _ l] at h2;cases h2;cases h3;rw [hc] at h4;cases h4;obtain ⟨⟨o2,vs2,g1,g2,g3,g4⟩,g5⟩:=h6
 rw [X _ _ lc] at g1;cases g1;cases g3;rw [v11] at g4;cases g4;exact g5
end
end My
namespace PySem.W.Fast
def tw8360927449465130689:=0
def tw3119838712813822484:=0
def tw1603762758945265930:=0
def tw6970134125811314715:=0
def tw12362088123715079064:=0
def tw12340713025766407551:=0
def tw15156142823199847016:=0
def tw15243897594156623057:=0
def tw7868510844353693740:=0
def tw6689333790642796548:=0
def tw16957296565040325576:=0
def tw12287167378712501313:=0
def tw15730792532702885662:=0
def tw4468276652136440234:=0
def tw8827498083774870052:=0
def tw12056200432771135860:=0
def tw13010655866667410337:=0
def tw6826063564695188527:=0
def tw395426939682014468:=0
def tw16330185221806147200:=0
def tw8255389307880682066:=0
def tw5157638645590822288:=0
def tw17780451744136500906:=0
def tw1052941228630987673:=0
def tw4072833731733529305:=0
def tw11961974142485504758:=0
def tw1331934067449716686:=0
def tw599054521352470727:=0
def tw11085357343104723131:=0
def tw8233781564446402348:=0
def tw8126483438524150469:=0
def tw10132545195978454099:=0
def tw8755330767437471449:=0
def tw11905162642717485062:=0
def tw7062357423616275429:=0
def tw8588281089511999540:=0
def tw18152280143462760341:=0
def tw13027745505967988677:=0
def tw12883025342160313910:=0
def tw18322931928085153565:=0
def tw3576997836105906042:=0
def tw7757359648607128046:=0
def tw5881283165783229316:=0
def tw16068328965561028191:=0
def tw16570168023034332811:=0
def tw576118111580238133:=0
def tw8390667049706475756:=0
def tw13888464398346928848:=0
def tw5208315582475159614:=0
def tw14305157254936764481:=0
def tw1251526706168071324:=0
def tw4342938253214967970:=0
def tw11549972637189004437:=0
def tw1735284694997231057:=0
def tw1536717055910555904:=0
def tw3977089770214120051:=0
def tw3277315264709767477:=0
def tw6818593735667510087:=0
def tw2178266958978976151:=0
def tw10897578076705354512:=0
def tw16339037618346792546:=0
def tw12763723909078506195:=0
def tw11299059920366714153:=0
def tw2546056889711386232:=0
def tw4896093849549941649:=0
def tw17642944901116605591:=0
def tw10584513143460516615:=0
def tw16410623034750564227:=0
def tw6573693948035589789:=0
def tw3211635938920960380:=0
def tw9633399618347313668:=0
def tw4632192551108119954:=0
def tw3572637738227999461:=0
def tw3361611034306322577:=0
def tw6006468399668190655:=0
def tw4020498627363065826:=0
def tw1631315300033880660:=0
def tw8471640894044746274:=0
def tw5093920050275494369:=0
def tw2111734224025337373:=0
def tw10396762750760558480:=0
def tw8120329180653016701:=0
def tw16713744623426009301:=0
def tw5129513693327899174:=0
def tw4239893221322889173:=0
def tw9070387285468070717:=0
def tw3919349806257660263:=0
def tw5139071971029920674:=0
def tw7538442911901981395:=0
def tw1843464139377486831:=0
def tw7004271122203413115:=0
def tw13229300612854751841:=0
def tw17637130780536587918:=0
def tw16217833333713276303:=0
def tw1353522449218244661:=0
def tw6863178969246563467:=0
def tw11627423622447150940:=0
def tw9835770653334731229:=0
def tw16351492577501923726:=0
def tw14954391418633465628:=0
def tw16916211557473864706:=0
def tw15077223613138252225:=0
def tw4679039324076081538:=0
def tw4135920994905104013:=0
def tw16756524384672708844:=0
def tw9939543368276672198:=0
def tw16022062863052738742:=0
def tw2528204571860054401:=0
def tw14259203288328123461:=0
def tw2813050191633174401:=0
def tw8370357991086888067:=0
def tw1946077566193300614:=0
def tw2330427032911706790:=0
def tw3633238944544240779:=0
def tw1754259976586835402:=0
def tw12138347014316395549:=0
def tw5702053544987797831:=0
def tw11088697467428783418:=0
def tw8617546199528101462:=0
def tw18189066905401002362:=0
def tw11341348337609099589:=0
def tw4511876674315027844:=0
def tw498577045124740114:=0
def tw1439431716425827933:=0
def tw1431922602007774156:=0
def tw8812781290617071362:=0
def tw14846809782663750861:=0
def tw4400198052005127527:=0
def tw5226996716055069076:=0
def tw11220298664155680285:=0
def tw16539552450864278180:=0
def tw12871938381556921973:=0
def tw15141251546218332776:=0
def tw7779168718480988975:=0
def tw1149619831793339397:=0
def tw5537142738381274906:=0
def tw8771750788619796142:=0
def tw3316196020045404204:=0
def tw7407755501990788060:=0
def tw1901280719542147937:=0
def tw7892625612540654588:=0
def tw16601888651783588997:=0
def tw16181244082987124129:=0
def tw7543422601288319644:=0
def tw1769550024821305110:=0
def tw10824143621164845901:=0
def tw15611791826218338786:=0
def tw13389240510103713782:=0
def tw5752989215739979058:=0
def tw10485454728505710509:=0
def tw11618844259368978871:=0
def tw13156930934066124635:=0
def tw9025586526260100613:=0
def tw18209076736432016505:=0
def tw17948733183151551323:=0
def tw8768364344532257082:=0
def tw16586824965867493702:=0
def tw18390222936240742535:=0
def tw1382748743322548091:=0
def tw15268020537818596843:=0
def tw2758550671989202470:=0
def tw11565030875495418574:=0
def tw11226985365228814386:=0
def tw13768131027941283434:=0
def tw5783123755025272181:=0
def tw646515138707456548:=0
def tw8880673915412916261:=0
def tw2552961241603386252:=0
def tw10401537048862247826:=0
def tw12168283405161309648:=0
def tw7685200217759500482:=0
def tw2125762030269259385:=0
def tw8672866998582506353:=0
def tw14150532677153680430:=0
def tw7187247876992378630:=0
def tw1920226397638756408:=0
def tw5678541172513750216:=0
def tw3806060202828045254:=0
def tw17939729008401434610:=0
def tw14338064544507804538:=0
def tw11138855509765022572:=0
def tw16698220174406100172:=0
def tw9666221755038983928:=0
def tw17429703003481546108:=0
def tw11570820841611595868:=0
def tw11460916286825442353:=0
def tw12063444135827379921:=0
def tw6498988879008007453:=0
def tw6106670203859757436:=0
def tw5444099514382193056:=0
def tw9386876979055093044:=0
def tw11092537660328517026:=0
def tw7650103301667544591:=0
def tw7259847132294438665:=0
def tw1809035864687028263:=0
def tw11008845738598601823:=0
def tw15129316383591967902:=0
def tw2865005426022035001:=0
def tw12164817978835948165:=0
def tw13353354691761250724:=0
def tw7491186195107802059:=0
def tw11418504961559368719:=0
def tw12240259865800121540:=0
def tw9961512201081784972:=0
def tw15968920700296747404:=0
def tw598916347049898872:=0
def tw7238965363925695256:=0
def tw11642600448352239459:=0
def tw10575382650127505126:=0
def tw15067473490240897443:=0
def tw5405763483960042651:=0
def tw15614329135602332200:=0
def tw3379331012323236740:=0
def tw8629485623201242073:=0
def tw7001171481040902123:=0
def tw9229031786735494414:=0
def tw5985903493571381840:=0
def tw12529030181894850157:=0
def tw11555393780325056463:=0
def tw10466445902485992715:=0
def tw17108195596072565123:=0
def tw10489527046050119983:=0
def tw18007946479819772020:=0
def tw10917378849910189720:=0
def tw15771790261214449896:=0
def tw2229031101060416224:=0
def tw2539451824641839404:=0
def tw7846918365804933087:=0
def tw7813109901776189775:=0
def tw9602244760636184174:=0
def tw3574930659224879596:=0
def tw12583990695782796635:=0
def tw8086723159672607572:=0
def tw10083643899720966175:=0
def tw12607211577505346032:=0
def tw5738869846433073146:=0
def tw10780257050776136405:=0
def tw6076213281220946347:=0
def tw14424472512976455429:=0
def tw5726500419861378738:=0
def tw361552763331654586:=0
def tw13616047638088265198:=0
def tw7713847595537500220:=0
def tw11214643604948967921:=0
def tw12420958156271259287:=0
def tw3369230530787898545:=0
def tw16728393674924671308:=0
def tw7616457564951613999:=0
def tw14601992067163747641:=0
def tw2490994845967873586:=0
def tw8025187312142185353:=0
def tw9310035519851913122:=0
def tw7408995395479198:=0
def tw1359532256241063446:=0
def tw15700960376401113370:=0
def tw468347872739516906:=0
def tw7093278237460014653:=0
def tw15766701599878284452:=0
def tw9172078069628456518:=0
def tw9325832777086069197:=0
def tw16854300596518694025:=0
def tw14646604192761240773:=0
def tw16072872465144885931:=0
def tw16850753438274690926:=0
def tw15735242098124737903:=0
def tw8709370636170131353:=0
def tw14551332440462957324:=0
def tw9597209263237991787:=0
def tw5896812059919621955:=0
def tw14885212868813447546:=0
def tw13028018010418355949:=0
def tw2066423645689777708:=0
def tw9294988406254990444:=0
def tw15500150833302896639:=0
def tw2626315193632509344:=0
def tw7327293840559033239:=0
def tw9828090062347683955:=0
def tw14404479942078276649:=0
def tw14200286365587708760:=0
def tw5130910199978866761:=0
def tw12190507709153179149:=0
def tw4344870604927000960:=0
def tw4364537067500937170:=0
def tw10957768120545310653:=0
def tw10805758455218327772:=0
def tw13799626284275283860:=0
def tw10132041900639345793:=0
def tw150990072169040945:=0
def tw4432950362707556217:=0
def tw8985157827815815477:=0
def tw16080561402764488802:=0
def tw12274489675110132273:=0
def tw10233013324464161253:=0
def tw4513843704064988201:=0
def tw867015272698793551:=0
def tw16878188012194736777:=0
def tw5139715658703665610:=0
def tw9864154825674723872:=0
def tw14140714840890572198:=0
def tw11783047905464007891:=0
def tw2891803380798839688:=0
def tw11771118689803685593:=0
def tw8374337147833092497:=0
def tw5726893517361905244:=0
def tw5161820764000597222:=0
def tw17475970164349047855:=0
def tw122887704554246146:=0
def tw16596709420937589203:=0
def tw12250432869745756889:=0
def tw1549836945115628885:=0
def tw13577562631593011294:=0
def tw4037691281841081448:=0
def tw7282972665383131991:=0
def tw11978357218616366734:=0
def tw9280832653269180341:=0
def tw13681182767177803763:=0
def tw17042313331879619118:=0
def tw12745459381200032976:=0
def tw186368739086618542:=0
def tw9018004537780508119:=0
def tw13194466956887153732:=0
def tw2973894376342025082:=0
def tw6215013980575516199:=0
def tw16321541559652383295:=0
def tw83022093688931805:=0
def tw9235460800327898827:=0
def tw1330927061340530771:=0
def tw4188078587775359424:=0
def tw17851582154989323651:=0
def tw10299125510482530801:=0
def tw1228676700625828748:=0
def tw9407696938694210445:=0
def tw7786999196560172775:=0
def tw18432386939123161212:=0
def tw16116384391263088355:=0
def tw5409783739967612980:=0
def tw5807792838326820525:=0
def tw4063688902682861137:=0
def tw5321577748820214174:=0
def tw9898161011980382867:=0
def tw7230784409030757160:=0
def tw4322514707974781863:=0
def tw12528147571565160880:=0
def tw4872851796754555756:=0
def tw17416276394952674487:=0
def tw14113054356071407616:=0
def tw942223245630896839:=0
def tw2060275958477534378:=0
def tw17960238219035908551:=0
def tw16517688916315681146:=0
def tw4750324481780758899:=0
def tw1811396118149759876:=0
def tw16394215000948558791:=0
def tw8258299051604861614:=0
def tw12822101476349036707:=0
def tw14330620838981760764:=0
def tw11193517655292520429:=0
def tw17640026976605914518:=0
def tw18207013530714515349:=0
def tw17614409337170240456:=0
def tw12419304855605125581:=0
def tw13037273771566709287:=0
def tw7805266586641464607:=0
def tw18251125974680119010:=0
def tw5765231421237671289:=0
def tw13703685398290624872:=0
def tw8978334688595556788:=0
def tw15138921857428166923:=0
def tw6496713140348470857:=0
def tw8922736964159463716:=0
def tw10109050157164585325:=0
def tw7661233255236353031:=0
def tw69604683235321493:=0
def tw13385691263253702669:=0
def tw6097855143335387459:=0
def tw11579652534323922321:=0
def tw5595772011909278721:=0
def tw3276951229882438026:=0
def tw5490697366959410965:=0
def tw10146627820110589917:=0
def tw74897853790918748:=0
def tw8639689971786552971:=0
def tw11068783112878970179:=0
def tw5571348324380596869:=0
def tw17800235436797133975:=0
def tw11277815717743007205:=0
def tw8671574874180093036:=0
def tw11756707087045514367:=0
def tw17718132626465467632:=0
def tw2324334208324098430:=0
def tw389774441877130393:=0
def tw12708609466438909449:=0
def tw14025573600977098938:=0
def tw3080783079568429738:=0
def tw7113720035292011824:=0
def tw6941615878805037887:=0
def tw6071546328294307272:=0
def tw16869368568443493129:=0
def tw12741583674522229809:=0
def tw9747860718071458917:=0
def tw3935500832632375636:=0
def tw10328243638194301441:=0
def tw7848185287453521624:=0
def tw10865824151599114218:=0
def tw8022734974088333323:=0
def tw10155368445083899045:=0
def tw13263107487822324132:=0
def tw7402551936392545801:=0
def tw1505995465559873628:=0
def tw2781697603163648918:=0
def tw15234396275200082880:=0
def tw5993616201798746294:=0
def tw13853105924415795407:=0
def tw12086913502581859455:=0
def tw2386123921516194920:=0
def tw16958300563608986585:=0
def tw4936616052065682889:=0
def tw14015091944400533561:=0
def tw12611559855488141852:=0
def tw3246221330824579098:=0
def tw2414325968809003095:=0
def tw12573707265949856887:=0
def tw9907282980969081658:=0
def tw1712968318443016491:=0
def tw2310714197172228690:=0
def tw11499966350278211620:=0
def tw3060141826078513486:=0
def tw5358798671730296503:=0
def tw8195086096314879480:=0
def tw12797348357036858408:=0
def tw1630178250918438512:=0
def tw484404152636960235:=0
def tw6041049695908100090:=0
def tw9916842207322654545:=0
def tw13811295336603083946:=0
def tw10957190460094404512:=0
def tw14183567366463769149:=0
def tw3684684963135466373:=0
def tw5229319555351134475:=0
def tw5964469616262622442:=0
def tw3807686521056819657:=0
def tw1398754636581489699:=0
def tw17975875852619676764:=0
def tw14785745345211437522:=0
def tw12602354083148102347:=0
def tw4630307796855455578:=0
def tw14417462558646671648:=0
def tw7599425614821768328:=0
def tw2731909184295562383:=0
def tw8426349542901345337:=0
def tw12122916825122595605:=0
def tw1205432357056303342:=0
def tw16604088992243538483:=0
def tw720941778285026313:=0
def tw12681779531317262035:=0
def tw14863314394407220574:=0
def tw12497942606726358841:=0
def tw7493274991233810701:=0
def tw343748842960322433:=0
def tw9610302464863551467:=0
def tw9563925135497643828:=0
def tw6664337556261157523:=0
def tw2287603743375146955:=0
def tw14331572799753792143:=0
def tw11286177715941704056:=0
def tw6315365683194313131:=0
def tw1767151016675836931:=0
def tw10082741184742467514:=0
def tw7814641376978715153:=0
def tw4449366752575624561:=0
def tw7545598830417427346:=0
def tw14148351993022434365:=0
def tw14723978070013193266:=0
def tw8390999220116769954:=0
def tw18014036522198477783:=0
def tw16439071446903314541:=0
def tw4299133986917133357:=0
def tw12810995532439574517:=0
def tw11344674237104971722:=0
def tw2470956218861068672:=0
def tw7593398252890328002:=0
def tw7833383286740010581:=0
def tw1409441091573799676:=0
def tw338503909967431004:=0
def tw18156943597751194482:=0
def tw11582504810380425104:=0
def tw5864474815563708240:=0
def tw12750855344259638508:=0
def tw18436340049537420416:=0
def tw7464254833823365300:=0
def tw4407668406012348189:=0
def tw3921412366592156967:=0
def tw4770875086890974593:=0
def tw1439056938348383741:=0
def tw14589100150713898785:=0
def tw17798141838486747941:=0
def tw13504938972405340666:=0
def tw7915665805519090942:=0
def tw6183404176209133267:=0
def tw8777778981911489599:=0
def tw8714364835017179498:=0
def tw13441871730335681821:=0
def tw6109431969287612658:=0
def tw9722388864518930961:=0
def tw5489028718164555390:=0
def tw2635348398724282351:=0
def tw1867336397567339727:=0
def tw14718072316536199178:=0
def tw7655060103101861623:=0
def tw8532027822305693270:=0
def tw14375170275811597250:=0
def tw10317369348412923199:=0
def tw13711619199955937616:=0
def tw8732028032193541586:=0
def tw2283721698339334515:=0
def tw2354953066129165115:=0
def tw3170003405862372264:=0
def tw5078101108111675578:=0
def tw13954328608320072851:=0
def tw17780611939037529252:=0
def tw14598781691160088125:=0
def tw5619290133477623326:=0
def tw15227283259641440230:=0
def tw14675149671855751526:=0
def tw1901869337119765072:=0
def tw8589514741883321633:=0
def tw9850316395960792315:=0
def tw14648974788529673580:=0
def tw13413133589183841053:=0
def tw1287024304142474060:=0
def tw864721151486342069:=0
def tw14216637001964541167:=0
def tw10427317625461734965:=0
def tw11168582629181597509:=0
def tw7072144322769678492:=0
def tw4459975893774108809:=0
def tw18071428814616652284:=0
def tw5007644620996843541:=0
def tw13360836260529302576:=0
def tw12368307696198980732:=0
def tw11369321146033921122:=0
def tw1510216220576193066:=0
def tw9073373675915288033:=0
def tw6357795786752989609:=0
def tw8957942022114312952:=0
def tw1663354087832724873:=0
def tw9527253699886714743:=0
def tw13720073951988017594:=0
def tw14984515369849697414:=0
def tw9318356549722690363:=0
def tw10399507141484675826:=0
def tw9769660589279154272:=0
def tw12329238298429890685:=0
def tw2624227905465230514:=0
def tw6119384623126310800:=0
def tw8821827826495733206:=0
def tw8368506345770066071:=0
def tw6261698416796209777:=0
def tw5770618783874321610:=0
def tw2194737221683047757:=0
def tw15074740061974760007:=0
def tw18077363227709996351:=0
def tw2686091310669691303:=0
def tw1060152265980543137:=0
def tw13533106767267983783:=0
def tw17597694305096576990:=0
def tw16114629058568249645:=0
def tw8913479737707790306:=0
def tw17321440424730426901:=0
def tw7657056994292877320:=0
def tw17563436797756482812:=0
def tw4935649028572350132:=0
def tw3220516082258049751:=0
def tw15540596298629846259:=0
def tw15347563037601866988:=0
def tw9958703483078438961:=0
def tw4185343765665457116:=0
end PySem.W.Fast
namespace Hd
open PySem PySem.W PyProof.Rows
abbrev row : OpenSpec:=PySem.Challenge.rw_ridespark_s01_answers
abbrev prg : Program:=PySem.Challenge.pw_ridespark_s01_answers
def small : Program:={prg with main:={prg.main with body:=[prg.main.body.getD 99 (.Pass ⟨0,0,0,0⟩),prg.main.body.getD 173 (.Pass ⟨0,0,0,0⟩)]}}
def rest : List Str:=[("pairs_of":Str),("has_skill":Str),("people_with":Str),("longer_ways":Str),("all_ways":Str),("time_taken":Str),("best_way":Str),("MOST_BYTES":Str),("MOST_BYTE":Str),("MOST_PEOPLE":Str),("MOST_SKILLS":Str),("MOST_JOBS":Str),("MOST_JOB_MINUTES":Str),("MOST_SKILL":Str),("RANGES":Str),("CREW":Str),("ROWS":Str),("UnknownCall":Str),("Call":Str),("split_calls":Str),("are_within":Str),("is_text":Str),("are_skills":Str),("are_jobs":Str),("are_rows_in_range":Str),("is_in_range":Str),("wants_park":Str),("READING":Str),("RAN":Str),("CHECKED":Str),("LOCKED":Str),("UNLOCKED":Str),("FORCED":Str),("ORDERED":Str),("FINISHED":Str),("STAFFED":Str),("LEFT":Str),("CAME":Str),("Entry":Str),("NO_SUCH_LINE":Str),("WRONG_NAME":Str),("WRONG_NUMBER":Str),("TOO_MANY":Str),("MOST_SENSORS":Str),("MOST_RIDES":Str),("MOST_RULES":Str),("MOST_CHECKS":Str),("MOST_MINUTES":Str),("MOST_STAFF":Str),("MOST_LEVEL":Str),("MOST_SPAN":Str),("DIGITS":Str),("LETTERS":Str),("NAME":Str),("NUMBER":Str),("FORMS":Str),("Sensor":Str),("Ride":Str),("Rule":Str),("Check":Str),("Plan":Str),("Line":Str),("sign_of":Str),("is_name":Str),("is_number":Str),("word_fits":Str),("words_fit":Str),("split_line":Str),("number_of":Str),("add_sensor":Str),("add_ride":Str),("levels_are_wrong":Str),("add_rule":Str),("has_check":Str),("add_check":Str),("ADDERS":Str),("add_line":Str),("read_plan":Str),("has_ride":Str),("plan_sizes":Str),("one_form":Str),("DAY":Str),("last_made":Str),("rounds_run":Str),("check_left":Str),("locks_on":Str),("rides_of_orders":Str),("is_finished":Str),("orders_waiting":Str),("staff_of":Str),("is_gone":Str),("NEVER":Str),("Walked":Str),("is_bad":Str),("is_fine":Str),("walk_rule":Str),("is_stale":Str),("SENSOR_STALE":Str),("RULE_SHUT":Str),("CHECK_DUE":Str),("LOCK_ON":Str),("ORDER_WAITS":Str),("STAFF_SHORT":Str),("rule_reasons":Str),("check_reasons":Str),("staff_reasons":Str),("reasons_against":Str),("OUT_OF_RANGE":Str),("NO_PARK":Str),("PARK_TOLD":Str),("ENTRIES_FULL":Str),("NO_RIDE":Str),("NO_SENSOR":Str),("NO_CHECK":Str),("TO_COME":Str),("MAY_NOT_RUN":Str),("TOO_MANY_ROUNDS":Str),("NOT_HERE_OR_HERE":Str),("LOCK_ON_OR_OFF":Str),("TEXT_WRONG":Str),("NOT_TWO_OTHERS":Str),("NO_ORDER":Str),("NO_ENTRY":Str),("FINISHED_ALREADY":Str),("NO_RULE":Str),("NO_WAY":Str),("FIRST_QUESTION":Str),("reasons_told":Str),("list_told":Str),("answer_why":Str),("answer_whythen":Str),("answer_rule":Str),("answer_due":Str),("answer_locks":Str),("answer_orders":Str),("answer_openrides":Str),("answer_crew":Str),("answer_entry":Str),("answer_state":Str),("ANSWERERS":Str),("answer_question":Str),("MOST_ENTRIES":Str),("LAST_MINUTE":Str),("Park":Str),("write_entry":Str),("has_lock":Str),("tell_park":Str),("check_text":Str),("show_park":Str),("pass_minutes":Str),("take_reading":Str),("checks_let":Str),("run_ride":Str),("make_check":Str),("put_lock_on":Str),("take_lock_off":Str),("force_lock_off":Str),("order_work":Str),("finish_order":Str),("tell_staff":Str),("leave_or_come":Str),("HANDLERS":Str),("answer_call":Str)]
set_option maxHeartbeats 0
abbrev KOf {K:zF}{h:Heap}(_:K.In h):zF:=K
theorem s1 : sreFenced prg.main=true:=by decide +kernel
theorem s2 : ((moduleNames prg.main.body).isEmpty||lookedIntoSs (moduleNames prg.main.body) prg.main.body)=true:=by decide +kernel
theorem s3 : namesResolve prg=true:=by decide +kernel
theorem s4 : prg.boundNames.all (fun n=>!worldNames.contains n)=true:=by decide +kernel
theorem s7 : (row.prog.boundNames.contains row.name && !startupNames.contains row.name&&specDef row.prog row.name row.args.length&&row.args.all Codec.fits&&row.ret.ok)=true:=by decide +kernel
theorem s5 : looksOpen prg=true:=by
 unfold looksOpen;rw [s1,s2,s3,s4]
 decide +kernel
theorem said : row.wellSaid=true:=by
 have e:row.wellSaid=(looksOpen prg&&(row.prog.boundNames.contains row.name && !startupNames.contains row.name&&specDef row.prog row.name row.args.length&&row.args.all Codec.fits&&row.ret.ok)):=by
  unfold OpenSpec.wellSaid;simp only [Bool.and_assoc];rfl
 rw [e,s5,s7];rfl
theorem ow : opensWell prg=true:=by decide +kernel
theorem ch : chainsOk small=true:=by decide +kernel
theorem PySem.W.holds_os {q:Program}{loose:List Str}{Xt:Shared→Bool}{XP:(Str→Option Value)→Heap→Prop}{α:Type}{Yf:Shared→α}{Ya:World→α}{YP:World→Heap→Prop}{d:DefRec}{kwd:List (Str×Expr)}{N:Nat}
  (left:LeftO row.prog small rest (fun s=>recOk [] s) Yf Ya N) (hY:∀ w s,Yf s=Ya w→YP w s.heap) (hYk:∀ w h h',YP w h→(∀ b o,h.get? b=some o→h'.get? b=some o)→YP w h')
  (hX:∀ s,Xt s=true→XP (s.heap.nsMap mainGlobals) s.heap) (hXk:∀ mg h h',XP mg h→(∀ b o,h.get? b=some o→h'.get? b=some o)→XP mg h')
  (hdef:defOf small row.name=some (d,kwd)) (hp:row.prog.theDef row.name=some (d.params,d.body,d.scope)) (hk:kwWritten? d.params.kwonlyargs d.params.kw_defaults=some kwd) (hRf:∀ s,Xt s=true→RecFacts [] s.heap) (hsh:∀ as,row.pre as=true→WShape.hasAll [] as (row.args.map Codec.shape)=true)
  (k1:row.wellSaid=true) (ok:chainsOk small=true) (hb:row.prog.bare) (hw:∃ args,row.pre args=true∧WData.layableAll args=true)
  (call:WalkOS small rest (fun _ _=>True) YP row d kwd fun f vs=>PySem.call f vs):row.Holds :=
 _root_.PySem.W.holds_os (q:=small) (loose:=rest) (Xt:=fun s=>recOk [] s) (XP:=fun _ _=>True) left hY hYk (fun _ _=>trivial) (fun _ _ _ _ _=>trivial) hdef hp hk (fun s e=>recFacts_of e) hsh k1 (by rw [ok];exact ow) hb hw call
theorem rec99 : ∃ d∈recsOf small,d.name="readings_of":=by
 have h:((recsOf small).any fun d=>d.name=="readings_of")=true:=by decide +kernel
 obtain ⟨d,h1,h2⟩:=List.any_eq_true.mp h
 exact ⟨d,h1,eq_of_beq h2⟩
open My
local macro_rules | `(tactic| walk_at "df")=>`(tactic| (refine' x_def ?X ?G ?e ?l ?c ?k ?b;(case X=>assumption);(case G=>assumption);(case e=>k_is);(case l=>k_is);(case c=>k_is);(case k=>k_is);(case b=>first | (exact fun _ _ _ _ _ _ _ _=>rfl) | (exact fun _ _ _ _ _ _ _=>rfl) | (exact fun _ _ _ _ _ _ _ _ _ _=>rfl) | (exact fun _ _ _ _ _ _ _ _ _=>rfl) | (exact fun _ _ _ _ _ _ _ _ _ _ _ _ _=>rfl) | (exact fun _ _ _ _ _ _ _ _ _ _ _ _=>rfl) | (exact fun _ _ _ _ _ _ _ _ _ _ _=>rfl))))
local macro_rules | `(tactic| walk_at "cl")=>`(tactic| (refine' x_cls ?X ?G ?e ?g ?l ?c ?k ?m1 ?m3 ?m4 ?c1 ?c2 ?c3 ?c4 ?n ?b;(case X=>assumption);(case G=>assumption);(case e=>k_is);(case g=>k_is);(case l=>k_is);(case c=>k_is);(case k=>k_is);(case m1=>k_is);(case m3=>k_is);(case m4=>k_is);(case c1=>k_is);(case c2=>k_is);(case c3=>k_is);(case c4=>k_is);(case n=>first | (exact ⟨by k_is,by k_is,by k_is,trivial⟩) | (exact ⟨by k_is,by k_is,by k_is,by k_is,by k_is,by k_is,trivial⟩) | (exact ⟨by k_is,by k_is,by k_is,by k_is,by k_is,by k_is,by k_is,trivial⟩) | (exact ⟨by k_is,by k_is,by k_is,by k_is,by k_is,trivial⟩) | (exact ⟨by k_is,by k_is,by k_is,by k_is,trivial⟩) | (exact ⟨by k_is,by k_is,trivial⟩));(case b=>first | (exact fun _ _ _ _ _ _ _ _=>rfl) | (exact fun _ _ _ _ _ _ _=>rfl) | (exact fun _ _ _ _ _ _ _ _ _ _=>rfl) | (exact fun _ _ _ _ _ _ _ _ _=>rfl) | (exact fun _ _ _ _ _ _ _ _ _ _ _ _ _=>rfl) | (exact fun _ _ _ _ _ _ _ _ _ _ _ _=>rfl) | (exact fun _ _ _ _ _ _ _ _ _ _ _=>rfl))))
theorem final : PySem.Challenge.rw_ridespark_s01_answers.Holds:=by
 have k1:row.wellSaid=true:=said
 w_on;k_headS;(case hw=>exact ⟨[.list [.int 23]],by decide +kernel,by decide +kernel⟩)
 k_fillS
 refine My.walk_my said rfl ?_
 intro w s0 s1 mg mb G Y
 have KX:=PySem.W.kIn_of Y
 have TG:=G.T.g
 have B:PySem.W.CodeHd s1.heap 551 547∧s1.heap.get? 547=some (PySem.W.tabObj #[])∧My.TabTxt (final.heap_1 w.params) mg 547:=by
  refine' x_tab KX G.T rec99 ?e ?l ?h ?c ?a1 ?a2 ?a3 ?a4 ?a5 ?a6 ?n
  (case e=>k_is)
  (case l=>k_is)
  (case h=>exact rfl)
  (case c=>k_is)
  (case a1=>exact rfl)
  (case a2=>exact rfl)
  (case a3=>exact rfl)
  (case a4=>exact rfl)
  (case a5=>exact rfl)
  (case a6=>exact rfl)
  (case n=>decide)
 refine ⟨final.heap_1 w.params,547,551,KX,rfl,B.1,B.2.1,?_,B.2.2⟩
 constructor
 case x_RANGES=>exact ⟨117,[58,59,60,62,66,69,72,75,78,83,85,88,91,94,96,100,104,106,108,110,112,113,115,116],mg_of KX TG (by k_is),yP (by k_is) rfl (.cons rfl (.cons rfl (.cons rfl (.cons rfl (.cons rfl (.cons rfl (.cons rfl (.cons rfl (.cons rfl (.cons rfl (.cons rfl (.cons rfl (.cons rfl (.cons rfl (.cons rfl (.cons rfl (.cons rfl (.cons rfl (.cons rfl (.cons rfl (.cons rfl (.cons rfl (.cons rfl (.cons rfl (.nil))))))))))))))))))))))))),.cons ⟨[],yP (by k_is) rfl (.nil),.nil⟩ (.cons ⟨[],yP (by k_is) rfl (.nil),.nil⟩ (.cons ⟨[],yP (by k_is) rfl (.nil),.nil⟩ (.cons ⟨[61],yP (by k_is) rfl (.cons rfl (.nil)),.cons (yP (by k_is) rfl (.cons ⟨_,rfl⟩ (.cons ⟨_,rfl⟩ .nil))) (.nil)⟩ (.cons ⟨[63,64,65],yP (by k_is) rfl (.cons rfl (.cons rfl (.cons rfl (.nil)))),.cons (yP (by k_is) rfl (.cons ⟨_,rfl⟩ (.cons ⟨_,rfl⟩ .nil))) (.cons (yP (by k_is) rfl (.cons ⟨_,rfl⟩ (.cons ⟨_,rfl⟩ .nil))) (.cons (yP (by k_is) rfl (.cons ⟨_,rfl⟩ (.cons ⟨_,rfl⟩ .nil))) (.nil)))⟩ (.cons ⟨[67,68],yP (by k_is) rfl (.cons rfl (.cons rfl (.nil))),.cons (yP (by k_is) rfl (.cons ⟨_,rfl⟩ (.cons ⟨_,rfl⟩ .nil))) (.cons (yP (by k_is) rfl (.cons ⟨_,rfl⟩ (.cons ⟨_,rfl⟩ .nil))) (.nil))⟩ (.cons ⟨[70,71],yP (by k_is) rfl (.cons rfl (.cons rfl (.nil))),.cons (yP (by k_is) rfl (.cons ⟨_,rfl⟩ (.cons ⟨_,rfl⟩ .nil))) (.cons (yP (by k_is) rfl (.cons ⟨_,rfl⟩ (.cons ⟨_,rfl⟩ .nil))) (.nil))⟩ (.cons ⟨[73,74],yP (by k_is) rfl (.cons rfl (.cons rfl (.nil))),.cons (yP (by k_is) rfl (.cons ⟨_,rfl⟩ (.cons ⟨_,rfl⟩ .nil))) (.cons (yP (by k_is) rfl (.cons ⟨_,rfl⟩ (.cons ⟨_,rfl⟩ .nil))) (.nil))⟩ (.cons ⟨[76,77],yP (by k_is) rfl (.cons rfl (.cons rfl (.nil))),.cons (yP (by k_is) rfl (.cons ⟨_,rfl⟩ (.cons ⟨_,rfl⟩ .nil))) (.cons (yP (by k_is) rfl (.cons ⟨_,rfl⟩ (.cons ⟨_,rfl⟩ .nil))) (.nil))⟩ (.cons ⟨[79,80,81,82],yP (by k_is) rfl (.cons rfl (.cons rfl (.cons rfl (.cons rfl (.nil))))),.cons (yP (by k_is) rfl (.cons ⟨_,rfl⟩ (.cons ⟨_,rfl⟩ .nil))) (.cons (yP (by k_is) rfl (.cons ⟨_,rfl⟩ (.cons ⟨_,rfl⟩ .nil))) (.cons (yP (by k_is) rfl (.cons ⟨_,rfl⟩ (.cons ⟨_,rfl⟩ .nil))) (.cons (yP (by k_is) rfl (.cons ⟨_,rfl⟩ (.cons ⟨_,rfl⟩ .nil))) (.nil))))⟩ (.cons ⟨[84],yP (by k_is) rfl (.cons rfl (.nil)),.cons (yP (by k_is) rfl (.cons ⟨_,rfl⟩ (.cons ⟨_,rfl⟩ .nil))) (.nil)⟩ (.cons ⟨[86,87],yP (by k_is) rfl (.cons rfl (.cons rfl (.nil))),.cons (yP (by k_is) rfl (.cons ⟨_,rfl⟩ (.cons ⟨_,rfl⟩ .nil))) (.cons (yP (by k_is) rfl (.cons ⟨_,rfl⟩ (.cons ⟨_,rfl⟩ .nil))) (.nil))⟩ (.cons ⟨[89,90],yP (by k_is) rfl (.cons rfl (.cons rfl (.nil))),.cons (yP (by k_is) rfl (.cons ⟨_,rfl⟩ (.cons ⟨_,rfl⟩ .nil))) (.cons (yP (by k_is) rfl (.cons ⟨_,rfl⟩ (.cons ⟨_,rfl⟩ .nil))) (.nil))⟩ (.cons ⟨[92,93],yP (by k_is) rfl (.cons rfl (.cons rfl (.nil))),.cons (yP (by k_is) rfl (.cons ⟨_,rfl⟩ (.cons ⟨_,rfl⟩ .nil))) (.cons (yP (by k_is) rfl (.cons ⟨_,rfl⟩ (.cons ⟨_,rfl⟩ .nil))) (.nil))⟩ (.cons ⟨[95],yP (by k_is) rfl (.cons rfl (.nil)),.cons (yP (by k_is) rfl (.cons ⟨_,rfl⟩ (.cons ⟨_,rfl⟩ .nil))) (.nil)⟩ (.cons ⟨[97,98,99],yP (by k_is) rfl (.cons rfl (.cons rfl (.cons rfl (.nil)))),.cons (yP (by k_is) rfl (.cons ⟨_,rfl⟩ (.cons ⟨_,rfl⟩ .nil))) (.cons (yP (by k_is) rfl (.cons ⟨_,rfl⟩ (.cons ⟨_,rfl⟩ .nil))) (.cons (yP (by k_is) rfl (.cons ⟨_,rfl⟩ (.cons ⟨_,rfl⟩ .nil))) (.nil)))⟩ (.cons ⟨[101,102,103],yP (by k_is) rfl (.cons rfl (.cons rfl (.cons rfl (.nil)))),.cons (yP (by k_is) rfl (.cons ⟨_,rfl⟩ (.cons ⟨_,rfl⟩ .nil))) (.cons (yP (by k_is) rfl (.cons ⟨_,rfl⟩ (.cons ⟨_,rfl⟩ .nil))) (.cons (yP (by k_is) rfl (.cons ⟨_,rfl⟩ (.cons ⟨_,rfl⟩ .nil))) (.nil)))⟩ (.cons ⟨[105],yP (by k_is) rfl (.cons rfl (.nil)),.cons (yP (by k_is) rfl (.cons ⟨_,rfl⟩ (.cons ⟨_,rfl⟩ .nil))) (.nil)⟩ (.cons ⟨[107],yP (by k_is) rfl (.cons rfl (.nil)),.cons (yP (by k_is) rfl (.cons ⟨_,rfl⟩ (.cons ⟨_,rfl⟩ .nil))) (.nil)⟩ (.cons ⟨[109],yP (by k_is) rfl (.cons rfl (.nil)),.cons (yP (by k_is) rfl (.cons ⟨_,rfl⟩ (.cons ⟨_,rfl⟩ .nil))) (.nil)⟩ (.cons ⟨[111],yP (by k_is) rfl (.cons rfl (.nil)),.cons (yP (by k_is) rfl (.cons ⟨_,rfl⟩ (.cons ⟨_,rfl⟩ .nil))) (.nil)⟩ (.cons ⟨[],yP (by k_is) rfl (.nil),.nil⟩ (.cons ⟨[114],yP (by k_is) rfl (.cons rfl (.nil)),.cons (yP (by k_is) rfl (.cons ⟨_,rfl⟩ (.cons ⟨_,rfl⟩ .nil))) (.nil)⟩ (.cons ⟨[],yP (by k_is) rfl (.nil),.nil⟩ (.nil))))))))))))))))))))))))⟩
 case x_ROWS=>(refine' ⟨118,mg_of KX TG (by k_is),x_kd ?e ?k (by decide) rfl⟩;(case e=>k_is);(case k=>exact .cons rfl rfl ⟨_,rfl⟩ (.cons rfl rfl ⟨_,rfl⟩ (.cons rfl rfl ⟨_,rfl⟩ (.nil)))))
 case x_FORMS=>exact ⟨224,mg_of KX TG (by k_is),yP (by k_is) rfl (.cons ⟨_,rfl⟩ (.cons ⟨_,rfl⟩ (.cons ⟨_,rfl⟩ (.cons ⟨_,rfl⟩ (.cons ⟨_,rfl⟩ (.cons ⟨_,rfl⟩ (.nil)))))))⟩
 case x_ADDERS=>(refine' ⟨436,402,409,423,435,mg_of KX TG (by k_is),x_kd ?e ?k (by decide) rfl,mg_of KX TG (by k_is),mg_of KX TG (by k_is),mg_of KX TG (by k_is),mg_of KX TG (by k_is)⟩;(case e=>k_is);(case k=>exact .cons rfl rfl rfl (.cons rfl rfl rfl (.cons rfl rfl rfl (.cons rfl rfl rfl (.nil))))))
 case x_HANDLERS=>exact ⟨840,[741,748,755,762,769,783,790,797,804,811,818,825,832,839],mg_of KX TG (by k_is),yP (by k_is) rfl (.cons rfl (.cons rfl (.cons rfl (.cons rfl (.cons rfl (.cons rfl (.cons rfl (.cons rfl (.cons rfl (.cons rfl (.cons rfl (.cons rfl (.cons rfl (.cons rfl (.nil))))))))))))))),.cons (mg_of KX TG (by k_is)) (.cons (mg_of KX TG (by k_is)) (.cons (mg_of KX TG (by k_is)) (.cons (mg_of KX TG (by k_is)) (.cons (mg_of KX TG (by k_is)) (.cons (mg_of KX TG (by k_is)) (.cons (mg_of KX TG (by k_is)) (.cons (mg_of KX TG (by k_is)) (.cons (mg_of KX TG (by k_is)) (.cons (mg_of KX TG (by k_is)) (.cons (mg_of KX TG (by k_is)) (.cons (mg_of KX TG (by k_is)) (.cons (mg_of KX TG (by k_is)) (.cons (mg_of KX TG (by k_is)) (.nil))))))))))))))⟩
 case x_ANSWERERS=>exact ⟨691,[627,634,641,648,655,662,669,676,683,690],mg_of KX TG (by k_is),yP (by k_is) rfl (.cons rfl (.cons rfl (.cons rfl (.cons rfl (.cons rfl (.cons rfl (.cons rfl (.cons rfl (.cons rfl (.cons rfl (.nil))))))))))),.cons (mg_of KX TG (by k_is)) (.cons (mg_of KX TG (by k_is)) (.cons (mg_of KX TG (by k_is)) (.cons (mg_of KX TG (by k_is)) (.cons (mg_of KX TG (by k_is)) (.cons (mg_of KX TG (by k_is)) (.cons (mg_of KX TG (by k_is)) (.cons (mg_of KX TG (by k_is)) (.cons (mg_of KX TG (by k_is)) (.cons (mg_of KX TG (by k_is)) (.nil))))))))))⟩
 case d_write_entry=>(refine' x_wr KX TG ?e ?l ?t ?c ?k;(case e=>k_is);(case l=>k_is);(case t=>k_is);(case c=>k_is);(case k=>k_is))
 all_goals first | (refine' x_gi KX TG ?e;(case e=>k_is);done) | (refine' x_gs KX TG ?e;(case e=>k_is);done) | (refine' mg_none_of KX TG ?e;(case e=>k_is);done) | walk_at "df" | walk_at "cl"
end Hd
set_option maxRecDepth 100000 in
set_option maxHeartbeats 0 in
theorem PySem.Challenge.cw_ridespark_s01_answers_holds : PySem.Challenge.rw_ridespark_s01_answers.Holds :=
 Hd.final
