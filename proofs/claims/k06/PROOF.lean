import PyProof.Rows.All
import Wide.All
import OpenK.AllK
import Wide.FinOn
import Lean
import PyProof.EqAt
import PyProof.EqKinds
import PyProof.TupleCall
import PySem.Challenge.RW_closering_k06_webs
set_option Elab.async false
set_option linter.all false
set_option maxRecDepth 100000
noncomputable section
set_option maxHeartbeats 0
theorem ω {p:Prop}(h:p:=by omega):p:=h
theorem ϑ {p:Prop}(h:p:=by decide):p:=h
theorem ϰ {p:Prop}(h:p:=by decide +kernel):p:=h
theorem ϱ {p:Prop}(h:p:=by rfl):p:=h
theorem ς {p:Prop}(h:p:=by simp):p:=h
section
namespace MI
open PySem (Str)
inductive D where
 | non | bl (b:Bool) | int (i:Int) | str (x:Str) | tup (ds:List D) | obj (n:Nat)
deriving Inhabited
mutual
noncomputable def D.eq:D->D->Bool
 | .non,.non=>true
 | .bl a,.bl b=>a == b
 | .int a,.int b=>a == b
 | .str a,.str b=>decide (a=b)
 | .tup a,.tup b=>eqs a b
 | .obj a,.obj b=>a == b
 | _,_=>false
noncomputable def eqs:List D->List D->Bool
 | [],[]=>true
 | a :: r,b :: q=>D.eq a b && eqs r q
 | _,_=>false
end
mutual
theorem D.eq_iff:∀ a b:D,D.eq a b=true↔a=b
 | .non,b=>by cases b <;> simp [D.eq]
 | .bl a,b=>by cases b <;> simp [D.eq]
 | .int a,b=>by cases b <;> simp [D.eq]
 | .str a,b=>by cases b <;> simp [D.eq]
 | .obj a,b=>by cases b <;> simp [D.eq]
 | .tup a,b=>by
   cases b with
   | tup b=>simp [D.eq,zle a b]
   | _=>simp [D.eq]
theorem zle:∀ a b:List D,eqs a b=true↔a=b
 | [],b=>by cases b <;> simp [eqs]
 | x :: r,b=>by
   cases b with
   | nil=>simp [eqs]
   | cons y q=>simp [eqs,D.eq_iff x y,zle r q]
end
instance:DecidableEq D:=fun a b=>decidable_of_iff _ (D.eq_iff a b)
mutual
noncomputable def D.nr:D->Bool
 | .obj _=>false
 | .tup ds=>nrs ds
 | _=>true
noncomputable def nrs:List D->Bool
 | []=>true
 | d :: r=>d.nr && nrs r
end
inductive O where
 | lst (xs:List D) | scr (xs:List D) | dic (kvs:List (Int×D)) | hole | set (xs:List Int) | ins (c:Nat) (fs:List (Nat×D))
deriving Inhabited,DecidableEq
noncomputable def O.flat:O->Bool
 | .lst xs=>nrs xs
 | .scr _=>false
 | .dic kvs=>nrs (kvs.map (·.2))
 | .hole=>false
 | .set _=>true
 | .ins _ _=>false
noncomputable abbrev zD:=List (Option D)
noncomputable abbrev MH:=List O
inductive R (α:Type) where
 | ok (a:α) (h:MH) | ex (c:Nat) (h:MH) | bad
noncomputable abbrev ME (α:Type):=zD->MH->R α
inductive RS where
 | nx (e:zD) (h:MH) | rt (v:D) (h:MH) | bk (e:zD) (h:MH) | ct (e:zD) (h:MH) | ex (c:Nat) (h:MH) | bad
noncomputable abbrev MS:=zD->MH->RS
noncomputable abbrev MF:=List D->MH->R D
section
variable {α β:Type}
noncomputable def zb (a:α):ME α:=fun _ h=> .ok a h
noncomputable def zK:ME α:=fun _ _=> .bad
noncomputable def zm (m:ME α) (k:α->ME β):ME β:=fun e h=>match m e h with
 | .ok a h1=>k a e h1
 | .ex c h1=> .ex c h1
 | .bad=> .bad
end
noncomputable def var (i:Nat):ME D:=fun e h=>match e[i]? with
 | some (some d)=> .ok d h
 | _=> .bad
noncomputable def un (f:D->ME D) (a:ME D):ME D:=zm a f
noncomputable def bin (f:D->D->ME D) (a b:ME D):ME D:=zm a fun x=>zm b fun y=>f x y
noncomputable def zgg (o:O):ME D:=fun _ h=> .ok (.obj h.length) (h++[o])
noncomputable def O.items:O->Option (List D)
 | .lst xs=>some xs
 | .scr xs=>some xs
 | _=>none
noncomputable def zcJ (n:Nat):ME (List D):=fun _ h=>match h[n]? with
 | some (.lst xs)=> .ok xs h
 | _=> .bad
noncomputable def zbi:D->ME D
 | .int i=>zb (.int (-i))
 | _=>zK
noncomputable def zE:D->D->ME D
 | .int i,.int j=>zb (.int (i+j))
 | _,_=>zK
noncomputable def z3:D->D->ME D
 | .int i,.int j=>zb (.int (i - j))
 | _,_=>zK
noncomputable def zbR (i:Int):Bool:=decide (-18446744073709551616 < i) && decide (i < 18446744073709551616)
noncomputable def zbr:D->D->ME D
 | .int i,.int j=>if zbR i || zbR j then zb (.int (i * j)) else zK
 | _,_=>zK
noncomputable def zcH:D->D->ME D
 | .int i,.int j=>if 0 < j∧j < 1073741824 then zb (.int (i / j)) else zK
 | _,_=>zK
noncomputable def zbj:D->D->ME D
 | .int i,.int j=>if 0 < j then zb (.int (i % j)) else zK
 | _,_=>zK
noncomputable def zgD (p:Int->Int->Bool):D->D->ME D
 | .int i,.int j=>zb (.bl (p i j))
 | _,_=>zK
noncomputable def ltV:=zgD fun i j=>decide (i < j)
noncomputable def leV:=zgD fun i j=>decide (i<=j)
noncomputable def gtV:=zgD fun i j=>decide (j < i)
noncomputable def geV:=zgD fun i j=>decide (j<=i)
mutual
noncomputable def peq:D->D->Bool
 | .non,.non=>true
 | .bl a,.bl b=>a == b
 | .bl a,.int b=>(if a then 1 else 0) == b
 | .int a,.bl b=>a == (if b then 1 else 0)
 | .int a,.int b=>a == b
 | .str a,.str b=>a == b
 | .tup a,.tup b=>zbZ a b
 | _,_=>false
noncomputable def zbZ:List D->List D->Bool
 | [],[]=>true
 | a :: r,b :: q=>peq a b && zbZ r q
 | _,_=>false
end
noncomputable def D.pl:Nat->D->Bool
 | _,.obj _=>false
 | 0,.tup _=>false
 | n+1,.tup ds=>ds.all (D.pl n)
 | _,_=>true
inductive Cmp where
 | d (x:D) | l (xs:List D)
noncomputable def zbP (h:MH):D->Option Cmp
 | .obj n=>match h[n]? with
   | some (.lst xs)=>if xs.all (D.pl 5) then some (.l xs) else none
   | _=>none
 | x=>if x.pl 5 then some (.d x) else none
noncomputable def Cmp.eq:Cmp->Cmp->Bool
 | .d x,.d y=>peq x y
 | .l x,.l y=>zbZ x y
 | _,_=>false
noncomputable def eqV (x y:D):ME D:=fun _ h=>match zbP h x,zbP h y with
 | some a,some b=> .ok (.bl (a.eq b)) h
 | _,_=> .bad
noncomputable def neV (x y:D):ME D:=fun _ h=>match zbP h x,zbP h y with
 | some a,some b=> .ok (.bl (!a.eq b)) h
 | _,_=> .bad
noncomputable def zbk:D->Bool
 | .non=>true
 | .bl _=>true
 | .int _=>true
 | .str _=>true
 | _=>false
noncomputable def look (k:Int):List (Int×D)->Option D
 | []=>none
 | p :: r=>if p.1=k then some p.2 else look k r
noncomputable def zdZ (k:Int) (v:D) (kvs:List (Int×D)):List (Int×D) :=
 if (kvs.any fun p=>decide (p.1=k))=true then kvs.map (fun p=>if p.1=k then (p.1,v) else p) else kvs++[(k,v)]
noncomputable def inB (x:D) (xs:List D):Bool:=xs.any fun y=>peq y x
noncomputable def inV (x y:D):ME D:=fun _ h=>match y with
 | .tup ds=>if zbk x && ds.all zbk then .ok (.bl (inB x ds)) h else .bad
 | .obj n=>match h[n]? with
   | some (.lst xs)=>if zbk x && xs.all zbk then .ok (.bl (inB x xs)) h else .bad
   | some (.scr xs)=>if zbk x && xs.all zbk then .ok (.bl (inB x xs)) h else .bad
   | some (.dic kvs)=>match x with
     | .int k=> .ok (.bl (look k kvs).isSome) h
     | _=> .bad
   | _=> .bad
 | _=> .bad
noncomputable def zcb (x y:D):ME D:=zm (inV x y) fun b=>match b with
 | .bl b=>zb (.bl !b)
 | _=>zK
noncomputable def isN:D->D->ME D
 | x,.non=>zb (.bl (decide (x = .non)))
 | .bl a,.bl b=>zb (.bl (a == b))
 | _,_=>zK
noncomputable def zdC (x y:D):ME D:=zm (isN x y) fun b=>match b with
 | .bl b=>zb (.bl !b)
 | _=>zK
noncomputable def zjV:D->ME D
 | .bl b=>zb (.bl !b)
 | _=>zK
noncomputable def zcW (a b:ME D):ME D:=zm a fun x=>match x with
 | .bl true=>b
 | .bl false=>zb (.bl false)
 | _=>zK
noncomputable def orV (a b:ME D):ME D:=zm a fun x=>match x with
 | .bl true=>zb (.bl true)
 | .bl false=>b
 | _=>zK
noncomputable def zdW (f g:D->D->ME D) (a b c:ME D):ME D:=zm a fun x=>zm b fun y=>zm (f x y) fun t=>match t with
 | .bl true=>zm c fun z=>g y z
 | .bl false=>zb (.bl false)
 | _=>zK
noncomputable def tst (m:ME D):ME Bool:=zm m fun x=>match x with
 | .bl b=>zb b
 | _=>zK
noncomputable def zew (x:D):ME Bool:=fun _ h=>match x with
 | .non=> .ok false h
 | .bl b=> .ok b h
 | .int i=> .ok (i != 0) h
 | .tup ds=> .ok (!ds.isEmpty) h
 | .obj n=>match h[n]? with
   | some (.lst xs)=> .ok (!xs.isEmpty) h
   | some (.scr xs)=> .ok (!xs.isEmpty) h
   | some (.dic kvs)=> .ok (!kvs.isEmpty) h
   | _=> .bad
 | _=> .bad
noncomputable def tru (m:ME D):ME Bool:=zm m zew
noncomputable def zbp (a b:ME Bool):ME Bool:=zm a fun c=>if c=true then b else zb false
noncomputable def orT (a b:ME Bool):ME Bool:=zm a fun c=>if c=true then zb true else b
noncomputable def zbn (a:ME Bool):ME Bool:=zm a fun c=>zb !c
noncomputable def ifE (t:ME Bool) (a b:ME D):ME D:=zm t fun c=>if c=true then a else b
noncomputable def ze:ME (List D):=zb []
noncomputable def za (a:ME D) (r:ME (List D)):ME (List D):=zm a fun x=>zm r fun xs=>zb (x :: xs)
noncomputable def zG (r:ME (List D)):ME D:=zm r fun xs=>if xs.length<=1000 then zb (.tup xs) else zK
noncomputable def zbq (r:ME (List D)):ME (List D):=zm r fun xs=>if xs.length<=1000 then zb xs else zK
noncomputable def zF (r:ME (List D)):ME D:=zm r fun xs=>zgg (.lst xs)
noncomputable def zbS (a:ME D):ME (List D):=zm a fun x=>match x with
 | .obj n=>zcJ n
 | _=>zK
noncomputable def zbs (a:ME D):ME (List D):=zm a fun x=>fun _ h=>match x with
 | .obj n=>(match h[n]? with
   | some (.lst xs)=> .ok xs h
   | some (.scr xs)=> .ok xs h
   | _=> .bad)
 | .tup ds=> .ok ds h
 | _=> .bad
noncomputable def ixN (n:Nat) (i:Int):Option Nat:=if 0<=i then (if i < n then some i.toNat else none) else if -(n:Int)<=i then some (i+n).toNat else none
noncomputable def atI {α:Type} (xs:List α) (i:Int):Option α:=(ixN xs.length i).bind fun j=>xs[j]?
noncomputable def zf (x i:D):ME D:=fun _ h=>match x,i with
 | .tup ds,.int i=>match atI ds i with
   | some d=> .ok d h
   | none=> .bad
 | .obj n,.int i=>match h[n]? with
   | some (.lst xs)=>(match atI xs i with
     | some d=> .ok d h
     | none=> .bad)
   | some (.scr xs)=>(match atI xs i with
     | some d=> .ok d h
     | none=> .bad)
   | some (.dic kvs)=>(match look i kvs with
     | some d=> .ok d h
     | none=> .bad)
   | _=> .bad
 | _,_=> .bad
noncomputable def sIx (n d:Nat):Option Int->Nat
 | none=>d
 | some v=>(if v < 0 then max (v+n) 0 else min v n).toNat
noncomputable def cut {α:Type} (xs:List α) (lo hi:Option Int):List α:=(xs.drop (sIx xs.length 0 lo)).take (sIx xs.length xs.length hi - sIx xs.length 0 lo)
noncomputable def noP:ME (Option Int):=zb none
noncomputable def zbz (a:ME D):ME (Option Int):=zm a fun x=>match x with
 | .int i=>zb (some i)
 | _=>zK
noncomputable def zca (a:ME D) (lo hi:ME (Option Int)):ME (List D):=zm a fun x=>zm lo fun l=>zm hi fun u=>match x with
 | .obj n=>zm (zcJ n) fun xs=>zb (cut xs l u)
 | _=>zK
noncomputable def zd4 (a:ME D) (lo hi:ME (Option Int)):ME D:=zm a fun x=>zm lo fun l=>zm hi fun u=>match x with
 | .tup ds=>if (cut ds l u).length < ds.length then zb (.tup (cut ds l u)) else zK
 | _=>zK
noncomputable def zhe (a:ME D):ME D:=zm a fun x=>match x with
 | .tup [p,q,_]=>zb (.tup [q,p])
 | _=>zK
noncomputable def zcI:List D->Option (List Bool)
 | []=>some []
 | .bl b :: r=>(zcI r).map (b :: ·)
 | _ :: _=>none
noncomputable def zcl:List D->Option (List Int)
 | []=>some []
 | .int b :: r=>(zcl r).map (b :: ·)
 | _ :: _=>none
noncomputable def zhi (l:ME (List D)):ME D:=zm l fun xs=>match zcI xs with
 | some bs=>zb (.bl (bs.all id))
 | none=>zK
noncomputable def zv5 (l:ME (List D)):ME D:=zm l fun xs=>match zcI xs with
 | some bs=>zb (.bl (bs.any id))
 | none=>zK
noncomputable def zhQ (l:ME (List D)):ME D:=zm l fun xs=>match zcl xs with
 | some ns=>zb (.int ns.sum)
 | none=>zK
noncomputable def zbd (l:ME (List D)):ME D:=zm l fun xs=>zb (.int xs.length)
noncomputable def zcv:List Int->List Int->List Int
 | _,[]=>[]
 | seen,x :: r=>if x∈seen then zcv seen r else x :: zcv (x :: seen) r
noncomputable def zu1 (l:ME (List D)):ME D:=zm l fun xs=>match zcl xs with
 | some ns=>if ns.length < 4000 then zb (.int (zcv [] ns).length) else zK
 | none=>zK
noncomputable def zcG (x:Int):List Int->List Int
 | []=>[x]
 | y :: r=>if x<=y then x :: y :: r else y :: zcG x r
noncomputable def zb7 (l:List Int):List Int:=l.foldr zcG []
noncomputable def zh0 (l:ME (List D)):ME (List D):=zm l fun xs=>match zcl xs with
 | some ns=>if ns.length < 64 then zb ((zb7 ns).map .int) else zK
 | none=>zK
noncomputable def zvv (l:ME (List D)):ME (List D):=zm l fun xs=>match zcl xs with
 | some ns=>if ns.length < 64 then zb ((zb7 (zcv [] ns)).map .int) else zK
 | none=>zK
noncomputable def zvO (a:ME D):ME (List D):=zm a fun x=>fun _ h=>match x with
 | .obj n=>match h[n]? with
   | some (.dic kvs)=>if kvs.length < 64 then .ok ((zb7 (kvs.map (·.1))).map .int) h else .bad
   | _=> .bad
 | _=> .bad
noncomputable def zdG (a:ME D):ME D:=zm a fun x=>match x with
 | .int i=>zb (.int (if i < 0 then -i else i))
 | _=>zK
noncomputable def zvK (a:ME D):ME D:=zm a fun x=>match x with
 | .int i=>zb (.int i)
 | .bl b=>zb (.int (if b then 1 else 0))
 | _=>zK
noncomputable def zim (a n:ME D):ME (List D):=zm a fun x=>zm n fun k=>match x,k with
 | .obj m,.int k=>zm (zcJ m) fun xs=>if -1000000<=k∧k<=1000000∧xs.length * k.toNat<=1000000 then zb (List.replicate k.toNat xs).flatten else zK
 | _,_=>zK
noncomputable def zcm (a:ME D) (b:ME (List D)):ME (List D):=zm a fun x=>zm b fun ys=>match x with
 | .obj m=>zm (zcJ m) fun xs=>if xs.length+ys.length<=1000000 then zb (xs++ys) else zK
 | _=>zK
noncomputable def pairsOf:List D->Option (List (Int×D))
 | []=>some []
 | .tup [.int k,v] :: r=>(pairsOf r).map ((k,v) :: ·)
 | _ :: _=>none
noncomputable def zwj (l:ME (List D)):ME D:=zm l fun xs=>match pairsOf xs with
 | some ps=>if ps.length<=1000000 then zgg (.dic (ps.foldl (fun a p=>zdZ p.1 p.2 a) [])) else zK
 | none=>zK
noncomputable def zhW:ME D:=zgg (.dic [])
noncomputable def zhZ (a:ME D):ME (List D):=zm a fun x=>match x with
 | .int i=>if -1000000<=i∧i<=1000000 then zb ((List.range i.toNat).map fun (k:Nat)=>D.int k) else zK
 | _=>zK
inductive Ty where
 | int | bool | str | list | tuple | dict
deriving DecidableEq
noncomputable def zbH (h:MH) (t:Ty):D->Option Bool
 | .non=>some false
 | .bl _=>some (t == .bool || t == .int)
 | .int _=>some (t == .int)
 | .str _=>some (t == .str)
 | .tup _=>some (t == .tuple)
 | .obj n=>match h[n]? with
   | some (.lst _)=>some (t == .list)
   | some (.dic _)=>some (t == .dict)
   | _=>none
noncomputable def zcs (t:Ty) (a:ME D):ME D:=zm a fun x=>fun _ h=>match zbH h t x with
 | some b=> .ok (.bl b) h
 | none=> .bad
noncomputable def ze6 (sub:Nat->Nat->Bool) (c:Nat) (a:ME D):ME D:=zm a fun x=>fun _ h=>match x with
 | .obj n=>match h[n]? with
   | some (.ins c' _)=> .ok (.bl (sub c' c)) h
   | _=> .bad
 | _=> .bad
noncomputable def fld (k:Nat) (a:ME D):ME D:=zm a fun x=>fun _ h=>match x with
 | .obj n=>match h[n]? with
   | some (.ins _ fs)=>(match fs.lookup k with
     | some d=> .ok d h
     | none=> .bad)
   | _=> .bad
 | _=> .bad
noncomputable def zdV (k:Nat) (v:D):List (Nat×D)->List (Nat×D)
 | []=>[(k,v)]
 | p :: r=>if p.1=k then (k,v) :: r else p :: zdV k v r
noncomputable def isL (x:D):ME Unit:=fun _ h=>match x with
 | .obj n=>(match h[n]? with
   | some (.lst _)=> .ok () h
   | _=> .bad)
 | _=> .bad
noncomputable def zbu (a v:ME D):ME D:=zm a fun x=>zm (isL x) fun _=>zm v fun y=>fun _ h=>match x with
 | .obj n=>match h[n]? with
   | some (.lst xs)=>if xs.length < 1000000 then .ok .non (h.set n (.lst (xs++[y]))) else .bad
   | _=> .bad
 | _=> .bad
noncomputable def zw5 (a:ME D):ME D:=zm a fun x=>fun _ h=>match x with
 | .obj n=>match h[n]? with
   | some (.lst xs)=>(match xs[xs.length - 1]? with
     | some y=> .ok y (h.set n (.lst xs.dropLast))
     | none=> .bad)
   | _=> .bad
 | _=> .bad
noncomputable def zhV (a:ME D):ME D:=zm a fun x=>fun _ h=>match x with
 | .obj n=>match h[n]? with
   | some (.lst xs)=> .ok .non (h.set n (.lst xs.reverse))
   | _=> .bad
 | _=> .bad
noncomputable def zwn (a:ME D):ME D:=zm a fun x=>fun _ h=>match x with
 | .obj n=>match h[n]? with
   | some (.lst xs)=> .ok .non (h.set n (.lst []))
   | _=> .bad
 | _=> .bad
noncomputable def zv8 (a b:ME D):ME D:=zm a fun x=>zm (isL x) fun _=>zm b fun y=>fun _ h=>match x,y with
 | .obj n,.obj m=>match h[n]?,h[m]? with
   | some (.lst xs),some (.lst ys)=>if xs.length+ys.length<=1000000 then .ok .non (h.set n (.lst (xs++ys))) else .bad
   | _,_=> .bad
 | _,_=> .bad
noncomputable def zdL (h1 h2:MH):Bool:=(List.range h1.length).all fun i=>decide (h2[i]?=h1[i]?) || (match h2[i]? with
 | some o=>o.flat
 | none=>false)
noncomputable def zb1 (n b:Nat) (h2:MH):List D->List Nat->Option (List D×List Nat)
 | [],ms=>some ([],ms)
 | .obj m :: r,ms=>if m < n then (zb1 n b h2 r ms).map fun p=>(.obj m :: p.1,p.2)
   else if m∈ms then none else match h2[m]? with
     | some o=>if o.flat=true then (zb1 n b h2 r (ms++[m])).map fun p=>(.obj (b+ms.length) :: p.1,p.2) else none
     | none=>none
 | d :: r,ms=>if d.nr=true then (zb1 n b h2 r ms).map fun p=>(d :: p.1,p.2) else none
noncomputable def gcV (n:Nat) (v:D) (h2:MH):D×MH:=match v with
 | .obj m=>if m < n then (v,h2.take n) else match h2[m]? with
   | some (.ins c fs)=>(match zb1 n (n+1) h2 (fs.map (·.2)) [] with
     | some (ds,ms)=>(.obj n,h2.take n ++ .ins c ((fs.map (·.1)).zip ds) :: ms.map fun k=>h2.getD k (.lst []))
     | none=>(v,h2))
   | some o=>if o.flat=true then (.obj n,h2.take n++[o]) else (v,h2)
   | none=>(v,h2)
 | .tup ds=>(match zb1 n n h2 ds [] with
   | some (ds',ms)=>(.tup ds',h2.take n++ms.map fun k=>h2.getD k (.lst []))
   | none=>(v,h2))
 | _=>(v,h2.take n)
noncomputable def gc (h1:MH):R D->R D
 | .ok v h2=>if zdL h1 h2=true then .ok (gcV h1.length v h2).1 (gcV h1.length v h2).2 else .ok v h2
 | r=>r
noncomputable def app (f:MF) (ds:List D) (h:MH):R D:=gc h (f ds h)
noncomputable def zj (f:MF) (args:ME (List D)):ME D:=zm args fun ds=>fun _ h=>app f ds h
noncomputable def mkF (c:Nat) (f:MF):MF:=fun ds h=>match f (.obj h.length :: ds) (h++[.ins c []]) with
 | .ok .non h2=> .ok (.obj h.length) h2
 | .ok _ _=> .bad
 | .ex c h2=> .ex c h2
 | .bad=> .bad
noncomputable def zR (tbl:List (Nat×MF)) (o:ME D) (args:ME (List D)):ME D:=zm o fun x=>fun e h=>match x with
 | .obj n=>match h[n]? with
   | some (.ins c _)=>(match tbl.lookup c with
     | some f=>zm args (fun ds=>fun _ h=>app f (x :: ds) h) e h
     | none=> .bad)
   | _=> .bad
 | _=> .bad
noncomputable def zci {α:Type} (m:ME α) (k:α->MS):MS:=fun e h=>match m e h with
 | .ok a h1=>k a e h1
 | .ex c h1=> .ex c h1
 | .bad=> .bad
noncomputable def zB:MS:=fun e h=> .nx e h
noncomputable def zsR:MS:=fun _ _=> .bad
noncomputable def zg (a b:MS):MS:=fun e h=>match a e h with
 | .nx e1 h1=>b e1 h1
 | r=>r
noncomputable def ifS (t:ME Bool) (a b:MS):MS:=zci t fun c=>if c=true then a else b
noncomputable def zbh (m:ME D):MS:=zci m fun _=>zB
noncomputable def zC (m:ME D):MS:=zci m fun v _ h=> .rt v h
noncomputable def zvN:MS:=fun e h=> .bk e h
noncomputable def zv1:MS:=fun e h=> .ct e h
inductive Tg where
 | nm (i:Nat) | tp (l:List Nat)
noncomputable def zdh:List Nat->List D->zD->Option zD
 | [],[],e=>some e
 | i :: r,x :: xs,e=>zdh r xs (e.set i (some x))
 | _,_,_=>none
noncomputable def zcX:Tg->D->zD->Option zD
 | .nm i,x,e=>some (e.set i (some x))
 | .tp l,.tup ds,e=>zdh l ds e
 | .tp _,_,_=>none
noncomputable def zhf (t:Tg) (v:D):MS:=fun e h=>match zcX t v e with
 | some e1=> .nx e1 h
 | none=> .bad
noncomputable def zk (t:Tg) (m:ME D):MS:=zci m (zhf t)
noncomputable def zd7 (l:List Nat) (m:ME (List D)):MS:=zci m fun vs e h=>match zdh l vs e with
 | some e1=> .nx e1 h
 | none=> .bad
noncomputable def zfW (f:D->D->ME D) (i:Nat) (m:ME D):MS:=zk (.nm i) (zm (var i) fun x=>zm m fun y=>f x y)
noncomputable def zep (att:Nat->Nat->Bool) (k:Nat) (o v:ME D):MS:=zci v fun y=>zci o fun x=>fun e h=>match x with
 | .obj n=>(match h[n]? with
   | some (.ins c fs)=>if att c k && decide (fs.length < 100) then .nx e (h.set n (.ins c (zdV k y fs))) else .bad
   | _=> .bad)
 | _=> .bad
noncomputable def zdT (o i v:ME D):MS:=zci v fun y=>zci o fun x=>zci i fun z=>fun e h=>match x,z with
 | .obj n,.int k=>(match h[n]? with
   | some (.lst xs)=>(match ixN xs.length k with
     | some j=> .nx e (h.set n (.lst (xs.set j y)))
     | none=> .bad)
   | some (.dic kvs)=>if kvs.length < 1000000 then .nx e (h.set n (.dic (zdZ k y kvs))) else .bad
   | _=> .bad)
 | _,_=> .bad
noncomputable abbrev Src:=List D×List (Nat×O)
noncomputable def guard (gs:List (Nat×O)) (h:MH):Bool:=gs.all fun p=>decide (h[p.1]?=some p.2)
noncomputable def zio (n:Nat) (f:List D->List D):ME Src:=fun _ h=>match h[n]? with
 | some (.lst xs)=> .ok (f xs,[(n,.lst xs)]) h
 | _=> .bad
noncomputable def zc8 (k:Nat):List D->List D
 | []=>[]
 | x :: r=> .tup [.int k,x] :: zc8 (k+1) r
noncomputable def zlk:List D->List D->List D
 | x :: r,y :: q=> .tup [x,y] :: zlk r q
 | _,_=>[]
noncomputable def itL (a:ME D):ME Src:=zm a fun x=>match x with
 | .obj n=>zio n id
 | _=>zK
noncomputable def itT (a:ME D):ME Src:=zm a fun x=>match x with
 | .tup ds=>zb (ds,[])
 | _=>zK
noncomputable def itR (a:ME D):ME Src:=zm a fun x=>match x with
 | .int i=>if -1000000<=i∧i<=1000000 then zb ((List.range i.toNat).map fun (k:Nat)=>D.int k,[]) else zK
 | _=>zK
noncomputable def itE (a:ME D):ME Src:=zm a fun x=>match x with
 | .obj n=>zio n (zc8 0)
 | _=>zK
noncomputable def itZ (a b:ME D):ME Src:=zm a fun x=>zm b fun y=>match x,y with
 | .obj n,.obj m=>fun _ h=>(match h[n]?,h[m]? with
   | some (.lst xs),some (.lst ys)=> .ok (zlk xs ys,[(n,.lst xs),(m,.lst ys)]) h
   | _,_=> .bad)
 | _,_=>zK
noncomputable def zeu (r:RS) (k:MS):RS:=match r with
 | .nx e h=>k e h
 | .ct e h=>k e h
 | .bk e h=> .nx e h
 | r=>r
noncomputable def zcx (t:Tg) (gs:List (Nat×O)) (body:MS):List D->MS
 | [],e,h=>if guard gs h=true then .nx e h else .bad
 | x :: xs,e,h=>if guard gs h=true then (match zcX t x e with
     | none=> .bad
     | some e1=>zeu (body e1 h) (zcx t gs body xs)) else .bad
noncomputable def zcz (t:Tg) (src:ME Src) (body:MS):MS:=zci src fun p=>zcx t p.2 body p.1
noncomputable def zdz (kvs:List (Int×D)):List D:=kvs.map fun p=> .tup [.int p.1,p.2]
noncomputable def zdK (kvs:List (Int×D)):List D:=kvs.map (·.2)
noncomputable def zeG (n:Nat) (kvs:List (Int×D)):RS->RS
 | .nx e h=>if h[n]?=some .hole then .nx e (h.set n (.dic kvs)) else .bad
 | .bk e h=>if h[n]?=some .hole then .bk e (h.set n (.dic kvs)) else .bad
 | .ct e h=>if h[n]?=some .hole then .ct e (h.set n (.dic kvs)) else .bad
 | .rt v h=>if h[n]?=some .hole then .rt v (h.set n (.dic kvs)) else .bad
 | .ex _ _=> .bad
 | .bad=> .bad
noncomputable def zit {α:Type} (n:Nat) (kvs:List (Int×D)):R α->R α
 | .ok a h=>if h[n]?=some .hole then .ok a (h.set n (.dic kvs)) else .bad
 | .ex _ _=> .bad
 | .bad=> .bad
noncomputable def zhh (pr:List (Int×D)->List D) (t:Tg) (a:ME D) (body:MS):MS:=zci a fun x=>fun e h=>match x with
 | .obj n=>(match h[n]? with
   | some (.dic kvs)=>zeG n kvs (zcx t [] body (pr kvs) e (h.set n .hole))
   | _=> .bad)
 | _=> .bad
noncomputable def zen (t:ME Bool) (body:MS):Nat->MS
 | 0=>zsR
 | n+1=>zci t fun c=>if c=true then (fun e h=>zeu (body e h) (zen t body n)) else zB
noncomputable def zgU (t:ME Bool) (body:MS):MS:=zen t body 1000000
noncomputable def zb3 (js:List (Option Nat)) (e:zD):zD:=js.map fun j=>j.bind fun k=>(e[k]?).join
noncomputable def zbI (t:Tg) (gs:List (Nat×O)) (cond:ME Bool) (elt:ME D):List D->List D->ME (List D)
 | [],acc,e,h=>if guard gs h=true then .ok acc h else .bad
 | x :: xs,acc,e,h=>if guard gs h=true then (match zcX t x e with
     | none=> .bad
     | some e1=>zm cond (fun c=>if c=true then zm elt (fun y=>zbI t gs cond elt xs (acc++[y])) else zbI t gs cond elt xs acc) e1 h) else .bad
noncomputable def zb9:ME Bool:=zb true
noncomputable def zcu (js:List (Option Nat)) (t:Tg) (src:ME Src) (cond:ME Bool) (elt:ME D):ME (List D):=zm src fun p=>fun e h=>if p.1.length<=1000000 then zbI t p.2 cond elt p.1 [] (zb3 js e) h else .bad
noncomputable def zg2 (pr:List (Int×D)->List D) (js:List (Option Nat)) (t:Tg) (a:ME D) (cond:ME Bool) (elt:ME D):ME (List D):=zm a fun x=>fun e h=>match x with
 | .obj n=>(match h[n]? with
   | some (.dic kvs)=>if (pr kvs).length<=1000000 then zit n kvs (zbI t [] cond elt (pr kvs) [] (zb3 js e) (h.set n .hole)) else .bad
   | _=> .bad)
 | _=> .bad
noncomputable def zS (np nl:Nat) (body:MS):MF:=fun ds h=>if ds.length=np then (match body (ds.map some++List.replicate (nl - np) none) h with
 | .nx _ h1=> .ok .non h1
 | .rt v h1=> .ok v h1
 | .ex c h1=> .ex c h1
 | _=> .bad) else .bad
end MI
end
section
namespace MI
open PySem (Str)
noncomputable def zJ {α β:Type} (r:R α) (f:α->MH->R β):R β:=match r with
 | .ok a h=>f a h
 | .ex c h=> .ex c h
 | .bad=> .bad
noncomputable def zcf {α:Type} (r:R α) (f:α->MH->RS):RS:=match r with
 | .ok a h=>f a h
 | .ex c h=> .ex c h
 | .bad=> .bad
noncomputable def zey (r:RS) (f:zD->MH->RS):RS:=match r with
 | .nx e h=>f e h
 | r=>r
noncomputable def zf3 (r:RS):R D:=match r with
 | .nx _ h1=> .ok .non h1
 | .rt v h1=> .ok v h1
 | .ex c h1=> .ex c h1
 | _=> .bad
section
variable {α β:Type}{e e1:zD}{h h1:MH}{x y z d v:D}{i j:Int}{n m k:Nat}
@[simp] theorem zlJ (a:α) (f:α->MH->R β):zJ (.ok a h) f=f a h:=rfl
@[simp] theorem zwM (f:α->MH->R β):zJ (.bad) f = .bad:=rfl
@[simp] theorem ztl (a:α) (f:α->MH->RS):zcf (.ok a h) f=f a h:=rfl
@[simp] theorem zwQ (f:α->MH->RS):zcf (.bad) f = .bad:=rfl
@[simp] theorem ziV (f:zD->MH->RS):zey (.nx e h) f=f e h:=rfl
@[simp] theorem zwN (f:zD->MH->RS):zey (.rt v h) f = .rt v h:=rfl
@[simp] theorem zwa (f:zD->MH->RS):zey (.bk e h) f = .bk e h:=rfl
@[simp] theorem zvU (f:zD->MH->RS):zey (.ct e h) f = .ct e h:=rfl
@[simp] theorem zwr (f:zD->MH->RS):zey .bad f = .bad:=rfl
@[simp] theorem zu6:zf3 (.nx e h) = .ok .non h:=rfl
@[simp] theorem zwZ:zf3 (.rt v h) = .ok v h:=rfl
@[simp] theorem zwl:zf3 .bad = .bad:=rfl
@[simp] theorem ztL (f:MS):zeu (.nx e h) f=f e h:=rfl
@[simp] theorem zvI (f:MS):zeu (.ct e h) f=f e h:=rfl
@[simp] theorem zwA (f:MS):zeu (.rt v h) f = .rt v h:=rfl
@[simp] theorem zwm (f:MS):zeu .bad f = .bad:=rfl
@[simp] theorem zW (a:ME α) (f:α->ME β):zm a f e h=zJ (a e h) fun x h1=>f x e h1:=by unfold zm zJ;cases a e h <;> rfl
@[simp] theorem zdB (a:ME α) (f:α->MS):zci a f e h=zcf (a e h) fun x h1=>f x e h1:=by unfold zci zcf;cases a e h <;> rfl
@[simp] theorem zie (a b:MS):zg a b e h=zey (a e h) b:=by unfold zg zey;cases a e h <;> rfl
@[simp] theorem zkY (np nl:Nat) (b:MS) (ds:List D):zS np nl b ds h=if ds.length=np then zf3 (b (ds.map some++List.replicate (nl - np) none) h) else .bad:=by
 unfold zS zf3
 split
 . cases b (ds.map some++List.replicate (nl - np) none) h <;> rfl
 . rfl
@[simp] theorem zsT (a:α):zb a e h = .ok a h:=rfl
@[simp] theorem zvu:(zK:ME α) e h = .bad:=rfl
@[simp] theorem zwH:var n e h=match e[n]? with
 | some (some d)=> .ok d h
 | _=> .bad:=rfl
@[simp] theorem zw3 (f:D->ME D) (a:ME D):un f a e h=zJ (a e h) fun x h1=>f x e h1:=zW _ _
@[simp] theorem zvY (f:D->D->ME D) (a b:ME D):MI.bin f a b e h=zJ (a e h) fun x h1=>zJ (b e h1) fun y h2=>f x y e h2:=by unfold MI.bin;simp
@[simp] theorem zvB (o:O):zgg o e h = .ok (.obj h.length) (h++[o]):=rfl
@[simp] theorem zww:zbi (.int i) e h = .ok (.int (-i)) h:=rfl
@[simp] theorem zwK:zE (.int i) (.int j) e h = .ok (.int (i+j)) h:=rfl
@[simp] theorem zvE:z3 (.int i) (.int j) e h = .ok (.int (i - j)) h:=rfl
@[simp] theorem zwX:zcH (.int i) (.int j) e h=if 0 < j∧j < 1073741824 then .ok (.int (i / j)) h else .bad:=by simp only [zcH];split <;> rfl
@[simp] theorem zwb:zbj (.int i) (.int j) e h=if 0 < j then .ok (.int (i % j)) h else .bad:=by simp only [zbj];split <;> rfl
@[simp] theorem zl2:zbr (.int i) (.int j) e h=if (zbR i || zbR j)=true then .ok (.int (i * j)) h else .bad:=by simp only [zbr];split <;> rfl
@[simp] theorem zwI:ltV (.int i) (.int j) e h = .ok (.bl (decide (i < j))) h:=rfl
@[simp] theorem zvk:leV (.int i) (.int j) e h = .ok (.bl (decide (i<=j))) h:=rfl
@[simp] theorem zwV:gtV (.int i) (.int j) e h = .ok (.bl (decide (j < i))) h:=rfl
@[simp] theorem zvz:geV (.int i) (.int j) e h = .ok (.bl (decide (j<=i))) h:=rfl
@[simp] theorem zwY:eqV (.int i) (.int j) e h = .ok (.bl (decide (i=j))) h:=by simp only [eqV,zbP,D.pl,if_pos,Cmp.eq,peq,Bool.beq_eq_decide_eq]
@[simp] theorem zuX:neV (.int i) (.int j) e h = .ok (.bl (!decide (i=j))) h:=by simp only [neV,zbP,D.pl,if_pos,Cmp.eq,peq,Bool.beq_eq_decide_eq]
@[simp] theorem zvh {a b:Bool}:eqV (.bl a) (.bl b) e h = .ok (.bl (a == b)) h:=rfl
@[simp] theorem zu8 {a b:Bool}:neV (.bl a) (.bl b) e h = .ok (.bl (!(a == b))) h:=rfl
@[simp] theorem zvX {b:Bool}:zjV (.bl b) e h = .ok (.bl !b) h:=rfl
@[simp] theorem zwe:isN x .non e h = .ok (.bl (decide (x = .non))) h:=by cases x <;> rfl
@[simp] theorem zwp {a b:Bool}:isN (.bl a) (.bl b) e h = .ok (.bl (a == b)) h:=rfl
@[simp] theorem zvl:zdC x .non e h = .ok (.bl (!decide (x = .non))) h:=by cases x <;> rfl
@[simp] theorem zwy {a b:Bool}:zdC (.bl a) (.bl b) e h = .ok (.bl (!(a == b))) h:=rfl
noncomputable def zgL (r:R D) (f:MH->R D):R D:=zJ r fun x h1=>match x with
 | .bl true=>f h1
 | .bl false=> .ok (.bl false) h1
 | _=> .bad
noncomputable def orR (r:R D) (f:MH->R D):R D:=zJ r fun x h1=>match x with
 | .bl true=> .ok (.bl true) h1
 | .bl false=>f h1
 | _=> .bad
@[simp] theorem zv3 {b:Bool} (f:MH->R D):zgL (.ok (.bl b) h) f=if b=true then f h else .ok (.bl false) h:=by cases b <;> rfl
@[simp] theorem zvo (a b:ME D):zcW a b e h=zgL (a e h) (b e):=by
 unfold zcW zgL
 rw [zW]
 cases a e h with
 | ok x h1=>cases x <;> first | rfl | (rename_i b;cases b <;> rfl)
 | _=>rfl
@[simp] theorem zwg (f g:D->D->ME D) (a b c:ME D):zdW f g a b c e h=zJ (a e h) fun x h1=>zJ (b e h1) fun y h2=>zgL (f x y e h2) fun h3=>zJ (c e h3) fun z h4=>g y z e h4:=by
 unfold zdW
 simp only [zW]
 congr 1;funext x h1;congr 1;funext y h2
 unfold zgL
 congr 1;funext t h3
 cases t <;> first | rfl | (rename_i b;cases b <;> simp)
noncomputable def zjn (r:R D):R Bool:=zJ r fun x h1=>match x with
 | .bl b=> .ok b h1
 | _=> .bad
@[simp] theorem zwL {b:Bool}:zjn (.ok (.bl b) h) = .ok b h:=rfl
@[simp] theorem zvb (a:ME D):tst a e h=zjn (a e h):=by
 unfold tst zjn
 rw [zW]
 congr 1;funext x h1;cases x <;> rfl
@[simp] theorem zvL (a:ME D):tru a e h=zJ (a e h) fun x h1=>zew x e h1:=by unfold tru;rw [zW]
@[simp] theorem zvq {b:Bool}:zew (.bl b) e h = .ok b h:=rfl
@[simp] theorem zvD:zew .non e h = .ok false h:=rfl
@[simp] theorem zvg:zew (.int i) e h = .ok (i != 0) h:=rfl
@[simp] theorem zva (a b:ME Bool):zbp a b e h=zJ (a e h) fun c h1=>if c=true then b e h1 else .ok false h1:=by unfold zbp;rw [zW];congr 1;funext c h1;cases c <;> rfl
@[simp] theorem zw1 (a b:ME Bool):orT a b e h=zJ (a e h) fun c h1=>if c=true then .ok true h1 else b e h1:=by unfold orT;rw [zW];congr 1;funext c h1;cases c <;> rfl
@[simp] theorem zwF (a:ME Bool):zbn a e h=zJ (a e h) fun c h1=> .ok (!c) h1:=by unfold zbn;rw [zW];rfl
@[simp] theorem zwk (t:ME Bool) (a b:ME D):ifE t a b e h=zJ (t e h) fun c h1=>if c=true then a e h1 else b e h1:=by unfold ifE;rw [zW];congr 1;funext c h1;cases c <;> rfl
@[simp] theorem zwt:ze e h = .ok [] h:=rfl
@[simp] theorem zvp (a:ME D) (r:ME (List D)):za a r e h=zJ (a e h) fun x h1=>zJ (r e h1) fun xs h2=> .ok (x :: xs) h2:=by unfold za;simp
@[simp] theorem zwG (r:ME (List D)):zG r e h=zJ (r e h) fun xs h1=>if xs.length<=1000 then .ok (.tup xs) h1 else .bad:=by unfold zG;rw [zW];congr 1;funext xs h1;split <;> rfl
@[simp] theorem zwC (r:ME (List D)):zbq r e h=zJ (r e h) fun xs h1=>if xs.length<=1000 then .ok xs h1 else .bad:=by unfold zbq;rw [zW];congr 1;funext xs h1;split <;> rfl
@[simp] theorem zwE (r:ME (List D)):zF r e h=zJ (r e h) fun xs h1=> .ok (.obj h1.length) (h1++[.lst xs]):=by unfold zF;rw [zW];rfl
@[simp] theorem zu4:zcJ n e h=match h[n]? with
 | some (.lst xs)=> .ok xs h
 | _=> .bad:=rfl
@[simp] theorem zvP (a:ME D):zbS a e h=zJ (a e h) fun x h1=>match x with
 | .obj n=>zcJ n e h1
 | _=> .bad:=by unfold zbS;rw [zW];congr 1;funext x h1;cases x <;> rfl
@[simp] theorem zwD (a:ME D):zbs a e h=zJ (a e h) fun x h1=>match x with
 | .obj n=>(match h1[n]? with
   | some (.lst xs)=> .ok xs h1
   | some (.scr xs)=> .ok xs h1
   | _=> .bad)
 | .tup ds=> .ok ds h1
 | _=> .bad:=by unfold zbs;rw [zW] <;> congr 1
@[simp] theorem zwP:noP e h = .ok none h:=rfl
@[simp] theorem zw2 (a:ME D):zbz a e h=zJ (a e h) fun x h1=>match x with
 | .int i=> .ok (some i) h1
 | _=> .bad:=by unfold zbz;rw [zW];congr 1;funext x h1;cases x <;> rfl
@[simp] theorem zvJ (a:ME D) (lo hi:ME (Option Int)):zca a lo hi e h=zJ (a e h) fun x h1=>zJ (lo e h1) fun l h2=>zJ (hi e h2) fun u h3=>match x with
 | .obj n=>zJ (zcJ n e h3) fun xs h4=> .ok (cut xs l u) h4
 | _=> .bad:=by unfold zca;simp only [zW];congr 1;funext x h1;congr 1;funext l h2;congr 1;funext u h3;cases x <;> simp
@[simp] theorem zwh (a:ME D) (lo hi:ME (Option Int)):zd4 a lo hi e h=zJ (a e h) fun x h1=>zJ (lo e h1) fun l h2=>zJ (hi e h2) fun u h3=>match x with
 | .tup ds=>if (cut ds l u).length < ds.length then .ok (.tup (cut ds l u)) h3 else .bad
 | _=> .bad:=by unfold zd4;simp only [zW];congr 1;funext x h1;congr 1;funext l h2;congr 1;funext u h3;cases x <;> first | rfl | (dsimp only;split <;> rfl)
@[simp] theorem zv0 (a:ME D):zhe a e h=zJ (a e h) fun x h1=>match x with
 | .tup [p,q,_]=> .ok (.tup [q,p]) h1
 | _=> .bad:=by unfold zhe;rw [zW];congr 1;funext x h1;rcases x with _|_|_|_|l|_ <;> first | rfl | (rcases l with _|⟨a0,_|⟨a1,_|⟨a2,_|⟨a3,l⟩⟩⟩⟩ <;> rfl)
@[simp] theorem zwc (l:ME (List D)):zhi l e h=zJ (l e h) fun xs h1=>match zcI xs with
 | some bs=> .ok (.bl (bs.all id)) h1
 | none=> .bad:=by unfold zhi;rw [zW];congr 1;funext x h1;cases hh:zcI x <;> simp [hh]
@[simp] theorem zvQ (l:ME (List D)):zhQ l e h=zJ (l e h) fun xs h1=>match zcl xs with
 | some bs=> .ok (.int bs.sum) h1
 | none=> .bad:=by unfold zhQ;rw [zW];congr 1;funext x h1;cases hh:zcl x <;> simp [hh]
@[simp] theorem zkv (l:ME (List D)):zbd l e h=zJ (l e h) fun xs h1=> .ok (.int xs.length) h1:=by unfold zbd;rw [zW];rfl
@[simp] theorem zvm (l:ME (List D)):zh0 l e h=zJ (l e h) fun xs h1=>match zcl xs with
 | some ns=>if ns.length < 64 then .ok ((zb7 ns).map .int) h1 else .bad
 | none=> .bad:=by unfold zh0;rw [zW];congr 1;funext x h1;cases hh:zcl x <;> simp [hh];split <;> rfl
@[simp] theorem zvy (a:ME D):zdG a e h=zJ (a e h) fun x h1=>match x with
 | .int i=> .ok (.int (if i < 0 then -i else i)) h1
 | _=> .bad:=by unfold zdG;rw [zW];congr 1;funext x h1;cases x <;> rfl
@[simp] theorem zv2 (a b:ME D):zim a b e h=zJ (a e h) fun x h1=>zJ (b e h1) fun kk h2=>match x,kk with
 | .obj m,.int k=>zJ (zcJ m e h2) fun xs h3=>if -1000000<=k∧k<=1000000∧xs.length * k.toNat<=1000000 then .ok (List.replicate k.toNat xs).flatten h3 else .bad
 | _,_=> .bad:=by
 unfold zim;simp only [zW];congr 1;funext x h1;congr 1;funext y h2
 cases x <;> cases y <;> first | rfl | (dsimp only;rw [zW];congr 1;funext xs h3;split <;> rfl)
@[simp] theorem zwu (a:ME D) (b:ME (List D)):zcm a b e h=zJ (a e h) fun x h1=>zJ (b e h1) fun ys h2=>match x with
 | .obj m=>zJ (zcJ m e h2) fun xs h3=>if xs.length+ys.length<=1000000 then .ok (xs++ys) h3 else .bad
 | _=> .bad:=by
 unfold zcm;simp only [zW];congr 1;funext x h1;congr 1;funext y h2
 cases x <;> first | rfl | (dsimp only;rw [zW];congr 1;funext xs h3;split <;> rfl)
@[simp] theorem zwB:zhW e h = .ok (.obj h.length) (h++[.dic []]):=rfl
@[simp] theorem zwO (a:ME D):zhZ a e h=zJ (a e h) fun x h1=>match x with
 | .int i=>if -1000000<=i∧i<=1000000 then .ok ((List.range i.toNat).map fun (k:Nat)=>D.int k) h1 else .bad
 | _=> .bad:=by unfold zhZ;rw [zW];congr 1;funext x h1;cases x <;> first | rfl | (dsimp only;split <;> rfl)
@[simp] theorem zvf (t:Ty) (a:ME D):zcs t a e h=zJ (a e h) fun x h1=>match zbH h1 t x with
 | some b=> .ok (.bl b) h1
 | none=> .bad:=by unfold zcs;rw [zW] <;> congr 1
@[simp] theorem zve (s:Nat->Nat->Bool) (a:ME D):ze6 s n a e h=zJ (a e h) fun x h1=>match x with
 | .obj n'=>match h1[n']? with
   | some (.ins c' _)=> .ok (.bl (s c' n)) h1
   | _=> .bad
 | _=> .bad:=by unfold ze6;rw [zW] <;> congr 1
@[simp] theorem zv7 (a:ME D):fld k a e h=zJ (a e h) fun x h1=>match x with
 | .obj n=>match h1[n]? with
   | some (.ins _ fs)=>(match fs.lookup k with
     | some d=> .ok d h1
     | none=> .bad)
   | _=> .bad
 | _=> .bad:=by unfold fld;rw [zW] <;> congr 1
noncomputable def zcy (x:D) (h:MH) (r:R D):R D:=match x with
 | .obj n=>(match h[n]? with
   | some (.lst _)=>r
   | _=> .bad)
 | _=> .bad
@[simp] theorem zu7 (a b:ME D):zbu a b e h=zJ (a e h) fun x h1=>zcy x h1 (zJ (b e h1) fun y h2=>match x with
 | .obj n=>match h2[n]? with
   | some (.lst xs)=>if xs.length < 1000000 then .ok .non (h2.set n (.lst (xs++[y]))) else .bad
   | _=> .bad
 | _=> .bad):=by
 unfold zbu;simp only [zW];congr 1;funext x h1
 unfold isL zcy
 cases x <;> first | rfl | skip
 dsimp only
 split <;> simp_all <;> congr 1
@[simp] theorem zuW (a:ME D):zhV a e h=zJ (a e h) fun x h1=>match x with
 | .obj n=>match h1[n]? with
   | some (.lst xs)=> .ok .non (h1.set n (.lst xs.reverse))
   | _=> .bad
 | _=> .bad:=by unfold zhV;rw [zW] <;> congr 1
@[simp] theorem zuZ (f:MF) (a:ME (List D)):zj f a e h=zJ (a e h) fun ds h1=>app f ds h1:=by unfold zj;rw [zW]
@[simp] theorem zvd (tbl:List (Nat×MF)) (o:ME D) (a:ME (List D)):zR tbl o a e h=zJ (o e h) fun x h1=>match x with
 | .obj n=>match h1[n]? with
   | some (.ins c _)=>(match tbl.lookup c with
     | some f=>zJ (a e h1) fun ds h2=>app f (x :: ds) h2
     | none=> .bad)
   | _=> .bad
 | _=> .bad:=by
 unfold zR;rw [zW] <;> congr 1
@[simp] theorem zv6:zB e h = .nx e h:=rfl
@[simp] theorem zkS (t:ME Bool) (a b:MS):ifS t a b e h=zcf (t e h) fun c h1=>if c=true then a e h1 else b e h1:=by unfold ifS;rw [zdB];congr 1;funext c h1;cases c <;> rfl
@[simp] theorem zw0 (a:ME D):zbh a e h=zcf (a e h) fun _ h1=> .nx e h1:=by unfold zbh;rw [zdB];rfl
@[simp] theorem zqT (a:ME D):zC a e h=zcf (a e h) fun v h1=> .rt v h1:=by unfold zC;rw [zdB]
@[simp] theorem zjF (t:Tg) (a:ME D):zk t a e h=zcf (a e h) fun v h1=>zhf t v e h1:=by unfold zk;rw [zdB]
@[simp] theorem zvr:zhf (.nm n) v e h = .nx (e.set n (some v)) h:=rfl
@[simp] theorem zwW (l:List Nat) (ds:List D):zhf (.tp l) (.tup ds) e h=match zdh l ds e with
 | some e1=> .nx e1 h
 | none=> .bad:=rfl
@[simp] theorem zlr (l:List Nat) (a:ME (List D)):zd7 l a e h=zcf (a e h) fun vs h1=>match zdh l vs e with
 | some e1=> .nx e1 h1
 | none=> .bad:=by unfold zd7;rw [zdB] <;> congr 1
@[simp] theorem zws:zdh [] [] e=some e:=rfl
@[simp] theorem zvT (l:List Nat) (ds:List D):zdh (n :: l) (x :: ds) e=zdh l ds (e.set n (some x)):=rfl
@[simp] theorem zsb:zcX (.nm n) x e=some (e.set n (some x)):=rfl
@[simp] theorem zvt (l:List Nat) (ds:List D):zcX (.tp l) (.tup ds) e=zdh l ds e:=rfl
@[simp] theorem zvj (f:D->D->ME D) (a:ME D):zfW f n a e h=zcf (zJ (var n e h) fun x h1=>zJ (a e h1) fun y h2=>f x y e h2) fun v h1=> .nx (e.set n (some v)) h1:=by unfold zfW;rw [zjF];simp only [zW];rfl
@[simp] theorem zu9 (att:Nat->Nat->Bool) (o a:ME D):zep att k o a e h=zcf (a e h) fun y h1=>zcf (o e h1) fun x h2=>match x with
 | .obj n=>(match h2[n]? with
   | some (.ins c fs)=>if (att c k && decide (fs.length < 100))=true then .nx e (h2.set n (.ins c (zdV k y fs))) else .bad
   | _=> .bad)
 | _=> .bad:=by unfold zep;rw [zdB] <;> congr 1
@[simp] theorem zvZ (o i a:ME D):zdT o i a e h=zcf (a e h) fun y h1=>zcf (o e h1) fun x h2=>zcf (i e h2) fun z h3=>match x,z with
 | .obj n,.int k=>(match h3[n]? with
   | some (.lst xs)=>(match ixN xs.length k with
     | some j=> .nx e (h3.set n (.lst (xs.set j y)))
     | none=> .bad)
   | some (.dic kvs)=>if kvs.length < 1000000 then .nx e (h3.set n (.dic (zdZ k y kvs))) else .bad
   | _=> .bad)
 | _,_=> .bad:=by unfold zdT;rw [zdB] <;> congr 1
@[simp] theorem zkC (t:Tg) (s:ME Src) (b:MS):zcz t s b e h=zcf (s e h) fun p h1=>zcx t p.2 b p.1 e h1:=by unfold zcz;rw [zdB]
@[simp] theorem zwR (a:ME D):itL a e h=zJ (a e h) fun x h1=>match x with
 | .obj n=>(match h1[n]? with
   | some (.lst xs)=> .ok (xs,[(n,.lst xs)]) h1
   | _=> .bad)
 | _=> .bad:=by unfold itL;rw [zW];congr 1;funext x h1;cases x <;> rfl
@[simp] theorem zwU (a:ME D):itE a e h=zJ (a e h) fun x h1=>match x with
 | .obj n=>(match h1[n]? with
   | some (.lst xs)=> .ok (zc8 0 xs,[(n,.lst xs)]) h1
   | _=> .bad)
 | _=> .bad:=by unfold itE;rw [zW];congr 1;funext x h1;cases x <;> rfl
@[simp] theorem zrq (a:ME D):itR a e h=zJ (a e h) fun x h1=>match x with
 | .int i=>if -1000000<=i∧i<=1000000 then .ok ((List.range i.toNat).map fun (k:Nat)=>D.int k,[]) h1 else .bad
 | _=> .bad:=by unfold itR;rw [zW];congr 1;funext x h1;cases x <;> first | rfl | (dsimp only;split <;> rfl)
@[simp] theorem zwT (js:List (Option Nat)) (t:Tg) (s:ME Src) (c:ME Bool) (a:ME D):zcu js t s c a e h=zJ (s e h) fun p h1=>if p.1.length<=1000000 then zbI t p.2 c a p.1 [] (zb3 js e) h1 else .bad:=by unfold zcu;rw [zW]
@[simp] theorem zvc (pr:List (Int×D)->List D) (js:List (Option Nat)) (t:Tg) (a:ME D) (c:ME Bool) (b:ME D):zg2 pr js t a c b e h=zJ (a e h) fun x h1=>match x with
 | .obj n=>(match h1[n]? with
   | some (.dic kvs)=>if (pr kvs).length<=1000000 then zit n kvs (zbI t [] c b (pr kvs) [] (zb3 js e) (h1.set n .hole)) else .bad
   | _=> .bad)
 | _=> .bad:=by unfold zg2;rw [zW] <;> congr 1
@[simp] theorem zvW (pr:List (Int×D)->List D) (t:Tg) (a:ME D) (b:MS):zhh pr t a b e h=zcf (a e h) fun x h1=>match x with
 | .obj n=>(match h1[n]? with
   | some (.dic kvs)=>zeG n kvs (zcx t [] b (pr kvs) e (h1.set n .hole))
   | _=> .bad)
 | _=> .bad:=by unfold zhh;rw [zdB] <;> congr 1
@[simp] theorem zu5:zb9 e h = .ok true h:=rfl
@[simp] theorem zvx (a:D) (l:List D):MI.atI (a :: l) 0=some a:=by simp [MI.atI,ixN]
@[simp] theorem zu2 (a b:D) (l:List D):MI.atI (a :: b :: l) 1=some b:=by rw [MI.atI,show ixN (a :: b :: l).length 1=some 1 from by unfold ixN;rw [if_pos ω,if_pos (by simp only [List.length_cons];omega)];rfl];rfl
@[simp] theorem zu3 (a b c:D) (l:List D):MI.atI (a :: b :: c :: l) 2=some c:=by rw [MI.atI,show ixN (a :: b :: c :: l).length 2=some 2 from by unfold ixN;rw [if_pos ω,if_pos (by simp only [List.length_cons];omega)];rfl];rfl
theorem zrW {n k:Nat} (h:k < n):ixN n (k:Int)=some k:=by
 unfold ixN
 rw [if_pos ω,if_pos ω];simp
theorem zeE {α:Type}{xs:List α}{k:Nat} (h:k < xs.length):MI.atI xs (k:Int)=some xs[k]:=by
 unfold MI.atI
 rw [zrW h];simp [h]
theorem zhO {α:Type} (xs:List α) (a:α):MI.atI (xs++[a]) (-1)=some a:=by
 unfold MI.atI ixN
 rw [if_neg ω,if_pos (by simp;omega)]
 have e:(-1+((xs++[a]).length:Int)).toNat=xs.length:=by simp;omega
 rw [e];simp
theorem zy {h:MH}{n:Nat}{o:O} (e:h[n]?=some o) (g:MH):(h++g)[n]?=some o:=by rw [List.getElem?_append_left (List.getElem?_eq_some_iff.mp e).1];exact e
@[simp] theorem zhj (h g:MH) (k:Nat):(h++g)[h.length+k]?=g[k]?:=by rw [List.getElem?_append_right ω];congr 1;omega
@[simp] theorem zqq (h g:MH) (k:Nat) (o:O):(h++g).set (h.length+k) o=h++g.set k o:=by rw [List.set_append_right _ _ ω];congr 2;omega
theorem zlI {h:MH}{n:Nat} (hn:n < h.length) (o:O) (g:MH):(h++g).set n o=h.set n o++g:=by rw [List.set_append_left _ _ hn]
theorem zld {h:MH}{n:Nat}{o:O} (e:h[n]?=some o):h.set n o=h:=by
 apply List.ext_getElem?
 intro i
 by_cases hi:n=i
 . subst hi
   rw [List.getElem?_set_self (List.getElem?_eq_some_iff.mp e).1,e]
 . rw [List.getElem?_set_ne hi]
theorem zc6 (h g:MH):zdL h (h++g)=true:=by
 unfold zdL
 rw [List.all_eq_true]
 intro i hi
 rw [List.mem_range]at hi
 rw [List.getElem?_append_left hi];simp
@[simp] theorem zvw (h:MH):gc h .bad = .bad:=rfl
theorem zpG (h g:MH) (i:Int):gc h (.ok (.int i) (h++g)) = .ok (.int i) h:=by simp [gc,zc6,gcV]
theorem zjf (h g:MH) (b:Bool):gc h (.ok (.bl b) (h++g)) = .ok (.bl b) h:=by simp [gc,zc6,gcV]
theorem zlX (h g:MH):gc h (.ok .non (h++g)) = .ok .non h:=by simp [gc,zc6,gcV]
@[simp] theorem zvF (h:MH) (i:Int):gc h (.ok (.int i) h) = .ok (.int i) h:=by have:=zpG h [] i;simpa using this
@[simp] theorem zwi (h:MH) (b:Bool):gc h (.ok (.bl b) h) = .ok (.bl b) h:=by have:=zjf h [] b;simpa using this
@[simp] theorem zwz (h:MH):gc h (.ok .non h) = .ok .non h:=by have:=zlX h [];simpa using this
theorem zk7 (n b:Nat) (h2:MH):∀ (ds:List D) (ms:List Nat),nrs ds=true->zb1 n b h2 ds ms=some (ds,ms)
 | [],ms,_=>rfl
 | d :: ds,ms,hn=>by
   unfold nrs at hn
   rw [Bool.and_eq_true]at hn
   have ih:=zk7 n b h2 ds ms hn.2
   cases d with
   | obj m=>simp [D.nr]at hn
   | _=>simp only [zb1,hn.1,if_pos,ih];rfl
theorem zkw (h g:MH) {ds:List D} (hn:nrs ds=true):gc h (.ok (.tup ds) (h++g)) = .ok (.tup ds) h:=by
 simp only [gc,zc6,if_pos,gcV,zk7 _ _ _ _ _ hn]
 simp
theorem zg3 (h:MH) {ds:List D} (hn:nrs ds=true):gc h (.ok (.tup ds) h) = .ok (.tup ds) h:=by have:=zkw h [] hn;simpa using this
theorem ziZ (h g:MH) {k:Nat}{o:O} (e:g[k]?=some o) (f:o.flat=true):gc h (.ok (.obj (h.length+k)) (h++g)) = .ok (.obj h.length) (h++[o]):=by
 have hlt:¬ h.length+k < h.length:=by omega
 simp only [gc,zc6,if_pos,gcV,if_neg hlt,zhj,e]
 cases o with
 | ins c fs=>cases f
 | _=>simp [f]
theorem zmm (h g:MH) {o:O} (f:o.flat=true):gc h (.ok (.obj h.length) (h++o :: g)) = .ok (.obj h.length) (h++[o]):=ziZ h (o :: g) (k:=0) rfl f
end
end MI
end
section
namespace MI
noncomputable def zwd:D->D->ME D
 | .int i,.int j=>if 0<=j∧j<=1000000∧i.natAbs < 18446744073709551616 then zb (.int (i ^ j.toNat)) else zK
 | _,_=>zK
noncomputable def rz (a b c:Int):Nat:=if a < b then ((b - a - 1) / c+1).toNat else 0
noncomputable def zvA (a b c:ME D):ME Src:=zm a fun x=>zm b fun y=>zm c fun z=>match x,y,z with
 | .int i,.int j,.int k=>if (-1000000<=i∧i<=1000000)∧(-1000000<=j∧j<=1000000)∧0 < k∧k<=1000000 then zb ((List.range (rz i j k)).map fun (m:Nat)=>D.int (i+m * k),[]) else zK
 | _,_,_=>zK
noncomputable def zdx (c:Nat):MS:=fun _ h=> .ex c h
noncomputable def zv4 (nx:Nat) (kinds:Nat->List Bool) (m:MS):MS:=fun e h=>match m e h with
 | .ex c h1=>if c < nx then .rt (.obj h1.length) (h1++[.lst ((kinds c).map .bl)]) else .bad
 | r=>r
end MI
end
section
namespace MI
open PySem (Str)
noncomputable def zh9 (a:ME D):ME (List D):=zm a fun x=>match x with
 | .obj n=>zm (zcJ n) fun xs=>zb xs.reverse
 | _=>zK
noncomputable def zg7 (nx:Nat) (tab:Nat->Str) (m:MS):MS:=fun e h=>match m e h with
 | .ex c h1=>if c < nx then .rt (.str (tab c)) h1 else .bad
 | r=>r
end MI
end
section
open PySem MI
namespace My
noncomputable def zi7 (c:Nat):Str:=if c=2 then (Str.ofString "none") else (Str.ofString "other")
noncomputable def zdF:Nat->Nat->Bool:=fun a b=>[(0,0),(1,1),(2,2)].contains (a,b)
noncomputable def zd9:Nat->Nat->Bool:=fun a b=>[(0,0),(0,1),(0,2),(1,3),(2,4)].contains (a,b)
noncomputable def zdd:MF:=zS 1 1
   (zC (zcW (zcs .int (var 0)) (un zjV (zcs .bool (var 0)))))
noncomputable def zcE:MF:=zS 3 3
   (zC (zcW (zj zdd (za (var 0) ze)) (zdW leV leV (var 1) (var 0) (var 2))))
noncomputable def zc2:MF:=zS 2 2
   (zC (zj zcE (za (var 1) (za (zb (.int (0))) (za (bin z3 (var 0) (zb (.int (1)))) ze)))))
noncomputable def zfk:MF:=zS 2 2
   (zg (ifS (orT (zbn (tru (zcs .tuple (var 1)))) (tst (bin neV (zbd (zbs (var 1))) (zb (.int (3)))))) (zC (zb (.bl false))) zB)
   (zg (ifS (orT (zbn (tru (zj zc2 (za (var 0) (za (bin zf (var 1) (zb (.int (0)))) ze))))) (zbn (tru (zj zc2 (za (var 0) (za (bin zf (var 1) (zb (.int (1)))) ze)))))) (zC (zb (.bl false))) zB)
   (zC (zcW (bin neV (bin zf (var 1) (zb (.int (0)))) (bin zf (var 1) (zb (.int (1))))) (zj zcE (za (bin zf (var 1) (zb (.int (2)))) (za (un zbi (zb (.int (1000000)))) (za (zb (.int (1000000))) ze))))))))
noncomputable def zeJ:MF:=zS 2 2
   (zg (ifS (zbn (tru (zj zfk (za (var 0) (za (var 1) ze))))) (zdx 0) zB)
   (zC (zG (za (bin zf (var 1) (zb (.int (0)))) (za (bin zf (var 1) (zb (.int (1)))) (za (bin zf (var 1) (zb (.int (2)))) ze))))))
noncomputable def zdq:MF:=zS 3 3
   (zg (ifS (tst (bin eqV (var 2) (zb (.int (0))))) (zC (bin eqV (var 0) (var 1))) zB)
   (zC (bin eqV (bin zbj (bin z3 (var 0) (var 1)) (var 2)) (zb (.int (0))))))
noncomputable def zde:MF:=zS 4 4
   (zg (ifS (zbn (tru (zj zcE (za (var 1) (za (zb (.int (1))) (za (zb (.int (1000000))) ze)))))) (zdx 0) zB)
   (zg (ifS (zbn (tru (zj zcE (za (var 3) (za (zb (.int (0))) (za (zb (.int (1000000))) ze)))))) (zdx 0) zB)
   (zg (ifS (zbn (tru (zcs .list (var 2)))) (zdx 0) zB)
   (zg (zep zd9 0 (var 0) (var 1))
   (zg (zep zd9 1 (var 0) (var 3))
   (zep zd9 2 (var 0) (zF (zcu [none,some 1] (.nm 0) (itL (var 2)) zb9 (zj zeJ (za (var 1) (za (var 0) ze)))))))))))
noncomputable def zho:MF:=zS 1 1
   (zC (zF (zbS (fld 2 (var 0)))))
noncomputable def zdN:MF:=zS 1 1
   (zC (zG (za (bin zf (var 0) (zb (.int (1)))) (za (bin zf (var 0) (zb (.int (0)))) (za (un zbi (bin zf (var 0) (zb (.int (2))))) ze)))))
noncomputable def zQ:List (Nat×MF):=[(0,zho)]
noncomputable def zdr:MF:=zS 1 1
   (zC (zj (mkF 0 zde) (za (fld 0 (var 0)) (za (zF (zcu [none] (.nm 0) (itL (zR zQ (var 0) ze)) zb9 (zj zdN (za (var 0) ze)))) (za (fld 1 (var 0)) ze)))))
noncomputable def zds:MF:=zS 2 2
   (zg (ifS (orT (zbn (tru (ze6 zdF 0 (var 0)))) (zbn (tru (ze6 zdF 0 (var 1))))) (zdx 3) zB)
   (zg (ifS (orT (tst (bin neV (fld 0 (var 0)) (fld 0 (var 1)))) (tst (bin neV (fld 1 (var 0)) (fld 1 (var 1))))) (zdx 3) zB)
   (zC (zj (mkF 0 zde) (za (fld 0 (var 0)) (za (zF (zcm (zR zQ (var 0) ze) (zbS (zR zQ (var 1) ze)))) (za (fld 1 (var 0)) ze)))))))
noncomputable def zfl:MF:=zS 2 2
   (zC (zj zcE (za (var 1) (za (zb (.int (0))) (za (bin z3 (zbd (zbs (var 0))) (zb (.int (1)))) ze)))))
noncomputable def zeK:MF:=zS 2 2
   (zg (ifS (orT (zbn (tru (zcs .tuple (var 1)))) (tst (bin neV (zbd (zbs (var 1))) (zb (.int (2)))))) (zC (zb (.bl false))) zB)
   (zC (zcW (zj zfl (za (var 0) (za (bin zf (var 1) (zb (.int (0)))) ze))) (zcW (zj zdd (za (bin zf (var 1) (zb (.int (1)))) ze)) (bin inV (bin zf (var 1) (zb (.int (1)))) (zG (za (zb (.int (1))) (za (zb (.int (-1))) ze))))))))
noncomputable def zcg:MF:=zS 2 3
   (zg (zk (.nm 2) (bin zf (var 0) (bin zf (var 1) (zb (.int (0))))))
   (zC (ifE (tst (bin eqV (bin zf (var 1) (zb (.int (1)))) (zb (.int (1))))) (var 2) (zj zdN (za (var 2) ze)))))
noncomputable def zfm:MF:=zS 3 7
   (zg (ifS (orT (zbn (tru (zj zc2 (za (fld 0 (var 0)) (za (var 1) ze))))) (zbn (tru (zcs .list (var 2))))) (zC (zb .non)) zB)
   (zg (zk (.nm 3) (zR zQ (var 0) ze))
   (zg (zk (.nm 4) (zF (zbq ze)))
   (zg (zk (.nm 5) (var 1))
   (zg (zcz (.nm 6) (itL (var 2))
   (zg (ifS (zbn (tru (zj zeK (za (var 3) (za (var 6) ze))))) (zC (zb .non)) zB)
   (zg (zbh (zbu (var 4) (zj zcg (za (var 3) (za (var 6) ze)))))
   (zg (ifS (tst (bin neV (bin zf (bin zf (var 4) (un zbi (zb (.int (1))))) (zb (.int (0)))) (var 5))) (zC (zb .non)) zB)
   (zk (.nm 5) (bin zf (bin zf (var 4) (un zbi (zb (.int (1))))) (zb (.int (1)))))))))
   (zC (var 4)))))))
noncomputable def zfn:MF:=zS 1 1
   (zC (zF (zhZ (zbd (zbS (zR zQ (var 0) ze))))))
noncomputable def zea:MF:=zS 2 5
   (zg (zk (.nm 2) (zR zQ (var 0) ze))
   (zg (zk (.nm 3) (zF (zcu [none] (.nm 0) (itR (fld 0 (var 0))) zb9 (zF (zbq ze)))))
   (zg (zcz (.nm 4) (itL (var 1))
   (zg (zbh (zbu (bin zf (var 3) (bin zf (bin zf (var 2) (var 4)) (zb (.int (0))))) (zG (za (var 4) (za (zb (.int (1))) ze)))))
   (zbh (zbu (bin zf (var 3) (bin zf (bin zf (var 2) (var 4)) (zb (.int (1))))) (zG (za (var 4) (za (zb (.int (-1))) ze)))))))
   (zC (var 3)))))
noncomputable def zdO:MF:=zS 4 9
   (zg (zdT (var 3) (var 2) (zb .non))
   (zg (zk (.nm 4) (zF (zbq (za (var 2) ze))))
   (zg (zk (.nm 5) (zb (.int (0))))
   (zgU (tst (bin ltV (var 5) (zbd (zbs (var 4))))) (zg (zk (.nm 6) (bin zf (var 4) (var 5)))
   (zg (zcz (.nm 7) (itL (bin zf (var 1) (var 6)))
   (zg (zk (.nm 8) (bin zf (zj zcg (za (var 0) (za (var 7) ze))) (zb (.int (1)))))
   (ifS (tst (bin zcb (var 8) (var 3))) (zg (zdT (var 3) (var 8) (var 7))
   (zbh (zbu (var 4) (var 8)))) zB)))
   (zfW zE 5 (zb (.int (1))))))))))
noncomputable def zfo:MF:=zS 3 4
   (zg (zk (.nm 3) zhW)
   (zg (zbh (zj zdO (za (zR zQ (var 0) ze) (za (zj zea (za (var 0) (za (var 1) ze))) (za (var 2) (za (var 3) ze))))))
   (zC (var 3))))
noncomputable def zfp:MF:=zS 2 6
   (zg (zk (.nm 2) (zR zQ (var 0) ze))
   (zg (zk (.nm 3) (zj zea (za (var 0) (za (var 1) ze))))
   (zg (zk (.nm 4) zhW)
   (zg (zcz (.nm 5) (itR (fld 0 (var 0)))
   (ifS (tst (bin zcb (var 5) (var 4))) (zbh (zj zdO (za (var 2) (za (var 3) (za (var 5) (za (var 4) ze)))))) zB))
   (zC (var 4))))))
noncomputable def zfq:MF:=zS 3 6
   (zg (zk (.nm 3) (zR zQ (var 0) ze))
   (zg (zk (.nm 4) (zF (zbq ze)))
   (zg (zk (.nm 5) (var 2))
   (zg (zgU (tst (bin zdC (bin zf (var 1) (var 5)) (zb .non))) (zg (zbh (zbu (var 4) (bin zf (var 1) (var 5))))
   (zk (.nm 5) (bin zf (zj zcg (za (var 3) (za (bin zf (var 1) (var 5)) ze))) (zb (.int (0)))))))
   (zg (zbh (zhV (var 4)))
   (zC (var 4)))))))
noncomputable def zfr:MF:=zS 1 1
   (zC (zF (zh0 (zg2 zdK [none] (.nm 0) (var 0) (tst (bin zdC (var 0) (zb .non))) (bin zf (var 0) (zb (.int (0))))))))
noncomputable def zfs:MF:=zS 2 2
   (zC (zcW (zcs .list (var 0)) (zcW (bin eqV (zbd (zbs (var 0))) (var 1)) (zhi (zcu [none] (.nm 0) (itL (var 0)) zb9 (zj zdd (za (var 0) ze)))))))
noncomputable def zhp:MF:=zS 2 2
   (zep zd9 3 (var 0) (zF (zbS (var 1))))
noncomputable def zhq:MF:=zS 2 3
   (zg (ifS (zbn (tru (zj zfs (za (fld 3 (var 0)) (za (fld 0 (var 1)) ze))))) (zC (zb (.bl false))) zB)
   (zg (zk (.nm 2) (fld 3 (var 0)))
   (zC (zhi (zcu [none,some 1,some 2] (.nm 0) (itL (zR zQ (var 1) ze)) zb9 (zj zdq (za (bin z3 (bin zf (var 2) (bin zf (var 0) (zb (.int (1))))) (bin zf (var 2) (bin zf (var 0) (zb (.int (0)))))) (za (bin zf (var 0) (zb (.int (2)))) (za (fld 1 (var 1)) ze)))))))))
noncomputable def zgm:MF:=zS 2 2
   (zep zd9 4 (var 0) (zF (zbS (var 1))))
noncomputable def zft:MF:=zS 2 2
   (ifS (zbn (tru (zj zc2 (za (fld 0 (var 0)) (za (var 1) ze))))) (zdx 1) zB)
noncomputable def zeb:MF:=zS 3 5
   (zg (zbh (zj zft (za (var 0) (za (var 1) ze))))
   (zg (zk (.nm 3) (zj zfm (za (var 0) (za (var 1) (za (var 2) ze)))))
   (zg (ifS (tst (bin isN (var 3) (zb .non))) (zdx 2) zB)
   (zg (zk (.nm 4) (ifE (tru (var 3)) (bin zf (bin zf (var 3) (un zbi (zb (.int (1))))) (zb (.int (1)))) (var 1)))
   (zC (zG (za (var 4) (za (zhQ (zcu [none] (.nm 0) (itL (var 3)) zb9 (bin zf (var 0) (zb (.int (2)))))) ze))))))))
noncomputable def zfu:MF:=zS 2 7
   (zg (zk (.nm 2) (zR zQ (var 0) ze))
   (zg (zk (.nm 3) (zF (zim (zF (zbq (za (zb (.int (0))) ze))) (fld 0 (var 0)))))
   (zg (zhh zdz (.tp [4,5]) (var 1)
   (ifS (tst (bin zdC (var 5) (zb .non))) (zg (zk (.nm 6) (zj zcg (za (var 2) (za (var 5) ze))))
   (zdT (var 3) (var 4) (bin zE (bin zf (var 3) (bin zf (var 6) (zb (.int (0))))) (bin zf (var 6) (zb (.int (2))))))) zB))
   (zC (var 3)))))
noncomputable def zeL:MF:=zS 3 4
   (zg (zk (.nm 3) (bin zf (zR zQ (var 0) ze) (var 2)))
   (zC (zF (zcm (zF (zbq (za (zG (za (var 2) (za (zb (.int (1))) ze))) ze))) (zbS (zj zfq (za (var 0) (za (zj zfo (za (var 0) (za (zj zfr (za (var 1) ze)) (za (bin zf (var 3) (zb (.int (1)))) ze)))) (za (bin zf (var 3) (zb (.int (0)))) ze)))))))))
noncomputable def zec:MF:=zS 1 5
   (zg (zk (.nm 1) (zj zfp (za (var 0) (za (zj zfn (za (var 0) ze)) ze))))
   (zg (zk (.nm 2) (zj zfu (za (var 0) (za (var 1) ze))))
   (zg (zcz (.tp [3,4]) (itE (zR zQ (var 0) ze))
   (ifS (zbn (tru (zj zdq (za (bin z3 (bin zf (var 2) (bin zf (var 4) (zb (.int (1))))) (bin zf (var 2) (bin zf (var 4) (zb (.int (0)))))) (za (bin zf (var 4) (zb (.int (2)))) (za (fld 1 (var 0)) ze)))))) (zC (zj (mkF 2 zgm) (za (zj zeL (za (var 0) (za (var 1) (za (var 3) ze)))) ze))) zB))
   (zC (zj (mkF 1 zhp) (za (var 2) ze))))))
noncomputable def zbo:MF:=zS 2 2
   (zg (ifS (tst (bin ltV (var 1) (zbd (zbs (var 0))))) (zC (bin zf (var 0) (var 1))) zB)
   (zC (zb (.int (0)))))
noncomputable def zu:MF:=zS 3 4
   (zg (zk (.nm 3) (zG (za (zb (.int (1000003))) (za (zb (.int (1000033))) (za (zb (.int (1000037))) (za (zb (.int (1000039))) (za (zb (.int (1000081))) (za (zb (.int (1000099))) (za (zb (.int (1000117))) (za (zb (.int (1000121))) (za (zb (.int (1000133))) (za (zb (.int (1000151))) (za (zb (.int (1000159))) (za (zb (.int (1000171))) (za (zb (.int (1000183))) (za (zb (.int (1000187))) (za (zb (.int (1000193))) (za (zb (.int (1000199))) ze))))))))))))))))))
   (zC (bin zbj (bin zbj (bin zE (bin zbr (var 0) (zb (.int (48271)))) (bin zbr (var 1) (zb (.int (69621))))) (bin zf (var 3) (bin zbj (var 1) (zb (.int (16)))))) (var 2))))
noncomputable def zeM:MF:=zS 1 15
   (zg (zk (.nm 1) (bin zcH (bin zbr (zbd (zbs (var 0))) (bin zf (zG (za (zb (.int (1))) (za (zb (.int (2))) (za (zb (.int (3))) ze)))) (zj zu (za (zj zbo (za (var 0) (za (zb (.int (1))) ze))) (za (zb (.int (2))) (za (zb (.int (3))) ze)))))) (zb (.int (3)))))
   (zg (zk (.nm 2) (bin zE (zb (.int (2))) (zj zu (za (zj zbo (za (var 0) (za (zb (.int (0))) ze))) (za (zb (.int (1))) (za (bin zE (zb (.int (2))) (var 1)) ze))))))
   (zg (zk (.nm 3) (bin zf (zG (za (zb (.int (0))) (za (zb (.int (0))) (za (zb (.int (2))) (za (zb (.int (3))) (za (zb (.int (12))) (za (zb (.int (1))) (za (zb (.int (1000000))) ze)))))))) (zj zu (za (zj zbo (za (var 0) (za (zb (.int (2))) ze))) (za (zb (.int (3))) (za (zb (.int (7))) ze))))))
   (zg (zk (.nm 4) (bin zf (zG (za (zb (.int (2))) (za (zb (.int (3))) (za (zb (.int (40))) (za (zb (.int (400000))) ze))))) (zj zu (za (zj zbo (za (var 0) (za (zb (.int (0))) ze))) (za (zb (.int (4))) (za (zb (.int (4))) ze))))))
   (zg (zk (.nm 5) (bin zf (zG (za (zb (.int (0))) (za (zb (.int (0))) (za (zb (.int (5))) (za (zb (.int (30))) ze))))) (zj zu (za (zj zbo (za (var 0) (za (zb (.int (1))) ze))) (za (zb (.int (5))) (za (zb (.int (4))) ze))))))
   (zg (zk (.nm 6) (zcW (bin gtV (var 2) (zb (.int (3)))) (bin eqV (zj zu (za (zj zbo (za (var 0) (za (zb (.int (2))) ze))) (za (zb (.int (8))) (za (zb (.int (4))) ze)))) (zb (.int (0))))))
   (zg (zk (.nm 7) (zF (zbq ze)))
   (zg (zcz (.nm 8) (itR (zbd (zbs (var 0))))
   (zg (zk (.nm 9) (zj zu (za (bin zf (var 0) (var 8)) (za (bin zE (bin zbj (var 8) (zb (.int (5)))) (zb (.int (1)))) (za (var 2) ze)))))
   (zg (zk (.nm 10) (bin zbj (bin zE (bin zE (var 9) (zb (.int (1)))) (zj zu (za (bin zf (var 0) (var 8)) (za (bin zE (bin zbj (var 8) (zb (.int (7)))) (zb (.int (2)))) (za (bin z3 (var 2) (zb (.int (1)))) ze))))) (var 2)))
   (zg (ifS (tru (var 6)) (zg (zk (.nm 11) (ifE (tst (bin ltV (var 9) (bin zcH (var 2) (zb (.int (2)))))) (zb (.int (0))) (bin zcH (var 2) (zb (.int (2))))))
   (zg (zk (.nm 12) (ifE (tst (bin eqV (var 11) (zb (.int (0))))) (bin zcH (var 2) (zb (.int (2)))) (bin z3 (var 2) (var 11))))
   (zg (zk (.nm 13) (bin zE (zb (.int (1))) (zj zu (za (bin zf (var 0) (var 8)) (za (bin zE (bin zbj (var 8) (zb (.int (7)))) (zb (.int (2)))) (za (bin z3 (var 12) (zb (.int (1)))) ze))))))
   (zk (.nm 10) (bin zE (var 11) (bin zbj (bin zE (bin z3 (var 9) (var 11)) (var 13)) (var 12))))))) zB)
   (zg (zk (.nm 14) (bin z3 (zj zu (za (bin zbr (var 10) (zb (.int (7919)))) (za (zb (.int (6))) (za (var 4) ze)))) (zj zu (za (bin zbr (var 9) (zb (.int (7919)))) (za (zb (.int (6))) (za (var 4) ze))))))
   (zg (ifS (zbp (tst (bin gtV (var 5) (zb (.int (0))))) (tst (bin eqV (zj zu (za (bin zf (var 0) (var 8)) (za (bin zE (bin zbj (var 8) (zb (.int (3)))) (zb (.int (9)))) (za (var 5) ze)))) (zb (.int (0)))))) (zk (.nm 14) (bin zE (var 14) (zb (.int (1))))) zB)
   (zg (ifS (zbp (tst (bin gtV (var 3) (zb (.int (0))))) (zbp (tst (bin eqV (zj zu (za (bin zf (var 0) (var 8)) (za (zb (.int (12))) (za (zb (.int (3))) ze)))) (zb (.int (0))))) (tst (bin ltV (bin zE (zdG (var 14)) (var 3)) (zb (.int (1000000))))))) (zk (.nm 14) (bin z3 (var 14) (var 3))) zB)
   (zbh (zbu (var 7) (zG (za (var 9) (za (var 10) (za (var 14) ze)))))))))))))
   (zC (zG (za (var 2) (za (var 7) (za (var 3) ze)))))))))))))
noncomputable def zdP:MF:=zS 3 9
   (zg (zd7 [3,4] (za (zF (zbq (za (var 1) ze))) (za (zb (.int (0))) ze)))
   (zg (zcz (.nm 5) (itL (var 2))
   (zg (ifS (orT (zbn (tru (zcs .tuple (var 5)))) (tst (bin neV (zbd (zbs (var 5))) (zb (.int (2)))))) (zC (zG (za (zF (zbq ze)) (za (zb (.int (0))) ze)))) zB)
   (zg (zk (.tp [6,7]) (var 5))
   (zg (ifS (orT (tru (zcs .bool (var 6))) (orT (zbn (tru (zcs .int (var 6)))) (orT (zbn (tst (zdW leV ltV (zb (.int (0))) (var 6) (zbd (zbs (var 0)))))) (tst (bin zcb (var 7) (zG (za (zb (.int (1))) (za (un zbi (zb (.int (1)))) ze)))))))) (zC (zG (za (zF (zbq ze)) (za (zb (.int (0))) ze)))) zB)
   (zg (zk (.nm 8) (ifE (tst (bin eqV (var 7) (zb (.int (1))))) (zd4 (bin zf (var 0) (var 6)) noP (zbz (zb (.int (2))))) (zhe (bin zf (var 0) (var 6)))))
   (zg (ifS (tst (bin neV (bin zf (var 3) (un zbi (zb (.int (1))))) (bin zf (var 8) (zb (.int (0)))))) (zC (zG (za (zF (zbq ze)) (za (zb (.int (0))) ze)))) zB)
   (zg (zbh (zbu (var 3) (bin zf (var 8) (zb (.int (1))))))
   (zk (.nm 4) (bin zE (var 4) (bin zbr (var 7) (bin zf (bin zf (var 0) (var 6)) (zb (.int (2))))))))))))))
   (zC (zG (za (var 3) (za (var 4) ze))))))
noncomputable def zb8:MF:=zS 3 5
   (zg7 5 zi7 (zC (zj zeb (za (var 0) (za (var 1) (za (var 2) ze))))))
noncomputable def zeN:MF:=zS 4 17
   (zg (zk (.nm 4) (zj zu (za (zj zbo (za (var 3) (za (zb (.int (1))) ze))) (za (zb (.int (3))) (za (var 1) ze)))))
   (zg (zd7 [5,6,7] (za (var 4) (za (zF (zbq ze)) (za (zb (.int (0))) ze))))
   (zg (zcz (.nm 8) (itR (zbd (zbs (var 2))))
   (ifS (tst (bin inV (var 4) (zd4 (bin zf (var 2) (var 8)) noP (zbz (zb (.int (2))))))) (zg (zk (.nm 9) (ifE (tst (bin eqV (var 4) (bin zf (bin zf (var 2) (var 8)) (zb (.int (0)))))) (zb (.int (1))) (un zbi (zb (.int (1))))))
   (zg (zbh (zbu (var 6) (zG (za (var 8) (za (var 9) ze)))))
   (zg (zk (.nm 4) (ifE (tst (bin eqV (var 9) (zb (.int (1))))) (bin zf (bin zf (var 2) (var 8)) (zb (.int (1)))) (bin zf (bin zf (var 2) (var 8)) (zb (.int (0))))))
   (zk (.nm 7) (bin zE (var 7) (bin zbr (var 9) (bin zf (bin zf (var 2) (var 8)) (zb (.int (2)))))))))) zB))
   (zg (zk (.nm 10) (zF (zbS (var 6))))
   (zg (ifS (orT (tst (bin neV (zj zb8 (za (var 0) (za (var 5) (za (var 10) ze)))) (zG (za (var 4) (za (var 7) ze))))) (tst (bin neV (var 10) (var 6)))) (zC (zb (.bl false))) zB)
   (zg (zk (.nm 11) (zF (zcu [none,none] (.tp [0,1]) (itL (zF (zh9 (var 6)))) zb9 (zG (za (var 0) (za (un zbi (var 1)) ze))))))
   (zg (ifS (tst (bin neV (zj zb8 (za (var 0) (za (var 5) (za (zF (zcm (var 6) (zbS (var 11)))) ze)))) (zG (za (var 5) (za (zb (.int (0))) ze))))) (zC (zb (.bl false))) zB)
   (zg (ifS (tst (bin neV (zj zb8 (za (var 0) (za (var 5) (za (zF (zcm (zF (zcm (var 6) (zbS (var 11)))) (zbS (var 6)))) ze)))) (zG (za (var 4) (za (var 7) ze))))) (zC (zb (.bl false))) zB)
   (zg (zcz (.nm 8) (itR (zb (.int (5))))
   (zg (zk (.nm 12) (zj zbo (za (var 3) (za (var 8) ze))))
   (zg (zk (.nm 13) (zG (za (bin z3 (zj zu (za (var 12) (za (zb (.int (4))) (za (bin zE (zbd (zbs (var 2))) (zb (.int (2)))) ze)))) (zb (.int (1)))) (za (bin zf (zG (za (zb (.int (1))) (za (un zbi (zb (.int (1)))) (za (zb (.int (0))) (za (zb (.int (2))) ze))))) (zj zu (za (var 12) (za (zb (.int (5))) (za (zb (.int (4))) ze))))) ze))))
   (zg (zk (.nm 14) (zF (zcm (zF (zca (var 6) noP (zbz (zj zu (za (var 12) (za (zb (.int (6))) (za (bin zE (zbd (zbS (var 6))) (zb (.int (1)))) ze))))))) (zbq (za (var 13) ze)))))
   (zg (zk (.tp [15,16]) (zj zdP (za (var 2) (za (var 5) (za (var 14) ze)))))
   (ifS (tst (bin neV (zj zb8 (za (var 0) (za (var 5) (za (var 14) ze)))) (ifE (tst (bin eqV (var 15) (zF (zbq ze)))) (zb (.str (Str.ofString "none"))) (zG (za (bin zf (var 15) (un zbi (zb (.int (1))))) (za (var 16) ze)))))) (zC (zb (.bl false))) zB))))))
   (zC (zb (.bl true))))))))))))
noncomputable def zhl:List (Nat×MF):=[(1,zhq)]
noncomputable def zhr:MF:=zS 1 11
   (zg (zk (.tp [1,2,3]) (zj zeM (za (var 0) ze)))
   (zg (zk (.nm 4) (zj (mkF 0 zde) (za (var 1) (za (var 2) (za (var 3) ze)))))
   (zg (zk (.nm 5) (zj zdr (za (var 4) ze)))
   (zg (ifS (orT (tst (bin neV (zR zQ (var 5) ze) (zF (zcu [none,none,none] (.tp [0,1,2]) (itL (var 2)) zb9 (zG (za (var 1) (za (var 0) (za (un zbi (var 2)) ze)))))))) (tst (bin neV (zG (za (fld 0 (var 5)) (za (fld 1 (var 5)) ze))) (zG (za (var 1) (za (var 3) ze)))))) (zC (zb (.bl false))) zB)
   (zg (zk (.nm 6) (zj zu (za (zj zbo (za (var 0) (za (zb (.int (3))) ze))) (za (zb (.int (2))) (za (bin zE (zbd (zbs (var 2))) (zb (.int (1)))) ze)))))
   (zg (zd7 [7,8] (za (zj (mkF 0 zde) (za (var 1) (za (zF (zca (var 2) noP (zbz (var 6)))) (za (var 3) ze)))) (za (zj (mkF 0 zde) (za (var 1) (za (zF (zca (var 2) (zbz (var 6)) noP)) (za (var 3) ze)))) ze)))
   (zg (zk (.nm 9) (zj zds (za (var 7) (za (var 8) ze))))
   (zg (ifS (orT (tst (bin neV (zR zQ (var 9) ze) (var 2))) (orT (tst (bin neV (zG (za (fld 0 (var 9)) (za (fld 1 (var 9)) ze))) (zG (za (var 1) (za (var 3) ze))))) (tst (bin neV (zR zQ (zj zdr (za (var 5) ze)) ze) (var 2))))) (zC (zb (.bl false))) zB)
   (zg (ifS (orT (tst (bin neV (zR zQ (zj zds (za (var 8) (za (var 7) ze))) ze) (zF (zcm (zF (zca (var 2) (zbz (var 6)) noP)) (zca (var 2) noP (zbz (var 6))))))) (orT (tst (bin neV (zR zQ (var 7) ze) (zF (zca (var 2) noP (zbz (var 6)))))) (tst (bin neV (zR zQ (var 8) ze) (zF (zca (var 2) (zbz (var 6)) noP)))))) (zC (zb (.bl false))) zB)
   (zg (zk (.nm 10) (zj zec (za (var 9) ze)))
   (zg (ifS (zbp (tru (ze6 zdF 1 (var 10))) (zbn (zbp (tru (zR zhl (var 10) (za (var 7) ze))) (tru (zR zhl (var 10) (za (var 8) ze)))))) (zC (zb (.bl false))) zB)
   (zC (zcW (zj zeN (za (var 4) (za (var 1) (za (var 2) (za (var 0) ze))))) (bin eqV (zR zQ (var 4) ze) (var 2)))))))))))))))
end My
end
section
open PySem MI
namespace Mx
open My
structure T3 where
 a:Int
 b:Int
 n:Int
noncomputable def tD (t:T3):D := .tup [.int t.a,.int t.b,.int t.n]
@[simp] theorem zvC (t:T3) (e:zD) (h:MH):zf (tD t) (.int 0) e h = .ok (.int t.a) h:=rfl
@[simp] theorem zvS (t:T3) (e:zD) (h:MH):zf (tD t) (.int 1) e h = .ok (.int t.b) h:=rfl
@[simp] theorem zwx (t:T3) (e:zD) (h:MH):zf (tD t) (.int 2) e h = .ok (.int t.n) h:=rfl
theorem zbe (n:Nat) (i:Int) (e:zD) (h:MH):zf (.obj n) (.int i) e h=match h[n]? with
   | some (.lst xs)=>(match MI.atI xs i with
     | some d=> .ok d h
     | none=> .bad)
   | some (.scr xs)=>(match MI.atI xs i with
     | some d=> .ok d h
     | none=> .bad)
   | some (.dic kvs)=>(match look i kvs with
     | some d=> .ok d h
     | none=> .bad)
   | _=> .bad:=rfl
theorem zq2 (t:T3):(tD t).nr=true:=rfl
theorem zfY {α:Type} (f:α->D) (hf:∀ a,(f a).nr=true):∀ l:List α,nrs (l.map f)=true
 | []=>rfl
 | a :: l=>by simp [nrs,hf a,zfY f hf l]
theorem zga (l:List T3):nrs (l.map tD)=true:=zfY _ zq2 l
structure T3.Ok (P:Int) (t:T3):Prop where
 a0:0<=t.a
 a1:t.a < P
 b0:0<=t.b
 b1:t.b < P
 ne:t.a≠t.b
 n0:-1000000<=t.n
 n1:t.n<=1000000
@[simp] theorem zhs (i:Int) (h:MH):app zdd [.int i] h = .ok (.bl true) h:=by
 unfold app zdd;simp [zbH]
@[simp] theorem zht (i a b:Int) (h:MH):app zcE [.int i,.int a,.int b] h = .ok (.bl (decide (a<=i) && decide (i<=b))) h:=by
 unfold app zcE;simp
 by_cases h1:a<=i <;> simp [h1]
@[simp] theorem zhu (p i:Int) (h:MH):app zc2 [.int p,.int i] h = .ok (.bl (decide (0<=i) && decide (i < p))) h:=by
 have:(i<=p - 1)↔i < p:=by omega
 unfold app zc2;simp [this]
@[simp] theorem zhv (p:Int) (t:T3) (ht:t.Ok p) (h:MH):app zfk [.int p,tD t] h = .ok (.bl true) h:=by
 unfold app zfk;simp [zbH,tD,zf,ht.a0,ht.a1,ht.b0,ht.b1,ht.ne,ht.n0,ht.n1]
@[simp] theorem zgn (p:Int) (t:T3) (ht:t.Ok p) (h:MH):app zeJ [.int p,tD t] h = .ok (tD t) h:=by
 unfold app zeJ;simp [ht]
 simp [tD,zf]
 exact zg3 h ϱ
theorem zjH {α:Type}{t:Tg}{gs:List (Nat×O)}{cond:ME Bool}{elt:ME D}{h:MH} (f g:α->D) (c:α->Bool) (I:zD->Prop) (hg:guard gs h=true) :
   ∀ (xs:List α),(∀ x∈xs,∀ e,I e->∃ e1,zcX t (f x) e=some e1∧I e1∧cond e1 h = .ok (c x) h∧(c x=true->elt e1 h = .ok (g x) h)) ->
   ∀ acc e,I e->zbI t gs cond elt (xs.map f) acc e h = .ok (acc++(xs.filter c).map g) h
 | [],_,acc,e,_=>by simp [zbI,hg]
 | x :: xs,st,acc,e,he=>by
   obtain ⟨e1,h1,h2,h3,h4⟩:=st x ς e he
   have ih:=zjH f g c I hg xs (fun y hy=>st y (by simp [hy]))
   rw [List.map_cons,zbI,if_pos hg,h1]
   cases hc:c x with
   | true=>simp [h3,h4 hc,hc,ih _ _ h2]
   | false=>simp [h3,hc,ih _ _ h2]
theorem ze3 {α:Type}{t:Tg}{gs:List (Nat×O)}{elt:ME D}{h:MH} (f g:α->D) (I:zD->Prop) (hg:guard gs h=true)
   (xs:List α) (st:∀ x∈xs,∀ e,I e->∃ e1,zcX t (f x) e=some e1∧I e1∧elt e1 h = .ok (g x) h) (e:zD) (he:I e) :
   zbI t gs zb9 elt (xs.map f) [] e h = .ok (xs.map g) h:=by
 have:=zjH f g (fun _=>true) I hg xs (fun x hx e he=>by obtain ⟨e1,a,b,c⟩:=st x hx e he;exact ⟨e1,a,b,rfl,fun _=>c⟩) [] e he
 rw [List.filter_eq_self.2 (fun _ _=>rfl),List.nil_append]at this
 exact this
theorem zch {h:MH}{n:Nat}{o:O} (e:h[n]?=some o):guard [(n,o)] h=true:=by simp [MI.guard,e]
theorem zgF {α:Type}{t:Tg}{gs:List (Nat×O)}{body:MS} (f:α->D) (I:List α->zD->MH->Prop) (Q:D->MH->Prop) :
   ∀ (rest done:List α),(∀ d x r e h,d++x :: r=done++rest->I d e h->guard gs h=true∧∃ e1,zcX t (f x) e=some e1 ∧
       ((∃ e2 h2,body e1 h = .nx e2 h2∧I (d++[x]) e2 h2)∨(∃ v h2,body e1 h = .rt v h2∧Q v h2))) ->
     (∀ e h,I (done++rest) e h->guard gs h=true)->∀ e h,I done e h ->
     (∃ e2 h2,zcx t gs body (rest.map f) e h = .nx e2 h2∧I (done++rest) e2 h2)∨(∃ v h2,zcx t gs body (rest.map f) e h = .rt v h2∧Q v h2)
 | [],done,_,hl,e,h,hi=>by
   refine .inl ⟨e,h,?_,by simpa using hi⟩
   simp only [List.map_nil,zcx]
   rw [if_pos (hl e h (by simpa using hi))]
 | x :: rest,done,st,hl,e,h,hi=>by
   obtain ⟨hg,e1,hb,hr⟩:=st done x rest e h rfl hi
   simp only [List.map_cons,zcx]
   rw [if_pos hg,hb]
   dsimp only
   rcases hr with ⟨e2,h2,hb2,hi2⟩ | ⟨v,h2,hb2,hq⟩
   . rw [hb2,ztL]
     have ih:=zgF f I Q rest (done++[x]) (fun d y r e h eq=>st d y r e h (by simpa using eq)) (fun e h hi=>hl e h (by simpa using hi)) e2 h2 hi2
     simpa using ih
   . rw [hb2]
     exact .inr ⟨v,h2,rfl,hq⟩
theorem ze8 {α:Type}{t:Tg}{gs:List (Nat×O)}{body:MS} (f:α->D) (I:List α->zD->MH->Prop) (xs:List α)
   (st:∀ d x r e h,d++x :: r=xs->I d e h->guard gs h=true∧∃ e1,zcX t (f x) e=some e1∧(∃ e2 h2,body e1 h = .nx e2 h2∧I (d++[x]) e2 h2))
   (hl:∀ e h,I xs e h->guard gs h=true) (e:zD) (h:MH) (hi:I [] e h):∃ e2 h2,zcx t gs body (xs.map f) e h = .nx e2 h2∧I xs e2 h2:=by
 have:=zgF (t:=t) (gs:=gs) (body:=body) f I (fun _ _=>False) xs [] (fun d x r e h eq hi=>by
   obtain ⟨a,e1,b,c⟩:=st d x r e h (by simpa using eq) hi
   exact ⟨a,e1,b,.inl c⟩) (fun e h hi=>hl e h (by simpa using hi)) e h hi
 rcases this with h1 | ⟨_,_,_,h2⟩
 . simpa using h1
 . exact h2.elim
theorem zlN {t:ME Bool}{body:MS} (I:Nat->zD->MH->Prop) (J:zD->MH->Prop)
   (st:∀ k e h,I k e h->(t e h = .ok false h∧J e h)∨(t e h = .ok true h∧∃ k' e2 h2,k' < k∧body e h = .nx e2 h2∧I k' e2 h2)) :
   ∀ n k e h,k < n->I k e h->∃ e2 h2,zen t body n e h = .nx e2 h2∧J e2 h2
 | 0,k,e,h,hk,_=>absurd hk ω
 | n+1,k,e,h,hk,hi=>by
   rw [zen,zdB]
   rcases st k e h hi with ⟨ht,hj⟩ | ⟨ht,k',e2,h2,hk',hb,hi2⟩
   . exact ⟨e,h,by simp [ht],hj⟩
   . obtain ⟨e3,h3,hw,hj⟩:=zlN I J st n k' e2 h2 ω hi2
     exact ⟨e3,h3,by simp [ht,hb,hw],hj⟩
@[simp] theorem lk1 (a b c:D):List.lookup 1 [(0,a),(1,b),(2,c)]=some b:=rfl
@[simp] theorem lk2 (a b c:D):List.lookup 2 [(0,a),(1,b),(2,c)]=some c:=rfl
theorem zmB (h g:MH) {xs:List D} (f:nrs xs=true):gc h (.ok (.obj h.length) (h ++ .lst xs :: g)) = .ok (.obj h.length) (h++[.lst xs]):=zmm (o := .lst xs) h g f
theorem zg4 (h g:MH) {k:Nat}{xs:List D} (e:g[k]?=some (.lst xs)) (f:nrs xs=true):gc h (.ok (.obj (h.length+k)) (h++g)) = .ok (.obj h.length) (h++[.lst xs]):=ziZ (o := .lst xs) h g e f
structure zU (h:MH) (w t:Nat) (P turn:Int) (ts:List T3):Prop where
 w:h[w]?=some (.ins 0 [(0,.int P),(1,.int turn),(2,.obj t)])
 t:h[t]?=some (.lst (ts.map tD))
theorem zU.app {h:MH}{w t:Nat}{P turn:Int}{ts:List T3} (W:zU h w t P turn ts) (g:MH):zU (h++g) w t P turn ts:=⟨zy W.w g,zy W.t g⟩
theorem zU.wA {h:MH}{w t:Nat}{P turn:Int}{ts:List T3} (W:zU h w t P turn ts) (g:MH):(h++g)[w]?=some (.ins 0 [(0,.int P),(1,.int turn),(2,.obj t)]):=zy W.w g
theorem zU.tA {h:MH}{w t:Nat}{P turn:Int}{ts:List T3} (W:zU h w t P turn ts) (g:MH):(h++g)[t]?=some (.lst (ts.map tD)):=zy W.t g
theorem zgG {h:MH}{n:Nat}{P turn:Int}{ts:List T3} (hn:h[n]?=some (.lst (ts.map tD))) (hP:1<=P) (hP':P<=1000000) (ht:0<=turn) (ht':turn<=1000000) (hl:ts.length<=1000000) (hts:∀ t∈ts,t.Ok P) :
   app (mkF 0 zde) [.int P,.obj n,.int turn] h = .ok (.obj h.length) (h++[.ins 0 [(0,.int P),(1,.int turn),(2,.obj (h.length+1))],.lst (ts.map tD)]):=by
 have c:∀ g e,(∃ d,e=[d,some (.int P)])->zbI (.nm 0) [(n,.lst (ts.map tD))] zb9 (zj zeJ (za (var 1) (za (var 0) ze))) (ts.map tD) [] e (h++g) = .ok (ts.map tD) (h++g):=by
   intro g e he
   refine ze3 tD tD (fun e=>∃ d,e=[d,some (.int P)]) (zch (zy hn g)) ts ?_ e he
   rintro t ht _ ⟨d,rfl⟩
   exact ⟨_,rfl,⟨_,rfl⟩,by simp [zgn P t (hts t ht)]⟩
 unfold app mkF zde
 simp [hP,hP',ht,ht',zbH,zy hn,zd9,zdV,zb3,c,hl]
 simp only [gc]
 rw [if_pos (zc6 _ _)]
 have q:¬ h.length+1 < h.length:=by omega
 simp [gcV,nrs,zb1,O.flat,zga,D.nr,q]
theorem zgW {h:MH}{P turn:Int}{ts:List T3}:zU (h++[.ins 0 [(0,.int P),(1,.int turn),(2,.obj (h.length+1))],.lst (ts.map tD)]) h.length (h.length+1) P turn ts:=⟨ς,ς⟩
section
variable {h:MH}{w t:Nat}{P turn:Int}{ts:List T3}
theorem zbx (W:zU h w t P turn ts):app zho [.obj w] h = .ok (.obj h.length) (h++[.lst (ts.map tD)]):=by
 unfold app zho
 simp [W.w,W.t]
 exact zmB h [] (zga _)
@[simp] theorem zhw (t:T3) (h:MH):app zdN [tD t] h = .ok (tD ⟨t.b,t.a,-t.n⟩) h:=by
 unfold app zdN
 simp [tD,zf]
 exact zg3 h ϱ
noncomputable def tn (t:T3):T3:=⟨t.b,t.a,-t.n⟩
theorem zi2 {t:T3} (ht:t.Ok P):(tn t).Ok P:=⟨ht.b0,ht.b1,ht.a0,ht.a1,fun e=>ht.ne e.symm,by have:=ht.n1;simp [tn];omega,by have:=ht.n0;simp [tn];omega⟩
theorem zmv (h:MH) (g:MH) (P turn:Int) {k:Nat} (ts:List T3) (hk:g[k]?=some (.ins 0 [(0,.int P),(1,.int turn),(2,.obj (h.length+k+1))])) (hk1:g[k+1]?=some (.lst (ts.map tD))) :
   gc h (.ok (.obj (h.length+k)) (h++g)) = .ok (.obj h.length) (h++[.ins 0 [(0,.int P),(1,.int turn),(2,.obj (h.length+1))],.lst (ts.map tD)]):=by
 simp only [gc]
 rw [if_pos (zc6 _ _)]
 have q:¬ h.length+k < h.length:=by omega
 have q1:¬ h.length+k+1 < h.length:=by omega
 have e1:(h++g)[h.length+k+1]?=some (.lst (ts.map tD)):=by rw [Nat.add_assoc,zhj];exact hk1
 simp [gcV,q,hk,zb1,q1,e1,D.nr,O.flat,zga]
theorem zeO (W:zU h w t P turn ts) (hP:1<=P) (hP':P<=1000000) (ht:0<=turn) (ht':turn<=1000000) (hl:ts.length<=1000000) (hts:∀ t∈ts,t.Ok P) :
   app zdr [.obj w] h = .ok (.obj h.length) (h++[.ins 0 [(0,.int P),(1,.int turn),(2,.obj (h.length+1))],.lst ((ts.map tn).map tD)]):=by
 have c:∀ e,(∃ d,e=[d])->zbI (.nm 0) [(h.length,.lst (ts.map tD))] zb9 (zj zdN (za (var 0) ze)) (ts.map tD) [] e (h++[.lst (ts.map tD)]) = .ok (ts.map fun t=>tD (tn t)) (h++[.lst (ts.map tD)]):=by
   intro e he
   refine ze3 tD (fun t=>tD (tn t)) (fun e=>∃ d,e=[d]) (zch ς) ts ?_ e he
   rintro t ht _ ⟨d,rfl⟩
   exact ⟨_,rfl,⟨_,rfl⟩,by simp;rfl⟩
 unfold app zdr
 have c2:=zgG (h:=h++[.lst (ts.map tD),.lst ((ts.map tn).map tD)]) (n:=h.length+1) (P:=P) (turn:=turn) (ts:=ts.map tn) ς hP hP' ht ht' (by simpa using hl) (by
   intro t hm
   obtain ⟨t',h1,rfl⟩:=List.mem_map.1 hm
   exact zi2 (hts t' h1))
 simp [W.w,zQ,zbx W,zb3,c,hl,W.wA]
 simp at c2
 have e0:tD ∘ tn=fun t=>tD (tn t):=rfl
 rw [<- e0,c2]
 simp
 have:=zmv h [.lst (ts.map tD),.lst ((ts.map tn).map tD),.ins 0 [(0,.int P),(1,.int turn),(2,.obj (h.length+2+1))],.lst ((ts.map tn).map tD)] P turn (k:=2) (ts.map tn) rfl rfl
 simpa using this
end
end Mx
end
section
open PySem MI
namespace Mx
open My
theorem zeI {α:Type} [DecidableEq α]:∀ (l m:List α),l.Nodup->(∀ x∈l,x∈m)->l.length<=m.length
 | [],m,_,_=>by simp
 | x :: l,m,hn,hs=>by
   have h1:=List.nodup_cons.1 hn
   have:=zeI l (m.erase x) h1.2 (fun y hy=>(List.mem_erase_of_ne (fun (e:y=x)=>h1.1 (e ▸ hy))).2 (hs y (by simp [hy])))
   rw [List.length_erase_of_mem (hs x ς)]at this
   have:0 < m.length:=List.length_pos_of_mem (hs x ς)
   simp;omega
theorem zhR:∀ (l seen:List Int) (x:Int),x∈zcv seen l↔x∈l∧x∉seen
 | [],seen,x=>by simp [zcv]
 | y :: l,seen,x=>by
   unfold zcv
   by_cases hy:y∈seen
   . rw [if_pos hy,zhR l seen x]
     constructor
     . rintro ⟨a,b⟩;exact ⟨by simp [a],b⟩
     . rintro ⟨a,b⟩
       rcases List.mem_cons.1 a with e | e
       . exact absurd (e ▸ hy) b
       . exact ⟨e,b⟩
   . rw [if_neg hy,List.mem_cons,zhR l (y :: seen) x]
     constructor
     . rintro (e | ⟨a,b⟩)
       . exact ⟨by simp [e],e ▸ hy⟩
       . exact ⟨by simp [a],fun c=>b (by simp [c])⟩
     . rintro ⟨a,b⟩
       by_cases e:x=y
       . exact .inl e
       . refine .inr ⟨?_,?_⟩
         . rcases List.mem_cons.1 a with e' | e'
           . exact absurd e' e
           . exact e'
         . intro c
           rcases List.mem_cons.1 c with e' | e'
           . exact e e'
           . exact b e'
theorem ze2:∀ (l seen:List Int),(zcv seen l).Nodup
 | [],seen=>by simp [zcv]
 | y :: l,seen=>by
   unfold zcv
   by_cases hy:y∈seen
   . rw [if_pos hy];exact ze2 l seen
   . rw [if_neg hy]
     exact List.nodup_cons.2 ⟨fun c=>((zhR l (y :: seen) y).1 c).2 ς,ze2 l (y :: seen)⟩
noncomputable def zd6 (l:List Int):Nat:=(zcv [] l).length
theorem zdg {l:List Int}{x:Int}:x∈zcv [] l↔x∈l:=by simp [zhR]
theorem zpL {l m:List Int} (h:∀ x,x∈l↔x∈m):zd6 l=zd6 m :=
 Nat.le_antisymm (zeI _ _ (ze2 _ _) fun x hx=>zdg.2 ((h x).1 (zdg.1 hx))) (zeI _ _ (ze2 _ _) fun x hx=>zdg.2 ((h x).2 (zdg.1 hx)))
theorem zwf (l:List Int):zd6 l<=l.length:=zeI _ _ (ze2 _ _) fun x hx=>zdg.1 hx
theorem zwv {l:List Int}{x:Int} (h:x∈l):zd6 (x :: l)=zd6 l:=zpL fun y=>by
 constructor
 . intro hy
   rcases List.mem_cons.1 hy with e | e
   . exact e ▸ h
   . exact e
 . intro hy;simp [hy]
theorem zwS {l:List Int}{x:Int} (h:x∉l):zd6 (x :: l)=zd6 l+1:=by
 apply Nat.le_antisymm
 . have:=zeI (zcv [] (x :: l)) (x :: zcv [] l) (ze2 _ _) (fun y hy=>by
     rcases List.mem_cons.1 (zdg.1 hy) with e | e
     . simp [e]
     . exact List.mem_cons_of_mem _ (zdg.2 e))
   simpa [zd6] using this
 . have:=zeI (x :: zcv [] l) (zcv [] (x :: l)) (List.nodup_cons.2 ⟨fun c=>h (zdg.1 c),ze2 _ _⟩) (fun y hy=>by
     rcases List.mem_cons.1 hy with e | e
     . exact zdg.2 (by simp [e])
     . exact zdg.2 (by simp [zdg.1 e]))
   simpa [zd6] using this
theorem ziY:∀ l:List Int,zcl (l.map D.int)=some l
 | []=>rfl
 | x :: l=>by simp [zcl,ziY l]
theorem zi9:∀ l:List Bool,zcI (l.map D.bl)=some l
 | []=>rfl
 | x :: l=>by simp [zcI,zi9 l]
structure St where
 k:Nat
 f:Bool
noncomputable def wy (b:Bool):Int:=if b=true then 1 else -1
noncomputable def sD (s:St):D := .tup [.int s.k,.int (wy s.f)]
@[simp] theorem zvH (t:St) (e:zD) (h:MH):zf (sD t) (.int 0) e h = .ok (.int t.k) h:=rfl
@[simp] theorem zvs (t:St) (e:zD) (h:MH):zf (sD t) (.int 1) e h = .ok (.int (wy t.f)) h:=rfl
theorem zsu (s:St):(sD s).nr=true:=rfl
theorem zhL (l:List St):nrs (l.map sD)=true:=zfY _ zsu l
noncomputable def z7 (f:Bool) (t:T3):T3:=if f=true then t else tn t
noncomputable def zbg (ts:List T3) (s:St):Option T3:=(ts[s.k]?).map (z7 s.f)
theorem zil {P:Int}{ts:List T3} (hts:∀ t∈ts,t.Ok P) {s:St}{t:T3} (e:zbg ts s=some t):t.Ok P:=by
 unfold zbg at e
 cases h:ts[s.k]? with
 | none=>rw [h]at e;cases e
 | some t0 =>
   rw [h]at e
   have:=hts t0 (List.mem_of_getElem? h)
   simp at e
   subst e
   unfold z7
   split
   . exact this
   . exact zi2 this
theorem zed {h:MH}{l:Nat}{xs:List D} (hl:h[l]?=some (.lst xs)) (i:Int):app zfl [.obj l,.int i] h = .ok (.bl (decide (0<=i) && decide (i < xs.length))) h:=by
 unfold app zfl
 have:(i<=(xs.length:Int) - 1)↔i < xs.length:=by omega
 simp [hl,this]
theorem zc7 (a b:Int):peq (.int a) (.int b)=(a == b):=by rw [peq]
theorem zvi (f:Bool) (e:zD) (h:MH):inV (.int (wy f)) (.tup [.int 1,.int (-1)]) e h = .ok (.bl true) h:=by
 simp only [inV,inB,List.any_cons,List.any_nil,zc7]
 cases f <;> rfl
theorem zee {h:MH}{l:Nat}{ts:List T3} (hl:h[l]?=some (.lst (ts.map tD))) {s:St}{t:T3} (ht:zbg ts s=some t):app zcg [.obj l,sD s] h = .ok (tD t) h:=by
 unfold app zcg
 unfold zbg at ht
 cases hk:ts[s.k]? with
 | none=>rw [hk]at ht;cases ht
 | some t0 =>
   have hlt:=(List.getElem?_eq_some_iff.1 hk).1
   rw [hk]at ht
   simp at ht
   subst ht
   have e1:MI.atI (ts.map tD) (s.k:Int)=some (tD t0):=by
     rw [zeE (by simpa using hlt)]
     have:=(List.getElem?_eq_some_iff.1 hk).2
     simp [this]
   cases hf:s.f
   . simp [sD,zf,hl,e1,wy,hf,z7]
     exact zg3 h ϱ
   . simp [sD,zf,hl,e1,wy,hf,z7]
     exact zg3 h ϱ
noncomputable def fin (a:Int) (g:List T3):Int:=match g.getLast? with
 | none=>a
 | some t=>t.b
@[simp] theorem zw4 (a:Int):fin a []=a:=rfl
@[simp] theorem zjR (a:Int) (g:List T3) (t:T3):fin a (g++[t])=t.b:=by simp [fin]
@[simp] theorem zu0 (a:Int) (t:T3) (g:List T3):fin a (t :: g)=fin t.b g:=by
 unfold fin
 cases g with
 | nil=>rfl
 | cons x g=>simp [List.getLast?_cons_cons,List.getLast?_cons]
end Mx
end
section
open PySem MI
namespace Mx
open My
noncomputable def zjd (x y turn:Int):Bool:=if turn=0 then decide (x=y) else decide ((x - y) % turn=0)
theorem zeP {x y turn:Int} (ht:0<=turn) (h:MH):app zdq [.int x,.int y,.int turn] h = .ok (.bl (zjd x y turn)) h:=by
 unfold app zdq zjd
 by_cases h0:turn=0
 . simp [h0]
 . have:0 < turn:=by omega
   simp [h0,this]
noncomputable def hAt (hs:List Int) (i:Int):Int:=hs.getD i.toNat 0
theorem zdl {hs:List Int}{i:Int} (h0:0<=i) (h1:i < hs.length):MI.atI (hs.map D.int) i=some (.int (hAt hs i)):=by
 obtain ⟨k,rfl⟩:∃ k:Nat,i=k:=⟨i.toNat,ω⟩
 have hl:k < hs.length:=by omega
 rw [zeE (by simpa using hl)]
 simp [hAt,hl]
noncomputable def zdm (hs:List Int) (turn:Int) (t:T3):Bool:=zjd (hAt hs t.b - hAt hs t.a) t.n turn
theorem zgV (l:List Int):nrs (l.map D.int)=true:=zfY _ (fun _=>rfl) l
theorem zeQ {h:MH}{l:Nat}{hs:List Int} (hl:h[l]?=some (.lst (hs.map .int))) (hn:hs.length<=1000000) (i:Int):app zfs [.obj l,.int i] h = .ok (.bl (decide ((hs.length:Int)=i))) h:=by
 unfold app zfs
 have c:=ze3 (t := .nm 0) (gs:=[(l,.lst (hs.map D.int))]) (elt:=(zj zdd (za (var 0) ze))) (h:=h) D.int (fun _=>D.bl true) (fun e=>∃ d,e=[d]) (zch hl) hs (by
   rintro x hx _ ⟨d,rfl⟩
   exact ⟨_,rfl,⟨_,rfl⟩,ς⟩) [none] ⟨_,rfl⟩
 have b:zcI (hs.map fun _=>D.bl true)=some (hs.map fun _=>true):=by have:=zi9 (hs.map fun _=>true);rwa [List.map_map]at this
 by_cases hi:(hs.length:Int)=i
 . simp [hl,zbH,hi,zb3,hn,c,b]
 . simp [hl,zbH,hi]
theorem zeR {h:MH}{w t r q:Nat}{P turn:Int}{ts:List T3} (W:zU h w t P turn ts) (hts:∀ t∈ts,t.Ok P) (ht:0<=turn) (hn:ts.length<=1000000) {hs:List Int} (hr:h[r]?=some (.ins 1 [(3,.obj q)])) (hq:h[q]?=some (.lst (hs.map .int))) (hl:hs.length<=1000000) :
   app zhq [.obj r,.obj w] h = .ok (.bl (decide ((hs.length:Int)=P) && ts.all (zdm hs turn))) h:=by
 unfold app zhq
 by_cases hi:(hs.length:Int)=P
 . have c:=ze3 (t := .nm 0) (gs:=[(h.length,.lst (ts.map tD))]) (elt:=(zj zdq (za (bin z3 (bin zf (var 2) (bin zf (var 0) (zb (.int (1))))) (bin zf (var 2) (bin zf (var 0) (zb (.int (0)))))) (za (bin zf (var 0) (zb (.int (2)))) (za (fld 1 (var 1)) ze))))) (h:=h++[.lst (ts.map tD)]) tD (fun t=>D.bl (zdm hs turn t)) (fun e=>∃ d,e=[d,some (.obj w),some (.obj q)]) (zch ς) ts (by
     rintro x hx _ ⟨d,rfl⟩
     have ok:=hts x hx
     refine ⟨_,rfl,⟨_,rfl⟩,?_⟩
     have e1:=zdl (hs:=hs) ok.b0 (by have:=ok.b1;omega)
     have e2:=zdl (hs:=hs) ok.a0 (by have:=ok.a1;omega)
     simp [zbe,zy hq,W.wA,e1,e2,zeP ht,zdm]) [none,some (.obj w),some (.obj q)] ⟨_,rfl⟩
   have b:zcI (ts.map fun t=>D.bl (zdm hs turn t))=some (ts.map (zdm hs turn)):=by have:=zi9 (ts.map (zdm hs turn));rwa [List.map_map]at this
   simp [hr,W.w,zeQ hq hl,hi,zQ,zbx W,zb3,hn,c,b]
   exact zjf _ _ _
 . simp [hr,W.w,zeQ hq hl,hi]
end Mx
end
section
open PySem MI
namespace Mx
open My
theorem zk9 (h g:MH) {k:Nat}{o:O} (i:Int) (e:g[k]?=some o) (f:o.flat=true):gc h (.ok (.tup [.obj (h.length+k),.int i]) (h++g)) = .ok (.tup [.obj h.length,.int i]) (h++[o]):=by
 have hlt:¬ h.length+k < h.length:=by omega
 simp [gc,zc6,gcV,zb1,hlt,e,f,D.nr]
@[simp] theorem zwo (x y z:D):MI.cut [x,y,z] none (some 2)=[x,y]:=rfl
theorem ztc (l:List Int):(l.map D.int).all (D.pl 5)=true:=by simp [D.pl]
theorem zmg {h:MH}{n m:Nat}{xs:List Int} (hn:h[n]?=some (.lst (xs.map .int))) (hm:h[m]?=some (.lst [])) (e:zD):eqV (.obj n) (.obj m) e h = .ok (.bl (decide (xs=[]))) h:=by
 unfold eqV zbP
 simp only [hn,hm,ztc,if_pos]
 cases xs with
 | nil=>simp [Cmp.eq,zbZ]
 | cons x xs=>simp [Cmp.eq,zbZ]
end Mx
end
section
open PySem MI
namespace Mx
open My
theorem zgo {h:MH}{w t:Nat}{P turn:Int}{ts:List T3} (W:zU h w t P turn ts) (hl:ts.length<=1000000):app zfn [.obj w] h = .ok (.obj h.length) (h++[.lst ((List.range ts.length).map fun k=> .int (k:Nat))]):=by
 unfold app zfn
 have q:(-1000000:Int)<=ts.length∧(ts.length:Int)<=1000000:=by omega
 simp [W.w,zQ,zbx W,q]
 exact zg4 h _ (k:=1) rfl (zfY _ (fun _=>rfl) _)
theorem zlK {h:MH}{gs:List (Nat×O)} (hg:∀ g,guard gs (h++g)=true):∀ (xs:List Nat) (m:Nat) (acc:List D) (d:Option D),
   zbI (.nm 0) gs zb9 (zF (zbq ze)) (xs.map fun (k:Nat)=>D.int k) acc [d] (h++List.replicate m (.lst [])) =
     .ok (acc++(List.range xs.length).map fun k=> .obj (h.length+m+k)) (h++List.replicate (m+xs.length) (.lst []))
 | [],m,acc,d=>by simp [zbI,hg]
 | x :: xs,m,acc,d=>by
   have ih:=zlK hg xs (m+1) (acc++[.obj (h.length+m)]) (some (.int x))
   rw [List.map_cons,zbI,if_pos (hg _)]
   simp only [zsb]
   simp
   have e:List.replicate m (O.lst [])++[O.lst []]=List.replicate (m+1) (O.lst []):=by rw [List.replicate_succ']
   rw [e]
   rw [ih]
   simp only [List.append_assoc,List.length_cons]
   congr 1
   . congr 1
     rw [List.range_succ_eq_map]
     simp [Function.comp_def,Nat.add_assoc,Nat.add_comm,Nat.add_left_comm]
   . congr 2;omega
noncomputable def zdE (L:List (List St)):MH:=L.map fun ss=> .lst (ss.map sD)
noncomputable def Onw (ts:List T3) (cs:List Nat) (p:Nat) (ss:List St):Prop:=∀ s:St,s∈ss↔s.k∈cs∧∃ t,zbg ts s=some t∧t.a=p
noncomputable def zdp (n P:Nat):List D:=(List.range P).map fun k=> .obj (n+k)
structure Tbl (h:MH) (m n P:Nat) (L:List (List St)):Prop where
 tb:h[m]?=some (.lst (zdp n P))
 len:L.length=P
 at':∀ p (hp:p < P),h[n+p]?=some (.lst ((L[p]' ω).map sD))
noncomputable def stH (h:MH) (ts:List T3) (P:Nat) (L:List (List St)):MH:=h++(.lst (ts.map tD) :: (zdE L++[.lst (zdp (h.length+1) P)]))
theorem zjh {h:MH}{ts:List T3}{P:Nat}{L:List (List St)}{p:Nat} (hp:p < L.length):(stH h ts P L)[h.length+1+p]?=some (.lst (L[p].map sD)):=by
 unfold stH
 rw [Nat.add_assoc,zhj,Nat.add_comm 1 p,List.getElem?_cons_succ,List.getElem?_append_left (by simpa [zdE] using hp)]
 simp [zdE,hp]
theorem zlL {h:MH}{ts:List T3}{P:Nat}{L:List (List St)}{p:Nat} (hp:p < L.length) (ss:List St):(stH h ts P L).set (h.length+1+p) (.lst (ss.map sD))=stH h ts P (L.set p ss):=by
 unfold stH
 rw [Nat.add_assoc,zqq,Nat.add_comm 1 p,List.set_cons_succ,List.set_append_left _ _ (by simpa [zdE] using hp)]
 simp [zdE,List.map_set]
theorem zh8 {h:MH}{ts:List T3}{P:Nat}{L:List (List St)} (hL:L.length=P):(stH h ts P L)[h.length+1+P]?=some (.lst (zdp (h.length+1) P)):=by
 unfold stH
 rw [Nat.add_assoc,zhj,Nat.add_comm 1 P,List.getElem?_cons_succ,List.getElem?_append_right (by simp [zdE,hL])]
 simp [zdE,hL]
theorem zsV {h:MH}{ts:List T3}{P:Nat}{L:List (List St)}:(stH h ts P L)[h.length]?=some (.lst (ts.map tD)):=by simp [stH]
theorem zjl {n P:Nat}{i:Int} (h0:0<=i) (h1:i < P):MI.atI (zdp n P) i=some (.obj (n+i.toNat)):=by
 obtain ⟨k,rfl⟩:∃ k:Nat,i=k:=⟨i.toNat,ω⟩
 have hk:k < P:=by omega
 rw [zeE (by simpa [zdp] using hk)]
 simp [zdp]
theorem zrf {ts:List T3}{d:List Nat}{k:Nat}{L:List (List St)}{t0:T3}{P:Nat} (ok:t0.Ok P) (hL:L.length=P) (hleg:∀ f,zbg ts ⟨k,f⟩=some (z7 f t0))
   (hO:∀ p (hp:p < L.length),Onw ts d p L[p]) {L2:List (List St)} (e:L2=(L.set t0.a.toNat (L[t0.a.toNat]'(by have:=ok.a0;have:=ok.a1;omega)++[⟨k,true⟩])).set t0.b.toNat (L[t0.b.toNat]'(by have:=ok.b0;have:=ok.b1;omega)++[⟨k,false⟩])) :
   ∀ p (hp:p < L2.length),Onw ts (d++[k]) p L2[p]:=by
 have hne:t0.a.toNat≠t0.b.toNat:=by have:=ok.a0;have:=ok.b0;have:=ok.ne;omega
 have ha0:=ok.a0
 have hb0:=ok.b0
 intro p hp s
 have hp':p < L.length:=by rw [e]at hp;simpa using hp
 have hOp:=hO p hp' s
 have leg_s:s.k=k->∃ f,s=⟨k,f⟩:=by rcases s with ⟨a,f⟩;rintro rfl;exact ⟨f,rfl⟩
 have e2:L2[p]=if t0.b.toNat=p then L[p]++[⟨k,false⟩] else if t0.a.toNat=p then L[p]++[⟨k,true⟩] else L[p]:=by
   subst e
   simp only [List.getElem_set]
   split
   . rename_i h1;subst h1;rfl
   . split
     . rename_i h1;subst h1;rfl
     . rfl
 rw [e2]
 constructor
 . intro hs
   split at hs
   . rename_i h1
     rcases List.mem_append.1 hs with hs | hs
     . have:=hOp.1 hs;exact ⟨by simp [this.1],this.2⟩
     . simp at hs;subst hs
       refine ⟨ς,z7 false t0,hleg false,?_⟩
       clear hOp
       simp [z7,tn];omega
   . split at hs
     . rename_i h1
       rcases List.mem_append.1 hs with hs | hs
       . have:=hOp.1 hs;exact ⟨by simp [this.1],this.2⟩
       . simp at hs;subst hs
         refine ⟨ς,z7 true t0,hleg true,?_⟩
         clear hOp
         simp [z7];omega
     . have:=hOp.1 hs;exact ⟨by simp [this.1],this.2⟩
 . rintro ⟨h1,t,h2,h3⟩
   by_cases hd:s.k∈d
   . have:=hOp.2 ⟨hd,t,h2,h3⟩
     split
     . simp [this]
     . split
       . simp [this]
       . exact this
   . have hk:s.k=k:=by simpa [hd] using h1
     obtain ⟨f,rfl⟩:=leg_s hk
     rw [hleg f]at h2
     cases h2
     clear hOp
     cases f
     . simp [z7,tn]at h3
       rw [if_pos ω];simp
     . simp [z7]at h3
       rw [if_neg ω,if_pos ω];simp
theorem zeS {h:MH}{w t c:Nat}{P:Nat}{turn:Int}{ts:List T3} (W:zU h w t P turn ts) (hts:∀ t∈ts,t.Ok P) (hP0:1<=P) (hP:P<=1000000) {cs:List Nat} (hc:h[c]?=some (.lst (cs.map fun k=> .int (k:Nat)))) (hcs:∀ k∈cs,k < ts.length) (hcl:cs.length<=100000) :
   ∃ g L,app zea [.obj w,.obj c] h = .ok (.obj (h.length+1+P)) (h++g)∧Tbl (h++g) (h.length+1+P) (h.length+1) P L∧∀ p (hp:p < L.length),Onw ts cs p L[p]:=by
 unfold app zea
 have loop:=ze8 (t := .nm 4) (gs:=[(c,.lst (cs.map fun k=> .int (k:Nat)))]) (body:=(zg (zbh (zbu (bin zf (var 3) (bin zf (bin zf (var 2) (var 4)) (zb (.int (0))))) (zG (za (var 4) (za (zb (.int (1))) ze)))))
   (zbh (zbu (bin zf (var 3) (bin zf (bin zf (var 2) (var 4)) (zb (.int (1))))) (zG (za (var 4) (za (zb (.int (-1))) ze))))))) (fun k:Nat=>D.int k)
   (fun d e h'=>∃ L x,e=[some (.obj w),some (.obj c),some (.obj h.length),some (.obj (h.length+1+P)),x]∧h'=stH h ts P L∧L.length=P∧(∀ p (hp:p < L.length),Onw ts d p L[p])∧∀ p (hp:p < L.length),L[p].length<=2 * d.length) cs (by
   rintro d k r e h' eq ⟨L,x,rfl,rfl,hL,hO,hN⟩
   refine ⟨zch (zy hc _),_,rfl,?_⟩
   have hk:=hcs k (by rw [<- eq];simp)
   have hat:MI.atI (ts.map tD) (k:Int)=some (tD ts[k]):=by rw [zeE (by simpa using hk)];simp
   have ok:=hts ts[k] (List.getElem_mem hk)
   have hleg1:∀ f,zbg ts ⟨k,f⟩=some (z7 f ts[k]):=fun f=>by simp [zbg,hk]
   generalize ts[k]=t0 at hat ok hleg1
   have hdl:d.length < 100000:=by have:=congrArg List.length eq;simp at this;omega
   have ha0:=ok.a0
   have ha1:=ok.a1
   have hb0:=ok.b0
   have hb1:=ok.b1
   have hne:t0.a.toNat≠t0.b.toNat:=by have:=ok.ne;omega
   have hA:t0.a.toNat < L.length:=by omega
   have hB:t0.b.toNat < L.length:=by omega
   have hB2:t0.b.toNat < (L.set t0.a.toNat (L[t0.a.toNat]++[⟨k,true⟩])).length:=by simpa using hB
   have r1:=zjl (n:=h.length+1) (P:=P) ha0 ha1
   have r2:=zjl (n:=h.length+1) (P:=P) hb0 hb1
   have l1:=hN _ hA
   have l2:=hN _ hB
   have s1:(L[t0.a.toNat].map sD)++[.tup [.int k,.int 1]]=(L[t0.a.toNat]++[(⟨k,true⟩:St)]).map sD:=by simp [sD,wy]
   have s2:(L[t0.b.toNat].map sD)++[.tup [.int k,.int (-1)]]=(L[t0.b.toNat]++[(⟨k,false⟩:St)]).map sD:=by simp [sD,wy]
   refine ⟨[some (.obj w),some (.obj c),some (.obj h.length),some (.obj (h.length+1+P)),some (.int k)],stH h ts P ((L.set t0.a.toNat (L[t0.a.toNat]++[⟨k,true⟩])).set t0.b.toNat (L[t0.b.toNat]++[⟨k,false⟩])),?_,_,_,rfl,rfl,by simpa using hL,zrf ok hL hleg1 hO rfl,?_⟩
   . have g1:=zjh (h:=h) (ts:=ts) (P:=P) hA
     have g2:=zjh (h:=h) (ts:=ts) (P:=P) hB2
     rw [List.getElem_set_ne hne]at g2
     have t1:=zh8 (h:=h) (ts:=ts) hL
     have t2:=zh8 (h:=h) (ts:=ts) (L:=L.set t0.a.toNat (L[t0.a.toNat]++[⟨k,true⟩])) (P:=P) (by simpa using hL)
     have u1:=zlL (h:=h) (ts:=ts) (P:=P) hA (L[t0.a.toNat]++[⟨k,true⟩])
     have u2:=zlL (h:=h) (ts:=ts) (P:=P) hB2 (L[t0.b.toNat]++[⟨k,false⟩])
     have m1:L[t0.a.toNat].length < 1000000:=by omega
     have m2:L[t0.b.toNat].length < 1000000:=by omega
     rw [<- s1]at u1
     rw [<- s2]at u2
     simp [zbe,zsV,hat,r1,r2,g1,g2,t1,t2,zcy,m1,m2,u1,u2]
   . intro p hp
     have hp':p < L.length:=by simpa using hp
     have:=hN p hp'
     simp only [List.getElem_set]
     split
     . rename_i e;subst e;simp;omega
     . split
       . rename_i e;subst e;simp;omega
       . simp;omega)
   (by rintro e h' ⟨L,x,rfl,rfl,_⟩;exact zch (zy hc _)) [some (.obj w),some (.obj c),some (.obj h.length),some (.obj (h.length+1+P)),none] (stH h ts P (List.replicate P [])) ⟨_,none,rfl,rfl,ς,by
     intro p hp s
     simp [Onw],ς⟩
 obtain ⟨e2,h2,hr,L,x,rfl,rfl,hL,hO,_⟩:=loop
 refine ⟨.lst (ts.map tD) :: (zdE L++[.lst (zdp (h.length+1) P)]),L,?_,⟨?_,hL,?_⟩,hO⟩
 . have cn:=zlK (h:=h++[.lst (ts.map tD)]) (gs:=[]) (fun _=>rfl) (List.range P) 0 [] none
   have q:(-1000000:Int)<=P∧(P:Int)<=1000000:=by omega
   simp at cn
   simp [W.w,zQ,zbx W,W.wA,q,zb3,hP]
   have eL:(h++O.lst (ts.map tD) :: List.replicate P (O.lst [])).length=h.length+1+P:=by simp;omega
   have eH:(h++O.lst (ts.map tD) :: List.replicate P (O.lst []))++[O.lst ((List.range P).map fun k=>D.obj (h.length+1+k))]=stH h ts P (List.replicate P []):=by simp [stH,zdE,zdp]
   have hc2:∀ L,(stH h ts P L)[c]?=some (.lst (cs.map fun k=> .int (k:Nat))):=fun L=>zy hc _
   rw [cn]
   simp only [zlJ,ztl,ziV,eL,eH]
   simp [hc2,hr]
   have hlt:¬ h.length+1+P < h.length:=by omega
   have hfl:(O.lst (zdp (h.length+1) P)).flat=false:=by
     obtain ⟨m,rfl⟩:∃ m,P=m+1:=⟨P - 1,ω⟩
     simp [O.flat,zdp,List.range_succ_eq_map,nrs,D.nr]
   simp only [gc]
   rw [show stH h ts P L=h++(.lst (ts.map tD) :: (zdE L++[.lst (zdp (h.length+1) P)])) from rfl,if_pos (zc6 _ _)]
   have tb:=zh8 (h:=h) (ts:=ts) hL
   unfold stH at tb
   simp [gcV,hlt,tb,hfl]
 . exact zh8 hL
 . intro p hp
   exact zjh ω
end Mx
end
section
open PySem MI
namespace Mx
open My
noncomputable abbrev En:=Int×Option St
noncomputable def oD:Option St->D
 | none=> .non
 | some s=>sD s
noncomputable def eD (e:En):Int×D:=(e.1,oD e.2)
noncomputable def zp (A:List En):List Int:=A.map (·.1)
@[simp] theorem zge (A B:List En):zp (A++B)=zp A++zp B:=by simp [zp]
@[simp] theorem zh4 (e:En):zp [e]=[e.1]:=rfl
@[simp] theorem zuY (e:En) (A:List En):zp (e :: A)=e.1 :: zp A:=rfl
@[simp] theorem zwJ:zp []=[]:=rfl
theorem zhI:∀ (A:List En) (k:Int),(look k (A.map eD)).isSome=decide (k∈zp A)
 | [],k=>rfl
 | e :: A,k=>by
   simp only [List.map_cons,look]
   by_cases h:e.1=k
   . simp [eD,h]
   . have h':¬ k=e.1:=fun c=>h c.symm
     have:=zhI A k
     have hh:¬ (eD e).1=k:=h
     rw [if_neg hh,this]
     simp [h']
theorem zkU:∀ (A:List En) (k:Int),((A.map eD).any fun p=>decide (p.1=k))=decide (k∈zp A)
 | [],k=>rfl
 | e :: A,k=>by
   have:=zkU A k
   simp only [List.map_cons,List.any_cons,this]
   by_cases h:e.1=k
   . simp [eD,h]
   . have h':¬ k=e.1:=fun c=>h c.symm
     simp [eD,h,h']
theorem zlm {A:List En}{k:Int} (h:k∉zp A) (o:Option St):zdZ k (oD o) (A.map eD)=(A++[(k,o)]).map eD:=by
 unfold zdZ
 rw [if_neg (by rw [zkU];simp [h])]
 simp [eD]
theorem zqM (o:Option St):(oD o).nr=true:=by cases o <;> rfl
theorem zjL (A:List En):(O.dic (A.map eD)).flat=true:=by
 simp only [O.flat,List.map_map]
 exact zfY _ (fun e=>zqM e.2) A
inductive zbG (ts:List T3) (cs:List Nat) (A:List En) (start:Int):List En->Prop
 | root:zbG ts cs A start [(start,none)]
 | step {N:List En} {s:St} {t:T3}:zbG ts cs A start N->zbg ts s=some t->s.k∈cs->t.a∈zp N->t.b∉zp (A++N)->zbG ts cs A start (N++[(t.b,some s)])
theorem zbG.nodup {ts:List T3}{cs:List Nat}{A N:List En}{start:Int} (G:zbG ts cs A start N):(zp N).Nodup:=by
 induction G with
 | root=>simp
 | step G hl hk ha hb ih =>
   simp only [zge,zh4]
   rw [List.nodup_append]
   refine ⟨ih,ς,?_⟩
   intro x hx y hy e
   simp at hy
   subst hy;subst e
   exact hb (by simp [hx])
theorem zbG.range {ts:List T3}{cs:List Nat}{A N:List En}{start:Int}{P:Nat} (hts:∀ t∈ts,t.Ok P) (h0:0<=start) (h1:start < P) (G:zbG ts cs A start N):∀ x∈zp N,0<=x∧x < (P:Int):=by
 induction G with
 | root=>simp;exact ⟨h0,h1⟩
 | step G hl hk ha hb ih =>
   intro x hx
   simp at hx
   rcases hx with hx | rfl
   . exact ih x hx
   . have:=zil hts hl;exact ⟨this.b0,this.b1⟩
theorem zgE {l:List Int}{P:Nat} (hn:l.Nodup) (hr:∀ x∈l,0<=x∧x < (P:Int)):l.length<=P:=by
 have:=zeI l ((List.range P).map fun (k:Nat)=>(k:Int)) hn (fun x hx=>by
   have:=hr x hx
   exact List.mem_map.2 ⟨x.toNat,List.mem_range.2 ω,ω⟩)
 simpa using this
noncomputable def spH (h:MH) (q:Nat) (A:List En) (W:List Int):MH:=h.set q (.dic (A.map eD))++[.lst (W.map .int)]
section
variable {h:MH}{q:Nat}{A:List En}{W:List Int}
theorem zkz (hq:q < h.length):(spH h q A W)[q]?=some (.dic (A.map eD)):=by
 unfold spH
 rw [List.getElem?_append_left (by simpa using hq),List.getElem?_set_self hq]
theorem zgR {n:Nat}{o:O} (hn:h[n]?=some o) (hnq:n≠q):(spH h q A W)[n]?=some o:=by
 unfold spH
 rw [List.getElem?_append_left (by simpa using (List.getElem?_eq_some_iff.1 hn).1),List.getElem?_set_ne (fun e=>hnq e.symm)]
 exact hn
theorem zjp:(spH h q A W)[h.length]?=some (.lst (W.map .int)):=by
 unfold spH
 rw [List.getElem?_append_right ς]
 simp
theorem zpA (W2:List Int):(spH h q A W).set h.length (.lst (W2.map .int))=spH h q A W2:=by
 unfold spH
 rw [List.set_append_right _ _ ς]
 simp
theorem zqV (hq:q < h.length) (A2:List En):(spH h q A W).set q (.dic (A2.map eD))=spH h q A2 W:=by
 unfold spH
 rw [List.set_append_left _ _ (by simpa using hq)]
 simp
end
theorem ztX {h:MH}{q:Nat}{o:O} (f:o.flat=true) (g:MH):gc h (.ok .non (h.set q o++g)) = .ok .non (h.set q o):=by
 have ok:zdL h (h.set q o++g)=true:=by
   unfold zdL
   rw [List.all_eq_true]
   intro i hi
   rw [List.mem_range]at hi
   rw [List.getElem?_append_left (by simpa using hi)]
   by_cases e:q=i
   . subst e
     rw [List.getElem?_set_self hi];simp [f]
   . rw [List.getElem?_set_ne e];simp
 simp [gc,ok,gcV]
noncomputable def Clo (ts:List T3) (cs:List Nat) (ps K:List Int):Prop:=∀ s t,s.k∈cs->zbg ts s=some t->t.a∈ps->t.b∈K
theorem zfv {h:MH}{n m b q P:Nat}{ts:List T3}{cs:List Nat} (hn:h[n]?=some (.lst (ts.map tD))) (hts:∀ t∈ts,t.Ok P) (hP:P<=900000) {L:List (List St)} (TB:Tbl h m b P L) (hO:∀ p (hp:p < L.length),Onw ts cs p L[p])
   {A:List En} (hA:h[q]?=some (.dic (A.map eD))) (hAl:A.length+P<=900000) {start:Int} (h0:0<=start) (h1:start < P) (hs:start∉zp A) :
   ∃ N,app zdO [.obj n,.obj m,.int start,.obj q] h = .ok .non (h.set q (.dic ((A++N).map eD)))∧zbG ts cs A start N∧Clo ts cs (zp N) (zp (A++N)):=by
 have hq:q < h.length:=(List.getElem?_eq_some_iff.1 hA).1
 have hnq:n≠q:=fun e=>by rw [e,hA]at hn;cases hn
 have hmq:m≠q:=fun e=>by have:=TB.tb;rw [e,hA]at this;cases this
 have hbq:∀ p,p < P->b+p≠q:=fun p hp e=>by have:=TB.at' p hp;rw [e,hA]at this;cases this
 unfold app zdO
 have loop:=zlN (t:=(tst (bin ltV (var 5) (zbd (zbs (var 4)))))) (body:=(zg (zk (.nm 6) (bin zf (var 4) (var 5)))
   (zg (zcz (.nm 7) (itL (bin zf (var 1) (var 6)))
   (zg (zk (.nm 8) (bin zf (zj zcg (za (var 0) (za (var 7) ze))) (zb (.int (1)))))
   (ifS (tst (bin zcb (var 8) (var 3))) (zg (zdT (var 3) (var 8) (var 7))
   (zbh (zbu (var 4) (var 8)))) zB)))
   (zfW zE 5 (zb (.int (1)))))))
   (fun k e h'=>∃ N x y z place,e=[some (.obj n),some (.obj m),some (.int start),some (.obj q),some (.obj h.length),some (.int (place:Nat)),x,y,z]∧h'=spH h q (A++N) (zp N)∧zbG ts cs A start N∧place<=N.length∧k=P - place∧Clo ts cs ((zp N).take place) (zp (A++N)))
   (fun e h'=>∃ N,h'=spH h q (A++N) (zp N)∧zbG ts cs A start N∧Clo ts cs (zp N) (zp (A++N))) (by
   rintro k e h' ⟨N,x,y,z,place,rfl,rfl,G,hpl,rfl,hC⟩
   have hNl:N.length<=P:=by have:=zgE G.nodup (G.range hts h0 h1);simpa [zp] using this
   have ltest:(((tst (bin ltV (var 5) (zbd (zbs (var 4)))))):ME Bool) [some (.obj n),some (.obj m),some (.int start),some (.obj q),some (.obj h.length),some (.int (place:Nat)),x,y,z] (spH h q (A++N) (zp N)) = .ok (decide (place < N.length)) (spH h q (A++N) (zp N)):=by
     simp [zjp,zp]
   by_cases hlt:place < N.length
   . right
     refine ⟨by rw [ltest];simp [hlt],?_⟩
     have hpk:place < (zp N).length:=by simpa [zp] using hlt
     have hhere:=G.range hts h0 h1 _ (List.getElem_mem hpk)
     have hat:MI.atI ((zp N).map D.int) (place:Int)=some (.int (zp N)[place]):=by rw [zeE (by simpa using hpk)];simp
     generalize hhp:(zp N)[place]=here at hhere hat
     have hhm:here∈zp N:=by rw [<- hhp];exact List.getElem_mem hpk
     have htk:(zp N).take (place+1)=(zp N).take place++[here]:=by rw [<- hhp,List.take_append_getElem hpk]
     have hpt:here.toNat < P:=by omega
     have hLl:here.toNat < L.length:=by rw [TB.len];exact hpt
     have hr:=zjl (n:=b) (P:=P) hhere.1 hhere.2
     have hss:=TB.at' here.toNat hpt
     have hon:=hO here.toNat hLl
     have hbq':=hbq here.toNat hpt
     generalize hsd:L[here.toNat]=ss at hss hon
     have hcast:((here.toNat:Nat):Int)=here:=by omega
     have inner:=ze8 (t := .nm 7) (gs:=[(b+here.toNat,.lst (ss.map sD))]) (body:=(zg (zk (.nm 8) (bin zf (zj zcg (za (var 0) (za (var 7) ze))) (zb (.int (1)))))
   (ifS (tst (bin zcb (var 8) (var 3))) (zg (zdT (var 3) (var 8) (var 7))
   (zbh (zbu (var 4) (var 8)))) zB))) sD
       (fun d e h'=>∃ M y z,e=[some (.obj n),some (.obj m),some (.int start),some (.obj q),some (.obj h.length),some (.int (place:Nat)),some (.int here),y,z]∧h'=spH h q (A++(N++M)) (zp (N++M))∧zbG ts cs A start (N++M)∧∀ s∈d,∀ t,zbg ts s=some t->t.b∈zp (A++(N++M))) ss (by
       rintro d s r e h' eq ⟨M,y,z,rfl,rfl,G2,hD⟩
       refine ⟨zch (zgR hss hbq'),_,rfl,?_⟩
       obtain ⟨hk,t,hl,ha⟩:=(hon s).1 (by rw [<- eq];simp)
       rw [hcast]at ha
       have hlg:=zee (h:=spH h q (A++(N++M)) (zp (N++M))) (zgR hn hnq) hl
       have hNMl:(zp (N++M)).length<=P:=zgE G2.nodup (G2.range hts h0 h1)
       by_cases hb:t.b∈zp (A++(N++M))
       . refine ⟨_,_,?_,M,some (sD s),some (.int t.b),rfl,rfl,G2,?_⟩
         . have hl1:=zhI (A++(N++M)) t.b
           rw [decide_eq_true hb]at hl1
           simp only [List.map_append,zge]at hl1 hlg
           simp [hlg,zcb,inV,zkz hq,hl1]
         . intro s' hs' t' hl'
           rcases List.mem_append.1 hs' with h2 | h2
           . exact hD s' h2 t' hl'
           . simp at h2;subst h2;rw [hl]at hl';cases hl';exact hb
       . have G3:zbG ts cs A start (N++M++[(t.b,some s)]) := .step G2 hl hk (by rw [ha];simp [hhm]) hb
         rw [List.append_assoc]at G3
         have hkk:zp (N++(M++[(t.b,some s)]))=zp (N++M)++[t.b]:=by simp
         have haa:A++(N++(M++[(t.b,some s)]))=(A++(N++M))++[(t.b,some s)]:=by simp
         refine ⟨_,spH h q (A++(N++(M++[(t.b,some s)]))) (zp (N++(M++[(t.b,some s)]))),?_,M++[(t.b,some s)],some (sD s),some (.int t.b),rfl,rfl,G3,?_⟩
         . have hl1:=zhI (A++(N++M)) t.b
           rw [decide_eq_false hb]at hl1
           have hp1:=zlm hb (some s)
           rw [hkk,haa]
           have w1:=zpA (h:=h) (q:=q) (A:=(A++(N++M))++[(t.b,some s)]) (W:=zp (N++M)) (zp (N++M)++[t.b])
           have q1:=zqV (h:=h) (q:=q) (A:=A++(N++M)) (W:=zp (N++M)) hq ((A++(N++M))++[(t.b,some s)])
           have hlen:(A++(N++M)).length < 1000000:=by
             have e1:(zp (N++M)).length=(N++M).length:=by simp [zp]
             rw [List.length_append];omega
           have hlen2:(zp (N++M)).length < 1000000:=by omega
           have hpe:zdZ t.b (sD s) ((A++(N++M)).map eD)=((A++(N++M))++[(t.b,some s)]).map eD:=hp1
           rw [List.map_append]at w1
           generalize zp (N++M)=KN at *
           generalize A++(N++M)=AN at *
           simp only [List.map_cons,List.map_nil]at w1
           simp [hlg,zcb,inV,zkz hq,hl1]
           rw [if_pos hlen,hpe,q1]
           simp [zjp,zcy,hlen2,w1]
         . intro s' hs' t' hl'
           rw [haa]
           rcases List.mem_append.1 hs' with h2 | h2
           . have:=hD s' h2 t' hl';rw [zge];simp only [List.mem_append];exact .inl this
           . simp at h2;subst h2;rw [hl]at hl';cases hl';simp) (by
       rintro e h' ⟨M,y,z,rfl,rfl,G2,hD⟩;exact zch (zgR hss hbq')) [some (.obj n),some (.obj m),some (.int start),some (.obj q),some (.obj h.length),some (.int (place:Nat)),some (.int here),y,z] (spH h q (A++N) (zp N)) ⟨[],y,z,rfl,ς,by simpa using G,ς⟩
     obtain ⟨e2,h2,hr2,M,y2,z2,rfl,rfl,G2,hD⟩:=inner
     refine ⟨P - (place+1),[some (.obj n),some (.obj m),some (.int start),some (.obj q),some (.obj h.length),some (.int ((place+1:Nat):Int)),some (.int here),y2,z2],spH h q (A++(N++M)) (zp (N++M)),ω,?_,N++M,_,_,_,place+1,rfl,rfl,G2,by simp;omega,rfl,?_⟩
     . simp [zbe,zjp,hat,zgR TB.tb hmq,hr,zgR hss hbq',hr2]
     . intro s t hk hl ha
       rw [zge N M,List.take_append_of_le_length ω,htk]at ha
       rcases List.mem_append.1 ha with h2 | h2
       . have:=hC s t hk hl h2
         simp at this ⊢
         rcases this with h3 | h3
         . exact .inl h3
         . exact .inr (.inl h3)
       . simp at h2
         exact hD s ((hon s).2 ⟨hk,t,hl,by rw [hcast];exact h2⟩) t hl
   . left
     refine ⟨by rw [ltest];simp [hlt],N,rfl,G,?_⟩
     intro s t hk hl ha
     refine hC s t hk hl ?_
     rw [List.take_of_length_le (by simp [zp];omega)]
     exact ha) 1000000 P [some (.obj n),some (.obj m),some (.int start),some (.obj q),some (.obj h.length),some (.int ((0:Nat):Int)),none,none,none] (spH h q (A++[(start,none)]) [start]) ω
   ⟨[(start,none)],none,none,none,0,rfl,rfl,.root,ς,ω,fun s t _ _ ha=>by simp at ha⟩
 obtain ⟨e2,h2,hr,N,rfl,G,hC⟩:=loop
 refine ⟨N,?_,G,hC⟩
 have hp1:=zlm hs none
 have hal:A.length < 1000000:=by omega
 have e1:(h.set q (.dic ((A++[(start,none)]).map eD))).length=h.length:=by simp
 simp only [oD]at hp1
 unfold spH at hr
 simp only [zh4,List.map_cons,List.map_nil]at hr
 simp [hA,hal,hp1]
 unfold zgU
 simp only [List.map_append,List.map_cons,List.map_nil,show ((0:Nat):Int)=0 from rfl]at hr
 rw [hr]
 have hf:=zjL (A++N)
 rw [List.map_append]at hf
 exact ztX hf _
end Mx
end
section
open PySem MI
namespace Mx
open My
theorem Tbl.app {h:MH}{m n P:Nat}{L:List (List St)} (T:Tbl h m n P L) (g:MH):Tbl (h++g) m n P L:=⟨zy T.tb g,T.len,fun p hp=>zy (T.at' p hp) g⟩
theorem zgp {h:MH}{w t c P:Nat}{turn:Int}{ts:List T3} (W:zU h w t P turn ts) (hts:∀ t∈ts,t.Ok P) (hP0:1<=P) (hP:P<=900000) {cs:List Nat} (hc:h[c]?=some (.lst (cs.map fun k=> .int (k:Nat)))) (hcs:∀ k∈cs,k < ts.length) (hcl:cs.length<=100000)
   {start:Int} (h0:0<=start) (h1:start < P) :
   ∃ N,app zfo [.obj w,.obj c,.int start] h = .ok (.obj h.length) (h++[.dic (N.map eD)])∧zbG ts cs [] start N∧Clo ts cs (zp N) (zp N):=by
 unfold app zfo
 obtain ⟨g,L,hsf,TB,hO⟩:=zeS (W.app [.dic [],.lst (ts.map tD)]) hts hP0 ω (zy hc _) hcs hcl
 have hti:=zbx (W.app [.dic []])
 obtain ⟨N,hsp,G,hC⟩:=zfv (h:=(h++[.dic [],.lst (ts.map tD)])++g) (n:=h.length+1) (q:=h.length) (A:=[]) ς hts hP TB hO ς (by simp;omega) h0 h1 ς
 refine ⟨N,?_,G,by simpa using hC⟩
 simp at hti hsf hsp
 simp [W.wA,zQ,hti,hsf,hsp]
 exact zmm (o := .dic (N.map eD)) h _ (zjL N)
inductive zb5 (ts:List T3) (cs:List Nat):List En->Prop
 | nil:zb5 ts cs []
 | root {A:List En} {p:Int}:zb5 ts cs A->p∉zp A->zb5 ts cs (A++[(p,none)])
 | step {A:List En} {s:St} {t:T3}:zb5 ts cs A->zbg ts s=some t->s.k∈cs->t.a∈zp A->t.b∉zp A->zb5 ts cs (A++[(t.b,some s)])
theorem zb5.grow {ts:List T3}{cs:List Nat}{A N:List En}{start:Int} (B:zb5 ts cs A) (hs:start∉zp A) (G:zbG ts cs A start N):zb5 ts cs (A++N):=by
 induction G with
 | root=>exact .root B hs
 | step G hl hk ha hb ih =>
   rw [<- List.append_assoc]
   exact .step ih hl hk (by simp [ha]) hb
theorem zb5.nodup {ts:List T3}{cs:List Nat}{A:List En} (G:zb5 ts cs A):(zp A).Nodup:=by
 induction G with
 | nil=>simp
 | root G hb ih =>
   simp only [zge,zh4]
   rw [List.nodup_append]
   refine ⟨ih,ς,?_⟩
   intro x hx y hy e
   simp at hy
   subst hy;subst e
   exact hb (by simp [hx])
 | step G hl hk ha hb ih =>
   simp only [zge,zh4]
   rw [List.nodup_append]
   refine ⟨ih,ς,?_⟩
   intro x hx y hy e
   simp at hy
   subst hy;subst e
   exact hb (by simp [hx])
noncomputable def rv (s:St):St:=⟨s.k,!s.f⟩
theorem zly {ts:List T3}{s:St}{t:T3} (h:zbg ts s=some t):zbg ts (rv s)=some (tn t):=by
 unfold zbg at *
 cases hk:ts[s.k]? with
 | none=>rw [hk]at h;cases h
 | some t0 =>
   rw [hk]at h
   simp at h
   subst h
   simp only [rv,hk]
   cases s.f <;> simp [z7,tn]
structure zeB (ts:List T3) (cs:List Nat) (A:List En) (ρ:Int->Int):Prop where
 bld:zb5 ts cs A
 clo:Clo ts cs (zp A) (zp A)
 rho:∀ s t,s.k∈cs->zbg ts s=some t->t.a∈zp A->ρ t.a=ρ t.b
 rt:∀ e∈A,e.2=none->ρ e.1=e.1
theorem zbG.disj {ts:List T3}{cs:List Nat}{A N:List En}{start:Int} (hs:start∉zp A) (G:zbG ts cs A start N):∀ x∈zp N,x∉zp A:=by
 induction G with
 | root=>simp;exact hs
 | step G hl hk ha hb ih =>
   intro x hx
   simp at hx
   rcases hx with hx | rfl
   . exact ih x hx
   . intro c;exact hb (by simp [c])
theorem zbG.roots {ts:List T3}{cs:List Nat}{A N:List En}{start:Int} (G:zbG ts cs A start N):∀ e∈N,e.2=none->e.1=start:=by
 induction G with
 | root=>simp
 | step G hl hk ha hb ih =>
   intro e he h2
   rcases List.mem_append.1 he with he | he
   . exact ih e he h2
   . simp at he;subst he;cases h2
theorem zbG.mem {ts:List T3}{cs:List Nat}{A N:List En}{start:Int} (G:zbG ts cs A start N):start∈zp N:=by
 induction G with
 | root=>simp
 | step G _ _ _ _ ih=>simp [ih]
theorem zeB.add {ts:List T3}{cs:List Nat}{A N:List En}{ρ:Int->Int}{start:Int} (F:zeB ts cs A ρ) (hs:start∉zp A) (G:zbG ts cs A start N) (hC:Clo ts cs (zp N) (zp (A++N))):∃ ρ',zeB ts cs (A++N) ρ':=by
 refine ⟨fun p=>if p∈zp A then ρ p else start,F.bld.grow hs G,?_,?_,?_⟩
 . intro s t hk hl ha
   simp at ha
   rcases ha with ha | ha
   . have:=F.clo s t hk hl ha;simp [this]
   . exact hC s t hk hl ha
 . intro s t hk hl ha
   simp at ha
   rcases ha with ha | ha
   . have hb:=F.clo s t hk hl ha
     simp only [if_pos ha,if_pos hb]
     exact F.rho s t hk hl ha
   . have hna:=G.disj hs _ ha
     have hnb:t.b∉zp A:=fun hb=>hna (F.clo (rv s) (tn t) hk (zly hl) hb)
     simp only [if_neg hna,if_neg hnb]
 . intro e he h2
   rcases List.mem_append.1 he with he | he
   . have:e.1∈zp A:=List.mem_map.2 ⟨e,he,rfl⟩
     simp only [if_pos this]
     exact F.rt e he h2
   . have:=G.roots e he h2
     have hn:e.1∉zp A:=G.disj hs _ (List.mem_map.2 ⟨e,he,rfl⟩)
     simp only [if_neg hn]
     exact this.symm
theorem zgq {h:MH}{w t c P:Nat}{turn:Int}{ts:List T3} (W:zU h w t P turn ts) (hts:∀ t∈ts,t.Ok P) (hP0:1<=P) (hP:P<=400000) {cs:List Nat} (hc:h[c]?=some (.lst (cs.map fun k=> .int (k:Nat)))) (hcs:∀ k∈cs,k < ts.length) (hcl:cs.length<=100000) :
   ∃ A ρ,app zfp [.obj w,.obj c] h = .ok (.obj h.length) (h++[.dic (A.map eD)])∧zeB ts cs A ρ∧(∀ p,0<=p->p < (P:Int)->p∈zp A)∧(∀ p∈zp A,0<=p∧p < (P:Int)):=by
 unfold app zfp
 obtain ⟨g,L,hsf,TB,hO⟩:=zeS (W.app [.lst (ts.map tD)]) hts hP0 ω (zy hc _) hcs hcl
 have hti:=zbx W
 generalize hbb:(h++[O.lst (ts.map tD)])++g=B at *
 have hB:B=h++(O.lst (ts.map tD) :: g):=by rw [<- hbb];simp
 have hBn:B[h.length]?=some (.lst (ts.map tD)):=by rw [hB];simp
 have loop:=ze8 (t := .nm 5) (gs:=[]) (body:=(ifS (tst (bin zcb (var 5) (var 4))) (zbh (zj zdO (za (var 2) (za (var 3) (za (var 5) (za (var 4) ze)))))) zB)) (fun k:Nat=>D.int k)
   (fun d e h'=>∃ A ρ x,e=[some (.obj w),some (.obj c),some (.obj h.length),some (.obj ((h++[O.lst (ts.map tD)]).length+1+P)),some (.obj B.length),x]∧h'=B++[.dic (A.map eD)]∧zeB ts cs A ρ∧(∀ k∈d,(k:Int)∈zp A)∧(∀ p∈zp A,0<=p∧p < (P:Int))) (List.range P) (by
   rintro d k r e h' eq ⟨A,ρ,x,rfl,rfl,F,hd,hrn⟩
   refine ⟨rfl,_,rfl,?_⟩
   have hkP:k < P:=by
     have:k∈List.range P:=by rw [<- eq];simp
     exact List.mem_range.1 this
   have hl1:=zhI A k
   have hAl:A.length<=P:=by have:=zgE F.bld.nodup hrn;simpa [zp] using this
   by_cases hin:(k:Int)∈zp A
   . rw [decide_eq_true hin]at hl1
     refine ⟨_,_,?_,A,ρ,some (.int k),rfl,rfl,F,?_,hrn⟩
     . simp [zcb,inV,hl1]
     . intro j hj
       rcases List.mem_append.1 hj with hj | hj
       . exact hd j hj
       . simp at hj;subst hj;exact hin
   . rw [decide_eq_false hin]at hl1
     obtain ⟨N,hsp,G,hC⟩:=zfv (h:=B++[.dic (A.map eD)]) (n:=h.length) (q:=B.length) (A:=A) (start:=(k:Int)) (zy hBn _) hts ω (TB.app _) hO ς ω ω ω hin
     obtain ⟨ρ',F'⟩:=F.add hin G hC
     refine ⟨[some (.obj w),some (.obj c),some (.obj h.length),some (.obj ((h++[O.lst (ts.map tD)]).length+1+P)),some (.obj B.length),some (.int k)],B++[.dic ((A++N).map eD)],?_,A++N,ρ',some (.int k),rfl,rfl,F',?_,?_⟩
     . simp at hsp
       simp [zcb,inV,hl1,hsp]
     . intro j hj
       rcases List.mem_append.1 hj with hj | hj
       . have:=hd j hj;simp [this]
       . simp at hj;subst hj
         simp [G.mem]
     . intro p hp
       simp at hp
       rcases hp with hp | hp
       . exact hrn p hp
       . exact G.range hts ω ω p hp) (fun _ _ _=>rfl) [some (.obj w),some (.obj c),some (.obj h.length),some (.obj ((h++[O.lst (ts.map tD)]).length+1+P)),some (.obj B.length),none] (B++[.dic []])
     ⟨[],fun x=>x,none,rfl,rfl,⟨.nil,fun _ _ _ _ h=>by simp at h,fun _ _ _ _ h=>by simp at h,fun _ h=>by simp at h⟩,ς,ς⟩
 obtain ⟨e2,h2,hr,A,ρ,x,rfl,rfl,F,hd,hrn⟩:=loop
 refine ⟨A,ρ,?_,F,?_,hrn⟩
 . have q:(-1000000:Int)<=P∧(P:Int)<=1000000:=by omega
   have hBw:∀ g,(B++g)[w]?=some (.ins 0 [(0,.int P),(1,.int turn),(2,.obj t)]):=fun g=>by rw [hB];simp [W.wA]
   simp at hsf hr
   simp [W.w,zQ,hti,hsf,hBw,q]
   rw [hr]
   simp
   rw [hB]
   have:=ziZ h ((O.lst (ts.map tD) :: g)++[.dic (A.map eD)]) (k:=(O.lst (ts.map tD) :: g).length) (o := .dic (A.map eD)) ς (zjL A)
   simpa [Nat.add_assoc] using this
 . intro p hp0 hp1
   have:=hd p.toNat (List.mem_range.2 ω)
   have e:((p.toNat:Nat):Int)=p:=by omega
   rwa [e]at this
end Mx
end
section
open PySem MI
namespace Mx
open My
inductive TrP (ts:List T3) (N:List En):Int->List St->Prop
 | root {p:Int}:look p (N.map eD)=some .non->TrP ts N p []
 | step {p:Int} {s:St} {t:T3} {S:List St}:look p (N.map eD)=some (sD s)->zbg ts s=some t->TrP ts N t.a S->TrP ts N p (S++[s])
theorem zl3 {A B:List (Int×D)}{p:Int}{d:D} (h:look p A=some d):look p (A++B)=some d:=by
 induction A with
 | nil=>cases h
 | cons x A ih =>
   simp only [List.cons_append,look]at h ⊢
   split
   . rename_i e;rw [if_pos e]at h;exact h
   . rename_i e;rw [if_neg e]at h;exact ih h
theorem zpZ {A:List En}{p:Int}{o:Option St} (h:p∉zp A):look p ((A++[(p,o)]).map eD)=some (oD o):=by
 induction A with
 | nil=>simp [look,eD]
 | cons x A ih =>
   simp at h
   simp only [List.cons_append,List.map_cons,look]
   rw [if_neg (fun e=>h.1 e.symm)]
   exact ih h.2
theorem TrP.app {ts:List T3}{N M:List En}{p:Int}{S:List St} (T:TrP ts N p S):TrP ts (N++M) p S:=by
 induction T with
 | root h=>exact .root (by rw [List.map_append];exact zl3 h)
 | step h hl T ih=>exact .step (by rw [List.map_append];exact zl3 h) hl ih
theorem zts {h:MH}{ts:List T3}{N:List En}{w goal:D}{q:Nat} (hq:h[q]?=some (.dic (N.map eD))) {p:Int}{S:List St} (T:TrP ts N p S) :
   ∀ (acc:List St) (fuel:Nat),S.length < fuel->acc.length+S.length<=900000->∃ p',zen (tst (bin zdC (bin zf (var 1) (var 5)) (zb .non))) (zg (zbh (zbu (var 4) (bin zf (var 1) (var 5))))
   (zk (.nm 5) (bin zf (zj zcg (za (var 3) (za (bin zf (var 1) (var 5)) ze))) (zb (.int (0)))))) fuel
     [some w,some (.obj q),some goal,some (.obj h.length),some (.obj (h.length+1)),some (.int p)] (h++[.lst (ts.map tD),.lst (acc.map sD)]) =
     .nx [some w,some (.obj q),some goal,some (.obj h.length),some (.obj (h.length+1)),some (.int p')] (h++[.lst (ts.map tD),.lst ((acc++S.reverse).map sD)]):=by
 induction T with
 | @root p hl =>
   intro acc fuel hf _
   obtain ⟨f,rfl⟩:∃ f,fuel=f+1:=⟨fuel - 1,by simp at hf;omega⟩
   refine ⟨p,?_⟩
   rw [zen]
   simp [zbe,zy hq,hl]
 | @step p s t S hl hleg T ih =>
   intro acc fuel hf hal
   obtain ⟨f,rfl⟩:∃ f,fuel=f+1:=⟨fuel - 1,ω⟩
   simp at hf hal
   obtain ⟨p',ih⟩:=ih (acc++[s]) f ω (by simp;omega)
   refine ⟨p',?_⟩
   have hlg:=zee (h:=h++[.lst (ts.map tD),.lst ((acc++[s]).map sD)]) (l:=h.length) ς hleg
   have hac:acc.length < 1000000:=by omega
   have hne:¬ sD s = .non:=by simp [sD]
   simp at ih hlg
   rw [zen]
   simp [zbe,zy hq,hl,hne,zcy,hac,hlg]
   exact ih
theorem zgr {h:MH}{w t q P:Nat}{turn:Int}{ts:List T3} (W:zU h w t P turn ts) {N:List En} (hq:h[q]?=some (.dic (N.map eD))) {p:Int}{S:List St} (T:TrP ts N p S) (hS:S.length<=900000) :
   app zfq [.obj w,.obj q,.int p] h = .ok (.obj h.length) (h++[.lst (S.map sD)]):=by
 unfold app zfq
 obtain ⟨p',hl⟩:=zts (w := .obj w) (goal := .int p) hq T [] 1000000 ω (by simp;omega)
 simp at hl
 simp [W.w,zQ,zbx W,zgU,hl]
 exact zg4 h _ (k:=1) rfl (zhL S)
noncomputable def zbD (A:List En):List Nat:=A.filterMap fun e=>e.2.map (·.k)
theorem zik {A:List En}{k:Nat}:k∈zbD A↔∃ e∈A,∃ s,e.2=some s∧s.k=k:=by
 unfold zbD
 simp only [List.mem_filterMap,Option.map_eq_some_iff]
theorem zb5.ends {ts:List T3}{cs:List Nat}{A:List En} (B:zb5 ts cs A):∀ e∈A,∀ s,e.2=some s->s.k∈cs∧∃ t,zbg ts s=some t∧t.a∈zp A∧t.b∈zp A:=by
 induction B with
 | nil=>simp
 | root B hb ih =>
   intro e he s hs
   rcases List.mem_append.1 he with he | he
   . obtain ⟨h1,t,h2,h3,h4⟩:=ih e he s hs
     exact ⟨h1,t,h2,by simp [h3],by simp [h4]⟩
   . simp at he;subst he;cases hs
 | step B hl hk ha hb ih =>
   intro e he s hs
   rcases List.mem_append.1 he with he | he
   . obtain ⟨h1,t,h2,h3,h4⟩:=ih e he s hs
     exact ⟨h1,t,h2,by simp [h3],by simp [h4]⟩
   . simp at he;subst he;cases hs
     exact ⟨hk,_,hl,by simp [ha],ς⟩
theorem zpC {ts:List T3}{s s':St}{t t':T3} (h:zbg ts s=some t) (h':zbg ts s'=some t') (e:s.k=s'.k):t'=t∨t'=tn t:=by
 unfold zbg at *
 rw [<- e]at h'
 cases hk:ts[s.k]? with
 | none=>rw [hk]at h;cases h
 | some t0 =>
   rw [hk]at h h'
   simp at h h'
   subst h;subst h'
   cases s.f <;> cases s'.f <;> simp [z7,tn]
theorem zb5.ks_nodup {ts:List T3}{cs:List Nat}{A:List En} (B:zb5 ts cs A):(zbD A).Nodup:=by
 induction B with
 | nil=>simp [zbD]
 | root B hb ih=>simpa [zbD] using ih
 | @step A s t B hl hk ha hb ih =>
   have e1:zbD (A++[(t.b,some s)])=zbD A++[s.k]:=by simp [zbD]
   rw [e1,List.nodup_append]
   refine ⟨ih,ς,?_⟩
   intro x hx y hy e
   simp at hy
   obtain ⟨en,he,s',h1,h2⟩:=zik.1 hx
   obtain ⟨_,t',h3,h4,h5⟩:=B.ends en he s' h1
   rcases zpC h3 hl ω with h6 | h6
   . subst h6;exact hb h5
   . subst h6;exact hb h4
theorem zlM {x y:Int}:∀ {l:List Int},x∈zcG y l↔x=y∨x∈l
 | []=>by simp [zcG]
 | z :: l=>by
   unfold zcG
   split
   . simp
   . simp only [List.mem_cons,zlM (l:=l)]
     constructor
     . rintro (h | h | h)
       . exact .inr (.inl h)
       . exact .inl h
       . exact .inr (.inr h)
     . rintro (h | h | h)
       . exact .inr (.inl h)
       . exact .inl h
       . exact .inr (.inr h)
theorem zhY {x:Int}:∀ {l:List Int},x∈zb7 l↔x∈l
 | []=>by simp [zb7]
 | z :: l=>by
   have:=zhY (x:=x) (l:=l)
   unfold zb7 at *
   rw [List.foldr_cons,zlM,this,List.mem_cons]
theorem zko {y:Int}:∀ {l:List Int},(zcG y l).length=l.length+1
 | []=>rfl
 | z :: l=>by
   unfold zcG
   split
   . simp
   . simp [zko (l:=l)]
theorem zlV:∀ {l:List Int},(zb7 l).length=l.length
 | []=>rfl
 | z :: l=>by
   have:=zlV (l:=l)
   unfold zb7 at *
   rw [List.foldr_cons,zko,this,List.length_cons]
theorem zfw {h:MH}{q:Nat}{A:List En} (hq:h[q]?=some (.dic (A.map eD))) (hA:A.length<=1000000) (hk:(zbD A).length < 64) :
   ∃ cs:List Nat,app zfr [.obj q] h = .ok (.obj h.length) (h++[.lst (cs.map fun k=> .int (k:Nat))])∧(∀ k,k∈cs↔k∈zbD A)∧cs.length=(zbD A).length:=by
 refine ⟨(zb7 ((zbD A).map fun (k:Nat)=>(k:Int))).map Int.toNat,?_,?_,by simp [zlV]⟩
 . unfold app zfr
   have hql:q < h.length:=(List.getElem?_eq_some_iff.1 hq).1
   have c:=zjH (t := .nm 0) (gs:=[]) (cond:=(tst (bin zdC (var 0) (zb .non)))) (elt:=(bin zf (var 0) (zb (.int (0))))) (h:=h.set q .hole) (fun e:En=>oD e.2) (fun e:En=>D.int (match e.2 with
     | none=>0
     | some s=>(s.k:Int))) (fun e=>e.2.isSome) (fun e=>∃ d,e=[d]) rfl A (by
     rintro ⟨p,o⟩ _ _ ⟨d,rfl⟩
     refine ⟨_,rfl,⟨_,rfl⟩,?_,?_⟩
     . cases o <;> simp [oD,sD]
     . intro ho
       cases o with
       | none=>cases ho
       | some s=>simp [oD]) [] [none] ⟨_,rfl⟩
   have ev:zdK (A.map eD)=A.map fun e=>oD e.2:=by simp [zdK,eD,Function.comp_def]
   have ek:(A.filter fun e=>e.2.isSome).map (fun e:En=>D.int (match e.2 with
     | none=>0
     | some s=>(s.k:Int)))=((zbD A).map fun (k:Nat)=>(k:Int)).map D.int:=by
     clear c ev hk hA hq
     induction A with
     | nil=>rfl
     | cons e A ih =>
       rcases e with ⟨p,o⟩
       cases o with
       | none=>simpa [zbD] using ih
       | some s=>simp [zbD]at ih ⊢;exact ih
   have in1:=ziY ((zbD A).map fun (k:Nat)=>(k:Int))
   have hh:(h.set q .hole)[q]?=some .hole:=List.getElem?_set_self hql
   have hset:(h.set q .hole).set q (.dic (A.map eD))=h:=by rw [List.set_set];exact zld hq
   have fin1:(zb7 ((zbD A).map fun (k:Nat)=>(k:Int))).map D.int=((zb7 ((zbD A).map fun (k:Nat)=>(k:Int))).map Int.toNat).map fun k=>D.int (k:Nat):=by
     rw [List.map_map]
     apply List.map_congr_left
     intro x hx
     rw [zhY]at hx
     obtain ⟨k,_,rfl⟩:=List.mem_map.1 hx
     simp
   rw [ek]at c
   rw [<- fin1]
   simp only [List.nil_append]at c
   generalize hkk:(zbD A).map (fun (k:Nat)=>(k:Int))=kk at *
   have hkl:kk.length < 64:=by rw [<- hkk];simpa using hk
   simp [hq,ev,zb3,hA,c,zit,hh,hset,in1,hkl]
   exact zmB h [] (zgV _)
 . intro k
   rw [List.mem_map]
   constructor
   . rintro ⟨x,hx,rfl⟩
     rw [zhY]at hx
     obtain ⟨j,hj,rfl⟩:=List.mem_map.1 hx
     simpa using hj
   . intro hk
     exact ⟨k,zhY.2 (List.mem_map.2 ⟨k,hk,rfl⟩),ς⟩
theorem zbG.trace {ts:List T3}{cs:List Nat}{N:List En}{start:Int} (G:zbG ts cs [] start N):∀ p∈zp N,∃ S,TrP ts N p S∧S.length<=N.length:=by
 induction G with
 | root =>
   intro p hp
   simp at hp
   subst hp
   exact ⟨[],.root (by simp [look,eD,oD]),ς⟩
 | @step N s t G hl hk ha hb ih =>
   intro p hp
   simp at hp hb
   rcases hp with hp | rfl
   . obtain ⟨S,h1,h7⟩:=ih p hp
     exact ⟨S,h1.app,by simp;omega⟩
   . obtain ⟨S,h1,h7⟩:=ih t.a ha
     exact ⟨S++[s],.step (zpZ hb) hl h1.app,by simp;omega⟩
end Mx
end
section
open PySem MI
namespace Mx
open My
theorem zb5.split {ts:List T3}{cs:List Nat}{A:List En} (B:zb5 ts cs A):∀ d e r,A=d++e :: r->zb5 ts cs d∧e.1∉zp d∧∀ s,e.2=some s->s.k∈cs∧∃ t,zbg ts s=some t∧t.b=e.1∧t.a∈zp d:=by
 induction B with
 | nil=>intro d e r h;simp at h
 | @root A p B hb ih =>
   intro d e r h
   rcases List.eq_nil_or_concat r with rfl | ⟨r',x,rfl⟩
   . obtain ⟨rfl,h2⟩:=List.append_inj' h rfl
     simp at h2;subst h2
     exact ⟨B,hb,fun s hs=>by cases hs⟩
   . have h':A++[(p,none)]=(d++e :: r')++[x]:=by rw [h];simp
     obtain ⟨rfl,_⟩:=List.append_inj' h' rfl
     exact ih d e r' rfl
 | @step A s t B hl hk ha hb ih =>
   intro d e r h
   rcases List.eq_nil_or_concat r with rfl | ⟨r',x,rfl⟩
   . obtain ⟨rfl,h2⟩:=List.append_inj' h rfl
     simp at h2;subst h2
     exact ⟨B,hb,fun s' hs=>by cases hs;exact ⟨hk,t,hl,rfl,ha⟩⟩
   . have h':A++[(t.b,some s)]=(d++e :: r')++[x]:=by rw [h];simp
     obtain ⟨rfl,_⟩:=List.append_inj' h' rfl
     exact ih d e r' rfl
theorem zp2 {hs:List Int}{i v:Int} (h0:0<=i) (h1:i < hs.length):hAt (hs.set i.toNat v) i=v:=by
 have:i.toNat < hs.length:=by omega
 simp [hAt,this]
theorem ziX {hs:List Int}{i j v:Int} (h0:0<=i) (h1:0<=j) (hne:j≠i):hAt (hs.set i.toNat v) j=hAt hs j:=by
 have:i.toNat≠j.toNat:=by omega
 simp [hAt,List.getElem?_set_ne this]
noncomputable def Fit (ts:List T3) (hs:List Int) (A:List En):Prop:=∀ e∈A,∀ s t,e.2=some s->zbg ts s=some t->hAt hs t.b=hAt hs t.a+t.n
theorem zgs {h:MH}{w t q P:Nat}{turn:Int}{ts:List T3} (W:zU h w t P turn ts) (hts:∀ t∈ts,t.Ok P) (hP:P<=400000) {cs:List Nat}{A:List En} (hq:h[q]?=some (.dic (A.map eD))) (B:zb5 ts cs A) :
   ∃ hs,app zfu [.obj w,.obj q] h = .ok (.obj h.length) (h++[.lst (hs.map .int)])∧hs.length=P∧Fit ts hs A:=by
 unfold app zfu
 have hql:q < h.length:=(List.getElem?_eq_some_iff.1 hq).1
 generalize hK:h.set q .hole=K at *
 have hKl:K.length=h.length:=by rw [<- hK];simp
 have hKq:K[q]?=some .hole:=by rw [<- hK];exact List.getElem?_set_self hql
 have hKs:K.set q (.dic (A.map eD))=h:=by rw [<- hK,List.set_set];exact zld hq
 have loop:=ze8 (t := .tp [4,5]) (gs:=[]) (body:=(ifS (tst (bin zdC (var 5) (zb .non))) (zg (zk (.nm 6) (zj zcg (za (var 2) (za (var 5) ze))))
   (zdT (var 3) (var 4) (bin zE (bin zf (var 3) (bin zf (var 6) (zb (.int (0))))) (bin zf (var 6) (zb (.int (2))))))) zB)) (fun e:En=> .tup [.int e.1,oD e.2])
   (fun d e h'=>∃ hs x y z,e=[some (.obj w),some (.obj q),some (.obj K.length),some (.obj (K.length+2)),x,y,z]∧h'=K++[.lst (ts.map tD),.lst [.int 0],.lst (hs.map .int)]∧hs.length=P∧Fit ts hs d) A (by
   rintro d ⟨p,o⟩ r e h' eq ⟨hs,x,y,z,rfl,rfl,hl,hf⟩
   refine ⟨rfl,_,rfl,?_⟩
   obtain ⟨Bd,hnk,hst⟩:=B.split d (p,o) r eq.symm
   cases o with
   | none =>
     refine ⟨_,_,?_,hs,some (.int p),some .non,z,rfl,rfl,hl,?_⟩
     . simp [oD]
     . intro e he s t h1 h2
       rcases List.mem_append.1 he with he | he
       . exact hf e he s t h1 h2
       . simp at he;subst he;cases h1
   | some s =>
     obtain ⟨hk,t,hleg,htb,hta⟩:=hst s rfl
     have ok:=zil hts hleg
     have a0:=ok.a0
     have a1:=ok.a1
     have b0:=ok.b0
     have b1:=ok.b1
     simp only at htb hnk
     subst htb
     have hlg:=fun g=>zee (h:=K ++ .lst (ts.map tD) :: g) (l:=K.length) ς hleg
     have r1:=zdl (hs:=hs) a0 ω
     have ix:ixN hs.length t.b=some t.b.toNat:=by
       unfold ixN
       rw [if_pos b0,if_pos ω]
     have hne:t.a≠t.b:=ok.ne
     have hset:(hs.map D.int).set t.b.toNat (.int (hAt hs t.a+t.n))=(hs.set t.b.toNat (hAt hs t.a+t.n)).map D.int:=by rw [List.map_set]
     refine ⟨_,K++[.lst (ts.map tD),.lst [.int 0],.lst ((hs.set t.b.toNat (hAt hs t.a+t.n)).map .int)],?_,hs.set t.b.toNat (hAt hs t.a+t.n),some (.int t.b),some (sD s),some (tD t),rfl,rfl,by simpa using hl,?_⟩
     . have hns:¬ sD s = .non:=by simp [sD]
       simp [oD,hns,hlg,zbe,r1,ix]
     . intro e he s' t' h1 h2
       rcases List.mem_append.1 he with he | he
       . obtain ⟨_,t2,h3,h4,h5⟩:=Bd.ends e he s' h1
         rw [h2]at h3;cases h3
         have o':=zil hts h2
         rw [ziX b0 o'.b0 (fun c=>hnk (c ▸ h5)),ziX b0 o'.a0 (fun c=>hnk (c ▸ h4))]
         exact hf e he s' t' h1 h2
       . simp at he;subst he;cases h1
         rw [hleg]at h2;cases h2
         rw [zp2 b0 ω,ziX b0 a0 hne])
   (fun _ _ _=>rfl) [some (.obj w),some (.obj q),some (.obj K.length),some (.obj (K.length+2)),none,none,none] (K++[.lst (ts.map tD),.lst [.int 0],.lst ((List.replicate P (0:Int)).map .int)])
     ⟨List.replicate P 0,none,none,none,rfl,rfl,ς,fun e he=>by cases he⟩
 obtain ⟨e2,h2,hr,hs,x,y,z,rfl,rfl,hl,hf⟩:=loop
 refine ⟨hs,?_,hl,hf⟩
 have hfl:(List.replicate P [D.int 0]).flatten=(List.replicate P (0:Int)).map .int:=by
   clear hr hl hf hts W B hP
   induction P with
   | zero=>rfl
   | succ n ih=>simp [List.replicate_succ]at ih ⊢
 have q1:(P:Int)<=1000000:=by omega
 have q2:(-1000000:Int)<=P:=by omega
 have q3:P<=1000000:=by omega
 have eset:(h++[O.lst (ts.map tD),O.lst [.int 0],O.lst ((List.replicate P (0:Int)).map .int)]).set q .hole=K++[O.lst (ts.map tD),O.lst [.int 0],O.lst ((List.replicate P (0:Int)).map .int)]:=by rw [zlI hql,hK]
 have eset2:(K++[O.lst (ts.map tD),O.lst [.int 0],O.lst (hs.map .int)]).set q (.dic (A.map eD))=h++[O.lst (ts.map tD),O.lst [.int 0],O.lst (hs.map .int)]:=by rw [zlI ω,hKs]
 have eit:zdz (A.map eD)=A.map fun e=> .tup [.int e.1,oD e.2]:=by simp [zdz,eD,Function.comp_def]
 rw [hKl]at hr
 simp at hr eset eset2
 simp [W.w,zQ,zbx W,W.wA,q1,q2,q3,hfl,zy hq,eset,eit,hr,zeG,zy hKq,eset2]
 exact zg4 h _ (k:=2) rfl (zgV hs)
theorem zeB.conn {ts:List T3}{cs:List Nat}{A:List En}{ρ:Int->Int} (F:zeB ts cs A ρ) {X:List Int} (hX:∀ s t,s.k∈zbD A->zbg ts s=some t->t.a∈X->t.b∈X):∀ p∈zp A,(p∈X↔ρ p∈X):=by
 have key:∀ A',zb5 ts cs A'->(∀ e∈A',e∈A)->∀ p∈zp A',(p∈X↔ρ p∈X):=by
   intro A' B
   induction B with
   | nil=>intro _ p hp;simp at hp
   | @root A' p B hb ih =>
     intro hs x hx
     simp at hx
     rcases hx with hx | rfl
     . exact ih (fun e he=>hs e (by simp [he])) x hx
     . rw [F.rt (x,none) (hs _ ς) rfl]
   | @step A' s t B hl hk ha hb ih =>
     intro hs x hx
     simp at hx
     rcases hx with hx | rfl
     . exact ih (fun e he=>hs e (by simp [he])) x hx
     . have hmem:=hs (t.b,some s) ς
       have hks:s.k∈zbD A:=zik.2 ⟨_,hmem,s,rfl,rfl⟩
       have haA:t.a∈zp A:=by
         obtain ⟨e,he,h2⟩:=List.mem_map.1 ha
         exact List.mem_map.2 ⟨e,hs e (by simp [he]),h2⟩
       have r1:=F.rho s t hk hl haA
       have r2:=ih (fun e he=>hs e (by simp [he])) t.a ha
       rw [<- r1,<- r2]
       constructor
       . intro h;exact hX (rv s) (tn t) hks (zly hl) h
       . intro h;exact hX s t hks hl h
 exact key A F.bld (fun e he=>he)
theorem zgt {h:MH}{w t q P k:Nat}{turn:Int}{ts:List T3} (W:zU h w t P turn ts) (hts:∀ t∈ts,t.Ok P) (hP0:1<=P) (hP:P<=400000) (hn:ts.length<=63) {cs:List Nat} (hcs:∀ j < ts.length,j∈cs) (hcs':∀ k∈cs,k < ts.length) {A:List En}{ρ:Int->Int} (hq:h[q]?=some (.dic (A.map eD))) (F:zeB ts cs A ρ)
   (hall:∀ p,0<=p->p < (P:Int)->p∈zp A) (hrn:∀ p∈zp A,0<=p∧p < (P:Int)) {t0:T3} (hk:ts[k]?=some t0) :
   ∃ S:List St,app zeL [.obj w,.obj q,.int k] h = .ok (.obj h.length) (h++[.lst (S.map sD)]):=by
 unfold app zeL
 have hkl:k < ts.length:=(List.getElem?_eq_some_iff.1 hk).1
 have ok:=hts t0 (List.mem_of_getElem? hk)
 have hAl:A.length<=P:=by have:=zgE F.bld.nodup hrn;simpa [zp] using this
 have hksl:(zbD A).length<=63:=by
   have h1:∀ x∈zbD A,x∈List.range ts.length:=fun x hx=>by
     obtain ⟨e,he,s,h1,h2⟩:=zik.1 hx
     have:=(F.bld.ends e he s h1).1
     exact List.mem_range.2 (by have:=hcs' _ this;omega)
   have:=zeI _ _ F.bld.ks_nodup h1
   simp at this;omega
 have hti:=zbx W
 obtain ⟨tk,htk,htm,htl⟩:=zfw (h:=h++[.lst (ts.map tD),.lst [.tup [.int k,.int 1]]]) (zy hq _) ω ω
 have htk':∀ j∈tk,j < ts.length:=fun j hj=>by
   obtain ⟨e,he,s,h1,h2⟩:=zik.1 ((htm j).1 hj)
   have:=hcs' _ (F.bld.ends e he s h1).1;omega
 obtain ⟨N,hre,G,hC⟩:=zgp (h:=h++[.lst (ts.map tD),.lst [.tup [.int k,.int 1]],.lst (tk.map fun k=> .int (k:Nat))]) (c:=h.length+2) (W.app _) hts hP0 ω (cs:=tk) ς htk' ω ok.b0 ok.b1
 have leg0:zbg ts ⟨k,true⟩=some t0:=by simp [zbg,hk,z7]
 have hX:t0.a∈zp N:=by
   have c:=F.conn (X:=zp N) (fun s t h1 h2 h3=>hC s t ((htm s.k).2 h1) h2 h3)
   have ha:=hall t0.a ok.a0 ok.a1
   have hb:=hall t0.b ok.b0 ok.b1
   have hr:=F.rho ⟨k,true⟩ t0 (hcs k hkl) leg0 ha
   rw [c _ ha,hr,<- c _ hb]
   exact G.mem
 obtain ⟨S,hT,hSl⟩:=G.trace t0.a hX
 have hNl:N.length<=P:=by have:=zgE G.nodup (G.range hts ok.b0 ok.b1);simpa [zp] using this
 have htr:=zgr (h:=h++[.lst (ts.map tD),.lst [.tup [.int k,.int 1]],.lst (tk.map fun k=> .int (k:Nat)),.dic (N.map eD)]) (q:=h.length+3) (W.app _) ς hT ω
 have hat:MI.atI (ts.map tD) (k:Int)=some (tD t0):=by
   rw [zeE (by simpa using hkl)]
   have:=(List.getElem?_eq_some_iff.1 hk).2
   simp [this]
 refine ⟨⟨k,true⟩ :: S,?_⟩
 simp at htk hre htr
 have hl2:(S.map sD).length+1<=1000000:=by simp;omega
 have hl3:1+S.length<=1000000:=by omega
 simp [W.w,zQ,hti,zbe,hat,htk,hre,htr,hl2,hl3]
 exact zg4 h _ (k:=5) (xs:=((⟨k,true⟩:St) :: S).map sD) rfl (zhL _)
end Mx
end
section
open PySem MI
namespace Mx
open My
theorem zif (h g:MH) {c a j:Nat}{xs:List D} (e:g[j]?=some (.ins c [(a,.obj (h.length+j+1))])) (e1:g[j+1]?=some (.lst xs)) (f:nrs xs=true):gc h (.ok (.obj (h.length+j)) (h++g)) = .ok (.obj h.length) (h++[.ins c [(a,.obj (h.length+1))],.lst xs]):=by
 simp only [gc]
 rw [if_pos (zc6 _ _)]
 have q:¬ h.length+j < h.length:=by omega
 have q1:¬ h.length+j+1 < h.length:=by omega
 have e2:(h++g)[h.length+j+1]?=some (.lst xs):=by rw [Nat.add_assoc,zhj];exact e1
 simp [gcV,q,e,zb1,q1,e2,D.nr,O.flat,f]
theorem zr7 {h:MH}{n:Nat}{xs:List D} (hn:h[n]?=some (.lst xs)) (f:nrs xs=true):app (mkF 2 zgm) [.obj n] h = .ok (.obj h.length) (h++[.ins 2 [(4,.obj (h.length+1))],.lst xs]):=by
 unfold app mkF zgm
 simp [zy hn,zd9,zdV]
 exact zif h _ (j:=0) rfl rfl f
theorem zsv {h:MH}{n:Nat}{xs:List D} (hn:h[n]?=some (.lst xs)) (f:nrs xs=true):app (mkF 1 zhp) [.obj n] h = .ok (.obj h.length) (h++[.ins 1 [(3,.obj (h.length+1))],.lst xs]):=by
 unfold app mkF zhp
 simp [zy hn,zd9,zdV]
 exact zif h _ (j:=0) rfl rfl f
theorem zla (ts:List T3) (k:Nat):zc8 k (ts.map tD)=(ts.zipIdx k).map fun p=> .tup [.int (p.2:Nat),tD p.1]:=by
 induction ts generalizing k with
 | nil=>rfl
 | cons t ts ih=>simp [zc8,List.zipIdx_cons,ih]
theorem zgu {h:MH}{w t P:Nat}{turn:Int}{ts:List T3} (W:zU h w t P turn ts) (hts:∀ t∈ts,t.Ok P) (hP0:1<=P) (hP:P<=400000) (hn:ts.length<=63) (ht:0<=turn) :
   (∃ hs,app zec [.obj w] h = .ok (.obj h.length) (h++[.ins 1 [(3,.obj (h.length+1))],.lst (hs.map .int)])∧hs.length=P∧ts.all (zdm hs turn)=true) ∨
   (∃ S:List St,app zec [.obj w] h = .ok (.obj h.length) (h++[.ins 2 [(4,.obj (h.length+1))],.lst (S.map sD)])):=by
 unfold app zec
 have het:=zgo W ω
 obtain ⟨A,ρ,hra,F,hall,hrn⟩:=zgq (h:=h++[.lst ((List.range ts.length).map fun k=> .int (k:Nat))]) (c:=h.length) (W.app _) hts hP0 hP (cs:=List.range ts.length) ς (fun k hk=>List.mem_range.1 hk) (by simp;omega)
 obtain ⟨hs,hha,hl,hf⟩:=zgs (h:=h++[.lst ((List.range ts.length).map fun k=> .int (k:Nat)),.dic (A.map eD)]) (q:=h.length+1) (W.app _) hts hP ς F.bld
 have hti:=zbx (W.app [.lst ((List.range ts.length).map fun k=> .int (k:Nat)),.dic (A.map eD),.lst (hs.map .int)])
 generalize hg:[O.lst ((List.range ts.length).map fun k=> .int (k:Nat)),.dic (A.map eD),.lst (hs.map .int),.lst (ts.map tD)]=gg at *
 have loop:=zgF (t := .tp [3,4]) (gs:=[(h.length+3,.lst (ts.map tD))]) (body:=(ifS (zbn (tru (zj zdq (za (bin z3 (bin zf (var 2) (bin zf (var 4) (zb (.int (1))))) (bin zf (var 2) (bin zf (var 4) (zb (.int (0)))))) (za (bin zf (var 4) (zb (.int (2)))) (za (fld 1 (var 0)) ze)))))) (zC (zj (mkF 2 zgm) (za (zj zeL (za (var 0) (za (var 1) (za (var 3) ze)))) ze))) zB)) (fun p:T3×Nat=> .tup [.int (p.2:Nat),tD p.1])
   (fun d e h'=>∃ x y,e=[some (.obj w),some (.obj (h.length+1)),some (.obj (h.length+2)),x,y]∧h'=h++gg∧∀ p∈d,zdm hs turn p.1=true)
   (fun v h'=>∃ (S:List St) (o:O),v = .obj (h.length+5)∧h'=h++(gg++[o,.ins 2 [(4,.obj (h.length+6))],.lst (S.map sD)])) (ts.zipIdx) [] (by
   rintro d ⟨t0,k⟩ r e h' eq ⟨x,y,rfl,rfl,hd⟩
   have hk:ts[k]?=some t0:=by
     have:(t0,k)∈ts.zipIdx:=by rw [<- List.nil_append ts.zipIdx,<- eq];simp
     have:=List.mk_mem_zipIdx_iff_getElem?.1 this
     exact this
   have ok:=hts t0 (List.mem_of_getElem? hk)
   have e1:=zdl (hs:=hs) ok.b0 (by have:=ok.b1;omega)
   have e2:=zdl (hs:=hs) ok.a0 (by have:=ok.a1;omega)
   refine ⟨zch (by rw [<- hg];simp),[some (.obj w),some (.obj (h.length+1)),some (.obj (h.length+2)),some (.int k),some (tD t0)],rfl,?_⟩
   have hgh:(h++gg)[h.length+2]?=some (.lst (hs.map .int)):=by rw [<- hg];simp
   cases hfb:zdm hs turn t0
   . right
     obtain ⟨S,hrb⟩:=zgt (h:=h++gg) (q:=h.length+1) (W.app gg) hts hP0 hP hn (cs:=List.range ts.length) (fun j hj=>List.mem_range.2 hj) (fun k hk=>List.mem_range.1 hk) (by rw [<- hg];simp) F hall hrn hk
     have hri:=zr7 (h:=(h++gg)++[.lst (S.map sD)]) (n:=(h++gg).length) (xs:=S.map sD) ς (zhL S)
     have hgl:gg.length=4:=by rw [<- hg];rfl
     refine ⟨_,_,?_,S,.lst (S.map sD),rfl,rfl⟩
     unfold zdm at hfb
     simp [hgl]at hrb hri
     simp [zbe,hgh,e1,e2,W.wA,zeP ht,hfb,hrb,hri]
   . left
     refine ⟨_,_,?_,some (.int k),some (tD t0),rfl,rfl,?_⟩
     . unfold zdm at hfb
       simp [zbe,hgh,e1,e2,W.wA,zeP ht,hfb]
     . intro p hp
       rcases List.mem_append.1 hp with hp | hp
       . exact hd p hp
       . simp at hp;subst hp;exact hfb)
   (by rintro e h' ⟨x,y,rfl,rfl,_⟩;exact zch (by rw [<- hg];simp)) [some (.obj w),some (.obj (h.length+1)),some (.obj (h.length+2)),none,none] (h++gg) ⟨none,none,rfl,rfl,ς⟩
 simp at hra hha hti
 rcases loop with ⟨e2,h2,hr,x,y,rfl,rfl,hd⟩ | ⟨v,h2,hr,S,o,rfl,rfl⟩
 . left
   refine ⟨hs,?_,hl,?_⟩
   . have hhi:=zsv (h:=h++gg) (n:=h.length+2) (xs:=hs.map .int) (by rw [<- hg];simp) (zgV hs)
     rw [<- zla]at hr
     rw [<- hg]at hr hhi
     simp at hhi hr
     simp [het,hra,hha,W.wA,zQ,hti,<- hg,hr,hhi]
     exact zif h _ (j:=4) rfl rfl (zgV hs)
   . rw [List.all_eq_true]
     intro t0 ht0
     obtain ⟨k,hk,he⟩:=List.mem_iff_getElem.1 ht0
     refine hd (t0,k) ?_
     rw [List.nil_append]
     exact List.mk_mem_zipIdx_iff_getElem?.2 (by rw [List.getElem?_eq_getElem hk,he])
 . right
   refine ⟨S,?_⟩
   rw [<- zla]at hr
   rw [<- hg]at hr
   simp at hr
   simp [het,hra,hha,W.wA,zQ,hti,<- hg,hr]
   exact zif h _ (j:=5) rfl rfl (zhL S)
end Mx
end
section
open PySem MI
namespace Mx
open My
noncomputable def zdy:List Int:=[1000003,1000033,1000037,1000039,1000081,1000099,1000117,1000121,1000133,1000151,1000159,1000171,1000183,1000187,1000193,1000199]
@[irreducible] noncomputable def zcP (a b m:Int):Int:=(a * 48271+b * 69621) % hAt zdy (b % 16) % m
theorem zfj (a b:Int) {m:Int} (hm:0 < m):0<=zcP a b m:=by unfold zcP;exact Int.emod_nonneg _ ω
theorem ze9 (a b:Int) {m:Int} (hm:0 < m):zcP a b m < m:=by unfold zcP;exact Int.emod_lt_of_pos _ hm
theorem zk0 {l:List Int}{i:Int} (h0:0<=i) (h1:i < l.length):hAt l i∈l:=by
 have:i.toNat < l.length:=by omega
 simp [hAt,this]
theorem zqU {i:Int} (h0:0<=i) (h1:i < 16):0 < hAt zdy i:=by
 have h:=zk0 (l:=zdy) h0 (by simpa [zdy] using h1)
 revert h
 generalize hAt zdy i=x
 have:∀ x∈zdy,0 < x:=by decide
 exact this x
theorem zcZ {a b m:Int} (hm:0 < m) (h:MH):app zu [.int a,.int b,.int m] h = .ok (.int (zcP a b m)) h:=by
 unfold app zu
 have h0:0<=b % 16:=Int.emod_nonneg _ ω
 have h1:b % 16 < 16:=Int.emod_lt_of_pos _ ω
 have at16:=zdl (hs:=zdy) h0 (by simpa [zdy] using h1)
 have hp:=zqU h0 h1
 have s1:zbR 48271=true:=by decide
 have s2:zbR 69621=true:=by decide
 unfold zcP
 generalize hAt zdy (b % 16)=p at *
 simp only [zdy,List.map_cons,List.map_nil]at at16
 simp [s1,s2,zf,at16,hp,hm]
noncomputable def zmw (ns:List Int) (i:Int):Int:=if i < ns.length then hAt ns i else 0
theorem zuP {ns:List Int}{n:Nat}{h:MH} (hn:h[n]?=some (.scr (ns.map .int))) {i:Int} (h0:0<=i):app zbo [.obj n,.int i] h = .ok (.int (zmw ns i)) h:=by
 unfold app zbo zmw
 by_cases hl:i < ns.length
 . simp [hn,hl,zbe,zdl h0 hl]
 . simp [hn,hl]
theorem zjb {v c m:Int} (h0:0<=v) (h1:v < m) (c0:0 < c) (c1:c < m):0<=(v+c) % m∧(v+c) % m < m∧(v+c) % m≠v:=by
 refine ⟨Int.emod_nonneg _ ω,Int.emod_lt_of_pos _ ω,?_⟩
 by_cases h:v+c < m
 . rw [Int.emod_eq_of_lt ω h];omega
 . have:(v+c) % m=v+c - m:=by
     rw [<- Int.sub_emod_right,Int.emod_eq_of_lt ω ω]
   omega
theorem zsQ {ns:List Int}{n:Nat}{h:MH} (hn:h[n]?=some (.scr (ns.map .int))) {c P turn v4 v5:Int}{b6:Bool}{k:Nat} (hk:k < ns.length) {v9 v10 v14:Int}{x y z:Option D}{ts:List T3} (hl:ts.length<=1000) (ht:0<=turn) (hv:-400000<=v14∧v14<=400000) :
   ∃ n14,-1000000<=n14∧n14<=1000000∧(zg (ifS (zbp (tst (bin gtV (var 3) (zb (.int (0))))) (zbp (tst (bin eqV (zj zu (za (bin zf (var 0) (var 8)) (za (zb (.int (12))) (za (zb (.int (3))) ze)))) (zb (.int (0))))) (tst (bin ltV (bin zE (zdG (var 14)) (var 3)) (zb (.int (1000000))))))) (zk (.nm 14) (bin z3 (var 14) (var 3))) zB)
   (zbh (zbu (var 7) (zG (za (var 9) (za (var 10) (za (var 14) ze))))))) [some (.obj n),some (.int c),some (.int P),some (.int turn),some (.int v4),some (.int v5),some (.bl b6),some (.obj h.length),some (.int k),some (.int v9),some (.int v10),x,y,z,some (.int v14)] (h++[.lst (ts.map tD)]) =
     .nx [some (.obj n),some (.int c),some (.int P),some (.int turn),some (.int v4),some (.int v5),some (.bl b6),some (.obj h.length),some (.int k),some (.int v9),some (.int v10),x,y,z,some (.int n14)] (h++[.lst ((ts++[(⟨v9,v10,n14⟩:T3)]).map tD)]):=by
 have hat:=zdl (hs:=ns) (i:=(k:Int)) ω ω
 have hl':ts.length < 1000000:=by omega
 by_cases c1:0 < turn
 . by_cases c2:zcP (hAt ns k) 12 3=0
   . by_cases c3:(if v14 < 0 then -v14 else v14)+turn < 1000000
     . refine ⟨v14 - turn,by split at c3 <;> omega,by split at c3 <;> omega,?_⟩
       simp [c1,c2,c3,zbe,zy hn,hat,zcZ,zcy,hl',tD]
     . refine ⟨v14,ω,ω,?_⟩
       simp [c1,c2,c3,zbe,zy hn,hat,zcZ,zcy,hl',tD]
   . refine ⟨v14,ω,ω,?_⟩
     simp [c1,c2,zbe,zy hn,hat,zcZ,zcy,hl',tD]
 . refine ⟨v14,ω,ω,?_⟩
   simp [c1,zbe,zy hn,hat,zcZ,zcy,hl',tD]
theorem zsF {ns:List Int}{n:Nat}{h:MH} (hn:h[n]?=some (.scr (ns.map .int))) {c P turn v4 v5:Int}{b6:Bool}{k:Nat} (hk:k < ns.length) {v9 v10:Int}{x y z u:Option D}{ts:List T3} (hl:ts.length<=1000) (ht:0<=turn) (h4:0 < v4) (h4':v4<=400000) (h5:0<=v5) :
   ∃ n14,-1000000<=n14∧n14<=1000000∧(zg (zk (.nm 14) (bin z3 (zj zu (za (bin zbr (var 10) (zb (.int (7919)))) (za (zb (.int (6))) (za (var 4) ze)))) (zj zu (za (bin zbr (var 9) (zb (.int (7919)))) (za (zb (.int (6))) (za (var 4) ze))))))
   (zg (ifS (zbp (tst (bin gtV (var 5) (zb (.int (0))))) (tst (bin eqV (zj zu (za (bin zf (var 0) (var 8)) (za (bin zE (bin zbj (var 8) (zb (.int (3)))) (zb (.int (9)))) (za (var 5) ze)))) (zb (.int (0)))))) (zk (.nm 14) (bin zE (var 14) (zb (.int (1))))) zB)
   (zg (ifS (zbp (tst (bin gtV (var 3) (zb (.int (0))))) (zbp (tst (bin eqV (zj zu (za (bin zf (var 0) (var 8)) (za (zb (.int (12))) (za (zb (.int (3))) ze)))) (zb (.int (0))))) (tst (bin ltV (bin zE (zdG (var 14)) (var 3)) (zb (.int (1000000))))))) (zk (.nm 14) (bin z3 (var 14) (var 3))) zB)
   (zbh (zbu (var 7) (zG (za (var 9) (za (var 10) (za (var 14) ze))))))))) [some (.obj n),some (.int c),some (.int P),some (.int turn),some (.int v4),some (.int v5),some (.bl b6),some (.obj h.length),some (.int k),some (.int v9),some (.int v10),x,y,z,u] (h++[.lst (ts.map tD)]) =
     .nx [some (.obj n),some (.int c),some (.int P),some (.int turn),some (.int v4),some (.int v5),some (.bl b6),some (.obj h.length),some (.int k),some (.int v9),some (.int v10),x,y,z,some (.int n14)] (h++[.lst ((ts++[(⟨v9,v10,n14⟩:T3)]).map tD)]):=by
 have hat:=zdl (hs:=ns) (i:=(k:Int)) ω ω
 have s1:zbR 7919=true:=by decide
 have a0:=zfj (v10 * 7919) 6 h4
 have a1:=ze9 (v10 * 7919) 6 h4
 have b0:=zfj (v9 * 7919) 6 h4
 have b1:=ze9 (v9 * 7919) 6 h4
 have hdr:=zcZ (a:=v10 * 7919) (b:=6) h4
 have hdr2:=zcZ (a:=v9 * 7919) (b:=6) h4
 generalize zcP (v10 * 7919) 6 v4=d1 at *
 generalize zcP (v9 * 7919) 6 v4=d2 at *
 have key:∃ v14,-400000<=v14∧v14<=400000∧(ifS (zbp (tst (bin gtV (var 5) (zb (.int (0))))) (tst (bin eqV (zj zu (za (bin zf (var 0) (var 8)) (za (bin zE (bin zbj (var 8) (zb (.int (3)))) (zb (.int (9)))) (za (var 5) ze)))) (zb (.int (0)))))) (zk (.nm 14) (bin zE (var 14) (zb (.int (1))))) zB) [some (.obj n),some (.int c),some (.int P),some (.int turn),some (.int v4),some (.int v5),some (.bl b6),some (.obj h.length),some (.int k),some (.int v9),some (.int v10),x,y,z,some (.int (d1 - d2))] (h++[.lst (ts.map tD)]) =
     .nx [some (.obj n),some (.int c),some (.int P),some (.int turn),some (.int v4),some (.int v5),some (.bl b6),some (.obj h.length),some (.int k),some (.int v9),some (.int v10),x,y,z,some (.int v14)] (h++[.lst (ts.map tD)]):=by
   by_cases c1:0 < v5
   . by_cases c2:zcP (hAt ns k) ((k:Int) % 3+9) v5=0
     . exact ⟨d1 - d2+1,ω,ω,by simp [c1,c2,zbe,zy hn,hat,zcZ]⟩
     . exact ⟨d1 - d2,ω,ω,by simp [c1,c2,zbe,zy hn,hat,zcZ]⟩
   . exact ⟨d1 - d2,ω,ω,by simp [c1]⟩
 obtain ⟨v14,k0,k1,hkey⟩:=key
 obtain ⟨n14,m0,m1,htl⟩:=zsQ hn (c:=c) (P:=P) (turn:=turn) (v4:=v4) (v5:=v5) (b6:=b6) hk (v9:=v9) (v10:=v10) (x:=x) (y:=y) (z:=z) hl ht ⟨k0,k1⟩
 refine ⟨n14,m0,m1,?_⟩
 have st:(zk (.nm 14) (bin z3 (zj zu (za (bin zbr (var 10) (zb (.int (7919)))) (za (zb (.int (6))) (za (var 4) ze)))) (zj zu (za (bin zbr (var 9) (zb (.int (7919)))) (za (zb (.int (6))) (za (var 4) ze)))))) [some (.obj n),some (.int c),some (.int P),some (.int turn),some (.int v4),some (.int v5),some (.bl b6),some (.obj h.length),some (.int k),some (.int v9),some (.int v10),x,y,z,u] (h++[.lst (ts.map tD)]) =
     .nx [some (.obj n),some (.int c),some (.int P),some (.int turn),some (.int v4),some (.int v5),some (.bl b6),some (.obj h.length),some (.int k),some (.int v9),some (.int v10),x,y,z,some (.int (d1 - d2))] (h++[.lst (ts.map tD)]):=by
   simp [s1,hdr,hdr2]
 rw [zie,st,ziV,zie,hkey,ziV]
 exact htl
theorem zuy {ns:List Int}{n:Nat}{h:MH} (hn:h[n]?=some (.scr (ns.map .int))) {c P turn v4 v5:Int}{b6:Bool} (h6:b6=true->3 < P) (hP:2<=P) (hP':P<=1000) {k:Nat} (hk:k < ns.length) {x9 x10 x y z u:Option D}{ts:List T3} (hl:ts.length<=1000) (ht:0<=turn) (h4:0 < v4) (h4':v4<=400000) (h5:0<=v5) :
   ∃ t3:T3,t3.Ok P∧∃ x9' x10' x' y' z' u',(zg (zk (.nm 9) (zj zu (za (bin zf (var 0) (var 8)) (za (bin zE (bin zbj (var 8) (zb (.int (5)))) (zb (.int (1)))) (za (var 2) ze)))))
   (zg (zk (.nm 10) (bin zbj (bin zE (bin zE (var 9) (zb (.int (1)))) (zj zu (za (bin zf (var 0) (var 8)) (za (bin zE (bin zbj (var 8) (zb (.int (7)))) (zb (.int (2)))) (za (bin z3 (var 2) (zb (.int (1)))) ze))))) (var 2)))
   (zg (ifS (tru (var 6)) (zg (zk (.nm 11) (ifE (tst (bin ltV (var 9) (bin zcH (var 2) (zb (.int (2)))))) (zb (.int (0))) (bin zcH (var 2) (zb (.int (2))))))
   (zg (zk (.nm 12) (ifE (tst (bin eqV (var 11) (zb (.int (0))))) (bin zcH (var 2) (zb (.int (2)))) (bin z3 (var 2) (var 11))))
   (zg (zk (.nm 13) (bin zE (zb (.int (1))) (zj zu (za (bin zf (var 0) (var 8)) (za (bin zE (bin zbj (var 8) (zb (.int (7)))) (zb (.int (2)))) (za (bin z3 (var 12) (zb (.int (1)))) ze))))))
   (zk (.nm 10) (bin zE (var 11) (bin zbj (bin zE (bin z3 (var 9) (var 11)) (var 13)) (var 12))))))) zB)
   (zg (zk (.nm 14) (bin z3 (zj zu (za (bin zbr (var 10) (zb (.int (7919)))) (za (zb (.int (6))) (za (var 4) ze)))) (zj zu (za (bin zbr (var 9) (zb (.int (7919)))) (za (zb (.int (6))) (za (var 4) ze))))))
   (zg (ifS (zbp (tst (bin gtV (var 5) (zb (.int (0))))) (tst (bin eqV (zj zu (za (bin zf (var 0) (var 8)) (za (bin zE (bin zbj (var 8) (zb (.int (3)))) (zb (.int (9)))) (za (var 5) ze)))) (zb (.int (0)))))) (zk (.nm 14) (bin zE (var 14) (zb (.int (1))))) zB)
   (zg (ifS (zbp (tst (bin gtV (var 3) (zb (.int (0))))) (zbp (tst (bin eqV (zj zu (za (bin zf (var 0) (var 8)) (za (zb (.int (12))) (za (zb (.int (3))) ze)))) (zb (.int (0))))) (tst (bin ltV (bin zE (zdG (var 14)) (var 3)) (zb (.int (1000000))))))) (zk (.nm 14) (bin z3 (var 14) (var 3))) zB)
   (zbh (zbu (var 7) (zG (za (var 9) (za (var 10) (za (var 14) ze)))))))))))) [some (.obj n),some (.int c),some (.int P),some (.int turn),some (.int v4),some (.int v5),some (.bl b6),some (.obj h.length),some (.int k),x9,x10,x,y,z,u] (h++[.lst (ts.map tD)]) =
     .nx [some (.obj n),some (.int c),some (.int P),some (.int turn),some (.int v4),some (.int v5),some (.bl b6),some (.obj h.length),some (.int k),x9',x10',x',y',z',u'] (h++[.lst ((ts++[t3]).map tD)]):=by
 have hat:=zdl (hs:=ns) (i:=(k:Int)) ω ω
 have hP1:0 < P:=by omega
 have hP2:0 < P - 1:=by omega
 have v90:=zfj (hAt ns k) ((k:Int) % 5+1) hP1
 have v91:=ze9 (hAt ns k) ((k:Int) % 5+1) hP1
 have hd9:=zcZ (a:=hAt ns k) (b:=(k:Int) % 5+1) hP1
 have e0:=zfj (hAt ns k) ((k:Int) % 7+2) hP2
 have e1:=ze9 (hAt ns k) ((k:Int) % 7+2) hP2
 have hd10:=zcZ (a:=hAt ns k) (b:=(k:Int) % 7+2) hP2
 generalize zcP (hAt ns k) ((k:Int) % 5+1) P=v9 at *
 generalize zcP (hAt ns k) ((k:Int) % 7+2) (P - 1)=d at *
 have first:∀ v10,0<=v10->v10 < P->v10≠v9->∀ x y z,(∃ t3:T3,t3.Ok P∧∃ x9' x10' x' y' z' u',(zg (zk (.nm 14) (bin z3 (zj zu (za (bin zbr (var 10) (zb (.int (7919)))) (za (zb (.int (6))) (za (var 4) ze)))) (zj zu (za (bin zbr (var 9) (zb (.int (7919)))) (za (zb (.int (6))) (za (var 4) ze))))))
   (zg (ifS (zbp (tst (bin gtV (var 5) (zb (.int (0))))) (tst (bin eqV (zj zu (za (bin zf (var 0) (var 8)) (za (bin zE (bin zbj (var 8) (zb (.int (3)))) (zb (.int (9)))) (za (var 5) ze)))) (zb (.int (0)))))) (zk (.nm 14) (bin zE (var 14) (zb (.int (1))))) zB)
   (zg (ifS (zbp (tst (bin gtV (var 3) (zb (.int (0))))) (zbp (tst (bin eqV (zj zu (za (bin zf (var 0) (var 8)) (za (zb (.int (12))) (za (zb (.int (3))) ze)))) (zb (.int (0))))) (tst (bin ltV (bin zE (zdG (var 14)) (var 3)) (zb (.int (1000000))))))) (zk (.nm 14) (bin z3 (var 14) (var 3))) zB)
   (zbh (zbu (var 7) (zG (za (var 9) (za (var 10) (za (var 14) ze))))))))) [some (.obj n),some (.int c),some (.int P),some (.int turn),some (.int v4),some (.int v5),some (.bl b6),some (.obj h.length),some (.int k),some (.int v9),some (.int v10),x,y,z,u] (h++[.lst (ts.map tD)]) =
     .nx [some (.obj n),some (.int c),some (.int P),some (.int turn),some (.int v4),some (.int v5),some (.bl b6),some (.obj h.length),some (.int k),x9',x10',x',y',z',u'] (h++[.lst ((ts++[t3]).map tD)])):=by
   intro v10 a0 a1 a2 x y z
   obtain ⟨n14,m0,m1,he⟩:=zsF hn (c:=c) (P:=P) (turn:=turn) (v4:=v4) (v5:=v5) (b6:=b6) hk (v9:=v9) (v10:=v10) (x:=x) (y:=y) (z:=z) (u:=u) hl ht h4 h4' h5
   exact ⟨⟨v9,v10,n14⟩,⟨v90,v91,a0,a1,fun e=>a2 e.symm,m0,m1⟩,_,_,_,_,_,_,he⟩
 generalize hT:(zg (zk (.nm 14) (bin z3 (zj zu (za (bin zbr (var 10) (zb (.int (7919)))) (za (zb (.int (6))) (za (var 4) ze)))) (zj zu (za (bin zbr (var 9) (zb (.int (7919)))) (za (zb (.int (6))) (za (var 4) ze))))))
   (zg (ifS (zbp (tst (bin gtV (var 5) (zb (.int (0))))) (tst (bin eqV (zj zu (za (bin zf (var 0) (var 8)) (za (bin zE (bin zbj (var 8) (zb (.int (3)))) (zb (.int (9)))) (za (var 5) ze)))) (zb (.int (0)))))) (zk (.nm 14) (bin zE (var 14) (zb (.int (1))))) zB)
   (zg (ifS (zbp (tst (bin gtV (var 3) (zb (.int (0))))) (zbp (tst (bin eqV (zj zu (za (bin zf (var 0) (var 8)) (za (zb (.int (12))) (za (zb (.int (3))) ze)))) (zb (.int (0))))) (tst (bin ltV (bin zE (zdG (var 14)) (var 3)) (zb (.int (1000000))))))) (zk (.nm 14) (bin z3 (var 14) (var 3))) zB)
   (zbh (zbu (var 7) (zG (za (var 9) (za (var 10) (za (var 14) ze)))))))))=tl at *
 cases b6 with
 | false =>
   have hm:=zjb v90 v91 (c:=1+d) ω ω
   rw [<- Int.add_assoc]at hm
   obtain ⟨t3,ok,x9',x10',x',y',z',u',he⟩:=first ((v9+1+d) % P) hm.1 hm.2.1 hm.2.2 x y z
   refine ⟨t3,ok,x9',x10',x',y',z',u',?_⟩
   rw [<- he]
   simp [zbe,zy hn,hat,hd9,hd10,hP1]
 | true =>
   have hP3:=h6 rfl
   by_cases hh:v9 < P / 2
   . have q0:0 < P / 2 - 1:=by omega
     have q00:0 < P / 2:=by omega
     have f0:=zfj (hAt ns k) ((k:Int) % 7+2) q0
     have f1:=ze9 (hAt ns k) ((k:Int) % 7+2) q0
     have hd11:=zcZ (a:=hAt ns k) (b:=(k:Int) % 7+2) q0
     generalize zcP (hAt ns k) ((k:Int) % 7+2) (P / 2 - 1)=d2 at *
     have hm:=zjb v90 hh (c:=1+d2) ω ω
     obtain ⟨t3,ok,x9',x10',x',y',z',u',he⟩:=first ((v9+(1+d2)) % (P / 2)) hm.1 ω hm.2.2 (some (.int 0)) (some (.int (P / 2))) (some (.int (1+d2)))
     refine ⟨t3,ok,x9',x10',x',y',z',u',?_⟩
     rw [<- he]
     simp [zbe,zy hn,hat,hd9,hd10,hP1,hh,hd11,q00]
   . have q0:0 < P - P / 2 - 1:=by omega
     have q00:0 < P - P / 2:=by omega
     have q1:¬ P / 2=0:=by omega
     have q2:P / 2 < P:=by omega
     have f0:=zfj (hAt ns k) ((k:Int) % 7+2) q0
     have f1:=ze9 (hAt ns k) ((k:Int) % 7+2) q0
     have hd11:=zcZ (a:=hAt ns k) (b:=(k:Int) % 7+2) q0
     generalize zcP (hAt ns k) ((k:Int) % 7+2) (P - P / 2 - 1)=d2 at *
     have hm:=zjb (v:=v9 - P / 2) (m:=P - P / 2) ω ω (c:=1+d2) ω ω
     obtain ⟨t3,ok,x9',x10',x',y',z',u',he⟩:=first (P / 2+(v9 - P / 2+(1+d2)) % (P - P / 2)) ω ω ω (some (.int (P / 2))) (some (.int (P - P / 2))) (some (.int (1+d2)))
     refine ⟨t3,ok,x9',x10',x',y',z',u',?_⟩
     rw [<- he]
     simp [zbe,zy hn,hat,hd9,hd10,hP1,hh,hd11,q00,q1,q2]
theorem zid (ds:List D) (i:Int) (e:zD) (h:MH):zf (.tup ds) (.int i) e h=match MI.atI ds i with
   | some d=> .ok d h
   | none=> .bad:=rfl
theorem zkm {j:Int} (hj:zbR j=true) (i:Int) (e:zD) (h:MH):zbr (.int i) (.int j) e h = .ok (.int (i * j)) h:=by simp [hj]
theorem zmj (h g:MH) {k:Nat}{o:O} (i j:Int) (e:g[k]?=some o) (f:o.flat=true):gc h (.ok (.tup [.int i,.obj (h.length+k),.int j]) (h++g)) = .ok (.tup [.int i,.obj h.length,.int j]) (h++[o]):=by
 have hlt:¬ h.length+k < h.length:=by omega
 simp [gc,zc6,gcV,zb1,hlt,e,f,D.nr]
theorem zfc (a b:Int) {m:Int} (hm:0 < m):∃ v,(∀ h,app zu [.int a,.int b,.int m] h = .ok (.int v) h)∧0<=v∧v < m:=⟨_,zcZ hm,zfj a b hm,ze9 a b hm⟩
theorem zgj {ns:List Int}{n:Nat}{h:MH} (hn:h[n]?=some (.scr (ns.map .int))) {i:Int} (h0:0<=i):∃ v,app zbo [.obj n,.int i] h = .ok (.int v) h:=⟨_,zuP hn h0⟩
theorem zgH (l:List Int) (a b:Int) {m:Int} (hm:(l.length:Int)=m) (h0:0 < m):∃ x v,(∀ h,app zu [.int a,.int b,.int m] h = .ok (.int x) h)∧v∈l∧MI.atI (l.map D.int) x=some (.int v):=by
 obtain ⟨x,h1,h2,h3⟩:=zfc a b h0
 exact ⟨x,hAt l x,h1,zk0 h2 ω,zdl h2 ω⟩
theorem zrc {ns:List Int} (hns:ns.length<=63) {n:Nat}{h:MH} (hn:h[n]?=some (.scr (ns.map .int))) :
   ∃ (P:Nat) (turn:Int) (ts:List T3),app zeM [.obj n] h = .ok (.tup [.int P,.obj h.length,.int turn]) (h++[.lst (ts.map tD)])∧1<=P∧P<=100∧0<=turn∧turn<=1000000∧ts.length=ns.length∧∀ t∈ts,t.Ok P:=by
 obtain ⟨y0,c0⟩:=zgj hn (i:=0) ω
 obtain ⟨y1,c1⟩:=zgj hn (i:=1) ω
 obtain ⟨y2,c2⟩:=zgj hn (i:=2) ω
 obtain ⟨x1,a1,d1,p1,g1⟩:=zgH [1,2,3] y1 2 (m:=3) ς ω
 obtain ⟨x3,turn,d3,p3,g3⟩:=zgH [0,0,2,3,12,1,1000000] y2 3 (m:=7) ς ω
 obtain ⟨x4,v4,d4,p4,g4⟩:=zgH [2,3,40,400000] y0 4 (m:=4) ς ω
 obtain ⟨x5,v5,d5,p5,g5⟩:=zgH [0,0,5,30] y1 5 (m:=4) ς ω
 obtain ⟨x6,d6,_,_⟩:=zfc y2 8 (m:=4) ω
 simp only [List.map_cons,List.map_nil]at g1 g3 g4 g5
 have a10:1<=a1∧a1<=3:=by simp at p1;omega
 have ht:0<=turn∧turn<=1000000:=by simp at p3;omega
 have h4:0 < v4∧v4<=400000:=by simp at p4;omega
 have h5:0<=v5:=by simp at p5;omega
 have sm:zbR a1=true:=by simp [zbR];omega
 obtain ⟨l,hl0⟩:∃ l:Int,l=(ns.length:Int):=⟨_,rfl⟩
 have hlen:∀ (e':zD) (h':MH),e'[0]?=some (some (.obj n))->h'[n]?=some (.scr (ns.map .int))->zbd (zbs (var 0)) e' h' = .ok (.int l) h':=by
   intro e' h' h1 h2
   rw [hl0]
   simp [h1,h2]
 have hlt:l.toNat=ns.length:=by omega
 obtain ⟨c,hc⟩:∃ c,l * a1 / 3=c:=⟨_,rfl⟩
 have hc0:0<=c∧c<=63:=by
   have e1:(0:Int)<=l * a1:=Int.mul_nonneg ω ω
   have e2:l * a1<=63 * 3:=Int.mul_le_mul ω ω ω ω
   omega
 obtain ⟨x2,d2,b0,b1⟩:=zfc y0 1 (m:=2+c) ω
 obtain ⟨P,hP⟩:∃ P:Nat,2+x2=(P:Int):=⟨(2+x2).toNat,ω⟩
 have hPb:2<=P∧P<=100:=by omega
 obtain ⟨b6,hb6⟩:∃ b6:Bool,b6=(decide (3 < (P:Int)) && decide (x6=0)):=⟨_,rfl⟩
 have h6:b6=true->3 < (P:Int):=by intro e;rw [e]at hb6;have:=hb6.symm;simp at this;omega
 have loop:=ze8 (t := .nm 8) (gs:=[]) (body:=(zg (zk (.nm 9) (zj zu (za (bin zf (var 0) (var 8)) (za (bin zE (bin zbj (var 8) (zb (.int (5)))) (zb (.int (1)))) (za (var 2) ze)))))
   (zg (zk (.nm 10) (bin zbj (bin zE (bin zE (var 9) (zb (.int (1)))) (zj zu (za (bin zf (var 0) (var 8)) (za (bin zE (bin zbj (var 8) (zb (.int (7)))) (zb (.int (2)))) (za (bin z3 (var 2) (zb (.int (1)))) ze))))) (var 2)))
   (zg (ifS (tru (var 6)) (zg (zk (.nm 11) (ifE (tst (bin ltV (var 9) (bin zcH (var 2) (zb (.int (2)))))) (zb (.int (0))) (bin zcH (var 2) (zb (.int (2))))))
   (zg (zk (.nm 12) (ifE (tst (bin eqV (var 11) (zb (.int (0))))) (bin zcH (var 2) (zb (.int (2)))) (bin z3 (var 2) (var 11))))
   (zg (zk (.nm 13) (bin zE (zb (.int (1))) (zj zu (za (bin zf (var 0) (var 8)) (za (bin zE (bin zbj (var 8) (zb (.int (7)))) (zb (.int (2)))) (za (bin z3 (var 12) (zb (.int (1)))) ze))))))
   (zk (.nm 10) (bin zE (var 11) (bin zbj (bin zE (bin z3 (var 9) (var 11)) (var 13)) (var 12))))))) zB)
   (zg (zk (.nm 14) (bin z3 (zj zu (za (bin zbr (var 10) (zb (.int (7919)))) (za (zb (.int (6))) (za (var 4) ze)))) (zj zu (za (bin zbr (var 9) (zb (.int (7919)))) (za (zb (.int (6))) (za (var 4) ze))))))
   (zg (ifS (zbp (tst (bin gtV (var 5) (zb (.int (0))))) (tst (bin eqV (zj zu (za (bin zf (var 0) (var 8)) (za (bin zE (bin zbj (var 8) (zb (.int (3)))) (zb (.int (9)))) (za (var 5) ze)))) (zb (.int (0)))))) (zk (.nm 14) (bin zE (var 14) (zb (.int (1))))) zB)
   (zg (ifS (zbp (tst (bin gtV (var 3) (zb (.int (0))))) (zbp (tst (bin eqV (zj zu (za (bin zf (var 0) (var 8)) (za (zb (.int (12))) (za (zb (.int (3))) ze)))) (zb (.int (0))))) (tst (bin ltV (bin zE (zdG (var 14)) (var 3)) (zb (.int (1000000))))))) (zk (.nm 14) (bin z3 (var 14) (var 3))) zB)
   (zbh (zbu (var 7) (zG (za (var 9) (za (var 10) (za (var 14) ze))))))))))))) (fun k:Nat=>D.int k)
   (fun d e h'=>∃ ts x8 x9 x10 x y z u,e=[some (.obj n),some (.int c),some (.int P),some (.int turn),some (.int v4),some (.int v5),some (.bl b6),some (.obj h.length),x8,x9,x10,x,y,z,u]∧h'=h++[.lst (ts.map tD)]∧ts.length=d.length∧∀ t∈ts,t.Ok P) (List.range ns.length) (by
   rintro d k r e h' eq ⟨ts,x8,x9,x10,x,y,z,u,rfl,rfl,hl,hok⟩
   refine ⟨rfl,_,rfl,?_⟩
   have hk:k < ns.length:=by
     have:k∈List.range ns.length:=by rw [<- eq];simp
     exact List.mem_range.1 this
   have hdl:d.length<=63:=by
     have:=congrArg List.length eq
     simp at this;omega
   obtain ⟨t3,ok,x9',x10',x',y',z',u',he⟩:=zuy hn (c:=c) (P:=(P:Int)) (turn:=turn) (v4:=v4) (v5:=v5) (b6:=b6) h6 ω ω hk (x9:=x9) (x10:=x10) (x:=x) (y:=y) (z:=z) (u:=u) (ts:=ts) ω ht.1 h4.1 h4.2 h5
   refine ⟨_,_,he,ts++[t3],_,_,_,_,_,_,_,rfl,rfl,by simp [hl],?_⟩
   intro t htm
   rcases List.mem_append.1 htm with h1 | h1
   . exact hok t h1
   . simp at h1;subst h1;exact ok) (fun _ _ _=>rfl) [some (.obj n),some (.int c),some (.int P),some (.int turn),some (.int v4),some (.int v5),some (.bl b6),some (.obj h.length),none,none,none,none,none,none,none] (h++[.lst []])
     ⟨[],_,_,_,_,_,_,_,rfl,rfl,rfl,ς⟩
 obtain ⟨e2,h2,hr,ts,x8,x9,x10,x,y,z,u,rfl,rfl,hl,hok⟩:=loop
 refine ⟨P,turn,ts,?_,ω,ω,ht.1,ht.2,by rw [hl];simp,hok⟩
 unfold app zeM
 have q:(-1000000:Int)<=ns.length∧(ns.length:Int)<=1000000:=by omega
 have q1:l<=1000000:=by omega
 have q2:(-1000000:Int)<=l:=by omega
 by_cases hb:3 < (P:Int)
 . simp [hb]at hb6
   subst hb6
   simp [-zkv,hlen,hlt,-zl2,zkm sm,c0,c1,c2,hn,d1,d3,d4,d5,d6,zid,g1,g3,g4,g5,hc,d2,hP,hb,q1,q2,zy hn,hr]
   exact zmj h _ (k:=0) _ _ rfl (zga ts)
 . simp [hb]at hb6
   subst hb6
   simp [-zkv,hlen,hlt,-zl2,zkm sm,c0,c1,c2,hn,d1,d3,d4,d5,d6,zid,g1,g3,g4,g5,hc,d2,hP,hb,q1,q2,zy hn,hr]
   exact zmj h _ (k:=0) _ _ rfl (zga ts)
end Mx
end
section
namespace MI
section
variable {α β:Type}{e:zD}{h:MH}{c:Nat}
@[simp] theorem zvR (f:α->MH->R β):zJ (.ex c h) f = .ex c h:=rfl
@[simp] theorem zvn (f:α->MH->RS):zcf (.ex c h) f = .ex c h:=rfl
@[simp] theorem zwq (f:zD->MH->RS):zey (.ex c h) f = .ex c h:=rfl
@[simp] theorem zvG:zf3 (.ex c h) = .ex c h:=rfl
@[simp] theorem zvM (h1:MH):gc h1 (.ex c h) = .ex c h:=rfl
@[simp] theorem zv9:zdx c e h = .ex c h:=rfl
end
end MI
open PySem MI
namespace Mx
open My
noncomputable abbrev Rw:=Int×Int
noncomputable def rD (r:Rw):D := .tup [.int r.1,.int r.2]
noncomputable def Gd (n:Nat) (r:Rw):Prop:=0<=r.1∧r.1 < (n:Int)∧(r.2=1∨r.2=-1)
noncomputable instance (n:Nat) (r:Rw):Decidable (Gd n r):=by unfold Gd;exact inferInstance
noncomputable def rS (r:Rw):St:=⟨r.1.toNat,decide (r.2=1)⟩
theorem zuT {n:Nat}{r:Rw} (g:Gd n r):rD r=sD (rS r):=by
 obtain ⟨i,j⟩:=r
 obtain ⟨g1,g2,g3⟩:=g
 simp only at g1 g2 g3
 have:((i.toNat:Nat):Int)=i:=by omega
 rcases g3 with rfl | rfl <;> simp [rD,sD,rS,wy,this]
noncomputable def zbT (ts:List T3) (r:Rw):Option T3:=if Gd ts.length r then zbg ts (rS r) else none
theorem zvV {P:Int}{ts:List T3} (hts:∀ t∈ts,t.Ok P) {s:Rw}{t:T3} (e:zbT ts s=some t):t.Ok P:=by
 unfold zbT at e
 split at e
 . exact zil hts e
 . cases e
noncomputable def goR (ts:List T3):Int->List Rw->Option (List T3)
 | _,[]=>some []
 | here,s :: r=>match zbT ts s with
   | none=>none
   | some t=>if t.a=here then (goR ts t.b r).map (t :: ·) else none
theorem zh3 {ts:List T3}:∀ (S:List Rw) (here:Int) (g:List T3),goR ts here S=some g->g.length=S.length
 | [],_,g,e=>by simp [goR]at e;subst e;simp
 | s :: r,here,g,e=>by
   unfold goR at e
   cases hl:zbT ts s with
   | none=>simp [hl]at e
   | some t =>
     simp only [hl]at e
     by_cases ha:t.a=here
     . rw [if_pos ha]at e
       cases hr:goR ts t.b r with
       | none=>simp [hr]at e
       | some g' =>
         simp [hr]at e
         subst e
         simp [zh3 r _ _ hr]
     . simp [ha]at e
theorem zfX {ts:List T3}:∀ (S R:List Rw) (a:Int),goR ts a (S++R)=match goR ts a S with
   | none=>none
   | some g=>(goR ts (fin a g) R).map (g++·)
 | [],R,a=>by simp [goR]
 | s :: S,R,a=>by
   simp only [List.cons_append,goR]
   cases zbT ts s with
   | none=>rfl
   | some t =>
     simp only
     by_cases ha:t.a=a
     . simp only [if_pos ha]
       rw [zfX S R t.b]
       cases goR ts t.b S with
       | none=>rfl
       | some g=>simp [Function.comp_def]
     . simp [if_neg ha]
theorem zgQ {ts:List T3}{S:List Rw}{a:Int}{g:List T3} (e:goR ts a S=some g) {s:Rw}{t:T3} (hl:zbT ts s=some t) (ha:t.a=fin a g):goR ts a (S++[s])=some (g++[t]):=by
 rw [zfX,e]
 simp [goR,hl,ha]
theorem zh1 {ts:List T3}{S R:List Rw}{a:Int}{g:List T3} (e:goR ts a S=some g) {s:Rw} (hl:∀ t,zbT ts s=some t->t.a≠fin a g):goR ts a (S++s :: R)=none:=by
 rw [zfX,e]
 simp only [goR]
 cases h:zbT ts s with
 | none=>rfl
 | some t=>simp [hl t h]
theorem zuO {h:MH}{l:Nat}{xs:List D} (hl:h[l]?=some (.lst xs)) (r:Rw):app zeK [.obj l,rD r] h = .ok (.bl (decide (Gd xs.length r))) h:=by
 unfold app zeK
 obtain ⟨i,j⟩:=r
 by_cases h1:0<=i∧i < (xs.length:Int)
 . by_cases h2:j=1
   . subst h2
     simp [rD,zbH,zf,zed hl,h1,inV,inB,zc7,Gd,zbk]
   . by_cases h3:j=-1
     . subst h3
       simp [rD,zbH,zf,zed hl,h1,inV,inB,zc7,Gd,zbk]
     . simp [rD,zbH,zf,zed hl,h1,inV,inB,zc7,Gd,zbk,h2,h3]
       exact ⟨fun e=>h2 e.symm,fun e=>h3 e.symm⟩
 . have e:(decide (0<=i) && decide (i < (xs.length:Int)))=false:=by
     rw [<- Bool.decide_and];exact decide_eq_false h1
   have g:¬ Gd xs.length (i,j):=fun z=>h1 ⟨z.1,z.2.1⟩
   simp [rD,zbH,zf,zed hl,e,g]
theorem zqx {h:MH}{w t l:Nat}{P turn:Int}{ts:List T3} (W:zU h w t P turn ts) {S:List Rw} (hl:h[l]?=some (.lst (S.map rD))) (hS:S.length<=900000) {a:Int} (h0:0<=a) (h1:a < P) :
   app zfm [.obj w,.int a,.obj l] h=match goR ts a S with
     | none=> .ok .non h
     | some g=> .ok (.obj h.length) (h++[.lst (g.map tD)]):=by
 unfold app zfm
 have loop:=zgF (t := .nm 6) (gs:=[(l,.lst (S.map rD))]) (body:=(zg (ifS (zbn (tru (zj zeK (za (var 3) (za (var 6) ze))))) (zC (zb .non)) zB)
   (zg (zbh (zbu (var 4) (zj zcg (za (var 3) (za (var 6) ze)))))
   (zg (ifS (tst (bin neV (bin zf (bin zf (var 4) (un zbi (zb (.int (1))))) (zb (.int (0)))) (var 5))) (zC (zb .non)) zB)
   (zk (.nm 5) (bin zf (bin zf (var 4) (un zbi (zb (.int (1))))) (zb (.int (1))))))))) rD
   (fun d e h'=>∃ g x,e=[some (.obj w),some (.int a),some (.obj l),some (.obj h.length),some (.obj (h.length+1)),some (.int (fin a g)),x]∧h'=h++[.lst (ts.map tD),.lst (g.map tD)]∧goR ts a d=some g)
   (fun v h'=>v = .non∧goR ts a S=none∧∃ g,h'=h++g) S [] (by
   rintro d s r e h' eq ⟨g,x,rfl,rfl,hg⟩
   simp only [List.nil_append]at eq
   refine ⟨zch (zy hl _),_,rfl,?_⟩
   have hst:=zuO (h:=h++[.lst (ts.map tD),.lst (g.map tD)]) (l:=h.length) (xs:=ts.map tD) ς s
   rw [List.length_map]at hst
   by_cases hk:Gd ts.length s
   . simp only [hk,decide_true]at hst
     have hkl:(rS s).k < ts.length:=by have:=hk.1;have:=hk.2.1;simp only [rS];omega
     have hlegO:zbg ts (rS s)=some (z7 (rS s).f ts[(rS s).k]):=by simp [zbg,hkl]
     generalize z7 (rS s).f ts[(rS s).k]=t at hlegO
     have hleg:zbT ts s=some t:=by unfold zbT;rw [if_pos hk];exact hlegO
     have hlg:=zee (h:=h++[.lst (ts.map tD),.lst (g.map tD)]) (l:=h.length) ς hlegO
     rw [<- zuT hk]at hlg
     have hla:MI.atI (g.map tD++[tD t]) (-1)=some (tD t):=zhO _ _
     have hlt:g.length < 1000000:=by
       have:=zh3 _ _ _ hg
       have:=congrArg List.length eq
       simp at this;omega
     by_cases ha:t.a=fin a g
     . refine .inl ⟨_,h++[.lst (ts.map tD),.lst ((g++[t]).map tD)],?_,g++[t],some (rD s),rfl,rfl,zgQ hg hleg ha⟩
       simp [hst,hlg,zcy,hlt,zbe,hla,ha]
     . refine .inr ⟨.non,h++[.lst (ts.map tD),.lst ((g++[t]).map tD)],?_,rfl,?_,_,rfl⟩
       . simp [hst,hlg,zcy,hlt,zbe,hla,ha]
       . rw [<- eq]
         exact zh1 hg (fun t' e=>by rw [hleg]at e;cases e;exact ha)
   . simp only [hk,decide_false]at hst
     refine .inr ⟨.non,h++[.lst (ts.map tD),.lst (g.map tD)],?_,rfl,?_,_,rfl⟩
     . simp [hst]
     . rw [<- eq]
       exact zh1 hg (fun t' e=>by simp [zbT,hk]at e))
   (by rintro e h' ⟨g,x,rfl,rfl,hg⟩;exact zch (zy hl _)) [some (.obj w),some (.int a),some (.obj l),some (.obj h.length),some (.obj (h.length+1)),some (.int a),none] (h++[.lst (ts.map tD),.lst []]) ⟨[],none,rfl,rfl,rfl⟩
 rcases loop with ⟨e2,h2,hr,g,x,rfl,rfl,hg⟩ | ⟨v,h2,hr,rfl,hg,g,rfl⟩
 . simp at hg
   simp [W.w,h0,h1,zbH,hl,zQ,zbx W,zy hl,hr,hg]
   exact zg4 h _ (k:=1) rfl (zga _)
 . simp [W.w,h0,h1,zbH,hl,zQ,zbx W,zy hl,hr,hg]
   exact zlX _ _
end Mx
end
section
open PySem MI
namespace Mx
open My
theorem zjW {h:MH}{w t:Nat}{P turn:Int}{ts:List T3} (W:zU h w t P turn ts) {i:Int} (h0:0<=i) (h1:i < P):app zft [.obj w,.int i] h = .ok .non h:=by
 unfold app zft;simp [W.w,h0,h1]
theorem zul (h:MH) (x:Str):gc h (.ok (.str x) h) = .ok (.str x) h:=by
 have:gc h (.ok (.str x) (h++[])) = .ok (.str x) h:=by simp [gc,zc6,gcV]
 simpa using this
theorem zls (h g:MH) (x y:Int):gc h (.ok (.tup [.int x,.int y]) (h++g)) = .ok (.tup [.int x,.int y]) h:=zkw h g rfl
theorem zpD {h:MH}{n:Nat}{g:List T3} (hn:h[n]?=some (.lst (g.map tD))) (d:Option D):zbI (.nm 0) [(n,.lst (g.map tD))] zb9 (bin zf (var 0) (zb (.int (2)))) (g.map tD) [] [d] h = .ok ((g.map (·.n)).map .int) h:=by
 rw [List.map_map]
 exact ze3 (t := .nm 0) tD (fun t=> .int t.n) (fun e=>∃ d,e=[d]) (zch hn) g (by
   rintro x hx _ ⟨d,rfl⟩
   exact ⟨_,rfl,⟨_,rfl⟩,ς⟩) [d] ⟨_,rfl⟩
noncomputable def zdM (o:Option (List T3)) (a:Int):D:=match o with
 | none=> .str (Str.ofString "none")
 | some g=> .tup [.int (fin a g),.int (g.map (·.n)).sum]
theorem zhT {h:MH}{w t l:Nat}{P turn:Int}{ts:List T3} (W:zU h w t P turn ts) {S:List Rw} (hl:h[l]?=some (.lst (S.map rD))) (hS:S.length<=900000) {a:Int} (h0:0<=a) (h1:a < P) :
   app zb8 [.obj w,.int a,.obj l] h = .ok (zdM (goR ts a S) a) h:=by
 have hlegs:=zqx W hl hS h0 h1
 cases hg:goR ts a S with
 | none =>
   rw [hg]at hlegs
   dsimp only at hlegs
   have c:app zeb [.obj w,.int a,.obj l] h = .ex 2 h:=by
     unfold app zeb
     simp [zjW W h0 h1,hlegs]
   unfold app zb8
   simp [zg7,c,zdM,zi7]
   exact zul h _
 | some g =>
   rw [hg]at hlegs
   dsimp only at hlegs
   have hgl:=zh3 _ _ _ hg
   have cn:=zpD (h:=h++[.lst (g.map tD)]) (n:=h.length) (g:=g) ς none
   have in1:=ziY (g.map (·.n))
   have hgs:g.length<=1000000:=by omega
   have c:app zeb [.obj w,.int a,.obj l] h = .ok (.tup [.int (fin a g),.int (g.map (·.n)).sum]) h:=by
     unfold app zeb
     rcases List.eq_nil_or_concat g with rfl | ⟨g0,tl,rfl⟩
     . simp at cn
       simp [zjW W h0 h1,hlegs,zb3,cn,in1,zew]
       exact zls h _ _ _
     . rw [List.concat_eq_append]at *
       have hla:MI.atI ((g0++[tl]).map tD) (-1)=some (tD tl):=by rw [List.map_append];exact zhO _ _
       have hfin:fin a (g0++[tl])=tl.b:=by simp
       rw [hfin]
       have hne:(g0++[tl])≠[]:=by simp
       generalize hgg:g0++[tl]=g at *
       simp only [List.map_map]at cn in1
       simp [zjW W h0 h1,hlegs,zb3,cn,in1,zbe,hla,hgs,hne,zew]
       exact zls h _ _ _
   unfold app zb8
   simp [zg7,c,zdM]
   exact zg3 h ϱ
theorem zuf {h:MH}{n l:Nat}{ts:List T3} (hn:h[n]?=some (.lst (ts.map tD))) {S:List Rw} (hl:h[l]?=some (.lst (S.map rD))) (hS:S.length<=900000) (hts:∀ t∈ts,-1000000<=t.n∧t.n<=1000000) (a:Int) :
   app zdP [.obj n,.int a,.obj l] h=match goR ts a S with
     | none=> .ok (.tup [.obj h.length,.int 0]) (h++[.lst []])
     | some g=> .ok (.tup [.obj h.length,.int (g.map (·.n)).sum]) (h++[.lst ((a :: g.map (·.b)).map .int)]):=by
 unfold app zdP
 have loop:=zgF (t := .nm 5) (gs:=[(l,.lst (S.map rD))]) (body:=(zg (ifS (orT (zbn (tru (zcs .tuple (var 5)))) (tst (bin neV (zbd (zbs (var 5))) (zb (.int (2)))))) (zC (zG (za (zF (zbq ze)) (za (zb (.int (0))) ze)))) zB)
   (zg (zk (.tp [6,7]) (var 5))
   (zg (ifS (orT (tru (zcs .bool (var 6))) (orT (zbn (tru (zcs .int (var 6)))) (orT (zbn (tst (zdW leV ltV (zb (.int (0))) (var 6) (zbd (zbs (var 0)))))) (tst (bin zcb (var 7) (zG (za (zb (.int (1))) (za (un zbi (zb (.int (1)))) ze)))))))) (zC (zG (za (zF (zbq ze)) (za (zb (.int (0))) ze)))) zB)
   (zg (zk (.nm 8) (ifE (tst (bin eqV (var 7) (zb (.int (1))))) (zd4 (bin zf (var 0) (var 6)) noP (zbz (zb (.int (2))))) (zhe (bin zf (var 0) (var 6)))))
   (zg (ifS (tst (bin neV (bin zf (var 3) (un zbi (zb (.int (1))))) (bin zf (var 8) (zb (.int (0)))))) (zC (zG (za (zF (zbq ze)) (za (zb (.int (0))) ze)))) zB)
   (zg (zbh (zbu (var 3) (bin zf (var 8) (zb (.int (1))))))
   (zk (.nm 4) (bin zE (var 4) (bin zbr (var 7) (bin zf (bin zf (var 0) (var 6)) (zb (.int (2)))))))))))))) rD
   (fun d e h'=>∃ g x y z u,e=[some (.obj n),some (.int a),some (.obj l),some (.obj h.length),some (.int (g.map (·.n)).sum),x,y,z,u]∧h'=h++[.lst ((a :: g.map (·.b)).map .int)]∧goR ts a d=some g)
   (fun v h'=>goR ts a S=none∧∃ o,v = .tup [.obj (h.length+1),.int 0]∧h'=h++[o,.lst []]) S [] (by
   rintro d s r e h' eq ⟨g,x,y,z,u,rfl,rfl,hg⟩
   simp only [List.nil_append]at eq
   refine ⟨zch (zy hl _),_,rfl,?_⟩
   have hlast:∃ p,(a :: g.map (·.b)).map D.int=p++[.int (fin a g)]:=by
     rcases List.eq_nil_or_concat g with rfl | ⟨g0,t,rfl⟩
     . exact ⟨[],rfl⟩
     . exact ⟨(a :: g0.map (·.b)).map D.int,ς⟩
   obtain ⟨p,hp⟩:=hlast
   have hla:MI.atI ((a :: g.map (·.b)).map D.int) (-1)=some (.int (fin a g)):=by rw [hp];exact zhO _ _
   have hpl:(a :: g.map (·.b)).map D.int = .int a :: (g.map (·.b)).map .int:=rfl
   generalize hpp:(a :: g.map (·.b)).map D.int=pp at *
   have hplen:pp.length < 1000000:=by
     have h1:=zh3 _ _ _ hg
     have h2:=congrArg List.length eq
     rw [hpl];simp at h2 ⊢;omega
   obtain ⟨i,j⟩:=s
   by_cases hk:Gd ts.length (i,j)
   . have h0:0<=i:=hk.1
     have h1:i < (ts.length:Int):=hk.2.1
     have hkl:i.toNat < ts.length:=by omega
     have hat:MI.atI (ts.map tD) i=some (tD ts[i.toNat]):=by
       have:=zeE (xs:=ts.map tD) (k:=i.toNat) (by simpa using hkl)
       rw [Int.toNat_of_nonneg h0]at this
       rw [this];simp
     have hsm:=hts ts[i.toNat] (List.getElem_mem hkl)
     have hleg:zbT ts (i,j)=some (z7 (decide (j=1)) ts[i.toNat]):=by unfold zbT;rw [if_pos hk];simp [zbg,rS,hkl]
     generalize ts[i.toNat]=t0 at hleg hat hsm
     have hsmall:zbR t0.n=true:=by simp [zbR];omega
     by_cases ha:(z7 (decide (j=1)) t0).a=fin a g
     . refine .inl ⟨_,h++[.lst ((a :: (g++[z7 (decide (j=1)) t0]).map (·.b)).map .int)],?_,g++[z7 (decide (j=1)) t0],some (rD (i,j)),some (.int i),some (.int j),some (.tup [.int (z7 (decide (j=1)) t0).a,.int (z7 (decide (j=1)) t0).b]),rfl,rfl,zgQ hg hleg ha⟩
       have e1:(a :: (g++[z7 (decide (j=1)) t0]).map (·.b)).map D.int=pp++[.int (z7 (decide (j=1)) t0).b]:=by rw [<- hpp];simp
       rw [e1]
       rcases hk.2.2 with hj | hj
       . have hj:j=1:=hj
         subst hj
         simp [z7]at ha
         simp [rD,zbH,h0,h1,inV,zbk,inB,zc7,zbe,zy hn,hat,tD,hla,zcb,z7,tn,ha,zcy,hplen,zf,hsmall]
       . have hj:j=-1:=hj
         subst hj
         simp [z7,tn]at ha
         simp [rD,zbH,h0,h1,inV,zbk,inB,zc7,zbe,zy hn,hat,tD,hla,zcb,z7,tn,ha,zcy,hplen,zf,hsmall]
     . refine .inr ⟨_,h++[.lst pp,.lst []],?_,?_,_,rfl,rfl⟩
       . rcases hk.2.2 with hj | hj
         . have hj:j=1:=hj
           subst hj
           simp [z7]at ha
           simp [rD,zbH,h0,h1,inV,zbk,inB,zc7,zbe,zy hn,hat,tD,hla,zcb,z7,tn,ha,Ne.symm ha,zf]
         . have hj:j=-1:=hj
           subst hj
           simp [z7,tn]at ha
           simp [rD,zbH,h0,h1,inV,zbk,inB,zc7,zbe,zy hn,hat,tD,hla,zcb,z7,tn,ha,Ne.symm ha,zf]
       . rw [<- eq]
         exact zh1 hg (fun t' e=>by rw [hleg]at e;cases e;exact ha)
   . refine .inr ⟨_,h++[.lst pp,.lst []],?_,?_,_,rfl,rfl⟩
     . by_cases h0:0<=i
       . by_cases h1:i < (ts.length:Int)
         . have h2:¬ j=1:=fun z=>hk ⟨h0,h1,.inl z⟩
           have h3:¬ j=-1:=fun z=>hk ⟨h0,h1,.inr z⟩
           simp [rD,zbH,h0,h1,zbe,zy hn,inV,zbk,inB,zc7,zcb,Ne.symm h2,Ne.symm h3]
         . simp [rD,zbH,h0,h1,zbe,zy hn]
       . simp [rD,zbH,h0,zbe,zy hn]
     . rw [<- eq]
       exact zh1 hg (fun t' e=>by simp [zbT,hk]at e))
   (by rintro e h' ⟨g,x,y,z,u,rfl,rfl,hg⟩;exact zch (zy hl _)) [some (.obj n),some (.int a),some (.obj l),some (.obj h.length),some (.int 0),none,none,none,none] (h++[.lst [.int a]]) ⟨[],none,none,none,none,rfl,rfl,rfl⟩
 rcases loop with ⟨e2,h2,hr,g,x,y,z,u,rfl,rfl,hg⟩ | ⟨v,h2,hr,hg,o,rfl,rfl⟩
 . simp at hg
   simp [zy hl,hr,hg]
   have hf:=zgV (a :: g.map (·.b))
   rw [List.map_cons,List.map_map]at hf
   exact zk9 h _ (k:=0) _ rfl hf
 . simp [zy hl,hr,hg]
   exact zk9 h _ (k:=1) (o := .lst []) _ rfl rfl
end Mx
end
section
open PySem MI
namespace Mx
open My
theorem zjq {α:Type} (f:α->D) (hf:∀ a,peq (f a) (f a)=true):∀ l:List α,zbZ (l.map f) (l.map f)=true
 | []=>by simp [zbZ]
 | a :: l=>by rw [List.map_cons,zbZ,hf a,zjq f hf l];rfl
theorem ztS (r:Rw):peq (rD r) (rD r)=true:=by simp [rD,peq,zbZ]
theorem zkJ (r:T3):peq (tD r) (tD r)=true:=by simp [tD,peq,zbZ]
theorem zmd {h:MH}{n m:Nat}{α:Type} (f:α->D) (hf:∀ a,peq (f a) (f a)=true) (hp:∀ a,(f a).pl 5=true) {l:List α} (hn:h[n]?=some (.lst (l.map f))) (hm:h[m]?=some (.lst (l.map f))) (e:zD):neV (.obj n) (.obj m) e h = .ok (.bl false) h:=by
 have:(l.map f).all (D.pl 5)=true:=by simp [hp]
 simp [neV,zbP,hn,hm,hp,Cmp.eq,zjq f hf]
theorem ztp {h:MH}{n m:Nat}{l:List Rw} (hn:h[n]?=some (.lst (l.map rD))) (hm:h[m]?=some (.lst (l.map rD))) (e:zD):neV (.obj n) (.obj m) e h = .ok (.bl false) h:=zmd rD ztS (fun _=>rfl) hn hm e
theorem zf9 {h:MH}{n m:Nat}{l:List T3} (hn:h[n]?=some (.lst (l.map tD))) (hm:h[m]?=some (.lst (l.map tD))) (e:zD):neV (.obj n) (.obj m) e h = .ok (.bl false) h:=zmd tD zkJ (fun _=>rfl) hn hm e
theorem zsZ {h:MH}{n m:Nat}{l:List T3} (hn:h[n]?=some (.lst (l.map tD))) (hm:h[m]?=some (.lst (l.map tD))) (e:zD):eqV (.obj n) (.obj m) e h = .ok (.bl true) h:=by
 have hp:∀ a:T3,(tD a).pl 5=true:=fun _=>rfl
 simp [eqV,zbP,hn,hm,hp,Cmp.eq,zjq tD zkJ]
theorem zf5 (a b:Int) (e:zD) (h:MH):neV (.tup [.int a,.int b]) (.tup [.int a,.int b]) e h = .ok (.bl false) h:=by
 simp [neV,zbP,D.pl,Cmp.eq,peq,zbZ]
theorem zsh (a:Str) (e:zD) (h:MH):neV (.str a) (.str a) e h = .ok (.bl false) h:=by
 simp [neV,zbP,D.pl,Cmp.eq,peq]
noncomputable def nR (r:Rw):Rw:=(r.1,-r.2)
theorem zk3 (t:T3):tn (tn t)=t:=by cases t;simp [tn]
theorem ztF {ts:List T3}{r:Rw}{t:T3} (e:zbT ts r=some t):zbT ts (nR r)=some (tn t):=by
 unfold zbT at *
 split at e
 . rename_i g
   have g2:Gd ts.length (nR r):=⟨g.1,g.2.1,by rcases g.2.2 with h | h <;> simp [nR,h]⟩
   rw [if_pos g2]
   unfold zbg at *
   have e1:(rS (nR r)).k=(rS r).k:=rfl
   rw [e1]
   cases hk:ts[(rS r).k]? with
   | none=>rw [hk]at e;cases e
   | some t0 =>
     rw [hk]at e
     simp at e
     subst e
     rcases g.2.2 with h | h <;> simp [rS,nR,h,z7,zk3]
 . cases e
theorem zi5 {ts:List T3}{a:Int}:∀ {R:List Rw}{g:List T3},goR ts a R=some g->∀ b,g≠[]->fin b ((g.reverse).map tn)=a
 | [],g,e,b,hne=>by simp [goR]at e;exact absurd e.symm (by simpa using hne)
 | r :: R,g,e,b,hne=>by
   unfold goR at e
   cases hl:zbT ts r with
   | none=>simp [hl]at e
   | some t =>
     simp only [hl]at e
     by_cases ha:t.a=a
     . rw [if_pos ha]at e
       cases hr:goR ts t.b R with
       | none=>simp [hr]at e
       | some g' =>
         simp [hr]at e
         subst e
         simp [tn,ha]
     . simp [ha]at e
theorem zjT {ts:List T3}:∀ {R:List Rw}{a:Int}{g:List T3},goR ts a R=some g->goR ts (fin a g) ((R.reverse).map nR)=some ((g.reverse).map tn)
 | [],a,g,e=>by simp [goR]at e;subst e;simp [goR]
 | r :: R,a,g,e=>by
   unfold goR at e
   cases hl:zbT ts r with
   | none=>simp [hl]at e
   | some t =>
     simp only [hl]at e
     by_cases ha:t.a=a
     . rw [if_pos ha]at e
       cases hr:goR ts t.b R with
       | none=>simp [hr]at e
       | some g' =>
         simp [hr]at e
         subst e
         have ih:=zjT hr
         have hf:fin (fin t.b g') ((g'.reverse).map tn)=t.b:=by
           by_cases hg:g'=[]
           . subst hg;simp
           . exact zi5 hr _ hg
         have:=zgQ ih (ztF hl) (by rw [hf];rfl)
         simpa using this
     . simp [ha]at e
theorem zkx (g:List T3):(((g.reverse).map tn).map (·.n)).sum=-(g.map (·.n)).sum:=by
 induction g with
 | nil=>rfl
 | cons t g ih=>simp [tn]at ih ⊢;rw [ih];omega
theorem zmq (a:Int) (g g':List T3):fin a (g++g')=fin (fin a g) g':=by
 rcases List.eq_nil_or_concat g' with rfl | ⟨x,y,rfl⟩
 . simp
 . rw [List.concat_eq_append,<- List.append_assoc,zjR,zjR]
theorem zqr {ts:List T3}{R:List Rw}{a:Int}{g:List T3} (e:goR ts a R=some g):zdM (goR ts a (R++(R.reverse).map nR)) a = .tup [.int a,.int 0]:=by
 have hb:=zjT e
 rw [zfX,e]
 simp only [hb]
 have hf:fin (fin a g) ((g.reverse).map tn)=a:=by
   by_cases hg:g=[]
   . subst hg;simp
   . exact zi5 e _ hg
 have hs:=zkx g
 simp only [Option.map_some,zdM]
 rw [zmq,hf,List.map_append,List.sum_append,hs]
 simp;omega
theorem zp4 {ts:List T3}{R:List Rw}{a:Int}{g:List T3} (e:goR ts a R=some g):zdM (goR ts a ((R++(R.reverse).map nR)++R)) a = .tup [.int (fin a g),.int (g.map (·.n)).sum]:=by
 have hb:=zjT e
 have hf:fin (fin a g) ((g.reverse).map tn)=a:=by
   by_cases hg:g=[]
   . subst hg;simp
   . exact zi5 e _ hg
 have hs:=zkx g
 have e2:goR ts a (R++(R.reverse).map nR)=some (g++(g.reverse).map tn):=by
   rw [zfX,e];simp only [hb,Option.map_some]
 rw [zfX,e2]
 simp only [zmq,hf,e,Option.map_some,zdM]
 rw [List.map_append,List.map_append,List.sum_append,List.sum_append,hs]
 have:(g.map (·.n)).sum + -(g.map (·.n)).sum+(g.map (·.n)).sum=(g.map (·.n)).sum:=by omega
 rw [this]
end Mx
end
section
open PySem MI
namespace Mx
open My
theorem zt8 {h:MH}{w n s:Nat}{P:Int}{ts:List T3} (hn:h[n]?=some (.lst (ts.map tD))) (hts:∀ t∈ts,t.Ok P) {a:Int}{R:List Rw}{g:List T3} (hg:goR ts a R=some g) (hR:R.length<=100) {k:Nat} (hk:k < ts.length) {x9:Option D}{rest:zD} :
   ∃ R' g' y9,(ifS (tst (bin inV (var 4) (zd4 (bin zf (var 2) (var 8)) noP (zbz (zb (.int (2))))))) (zg (zk (.nm 9) (ifE (tst (bin eqV (var 4) (bin zf (bin zf (var 2) (var 8)) (zb (.int (0)))))) (zb (.int (1))) (un zbi (zb (.int (1))))))
   (zg (zbh (zbu (var 6) (zG (za (var 8) (za (var 9) ze)))))
   (zg (zk (.nm 4) (ifE (tst (bin eqV (var 9) (zb (.int (1))))) (bin zf (bin zf (var 2) (var 8)) (zb (.int (1)))) (bin zf (bin zf (var 2) (var 8)) (zb (.int (0))))))
   (zk (.nm 7) (bin zE (var 7) (bin zbr (var 9) (bin zf (bin zf (var 2) (var 8)) (zb (.int (2)))))))))) zB) (some (.obj w) :: some (.int P) :: some (.obj n) :: some (.obj s) :: some (.int (fin a g)) :: some (.int a) :: some (.obj h.length) :: some (.int (g.map (·.n)).sum) :: some (.int k) :: x9 :: rest) (h++[.lst (R.map rD)]) = .nx (some (.obj w) :: some (.int P) :: some (.obj n) :: some (.obj s) :: some (.int (fin a g')) :: some (.int a) :: some (.obj h.length) :: some (.int (g'.map (·.n)).sum) :: some (.int k) :: y9 :: rest) (h++[.lst (R'.map rD)])∧goR ts a R'=some g'∧R'.length<=R.length+1:=by
 have hat:MI.atI (ts.map tD) (k:Int)=some (tD ts[k]):=by rw [zeE (by simpa using hk)];simp
 have ok:=hts ts[k] (List.getElem_mem hk)
 have hgd:∀ j:Int,j=1∨j=-1->Gd ts.length ((k:Int),j):=fun j hj=>⟨ς,by simp;omega,hj⟩
 have hlr:∀ j:Int,j=1∨j=-1->zbT ts ((k:Int),j)=some (z7 (decide (j=1)) ts[k]):=fun j hj=>by
   unfold zbT;rw [if_pos (hgd j hj)];simp [zbg,rS,hk]
 generalize ts[k]=t0 at hat ok hlr
 have hsmall:zbR t0.n=true:=by have:=ok.n0;have:=ok.n1;simp [zbR];omega
 have hRl:R.length < 1000000:=by omega
 by_cases e1:t0.a=fin a g
 . refine ⟨R++[((k:Int),1)],g++[t0],some (.int 1),?_,zgQ hg (by rw [hlr 1 (.inl rfl)];simp [z7]) e1,ς⟩
   simp [zbe,zy hn,hat,tD,zf,inV,zbk,inB,zc7,e1,zcy,hRl,hsmall,rD]
 . by_cases e2:t0.b=fin a g
   . refine ⟨R++[((k:Int),-1)],g++[tn t0],some (.int (-1)),?_,zgQ hg (by rw [hlr (-1) (.inr rfl)];simp [z7]) (by simpa [tn] using e2),ς⟩
     simp [zbe,zy hn,hat,tD,zf,inV,zbk,inB,zc7,e1,e2,Ne.symm e1,zcy,hRl,hsmall,rD,tn]
   . refine ⟨R,g,x9,?_,hg,ω⟩
     simp [zbe,zy hn,hat,tD,zf,inV,zbk,inB,zc7,e1,e2]
theorem zg8 {α:Type} (f:α->D) (l:List α) (o o':Option Int):MI.cut (l.map f) o o'=(MI.cut l o o').map f:=by
 simp [MI.cut,List.map_take,List.map_drop]
theorem zhc {α:Type} (l:List α) (o o':Option Int):(MI.cut l o o').length<=l.length:=by
 simp [MI.cut];omega
theorem zuN {h:MH}{w t n s:Nat}{P turn:Int}{ts:List T3}{ns:List Int} (W:zU h w t P turn ts) (hn:h[n]?=some (.lst (ts.map tD))) (hs:h[s]?=some (.scr (ns.map .int))) (hts:∀ t∈ts,t.Ok P) (hl:ts.length<=63) {a:Int} (a0:0<=a) (a1:a < P) {q:Nat}{R:List Rw} (hq:h[q]?=some (.lst (R.map rD))) (hR:R.length<=100) {k:Nat}{x4 x7 x9 x10 x11 x12 x13 x14 x15 x16:Option D} :
   ∃ y12 y13 y14 y15 y16 g,(zg (zk (.nm 12) (zj zbo (za (var 3) (za (var 8) ze))))
   (zg (zk (.nm 13) (zG (za (bin z3 (zj zu (za (var 12) (za (zb (.int (4))) (za (bin zE (zbd (zbs (var 2))) (zb (.int (2)))) ze)))) (zb (.int (1)))) (za (bin zf (zG (za (zb (.int (1))) (za (un zbi (zb (.int (1)))) (za (zb (.int (0))) (za (zb (.int (2))) ze))))) (zj zu (za (var 12) (za (zb (.int (5))) (za (zb (.int (4))) ze))))) ze))))
   (zg (zk (.nm 14) (zF (zcm (zF (zca (var 6) noP (zbz (zj zu (za (var 12) (za (zb (.int (6))) (za (bin zE (zbd (zbS (var 6))) (zb (.int (1)))) ze))))))) (zbq (za (var 13) ze)))))
   (zg (zk (.tp [15,16]) (zj zdP (za (var 2) (za (var 5) (za (var 14) ze)))))
   (ifS (tst (bin neV (zj zb8 (za (var 0) (za (var 5) (za (var 14) ze)))) (ifE (tst (bin eqV (var 15) (zF (zbq ze)))) (zb (.str (Str.ofString "none"))) (zG (za (bin zf (var 15) (un zbi (zb (.int (1))))) (za (var 16) ze)))))) (zC (zb (.bl false))) zB))))) [some (.obj w),some (.int P),some (.obj n),some (.obj s),x4,some (.int a),some (.obj q),x7,some (.int k),x9,x10,x11,x12,x13,x14,x15,x16] h = .nx [some (.obj w),some (.int P),some (.obj n),some (.obj s),x4,some (.int a),some (.obj q),x7,some (.int k),x9,x10,x11,y12,y13,y14,y15,y16] (h++g):=by
 obtain ⟨c,hc⟩:=zgj hs (i:=(k:Int)) ω
 obtain ⟨d1,hd1,_,_⟩:=zfc c 4 (m:=(ts.length:Int)+2) ω
 obtain ⟨d2,v,hd2,_,hp2⟩:=zgH [1,-1,0,2] c 5 (m:=4) ς ω
 obtain ⟨d3,hd3,_,_⟩:=zfc c 6 (m:=(R.length:Int)+1) ω
 simp only [List.map_cons,List.map_nil]at hp2
 have hcl:=zhc R none (some d3)
 generalize hC:MI.cut R none (some d3)=C at hcl
 have hwk:=zuf (h:=h++[.lst (C.map rD),.lst ((C++[(d1 - 1,v)]).map rD)]) (n:=n) (l:=h.length+1) (ts:=ts) (zy hn _) (S:=C++[(d1 - 1,v)]) ς (by simp;omega) (fun t ht=>⟨(hts t ht).n0,(hts t ht).n1⟩) a
 have hcm:=fun g=>zhT (h:=h ++ .lst (C.map rD) :: .lst ((C++[(d1 - 1,v)]).map rD) :: g) (l:=h.length+1) (S:=C++[(d1 - 1,v)]) (W.app _) ς (by simp;omega) a0 a1
 generalize hX:C++[(d1 - 1,v)]=X at hwk hcm
 have hXd:C.map rD++[D.tup [.int (d1 - 1),.int v]]=X.map rD:=by rw [<- hX];simp [rD]
 have hc1:C.length<=999999:=by omega
 have hRl:R.length<=1000000:=by omega
 have hcut:MI.cut (R.map rD) none (some d3)=C.map rD:=by rw [zg8,hC]
 cases hg:goR ts a X with
 | none =>
   rw [hg]at hwk
   simp only [hg,zdM]at hcm
   dsimp only at hwk
   simp at hwk
   have hnil:=zmg (h:=h++[.lst (C.map rD),.lst (X.map rD),.lst [],.lst []]) (n:=h.length+2) (m:=h.length+3) (xs:=[]) ς ς
   simp at hnil
   refine ⟨some (.int c),some (.tup [.int (d1 - 1),.int v]),some (.obj (h.length+1)),some (.obj (h.length+2)),some (.int 0),[.lst (C.map rD),.lst (X.map rD),.lst [],.lst []],?_⟩
   simp [hc,hn,hd1,hd2,zid,hp2,hq,hd3,hcut,hc1,hXd,hwk,hcm,hnil,zsh]
 | some g =>
   rw [hg]at hwk
   simp only [hg,zdM]at hcm
   dsimp only at hwk
   have hnil:=zmg (h:=h++[.lst (C.map rD),.lst (X.map rD),.lst ((a :: g.map (·.b)).map .int),.lst []]) (n:=h.length+2) (m:=h.length+3) (xs:=a :: g.map (·.b)) ς ς
   have hla:MI.atI ((a :: g.map (·.b)).map D.int) (-1)=some (.int (fin a g)):=by
     rcases List.eq_nil_or_concat g with rfl | ⟨g0,t,rfl⟩
     . rfl
     . have:(a :: (g0.concat t).map (·.b)).map D.int=(a :: g0.map (·.b)).map D.int++[.int t.b]:=by simp
       rw [this,List.concat_eq_append,zjR];exact zhO _ _
   generalize hpp:(a :: g.map (·.b)).map D.int=pp at *
   simp at hwk hnil
   refine ⟨some (.int c),some (.tup [.int (d1 - 1),.int v]),some (.obj (h.length+1)),some (.obj (h.length+2)),some (.int (g.map (·.n)).sum),[.lst (C.map rD),.lst (X.map rD),.lst pp,.lst []],?_⟩
   simp [hc,hn,hd1,hd2,zid,hp2,hq,hd3,hcut,hc1,hXd,hwk,hcm,hnil,zbe,hla,zf5]
end Mx
end
section
open PySem MI
namespace Mx
open My
theorem zsf {h:MH}{n:Nat}{R:List Rw} (hn:h[n]?=some (.lst (R.map rD))) (a b:Option D):zbI (.tp [0,1]) [(n,.lst (R.map rD))] zb9 (zG (za (var 0) (za (un zbi (var 1)) ze))) (R.map rD) [] [a,b] h = .ok ((R.map nR).map rD) h:=by
 rw [List.map_map]
 exact ze3 (t := .tp [0,1]) rD (fun r=>rD (nR r)) (fun e=>∃ a b,e=[a,b]) (zch hn) R (by
   rintro x hx _ ⟨a,b,rfl⟩
   exact ⟨_,rfl,⟨_,_,rfl⟩,by simp [rD,nR]⟩) [a,b] ⟨_,_,rfl⟩
theorem zrk {h:MH}{w t n s:Nat}{P turn:Int}{ts:List T3}{ns:List Int} (W:zU h w t P turn ts) (hn:h[n]?=some (.lst (ts.map tD))) (hs:h[s]?=some (.scr (ns.map .int))) (hts:∀ t∈ts,t.Ok P) (hP:1<=P) (hl:ts.length<=63) :
   app zeN [.obj w,.int P,.obj n,.obj s] h = .ok (.bl true) h:=by
 obtain ⟨c,hc⟩:=zgj hs (i:=1) ω
 obtain ⟨a,hd,a0,a1⟩:=zfc c 3 (m:=P) ω
 have loop:=ze8 (t := .nm 8) (gs:=[]) (body:=(ifS (tst (bin inV (var 4) (zd4 (bin zf (var 2) (var 8)) noP (zbz (zb (.int (2))))))) (zg (zk (.nm 9) (ifE (tst (bin eqV (var 4) (bin zf (bin zf (var 2) (var 8)) (zb (.int (0)))))) (zb (.int (1))) (un zbi (zb (.int (1))))))
   (zg (zbh (zbu (var 6) (zG (za (var 8) (za (var 9) ze)))))
   (zg (zk (.nm 4) (ifE (tst (bin eqV (var 9) (zb (.int (1))))) (bin zf (bin zf (var 2) (var 8)) (zb (.int (1)))) (bin zf (bin zf (var 2) (var 8)) (zb (.int (0))))))
   (zk (.nm 7) (bin zE (var 7) (bin zbr (var 9) (bin zf (bin zf (var 2) (var 8)) (zb (.int (2)))))))))) zB)) (fun k:Nat=>D.int k)
   (fun d e h'=>∃ R g x8 x9,e=[some (.obj w),some (.int P),some (.obj n),some (.obj s),some (.int (fin a g)),some (.int a),some (.obj h.length),some (.int (g.map (·.n)).sum),x8,x9,none,none,none,none,none,none,none]∧h'=h++[.lst (R.map rD)]∧goR ts a R=some g∧R.length<=d.length) (List.range ts.length) (by
   rintro d k r e h' eq ⟨R,g,x8,x9,rfl,rfl,hg,hR⟩
   refine ⟨rfl,_,rfl,?_⟩
   have hk:k < ts.length:=by
     have:k∈List.range ts.length:=by rw [<- eq];simp
     exact List.mem_range.1 this
   have hdl:d.length<=63:=by
     have:=congrArg List.length eq
     simp at this;omega
   obtain ⟨R',g',y9,he,hg',hR'⟩:=zt8 (w:=w) (n:=n) (s:=s) hn hts hg ω hk (x9:=x9) (rest:=[none,none,none,none,none,none,none])
   exact ⟨_,_,he,R',g',_,_,rfl,rfl,hg',by simp;omega⟩) (fun _ _ _=>rfl) [some (.obj w),some (.int P),some (.obj n),some (.obj s),some (.int a),some (.int a),some (.obj h.length),some (.int 0),none,none,none,none,none,none,none,none,none] (h++[.lst []])
     ⟨[],[],_,_,rfl,rfl,rfl,ς⟩
 obtain ⟨e2,h2,hr,R,g,x8,x9,rfl,rfl,hg,hR⟩:=loop
 simp only [List.length_range]at hR
 obtain ⟨V,hV⟩:∃ V:List Rw,R.reverse=V:=⟨_,rfl⟩
 obtain ⟨b,hb⟩:∃ b:List Rw,V.map nR=b:=⟨_,rfl⟩
 obtain ⟨c2,hc2⟩:∃ c:List Rw,R++b=c:=⟨_,rfl⟩
 obtain ⟨c3,hc3⟩:∃ c:List Rw,c2++R=c:=⟨_,rfl⟩
 have hVl:V.length=R.length:=by rw [<- hV];simp
 have hbl:b.length=R.length:=by rw [<- hb,<- hV];simp
 have hc2l:c2.length=R.length+R.length:=by rw [<- hc2];simp [hbl]
 have hc3l:c3.length=R.length+R.length+R.length:=by rw [<- hc3];simp [hc2l]
 have m1:(R.map rD).reverse=V.map rD:=by rw [<- hV,List.map_reverse]
 have m2:R.map rD++b.map rD=c2.map rD:=by rw [<- hc2,List.map_append]
 have m3:c2.map rD++R.map rD=c3.map rD:=by rw [<- hc3,List.map_append]
 have g2:=zqr hg
 have g3:=zp4 hg
 rw [hV,hb,hc2]at g2 g3
 rw [hc3]at g3
 let h5:MH:=h++[.lst (R.map rD),.lst (R.map rD),.lst (V.map rD),.lst (b.map rD),.lst (c2.map rD),.lst (c2.map rD),.lst (c3.map rD)]
 have loop2:=ze8 (t := .nm 8) (gs:=[]) (body:=(zg (zk (.nm 12) (zj zbo (za (var 3) (za (var 8) ze))))
   (zg (zk (.nm 13) (zG (za (bin z3 (zj zu (za (var 12) (za (zb (.int (4))) (za (bin zE (zbd (zbs (var 2))) (zb (.int (2)))) ze)))) (zb (.int (1)))) (za (bin zf (zG (za (zb (.int (1))) (za (un zbi (zb (.int (1)))) (za (zb (.int (0))) (za (zb (.int (2))) ze))))) (zj zu (za (var 12) (za (zb (.int (5))) (za (zb (.int (4))) ze))))) ze))))
   (zg (zk (.nm 14) (zF (zcm (zF (zca (var 6) noP (zbz (zj zu (za (var 12) (za (zb (.int (6))) (za (bin zE (zbd (zbS (var 6))) (zb (.int (1)))) ze))))))) (zbq (za (var 13) ze)))))
   (zg (zk (.tp [15,16]) (zj zdP (za (var 2) (za (var 5) (za (var 14) ze)))))
   (ifS (tst (bin neV (zj zb8 (za (var 0) (za (var 5) (za (var 14) ze)))) (ifE (tst (bin eqV (var 15) (zF (zbq ze)))) (zb (.str (Str.ofString "none"))) (zG (za (bin zf (var 15) (un zbi (zb (.int (1))))) (za (var 16) ze)))))) (zC (zb (.bl false))) zB)))))) (fun k:Nat=>D.int k)
   (fun d e h'=>∃ x8 y12 y13 y14 y15 y16 g1,e=[some (.obj w),some (.int P),some (.obj n),some (.obj s),some (.int (fin a g)),some (.int a),some (.obj h.length),some (.int (g.map (·.n)).sum),x8,x9,some (.obj (h.length+1)),some (.obj (h.length+3)),y12,y13,y14,y15,y16]∧h'=h++(.lst (R.map rD) :: g1)) (List.range 5) (by
   rintro d k r e h' eq ⟨x8,y12,y13,y14,y15,y16,g1,rfl,rfl⟩
   refine ⟨rfl,_,rfl,?_⟩
   obtain ⟨z12,z13,z14,z15,z16,g2,he⟩:=zuN (h:=h++(.lst (R.map rD) :: g1)) (W.app _) (zy hn _) (zy hs _) hts hl a0 a1 (q:=h.length) (R:=R) ς ω (k:=k) (x4:=some (.int (fin a g))) (x7:=some (.int (g.map (·.n)).sum)) (x9:=x9) (x10:=some (.obj (h.length+1))) (x11:=some (.obj (h.length+3))) (x12:=y12) (x13:=y13) (x14:=y14) (x15:=y15) (x16:=y16)
   exact ⟨_,_,he,_,_,_,_,_,_,g1++g2,rfl,ς⟩) (fun _ _ _=>rfl) [some (.obj w),some (.int P),some (.obj n),some (.obj s),some (.int (fin a g)),some (.int a),some (.obj h.length),some (.int (g.map (·.n)).sum),x8,x9,some (.obj (h.length+1)),some (.obj (h.length+3)),none,none,none,none,none] h5
     ⟨_,_,_,_,_,_,_,rfl,rfl⟩
 obtain ⟨e3,h3,hr2,x8',y12,y13,y14,y15,y16,g1,rfl,rfl⟩:=loop2
 let E:Option D->Option D->Option D->zD:=fun x8 x10 x11=>[some (.obj w),some (.int P),some (.obj n),some (.obj s),some (.int (fin a g)),some (.int a),some (.obj h.length),some (.int (g.map (·.n)).sum),x8,x9,x10,x11,none,none,none,none,none]
 have q1:(ts.length:Int)<=1000000:=by omega
 have q2:(-1000000:Int)<=ts.length:=by omega
 have st1:(zk (.nm 4) (zj zu (za (zj zbo (za (var 3) (za (zb (.int (1))) ze))) (za (zb (.int (3))) (za (var 1) ze))))) [some (.obj w),some (.int P),some (.obj n),some (.obj s),none,none,none,none,none,none,none,none,none,none,none,none,none] h = .nx [some (.obj w),some (.int P),some (.obj n),some (.obj s),some (.int a),none,none,none,none,none,none,none,none,none,none,none,none] h:=by
   simp [hc,hd]
 have st2:(zd7 [5,6,7] (za (var 4) (za (zF (zbq ze)) (za (zb (.int (0))) ze)))) [some (.obj w),some (.int P),some (.obj n),some (.obj s),some (.int a),none,none,none,none,none,none,none,none,none,none,none,none] h = .nx [some (.obj w),some (.int P),some (.obj n),some (.obj s),some (.int a),some (.int a),some (.obj h.length),some (.int 0),none,none,none,none,none,none,none,none,none] (h++[.lst []]):=by
   simp
 have st3:(zcz (.nm 8) (itR (zbd (zbs (var 2))))
   (ifS (tst (bin inV (var 4) (zd4 (bin zf (var 2) (var 8)) noP (zbz (zb (.int (2))))))) (zg (zk (.nm 9) (ifE (tst (bin eqV (var 4) (bin zf (bin zf (var 2) (var 8)) (zb (.int (0)))))) (zb (.int (1))) (un zbi (zb (.int (1))))))
   (zg (zbh (zbu (var 6) (zG (za (var 8) (za (var 9) ze)))))
   (zg (zk (.nm 4) (ifE (tst (bin eqV (var 9) (zb (.int (1))))) (bin zf (bin zf (var 2) (var 8)) (zb (.int (1)))) (bin zf (bin zf (var 2) (var 8)) (zb (.int (0))))))
   (zk (.nm 7) (bin zE (var 7) (bin zbr (var 9) (bin zf (bin zf (var 2) (var 8)) (zb (.int (2)))))))))) zB)) [some (.obj w),some (.int P),some (.obj n),some (.obj s),some (.int a),some (.int a),some (.obj h.length),some (.int 0),none,none,none,none,none,none,none,none,none] (h++[.lst []]) = .nx (E x8 none none) (h++[.lst (R.map rD)]):=by
   simp [zy hn,q1,q2,hr,E]
 have st4:(zk (.nm 10) (zF (zbS (var 6)))) (E x8 none none) (h++[.lst (R.map rD)]) = .nx (E x8 (some (.obj (h.length+1))) none) (h++[.lst (R.map rD),.lst (R.map rD)]):=by
   simp [E]
 have ed:zdM (goR ts a R) a = .tup [.int (fin a g),.int (g.map (·.n)).sum]:=by rw [hg];rfl
 have st5:(ifS (orT (tst (bin neV (zj zb8 (za (var 0) (za (var 5) (za (var 10) ze)))) (zG (za (var 4) (za (var 7) ze))))) (tst (bin neV (var 10) (var 6)))) (zC (zb (.bl false))) zB) (E x8 (some (.obj (h.length+1))) none) (h++[.lst (R.map rD),.lst (R.map rD)]) = .nx (E x8 (some (.obj (h.length+1))) none) (h++[.lst (R.map rD),.lst (R.map rD)]):=by
   have cl:=zhT (h:=h++[.lst (R.map rD),.lst (R.map rD)]) (l:=h.length+1) (S:=R) (W.app _) ς ω a0 a1
   have ne:=ztp (h:=h++[.lst (R.map rD),.lst (R.map rD)]) (n:=h.length+1) (m:=h.length) (l:=R) ς ς
   rw [ed]at cl
   simp [E,cl,zf5,ne]
 have st6:(zk (.nm 11) (zF (zcu [none,none] (.tp [0,1]) (itL (zF (zh9 (var 6)))) zb9 (zG (za (var 0) (za (un zbi (var 1)) ze)))))) (E x8 (some (.obj (h.length+1))) none) (h++[.lst (R.map rD),.lst (R.map rD)]) = .nx (E x8 (some (.obj (h.length+1))) (some (.obj (h.length+3)))) (h++[.lst (R.map rD),.lst (R.map rD),.lst (V.map rD),.lst (b.map rD)]):=by
   have cp:=zsf (h:=h++[.lst (R.map rD),.lst (R.map rD),.lst (V.map rD)]) (n:=h.length+2) (R:=V) ς none none
   have q3:R.length<=1000000:=by omega
   rw [hb]at cp
   have q3':V.length<=1000000:=by omega
   simp [E,zh9,zb3,m1,cp,q3']
 have q4:R.length+R.length<=1000000:=by omega
 have st7:(ifS (tst (bin neV (zj zb8 (za (var 0) (za (var 5) (za (zF (zcm (var 6) (zbS (var 11)))) ze)))) (zG (za (var 5) (za (zb (.int (0))) ze))))) (zC (zb (.bl false))) zB) (E x8 (some (.obj (h.length+1))) (some (.obj (h.length+3)))) (h++[.lst (R.map rD),.lst (R.map rD),.lst (V.map rD),.lst (b.map rD)]) = .nx (E x8 (some (.obj (h.length+1))) (some (.obj (h.length+3)))) (h++[.lst (R.map rD),.lst (R.map rD),.lst (V.map rD),.lst (b.map rD),.lst (c2.map rD)]):=by
   have cl:=zhT (h:=h++[.lst (R.map rD),.lst (R.map rD),.lst (V.map rD),.lst (b.map rD),.lst (c2.map rD)]) (l:=h.length+4) (S:=c2) (W.app _) ς ω a0 a1
   rw [g2]at cl
   simp [E,hbl,q4,m2,cl,zf5]
 have q5:R.length+R.length+R.length<=1000000:=by omega
 have st8:(ifS (tst (bin neV (zj zb8 (za (var 0) (za (var 5) (za (zF (zcm (zF (zcm (var 6) (zbS (var 11)))) (zbS (var 6)))) ze)))) (zG (za (var 4) (za (var 7) ze))))) (zC (zb (.bl false))) zB) (E x8 (some (.obj (h.length+1))) (some (.obj (h.length+3)))) (h++[.lst (R.map rD),.lst (R.map rD),.lst (V.map rD),.lst (b.map rD),.lst (c2.map rD)]) = .nx (E x8 (some (.obj (h.length+1))) (some (.obj (h.length+3)))) h5:=by
   have cl:=zhT (h:=h5) (l:=h.length+6) (S:=c3) (W.app _) (by simp [h5]) ω a0 a1
   rw [g3]at cl
   simp only [h5]at cl ⊢
   simp [E,hbl,hc2l,q4,q5,m2,m3,cl,zf5]
 have st9:(zcz (.nm 8) (itR (zb (.int (5))))
   (zg (zk (.nm 12) (zj zbo (za (var 3) (za (var 8) ze))))
   (zg (zk (.nm 13) (zG (za (bin z3 (zj zu (za (var 12) (za (zb (.int (4))) (za (bin zE (zbd (zbs (var 2))) (zb (.int (2)))) ze)))) (zb (.int (1)))) (za (bin zf (zG (za (zb (.int (1))) (za (un zbi (zb (.int (1)))) (za (zb (.int (0))) (za (zb (.int (2))) ze))))) (zj zu (za (var 12) (za (zb (.int (5))) (za (zb (.int (4))) ze))))) ze))))
   (zg (zk (.nm 14) (zF (zcm (zF (zca (var 6) noP (zbz (zj zu (za (var 12) (za (zb (.int (6))) (za (bin zE (zbd (zbS (var 6))) (zb (.int (1)))) ze))))))) (zbq (za (var 13) ze)))))
   (zg (zk (.tp [15,16]) (zj zdP (za (var 2) (za (var 5) (za (var 14) ze)))))
   (ifS (tst (bin neV (zj zb8 (za (var 0) (za (var 5) (za (var 14) ze)))) (ifE (tst (bin eqV (var 15) (zF (zbq ze)))) (zb (.str (Str.ofString "none"))) (zG (za (bin zf (var 15) (un zbi (zb (.int (1))))) (za (var 16) ze)))))) (zC (zb (.bl false))) zB)))))) (E x8 (some (.obj (h.length+1))) (some (.obj (h.length+3)))) h5 = .nx [some (.obj w),some (.int P),some (.obj n),some (.obj s),some (.int (fin a g)),some (.int a),some (.obj h.length),some (.int (g.map (·.n)).sum),x8',x9,some (.obj (h.length+1)),some (.obj (h.length+3)),y12,y13,y14,y15,y16] (h++(.lst (R.map rD) :: g1)):=by
   simp only [zkC,zrq,zsT,zlJ]
   simp [E]
   simp at hr2
   exact hr2
 have hh:List.replicate 13 (none:Option D)=[none,none,none,none,none,none,none,none,none,none,none,none,none]:=rfl
 unfold app zeN
 simp only [zkY,zie]
 simp [-zjF,-zlr,-zkC,-zkS,st1,st2,st3,st4,st5,st6,st7,st8,st9,hh]
 exact zjf _ _ _
end Mx
end
section
open PySem MI
namespace Mx
open My
section
variable {h:MH}{w t n:Nat}{P turn:Int}{ts:List T3}
theorem zfx {w2 t2:Nat}{ts2:List T3} (W:zU h w t P turn ts) (W2:zU h w2 t2 P turn ts2) (hP:1<=P) (hP':P<=1000000) (ht:0<=turn) (ht':turn<=1000000) (hl:ts.length+ts2.length<=1000000) (hts:∀ t∈ts++ts2,t.Ok P) :
   app zds [.obj w,.obj w2] h = .ok (.obj h.length) (h++[.ins 0 [(0,.int P),(1,.int turn),(2,.obj (h.length+1))],.lst ((ts++ts2).map tD)]):=by
 unfold app zds
 have i1:=zbx W
 have i2:=zbx (W2.app [.lst (ts.map tD)])
 have c2:=zgG (h:=h++[.lst (ts.map tD),.lst (ts2.map tD),.lst ((ts++ts2).map tD)]) (n:=h.length+2) (P:=P) (turn:=turn) (ts:=ts++ts2) ς hP hP' ht ht' (by simpa using hl) hts
 simp at i2
 have m:ts.map tD++ts2.map tD=(ts++ts2).map tD:=by rw [List.map_append]
 generalize ts++ts2=tt at *
 simp [W.w,W2.w,zdF,zQ,i1,W2.wA,i2,hl,m,W.wA]
 simp at c2
 rw [c2]
 exact zmv h _ P turn (k:=3) tt rfl rfl
noncomputable def EL (n:Nat) (P turn:Int) (x4 x5 x6 x7 x8 x9 x10:Option D):zD:=[some (.obj 0),some (.int P),some (.obj n),some (.int turn),x4,x5,x6,x7,x8,x9,x10]
variable {x4 x5 x6 x7 x8 x9 x10:Option D}
theorem zsI (hn:h[n]?=some (.lst (ts.map tD))) (hP:1<=P) (hP':P<=1000000) (ht:0<=turn) (ht':turn<=1000000) (hl:ts.length<=63) (hts:∀ t∈ts,t.Ok P) :
   ∃ g w t,(zk (.nm 4) (zj (mkF 0 zde) (za (var 1) (za (var 2) (za (var 3) ze))))) (EL n P turn x4 x5 x6 x7 x8 x9 x10) h = .nx (EL n P turn (some (.obj w)) x5 x6 x7 x8 x9 x10) (h++g)∧zU (h++g) w t P turn ts:=by
 have c:=zgG hn hP hP' ht ht' ω hts
 exact ⟨_,_,_,by simp [EL,c],zgW⟩
theorem zqo (W:zU h w t P turn ts) (hP:1<=P) (hP':P<=1000000) (ht:0<=turn) (ht':turn<=1000000) (hl:ts.length<=63) (hts:∀ t∈ts,t.Ok P) :
   ∃ g w' t',(zk (.nm 5) (zj zdr (za (var 4) ze))) (EL n P turn (some (.obj w)) x5 x6 x7 x8 x9 x10) h = .nx (EL n P turn (some (.obj w)) (some (.obj w')) x6 x7 x8 x9 x10) (h++g)∧zU (h++g) w' t' P turn (ts.map tn):=by
 have c:=zeO W hP hP' ht ht' ω hts
 exact ⟨_,_,_,by simp [EL,c],zgW⟩
theorem zpK (hn:h[n]?=some (.lst (ts.map tD))):zbI (.tp [0,1,2]) [(n,.lst (ts.map tD))] zb9 (zG (za (var 1) (za (var 0) (za (un zbi (var 2)) ze)))) (ts.map tD) [] [none,none,none] h = .ok ((ts.map tn).map tD) h:=by
 rw [List.map_map]
 exact ze3 (t := .tp [0,1,2]) tD (fun t=>tD (tn t)) (fun e=>∃ a b c,e=[a,b,c]) (zch hn) ts (by
   rintro x hx _ ⟨a,b,c,rfl⟩
   exact ⟨_,rfl,⟨_,_,_,rfl⟩,by simp [tD,tn]⟩) _ ⟨_,_,_,rfl⟩
theorem zqQ (W:zU h w t P turn (ts.map tn)) (hn:h[n]?=some (.lst (ts.map tD))) (hl:ts.length<=63) :
   ∃ g,(ifS (orT (tst (bin neV (zR zQ (var 5) ze) (zF (zcu [none,none,none] (.tp [0,1,2]) (itL (var 2)) zb9 (zG (za (var 1) (za (var 0) (za (un zbi (var 2)) ze)))))))) (tst (bin neV (zG (za (fld 0 (var 5)) (za (fld 1 (var 5)) ze))) (zG (za (var 1) (za (var 3) ze)))))) (zC (zb (.bl false))) zB) (EL n P turn x4 (some (.obj w)) x6 x7 x8 x9 x10) h = .nx (EL n P turn x4 (some (.obj w)) x6 x7 x8 x9 x10) (h++g):=by
 have i1:=zbx W
 have cp:=zpK (h:=h++[.lst ((ts.map tn).map tD)]) (n:=n) (ts:=ts) (zy hn _)
 have q:ts.length<=1000000:=by omega
 generalize hU:ts.map tn=U at *
 have ne:=zf9 (h:=h++[.lst (U.map tD),.lst (U.map tD)]) (n:=h.length) (m:=h.length+1) (l:=U) ς ς
 refine ⟨[.lst (U.map tD),.lst (U.map tD)],?_⟩
 simp [EL,W.w,zQ,i1,zy hn,zb3,q,cp,ne,W.wA,zf5]
end
end Mx
end
section
open PySem MI
namespace Mx
open My
section
variable {h:MH}{w t n:Nat}{P turn:Int}{ts:List T3}{x4 x5 x6 x7 x8 x9 x10:Option D}
theorem zsA {ns:List Int} (hs:h[0]?=some (.scr (ns.map .int))) (hn:h[n]?=some (.lst (ts.map tD))) :
   ∃ d,(zk (.nm 6) (zj zu (za (zj zbo (za (var 0) (za (zb (.int (3))) ze))) (za (zb (.int (2))) (za (bin zE (zbd (zbs (var 2))) (zb (.int (1)))) ze))))) (EL n P turn x4 x5 x6 x7 x8 x9 x10) h = .nx (EL n P turn x4 x5 (some (.int d)) x7 x8 x9 x10) h∧0<=d∧d<=ts.length:=by
 obtain ⟨c,hc⟩:=zgj hs (i:=3) ω
 obtain ⟨d,hd,d0,d1⟩:=zfc c 2 (m:=(ts.length:Int)+1) ω
 exact ⟨d,by simp [EL,hc,hn,hd],d0,ω⟩
theorem zty {d:Int} (d0:0<=d) (d1:d<=ts.length):MI.cut ts none (some d)=ts.take d.toNat:=by
 have e:¬ d < 0:=by omega
 have e2:(min d (ts.length:Int)).toNat=d.toNat:=by omega
 simp [MI.cut,MI.sIx,e,e2]
theorem zsw {d:Int} (d0:0<=d) (d1:d<=ts.length):MI.cut ts (some d) none=ts.drop d.toNat:=by
 have e:¬ d < 0:=by omega
 have e2:(min d (ts.length:Int)).toNat=d.toNat:=by omega
 simp [MI.cut,MI.sIx,e,e2]
 rw [List.take_of_length_le ς]
theorem ztV (hn:h[n]?=some (.lst (ts.map tD))) (hP:1<=P) (hP':P<=1000000) (ht:0<=turn) (ht':turn<=1000000) (hl:ts.length<=63) (hts:∀ t∈ts,t.Ok P) {d:Int}{A B:List T3} (hA:MI.cut ts none (some d)=A) (hB:MI.cut ts (some d) none=B) (hAo:∀ t∈A,t.Ok P) (hBo:∀ t∈B,t.Ok P) :
   ∃ g w1 t1 w2 t2,(zd7 [7,8] (za (zj (mkF 0 zde) (za (var 1) (za (zF (zca (var 2) noP (zbz (var 6)))) (za (var 3) ze)))) (za (zj (mkF 0 zde) (za (var 1) (za (zF (zca (var 2) (zbz (var 6)) noP)) (za (var 3) ze)))) ze))) (EL n P turn x4 x5 (some (.int d)) x7 x8 x9 x10) h = .nx (EL n P turn x4 x5 (some (.int d)) (some (.obj w1)) (some (.obj w2)) x9 x10) (h++g)∧zU (h++g) w1 t1 P turn A∧zU (h++g) w2 t2 P turn B:=by
 have lA:A.length<=1000000:=by have:=zhc ts none (some d);rw [hA]at this;omega
 have lB:B.length<=1000000:=by have:=zhc ts (some d) none;rw [hB]at this;omega
 have cA:MI.cut (ts.map tD) none (some d)=A.map tD:=by rw [zg8,hA]
 have cB:MI.cut (ts.map tD) (some d) none=B.map tD:=by rw [zg8,hB]
 have i1:=zgG (h:=h++[.lst (A.map tD)]) (n:=h.length) (P:=P) (turn:=turn) (ts:=A) ς hP hP' ht ht' lA hAo
 have i2:=zgG (h:=h++[.lst (A.map tD),.ins 0 [(0,.int P),(1,.int turn),(2,.obj (h.length+2))],.lst (A.map tD),.lst (B.map tD)]) (n:=h.length+3) (P:=P) (turn:=turn) (ts:=B) ς hP hP' ht ht' lB hBo
 simp at i1 i2
 refine ⟨[.lst (A.map tD),.ins 0 [(0,.int P),(1,.int turn),(2,.obj (h.length+2))],.lst (A.map tD),.lst (B.map tD),.ins 0 [(0,.int P),(1,.int turn),(2,.obj (h.length+5))],.lst (B.map tD)],h.length+1,h.length+2,h.length+4,h.length+5,?_,⟨ς,ς⟩,⟨ς,ς⟩⟩
 simp [EL,hn,zy hn,cA,cB,i1,i2]
theorem zug {w1 t1 w2 t2:Nat}{A B:List T3} (W1:zU h w1 t1 P turn A) (W2:zU h w2 t2 P turn B) (hAB:A++B=ts) (hP:1<=P) (hP':P<=1000000) (ht:0<=turn) (ht':turn<=1000000) (hl:ts.length<=63) (hts:∀ t∈ts,t.Ok P) :
   ∃ g w t,(zk (.nm 9) (zj zds (za (var 7) (za (var 8) ze)))) (EL n P turn x4 x5 x6 (some (.obj w1)) (some (.obj w2)) x9 x10) h = .nx (EL n P turn x4 x5 x6 (some (.obj w1)) (some (.obj w2)) (some (.obj w)) x10) (h++g)∧zU (h++g) w t P turn ts:=by
 subst hAB
 have c:=zfx W1 W2 hP hP' ht ht' (by simp at hl;omega) hts
 exact ⟨_,_,_,by simp [EL,c],zgW⟩
theorem zre {w1 t1 w2 t2:Nat} (W1:zU h w1 t1 P turn ts) (W2:zU h w2 t2 P turn (ts.map tn)) (hn:h[n]?=some (.lst (ts.map tD))) (hP:1<=P) (hP':P<=1000000) (ht:0<=turn) (ht':turn<=1000000) (hl:ts.length<=63) (hts:∀ t∈ts,t.Ok P) :
   ∃ g,(ifS (orT (tst (bin neV (zR zQ (var 9) ze) (var 2))) (orT (tst (bin neV (zG (za (fld 0 (var 9)) (za (fld 1 (var 9)) ze))) (zG (za (var 1) (za (var 3) ze))))) (tst (bin neV (zR zQ (zj zdr (za (var 5) ze)) ze) (var 2))))) (zC (zb (.bl false))) zB) (EL n P turn x4 (some (.obj w2)) x6 x7 x8 (some (.obj w1)) x10) h = .nx (EL n P turn x4 (some (.obj w2)) x6 x7 x8 (some (.obj w1)) x10) (h++g):=by
 have i1:=zbx W1
 have n1:=zf9 (h:=h++[.lst (ts.map tD)]) (n:=h.length) (m:=n) (l:=ts) ς (zy hn _)
 have ab:=zeO (W2.app [.lst (ts.map tD)]) hP hP' ht ht' (by simp;omega) (fun t hm=>by
   obtain ⟨t',h1,rfl⟩:=List.mem_map.1 hm
   exact zi2 (hts t' h1))
 have e:(ts.map tn).map tn=ts:=by
   rw [List.map_map]
   exact (List.map_congr_left (fun t _=>zk3 t)).trans (List.map_id ts)
 rw [e]at ab
 have W3:=zgW (h:=h++[.lst (ts.map tD)]) (P:=P) (turn:=turn) (ts:=ts)
 have i3:=zbx W3
 have n3:=zf9 (h:=h++[.lst (ts.map tD),.ins 0 [(0,.int P),(1,.int turn),(2,.obj (h.length+2))],.lst (ts.map tD),.lst (ts.map tD)]) (n:=h.length+3) (m:=n) (l:=ts) ς (zy hn _)
 simp at ab i3
 refine ⟨[.lst (ts.map tD),.ins 0 [(0,.int P),(1,.int turn),(2,.obj (h.length+2))],.lst (ts.map tD),.lst (ts.map tD)],?_⟩
 simp [EL,W1.w,zQ,i1,n1,W1.wA,zf5,ab,i3,n3]
theorem zrD {w1 t1 w2 t2:Nat}{A B:List T3} (W1:zU h w1 t1 P turn A) (W2:zU h w2 t2 P turn B) (hn:h[n]?=some (.lst (ts.map tD))) (hP:1<=P) (hP':P<=1000000) (ht:0<=turn) (ht':turn<=1000000) (hl:ts.length<=63) {d:Int} (hA:MI.cut ts none (some d)=A) (hB:MI.cut ts (some d) none=B) (hAo:∀ t∈A,t.Ok P) (hBo:∀ t∈B,t.Ok P) :
   ∃ g,(ifS (orT (tst (bin neV (zR zQ (zj zds (za (var 8) (za (var 7) ze))) ze) (zF (zcm (zF (zca (var 2) (zbz (var 6)) noP)) (zca (var 2) noP (zbz (var 6))))))) (orT (tst (bin neV (zR zQ (var 7) ze) (zF (zca (var 2) noP (zbz (var 6)))))) (tst (bin neV (zR zQ (var 8) ze) (zF (zca (var 2) (zbz (var 6)) noP)))))) (zC (zb (.bl false))) zB) (EL n P turn x4 x5 (some (.int d)) (some (.obj w1)) (some (.obj w2)) x9 x10) h = .nx (EL n P turn x4 x5 (some (.int d)) (some (.obj w1)) (some (.obj w2)) x9 x10) (h++g):=by
 have lA:A.length<=63:=by have:=zhc ts none (some d);rw [hA]at this;omega
 have lB:B.length<=63:=by have:=zhc ts (some d) none;rw [hB]at this;omega
 have lAB:B.length+A.length<=1000000:=by omega
 have cA:MI.cut (ts.map tD) none (some d)=A.map tD:=by rw [zg8,hA]
 have cB:MI.cut (ts.map tD) (some d) none=B.map tD:=by rw [zg8,hB]
 have tg:=zfx W2 W1 hP hP' ht ht' lAB (fun t hm=>by
   rcases List.mem_append.1 hm with h1 | h1
   . exact hBo t h1
   . exact hAo t h1)
 have m:B.map tD++A.map tD=(B++A).map tD:=by rw [List.map_append]
 generalize B++A=C at tg m
 let g1:MH:=[.ins 0 [(0,.int P),(1,.int turn),(2,.obj (h.length+1))],.lst (C.map tD),.lst (C.map tD),.lst (B.map tD),.lst (C.map tD)]
 let g2:MH:=[.ins 0 [(0,.int P),(1,.int turn),(2,.obj (h.length+1))],.lst (C.map tD),.lst (C.map tD),.lst (B.map tD),.lst (C.map tD),.lst (A.map tD),.lst (A.map tD)]
 let g3:MH:=[.ins 0 [(0,.int P),(1,.int turn),(2,.obj (h.length+1))],.lst (C.map tD),.lst (C.map tD),.lst (B.map tD),.lst (C.map tD),.lst (A.map tD),.lst (A.map tD),.lst (B.map tD),.lst (B.map tD)]
 have i3:=zbx (zgW (h:=h) (P:=P) (turn:=turn) (ts:=C))
 have n1:=zf9 (h:=h++g1) (n:=h.length+2) (m:=h.length+4) (l:=C) (by simp [g1]) (by simp [g1])
 have i4:=zbx (W1.app g1)
 have n2:=zf9 (h:=h++g2) (n:=h.length+5) (m:=h.length+6) (l:=A) (by simp [g2]) (by simp [g2])
 have i5:=zbx (W2.app g2)
 have n3:=zf9 (h:=h++g3) (n:=h.length+7) (m:=h.length+8) (l:=B) (by simp [g3]) (by simp [g3])
 simp only [g1,g2,g3]at n1 i4 n2 i5 n3
 simp at i3 i4 i5
 refine ⟨g3,?_⟩
 simp [EL,tg,zQ,i3,zy hn,cA,cB,lAB,m,n1,W1.wA,i4,n2,W2.wA,i5,n3,g3]
theorem zp0 {w1 t1 w2 t2:Nat}{A B:List T3}{Pn:Nat} (W:zU h w t Pn turn ts) (W1:zU h w1 t1 Pn turn A) (W2:zU h w2 t2 Pn turn B) (hAB:A++B=ts) (hts:∀ t∈ts,t.Ok Pn) (hP0:1<=Pn) (hP:Pn<=100) (ht:0<=turn) (hl:ts.length<=63) :
   ∃ g z,(zk (.nm 10) (zj zec (za (var 9) ze))) (EL n Pn turn x4 x5 x6 (some (.obj w1)) (some (.obj w2)) (some (.obj w)) x10) h = .nx (EL n Pn turn x4 x5 x6 (some (.obj w1)) (some (.obj w2)) (some (.obj w)) z) (h++g) ∧
     (ifS (zbp (tru (ze6 zdF 1 (var 10))) (zbn (zbp (tru (zR zhl (var 10) (za (var 7) ze))) (tru (zR zhl (var 10) (za (var 8) ze)))))) (zC (zb (.bl false))) zB) (EL n Pn turn x4 x5 x6 (some (.obj w1)) (some (.obj w2)) (some (.obj w)) z) (h++g) = .nx (EL n Pn turn x4 x5 x6 (some (.obj w1)) (some (.obj w2)) (some (.obj w)) z) (h++g):=by
 rcases zgu W hts hP0 ω hl ht with ⟨hs,hlv,hlen,hall⟩ | ⟨S,hlv⟩
 . refine ⟨[.ins 1 [(3,.obj (h.length+1))],.lst (hs.map .int)],some (.obj h.length),by simp [EL,hlv],?_⟩
   rw [<- hAB,List.all_append,Bool.and_eq_true]at hall
   have lA:A.length<=1000000:=by rw [<- hAB]at hl;simp at hl;omega
   have lB:B.length<=1000000:=by rw [<- hAB]at hl;simp at hl;omega
   have s1:=zeR (h:=h++[.ins 1 [(3,.obj (h.length+1))],.lst (hs.map .int)]) (W1.app _) (fun t hm=>hts t (by rw [<- hAB];simp [hm])) ht lA (r:=h.length) (q:=h.length+1) (hs:=hs) ς ς ω
   have s2:=zeR (h:=h++[.ins 1 [(3,.obj (h.length+1))],.lst (hs.map .int)]) (W2.app _) (fun t hm=>hts t (by rw [<- hAB];simp [hm])) ht lB (r:=h.length) (q:=h.length+1) (hs:=hs) ς ς ω
   rw [hall.1]at s1
   rw [hall.2]at s2
   simp only [hlen,decide_true,Bool.and_self]at s1 s2
   simp [EL,zdF,zhl,s1,s2]
 . refine ⟨[.ins 2 [(4,.obj (h.length+1))],.lst (S.map sD)],some (.obj h.length),by simp [EL,hlv],?_⟩
   simp [EL,zdF]
end
theorem law_true (ns:List Int) (h63:ns.length<=63):∃ h',zhr [.obj 0] [.scr (ns.map .int)] = .ok (.bl true) h':=by
 obtain ⟨P,turn,ts,hw,hP0,hP,ht,ht',hl,hts⟩:=zrc h63 (n:=0) (h:=[.scr (ns.map .int)]) rfl
 have hl63:ts.length<=63:=by omega
 have q1:(1:Int)<=P:=by omega
 have q2:(P:Int)<=1000000:=by omega
 have stA:(zk (.tp [1,2,3]) (zj zeM (za (var 0) ze))) [some (.obj 0),none,none,none,none,none,none,none,none,none,none] [.scr (ns.map .int)] = .nx (EL 1 P turn none none none none none none none) [.scr (ns.map .int),.lst (ts.map tD)]:=by
   simp [EL,hw]
 obtain ⟨H,hH⟩:∃ H:MH,[.scr (ns.map .int),.lst (ts.map tD)]=H:=⟨_,rfl⟩
 have hs:H[0]?=some (.scr (ns.map .int)):=by rw [<- hH];rfl
 have hn:H[1]?=some (.lst (ts.map tD)):=by rw [<- hH];rfl
 rw [hH]at stA
 clear hH hw
 obtain ⟨g,w,t,s4,W⟩:=zsI (x4:=none) (x5:=none) (x6:=none) (x7:=none) (x8:=none) (x9:=none) (x10:=none) hn q1 q2 ht ht' hl63 hts
 replace hs:=zy hs g
 replace hn:=zy hn g
 generalize H++g=H at *
 obtain ⟨g,w5,t5,s5,W5⟩:=zqo (n:=1) (x5:=none) (x6:=none) (x7:=none) (x8:=none) (x9:=none) (x10:=none) W q1 q2 ht ht' hl63 hts
 replace hs:=zy hs g
 replace hn:=zy hn g
 replace W:=W.app g
 generalize H++g=H2 at *
 obtain ⟨g,s6⟩:=zqQ (x4:=some (.obj w)) (x6:=none) (x7:=none) (x8:=none) (x9:=none) (x10:=none) W5 hn hl63
 replace hs:=zy hs g
 replace hn:=zy hn g
 replace W:=W.app g
 replace W5:=W5.app g
 generalize H2++g=H3 at *
 obtain ⟨d,s7,d0,d1⟩:=zsA (P:=P) (turn:=turn) (x4:=some (.obj w)) (x5:=some (.obj w5)) (x6:=none) (x7:=none) (x8:=none) (x9:=none) (x10:=none) hs hn
 obtain ⟨A,hA⟩:∃ A,MI.cut ts none (some d)=A:=⟨_,rfl⟩
 obtain ⟨B,hB⟩:∃ B,MI.cut ts (some d) none=B:=⟨_,rfl⟩
 have hAB:A++B=ts:=by rw [<- hA,<- hB,zty d0 d1,zsw d0 d1];exact List.take_append_drop _ _
 have hAo:∀ t∈A,t.Ok P:=fun t hm=>hts t (by rw [<- hAB];simp [hm])
 have hBo:∀ t∈B,t.Ok P:=fun t hm=>hts t (by rw [<- hAB];simp [hm])
 obtain ⟨g,w1,t1,w2,t2,s8,W1,W2⟩:=ztV (x4:=some (.obj w)) (x5:=some (.obj w5)) (x7:=none) (x8:=none) (x9:=none) (x10:=none) hn q1 q2 ht ht' hl63 hts hA hB hAo hBo
 replace hs:=zy hs g
 replace hn:=zy hn g
 replace W:=W.app g
 replace W5:=W5.app g
 generalize H3++g=H4 at *
 obtain ⟨g,w9,t9,s9,W9⟩:=zug (n:=1) (x4:=some (.obj w)) (x5:=some (.obj w5)) (x6:=some (.int d)) (x9:=none) (x10:=none) W1 W2 hAB q1 q2 ht ht' hl63 hts
 replace hs:=zy hs g
 replace hn:=zy hn g
 replace W:=W.app g
 replace W5:=W5.app g
 replace W1:=W1.app g
 replace W2:=W2.app g
 generalize H4++g=H5 at *
 obtain ⟨g,s10⟩:=zre (x4:=some (.obj w)) (x6:=some (.int d)) (x7:=some (.obj w1)) (x8:=some (.obj w2)) (x10:=none) W9 W5 hn q1 q2 ht ht' hl63 hts
 replace hs:=zy hs g
 replace hn:=zy hn g
 replace W:=W.app g
 replace W1:=W1.app g
 replace W2:=W2.app g
 replace W9:=W9.app g
 generalize H5++g=H6 at *
 obtain ⟨g,s11⟩:=zrD (x4:=some (.obj w)) (x5:=some (.obj w5)) (x9:=some (.obj w9)) (x10:=none) W1 W2 hn q1 q2 ht ht' hl63 hA hB hAo hBo
 replace hs:=zy hs g
 replace hn:=zy hn g
 replace W:=W.app g
 replace W1:=W1.app g
 replace W2:=W2.app g
 replace W9:=W9.app g
 generalize H6++g=H7 at *
 obtain ⟨g,z,s12,s13⟩:=zp0 (n:=1) (x4:=some (.obj w)) (x5:=some (.obj w5)) (x6:=some (.int d)) (x10:=none) W9 W1 W2 hAB hts hP0 hP ht hl63
 replace hs:=zy hs g
 replace hn:=zy hn g
 replace W:=W.app g
 generalize H7++g=H8 at *
 have wr:=zrk W hn hs hts q1 hl63
 have i1:=zbx W
 have e1:=zsZ (h:=H8++[.lst (ts.map tD)]) (n:=H8.length) (m:=1) (l:=ts) ς (zy hn _)
 have s14:(zC (zcW (zj zeN (za (var 4) (za (var 1) (za (var 2) (za (var 0) ze))))) (bin eqV (zR zQ (var 4) ze) (var 2)))) (EL 1 P turn (some (.obj w)) (some (.obj w5)) (some (.int d)) (some (.obj w1)) (some (.obj w2)) (some (.obj w9)) z) H8 = .rt (.bl true) (H8++[.lst (ts.map tD)]):=by
   simp [EL,wr,W.w,zQ,i1,e1]
 have hh:List.replicate 10 (none:Option D)=[none,none,none,none,none,none,none,none,none,none]:=rfl
 refine ⟨H8++[.lst (ts.map tD)],?_⟩
 unfold zhr
 rw [zkY]
 simp only [zie]
 simp [-zjF,-zlr,-zkS,-zqT,hh,stA,s4,s5,s6,s7,s8,s9,s10,s11,s12,s13,s14]
end Mx
end
section
namespace L2
open PySem PySem.Spec PyProof.Rows
noncomputable abbrev Key:=Sum Int Str
noncomputable def zfZ:Key->Value->Bool
 | .inl k,v=>Value.isInt k v
 | .inr x,v=>Value.isStrOf x v
noncomputable def zuw (w:World):Key->Int
 | .inl k=>hashInt k
 | .inr x=>hashStr w x
theorem zdI:∀ {k:Key}{v:Value},zfZ k v=true->(∃ i t,k=Sum.inl i∧v=Value.int i t)∨(∃ x t,k=Sum.inr x∧v=Value.str x t)
 | .inl i,v,h=>by
   obtain ⟨t,e⟩:=Value.isInt_shape (k:=i) (v:=v) h
   exact .inl ⟨i,t,rfl,e⟩
 | .inr x,v,h=>by
   obtain ⟨t,e⟩:=Value.isStrOf_shape (x:=x) (v:=v) h
   exact .inr ⟨x,t,rfl,e⟩
theorem zrv (i:Int) (t:Tok):zfZ (.inl i) (.int i t)=true:=by simp [zfZ,Value.isInt]
theorem zq5 (x:Str) (t:Tok):zfZ (.inr x) (.str x t)=true:=by simp [zfZ,Value.isStrOf]
theorem zsm (a b:Int):decide ((Sum.inl a:Key)=Sum.inl b)=(a == b):=by
 by_cases e:a=b
 . subst e;simp
 . have h:¬ (Sum.inl a:Key)=Sum.inl b:=fun q=>e (Sum.inl.inj q)
   rw [decide_eq_false h]
   exact (beq_eq_false_iff_ne.mpr e).symm
theorem zs8 (a b:Str):decide ((Sum.inr a:Key)=Sum.inr b)=decide (a=b):=by
 by_cases e:a=b
 . subst e;simp
 . have h:¬ (Sum.inr a:Key)=Sum.inr b:=fun q=>e (Sum.inr.inj q)
   rw [decide_eq_false h,decide_eq_false e]
theorem ztO (a:Int) (b:Str):decide ((Sum.inl a:Key)=Sum.inr b)=false:=decide_eq_false (fun q=>nomatch q)
theorem ztP (a:Str) (b:Int):decide ((Sum.inr a:Key)=Sum.inl b)=false:=decide_eq_false (fun q=>nomatch q)
noncomputable def zby (prog:Program) (w:World):PySem.KeyKind prog w Key where
 is:=zfZ
 hash:=zuw w
 inj:=fun v a b ha hb=>by
   rcases zdI ha with ⟨i,t,rfl,rfl⟩ | ⟨x,t,rfl,rfl⟩
   . rcases zdI hb with ⟨j,u,rfl,e⟩ | ⟨y,u,rfl,e⟩
     . injection e with e1 _;rw [e1]
     . exact nomatch e
   . rcases zdI hb with ⟨j,u,rfl,e⟩ | ⟨y,u,rfl,e⟩
     . exact nomatch e
     . injection e with e1 _;rw [e1]
 byValue:=fun k v h=>by
   rcases zdI h with ⟨i,t,rfl,rfl⟩ | ⟨x,t,rfl,rfl⟩ <;> rfl
 pyHash:=fun hv h=>by
   rcases zdI hv with ⟨i,t,rfl,rfl⟩ | ⟨x,t,rfl,rfl⟩
   . exact wpAny_pyHash_int h
   . exact wpAny_pyHash_str h
 eqBool:=fun hu hv h=>by
   rcases zdI hu with ⟨i,t,rfl,rfl⟩ | ⟨x,t,rfl,rfl⟩
   . rcases zdI hv with ⟨j,u,rfl,rfl⟩ | ⟨y,u,rfl,rfl⟩
     . rw [zsm]at h;exact wpAny_eqBool_int h
     . rw [ztO]at h;exact SeqAt.EqAt.int_str i t y u _ _ _ _ h
   . rcases zdI hv with ⟨j,u,rfl,rfl⟩ | ⟨y,u,rfl,rfl⟩
     . rw [ztP]at h;exact SeqAt.EqAt.str_int x t j u _ _ _ _ h
     . rw [zs8]at h;exact wpAny_eqBool_str h
 «strs»:=fun k x t v h=>by
   rcases zdI h with ⟨i,u,rfl,e⟩ | ⟨y,u,rfl,e⟩
   . exact nomatch e
   . injection e with e1 _
     subst e1
     cases v <;> rfl
theorem zpQ (prog:Program) (w:World) (i:Int) (t:Tok):(zby prog w).is (.inl i) (.int i t)=true:=zrv i t
theorem zrT (prog:Program) (w:World) (x:Str) (t:Tok):(zby prog w).is (.inr x) (.str x t)=true:=zq5 x t
end L2
namespace L2
open PySem PySem.Spec PyProof.Rows
inductive V where
 | non | bl (b:Bool) | int (i:Int) | str (x:Str) | byt (b:Array UInt8) | flt (b:UInt64) | ref (a:Addr) | ty (n:String)
 deriving DecidableEq
noncomputable def zo:V->Value->Prop
 | .non,u=>u=Value.none
 | .bl b,u=>u=Value.bool b
 | .int i,u=>∃ t,u=Value.int i t
 | .str x,u=>∃ t,u=Value.str x t
 | .byt b,u=>∃ t,u=Value.bytes b t
 | .flt b,u=>∃ t,u=Value.float b t
 | .ref a,u=>u=Value.ref a
 | .ty n,u=>u=Value.type n
noncomputable abbrev zr:List V->List Value->Prop:=Paired zo
theorem zr.length {xs:List V}{us:List Value} (r:zr xs us):xs.length=us.length:=Paired.length r
theorem zr.get:∀ {xs:List V}{us:List Value}{i:Nat}{x:V},zr xs us->xs[i]?=some x->∃ u,us[i]?=some u∧zo x u
 | _,_,_,_,.nil,e=>by simp at e
 | _,_,0,_,.cons r _,e=>by simp at e;subst e;exact ⟨_,rfl,r⟩
 | _,_,i+1,x,.cons _ t,e=>by
   obtain ⟨u,h1,h2⟩:=zr.get (i:=i) (x:=x) t (by simpa using e)
   exact ⟨u,by simpa using h1,h2⟩
theorem zr.set {x:V}{u:Value} (r:zo x u):∀ {xs:List V}{us:List Value} (i:Nat),zr xs us->zr (xs.set i x) (us.set i u)
 | _,_,_,.nil=> .nil
 | _,_,0,.cons _ t=> .cons r t
 | _,_,i+1,.cons q t=> .cons q (zr.set r i t)
theorem zr.append:∀ {xs ys:List V}{us ws:List Value},zr xs us->zr ys ws->zr (xs++ys) (us++ws)
 | _,_,_,_,.nil,s=>s
 | _,_,_,_,.cons r t,s=> .cons r (zr.append t s)
theorem zr.take:∀ {xs:List V}{us:List Value} (n:Nat),zr xs us->zr (xs.take n) (us.take n)
 | _,_,0,_=> .nil
 | _,_,_+1,.nil=> .nil
 | _,_,n+1,.cons r t=> .cons r (zr.take n t)
theorem zr.drop:∀ {xs:List V}{us:List Value} (n:Nat),zr xs us->zr (xs.drop n) (us.drop n)
 | _,_,0,r=>r
 | _,_,_+1,.nil=> .nil
 | _,_,n+1,.cons _ t=>zr.drop n t
noncomputable def zcr:Option V->Option Value->Prop
 | some v,some u=>zo v u
 | none,none=>True
 | _,_=>False
noncomputable def KV {κ:Type}:List (κ×V)->List (κ×Value)->Prop:=Paired fun (p:κ×V) (q:κ×Value)=>p.1=q.1∧zo p.2 q.2
noncomputable def kV:Key->V
 | .inl i=> .int i
 | .inr x=> .str x
inductive HO where
 | lst (xs:List V)
 | tup (xs:List V)
 | dK (kvs:List (Key×V)) | dT (kvs:List (List Key×V))
 | set (S:Int->Bool) (n:Nat)
 | ins (C dx:Addr) (fs:List (Str×V))
 | own (x:Addr)
 | xd (fs:List (Str×V))
 | met (f x:Addr)
 | rng (lo hi:Int)
 | frz (o:Obj) (u:HO)
 | tbl (ps:Array Value)
 | ext (φ:Heap->Prop)
noncomputable abbrev Hp:=Addr->Option HO
noncomputable def upd (H:Hp) (a:Addr) (o:HO):Hp:=fun b=>if b=a then some o else H b
theorem zbc {H:Hp}{a:Addr}{o:HO}:upd H a o a=some o:=by unfold upd;rw [if_pos rfl]
theorem zt {H:Hp}{a b:Addr}{o:HO} (h:b≠a):upd H a o b=H b:=by unfold upd;rw [if_neg h]
theorem zsE {H:Hp}{a b:Addr}{o u:HO} (h:H a=some o) (h':H b=some u) (d:o≠u):a≠b:=by
 intro e;subst e;rw [h]at h';exact d (Option.some.inj h')
theorem zcN {H:Hp}{a b:Addr}{o:HO} (h:H a=some o) (h':H b=none):a≠b:=by
 intro e;subst e;rw [h]at h';cases h'
section
variable (P:Program) (w:World)
noncomputable def z8 (H:Hp) (h:Heap) (a:Addr):HO->Prop
 | .lst xs=>xs.length<=sizeLine∧∃ (its:List Value) (n:Nat),zr xs its∧h.get? a=some { cls := .type "list",data := .seq its.toArray n }
 | .tup xs=>xs.length<=sizeLine∧∃ its:List Value,zr xs its∧IsTup h a its.toArray
 | .dK kvs=>kvs.length<=sizeLine∧(a == sysModules)=false∧∃ vs,KV kvs vs∧h.DictOf (zby P w) a vs
 | .dT kvs=>kvs.length<=sizeLine∧(a == sysModules)=false∧∃ xs:List (List Key×Addr×Value),
     Paired (fun (p:List Key×V) (q:List Key×Addr×Value)=>p.1=q.1∧H q.2.1=some (.tup (p.1.map kV))∧zo p.2 q.2.2) kvs xs ∧
     ∃ o es ep,h.get? a=some o∧o.ExactDict∧o.data = .dict es ep∧es.toList=xs.map (entryOfKey (tupleKind (zby P w)))∧(xs.map (·.1)).Nodup
 | .set S n=>h.SetOf (intKind P w) a S n
 | .ins C dx fs=>H dx=some (.own a)∧fs.length<=1000∧dx≠a∧h.get? a=some (PySem.W.instObj C dx) ∧
     ∃ mA,h.Ns1 dx mA∧(∀ f,zcr (fs.lookup f) (mA f))∧PySem.Within mA (fs.map (·.1))
 | .own _=>∃ o,h.get? a=some o
 | .xd fs=>∃ mA,h.Ns1 a mA∧∀ f,zcr (fs.lookup f) (mA f)
 | .rng lo hi=>∃ t u v,h.get? a=some { cls := .type "range",data := .fields #[.int lo t,.int hi u,.int 1 v] }
 | .frz o u=>h.get? a=some o∧z8 H h a u
 | .tbl ps=>h.get? a=some { cls := .none,data := .fields ps }
 | .met f x=>h.get? a=some (PySem.W.methodObj (.ref f) (.ref x))
 | .ext φ=>φ h∧(∃ o,h.get? a=some o)∧∀ h1 h2:Heap,φ h1->(∀ o,h1.get? a=some o->h2.get? a=some o)->φ h2
noncomputable def HOk (H:Hp) (h:Heap):Prop:=∀ a o,H a=some o->z8 P w H h a o
end
section
variable {P:Program}{w:World}{H H':Hp}{h h':Heap}{a:Addr}{o:HO}
theorem z8.lt (x:z8 P w H h a o):a < h.objs.size:=by
 cases o with
 | lst xs=>obtain ⟨_,_,_,_,e⟩:=x;exact Heap.lt_size e
 | tup xs=>obtain ⟨_,_,_,p⟩:=x;exact p.lt
 | dK kvs=>obtain ⟨_,_,_,_,o,_,_,e,_⟩:=x;exact Heap.lt_size e
 | dT kvs=>obtain ⟨_,_,_,_,o,_,_,e,_⟩:=x;exact Heap.lt_size e
 | set S n=>obtain ⟨o,_,_,_,e,_⟩:=x;exact Heap.lt_size e
 | ins C dx fs=>obtain ⟨_,_,_,e,_⟩:=x;exact Heap.lt_size e
 | own y=>obtain ⟨_,e⟩:=x;exact Heap.lt_size e
 | xd fs=>obtain ⟨_,⟨_,_,_,e,_⟩,_⟩:=x;exact Heap.lt_size e
 | rng lo hi=>obtain ⟨_,_,_,e⟩:=x;exact Heap.lt_size e
 | frz ob u=>obtain ⟨e,_⟩:=x;exact Heap.lt_size e
 | tbl ps=>exact Heap.lt_size (show h.get? a=some _ from x)
 | met f y=>exact Heap.lt_size (show h.get? a=some _ from x)
 | ext φ=>obtain ⟨_,⟨_,e⟩,_⟩:=x;exact Heap.lt_size e
theorem Paired.mapP {α β:Type}{F G:α->β->Prop}:∀ {l₁:List α}{l₂:List β},Paired F l₁ l₂->(∀ a b,F a b->G a b)->Paired G l₁ l₂
 | _,_,.nil,_=> .nil
 | _,_,.cons r t,f=> .cons (f _ _ r) (Paired.mapP t f)
theorem z8.stay (x:z8 P w H h a o) (k:∀ b u,(b=a∨H b=some (.own a))->h.get? b=some u->h'.get? b=some u)
   (ho:∀ b,H b=some (.own a)->H' b=some (.own a)) (ht:∀ b xs,H b=some (.tup xs)->H' b=some (.tup xs)):z8 P w H' h' a o:=by
 induction o with
 | lst xs=>obtain ⟨z,its,n,r,e⟩:=x;exact ⟨z,its,n,r,k _ _ (.inl rfl) e⟩
 | tup xs=>obtain ⟨z,its,r,ob,e,c⟩:=x;exact ⟨z,its,r,ob,k _ _ (.inl rfl) e,c⟩
 | dK kvs=>obtain ⟨z,y,vs,r,ob,es,ep,e,c⟩:=x;exact ⟨z,y,vs,r,ob,es,ep,k _ _ (.inl rfl) e,c⟩
 | dT kvs =>
   obtain ⟨z,y,xs,r,ob,es,ep,e,c⟩:=x
   exact ⟨z,y,xs,Paired.mapP r fun p q z=>⟨z.1,ht _ _ z.2.1,z.2.2⟩,ob,es,ep,k _ _ (.inl rfl) e,c⟩
 | set S n=>obtain ⟨ob,es,ep,t,e,c⟩:=x;exact ⟨ob,es,ep,t,k _ _ (.inl rfl) e,c⟩
 | ins C dx fs =>
   obtain ⟨d,z,ne,e,mA,⟨od,es,ep,e2,c⟩,r⟩:=x
   exact ⟨ho _ d,z,ne,k _ _ (.inl rfl) e,mA,⟨od,es,ep,k _ _ (.inr d) e2,c⟩,r⟩
 | own y=>obtain ⟨ob,e⟩:=x;exact ⟨ob,k _ _ (.inl rfl) e⟩
 | xd fs=>obtain ⟨mA,⟨od,es,ep,e,c⟩,r⟩:=x;exact ⟨mA,⟨od,es,ep,k _ _ (.inl rfl) e,c⟩,r⟩
 | rng lo hi=>obtain ⟨t,u,v,e⟩:=x;exact ⟨t,u,v,k _ _ (.inl rfl) e⟩
 | frz ob u ih=>obtain ⟨e,q⟩:=x;exact ⟨k _ _ (.inl rfl) e,ih q⟩
 | tbl ps =>
   have e:h.get? a=some { cls := .none,data := .fields ps }:=x
   show h'.get? a=some { cls := .none,data := .fields ps }
   exact k a _ (.inl rfl) e
 | met f y =>
   have e:h.get? a=some (PySem.W.methodObj (.ref f) (.ref y)):=x
   show h'.get? a=some (PySem.W.methodObj (.ref f) (.ref y))
   exact k a _ (.inl rfl) e
 | ext φ=>obtain ⟨p,⟨o,e⟩,st⟩:=x;exact ⟨st _ _ p fun o q=>k _ _ (.inl rfl) q,⟨o,k _ _ (.inl rfl) e⟩,st⟩
theorem HOk.lt (x:HOk P w H h) (e:H a=some o):a < h.objs.size:=(x a o e).lt
theorem HOk.fresh (x:HOk P w H h) (e:h.objs.size<=a):H a=none:=by
 cases q:H a with
 | none=>rfl
 | some u=>exact absurd (Nat.lt_of_lt_of_le (x.lt q) e) (Nat.lt_irrefl _)
theorem HOk.kept (x:HOk P w H h) (k:∀ b u,h.get? b=some u->h'.get? b=some u):HOk P w H h':=fun a o e =>
 (x a o e).stay (fun b u _ q=>k b u q) (fun _ q=>q) fun _ _ q=>q
theorem HOk.laid (x:HOk P w H h) (k:∀ b u,h.get? b=some u->h'.get? b=some u) (hp:h.objs.size<=a) (new:z8 P w (upd H a o) h' a o):HOk P w (upd H a o) h':=fun b u e=>by
 have hn:=x.fresh hp
 by_cases hb:b=a
 . subst hb;rw [zbc]at e;cases e;exact new
 . rw [zt hb]at e
   exact (x b u e).stay (fun c v _ q=>k c v q) (fun c q=>by rw [zt (zcN q hn)];exact q) fun c xs q=>by rw [zt (zcN q hn)];exact q
end
noncomputable def Rd (H:Hp) (a:Addr) (u:HO):Prop:=H a=some u∨∃ o,H a=some (.frz o u)
theorem Rd.ok {P:Program}{w:World}{H:Hp}{h:Heap}{a:Addr}{u:HO} (r:Rd H a u) (x:HOk P w H h):z8 P w H h a u:=by
 rcases r with r | ⟨o,r⟩
 . exact x a u r
 . obtain ⟨_,q⟩:=x a _ r
   exact q
noncomputable def Mut:Option HO->Prop
 | some (.lst _)=>True
 | some (.dK _)=>True
 | some (.dT _)=>True
 | some (.set _ _)=>True
 | some (.ins _ _ _)=>True
 | some (.ext _)=>True
 | _=>False
section
variable {P:Program}{w:World}{H:Hp}{h h':Heap}{x e:Addr}{o':HO}
theorem HOk.write (ok:HOk P w H h) (mu:Mut (H x)) (he:e=x∨H e=some (.own x)) (k:∀ b u,b≠e->h.get? b=some u->h'.get? b=some u) (heo:∃ u,h'.get? e=some u)
   (new:z8 P w (upd H x o') h' x o'):HOk P w (upd H x o') h':=fun b u q=>by
 have nown:∀ c y,H c=some (.own y)->c≠x:=fun c y r z=>by subst z;rw [r]at mu;exact mu
 have ntup:∀ c xs,H c=some (.tup xs)->c≠x:=fun c xs r z=>by subst z;rw [r]at mu;exact mu
 by_cases hb:b=x
 . subst hb;rw [zbc]at q;cases q;exact new
 . rw [zt hb]at q
   by_cases hbe:b=e
   . have q':H b=some (.own x):=by
       rcases he with z | z
       . exact absurd (hbe.trans z) hb
       . rw [hbe];exact z
     rw [q]at q';cases q'
     obtain ⟨v,hv⟩:=heo
     exact ⟨v,by rw [hbe];exact hv⟩
   . refine (ok b u q).stay (fun c v hc r=>k c v ?_ r) (fun c r=>by rw [zt (nown c b r)];exact r) fun c xs r=>by rw [zt (ntup c xs r)];exact r
     rcases hc with rfl | hc
     . exact hbe
     . rintro rfl
       rcases he with z | z
       . exact nown c b hc z
       . rw [hc]at z;cases z;exact hb rfl
end
structure Un (fs ex:List Addr) (H H':Hp) (h h':Heap):Prop where
 keep:∀ b o,h.get? b=some o->H b=none->b∉fs->b∉ex->h'.get? b=some o
 slot:∀ b o,h.get? b=some o->H b=none->b∈fs->b∉ex->∃ sl,h'.get? b=some { o with slots:=sl }
 free:∀ b o,h.get? b=some o->H b=none->b∉ex->H' b=none
 there:∀ b o,h.get? b=some o->b∉ex->∃ o',h'.get? b=some o'
 tups:∀ b xs,H b=some (.tup xs)->H' b=some (.tup xs)
 frzs:∀ b o u,H b=some (.frz o u)->H' b=some (.frz o u)
 tbls:∀ b ps,H b=some (.tbl ps)->∃ more,H' b=some (.tbl (ps++more))
section
variable {fs fs' ex ex':List Addr}{H H1 H2:Hp}{h h1 h2 h':Heap}{a x e:Addr}{o:HO}
theorem Un.any (u:Un fs ex H H1 h h1) {b:Addr}{ob:Obj} (q:h.get? b=some ob) (n:H b=none) (hx:b∉ex):∃ sl,h1.get? b=some { ob with slots:=sl }:=by
 by_cases hb:b∈fs
 . exact u.slot b ob q n hb hx
 . exact ⟨ob.slots,u.keep b ob q n hb hx⟩
theorem Un.kept (k:∀ b u,h.get? b=some u->h'.get? b=some u):Un fs ex H H h h' :=
 ⟨fun b ob q _ _ _=>k b ob q,fun b ob q _ _ _=>⟨ob.slots,k b ob q⟩,fun _ _ _ n _=>n,fun b ob q _=>⟨ob,k b ob q⟩,fun _ _ q=>q,fun _ _ _ q=>q,fun _ ps q=>⟨#[],by rw [q];simp⟩⟩
theorem Un.refl:Un fs ex H H h h:=Un.kept fun _ _ q=>q
theorem Un.laid (k:∀ b u,h.get? b=some u->h'.get? b=some u) (hp:h.objs.size<=a) (hn:H a=none):Un fs ex H (upd H a o) h h' where
 keep:=fun b u q _ _ _=>k b u q
 slot:=fun b u q _ _ _=>⟨u.slots,k b u q⟩
 free:=fun b u q n _=>by rw [zt (Nat.ne_of_lt (Nat.lt_of_lt_of_le (Heap.lt_size q) hp))];exact n
 there:=fun b u q _=>⟨u,k b u q⟩
 tups:=fun b xs q=>by rw [zt (zcN q hn)];exact q
 frzs:=fun b u xs q=>by rw [zt (zcN q hn)];exact q
 tbls:=fun b ps q=>⟨#[],by rw [zt (zcN q hn),q];simp⟩
theorem Un.write (mu:Mut (H x)) (he:e=x∨H e=some (.own x)) (k:∀ b u,b≠e->h.get? b=some u->h'.get? b=some u) (heo:∃ u,h'.get? e=some u):Un fs ex H (upd H x o) h h':=by
 have hx:∀ b,H b=none->b≠x:=fun b n z=>by subst z;rw [n]at mu;exact mu
 have hb:∀ b,H b=none->b≠e:=fun b n z=>by
   subst z
   rcases he with r | r
   . exact hx b n r
   . rw [n]at r;cases r
 have hm:∀ b u,H b=some u->¬ Mut (some u)->b≠x:=fun b u q nm z=>by subst z;rw [q]at mu;exact nm mu
 refine ⟨fun b u q n _ _=>k b u (hb b n) q,fun b u q n _ _=>⟨u.slots,k b u (hb b n) q⟩,fun b u q n _=>by rw [zt (hx b n)];exact n,fun b u q _=>?_,
   fun b xs q=>by rw [zt (hm b _ q fun z=>z)];exact q,fun b u xs q=>by rw [zt (hm b _ q fun z=>z)];exact q,fun b ps q=>⟨#[],by rw [zt (hm b _ q fun z=>z),q];simp⟩⟩
 by_cases hbe:b=e
 . subst hbe;exact heo
 . exact ⟨u,k b u hbe q⟩
end
noncomputable def trk (h:Heap) (H:Hp):List Addr:=(List.range h.objs.size).filter fun a=>(H a).isSome
noncomputable def zd3 (h:Heap) (H:Hp):Heap:=PySem.W.hideAll h (trk h H)
theorem zpV (h:Heap) (H:Hp):(zd3 h H).objs.size=h.objs.size:=PySem.W.hideAll_size _ _
theorem zsG {h:Heap}{H:Hp}{b:Addr}{o:Obj} (e:h.get? b=some o) (n:H b=none):(zd3 h H).get? b=some o :=
 PySem.W.hideAll_get _ e fun hm=>by
   have q:(H b).isSome=true:=(List.mem_filter.mp hm).2
   rw [n]at q;simp at q
theorem zpF {h:Heap}{H:Hp}{b:Addr}{o:Obj} (e:(zd3 h H).get? b=some o):h.get? b=some o∧H b=none:=by
 have e':h.get? b=some o:=PySem.W.of_hideAll (trk h H) e
 refine ⟨e',?_⟩
 cases q:H b with
 | none=>rfl
 | some x =>
   have hm:b∈trk h H:=List.mem_filter.mpr ⟨List.mem_range.mpr (Heap.lt_size e'),by simp [q]⟩
   have z:(zd3 h H).get? b=none:=PySem.W.hideAll_none (trk h H) hm
   rw [z]at e;cases e
end L2
namespace L2
open PySem PySem.Spec PyProof.Rows
structure Mod (K:PySem.W.Frag) (mg:Str->Option Value) (base:Heap):Prop where
 kin:K.In base
 glob:base.Ns mainGlobals mg
 blt:∃ mb,base.Ns builtinsNs mb∧∀ x:Str,x ≠ "__name__" -> mb x=bootBuiltins x
 nolimit:base.NoLimit
structure Cx where
 prog:Program
 w:World
 K:PySem.W.Frag
 mg:Str->Option Value
 base:Heap
 A:Around
 N:List Str
 s₀:Shared
 H₀:Hp
 env:Env
 outer:List Env
 stack:List Env
 ex:List Addr
 fn:Str->Bool
 calm:Bool
 pn:List (Addr×Obj)
 xe:Value->Shared->Prop
noncomputable def frs (l:List Env):List Addr:=l.filterMap (·.frame)
noncomputable abbrev Cx.fs (X:Cx):List Addr:=frs X.outer
noncomputable def Vis (sc:Scope) (x:Str):Prop:=sc.names.lookup x=some .local∨sc.names.lookup x=some .cell∨sc.names.lookup x=some .free
noncomputable def Loc (sc:Scope) (x:Str):Prop:=sc.names.lookup x=some .local∨sc.names.lookup x=some .cell
noncomputable def zuo (env:Env) (h:Heap) (m:Str->Option Value) (x:Str) (u:Value):Prop :=
 (env.kindOf x=some .local∧m x=some u)∨((env.kindOf x=some .cell∨env.kindOf x=some .free)∧∃ c,env.cells.lookup x=some c∧h.IsCell c (some u))
structure Cx.Ok (X:Cx):Prop where
 mod:Mod X.K X.mg X.base
 kind:X.env.scope.kind = .function
 glob:X.env.globals=mainGlobals
 blt:X.env.builtins=builtinsNs
 above:X.s₀.heap.objs.size<=X.env.locals
 inj:∀ x y c,X.env.cells.lookup x=some c->X.env.cells.lookup y=some c->x=y
 has:∀ x,(X.env.kindOf x=some .cell∨X.env.kindOf x=some .free)->∃ c,X.env.cells.lookup x=some c
 cab:∀ x c,X.fn x=true->X.env.cells.lookup x=some c->X.s₀.heap.objs.size<=c
 hd:X.calm=true->X.A.handled=none
 frames:X.A.frames=some X.stack
 stk:X.stack=X.outer∨(X.stack=X.env :: X.outer∧X.env.frame=some X.env.locals)
 exf:∀ b∈X.ex,b≠X.env.locals∧∀ x c,X.env.cells.lookup x=some c->c≠b
 bs:∀ b o,X.base.get? b=some o->X.s₀.heap.get? b=some o∧X.H₀ b=none
 bsz:X.base.objs.size<=X.s₀.heap.objs.size
 noex:∀ b o,X.base.get? b=some o->b∉X.ex
 exfs:∀ b∈X.ex,b∉X.fs
 funs:X.s₀.heap.FunFrames X.base X.outer
 frf:∀ b∈X.fs,X.H₀ b=none
structure Inv (X:Cx) (pins:List (Addr×Obj)) (σ:List (Option V)) (H:Hp) (s:Shared):Prop where
 ok:X.Ok
 os:s.os=X.s₀.os
 bare:AllBare s.gens
 base:Un X.fs X.ex X.H₀ H X.s₀.heap s.heap
 loc:∃ m,s.heap.Ns X.env.locals m∧∀ (i:Nat) (x:Str) (v:V),X.N[i]?=some x->σ[i]?=some (some v)->Vis X.env.scope x->∃ u,zo v u∧zuo X.env s.heap m x u
 cell:∀ x c,X.env.cells.lookup x=some c->∃ v,s.heap.IsCell c v
 free:H X.env.locals=none
 freeC:∀ x c,X.env.cells.lookup x=some c->H c=none
 pin:∀ p∈X.pn++pins,s.heap.get? p.1=some p.2∧H p.1=none∧p.1≠X.env.locals∧p.1∉X.fs∧∀ v,p.2.data ≠ .cell v
 hok:HOk X.prog X.w H s.heap
 len:σ.length=X.N.length
section
variable {X:Cx}{pins:List (Addr×Obj)}{σ:List (Option V)}{H H':Hp}{s:Shared}{h':Heap}
theorem Cx.Ok.nofr (ok:X.Ok) {b:Addr}{o:Obj} (e:X.base.get? b=some o):b∉X.fs:=fun hb=>by
 have:=(ok.funs.mem hb).1
 rw [e]at this;cases this
theorem Inv.bs (I:Inv X pins σ H s):∀ b o,X.base.get? b=some o->s.heap.get? b=some o∧H b=none:=fun b o e =>
 ⟨I.base.keep b o (I.ok.bs b o e).1 (I.ok.bs b o e).2 (I.ok.nofr e) (I.ok.noex b o e),I.base.free b o (I.ok.bs b o e).1 (I.ok.bs b o e).2 (I.ok.noex b o e)⟩
theorem Inv.bk (I:Inv X pins σ H s):∀ b o,X.base.get? b=some o->s.heap.get? b=some o:=fun b o e=>(I.bs b o e).1
theorem Inv.mod (I:Inv X pins σ H s):Mod X.K X.mg X.base:=I.ok.mod
theorem Inv.kIn (I:Inv X pins σ H s):X.K.In s.heap:=I.ok.mod.kin.keeps I.bk
theorem Inv.lt (I:Inv X pins σ H s):X.env.locals < s.heap.objs.size:=let ⟨_,hn,_⟩:=I.loc;hn.lt
theorem Inv.sz (I:Inv X pins σ H s):X.s₀.heap.objs.size<=s.heap.objs.size:=Nat.le_trans I.ok.above (Nat.le_of_lt I.lt)
theorem Inv.nofs (I:Inv X pins σ H s) {a:Addr} (h:s.heap.objs.size<=a):a∉X.fs:=fun hb=>by
 obtain ⟨_,o,ho,_⟩:=I.ok.funs.mem hb
 exact absurd (Nat.lt_of_lt_of_le (Heap.lt_size ho) (Nat.le_trans I.sz h)) (Nat.lt_irrefl _)
theorem Inv.cne (I:Inv X pins σ H s):∀ x c,X.env.cells.lookup x=some c->c≠X.env.locals:=fun x c e z=>by
 obtain ⟨v,o,ho,hd⟩:=I.cell x c e
 obtain ⟨m,⟨o',es,ep,ho',hd',_⟩,_⟩:=I.loc
 rw [z,ho']at ho;cases ho;rw [hd']at hd;cases hd
theorem Inv.funs (I:Inv X pins σ H s):s.heap.FunFrames X.base X.outer:=by
 have all:∀ (l:List Env),(∀ b∈frs l,b∈X.fs)->X.s₀.heap.FunFrames X.base l->s.heap.FunFrames X.base l:=by
   intro l
   induction l with
   | nil=>intro _ _;trivial
   | cons env r ih =>
     intro hs hl
     obtain ⟨hk,⟨L,o,hf,hn,ho,hd⟩,hr⟩:=hl
     have hL:L∈X.fs:=hs L (by unfold frs;rw [List.filterMap_cons,hf];exact List.mem_cons_self)
     obtain ⟨sl,e⟩:=I.base.slot L o ho (I.ok.frf L hL) hL fun z=>I.ok.exfs L z hL
     exact ⟨hk,⟨L,_,hf,hn,e,hd⟩,ih (fun b hb=>hs b (by unfold frs;rw [List.filterMap_cons,hf];exact List.mem_cons_of_mem _ hb)) hr⟩
 exact all X.outer (fun _ hb=>hb) I.ok.funs
theorem Inv.stack (I:Inv X pins σ H s):s.heap.FunFrames X.base X.stack:=by
 rcases I.ok.stk with e | ⟨e,hf⟩
 . rw [e];exact I.funs
 . rw [e]
   obtain ⟨m,hn,_⟩:=I.loc
   refine .cons (by rw [I.ok.kind];decide) hf hn ?_ I.funs
   exact Heap.get?_none_of_le (Nat.le_trans I.ok.bsz I.ok.above)
theorem Inv.stkSub (I:Inv X pins σ H s):∀ b∈frs X.stack,b∈X.env.locals :: X.fs:=fun b hb=>by
 rcases I.ok.stk with e | ⟨e,hf⟩
 . rw [e]at hb;exact List.mem_cons_of_mem _ hb
 . rw [e]at hb
   unfold frs at hb
   rw [List.filterMap_cons,hf]at hb
   exact hb
theorem Inv.stkFree (I:Inv X pins σ H s):∀ b∈frs X.stack,H b=none:=fun b hb=>by
 rcases List.mem_cons.mp (I.stkSub b hb) with e | hb
 . rw [e];exact I.free
 . obtain ⟨_,o,ho,_⟩:=I.ok.funs.mem hb
   exact I.base.free b o ho (I.ok.frf b hb) fun z=>I.ok.exfs b z hb
theorem Inv.step {g':Array GenState}{t':Nat}{d':Drawn}{ch:List Addr} (I:Inv X pins σ H s)
   (hch:∀ b∈ch,(b∈X.ex∨X.s₀.heap.objs.size<=b)∧b≠X.env.locals∧(∀ x c,X.env.cells.lookup x=some c->c≠b)∧∀ p∈X.pn++pins,p.1≠b)
   (keep:∀ b o,b≠X.env.locals->b∉X.fs->b∉ch->s.heap.get? b=some o->H b=none->h'.get? b=some o)
   (slot:∀ b o,b≠X.env.locals->b∈X.fs->b∉ch->s.heap.get? b=some o->H b=none->∃ sl,h'.get? b=some { o with slots:=sl }) (free:∀ b o,b∉ch->s.heap.get? b=some o->H b=none->H' b=none)
   (there:∀ b o,b∉ch->s.heap.get? b=some o->∃ o',h'.get? b=some o')
   (tups:∀ b xs,H b=some (.tup xs)->H' b=some (.tup xs)) (frzs:∀ b o u,H b=some (.frz o u)->H' b=some (.frz o u)) (tbls:∀ b ps,H b=some (.tbl ps)->∃ more,H' b=some (.tbl (ps++more)))
   (ns:∀ m,s.heap.Ns X.env.locals m->h'.Ns X.env.locals m) (hok:HOk X.prog X.w H' h') (hg:AllBare g') :
   Inv X pins σ H' { s with heap:=h',gens:=g',drawn:=d',toks:=t' }:=by
 have neL:∀ b o,X.s₀.heap.get? b=some o->b≠X.env.locals:=fun b o e=>Nat.ne_of_lt (Nat.lt_of_lt_of_le (Heap.lt_size e) I.ok.above)
 have neC:∀ b o,X.s₀.heap.get? b=some o->b∉X.ex->b∉ch:=fun b o e hx hb=>by
   rcases (hch b hb).1 with z | z
   . exact hx z
   . exact absurd (Nat.lt_of_lt_of_le (Heap.lt_size e) z) (Nat.lt_irrefl _)
 have cellK:∀ x c,X.env.cells.lookup x=some c->∀ v,s.heap.IsCell c v->h'.IsCell c v:=fun x c e v ⟨o,ho,hd⟩=>by
   have nch:c∉ch:=fun z=>(hch c z).2.2.1 x c e rfl
   by_cases hc:c∈X.fs
   . obtain ⟨sl,q⟩:=slot c o (I.cne x c e) hc nch ho (I.freeC x c e)
     exact ⟨_,q,hd⟩
   . exact ⟨o,keep c o (I.cne x c e) hc nch ho (I.freeC x c e),hd⟩
 refine ⟨I.ok,I.os,hg,⟨fun b o e n hb hx=>?_,fun b o e n hb hx=>?_,fun b o e n hx=>?_,fun b o e hx=>?_,fun b xs e=>tups b xs (I.base.tups b xs e),fun b o xs e=>frzs b o xs (I.base.frzs b o xs e),fun b ps e=>?_⟩,?_,fun x c e=>?_,?_,fun x c e=>?_,fun p hp=>?_,hok,I.len⟩
 . exact keep b o (neL b o e) hb (neC b o e hx) (I.base.keep b o e n hb hx) (I.base.free b o e n hx)
 . obtain ⟨sl,e1⟩:=I.base.slot b o e n hb hx
   obtain ⟨sl',e2⟩:=slot b _ (neL b o e) hb (neC b o e hx) e1 (I.base.free b o e n hx)
   exact ⟨sl',e2⟩
 . obtain ⟨o',e1⟩:=I.base.there b o e hx
   exact free b o' (neC b o e hx) e1 (I.base.free b o e n hx)
 . obtain ⟨o',e1⟩:=I.base.there b o e hx
   exact there b o' (neC b o e hx) e1
 . obtain ⟨m1,e1⟩:=I.base.tbls b ps e
   obtain ⟨m2,e2⟩:=tbls b _ e1
   exact ⟨m1++m2,by rw [e2,Array.append_assoc]⟩
 . obtain ⟨m,hn,hl⟩:=I.loc
   refine ⟨m,ns m hn,fun i x v e1 e2 e3=>?_⟩
   obtain ⟨u,r,l⟩:=hl i x v e1 e2 e3
   refine ⟨u,r,?_⟩
   rcases l with l | ⟨k,c,e,z⟩
   . exact .inl l
   . exact .inr ⟨k,c,e,cellK x c e _ z⟩
 . obtain ⟨v,z⟩:=I.cell x c e
   exact ⟨v,cellK x c e v z⟩
 . obtain ⟨m,⟨o,_,_,ho,_⟩,_⟩:=I.loc
   exact free _ o (fun z=>(hch _ z).2.1 rfl) ho I.free
 . obtain ⟨v,o,ho,hd⟩:=I.cell x c e
   exact free c o (fun z=>(hch c z).2.2.1 x c e rfl) ho (I.freeC x c e)
 . obtain ⟨e,n,ne,nf,d⟩:=I.pin p hp
   have nch:p.1∉ch:=fun z=>(hch p.1 z).2.2.2 p hp rfl
   exact ⟨keep p.1 p.2 ne nf nch e n,free p.1 p.2 nch e n,ne,nf,d⟩
theorem Inv.un {t':Nat} (I:Inv X pins σ H s) (u:Un X.fs [] H H' s.heap h') (hok:HOk X.prog X.w H' h'):Inv X pins σ H' { s with heap:=h',toks:=t' }:=by
 obtain ⟨m,⟨o,es,ep,ho,r⟩,_⟩:=id I.loc
 obtain ⟨sl,hL⟩:=u.any ho I.free ς
 exact I.step (g':=s.gens) (d':=s.drawn) (ch:=[]) (fun _ z=>nomatch z) (fun b o _ hb _ e n=>u.keep b o e n hb ς) (fun b o _ hb _ e n=>u.slot b o e n hb ς) (fun b o _ e n=>u.free b o e n ς) (fun b o _ e=>u.there b o e ς) u.tups u.frzs u.tbls (fun m' hm=>by
   obtain ⟨o',es',ep',ho',r'⟩:=hm
   rw [ho]at ho';cases ho'
   exact ⟨_,es',ep',hL,r'⟩) hok I.bare
theorem Inv.call {g':Array GenState}{t':Nat}{d':Drawn}{ch:List Addr} (I:Inv X pins σ H s) (u:Un (frs X.stack) ch H H' s.heap h') (hok:HOk X.prog X.w H' h') (hg:AllBare g')
   (hch:∀ b∈ch,(b∈X.ex∨X.s₀.heap.objs.size<=b)∧b≠X.env.locals∧(∀ x c,X.env.cells.lookup x=some c->c≠b)∧∀ p∈X.pn++pins,p.1≠b) :
   Inv X pins σ H' { s with heap:=h',gens:=g',drawn:=d',toks:=t' }:=by
 obtain ⟨m,⟨o,es,ep,ho,r⟩,_⟩:=id I.loc
 obtain ⟨sl,hL⟩:=u.any ho I.free fun z=>(hch _ z).2.1 rfl
 exact I.step (ch:=ch) hch (fun b o hL hb hc e n=>u.keep b o e n (fun z=>(List.mem_cons.mp (I.stkSub b z)).elim hL hb) hc) (fun b o _ _ hc e n=>u.any e n hc) (fun b o hc e n=>u.free b o e n hc) (fun b o hc e=>u.there b o e hc) u.tups u.frzs u.tbls (fun m' hm=>by
   obtain ⟨o',es',ep',ho',r'⟩:=hm
   rw [ho]at ho';cases ho'
   exact ⟨_,es',ep',hL,r'⟩) hok hg
theorem Inv.turned {t':Nat}{it:Addr} (I:Inv X pins σ H s) (k:∀ b o,b≠it->s.heap.get? b=some o->h'.get? b=some o) (hn:H it=none) (hL:it≠X.env.locals)
   (h1:it∈X.ex∨X.s₀.heap.objs.size<=it) (h2:∀ x c,X.env.cells.lookup x=some c->c≠it) (h3:∀ p∈X.pn++pins,p.1≠it):Inv X pins σ H { s with heap:=h',toks:=t' }:=by
 have nit:∀ b u,H b=some u->b≠it:=fun b u e z=>by rw [z,hn]at e;cases e
 refine I.step (g':=s.gens) (d':=s.drawn) (ch:=[it]) (fun b hb=>?_) (fun b o _ _ hc e _=>k b o (fun z=>hc (by simp [z])) e) (fun b o _ _ hc e _=>⟨o.slots,k b o (fun z=>hc (by simp [z])) e⟩) (fun _ _ _ _ n=>n)
   (fun b o hc e=>⟨o,k b o (fun z=>hc (by simp [z])) e⟩) (fun _ _ e=>e) (fun _ _ _ e=>e) (fun b ps e=>⟨#[],by rw [e];simp⟩) (fun m hm=>?_) (fun b u e=>?_) I.bare
 . have e:b=it:=by simpa using hb
   subst e
   exact ⟨h1,hL,h2,h3⟩
 . obtain ⟨o,es,ep,ho,r⟩:=hm
   exact ⟨o,es,ep,k _ o (Ne.symm hL) ho,r⟩
 . refine (I.hok b u e).stay (fun c v hc q=>k c v ?_ q) (fun _ q=>q) fun _ _ q=>q
   rcases hc with z | z
   . rw [z];exact nit b u e
   . exact nit c _ z
theorem Inv.tok (I:Inv X pins σ H s) (t:Nat):Inv X pins σ H { s with toks:=t }:=I.un (h':=s.heap) (t':=t) Un.refl I.hok
theorem Inv.kept {t':Nat} (I:Inv X pins σ H s) (k:∀ b u,s.heap.get? b=some u->h'.get? b=some u):Inv X pins σ H { s with heap:=h',toks:=t' }:=I.un (Un.kept k) (I.hok.kept k)
theorem Inv.laid {a:Addr}{o:HO}{t':Nat} (I:Inv X pins σ H s) (k:∀ b u,s.heap.get? b=some u->h'.get? b=some u) (hp:s.heap.objs.size<=a) (new:z8 X.prog X.w (upd H a o) h' a o) :
   Inv X pins σ (upd H a o) { s with heap:=h',toks:=t' }:=I.un (Un.laid k hp (I.hok.fresh hp)) (I.hok.laid k hp new)
theorem Inv.write {x e:Addr}{o:HO}{t':Nat} (I:Inv X pins σ H s) (mu:Mut (H x)) (he:e=x∨H e=some (.own x)) (k:∀ b u,b≠e->s.heap.get? b=some u->h'.get? b=some u) (heo:∃ u,h'.get? e=some u)
   (new:z8 X.prog X.w (upd H x o) h' x o):Inv X pins σ (upd H x o) { s with heap:=h',toks:=t' }:=I.un (Un.write mu he k heo) (I.hok.write mu he k heo new)
theorem Inv.pins_of {pins':List (Addr×Obj)} (I:Inv X pins σ H s) (h:∀ p∈pins',s.heap.get? p.1=some p.2∧H p.1=none∧p.1≠X.env.locals∧p.1∉X.fs∧∀ v,p.2.data ≠ .cell v):Inv X pins' σ H s :=
 ⟨I.ok,I.os,I.bare,I.base,I.loc,I.cell,I.free,I.freeC,fun p hp=>(List.mem_append.mp hp).elim (fun z=>I.pin p (List.mem_append_left _ z)) (h p),I.hok,I.len⟩
theorem zjJ {N:List Str} (hN:N.Nodup) {i j:Nat}{x:Str} (a:N[i]?=some x) (b:N[j]?=some x):i=j:=by
 obtain ⟨h1,e1⟩:=List.getElem?_eq_some_iff.mp a
 obtain ⟨h2,e2⟩:=List.getElem?_eq_some_iff.mp b
 exact (List.getElem_inj hN).mp (e1.trans e2.symm)
theorem zjc {M:Model}{A:Around}{E:Value->Shared->Prop}{i:Nat}{x:Str}{v:V}{u:Value}{Q:Unit->Shared->Prop} (I:Inv X pins σ H s) (hN:X.N.Nodup) (hi:X.N[i]?=some x) (hx:Loc X.env.scope x) (r:zo v u)
   (h:∀ s',Inv X pins (σ.set i (some v)) H s'->(∃ a,Heap.SameBut a s.heap s'.heap∧(a=X.env.locals∨X.env.cells.lookup x=some a))->Q () s') (hf:X.fn x=true∨X.env.scope.names.lookup x=some .local:=by first | exact .inl rfl | exact .inr rfl | assumption):wpAny M A (storeName X.env x u) Q E s:=by
 obtain ⟨m,hn,hl⟩:=id I.loc
 have hcls:(X.env.scope.kind == .class || (X.env.scope.kind == .module && X.env.locals != X.env.globals))=false:=by rw [I.ok.kind];rfl
 have hiσ:i < σ.length:=by rw [I.len];exact (List.getElem?_eq_some_iff.mp hi).1
 have cne:=I.cne
 have tracked:∀ {a:Addr} {h':Heap},(∃ o,s.heap.get? a=some o∧H a=none)->Heap.SameBut a s.heap h'->HOk X.prog X.w H h':=fun {a h'} ha hs b ob e=>by
   obtain ⟨_,_,hfree⟩:=ha
   refine (I.hok b ob e).stay (fun c w' hc q=>(hs.2 c ?_).trans q) (fun _ q=>q) fun _ _ q=>q
   rintro rfl
   rcases hc with rfl | hc
   . rw [hfree]at e;cases e
   . rw [hfree]at hc;cases hc
 rcases hx with hk | hk
 . refine wpAny_storeName_local hk hn (fun h' hn' hs=>?_) hcls
   obtain ⟨oL,_,_,hoL,_⟩:=id hn
   refine h _ ⟨I.ok,I.os,I.bare,⟨fun b o e n hb hx=>?_,fun b o e n hb hx=>?_,I.base.free,fun b o e hx=>?_,I.base.tups,I.base.frzs,I.base.tbls⟩,⟨_,hn',fun j y v' e1 e2 e3=>?_⟩,fun y c e=>?_,I.free,I.freeC,fun p hp=>?_,tracked ⟨oL,hoL,I.free⟩ hs,by simpa using I.len⟩ ⟨_,hs,.inl rfl⟩
   . exact (hs.2 b (Nat.ne_of_lt (Nat.lt_of_lt_of_le (Heap.lt_size e) I.ok.above))).trans (I.base.keep b o e n hb hx)
   . obtain ⟨sl,e1⟩:=I.base.slot b o e n hb hx
     exact ⟨sl,(hs.2 b (Nat.ne_of_lt (Nat.lt_of_lt_of_le (Heap.lt_size e) I.ok.above))).trans e1⟩
   . obtain ⟨o',e1⟩:=I.base.there b o e hx
     exact ⟨o',(hs.2 b (Nat.ne_of_lt (Nat.lt_of_lt_of_le (Heap.lt_size e) I.ok.above))).trans e1⟩
   . by_cases hj:j=i
     . subst hj
       rw [hi]at e1;cases e1
       rw [List.getElem?_set_self hiσ]at e2
       cases e2
       exact ⟨u,r,.inl ⟨hk,ς⟩⟩
     . rw [List.getElem?_set_ne (Ne.symm hj)]at e2
       obtain ⟨u',r',q⟩:=hl j y v' e1 e2 e3
       refine ⟨u',r',?_⟩
       rcases q with ⟨k,e⟩ | ⟨k,c,e,z⟩
       . refine .inl ⟨k,?_⟩
         have:y≠x:=fun e=>hj (zjJ hN e1 (e ▸ hi))
         simp [this,e]
       . exact .inr ⟨k,c,e,z.sameBut hs (cne y c e)⟩
   . obtain ⟨w',z⟩:=I.cell y c e
     exact ⟨w',z.sameBut hs (cne y c e)⟩
   . obtain ⟨e,n,ne,nf,d⟩:=I.pin p hp
     exact ⟨(hs.2 p.1 ne).trans e,n,ne,nf,d⟩
 . have hfn:X.fn x=true:=by
     rcases hf with z | z
     . exact z
     . rw [z]at hk;cases hk
   obtain ⟨c,hc⟩:=I.ok.has x (.inl hk)
   obtain ⟨w',z⟩:=I.cell x c hc
   refine wpAny_storeName_cell I.ok.kind hk hc z (fun h' hc' hs=>?_)
   obtain ⟨oc,hoc,hocd⟩:=id z
   refine h { s with heap:=h' } ⟨I.ok,I.os,I.bare,⟨fun b o e n hb hx=>?_,fun b o e n hb hx=>?_,I.base.free,fun b o e hx=>?_,I.base.tups,I.base.frzs,I.base.tbls⟩,⟨m,hn.sameBut hs (Ne.symm (cne x c hc)),fun j y v' e1 e2 e3=>?_⟩,fun y c' e=>?_,I.free,I.freeC,fun p hp=>?_,tracked ⟨oc,hoc,I.freeC x c hc⟩ hs,by simpa using I.len⟩ ⟨c,hs,.inr hc⟩
   . exact (hs.2 b (Nat.ne_of_lt (Nat.lt_of_lt_of_le (Heap.lt_size e) (I.ok.cab x c hfn hc)))).trans (I.base.keep b o e n hb hx)
   . obtain ⟨sl,e1⟩:=I.base.slot b o e n hb hx
     exact ⟨sl,(hs.2 b (Nat.ne_of_lt (Nat.lt_of_lt_of_le (Heap.lt_size e) (I.ok.cab x c hfn hc)))).trans e1⟩
   . obtain ⟨o',e1⟩:=I.base.there b o e hx
     exact ⟨o',(hs.2 b (Nat.ne_of_lt (Nat.lt_of_lt_of_le (Heap.lt_size e) (I.ok.cab x c hfn hc)))).trans e1⟩
   . by_cases hj:j=i
     . subst hj
       rw [hi]at e1;cases e1
       rw [List.getElem?_set_self hiσ]at e2
       cases e2
       exact ⟨u,r,.inr ⟨.inl hk,c,hc,hc'⟩⟩
     . rw [List.getElem?_set_ne (Ne.symm hj)]at e2
       obtain ⟨u',r',q⟩:=hl j y v' e1 e2 e3
       refine ⟨u',r',?_⟩
       rcases q with q | ⟨k,c',e,z'⟩
       . exact .inl q
       . refine .inr ⟨k,c',e,z'.sameBut hs ?_⟩
         rintro rfl
         exact hj (zjJ hN e1 (I.ok.inj _ _ _ e hc ▸ hi))
   . by_cases hcc:c'=c
     . subst hcc;exact ⟨_,hc'⟩
     . obtain ⟨w2,z2⟩:=I.cell y c' e
       exact ⟨w2,z2.sameBut hs hcc⟩
   . obtain ⟨e,n,ne,nf,d⟩:=I.pin p hp
     refine ⟨(hs.2 p.1 ?_).trans e,n,ne,nf,d⟩
     intro q
     rw [q,hoc]at e
     have q':oc=p.2:=Option.some.inj e
     exact d w' (by rw [<- q'];exact hocd)
theorem zez {M:Model}{A:Around}{E:Value->Shared->Prop}{i:Nat}{x:Str}{v:V}{u:Value}{Q:Unit->Shared->Prop} (I:Inv X pins σ H s) (hN:X.N.Nodup) (hi:X.N[i]?=some x) (hx:Loc X.env.scope x) (r:zo v u)
   (h:∀ s',Inv X pins (σ.set i (some v)) H s'->Q () s') (hf:X.fn x=true∨X.env.scope.names.lookup x=some .local:=by first | exact .inl rfl | exact .inr rfl | assumption):wpAny M A (storeName X.env x u) Q E s :=
 zjc I hN hi hx r (fun s' I' _=>h s' I') hf
theorem Inv.call' {s':Shared}{ch:List Addr} (I:Inv X pins σ H s) (ho:s'.os=s.os) (u:Un (frs X.stack) ch H H' s.heap s'.heap) (hok:HOk X.prog X.w H' s'.heap) (hg:AllBare s'.gens)
   (hch:∀ b∈ch,(b∈X.ex∨X.s₀.heap.objs.size<=b)∧b≠X.env.locals∧(∀ x c,X.env.cells.lookup x=some c->c≠b)∧∀ p∈X.pn++pins,p.1≠b):Inv X pins σ H' s':=by
 obtain ⟨h',g',d',t',o'⟩:=s'
 have e:o'=s.os:=ho
 subst e
 exact I.call (g':=g') (t':=t') (d':=d') u hok hg hch
end
noncomputable abbrev XK:=Value->Option Addr->Hp->Prop
noncomputable abbrev St:=List (Option V)
noncomputable abbrev VK:=V->Hp->Prop
noncomputable abbrev TE:=St->Hp->VK->Prop
noncomputable abbrev TT:=St->Hp->(Bool->Hp->Prop)->Prop
noncomputable abbrev TA:=St->Hp->(List V->Hp->Prop)->Prop
structure zcj where
 nx:St->Hp->Prop
 rt:VK
 bk:St->Hp->Prop:=fun _ _=>False
 ct:St->Hp->Prop:=fun _ _=>False
noncomputable abbrev TS:=zcj->St->Hp->Prop
noncomputable def EP (X:Cx) (pins:List (Addr×Obj)) (σ:St) (Q:VK) (u:Value) (s':Shared):Prop:=∃ v H',Inv X pins σ H' s'∧zo v u∧Q v H'
noncomputable def TP (X:Cx) (pins:List (Addr×Obj)) (σ:St) (Q:Bool->Hp->Prop) (b:Bool) (s':Shared):Prop:=∃ H',Inv X pins σ H' s'∧Q b H'
noncomputable def AP (X:Cx) (pins:List (Addr×Obj)) (σ:St) (Q:List V->Hp->Prop) (us:List Value) (s':Shared):Prop:=∃ vs H',Inv X pins σ H' s'∧zr vs us∧Q vs H'
noncomputable def SP (X:Cx) (pins:List (Addr×Obj)) (D:zcj) (f:Flow) (s':Shared):Prop :=
 match f with
 | .next=>∃ σ' H',Inv X pins σ' H' s'∧D.nx σ' H'
 | .brk=>∃ σ' H',Inv X pins σ' H' s'∧D.bk σ' H'
 | .cont=>∃ σ' H',Inv X pins σ' H' s'∧D.ct σ' H'
 | .ret u=>∃ v σ' H',Inv X pins σ' H' s'∧zo v u∧D.rt v H'
noncomputable def PE (X:Cx) (e:Expr) (t:TE):Prop :=
 ∀ (pins:List (Addr×Obj)) (s:Shared) (σ:St) (H:Hp) (Q:VK),Inv X pins σ H s->t σ H Q->wpAny (model X.prog X.w) X.A (eval e X.env) (EP X pins σ Q) X.xe s
noncomputable def PT (X:Cx) (e:Expr) (t:TT):Prop :=
 ∀ (pins:List (Addr×Obj)) (s:Shared) (σ:St) (H:Hp) (Q:Bool->Hp->Prop),Inv X pins σ H s->t σ H Q->wpAny (model X.prog X.w) X.A (isTrue e X.env (eval e X.env)) (TP X pins σ Q) X.xe s
noncomputable def PW (X:Cx) (e:Expr) (t:TT):Prop :=
 ∀ (whole:Sem Value) (pins:List (Addr×Obj)) (s:Shared) (σ:St) (H:Hp) (Q:Bool->Hp->Prop),Inv X pins σ H s->t σ H Q->wpAny (model X.prog X.w) X.A (isTrue e X.env whole) (TP X pins σ Q) X.xe s
theorem PW.pt {X:Cx}{e:Expr}{t:TT} (h:PW X e t):PT X e t:=h _
noncomputable def PA (X:Cx) (es:List Expr) (t:TA):Prop :=
 ∀ (pos:Pos) (pins:List (Addr×Obj)) (s:Shared) (σ:St) (H:Hp) (Q:List V->Hp->Prop),Inv X pins σ H s->t σ H Q->wpAny (model X.prog X.w) X.A (spliced (backTo pos (starEach es X.env))) (AP X pins σ Q) X.xe s
noncomputable def PS (X:Cx) (st:Stmt) (t:TS):Prop :=
 ∀ (pins:List (Addr×Obj)) (s:Shared) (σ:St) (H:Hp) (D:zcj),Inv X pins σ H s->t D σ H->wpAny (model X.prog X.w) X.A (exec st X.env) (SP X pins D) X.xe s
noncomputable def PSs (X:Cx) (st:List Stmt) (t:TS):Prop :=
 ∀ (pins:List (Addr×Obj)) (s:Shared) (σ:St) (H:Hp) (D:zcj),Inv X pins σ H s->t D σ H->wpAny (model X.prog X.w) X.A (execs st X.env) (SP X pins D) X.xe s
theorem thn {α:Type}{t:Sem α}{Q Q':α->Shared->Prop}{M:Model}{A:Around}{E:Value->Shared->Prop}{s:Shared} (h:wpAny M A t Q E s) (hQ:∀ a s,Q a s->Q' a s):wpAny M A t Q' E s:=wpAny_mono h hQ fun _ _ x=>x
end L2
namespace L2
open PySem PySem.Spec PyProof.Rows
section
variable {X:Cx}
noncomputable def zjM (i:Nat):TE:=fun σ H Q=>∃ v,σ[i]?=some (some v)∧Q v H
noncomputable def tC (v:V):TE:=fun _ H Q=>Q v H
theorem ziw {i:Nat}{x:Str}{pos:Pos} (hN:X.N[i]?=some x) (hv:Vis X.env.scope x) (hd:(x == ("__debug__":Str))=false:=by decide) (hcd:(x == ("__classdict__":Str))=false:=by decide):PE X (.Name x pos) (zjM i):=by
 intro pins s σ H Q I h
 obtain ⟨v,e,h⟩:=h
 obtain ⟨m,hn,hl⟩:=I.loc
 obtain ⟨u,r,l⟩:=hl i x v hN e hv
 have fin:EP X pins σ Q u s:=⟨v,H,I,r,h⟩
 rcases l with ⟨hk,hm⟩ | ⟨hk,c,hc,hcell⟩
 . exact wpAny_Name (wpAny_loadName_local I.ok.kind hk hn hm fin) hd
 . rcases hk with hk | hk
   . exact wpAny_Name (wpAny_loadName_cell I.ok.kind hk hc hcell fin) hd
   . exact wpAny_Name (wpAny_loadName_free I.ok.kind hk hc hcell fin hcd) hd
theorem zh5 {i j pos}:PE X (.Constant (.int i) j pos) (tC (.int i)):=fun _ _ _ H _ I h=>wpAny_Constant_int ⟨.int i,H,I.tok _,⟨_,rfl⟩,h⟩
theorem zua {b j pos}:PE X (.Constant (.bool b) j pos) (tC (.bl b)):=fun _ _ _ H _ I h=>Constant_bool ⟨.bl b,H,I,rfl,h⟩
theorem zus {j pos}:PE X (.Constant .none j pos) (tC .non):=fun _ _ _ H _ I h=>Constant_none ⟨.non,H,I,rfl,h⟩
theorem zir {x j pos}:PE X (.Constant (.str x) j pos) (tC (.str x)):=fun _ _ _ H _ I h=>Calls.Constant_str ⟨.str x,H,I.tok _,⟨_,rfl⟩,h⟩
noncomputable def Gl (X:Cx) (x:Str):Prop:=X.env.kindOf x=some .globalImplicit
theorem zgN {E:Value->Shared->Prop}{pins:List (Addr×Obj)}{s:Shared}{σ:St}{H:Hp}{x:Str}{u:Value}{pos:Pos}{Q:Value->Shared->Prop} (I:Inv X pins σ H s) (hg:Gl X x) (hm:X.mg x=some u) (h:Q u s)
   (hd:(x == ("__debug__":Str))=false:=by decide):wpAny (model X.prog X.w) X.A (eval (.Name x pos) X.env) Q E s :=
 Calls.Name_function_global I.ok.kind hg (Calls.loadGlobal_global (by rw [I.ok.glob];exact I.mod.glob.keeps I.bk) hm h) hd
theorem zfh {E:Value->Shared->Prop}{pins:List (Addr×Obj)}{s:Shared}{σ:St}{H:Hp}{x:Str}{u:Value}{pos:Pos}{Q:Value->Shared->Prop} (I:Inv X pins σ H s) (hg:Gl X x) (hm:X.mg x=none) (hv:bootBuiltins x=some u) (h:Q u s)
   (hn:x ≠ "__name__":=by decide) (hd:(x == ("__debug__":Str))=false:=by decide):wpAny (model X.prog X.w) X.A (eval (.Name x pos) X.env) Q E s:=by
 obtain ⟨mb,h1,h2⟩:=I.mod.blt
 exact Calls.Name_function_global I.ok.kind hg (Calls.loadGlobal_builtin (by rw [I.ok.glob];exact I.mod.glob.keeps I.bk) hm (by rw [I.ok.blt];exact h1.keeps I.bk) ((h2 x hn).trans hv) h) hd
theorem ze1 {x:Str}{v:V}{u:Value}{pos:Pos} (hg:Gl X x) (hm:X.mg x=some u) (r:zo v u) (hd:(x == ("__debug__":Str))=false:=by decide):PE X (.Name x pos) (tC v) :=
 fun _ _ _ H _ I h=>zgN I hg hm ⟨v,H,I,r,h⟩ hd
theorem zkB {x:Str}{v:V}{u:Value}{pos:Pos} (hg:Gl X x) (hm:X.mg x=none) (hv:bootBuiltins x=some u) (r:zo v u) (hn:x ≠ "__name__":=by decide) (hd:(x == ("__debug__":Str))=false:=by decide):PE X (.Name x pos) (tC v) :=
 fun _ _ _ H _ I h=>zfh I hg hm hv ⟨v,H,I,r,h⟩ hn hd
variable {a b:Expr}{ta tb:TE}{pos:Pos}
noncomputable def tB (t:TE):TT:=fun σ H Q=>t σ H fun x H1=>∃ c,x = .bl c∧Q c H1
theorem zmp {e:Expr}{t:TE} (h:PE X e t) (he:∀ whole,isTrue e X.env whole=(do let v <- whole;standAt e.pos;holding [v] (truthy v)):=by intro _;rfl):PT X e (tB t):=by
 intro pins s σ H Q I hw
 refine isTrue_plain (thn (h pins s σ H _ I hw) fun v s1 ⟨x,H1,I1,r1,q1⟩=>?_) (he _)
 obtain ⟨d,rfl,q⟩:=q1
 cases r1
 exact wpAny_truthy_bool ⟨H1,I1,q⟩
variable {tA tB':TT}{rest:List Expr}
noncomputable def zlE (t u:TT):TT:=fun σ H Q=>t σ H fun c H1=>if c=true then u σ H1 Q else Q false H1
noncomputable def tOr (t u:TT):TT:=fun σ H Q=>t σ H fun c H1=>if c=true then Q true H1 else u σ H1 Q
noncomputable def zms (t:TT):TT:=fun σ H Q=>t σ H fun c H1=>Q (!c) H1
theorem zlo (ha:PT X a tA):PW X (.BoolOp .And [a] pos) tA:=by
 intro wh pins s σ H Q I h
 refine isTrue_and (thn (ha pins s σ H Q I h) fun c s1 e=>?_)
 cases c with
 | true=>exact isTrue_and_nil e
 | false=>exact e
theorem zpt (ha:PT X a tA):PW X (.BoolOp .Or [a] pos) tA:=by
 intro wh pins s σ H Q I h
 refine isTrue_or (thn (ha pins s σ H Q I h) fun c s1 e=>?_)
 cases c with
 | false=>exact isTrue_or_nil e
 | true=>exact e
theorem zkq (ha:PT X a tA) (hb:PW X (.BoolOp .And (b :: rest) pos) tB'):PW X (.BoolOp .And (a :: b :: rest) pos) (zlE tA tB'):=by
 intro wh pins s σ H Q I h
 refine isTrue_and (thn (ha pins s σ H _ I h) fun c s1 ⟨H1,I1,q1⟩=>?_)
 cases c with
 | true=>exact hb wh pins s1 σ H1 Q I1 q1
 | false=>exact ⟨H1,I1,q1⟩
theorem zuL (ha:PT X a tA) (hb:PW X (.BoolOp .Or (b :: rest) pos) tB'):PW X (.BoolOp .Or (a :: b :: rest) pos) (tOr tA tB'):=by
 intro wh pins s σ H Q I h
 refine isTrue_or (thn (ha pins s σ H _ I h) fun c s1 ⟨H1,I1,q1⟩=>?_)
 cases c with
 | true=>exact ⟨H1,I1,q1⟩
 | false=>exact hb wh pins s1 σ H1 Q I1 q1
theorem zkN (ha:PT X a tA):PT X (.UnaryOp .Not a pos) (zms tA):=by
 intro pins s σ H Q I h
 exact isTrue_not (ha pins s σ H (fun c H1=>Q (!c) H1) I h)
noncomputable def ztJ (ta tb:TE):TE:=fun σ H Q=>ta σ H fun x H1=>∃ c,x = .bl c∧if c=true then tb σ H1 Q else Q (.bl false) H1
noncomputable def zlR (ta:TE):TE:=fun σ H Q=>ta σ H fun x H1=>∃ c,x = .bl c∧Q (.bl (!c)) H1
theorem zpE {op}{t:TE} (h:PE X a t):PE X (.BoolOp op [a] pos) t:=fun pins s σ H Q I hw=>BoolOp_one (h pins s σ H Q I hw)
theorem zrF (ha:PE X a ta) (hb:PE X (.BoolOp .And (b :: rest) pos) tb):PE X (.BoolOp .And (a :: b :: rest) pos) (ztJ ta tb):=by
 intro pins s σ H Q I h
 refine BoolOp_and (thn (ha pins s σ H _ I h) fun v s1 ⟨x,H1,I1,r1,q1⟩=>?_)
 obtain ⟨c,rfl,q1⟩:=q1
 cases r1
 refine wpAny_truthy_bool ?_
 cases c with
 | true=>exact hb pins s1 σ H1 Q I1 q1
 | false=>exact ⟨.bl false,H1,I1,rfl,q1⟩
theorem zml (ha:PE X a ta):PE X (.UnaryOp .Not a pos) (zlR ta):=by
 intro pins s σ H Q I h
 refine UnaryOp_ (thn (ha pins s σ H _ I h) fun v s1 ⟨x,H1,I1,r1,q1⟩=>?_)
 obtain ⟨c,rfl,q1⟩:=q1
 cases r1
 exact not_of (wpAny_truthy_bool ⟨.bl (!c),H1,I1,rfl,q1⟩)
noncomputable def tIf (t:TT) (ta tb:TE):TE:=fun σ H Q=>t σ H fun c H1=>if c=true then ta σ H1 Q else tb σ H1 Q
theorem zks {c:Expr} (hc:PT X c tA) (ha:PE X a ta) (hb:PE X b tb):PE X (.IfExp c a b pos) (tIf tA ta tb):=by
 intro pins s σ H Q I h
 refine wpAny_IfExp (thn (hc pins s σ H _ I h) fun d s1 ⟨H1,I1,q1⟩=>?_)
 cases d with
 | true=>exact ha pins s1 σ H1 Q I1 q1
 | false=>exact hb pins s1 σ H1 Q I1 q1
end
end L2
namespace L2
open PySem PySem.Spec PyProof.Rows
noncomputable def SqL (K:PySem.W.Frag) (H:Hp) (a:Addr) (xs:List V):Prop :=
 Rd H a (.lst xs) ∨
   ∃ (o:Obj) (its:Array Value) (n:Nat),K.lookup a=some o∧o.cls = .type "list" ∧ o.dict=none∧o.data = .seq its n∧its.size<=sizeLine∧zr xs its.toList
noncomputable def SqT (K:PySem.W.Frag) (H:Hp) (a:Addr) (xs:List V):Prop :=
 Rd H a (.tup xs) ∨
   ∃ (o:Obj) (its:Array Value) (n:Nat),K.lookup a=some o∧o.cls = .type "tuple" ∧ o.data = .seq its n∧its.size<=sizeLine∧zr xs its.toList
noncomputable def zqC:Value->Option V
 | .none=>some .non
 | .bool b=>some (.bl b)
 | .int i _=>some (.int i)
 | .str x _=>some (.str x)
 | .bytes b _=>some (.byt b)
 | .float b _=>some (.flt b)
 | .ref a=>some (.ref a)
 | .type n=>some (.ty n)
 | _=>none
theorem zo.abs {x:V}{u:Value} (r:zo x u):zqC u=some x:=by
 cases x with
 | non=>cases r;rfl
 | bl _=>cases r;rfl
 | int _=>obtain ⟨t,rfl⟩:=r;rfl
 | str _=>obtain ⟨t,rfl⟩:=r;rfl
 | byt _=>obtain ⟨t,rfl⟩:=r;rfl
 | flt _=>obtain ⟨t,rfl⟩:=r;rfl
 | ref _=>cases r;rfl
 | ty _=>cases r;rfl
theorem zo.inj {x y:V}{u:Value} (r:zo x u) (q:zo y u):x=y:=Option.some.inj (r.abs.symm.trans q.abs)
theorem zr.inj:∀ {xs ys:List V}{us:List Value},zr xs us->zr ys us->xs=ys
 | _,_,_,.nil,.nil=>rfl
 | _,_,_,.cons r t,.cons r' t'=>by rw [r.inj r',zr.inj t t']
section
variable {X:Cx}{pins:List (Addr×Obj)}{σ:St}{H:Hp}{s:Shared}{a:Addr}{xs ys:List V}
theorem SqL.of {K:PySem.W.Frag} (h:H a=some (.lst xs)):SqL K H a xs := .inl (.inl h)
theorem SqT.of {K:PySem.W.Frag} (h:H a=some (.tup xs)):SqT K H a xs := .inl (.inl h)
theorem Inv.list (I:Inv X pins σ H s) (h:SqL X.K H a xs):∃ its:List Value,zr xs its∧PlainL s.heap a its.toArray∧xs.length<=sizeLine:=by
 rcases h with h | ⟨o,its,n,hk,hc,hd,hs,hz,r⟩
 . obtain ⟨z,its,n,r,e⟩:=h.ok I.hok
   exact ⟨its,r,⟨_,n,e,rfl,rfl,rfl⟩,z⟩
 . refine ⟨its.toList,r,⟨o,n,I.kIn a o hk,hc,hd,by simpa using hs⟩,?_⟩
   have e:=r.length
   simp only [Array.length_toList]at e
   omega
theorem Inv.tuple (I:Inv X pins σ H s) (h:SqT X.K H a xs):∃ its:List Value,zr xs its∧IsTup s.heap a its.toArray∧xs.length<=sizeLine:=by
 rcases h with h | ⟨o,its,n,hk,hc,hs,hz,r⟩
 . obtain ⟨z,its,r,p⟩:=h.ok I.hok
   exact ⟨its,r,p,z⟩
 . refine ⟨its.toList,r,⟨o,I.kIn a o hk,hc,n,by simpa using hs⟩,?_⟩
   have e:=r.length
   simp only [Array.length_toList]at e
   omega
theorem Inv.list_inj (I:Inv X pins σ H s) (h:SqL X.K H a xs) (h':SqL X.K H a ys):xs=ys:=by
 obtain ⟨its,r,⟨o,n,e,_,_,d⟩,_⟩:=I.list h
 obtain ⟨its',r',⟨o',n',e',_,_,d'⟩,_⟩:=I.list h'
 rw [e]at e';cases e'
 rw [d]at d'
 injection d' with d1 _
 have:its=its':=by simpa using congrArg Array.toList d1
 subst this
 exact r.inj r'
theorem Inv.tuple_inj (I:Inv X pins σ H s) (h:SqT X.K H a xs) (h':SqT X.K H a ys):xs=ys:=by
 obtain ⟨its,r,⟨o,e,_,n,d⟩,_⟩:=I.tuple h
 obtain ⟨its',r',⟨o',e',_,n',d'⟩,_⟩:=I.tuple h'
 rw [e]at e';cases e'
 rw [d]at d'
 injection d' with d1 _
 have:its=its':=by simpa using congrArg Array.toList d1
 subst this
 exact r.inj r'
end
noncomputable abbrev Cx.wish (X:Cx) (E:Value->Shared->Prop):Cx:={ X with xe:=E }
noncomputable abbrev Cx.nox (X:Cx):Cx:=X.wish fun _ _=>False
theorem Cx.Ok.wish {X:Cx} (ok:X.Ok) (E:Value->Shared->Prop):(X.wish E).Ok :=
 ⟨ok.mod,ok.kind,ok.glob,ok.blt,ok.above,ok.inj,ok.has,ok.cab,ok.hd,ok.frames,ok.stk,ok.exf,ok.bs,ok.bsz,ok.noex,ok.exfs,ok.funs,ok.frf⟩
theorem Cx.Ok.unwish {X:Cx}{E:Value->Shared->Prop} (ok:(X.wish E).Ok):X.Ok :=
 ⟨ok.mod,ok.kind,ok.glob,ok.blt,ok.above,ok.inj,ok.has,ok.cab,ok.hd,ok.frames,ok.stk,ok.exf,ok.bs,ok.bsz,ok.noex,ok.exfs,ok.funs,ok.frf⟩
section
variable {X:Cx}{pins:List (Addr×Obj)}{σ:St}{H:Hp}{s:Shared}{E:Value->Shared->Prop}
theorem Inv.wish (I:Inv X pins σ H s) (E:Value->Shared->Prop):Inv (X.wish E) pins σ H s:=⟨I.ok.wish E,I.os,I.bare,I.base,I.loc,I.cell,I.free,I.freeC,I.pin,I.hok,I.len⟩
theorem Inv.unwish (I:Inv (X.wish E) pins σ H s):Inv X pins σ H s:=⟨I.ok.unwish,I.os,I.bare,I.base,I.loc,I.cell,I.free,I.freeC,I.pin,I.hok,I.len⟩
end
section
variable {X:Cx}{st:Stmt}{rest:List Stmt}{t u:TS}{e:Expr}{te:TE}{pos:Pos}
noncomputable def ztg:TS:=fun D σ H=>D.nx σ H
noncomputable def ziq (t u:TS):TS:=fun D σ H=>t { D with nx:=u D } σ H
theorem zlD:PSs X [] ztg:=fun _ _ σ H _ I h=>wpAny_execs_nil ⟨σ,H,I,h⟩
theorem zji (h1:PS X st t) (h2:PSs X rest u):PSs X (st :: rest) (ziq t u):=by
 intro pins s σ H D I h
 refine wpAny_execs_cons (thn (h1 pins s σ H { D with nx:=u D } I h) fun f s1 q=>?_)
 cases f with
 | next =>
   obtain ⟨σ',H',I',q⟩:=q
   exact h2 pins s1 σ' H' D I' q
 | ret v=>exact q
 | brk=>exact q
 | cont=>exact q
theorem zl4 (h1:PS X st t):PSs X [st] t:=by
 intro pins s σ H D I h
 refine wpAny_execs_cons (thn (h1 pins s σ H D I h) fun f s1 q=>?_)
 cases f with
 | next=>exact wpAny_execs_nil q
 | ret v=>exact q
 | brk=>exact q
 | cont=>exact q
theorem Inv.quiet {pins:List (Addr×Obj)}{σ:St}{H:Hp}{s:Shared} (I:Inv X pins σ H s):interactive X.env=false:=by simp [interactive,I.ok.kind]
noncomputable def ztI (te:TE):TS:=fun D σ H=>te σ H fun _ H1=>D.nx σ H1
theorem zuq (he:PE X e te) (hs:swapsWith e none pos.line X.env=pure false:=by rfl):PS X (.Expr e pos) (ztI te):=by
 intro pins s σ H D I h
 exact wpAny_Expr_any (thn (he pins s σ H _ I h) fun v s1 ⟨x,H1,I1,r1,q1⟩=>⟨σ,H1,I1,q1⟩) I.quiet hs
noncomputable def zlW (te:TE):TS:=fun D σ H=>te σ H D.rt
theorem zln (he:PE X e te):PS X (.Return (some e) pos) (zlW te):=by
 intro pins s σ H D I h
 exact wpAny_Return_some (thn (he pins s σ H _ I h) fun v s1 ⟨x,H1,I1,r1,q1⟩=>⟨x,σ,H1,I1,r1,q1⟩)
noncomputable def zqK (c:TT) (t u:TS):TS:=fun D σ H=>c σ H fun b H1=>if b=true then t D σ H1 else u D σ H1
theorem zum {c:Expr}{a b:List Stmt}{tc:TT} (hc:PT X c tc) (ha:PSs X a t) (hb:PSs X b u):PS X (.If c a b pos) (zqK tc t u):=by
 intro pins s σ H D I h
 refine wpAny_If (thn (hc pins s σ H _ I h) fun d s1 ⟨H1,I1,q1⟩=>?_)
 cases d with
 | true=>exact ha pins s1 σ H1 D I1 q1
 | false=>exact hb pins s1 σ H1 D I1 q1
end
noncomputable abbrev TG:=V->St->Hp->(St->Hp->Prop)->Prop
noncomputable abbrev TGs:=List V->St->Hp->(St->Hp->Prop)->Prop
noncomputable def PG (X:Cx) (target:Expr) (t:TG):Prop :=
 ∀ (pins:List (Addr×Obj)) (s:Shared) (σ:St) (H:Hp) (v:V) (u:Value) (Q:St->Hp->Prop),Inv X pins σ H s->zo v u->t v σ H Q ->
   wpAny (model X.prog X.w) X.A (assign target X.env u) (fun _ s'=>∃ σ' H',Inv X pins σ' H' s'∧Q σ' H') X.xe s
noncomputable def PGs (X:Cx) (ts:List Expr) (t:TGs):Prop :=
 ∀ (pins:List (Addr×Obj)) (s:Shared) (σ:St) (H:Hp) (vs:List V) (us:List Value) (Q:St->Hp->Prop),Inv X pins σ H s->zr vs us->t vs σ H Q ->
   wpAny (model X.prog X.w) X.A (assignInOrder ((assignEach ts X.env).map (·.2)) us) (fun _ s'=>∃ σ' H',Inv X pins σ' H' s'∧Q σ' H') X.xe s
noncomputable abbrev zha:=V->V->V->Hp->(Hp->Prop)->Prop
noncomputable def zgd (X:Cx) (t:zha):Prop :=
 ∀ (pins:List (Addr×Obj)) (s:Shared) (σ:St) (H:Hp) (o i v:V) (ov iv u:Value) (Q:Hp->Prop),Inv X pins σ H s->zo o ov->zo i iv->zo v u->t o i v H Q ->
   wpAny (model X.prog X.w) X.A (setItem ov iv u) (fun _ s'=>∃ H',Inv X pins σ H' s'∧Q H') X.xe s
noncomputable abbrev TIp:=V->V->Hp->VK->Prop
noncomputable def PIp (X:Cx) (op:Operator) (t:TIp):Prop :=
 ∀ (pins:List (Addr×Obj)) (s:Shared) (σ:St) (H:Hp) (x y:V) (v u:Value) (Q:VK),Inv X pins σ H s->zo x v->zo y u->t x y H Q ->
   wpAny (model X.prog X.w) X.A (inplaceOp op v u) (EP X pins σ Q) X.xe s
section
variable {X:Cx}{pos:Pos}
noncomputable def ze7 (i:Nat):TG:=fun v σ H Q=>Q (σ.set i (some v)) H
theorem zkt {i:Nat}{x:Str} (hN:X.N.Nodup) (hi:X.N[i]?=some x) (hx:Loc X.env.scope x) (hf:X.fn x=true∨X.env.scope.names.lookup x=some .local:=by first | exact .inl rfl | exact .inr rfl | assumption):PG X (.Name x pos) (ze7 i):=by
 intro pins s σ H v u Q I r h
 exact wpAny_assign_Name (zez I hN hi hx r (fun s' I'=>⟨_,H,I',h⟩) hf)
noncomputable def zpB:TGs:=fun vs σ H Q=>vs=[]∧Q σ H
noncomputable def zrR (t:TG) (u:TGs):TGs:=fun vs σ H Q=>∃ v r,vs=v :: r∧t v σ H fun σ' H'=>u r σ' H' Q
theorem zqi:PGs X [] zpB:=by
 intro pins s σ H vs us Q I r h
 obtain ⟨e,h⟩:=h
 subst e
 cases r
 exact assignInOrder_nil ⟨σ,H,I,h⟩
theorem zr4 {e:Expr}{es:List Expr}{t:TG}{u:TGs} (h1:PG X e t) (h2:PGs X es u)
   (hs:(assignEach (e :: es) X.env).map (·.2)=assign e X.env :: (assignEach es X.env).map (·.2):=by rfl):PGs X (e :: es) (zrR t u):=by
 intro pins s σ H vs us Q I r h
 obtain ⟨v,vr,e1,h⟩:=h
 subst e1
 cases r with
 | cons r rr =>
   rw [hs]
   refine assignInOrder_cons (thn (h1 pins s σ H _ _ _ I r h) fun _ s1 ⟨σ1,H1,I1,q1⟩=>?_)
   exact h2 pins s1 σ1 H1 _ _ Q I1 rr q1
noncomputable def zsn (K:PySem.W.Frag) (n:Nat) (t:TGs):TG:=fun v σ H Q=>∃ a xs,v = .ref a∧SqT K H a xs∧xs.length=n∧t xs σ H Q
theorem zs3 {es:List Expr}{k:Nat}{t:TGs}{n:Nat} (hc:X.calm=true) (h:PGs X es t)
   (hn:(assignEach es X.env).length=n:=by rfl) (hst:(assignEach es X.env).findIdx? (·.1)=none:=by rfl):PG X (.Tuple es k pos) (zsn X.K n t):=by
 intro pins s σ H v u Q I r hw
 obtain ⟨a,xs,e1,hq,hl,hw⟩:=hw
 subst e1
 cases r
 obtain ⟨its,rv,ht,hz⟩:=I.tuple hq
 refine assign_Tuple_tuple (I.ok.hd hc) ht (by simp [hn,<- hl,rv.length]) hst fun h' hx=>?_
 have I1:Inv X pins σ H { s with heap:=h' }:=I.kept (t':=s.toks) fun b o e=>hx b o (Nat.ne_of_lt (Heap.lt_size e)) e
 exact h pins _ σ H xs _ Q I1 (by simpa using rv) hw
noncomputable def zr6 (to ti:TE) (t:zha):TG:=fun v σ H Q=>to σ H fun o H1=>ti σ H1 fun i H2=>t o i v H2 fun H3=>Q σ H3
theorem zp9 {o i:Expr}{to ti:TE}{t:zha} (ho:PE X o to) (hi:PE X i ti) (hs:zgd X t)
   (ha:∀ v,assign (.Subscript o i pos) X.env v=(do
     let ov <- holding [v] (eval o X.env)
     let iv <- holding [v,ov] (eval i X.env)
     standAt pos
     holding [v,ov,iv] (setItem ov iv v)
     release [v,ov,iv] []):=by intro _;rfl):PG X (.Subscript o i pos) (zr6 to ti t):=by
 intro pins s σ H v u Q I r h
 rw [ha]
 refine wpAny_bind (wpAny_holding (thn (ho pins s σ H _ I h) fun ov s1 ⟨x,H1,I1,r1,q1⟩=>?_))
 refine wpAny_bind (wpAny_holding (thn (hi pins s1 σ H1 _ I1 q1) fun iv s2 ⟨y,H2,I2,r2,q2⟩=>?_))
 refine wpAny_bind (wpAny_standAt (wpAny_bind (wpAny_holding (thn (hs pins s2 σ H2 x y v ov iv u _ I2 r1 r2 r q2) fun _ s3 ⟨H3,I3,q3⟩=>?_))))
 exact wpAny_release ⟨σ,H3,I3,q3⟩
noncomputable def zgh (te:TE) (g:TG):TS:=fun D σ H=>te σ H fun x H1=>g x σ H1 D.nx
theorem zk2 {tg e:Expr}{te:TE}{g:TG} (he:PE X e te) (hg:PG X tg g) (hs:swapsWithSole [tg] e pos.line X.env=pure false:=by rfl) (hw:swappedStores [tg] e X.env=pure none:=by rfl)
   (h1:(assignEach [tg] X.env).map (·.2)=[assign tg X.env]:=by rfl):PS X (.Assign [tg] e pos) (zgh te g):=by
 intro pins s σ H D I h
 refine wpAny_Assign_stores (thn (he pins s σ H _ I h) fun v s1 ⟨x,H1,I1,r1,q1⟩=>?_) hs hw
 rw [h1]
 exact thn (hg pins s1 σ H1 x v _ I1 r1 q1) fun _ s2 q=>q
theorem zjA {i:Nat}{x:Str}{e:Expr}{te:TE}{pos':Pos} (hN:X.N.Nodup) (hi:X.N[i]?=some x) (hx:Loc X.env.scope x) (he:PE X e te) (hs:swapsWith e (some (.Name x pos')) pos.line X.env=pure false:=by rfl) (hf:X.fn x=true∨X.env.scope.names.lookup x=some .local:=by first | exact .inl rfl | exact .inr rfl | assumption) :
   PS X (.Assign [.Name x pos'] e pos) (zgh te (ze7 i)):=by
 intro pins s σ H D I h
 refine wpAny_Assign_Name (thn (he pins s σ H _ I h) fun v s1 ⟨y,H1,I1,r1,q1⟩=>?_) hs
 exact zez I1 hN hi hx r1 (fun s2 I2=>⟨_,H1,I2,q1⟩) hf
noncomputable def zuV (i j:Nat) (ta:TA):TS:=fun D σ H=>ta σ H fun vs H1=>∃ v w,vs=[v,w]∧D.nx ((σ.set i (some v)).set j (some w)) H1
theorem zuC {i j:Nat}{x y:Str}{a b:Expr}{ta:TA}{px py pt:Pos}{kt k2 pt2} (hc:X.calm=true) (hN:X.N.Nodup) (hi:X.N[i]?=some x) (hj:X.N[j]?=some y) (hij:i≠j)
   (hx:X.env.scope.names.lookup x=some .local) (hy:X.env.scope.names.lookup y=some .local) (ha:PA X [a,b] ta)
   (hw:swappedStores [.Tuple [.Name x px,.Name y py] kt pt] (.Tuple [a,b] k2 pt2) X.env=pure (some [x,y]))
   (hs:swapsWithSole [.Tuple [.Name x px,.Name y py] kt pt] (.Tuple [a,b] k2 pt2) pos.line X.env=pure false:=by rfl) :
   PS X (.Assign [.Tuple [.Name x px,.Name y py] kt pt] (.Tuple [a,b] k2 pt2) pos) (zuV i j ta):=by
 intro pins s σ H D I h
 rw [exec_Assign_arm]
 refine wpAny_bind (wpAny_standAt ?_)
 rw [hs]
 refine wpAny_bind (wpAny_pure ?_)
 rw [if_neg ϑ]
 refine wpAny_bind (Tuple_ (thn (ha _ pins s σ H _ I h) fun us s1 ⟨vs,H1,I1,r1,q1⟩=>?_))
 obtain ⟨v,w,e1,q1⟩:=q1
 subst e1
 obtain ⟨u1,u2,rfl,rv,rw'⟩:∃ u1 u2,us=[u1,u2]∧zo v u1∧zo w u2:=by
   cases r1 with
   | cons p q =>
     cases q with
     | cons p' q' =>
       cases q'
       exact ⟨_,_,rfl,p,p'⟩
 refine wpAny_newObj_type ?_ (by show 2<=sizeLine;decide)
 have I2:Inv X pins σ H1 { s1 with heap:=s1.heap.push { cls := .type "tuple",data := .seq [u1,u2].toArray } }:=I1.kept (t':=s1.toks) fun b o e=>Heap.get?_push_of_some _ e
 rw [hw]
 refine wpAny_bind (wpAny_pure ?_)
 show wpAny (model X.prog X.w) X.A (do rule "assign.swapped-stores";let items <- unpackItems (.ref s1.heap.objs.size) 2 none;assignInOrder [fun v=>bindName X.env y v,fun v=>bindName X.env x v] items.reverse;pure Flow.next) _ _ _
 refine wpAny_bind (wpAny_rule (wpAny_bind (unpackItems_tuple (items:=#[u1,u2]) (I.ok.hd hc) (IsTup.new s1.heap _) fun h' hx'=>?_)))
 have I3:=I2.kept (h':=h') (t':=s1.toks) fun b o e=>hx' b o (Nat.ne_of_lt (Heap.lt_size e)) e
 show wpAny _ _ (assignInOrder [fun v=>bindName X.env y v,fun v=>bindName X.env x v] [u2,u1] >>= fun _=>pure Flow.next) _ _ _
 refine wpAny_bind (assignInOrder_cons (wpAny_bindName (zez I3 hN hj (.inl hy) rw' (fun s2 I4=>?_) (.inr hy))))
 refine assignInOrder_cons (wpAny_bindName (zez I4 hN hi (.inl hx) rv (fun s3 I5=>assignInOrder_nil (wpAny_pure ?_)) (.inr hx)))
 rw [List.set_comm _ _ (Ne.symm hij)]at I5
 exact ⟨_,H1,I5,q1⟩
noncomputable def zqc (i:Nat) (te:TE) (ti:TIp):TS:=fun D σ H=>∃ x,σ[i]?=some (some x)∧te σ H fun y H1=>ti x y H1 fun z H2=>D.nx (σ.set i (some z)) H2
theorem zuA {i:Nat}{x:Str}{e:Expr}{te:TE}{op:Operator}{ti:TIp}{pos':Pos} (hN:X.N.Nodup) (hi:X.N[i]?=some x) (hx:Loc X.env.scope x) (he:PE X e te) (ho:PIp X op ti) (hf:X.fn x=true∨X.env.scope.names.lookup x=some .local:=by first | exact .inl rfl | exact .inr rfl | assumption) :
   PS X (.AugAssign (.Name x pos') op e pos) (zqc i te ti):=by
 intro pins s σ H D I h
 obtain ⟨v,e1,h⟩:=h
 obtain ⟨m,hn,hl⟩:=I.loc
 have vis:Vis X.env.scope x:=by rcases hx with k | k;exact .inl k;exact .inr (.inl k)
 obtain ⟨u,r,l⟩:=hl i x v hi e1 vis
 refine wpAny_AugAssign_Name ?_
 have go:wpAny (model X.prog X.w) X.A (eval e X.env) (fun w s₂=>wpAny (model X.prog X.w) X.A (inplaceOp op u w) (fun r s₃=>wpAny (model X.prog X.w) X.A (storeName X.env x r) (fun _=>SP X pins D .next) X.xe s₃) X.xe s₂) X.xe s:=by
   refine thn (he pins s σ H _ I h) fun w s1 ⟨y,H1,I1,r1,q1⟩=>?_
   refine thn (ho pins s1 σ H1 v y u w _ I1 r r1 q1) fun z s2 ⟨zv,H2,I2,r2,q2⟩=>?_
   exact zez I2 hN hi hx r2 (fun s3 I3=>⟨_,H2,I3,q2⟩) hf
 rcases l with ⟨hk,hm⟩ | ⟨hk,c,hc,hcell⟩
 . exact wpAny_loadName_local I.ok.kind hk hn hm go
 . rcases hk with hk | hk
   . exact wpAny_loadName_cell I.ok.kind hk hc hcell go
   . rcases hx with k | k
     . have:X.env.scope.names.lookup x=some .free:=hk
       rw [k]at this;cases this
     . have:X.env.scope.names.lookup x=some .free:=hk
       rw [k]at this;cases this
end
section
variable {X:Cx}{pos:Pos}
noncomputable def zqG (c:TT) (tb:TS):TS:=fun D σ H=>∃ W:Nat->St->Hp->Prop,(∃ m,W m σ H)∧∀ m σ H,W m σ H ->
 c σ H fun b H1=>if b=true then ∃ N:St->Hp->Prop,(∀ σ' H',N σ' H'->∃ m',m' < m∧W m' σ' H')∧tb { D with nx:=N,ct:=N,bk:=D.nx } σ H1 else D.nx σ H1
theorem zsl {c:Expr}{body:List Stmt}{tc:TT}{tb:TS} (hp:PassesOwn (model X.prog X.w) X.A X.env X.xe) (hc:PT X c tc) (hb:PSs X body tb):PS X (.While c body [] pos) (zqG tc tb):=by
 intro pins s σ H D I h
 obtain ⟨W,⟨m0,w0⟩,turn⟩:=h
 refine wpAny_While (codeAny_whileLoop (fun n s'=>∃ σ' H',Inv X pins σ' H' s'∧W n σ' H') ?_ m0 ⟨σ,H,I,w0⟩)
 rintro n s1 ⟨σ1,H1,I1,w1⟩
 refine wpAny_passesOwn hp (thn (hc pins s1 σ1 H1 _ I1 (turn n σ1 H1 w1)) fun b s2 ⟨H2,I2,q2⟩=>?_)
 cases b with
 | true =>
   obtain ⟨N,hN,q2⟩:=q2
   rw [if_pos rfl]
   refine wpAny_passesOwn hp (thn (hb pins s2 σ1 H2 _ I2 q2) fun f s3 q3=>?_)
   cases f with
   | next =>
     obtain ⟨σ3,H3,I3,n3⟩:=q3
     obtain ⟨m',hm,w3⟩:=hN σ3 H3 n3
     exact ⟨m',hm,σ3,H3,I3,w3⟩
   | cont =>
     obtain ⟨σ3,H3,I3,n3⟩:=q3
     obtain ⟨m',hm,w3⟩:=hN σ3 H3 n3
     exact ⟨m',hm,σ3,H3,I3,w3⟩
   | brk=>exact q3
   | ret v=>exact q3
 | false =>
   rw [if_neg Bool.false_ne_true]
   exact wpAny_execs_nil ⟨σ1,H2,I2,q2⟩
end
structure It where
 go:Nat->Hp->Prop
 yld:Nat->Hp->V->Hp->Prop
 stop:Nat->Hp->Prop
noncomputable def zco (X:Cx) (pins:List (Addr×Obj)) (H:Hp) (b:Addr):Prop :=
 H b=none∧b≠X.env.locals∧b∉X.fs∧(b∈X.ex∨X.s₀.heap.objs.size<=b)∧(∀ x c,X.env.cells.lookup x=some c->c≠b)∧∀ p∈X.pn++pins,p.1≠b
theorem Inv.fpOk {X:Cx}{pins:List (Addr×Obj)}{σ:St}{H H':Hp}{s:Shared}{b:Addr} (I:Inv X pins σ H s) (hb:s.heap.objs.size<=b) (hn:H' b=none):zco X pins H' b:=by
 refine ⟨hn,Nat.ne_of_gt (Nat.lt_of_lt_of_le I.lt hb),I.nofs hb,.inr (Nat.le_trans I.sz hb),fun x c e z=>?_,fun p hp z=>?_⟩
 . obtain ⟨v,q⟩:=I.cell x c e
   exact absurd (Nat.lt_of_lt_of_le q.lt (by rw [z];exact hb)) (Nat.lt_irrefl _)
 . exact absurd (Nat.lt_of_lt_of_le (Heap.lt_size (I.pin p hp).1) (by rw [z];exact hb)) (Nat.lt_irrefl _)
structure zem (P:Program) (w:World) (K:PySem.W.Frag) (tg:Expr) (J:It) (fp:List Addr) (it:Addr) (tn:Nat->Heap->Prop):Prop where
 mem:it∈fp
 obj:∀ i h,tn i h->∀ b∈fp,∃ o,h.get? b=some o∧∀ v,o.data ≠ .cell v
 keep:∀ i h h',tn i h->(∀ b∈fp,∀ o,h.get? b=some o->h'.get? b=some o)->tn i h'
 item:∀ (X:Cx),X.prog=P->X.w=w->X.K=K->X.calm=true->∀ (i:Nat) (pins:List (Addr×Obj)) (s:Shared) (σ:St) (H:Hp) (E:Value->Shared->Prop),Inv X pins σ H s->(∀ b∈fp,zco X pins H b)->tn i s.heap->J.go i H ->
   wpAny (model P w) X.A (pyNext (.ref it)) (fun r s1=>∃ u,r=some u ∧
     wpAny (model P w) X.A (letOwnedTupleGo tg (.ref it) u) (fun _ s2=>∃ x H',Inv X pins σ H' s2∧zo x u∧J.yld i H x H'∧tn (i+1) s2.heap∧∀ b∈fp,H' b=none) E s1) E s
 done:∀ (X:Cx),X.prog=P->X.w=w->X.K=K->X.calm=true->∀ (i:Nat) (pins:List (Addr×Obj)) (s:Shared) (σ:St) (H:Hp) (E:Value->Shared->Prop),Inv X pins σ H s->(∀ b∈fp,zco X pins H b)->tn i s.heap->J.stop i H ->
   wpAny (model P w) X.A (pyNext (.ref it)) (fun r s1=>r=none∧Inv X pins σ H s1) E s
 self:∀ (A:Around) (i:Nat) (s:Shared) (Q:Value->Shared->Prop) (E:Value->Shared->Prop),tn i s.heap->Q (.ref it) s->wpAny (model P w) A (pyIter (.ref it)) Q E s
noncomputable abbrev TI:=St->Hp->(It->Hp->Prop)->Prop
noncomputable def PIE (X:Cx) (pins:List (Addr×Obj)) (σ:St) (tg:Expr) (R:It->Hp->Prop) (itv:Value) (s2:Shared):Prop :=
 ∃ (it:Addr) (fp:List Addr) (tn:Nat->Heap->Prop) (J:It) (H':Hp),itv = .ref it∧Inv X pins σ H' s2∧zem X.prog X.w X.K tg J fp it tn∧tn 0 s2.heap∧(∀ b∈fp,zco X pins H' b)∧R J H'
noncomputable def PI (X:Cx) (tg iter:Expr) (wi:TI):Prop :=
 ∀ (pins:List (Addr×Obj)) (s:Shared) (σ:St) (H:Hp) (R:It->Hp->Prop),Inv X pins σ H s->wi σ H R ->
   wpAny (model X.prog X.w) X.A (eval iter X.env) (fun v s1=>wpAny (model X.prog X.w) X.A (pyIter v) (PIE X pins σ tg R) X.xe s1) X.xe s
theorem zjj {M:Model}{A:Around}{E:Value->Shared->Prop}{s:Shared}{tg:Expr}{it:Addr}{u:Value}{o:Obj}{n:String}{vs:Array Value}{Q:Unit->Shared->Prop} (ho:s.heap.get? it=some o) (hc:o.cls = .type n) (hd:o.data = .fields vs)
   (hn:["enumerate", "zip", "dict_itemiterator", "dict_reverseitemiterator", "odict_iterator", "itertools.zip_longest", "itertools.pairwise"].contains n=false) (hQ:Q () s):wpAny M A (letOwnedTupleGo tg (.ref it) u) Q E s:=by
 unfold letOwnedTupleGo
 cases tg <;> first
   | exact wpAny_pure hQ
   | (cases u <;> first
       | exact wpAny_pure hQ
       | (refine wpAny_bind (wpAny_load ho ?_)
          rw [hc,hd]
          show wpAny M A (if (["enumerate", "zip", "dict_itemiterator", "dict_reverseitemiterator", "odict_iterator", "itertools.zip_longest", "itertools.pairwise"].contains n && vs[0]? == some (rawInt _))=true then _ else _) Q E s
          rw [if_neg (by intro h;rw [hn,Bool.false_and]at h;cases h)]
          exact wpAny_pure hQ))
noncomputable def Itl (K:PySem.W.Frag) (a:Addr):It :=
 ⟨fun i H=>∃ xs x,SqL K H a xs∧xs[i]?=some x,fun i H x H'=>H'=H∧∀ xs,SqL K H a xs->xs[i]?=some x,fun i H=>∃ xs,SqL K H a xs∧xs.length<=i⟩
noncomputable def Itr (lo:Int) (n:Nat):It:=⟨fun i _=>i < n,fun i H x H'=>H'=H∧x = .int (lo+i),fun i _=>n<=i⟩
theorem zqY {P:Program}{w:World}{K:PySem.W.Frag}{tg:Expr} (a it:Addr):zem P w K tg (Itl K a) [it] it (fun i h=>h.IsListIter it a i) where
 mem:=by simp
 obj:=fun i h st b hb=>by
   have e:b=it:=by simpa using hb
   subst e
   obtain ⟨o,e,c,d⟩:=st
   exact ⟨o,e,fun v z=>by rw [d]at z;cases z⟩
 keep:=fun i h h' st k=>st.at fun o e=>k it ς o e
 item:=by
   intro X hP hw hK hc i pins s σ H E I hf st hg
   subst hP hw hK
   obtain ⟨xs,x,hq,hx⟩:=hg
   obtain ⟨its,rv,p,hz⟩:=I.list hq
   obtain ⟨u,hu,ru⟩:=rv.get hx
   obtain ⟨f0,f1,f2,f3,f4,f5⟩:=hf it ς
   refine wpAny_pyNext_list_item st p.isList (x:=u) (by simpa using hu) fun h' st' sb=>?_
   have I1:Inv X pins σ H { s with heap:=h' }:=I.turned (t':=s.toks) (fun b o hb e=>(sb.2 b hb).trans e) f0 f1 f3 f4 f5
   obtain ⟨o,e,c,d⟩:=id st'
   exact ⟨u,rfl,zjj (s:={ s with heap:=h' }) e c d ϑ ⟨x,H,I1,ru,⟨rfl,fun ys hy=>by rw [I.list_inj hy hq];exact hx⟩,st',fun b hb=>(hf b hb).1⟩⟩
 done:=by
   intro X hP hw hK hc i pins s σ H E I hf st hg
   subst hP hw hK
   obtain ⟨xs,hq,hx⟩:=hg
   obtain ⟨its,rv,p,hz⟩:=I.list hq
   obtain ⟨f0,f1,f2,f3,f4,f5⟩:=hf it ς
   have hl:=rv.length
   exact wpAny_pyNext_list_end (I.ok.hd hc) st p.isList (by simp;omega) fun h' eb=>⟨rfl,I.turned (t':=s.toks) (fun b o hb e=>eb b o hb e) f0 f1 f3 f4 f5⟩
 self:=fun _ _ _ _ _ st h=>wpAny_pyIter_listiter st h
theorem zqL {P:Program}{w:World}{K:PySem.W.Frag}{tg:Expr} (it:Addr) (lo:Int) (n:Nat):zem P w K tg (Itr lo n) [it] it (fun i h=>IsRangeIter h it (lo+(i:Nat) * 1) ((n:Int) - (i:Nat)) 1) where
 mem:=by simp
 obj:=fun i h st b hb=>by
   have e:b=it:=by simpa using hb
   subst e
   exact ⟨_,st,fun v z=>by
     have z':Data.fields _=Data.cell v:=z
     cases z'⟩
 keep:=fun i h h' st k=>k it ς _ st
 item:=by
   intro X hP hw hK hc i pins s σ H E I hf st hg
   subst hP hw hK
   obtain ⟨f0,f1,f2,f3,f4,f5⟩:=hf it ς
   have W:=Walks.range (prog:=X.prog) (w:=X.w) (I.ok.hd hc) it lo 1 n
   refine W.item i s _ _ hg st fun v h' tk hv st' kk=>?_
   obtain ⟨t,rfl⟩:=hv
   have I1:Inv X pins σ H { s with heap:=h',toks:=tk }:=I.turned (fun b o hb e=>kk b o (by simpa using hb) e) f0 f1 f3 f4 f5
   refine ⟨_,rfl,zjj (s:={ s with heap:=h',toks:=tk }) (n :="range_iterator") st' rfl rfl ϑ ⟨.int (lo+i),H,I1,⟨t,?_⟩,⟨rfl,rfl⟩,st',fun b hb=>(hf b hb).1⟩⟩
   rw [Int.mul_one]
 done:=by
   intro X hP hw hK hc i pins s σ H E I hf st hg
   subst hP hw hK
   obtain ⟨f0,f1,f2,f3,f4,f5⟩:=hf it ς
   exact wpAny_pyNext_range_end (I.ok.hd hc) st (by have:n<=i:=hg;omega) fun h' eb=>⟨rfl,I.turned (t':=s.toks) (fun b o hb e=>eb b o hb e) f0 f1 f3 f4 f5⟩
 self:=fun _ _ _ _ _ st h=>wpAny_pyIter_rangeiter st h
end L2
namespace L2
open PySem PySem.Spec PyProof.Rows
section
variable {X:Cx}{tg:Expr}
noncomputable def zsL (K:PySem.W.Frag) (tl:TE):TI:=fun σ H R=>tl σ H fun x H1=>∃ a,x = .ref a∧(∃ xs,SqL K H1 a xs)∧R (Itl K a) H1
theorem zqO {l:Expr}{tl:TE} (hl:PE X l tl):PI X tg l (zsL X.K tl):=by
 intro pins s σ H R I h
 refine thn (hl pins s σ H _ I h) fun v s1 ⟨x,H1,I1,r1,q1⟩=>?_
 obtain ⟨a,e,⟨xs,hq⟩,q⟩:=q1
 subst e
 cases r1
 obtain ⟨its,rv,p,hz⟩:=I1.list hq
 refine wpAny_pyIter_list p.isList ?_
 refine ⟨s1.heap.objs.size,[s1.heap.objs.size],_,_,H1,rfl,I1.kept (t':=s1.toks) fun b o e=>Heap.get?_push_of_some _ e,zqY a _,⟨_,Heap.get?_push_size _ rfl,rfl,rfl⟩,fun b hb=>?_,q⟩
 have e:b=s1.heap.objs.size:=by simpa using hb
 subst e
 exact I1.fpOk (Nat.le_refl _) (I1.hok.fresh (Nat.le_refl _))
theorem zqd {pins:List (Addr×Obj)}{σ:St}{H:Hp}{s:Shared}{R:It->Hp->Prop}{E:Value->Shared->Prop}{lo hi:Int}{t u v:Tok}{tk:Nat} (I:Inv X pins σ H s) (h1:-(2 ^ 62)<=lo) (h2:lo < 2 ^ 62) (h3:-(2 ^ 62)<=hi) (h4:hi < 2 ^ 62)
   (q:R (Itr lo (hi - lo).toNat) H):wpAny (model X.prog X.w) X.A (pyIter (.ref s.heap.objs.size)) (PIE X pins σ tg R) E { s with heap:=s.heap.push { cls := .type "range",data := .fields #[.int lo t,.int hi u,.int 1 v] },toks:=tk }:=by
 refine wpAny_pyIter_range (IsRange.new ..) (small_one h1 h2 h3 h4) ?_
 have I1:Inv X pins σ H { s with heap:=s.heap.push { cls := .type "range",data := .fields #[.int lo t,.int hi u,.int 1 v] },toks:=tk }:=I.kept fun b o e=>Heap.get?_push_of_some _ e
 refine ⟨(s.heap.push { cls := .type "range",data := .fields #[.int lo t,.int hi u,.int 1 v] }).objs.size,[(s.heap.push { cls := .type "range",data := .fields #[.int lo t,.int hi u,.int 1 v] }).objs.size],_,_,H,rfl,
   I1.kept (t':=tk) fun b o e=>Heap.get?_push_of_some _ e,zqL _ lo (hi - lo).toNat,?_,fun b hb=>?_,q⟩
 . have e1:lo+((0:Nat):Int) * 1=lo:=by simp
   have e2:(((hi - lo).toNat:Nat):Int) - ((0:Nat):Int)=Builtin.Range.rangeSize lo hi 1:=by rw [rangeSize_one];split <;> omega
   show IsRangeIter _ _ (lo+((0:Nat):Int) * 1) ((((hi - lo).toNat:Nat):Int) - ((0:Nat):Int)) 1
   rw [e1,e2]
   exact Heap.get?_push_size _ rfl
 . have e:b=(s.heap.push { cls := .type "range",data := .fields #[.int lo t,.int hi u,.int 1 v] }).objs.size:=by simpa using hb
   subst e
   exact I1.fpOk (Nat.le_refl _) (I1.hok.fresh (Nat.le_refl _))
noncomputable def zrz (ta:TA):TI:=fun σ H R=>ta σ H fun vs H1=>∃ j:Int,vs=[.int j]∧-(2 ^ 62)<=j∧j < 2 ^ 62∧R (Itr 0 j.toNat) H1
theorem zqS {a:Expr}{ta:TA}{p pos:Pos} (hg:Gl X "range") (hm:X.mg "range" = none) (ha:PA X [a] ta) (hs:starEach [a] X.env=[(false,eval a X.env)]:=by rfl):PI X tg (.Call (.Name "range" p) [a] [] pos) (zrz ta):=by
 intro pins s σ H R I h
 refine Call_ (zfh I hg hm boot_range (PyProof.Rows.callWith_type1 (thn (ha pos pins s σ H _ I h) fun us s1 ⟨vs,H1,I1,r1,q1⟩=>?_) hs rfl))
 obtain ⟨j,e,q1,q2,q⟩:=q1
 subst e
 cases r1 with
 | cons r rr =>
   cases rr
   obtain ⟨t,rfl⟩:=r
   exact call_range_1 (zqd I1 ω ω q1 q2 (by simpa using q))
noncomputable def zk6 (wi:TI) (g:TG) (tb:TS):TS:=fun D σ H=>wi σ H fun J H1=>∃ W:Nat->Nat->St->Hp->Prop,(∃ m,W 0 m σ H1)∧∀ i m σ H,W i m σ H ->
 (J.stop i H∧D.nx σ H)∨(J.go i H∧∃ N:St->Hp->Prop,(∀ σ' H',N σ' H'->∃ m',m' < m∧W (i+1) m' σ' H')∧∀ x H',J.yld i H x H'->g x σ H' fun σ2 H2=>tb { D with nx:=N,ct:=N,bk:=D.nx } σ2 H2)
noncomputable def zgl (fp:List Addr) (h:Heap):List (Addr×Obj):=fp.filterMap fun b=>(h.get? b).map fun o=>(b,o)
theorem zgc {fp:List Addr}{h:Heap}{b:Addr}{o:Obj} (hb:b∈fp) (e:h.get? b=some o):(b,o)∈zgl fp h:=List.mem_filterMap.mpr ⟨b,hb,by rw [e];rfl⟩
theorem ztn {fp:List Addr}{h:Heap}{p:Addr×Obj} (hp:p∈zgl fp h):p.1∈fp∧h.get? p.1=some p.2:=by
 obtain ⟨b,hb,e⟩:=List.mem_filterMap.mp hp
 cases q:h.get? b with
 | none=>rw [q]at e;cases e
 | some o =>
   rw [q]at e
   have e':(b,o)=p:=Option.some.inj e
   subst e'
   exact ⟨hb,q⟩
theorem Inv.pinned {pins:List (Addr×Obj)}{σ:St}{H:Hp}{s:Shared}{fp:List Addr} (I:Inv X pins σ H s) (hf:∀ b∈fp,zco X pins H b) (ho:∀ b∈fp,∃ o,s.heap.get? b=some o∧∀ v,o.data ≠ .cell v):Inv X (pins++zgl fp s.heap) σ H s :=
 I.pins_of fun p hp=>(List.mem_append.mp hp).elim (fun z=>I.pin p (List.mem_append_right _ z)) fun z=>by
   obtain ⟨hb,e⟩:=ztn z
   obtain ⟨f0,f1,f2,_⟩:=hf p.1 hb
   obtain ⟨o,e',d⟩:=ho p.1 hb
   rw [e]at e';cases e'
   exact ⟨e,f0,f1,f2,d⟩
theorem Inv.unpinned {pins pl:List (Addr×Obj)}{σ:St}{H:Hp}{s:Shared} (I:Inv X (pins++pl) σ H s):Inv X pins σ H s:=I.pins_of fun p hp=>I.pin p (List.mem_append_right _ (List.mem_append_left _ hp))
theorem zkp {iter:Expr}{body:List Stmt}{wi:TI}{g:TG}{tb:TS}{pos:Pos} (hp:PassesOwn (model X.prog X.w) X.A X.env X.xe) (hc:X.calm=true) (hi:PI X tg iter wi) (hg:PG X tg g) (hb:PSs X body tb)
   (hs:∀ x,foldedSetIterable iter X.env x=pure x:=by intro _;rfl):PS X (.For tg iter body [] pos) (zk6 wi g tb):=by
 intro pins s σ H D I h
 refine wpAny_For (thn (hi pins s σ H _ I h) fun v s1 h1=>thn h1 fun itv s2 h2=>?_) hs
 obtain ⟨it,fp,tn,J,H2,e,I2,T,st2,f2,W,⟨m0,w0⟩,turn⟩:=h2
 subst e
 have stat:∀ {H':Hp},(∀ b∈fp,H' b=none)->∀ b∈fp,zco X pins H' b:=fun hn b hb=>⟨hn b hb,(f2 b hb).2⟩
 refine codeAny_forLoop_any (fun n s'=>∃ i σ' H',Inv X pins σ' H' s'∧tn i s'.heap∧(∀ b∈fp,H' b=none)∧W i n σ' H') ?_ m0 ⟨0,σ,H2,I2,st2,fun b hb=>(f2 b hb).1,w0⟩
 rintro n s3 ⟨i,σ3,H3,I3,st3,fr3,w3⟩
 rcases turn i n σ3 H3 w3 with ⟨stop,qn⟩ | ⟨go,N,hN,step⟩
 . refine wpAny_passesOwn hp (thn (T.done X rfl rfl rfl hc i pins s3 σ3 H3 X.xe I3 (stat fr3) st3 stop) fun r s4 ⟨hr,I4⟩=>?_)
   subst hr
   exact wpAny_execs_nil ⟨σ3,H3,I4,qn⟩
 . refine wpAny_passesOwn hp (thn (T.item X rfl rfl rfl hc i pins s3 σ3 H3 X.xe I3 (stat fr3) st3 go) fun r s4 ⟨u,hr,h4⟩=>?_)
   subst hr
   refine wpAny_passesOwn hp (thn h4 fun _ s5 ⟨x,H5,I5,r5,y5,st5,fr5⟩=>?_)
   have I5':=I5.pinned (stat fr5) (T.obj _ _ st5)
   refine wpAny_passesOwn hp (thn (hg _ s5 σ3 H5 x u _ I5' r5 (step x H5 y5)) fun _ s6 ⟨σ6,H6,I6,q6⟩=>?_)
   refine wpAny_passesOwn hp (thn (hb _ s6 σ6 H6 _ I6 q6) fun f s7 q7=>?_)
   have again:∀ {σ7:St} {H7:Hp},Inv X (pins++zgl fp s5.heap) σ7 H7 s7->N σ7 H7->∃ m,m < n∧∃ i σ' H',Inv X pins σ' H' s7∧tn i s7.heap∧(∀ b∈fp,H' b=none)∧W i m σ' H':=fun {σ7 H7} I7 n7=>by
     obtain ⟨m',hm,w7⟩:=hN σ7 H7 n7
     refine ⟨m',hm,i+1,σ7,H7,I7.unpinned,T.keep _ _ _ st5 fun b hb o e=>(I7.pin (b,o) (List.mem_append_right _ (List.mem_append_right _ (zgc hb e)))).1,fun b hb=>?_,w7⟩
     obtain ⟨o,e,d⟩:=T.obj _ _ st5 b hb
     exact (I7.pin (b,o) (List.mem_append_right _ (List.mem_append_right _ (zgc hb e)))).2.1
   cases f with
   | next=>obtain ⟨σ7,H7,I7,n7⟩:=q7;exact again I7 n7
   | cont=>obtain ⟨σ7,H7,I7,n7⟩:=q7;exact again I7 n7
   | brk=>obtain ⟨σ7,H7,I7,q7⟩:=q7;exact ⟨σ7,H7,I7.unpinned,q7⟩
   | ret v=>obtain ⟨x7,σ7,H7,I7,r7,q7⟩:=q7;exact ⟨x7,σ7,H7,I7.unpinned,r7,q7⟩
end
end L2
namespace L2
open PySem PySem.Spec PyProof.Rows
noncomputable abbrev R2:=V->V->Hp->VK->Prop
noncomputable def OpR (X:Cx) (f:Value->Value->Sem Value) (r:R2):Prop :=
 ∀ (pins:List (Addr×Obj)) (s:Shared) (σ:St) (H:Hp) (x y:V) (v u:Value) (Q:VK),Inv X pins σ H s->zo x v->zo y u->r x y H Q ->
   wpAny (model X.prog X.w) X.A (f v u) (EP X pins σ Q) X.xe s
noncomputable def UnR (X:Cx) (f:Value->Sem Value) (r:V->Hp->VK->Prop):Prop :=
 ∀ (pins:List (Addr×Obj)) (s:Shared) (σ:St) (H:Hp) (x:V) (v:Value) (Q:VK),Inv X pins σ H s->zo x v->r x H Q ->
   wpAny (model X.prog X.w) X.A (f v) (EP X pins σ Q) X.xe s
noncomputable def zdk (X:Cx) (f:Value) (r:List V->Hp->VK->Prop):Prop :=
 ∀ (pins:List (Addr×Obj)) (s:Shared) (σ:St) (H:Hp) (xs:List V) (us:List Value) (Q:VK),Inv X pins σ H s->zr xs us->r xs H Q ->
   wpAny (model X.prog X.w) X.A (call f us) (EP X pins σ Q) X.xe s
noncomputable def zqs (X:Cx) (r:V->Hp->(Bool->Hp->Prop)->Prop):Prop :=
 ∀ (pins:List (Addr×Obj)) (s:Shared) (σ:St) (H:Hp) (x:V) (v:Value) (Q:Bool->Hp->Prop),Inv X pins σ H s->zo x v->r x H Q ->
   wpAny (model X.prog X.w) X.A (truthy v) (TP X pins σ Q) X.xe s
noncomputable def tOp (r:R2) (ta tb:TE):TE:=fun σ H Q=>ta σ H fun x H1=>tb σ H1 fun y H2=>r x y H2 Q
noncomputable def tUn (r:V->Hp->VK->Prop) (ta:TE):TE:=fun σ H Q=>ta σ H fun x H1=>r x H1 Q
noncomputable def rI (C:Int->Int->Prop) (g:Int->Int->V):R2:=fun x y H Q=>∃ i j,x = .int i∧y = .int j∧C i j∧Q (g i j) H
noncomputable def rI0 (g:Int->Int->V):R2:=fun x y H Q=>∃ i j,x = .int i∧y = .int j∧Q (g i j) H
noncomputable def rU (g:Int->V):V->Hp->VK->Prop:=fun x H Q=>∃ i,x = .int i∧Q (g i) H
section
variable {X:Cx}{a b c:Expr}{ta tb tc:TE}{pos:Pos}
theorem ziQ (ha:PE X a ta) (hb:PE X b tb) {pins:List (Addr×Obj)}{s:Shared}{σ:St}{H:Hp}{R:V->V->Hp->Prop} (I:Inv X pins σ H s)
   (h:ta σ H fun x H1=>tb σ H1 fun y H2=>R x y H2) {Q:Value->Shared->Prop} {f:Value->Value->Sem Value}
   (hf:∀ v u s2 x y H2,Inv X pins σ H2 s2->zo x v->zo y u->R x y H2->wpAny (model X.prog X.w) X.A (f v u) Q X.xe s2) :
   wpAny (model X.prog X.w) X.A (eval a X.env) (fun v s₁=>wpAny (model X.prog X.w) X.A (eval b X.env) (fun u s₂=>wpAny (model X.prog X.w) X.A (f v u) Q X.xe s₂) X.xe s₁) X.xe s:=by
 refine thn (ha pins s σ H _ I h) fun v s1 ⟨x,H1,I1,r1,q1⟩=>?_
 refine thn (hb pins s1 σ H1 _ I1 q1) fun u s2 ⟨y,H2,I2,r2,q2⟩=>?_
 exact hf v u s2 x y H2 I2 r1 r2 q2
theorem zhJ {op:Operator}{r:R2} (ho:OpR X (binaryOp op) r) (ha:PE X a ta) (hb:PE X b tb):PE X (.BinOp a op b pos) (tOp r ta tb):=by
 intro pins s σ H Q I h
 exact wpAny_BinOp (ziQ ha hb I h fun v u s2 x y H2 I2 rx ry q=>ho pins s2 σ H2 x y v u Q I2 rx ry q)
theorem zjD {op:UnaryOp}{r:V->Hp->VK->Prop} (ho:UnR X (unaryOp op) r) (ha:PE X a ta):PE X (.UnaryOp op a pos) (tUn r ta):=by
 intro pins s σ H Q I h
 exact UnaryOp_ (thn (ha pins s σ H _ I h) fun v s1 ⟨x,H1,I1,r1,q1⟩=>ho pins s1 σ H1 x v Q I1 r1 q1)
theorem opI {f:Value->Value->Sem Value}{C:Int->Int->Prop}{g:Int->Int->Int}
   (rule:∀ (i j:Int) (t u:Tok) (s:Shared) (Q:Value->Shared->Prop) (E:Value->Shared->Prop),C i j->Q (.int (g i j) s.toks) { s with toks:=s.toks+1 }->wpAny (model X.prog X.w) X.A (f (.int i t) (.int j u)) Q E s) :
   OpR X f (rI C fun i j=> .int (g i j)):=by
 intro pins s σ H x y v u Q I rx ry h
 obtain ⟨i,j,rfl,rfl,hc,q⟩:=h
 obtain ⟨t,rfl⟩:=rx
 obtain ⟨t',rfl⟩:=ry
 exact rule i j t t' s _ _ hc ⟨.int (g i j),H,I.tok _,⟨_,rfl⟩,q⟩
theorem zi6 {f:Value->Value->Sem Value}{g:Int->Int->Int}
   (rule:∀ (i j:Int) (t u:Tok) (s:Shared) (Q:Value->Shared->Prop) (E:Value->Shared->Prop),Q (.int (g i j) s.toks) { s with toks:=s.toks+1 }->wpAny (model X.prog X.w) X.A (f (.int i t) (.int j u)) Q E s) :
   OpR X f (rI0 fun i j=> .int (g i j)):=by
 intro pins s σ H x y v u Q I rx ry h
 obtain ⟨i,j,rfl,rfl,q⟩:=h
 obtain ⟨t,rfl⟩:=rx
 obtain ⟨t',rfl⟩:=ry
 exact rule i j t t' s _ _ ⟨.int (g i j),H,I.tok _,⟨_,rfl⟩,q⟩
theorem zjz {f:Value->Value->Sem Value}{g:Int->Int->Bool}
   (rule:∀ (i j:Int) (t u:Tok) (s:Shared) (Q:Value->Shared->Prop) (E:Value->Shared->Prop),Q (.bool (g i j)) s->wpAny (model X.prog X.w) X.A (f (.int i t) (.int j u)) Q E s) :
   OpR X f (rI0 fun i j=> .bl (g i j)):=by
 intro pins s σ H x y v u Q I rx ry h
 obtain ⟨i,j,rfl,rfl,q⟩:=h
 obtain ⟨t,rfl⟩:=rx
 obtain ⟨t',rfl⟩:=ry
 exact rule i j t t' s _ _ ⟨.bl (g i j),H,I,rfl,q⟩
noncomputable def zlB (i j:Int):Prop:=0 < j∧j < 1073741824
noncomputable def zhb (i j:Int):Prop:=(-(2 ^ 64) < i∧i < 2 ^ 64)∨(-(2 ^ 64) < j∧j < 2 ^ 64)
theorem zhb.ok {i j:Int} (h:zhb i j):IntMulOk i j:=by
 rcases h with ⟨h1,h2⟩ | ⟨h1,h2⟩
 . exact .of_left (intBits_le_64 h1 h2)
 . exact .of_right (intBits_le_64 h1 h2)
theorem zpy:OpR X (binaryOp .Add) (rI0 fun i j=> .int (i+j)):=zi6 fun _ _ _ _ _ _ _ q=>add_int q
theorem zrm:OpR X (binaryOp .Sub) (rI0 fun i j=> .int (i - j)):=zi6 fun _ _ _ _ _ _ _ q=>sub_int q
theorem zse:OpR X (binaryOp .Mult) (rI zhb fun i j=> .int (i * j)):=opI fun _ _ _ _ _ _ _ hc q=>mul_int q hc.ok
theorem zpT:OpR X (binaryOp .FloorDiv) (rI zlB fun i j=> .int (i / j)):=opI fun i j _ _ _ _ _ hc q=>by
 have h1:(0:Int) < j:=hc.1
 have h2:j < 1073741824:=hc.2
 exact floordiv_int ω (by rw [Int.fdiv_eq_ediv_of_nonneg i ω];exact q) (.inl (PyProof.noPylong_small ω))
theorem zrL:OpR X (binaryOp .Mod) (rI (fun _ j=>0 < j) fun i j=> .int (i % j)):=opI fun i j _ _ _ _ _ hc q=>by
 have h1:(0:Int) < j:=hc
 exact mod_int' ω (by rw [Int.fmod_eq_emod_of_nonneg i ω];exact q)
theorem zrg:OpR X (inplaceOp .Add) (rI0 fun i j=> .int (i+j)):=zi6 fun _ _ _ _ _ _ _ q=>iadd_int q
theorem unI {f:Value->Sem Value}{g:Int->Int}
   (rule:∀ (i:Int) (t:Tok) (s:Shared) (Q:Value->Shared->Prop) (E:Value->Shared->Prop),Q (.int (g i) s.toks) { s with toks:=s.toks+1 }->wpAny (model X.prog X.w) X.A (f (.int i t)) Q E s) :
   UnR X f (rU fun i=> .int (g i)):=by
 intro pins s σ H x v Q I rx h
 obtain ⟨i,rfl,q⟩:=h
 obtain ⟨t,rfl⟩:=rx
 exact rule i t s _ _ ⟨.int (g i),H,I.tok _,⟨_,rfl⟩,q⟩
theorem zjm:UnR X (unaryOp .USub) (rU fun i=> .int (-i)):=unI fun _ _ _ _ _ q=>neg_int q
end
section
variable {X:Cx}{a b c:Expr}{ta tb tc:TE}{pos:Pos}
theorem zkK {pins:List (Addr×Obj)}{σ:St}{H:Hp}{s:Shared}{Q:VK}{k k':Bool} (I:Inv X pins σ H s) (q:Q (.bl k) H) (e:k=k'):EP X pins σ Q (.bool k') s:=by
 subst e
 exact ⟨.bl k,H,I,rfl,q⟩
theorem zrt:OpR X (compareOp .Lt) (rI0 fun i j=> .bl (decide (i < j))):=zjz fun _ _ _ _ _ _ _ q=>lt_int q
theorem zrG:OpR X (compareOp .LtE) (rI0 fun i j=> .bl (decide (i<=j))):=zjz fun _ _ _ _ _ _ _ q=>le_int q
theorem zta:OpR X (compareOp .Gt) (rI0 fun i j=> .bl (decide (j < i))):=zjz fun _ _ _ _ _ _ _ q=>gt_int q
theorem zs6:OpR X (compareOp .Is) (fun x y H Q=>y = .non∧Q (.bl (decide (x = .non))) H):=by
 intro pins s σ H x y v u Q I rx ry h
 obtain ⟨rfl,q⟩:=h
 cases ry
 refine is_none_gen (zkK I q ?_)
 cases x <;> first
   | (cases rx;rfl)
   | (obtain ⟨t,rfl⟩:=rx;rfl)
theorem zqX:OpR X (compareOp .IsNot) (fun x y H Q=>y = .non∧Q (.bl (!decide (x = .non))) H):=by
 intro pins s σ H x y v u Q I rx ry h
 obtain ⟨rfl,q⟩:=h
 cases ry
 refine isnot_none_gen (zkK I q ?_)
 cases x <;> first
   | (cases rx;rfl)
   | (obtain ⟨t,rfl⟩:=rx;rfl)
theorem OpR.or {f:Value->Value->Sem Value}{r r':R2} (h:OpR X f r) (h':OpR X f r'):OpR X f (fun x y H Q=>r x y H Q∨r' x y H Q):=by
 intro pins s σ H x y v u Q I rx ry q
 rcases q with q | q
 . exact h pins s σ H x y v u Q I rx ry q
 . exact h' pins s σ H x y v u Q I rx ry q
theorem zP (b:Expr) {op:CmpOp} (h:op ≠ .In:=by decide) (h2:op ≠ .NotIn:=by decide):behindInMarks op b=false:=by
 have e1:(op == CmpOp.In)=false:=by cases op <;> first | rfl | exact absurd rfl h
 have e2:(op == CmpOp.NotIn)=false:=by cases op <;> first | rfl | exact absurd rfl h2
 cases b <;> simp [behindInMarks,e1,e2]
theorem zuk {op:CmpOp}{r:R2} (ho:OpR X (compareOp op) r) (ha:PE X a ta) (hb:PE X b tb) (hm:behindInMarks op b=false):PE X (.Compare a [op] [b] pos) (tOp r ta tb):=by
 intro pins s σ H Q I h
 exact wpAny_Compare1 (ziQ ha hb I h fun v u s2 x y H2 I2 rx ry q=>ho pins s2 σ H2 x y v u Q I2 rx ry q) hm
noncomputable def zlz (t:TE):TT:=fun σ H Q=>t σ H fun x H'=>∃ k,x = .bl k∧Q k H'
theorem zuz {op:CmpOp}{r:R2} (ho:OpR X (compareOp op) r) (ha:PE X a ta) (hb:PE X b tb) (hm:behindInMarks op b=false):PT X (.Compare a [op] [b] pos) (zlz (tOp r ta tb)):=by
 intro pins s σ H Q I h
 refine wpAny_isTrue_Compare1 (thn (ha pins s σ H _ I h) fun v s1 ⟨x,H1,I1,r1,q1⟩=>thn (hb pins s1 σ H1 _ I1 q1) fun u s2 ⟨y,H2,I2,r2,q2⟩ =>
   thn (ho pins s2 σ H2 x y v u _ I2 r1 r2 q2) fun c s3 ⟨z,H3,I3,r3,k,e,q3⟩=>?_) hm
 subst e
 cases r3
 exact wpAny_truthy_bool ⟨H3,I3,q3⟩
noncomputable def ziW (r r':R2) (ta tb tc:TE):TE:=fun σ H Q=>ta σ H fun x H1=>tb σ H1 fun y H2=>r x y H2 fun z H3=>∃ k,z = .bl k ∧
 (if k=true then tc σ H3 fun w' H4=>r' y w' H4 Q else Q (.bl false) H3)
theorem ztD {op op':CmpOp}{r r':R2} (ho:OpR X (compareOp op) r) (ho':OpR X (compareOp op') r') (ha:PE X a ta) (hb:PE X b tb) (hc:PE X c tc)
   (hm:lastMarks [op,op'] [b,c]=false:=by with_unfolding_all rfl):PE X (.Compare a [op,op'] [b,c] pos) (ziW r r' ta tb tc):=by
 intro pins s σ H Q I h
 refine Compare_chain (thn (ha pins s σ H _ I h) fun v s1 ⟨x,H1,I1,r1,q1⟩=>chain_link (thn (hb pins s1 σ H1 _ I1 q1) fun u s2 ⟨y,H2,I2,r2,q2⟩ =>
   thn (ho pins s2 σ H2 x y v u _ I2 r1 r2 q2) fun d s3 ⟨z,H3,I3,r3,k,e,q3⟩=>?_)) hm
 subst e
 cases r3
 refine wpAny_truthy_bool ?_
 cases k with
 | false=>exact ite_ff ⟨.bl false,H3,I3,rfl,q3⟩
 | true=>exact ite_tt (chain_last (thn (hc pins s3 σ H3 _ I3 q3) fun w' s4 ⟨z',H4,I4,r4,q4⟩=>ho' pins s4 σ H4 y z' u w' Q I4 r2 r4 q4))
theorem zsM {op op':CmpOp}{r r':R2} (ho:OpR X (compareOp op) r) (ho':OpR X (compareOp op') r') (ha:PE X a ta) (hb:PE X b tb) (hc:PE X c tc)
   (hm:lastMarks [op,op'] [b,c]=false:=by with_unfolding_all rfl):PT X (.Compare a [op,op'] [b,c] pos) (zlz (ziW r r' ta tb tc)):=by
 intro pins s σ H Q I h
 refine isTrue_chain (thn (ha pins s σ H _ I h) fun v s1 ⟨x,H1,I1,r1,q1⟩=>test_link (thn (hb pins s1 σ H1 _ I1 q1) fun u s2 ⟨y,H2,I2,r2,q2⟩ =>
   thn (ho pins s2 σ H2 x y v u _ I2 r1 r2 q2) fun d s3 ⟨z,H3,I3,r3,k,e,q3⟩=>?_)) hm
 subst e
 cases r3
 refine wpAny_truthy_bool ?_
 cases k with
 | false =>
   obtain ⟨k',e',q'⟩:=q3
   cases e'
   exact ite_ff ⟨H3,I3,q'⟩
 | true =>
   refine ite_tt (test_last (thn (hc pins s3 σ H3 _ I3 q3) fun w' s4 ⟨z',H4,I4,r4,q4⟩=>thn (ho' pins s4 σ H4 y z' u w' _ I4 r2 r4 q4) fun d' s5 ⟨z2,H5,I5,r5,k2,e2,q5⟩=>?_))
   subst e2
   cases r5
   exact wpAny_truthy_bool ⟨H5,I5,q5⟩
noncomputable def zlU (K:PySem.W.Frag) (x:V) (H:Hp) (k:Bool):Prop :=
 match x with
 | .non=>k=false
 | .bl b=>k=b
 | .int i=>k=(i != 0)
 | .str y=>y.length<=sizeLine∧k=((y.length:Int) != 0)
 | .byt y=>y.size<=sizeLine∧k=((y.size:Int) != 0)
 | .ref p=>(∃ xs,SqL K H p xs∧k=!xs.isEmpty)∨(∃ xs,SqT K H p xs∧k=!xs.isEmpty)∨∃ kvs,H p=some (.dK kvs)∧k=!kvs.isEmpty
 | _=>False
theorem zpS {κ:Type}{kvs:List (κ×V)}{vs:List (κ×Value)} (r:KV kvs vs):(!vs.isEmpty)=!kvs.isEmpty:=by
 cases r <;> rfl
theorem zma {xs:List V}{its:List Value} (r:zr xs its):(!its.toArray.isEmpty)=!xs.isEmpty:=by
 cases r <;> simp
theorem zg0:(sizeLine:Nat) < 2 ^ 63:=by rw [sizeLine_eq];decide
theorem zrA:zqs X (fun x H Q=>∃ k,zlU X.K x H k∧Q k H):=by
 intro pins s σ H x v Q I rx h
 obtain ⟨k,e,q⟩:=h
 have hl:=zg0
 have hs:sizeLine=16777216:=sizeLine_eq
 cases x with
 | non =>
   cases rx
   have e':k=false:=e
   subst e'
   exact truthy_none ⟨H,I,q⟩
 | bl b =>
   cases rx
   have e':k=b:=e
   subst e'
   exact wpAny_truthy_bool ⟨H,I,q⟩
 | int i =>
   obtain ⟨t,rfl⟩:=rx
   have e':k=(i != 0):=e
   subst e'
   exact PySem.P.truthy_int ⟨H,I,q⟩
 | str y =>
   obtain ⟨t,rfl⟩:=rx
   obtain ⟨hy,e'⟩:y.length<=sizeLine∧k=((y.length:Int) != 0):=e
   subst e'
   exact PySem.P.truthy_str ω ⟨H,I.tok _,q⟩
 | byt y =>
   obtain ⟨t,rfl⟩:=rx
   obtain ⟨hy,e'⟩:y.size<=sizeLine∧k=((y.size:Int) != 0):=e
   subst e'
   exact PySem.W.truthy_bytes ω ⟨H,I.tok _,q⟩
 | ref p =>
   cases rx
   have e':(∃ xs,SqL X.K H p xs∧k=!xs.isEmpty)∨(∃ xs,SqT X.K H p xs∧k=!xs.isEmpty)∨∃ kvs,H p=some (.dK kvs)∧k=!kvs.isEmpty:=e
   rcases e' with ⟨xs,hx,e'⟩ | ⟨xs,hx,e'⟩ | ⟨kvs,hx,e'⟩
   . subst e'
     obtain ⟨its,r,pl,hz⟩:=I.list hx
     have hlen:=r.length
     exact wpAny_truthy_list pl.isList (by simp only [List.size_toArray];omega) ⟨H,I.tok _,by rw [zma r];exact q⟩
   . subst e'
     obtain ⟨its,r,pl,hz⟩:=I.tuple hx
     have hlen:=r.length
     exact truthy_tuple pl (by simp only [List.size_toArray];omega) ⟨H,I.tok _,by rw [zma r];exact q⟩
   . subst e'
     obtain ⟨hz,hS,vs,r,m⟩:kvs.length<=sizeLine∧(p == sysModules)=false∧∃ vs,KV kvs vs∧s.heap.DictOf (zby X.prog X.w) p vs:=I.hok p _ hx
     have hlen:kvs.length=vs.length:=Paired.length r
     exact wpAny_truthy_dict hS m ω ⟨H,I.tok _,by rw [zpS r];exact q⟩
 | _=>exact (show False from e).elim
theorem ztA (ha:PE X a ta) (he:∀ whole,isTrue a X.env whole=(do let v <- whole;standAt a.pos;holding [v] (truthy v))) :
   PT X a (fun σ H Q=>ta σ H fun x H'=>∃ k,zlU X.K x H' k∧Q k H'):=by
 intro pins s σ H Q I h
 exact isTrue_plain (thn (ha pins s σ H _ I h) fun v s1 ⟨x,H1,I1,r1,q1⟩=>zrA pins s1 σ H1 x v Q I1 r1 q1) (he _)
theorem zer {x:V}{us:List Value} (r:zr [x] us):∃ u,us=[u]∧zo x u:=by
 cases r with
 | cons r1 r2=>cases r2;exact ⟨_,rfl,r1⟩
theorem zjS {x y:V}{us:List Value} (r:zr [x,y] us):∃ u w',us=[u,w']∧zo x u∧zo y w':=by
 cases r with
 | cons r1 r2 =>
   cases r2 with
   | cons r3 r4=>cases r4;exact ⟨_,_,rfl,r1,r3⟩
theorem zs1:zdk X (.builtin "abs") (fun xs H Q=>∃ i,xs=[.int i]∧Q (.int (if i < 0 then -i else i)) H):=by
 intro pins s σ H xs us Q I r h
 obtain ⟨i,rfl,q⟩:=h
 obtain ⟨u,rfl,t,rfl⟩:=zer r
 exact call_abs_int fun u tk=>⟨.int (if i < 0 then -i else i),H,I.tok _,⟨_,rfl⟩,q⟩
end
end L2
namespace L2
open PySem PySem.Spec PyProof.Rows
structure zfa (h:Heap) (x dx C:Addr) (mA:Str->Option Value):Prop where
 obj:h.get? x=some (PySem.W.instObj C dx)
 ns:h.Ns1 dx mA
 ne:dx≠x
theorem zrP {h:Heap}{dx:Addr}{mA:Str->Option Value} (n:h.Ns1 dx mA):∃ od,h.get? dx=some od∧∀ name,PySem.W.lookIn name od=some (mA name):=by
 obtain ⟨o,es,ep,ho,hd,hk,_,hm⟩:=n
 refine ⟨o,ho,fun name=>?_⟩
 have e:=hm name
 unfold nsFind findBy at e
 rw [<- Array.find?_toList]at e
 unfold PySem.W.lookIn
 rw [hd]
 dsimp only
 split
 . rename_i y q
   rw [q]at e
   exact congrArg some e
 . rename_i q
   rw [q]at e
   have a:es.toList.any (·.refKey)=false:=by
     rw [List.any_eq_false]
     intro y hy
     obtain ⟨z,t,hkey⟩:=hk y (Array.mem_toList_iff.mp hy)
     simp [DictEntry.refKey,hkey]
   have a':¬ es.toList.any (·.refKey)=true:=by rw [a];exact Bool.false_ne_true
   rw [if_neg a']
   exact congrArg some e
theorem zfa.look {h:Heap}{x dx C:Addr}{mA:Str->Option Value} (I:zfa h x dx C mA):∃ od,PySem.W.InstAt h x (PySem.W.instObj C dx) C (some od)∧∀ name,PySem.W.lookIn name od=some (mA name) :=
 let ⟨od,ho,hl⟩:=zrP I.ns
 ⟨od,⟨I.obj,rfl,rfl,ho⟩,hl⟩
section
variable {prog:Program}{w:World}{A:Around}{E:Value->Shared->Prop}{s:Shared}{K:PySem.W.Frag}{x dx C f:Addr}{mA:Str->Option Value}{name:Str}{v:Value}
theorem zrK {expr:Bool}{Q:Value->Shared->Prop} (X:K.In s.heap) (I:zfa s.heap x dx C mA) (hg:PySem.W.plainGet K C name=true) (hh:PySem.W.hasDictIn K C=true)
   (ha:PySem.W.findIn K (.ref C) name=some none) (hv:mA name=some v) (hv':PySem.W.handedIn v=true) (h:Q v { s with toks:=s.toks+1 }) :
   wpAny (model prog w) A (getAttr (.ref x) name expr) Q E s:=by
 obtain ⟨od,J,hl⟩:=I.look
 exact PySem.W.get_value X J (PySem.W.plainGet_of hg).1 (PySem.W.findObj_own hh ha rfl (by rw [hl,hv])) hv' h
theorem zrQ {pl:Sem Bool}{Q:Value×List Value->Shared->Prop} (X:K.In s.heap) (I:zfa s.heap x dx C mA) (hg:PySem.W.plainGet K C name=true)
   (hf:PySem.W.findIn K (.ref C) name=some (some (.ref f))) (ht:PySem.W.isFn K (.ref f)=true) (hv:mA name=none) (h:Q (.ref f,[.ref x]) s) :
   wpAny (model prog w) A (getMethod (.ref x) name pl) Q E s:=by
 obtain ⟨od,J,hl⟩:=I.look
 exact PySem.W.method_fn X J (PySem.W.plainGet_of hg).1 (PySem.W.plainGet_of hg).2 hf (beq_iff_eq.mp ht) (by show (PySem.W.lookIn name od).map (·.isSome)=some false;rw [hl,hv];rfl) h
theorem zqB {ns:List Str}{Q:Unit->Shared->Prop} (X:K.In s.heap) (I:zfa s.heap x dx C mA)
   (hs:PySem.W.findIn K (.ref C) "__setattr__" = some (some (.builtin "object.__setattr__"))) (hp:PySem.W.plainOver K C=true) (ht:PySem.W.takerIn K C name=some none) (hh:PySem.W.hasDictIn K C=true)
   (hw:PySem.Within mA ns) (hsz:ns.length<=sizeLine)
   (h:∀ h',zfa h' x dx C (fun y=>if y=name then some v else mA y)->Heap.SameBut dx s.heap h'->Q () { s with heap:=h',toks:=s.toks+2 }) :
   wpAny (model prog w) A (setAttr (.ref x) name v) Q E s:=by
 obtain ⟨od,J,hl⟩:=I.look
 refine PySem.W.set_plain X J hs (PySem.W.osa_open (s:={ s with toks:=s.toks+1 }) (r:=none) X J hp ht fun b=>?_)
 obtain ⟨cd,hc,hd'⟩:=PySem.W.any_some hh
 have hx:s.heap.get? x=some ⟨.ref C,some dx,.plain,#[]⟩:=I.obj
 refine wpAny_bind (wpAny_pure (wpAny_bind (wpAny_bind (wpAny_loadPart hx (wpAny_bind (PySem.W.Looks.here (s:={ s with toks:=s.toks+1 }) (PySem.W.looks_clsIn X hc) ?_))))))
 rw [hd']
 refine wpAny_pure (a:=some dx) (wpAny_bind (wpAny_pure (wpAny_bind ?_)))
 refine wpAny_nsSet1 (s:={ s with toks:=s.toks+1 }) I.ns fun h' hn2 hs2=>?_
 obtain ⟨oD,esD,epD,hoD,hdD,hcD⟩:=hn2.count (PySem.Within.cons name v hw)
 refine wpAny_bind (wpAny_lookBehind hoD (by rw [hdD];exact pastItsLine_dict (Nat.le_trans hcD (by rw [List.length_cons];omega))) ?_)
 exact wpAny_pure (h _ ⟨(hs2.2 _ (Ne.symm I.ne)).trans I.obj,hn2,I.ne⟩ hs2)
theorem zrl {R:Result->Shared->Prop}{vs:List Value}{kw:List (Str×Value)} (X:K.In s.heap) (hm:PySem.W.makesIn K C=true)
   (hi:PySem.W.findIn K (.ref C) "__init__" = some (some (.ref f))) (hf:PySem.W.typeIn K (.ref f)=some (.type "function"))
   (h:codeAny (model prog w) (A.under (.builtin "type.__call__" ⟨.ref C :: vs,kw⟩)) (.call (.ref f) ⟨.ref (s.heap.objs.size+1) :: vs,kw⟩) (PySem.W.InitBack (s.heap.objs.size+1) R)
     { s with heap:=(s.heap.push PySem.W.emptyDict).push (PySem.W.instObj C s.heap.objs.size) }) :
   codeAny (model prog w) A (.call (.ref C) ⟨vs,kw⟩) R s:=by
 obtain ⟨hh,g,d,t,os⟩:=s
 exact PySem.W.make_core (PySem.W.makes_of X hm) (PySem.W.looks_findIn X hi) (fun self=>PySem.W.bind_fn X self hf) (.inl rfl) h
end
noncomputable def zb4 (f:Str) (v:V):List (Str×V)->List (Str×V)
 | []=>[(f,v)]
 | (g,x) :: r=>if g=f then (g,v) :: r else (g,x) :: zb4 f v r
theorem zkG (f g:Str) (v:V):∀ fs:List (Str×V),(zb4 f v fs).lookup g=if g=f then some v else fs.lookup g
 | []=>by
   show List.lookup g [(f,v)]=_
   by_cases h:g=f
   . have hb:(g == f)=true:=beq_iff_eq.mpr h
     simp only [List.lookup,hb,if_pos h]
   . have hb:(g == f)=false:=beq_eq_false_iff_ne.mpr h
     simp only [List.lookup,hb,if_neg h]
 | (k,x) :: r=>by
   have ih:=zkG f g v r
   rw [show zb4 f v ((k,x) :: r)=(if k=f then (k,v) :: r else (k,x) :: zb4 f v r) from rfl]
   by_cases hk:k=f
   . rw [if_pos hk]
     by_cases h:g=k
     . have hb:(g == k)=true:=beq_iff_eq.mpr h
       simp only [List.lookup,hb,if_pos (h.trans hk)]
     . have hb:(g == k)=false:=beq_eq_false_iff_ne.mpr h
       simp only [List.lookup,hb,if_neg (fun e:g=f=>h (e.trans hk.symm))]
   . rw [if_neg hk]
     by_cases h:g=k
     . have hb:(g == k)=true:=beq_iff_eq.mpr h
       simp only [List.lookup,hb,if_neg (fun e:g=f=>hk (h.symm.trans e))]
     . have hb:(g == k)=false:=beq_eq_false_iff_ne.mpr h
       simp only [List.lookup,hb]
       exact ih
theorem zjk (f:Str) (v:V):∀ fs:List (Str×V),f∈(zb4 f v fs).map (·.1)∧∀ g,g∈fs.map (·.1)->g∈(zb4 f v fs).map (·.1)
 | []=>⟨by simp [zb4],fun g h=>by simp at h⟩
 | (k,x) :: r=>by
   obtain ⟨i1,i2⟩:=zjk f v r
   rw [show zb4 f v ((k,x) :: r)=(if k=f then (k,v) :: r else (k,x) :: zb4 f v r) from rfl]
   by_cases hk:k=f
   . rw [if_pos hk]
     subst hk
     exact ⟨ς,fun g h=>by simpa using h⟩
   . rw [if_neg hk]
     refine ⟨?_,fun g h=>?_⟩
     . rw [List.map_cons]
       exact List.mem_cons_of_mem _ i1
     . rw [List.map_cons]at h ⊢
       rcases List.mem_cons.mp h with e | e
       . exact List.mem_cons.mpr (.inl e)
       . exact List.mem_cons_of_mem _ (i2 g e)
theorem zmc (f:Str) (v:V):∀ fs:List (Str×V),(zb4 f v fs).length<=fs.length+1
 | []=>by simp [zb4]
 | (k,x) :: r=>by
   have ih:=zmc f v r
   rw [show zb4 f v ((k,x) :: r)=(if k=f then (k,v) :: r else (k,x) :: zb4 f v r) from rfl]
   by_cases hk:k=f
   . rw [if_pos hk,List.length_cons,List.length_cons];omega
   . rw [if_neg hk,List.length_cons,List.length_cons];omega
theorem zcr.some_of {v:V}{o:Option Value} (r:zcr (some v) o):∃ u,o=some u∧zo v u:=by
 cases o with
 | none=>exact (show False from r).elim
 | some u=>exact ⟨u,rfl,r⟩
theorem zcr.none_of {o:Option Value} (r:zcr none o):o=none:=by
 cases o with
 | none=>rfl
 | some u=>exact (show False from r).elim
theorem zq7 {v:V}{u:Value} (r:zo v u):PySem.W.handedIn u=true:=by
 cases v with
 | non=>cases (show u=Value.none from r);rfl
 | bl b=>cases (show u=Value.bool b from r);rfl
 | int i=>obtain ⟨t,e⟩:=(show ∃ t,u=Value.int i t from r);cases e;rfl
 | str x=>obtain ⟨t,e⟩:=(show ∃ t,u=Value.str x t from r);cases e;rfl
 | byt b=>obtain ⟨t,e⟩:=(show ∃ t,u=Value.bytes b t from r);cases e;rfl
 | flt b=>obtain ⟨t,e⟩:=(show ∃ t,u=Value.float b t from r);cases e;rfl
 | ref a=>cases (show u=Value.ref a from r);rfl
 | ty n=>cases (show u=Value.type n from r);rfl
section
variable {P:Program}{w:World}{H H':Hp}{h h':Heap}{a C dx:Addr}{fs fs':List (Str×V)}
theorem zh7 (hok:HOk P w H h) (e:H a=some (.ins C dx fs)):∃ mA,zfa h a dx C mA∧(∀ f,zcr (fs.lookup f) (mA f))∧PySem.Within mA (fs.map (·.1))∧fs.length<=1000∧H dx=some (.own a):=by
 obtain ⟨d,z,ne,ob,mA,n,r,q⟩:=(show z8 P w H h a (.ins C dx fs) from hok a _ e)
 exact ⟨mA,⟨ob,n,ne⟩,r,q,z,d⟩
end
structure Cls (K:PySem.W.Frag) (C:Addr):Prop where
 pg:PySem.W.plainGet K C Str.empty=true
 hd:PySem.W.hasDictIn K C=true
 po:PySem.W.plainOver K C=true
 sa:PySem.W.findIn K (.ref C) "__setattr__" = some (some (.builtin "object.__setattr__"))
theorem Cls.get {K:PySem.W.Frag}{C:Addr} (c:Cls K C) (f:Str):PySem.W.plainGet K C f=true:=c.pg
noncomputable def zcB (K:PySem.W.Frag) (C:Addr) (f:Str):Prop:=PySem.W.findIn K (.ref C) f=some none
theorem zcB.taker {K:PySem.W.Frag}{C:Addr}{f:Str} (n:zcB K C f):PySem.W.takerIn K C f=some none:=by
 unfold PySem.W.takerIn
 rw [show PySem.W.findIn K (.ref C) f=some none from n]
 rfl
structure zeC (K:PySem.W.Frag) (C:Addr) (m:Str) (f:Addr):Prop where
 at_:PySem.W.findIn K (.ref C) m=some (some (.ref f))
 fn:PySem.W.isFn K (.ref f)=true
 kp:PySem.W.keepIn K (.ref f)=true
section
variable {X:Cx}{pins:List (Addr×Obj)}{σ:St}{H:Hp}{s:Shared}{a C dx:Addr}{fs:List (Str×V)}{f:Str}{v:V}{A:Around}{E:Value->Shared->Prop}
theorem ztU {b:Bool}{Q:Value->Shared->Prop} (I:Inv X pins σ H s) (e:H a=some (.ins C dx fs)) (c:Cls X.K C) (n:zcB X.K C f) (l:fs.lookup f=some v)
   (h:∀ u s',Inv X pins σ H s'->zo v u->Q u s'):wpAny (model X.prog X.w) A (getAttr (.ref a) f b) Q E s:=by
 obtain ⟨mA,O,r,_,_,_⟩:=zh7 I.hok e
 obtain ⟨u,hu,ru⟩:=zcr.some_of (v:=v) (o:=mA f) (by rw [<- l];exact r f)
 exact zrK I.kIn O (c.get f) c.hd n hu (zq7 ru) (h u _ (I.tok _) ru)
theorem zku {m:Str}{g:Addr}{pl:Sem Bool}{Q:Value×List Value->Shared->Prop} (I:Inv X pins σ H s) (e:H a=some (.ins C dx fs)) (c:Cls X.K C) (k:zeC X.K C m g) (l:fs.lookup m=none)
   (h:Q (.ref g,[.ref a]) s):wpAny (model X.prog X.w) A (getMethod (.ref a) m pl) Q E s:=by
 obtain ⟨mA,O,r,_,_,_⟩:=zh7 I.hok e
 have hn:mA m=none:=zcr.none_of (by rw [<- l];exact r m)
 exact zrQ I.kIn O (c.get m) k.at_ k.fn hn h
theorem zqE {y:V}{u:Value}{Q:Unit->Shared->Prop} (I:Inv X pins σ H s) (e:H a=some (.ins C dx fs)) (c:Cls X.K C) (n:zcB X.K C f) (hl:fs.length < 1000) (ry:zo y u)
   (h:∀ s',Inv X pins σ (upd H a (.ins C dx (zb4 f y fs))) s'->Q () s'):wpAny (model X.prog X.w) A (setAttr (.ref a) f u) Q E s:=by
 obtain ⟨mA,O,r,wi,_,ho⟩:=zh7 I.hok e
 have hz:(fs.map (·.1)).length<=sizeLine:=by rw [List.length_map,sizeLine_eq];omega
 refine zqB I.kIn O c.sa c.po n.taker c.hd wi hz fun h' O' sb=>h _ ?_
 have hd:∃ o,h'.get? dx=some o:=let ⟨o,_,_,e',_⟩:=O'.ns;⟨o,e'⟩
 refine I.write (x:=a) (e:=dx) (by rw [e];exact True.intro) (.inr ho) (fun b q hb z=>(sb.2 b hb).trans z) hd ?_
 refine ⟨by rw [zt O.ne];exact ho,?_,O.ne,O'.obj,_,O'.ns,fun g=>?_,fun g hg=>?_⟩
 . have:=zmc f y fs;omega
 . show zcr ((zb4 f y fs).lookup g) (if g=f then some u else mA g)
   rw [zkG]
   by_cases q:g=f
   . rw [if_pos q,if_pos q];exact ry
   . rw [if_neg q,if_neg q];exact r g
 . by_cases q:g=f
   . rw [q];exact (zjk f y fs).1
   . refine (zjk f y fs).2 g (wi g fun z=>hg ?_)
     show (if g=f then some u else mA g)=none
     rw [if_neg q];exact z
theorem Inv.made (I:Inv X pins σ H s):Inv X pins σ (upd (upd H s.heap.objs.size (.own (s.heap.objs.size+1))) (s.heap.objs.size+1) (.ins C s.heap.objs.size []))
   { s with heap:=(s.heap.push PySem.W.emptyDict).push (PySem.W.instObj C s.heap.objs.size) }:=by
 have e1:(s.heap.push PySem.W.emptyDict).get? s.heap.objs.size=some PySem.W.emptyDict:=Heap.get?_push_size s.heap rfl
 have e2:((s.heap.push PySem.W.emptyDict).push (PySem.W.instObj C s.heap.objs.size)).get? (s.heap.objs.size+1)=some (PySem.W.instObj C s.heap.objs.size):=by
   have:=Heap.get?_push_size (s.heap.push PySem.W.emptyDict) (o:=PySem.W.instObj C s.heap.objs.size) rfl
   rwa [Heap.size_push]at this
 have e3:(s.heap.push PySem.W.emptyDict).Ns s.heap.objs.size (fun _=>none):=⟨PySem.W.emptyDict,#[],_,e1,rfl,(fun e he=>absurd he ς),fun _=>rfl⟩
 have I1:=I.laid (a:=s.heap.objs.size) (o := .own (s.heap.objs.size+1)) (h':=s.heap.push PySem.W.emptyDict) (t':=s.toks) (fun b u q=>Heap.get?_push_of_some _ q) (Nat.le_refl _) ⟨_,e1⟩
 refine I1.laid (a:=s.heap.objs.size+1) (o := .ins C s.heap.objs.size []) (t':=s.toks) (fun b u q=>Heap.get?_push_of_some _ q) (Nat.le_of_eq (Heap.size_push _ _)) ?_
 have ne:s.heap.objs.size≠s.heap.objs.size+1:=Nat.ne_of_lt (Nat.lt_succ_self _)
 refine ⟨by rw [zt ne,zbc],Nat.zero_le _,ne,e2,fun _=>none,(Heap.Ns1.of_empty e3).at fun o q=>Heap.get?_push_of_some _ q,fun _=>True.intro,fun y hy=>absurd rfl hy⟩
theorem zqm {prog:Program}{w:World}{env:Env}{e:Expr}{f:Str}{pos:Pos}{s:Shared}{Q:Value->Shared->Prop} (hb:attributeBase e f env (eval e env)=eval e env)
   (h:wpAny (model prog w) A (eval e env) (fun o s₁=>wpAny (model prog w) A (getAttr o f true) Q E s₁) E s):wpAny (model prog w) A (eval (.Attribute e f pos) env) Q E s :=
 Attribute_any_ h (by rw [arm_eval_Attribute,hb])
end
noncomputable def zqW (K:PySem.W.Frag) (ta:TE) (f:Str):TE:=fun σ H Q=>ta σ H fun x H1=>∃ a C dx fs v,x = .ref a∧H1 a=some (.ins C dx fs)∧Cls K C∧zcB K C f∧fs.lookup f=some v∧Q v H1
noncomputable def zqp (K:PySem.W.Frag) (ta tv:TE) (f:Str):TS:=fun D σ H=>tv σ H fun y H1=>ta σ H1 fun x H2=>∃ a C dx fs,x = .ref a∧H2 a=some (.ins C dx fs)∧Cls K C∧zcB K C f∧fs.length < 1000 ∧
 D.nx σ (upd H2 a (.ins C dx (zb4 f y fs)))
section
variable {X:Cx}{o e value:Expr}{f:Str}{pos pos' tpos:Pos}{ta tv:TE}
theorem zq3 (he:PE X e ta) (hb:attributeBase e f X.env (eval e X.env)=eval e X.env):PE X (.Attribute e f pos) (zqW X.K ta f):=by
 intro pins s σ H Q I h
 refine zqm hb (thn (he pins s σ H _ I h) fun u s1 ⟨x,H1,I1,rx,a,C,dx,fs,v,ex,ea,c,n,l,q⟩=>?_)
 subst ex
 obtain rfl:u=Value.ref a:=rx
 exact ztU I1 ea c n l fun u' s2 I2 ru=>⟨v,H1,I2,ru,q⟩
theorem zri (ha:PE X o ta) (hv:PE X value tv) (hs:swapsWith value (some (.Attribute o f pos')) pos.line X.env=pure false):PS X (.Assign [.Attribute o f pos'] value pos) (zqp X.K ta tv f):=by
 intro pins s σ H D I h
 refine plainObj_wpAny_Assign_Attribute (thn (hv pins s σ H _ I h) fun u s1 ⟨y,H1,I1,ry,q⟩=>thn (ha pins s1 σ H1 _ I1 q) fun ov s2 ⟨x,H2,I2,rx,a,C,dx,fs,ex,ea,c,n,l,q2⟩=>?_) hs
 subst ex
 obtain rfl:ov=Value.ref a:=rx
 exact zqE I2 ea c n l ry fun s3 I3=>⟨σ,_,I3,q2⟩
end
section
variable {X:Cx}{pins:List (Addr×Obj)}{σ:St}{H:Hp}{s:Shared}{A:Around}{E:Value->Shared->Prop}{Q:Value->Shared->Prop}{c:Value}{b:Bool}
inductive zcR (K:PySem.W.Frag) (H:Hp):V->Value->Prop where
 | non:zcR K H .non (.type "NoneType")
 | bl (x:Bool):zcR K H (.bl x) (.type "bool")
 | int (i:Int):zcR K H (.int i) (.type "int")
 | str (x:Str):zcR K H (.str x) (.type "str")
 | flt (x:UInt64):zcR K H (.flt x) (.type "float")
 | lst {a:Addr} {xs:List V} (e:H a=some (.lst xs)):zcR K H (.ref a) (.type "list")
 | frz {a:Addr} {o:Obj} {xs:List V} (e:H a=some (.frz o (.lst xs))):zcR K H (.ref a) (.type "list")
 | tup {a:Addr} {xs:List V} (e:H a=some (.tup xs)):zcR K H (.ref a) (.type "tuple")
 | dK {a:Addr} {kvs:List (Key×V)} (e:H a=some (.dK kvs)):zcR K H (.ref a) (.type "dict")
 | dT {a:Addr} {kvs:List (List Key×V)} (e:H a=some (.dT kvs)):zcR K H (.ref a) (.type "dict")
 | ins {a C dx:Addr} {fs:List (Str×V)} (e:H a=some (.ins C dx fs)) (cl:Cls K C) (ha:PySem.W.findIn K (.ref C) "__class__" = some (some (.builtin "object.__class__")))
     (hn:PySem.W.specialIn K (.builtin "object.__class__") "__get__" = some (some (.builtin "getset_descriptor.__get__"))) (htk:PySem.W.takesIn K (.builtin "object.__class__")=some true)
     (hm:PySem.W.mroIn K C (.type "object")=some true):zcR K H (.ref a) (.ref C)
theorem zmk {x:V}{u t:Value} (I:Inv X pins σ H s) (rx:zo x u) (ty:zcR X.K H x t) (e:PySem.W.kitOne X.K t c=some b) (h:∀ tk,Q (.bool b) { s with toks:=tk }) :
   wpAny (model X.prog X.w) A (call (.builtin "isinstance") [u,c]) Q E s:=by
 cases ty with
 | non=>cases (show u=Value.none from rx);exact PySem.W.kia_one PySem.W.kitx_none I.kIn True.intro e (fun z=>nomatch z) h
 | bl y=>cases (show u=Value.bool y from rx);exact PySem.W.kia_one PySem.W.kitx_bool I.kIn True.intro e (fun z=>nomatch z) h
 | int i=>obtain ⟨t,q⟩:=(show ∃ t,u=Value.int i t from rx);cases q;exact PySem.W.kia_one PySem.W.kitx_int I.kIn True.intro e (fun z=>nomatch z) h
 | str y=>obtain ⟨t,q⟩:=(show ∃ t,u=Value.str y t from rx);cases q;exact PySem.W.kia_one PySem.W.kitx_str I.kIn True.intro e (fun z=>nomatch z) h
 | flt y=>obtain ⟨t,q⟩:=(show ∃ t,u=Value.float y t from rx);cases q;exact PySem.W.kia_one PySem.W.kitx_float I.kIn True.intro e (fun z=>nomatch z) h
 | @lst a xs ea =>
   cases (show u=Value.ref a from rx)
   obtain ⟨_,_,n,_,h1⟩:=(show z8 X.prog X.w H s.heap a (.lst xs) from I.hok a _ ea)
   exact PySem.W.kia_one PySem.W.kitx_list I.kIn ⟨_,h1,rfl⟩ e (fun z=>nomatch z) h
 | @frz a ob xs ea =>
   cases (show u=Value.ref a from rx)
   obtain ⟨_,_,_,n,_,h1⟩:=(show z8 X.prog X.w H s.heap a (.frz ob (.lst xs)) from I.hok a _ ea)
   exact PySem.W.kia_one PySem.W.kitx_list I.kIn ⟨_,h1,rfl⟩ e (fun z=>nomatch z) h
 | @tup a xs ea =>
   cases (show u=Value.ref a from rx)
   obtain ⟨_,_,_,p⟩:=(show z8 X.prog X.w H s.heap a (.tup xs) from I.hok a _ ea)
   obtain ⟨o,h1,h2,_⟩:=p
   exact PySem.W.kia_one PySem.W.kitx_tuple I.kIn ⟨o,h1,h2⟩ e (fun z=>nomatch z) h
 | @dK a kvs ea =>
   cases (show u=Value.ref a from rx)
   obtain ⟨_,_,vs,_,p⟩:=(show z8 X.prog X.w H s.heap a (.dK kvs) from I.hok a _ ea)
   obtain ⟨o,es,ep,h1,h2,_⟩:=p
   exact PySem.W.kia_one PySem.W.kitx_dict I.kIn ⟨o,h1,h2.1⟩ e (fun z=>nomatch z) h
 | @dT a kvs ea =>
   cases (show u=Value.ref a from rx)
   obtain ⟨_,_,xs,_,o,es,ep,h1,h2,_⟩:=(show z8 X.prog X.w H s.heap a (.dT kvs) from I.hok a _ ea)
   exact PySem.W.kia_one PySem.W.kitx_dict I.kIn ⟨o,h1,h2.1⟩ e (fun z=>nomatch z) h
 | @ins a C dx fs ea cl ha hn htk hm =>
   cases (show u=Value.ref a from rx)
   obtain ⟨mA,O,_⟩:=zh7 I.hok ea
   obtain ⟨od,J,_⟩:=O.look
   exact PySem.W.kia_one (PySem.W.kitx_own (cl.get _) cl.hd ha hn htk hm) I.kIn J e (fun z=>nomatch z) h
end
end L2
namespace L2
open PySem PySem.Spec PyProof.Rows
structure zO (k:Nat) (A:Around):Prop where
 hd:A.handled=none
 dp:A.depth+3 * k+5 < recursionLimit
 un:A.units+16 * k+200 < cLine
theorem zO.mono {j k:Nat}{A:Around} (r:zO k A) (h:j<=k):zO j A:=⟨r.hd,by have:=r.dp;omega,by have:=r.un;omega⟩
theorem zO.deeper {k:Nat}{A:Around} (r:zO (k+1) A) (env:Env):zO k (A.deeper env) :=
 ⟨r.hd,by have:=r.dp;show A.depth+1+3 * k+5 < _;omega,by have:=r.un;show A.units+3+16 * k+200 < _;omega⟩
theorem zun {A:Around}{C:Addr}{us:List Value}{kw:List (Str×Value)}:(A.under (.builtin "type.__call__" ⟨.ref C :: us,kw⟩)).depth=A.depth+1:=by
 first | rfl | simp [Around.under,Code.weight,Code.isCreation,Code.isGuard,Code.isCaller,Code.frames,Code.isFrame,guardIds]
theorem zt1 {A:Around}{C:Addr}{us:List Value}{kw:List (Str×Value)}:(A.under (.builtin "type.__call__" ⟨.ref C :: us,kw⟩)).units=A.units+1:=by
 first | rfl | simp [Around.under,Code.cUnits,Code.frames,Code.isFrame]
theorem zO.make {k:Nat}{A:Around} (r:zO (k+1) A) (C:Addr) (us:List Value) (kw:List (Str×Value)):zO k (A.under (.builtin "type.__call__" ⟨.ref C :: us,kw⟩)) :=
 ⟨r.hd,by have:=r.dp;rw [zun];omega,by have:=r.un;rw [zt1];omega⟩
theorem zO.depth {k:Nat}{A:Around} (r:zO k A):A.depth < recursionLimit:=by have:=r.dp;omega
theorem zO.units {k:Nat}{A:Around} (r:zO k A):A.units+64 < cLine:=by have:=r.un;omega
noncomputable def zf1:TA:=fun _ H Q=>Q [] H
noncomputable def zeD (ta:TE) (tr:TA):TA:=fun σ H Q=>ta σ H fun x H1=>tr σ H1 fun xs H2=>Q (x :: xs) H2
section
variable {X:Cx}{e:Expr}{es:List Expr}{te:TE}{t:TA}{pos:Pos}
theorem zce:PA X [] zf1:=fun _ _ _ _ H Q I h=>Calls.spliced_nil ⟨[],H,I,.nil,h⟩
theorem zbC (ha:PE X e te) (hr:PA X es t) (hs:starEach (e :: es) X.env=(false,eval e X.env) :: starEach es X.env:=by rfl):PA X (e :: es) (zeD te t):=by
 intro pos pins s σ H Q I h
 rw [hs]
 show wpAny _ _ (spliced ((false,eval e X.env) :: backTo pos (starEach es X.env))) _ _ s
 refine Calls.spliced_cons (thn (ha pins s σ H _ I h) fun u s1 ⟨x,H1,I1,r1,q1⟩=>?_)
 exact thn (hr pos pins s1 σ H1 _ I1 q1) fun us s2 ⟨xs,H2,I2,r2,q2⟩=>⟨x :: xs,H2,I2,.cons r1 r2,q2⟩
noncomputable def zsq (t:TA):TE:=fun σ H Q=>t σ H fun xs H1=>xs.length<=sizeLine∧∀ p,H1 p=none->Q (.ref p) (upd H1 p (.tup xs))
noncomputable def zii (t:TA):TE:=fun σ H Q=>t σ H fun xs H1=>xs.length<=sizeLine∧∀ p,H1 p=none->Q (.ref p) (upd H1 p (.lst xs))
theorem zsH {x1} (h:PA X es t):PE X (.Tuple es x1 pos) (zsq t):=by
 intro pins s σ H Q I hq
 refine wpAny_Tuple_spliced (thn (h pos pins s σ H _ I hq) fun us s1 ⟨xs,H1,I1,r,z,q⟩=>⟨by rw [<- r.length];exact z,?_⟩)
 have hf:H1 s1.heap.objs.size=none:=I1.hok.fresh (Nat.le_refl _)
 refine ⟨.ref s1.heap.objs.size,upd H1 s1.heap.objs.size (.tup xs),I1.laid (t':=s1.toks) (fun b u e=>Heap.get?_push_of_some _ e) (Nat.le_refl _) ?_,rfl,q _ hf⟩
 exact ⟨z,us,r,⟨_,Heap.get?_push_size _ rfl,rfl,_,rfl⟩⟩
theorem zjs (h:PA X es t):PE X (.List es pos) (zii t):=by
 intro pins s σ H Q I hq
 refine wpAny_List_spliced (thn (h pos pins s σ H _ I hq) fun us s1 ⟨xs,H1,I1,r,z,q⟩=>⟨by rw [<- r.length];exact z,?_⟩)
 have hf:H1 s1.heap.objs.size=none:=I1.hok.fresh (Nat.le_refl _)
 refine ⟨.ref s1.heap.objs.size,upd H1 s1.heap.objs.size (.lst xs),I1.laid (t':=s1.toks) (fun b u e=>Heap.get?_push_of_some _ e) (Nat.le_refl _) ?_,rfl,q _ hf⟩
 exact ⟨z,us,0,r,Heap.get?_push_size _ rfl⟩
end
noncomputable abbrev Sp:=List V->Hp->VK->XK->Prop
noncomputable abbrev CXT:=List Env->Hp->Shared->XK->Value->Shared->Prop
structure ze5 (P:Program) (w:World) (K:PySem.W.Frag) (mg:Str->Option Value) (base:Heap) (A:Around) (outer:List Env) (s:Shared) (H:Hp):Prop where
 frames:A.frames=some outer
 mod:Mod K mg base
 bs:∀ b o,base.get? b=some o->s.heap.get? b=some o∧H b=none
 bsz:base.objs.size<=s.heap.objs.size
 funs:s.heap.FunFrames base outer
 frf:∀ b∈frs outer,H b=none
 hok:HOk P w H s.heap
 bare:AllBare s.gens
noncomputable def CE (outer:List Env) (P:Program) (w:World) (H:Hp) (s:Shared) (Q:VK) (u:Value) (s':Shared):Prop :=
 ∃ v H',s'.os=s.os∧AllBare s'.gens∧Un (frs outer) [] H H' s.heap s'.heap∧HOk P w H' s'.heap∧zo v u∧Q v H'
noncomputable def CR (CX:CXT) (outer:List Env) (P:Program) (w:World) (H:Hp) (s:Shared) (Q:VK) (E:XK) (r:Result) (s':Shared):Prop :=
 match r with
 | .ok (.ret u)=>CE outer P w H s Q u s'
 | .ok _=>False
 | .error e=>CX outer H s E e s'
structure zM (P:Program) (w:World) (K:PySem.W.Frag) (mg:Str->Option Value) (base:Heap) (CX:CXT) (k:Nat) (f:Addr) (fd:FuncData) (ps:List Str) (sp:Sp):Prop where
 len:∀ vs H Q E,sp vs H Q E->vs.length=ps.length
 run:∀ (A:Around) (outer:List Env) (s:Shared) (H:Hp) (args:Args) (us:List Value) (vs:List V) (Q:VK) (E:XK),zO k A->ze5 P w K mg base A outer s H->BindsTo s fd args (ps.zip us)->zr vs us->sp vs H Q E ->
   codeAny (model P w) A (.call (.ref f) args) (CR CX outer P w H s Q E) s
theorem zM.imp {P:Program}{w:World}{K:PySem.W.Frag}{mg:Str->Option Value}{base:Heap}{CX:CXT}{k:Nat}{f:Addr}{fd:FuncData}{ps:List Str}{sp sp':Sp} (F:zM P w K mg base CX k f fd ps sp)
   (h:∀ vs H Q E,sp' vs H Q E->sp vs H Q E):zM P w K mg base CX k f fd ps sp' :=
 ⟨fun vs H Q E q=>F.len vs H Q E (h _ _ _ _ q),fun A outer s H args us vs Q E hr he hb hv hs=>F.run A outer s H args us vs Q E hr he hb hv (h _ _ _ _ hs)⟩
theorem ze5.make {P:Program}{w:World}{K:PySem.W.Frag}{mg:Str->Option Value}{base:Heap}{A:Around}{outer:List Env}{s:Shared}{H:Hp} (e:ze5 P w K mg base A outer s H) (C:Addr) (us:List Value) (kw:List (Str×Value)) :
   ze5 P w K mg base (A.under (.builtin "type.__call__" ⟨.ref C :: us,kw⟩)) outer s H:=⟨by first | exact e.frames | (simpa [Around.under,Code.envs,Code.isFrame,pushEnvs] using e.frames),e.mod,e.bs,e.bsz,e.funs,e.frf,e.hok,e.bare⟩
section
variable {X:Cx}{pins:List (Addr×Obj)}{σ:St}{H:Hp}{s s':Shared}
theorem Inv.env0 (I:Inv X pins σ H s):ze5 X.prog X.w X.K X.mg X.base X.A X.stack s H :=
 ⟨I.ok.frames,I.ok.mod,I.bs,Nat.le_trans I.ok.bsz I.sz,I.stack,I.stkFree,I.hok,I.bare⟩
theorem Inv.after {Q:VK}{u:Value} (I:Inv X pins σ H s) (h:CE X.stack X.prog X.w H s Q u s'):EP X pins σ Q u s':=by
 obtain ⟨v,H',os,bare,un,hok,r,q⟩:=h
 obtain ⟨hh,g,d,t,os'⟩:=s'
 obtain rfl:os'=s.os:=os
 exact ⟨v,H',I.call (h':=hh) (g':=g) (d':=d) (t':=t) (ch:=[]) un hok bare (fun b z=>absurd z ς),r,q⟩
end
noncomputable def zr9 (sp:Sp) (dvs:List V) (E:XK) (t:TA):TE:=fun σ H Q=>t σ H fun vs H1=>sp (vs++dvs) H1 Q E
noncomputable def zjB (C:Addr) (m:Str) (sp:Sp) (dvs:List V) (E:XK) (ta:TE) (t:TA):TE:=fun σ H Q=>ta σ H fun x H1=>∃ a dx fs,x = .ref a∧H1 a=some (.ins C dx fs)∧fs.lookup m=none ∧
 t σ H1 fun vs H2=>sp (x :: (vs++dvs)) H2 Q E
noncomputable def zpR (C:Addr) (sp:Sp) (dvs:List V) (E:XK) (t:TA):TE:=fun σ H Q=>t σ H fun vs H1=>∀ x dx,H1 x=none->H1 dx=none->dx≠x ->
 sp (.ref x :: (vs++dvs)) (upd (upd H1 dx (.own x)) x (.ins C dx [])) (fun v H2=>v = .non∧Q (.ref x) H2) E
noncomputable def zcM (K:PySem.W.Frag) (fd:FuncData) (ps:List Str) (ds:List Value):Prop :=
 ∀ (s:Shared) (us:List Value),K.In s.heap->(us++ds).length=ps.length->BindsTo s fd ⟨us,[]⟩ (ps.zip (us++ds))
theorem zcM.all {K:PySem.W.Frag}{fd:FuncData}{ps:List Str} (h:∀ us:List Value,us.length=ps.length->bindArgs fd ⟨us,[]⟩=pure (ps.zip us)):zcM K fd ps []:=fun s us _ hl=>by
 rw [List.append_nil]at hl ⊢
 exact .of_eq (h us hl)
noncomputable def zdj (CX:CXT) (X:Cx) (E:XK):Prop:=∀ (pins:List (Addr×Obj)) (σ:St) (H:Hp) (s:Shared) (e:Value) (s':Shared),Inv X pins σ H s->CX X.stack H s E e s'->X.xe e s'
section
variable {X:Cx}{CX:CXT}{k:Nat}{f C:Addr}{fd:FuncData}{ps:List Str}{sp:Sp}{dvs:List V}{ds:List Value}{E:XK}{x m:Str}{p pos apos:Pos}{e o:Expr}{es:List Expr}{ta:TE}{t:TA}
theorem zi1 {pins:List (Addr×Obj)}{σ:St}{H:Hp}{s:Shared}{Q:VK}{us:List Value}{vs:List V} (F:zM X.prog X.w X.K X.mg X.base CX k f fd ps sp) (hr:zO k X.A) (hb:zcM X.K fd ps ds) (hd:zr dvs ds) (hx:zdj CX X E)
   (I:Inv X pins σ H s) (r:zr vs us) (h:sp (vs++dvs) H Q E):wpAny (model X.prog X.w) X.A (call (.ref f) us) (EP X pins σ Q) X.xe s:=by
 have r2:zr (vs++dvs) (us++ds):=r.append hd
 have hl:(us++ds).length=ps.length:=by rw [<- r2.length];exact F.len _ _ _ _ h
 refine wpAny_call (codeAny_mono (F.run X.A X.stack s H ⟨us,[]⟩ (us++ds) (vs++dvs) Q E hr I.env0 (hb s us I.kIn hl) r2 h) fun r s' hq=>?_)
 cases r with
 | error e=>exact hx pins σ H s e s' I hq
 | ok fl =>
   cases fl with
   | ret u=>exact I.after hq
   | next=>exact False.elim hq
   | brk=>exact False.elim hq
   | cont=>exact False.elim hq
theorem zrb (F:zM X.prog X.w X.K X.mg X.base CX k f fd ps sp) (hr:zO k X.A) (hg:Gl X x) (hm:X.mg x=some (.ref f)) (hk:PySem.W.keepIn X.K (.ref f)=true) (hb:zcM X.K fd ps ds) (hd:zr dvs ds) (hx:zdj CX X E)
   (ha:PA X (e :: es) t) (hdb:(x == ("__debug__":Str))=false:=by decide) (he:starEach (e :: es) X.env=(false,eval e X.env) :: starEach es X.env:=by rfl) (hpl:(backTo pos (starEach es X.env)).any (·.1)=false:=by rfl) :
   PE X (.Call (.Name x p) (e :: es) [] pos) (zr9 sp dvs E t):=by
 intro pins s σ H Q I h
 refine wpAny_Call_Name_kw (zgN I hg hm ?_ hdb)
 refine PySem.W.callWith_K (h₀:=X.base) I.ok.mod.kin hk (thn (ha pos pins s σ H _ I h) fun us s1 ⟨vs,H1,I1,r,q⟩=>⟨I1.kIn,?_⟩) he hpl
 exact zi1 F hr hb hd hx I1 r q
theorem zub {pl:Sem Bool} (he:PE X o ta) (c:Cls X.K C) (hm:zeC X.K C m f) (F:zM X.prog X.w X.K X.mg X.base CX k f fd ps sp) (hr:zO k X.A) (hb:zcM X.K fd ps ds) (hd:zr dvs ds) (hx:zdj CX X E) (ha:PA X (e :: es) t)
   (hst:starEach (e :: es) X.env=(false,eval e X.env) :: starEach es X.env:=by rfl) (hpl:(backTo pos (starEach es X.env)).any (·.1)=false:=by rfl)
   (ht:eval (.Call (.Attribute o m apos) (e :: es) [] pos) X.env=(do
     let ov <- eval o X.env
     standAt apos.atName
     let (f,first) <- holding [ov] (getMethod ov m pl)
     callWith pos f first (backTo pos (starEach (e :: es) X.env)) (backToKw pos (keywordEach [] X.env))):=by rfl) :
   PE X (.Call (.Attribute o m apos) (e :: es) [] pos) (zjB C m sp dvs E ta t):=by
 intro pins s σ H Q I h
 refine PySem.W.methodCall_KW (pl:=pl) (thn (he pins s σ H _ I h) fun u s1 ⟨x,H1,I1,rx,a,dx,fs,ex,ea,l,q⟩=>?_) ht
 subst ex
 obtain rfl:u=Value.ref a:=rx
 refine zku I1 ea c hm l ?_
 refine PySem.W.callWith_K (first:=[.ref a]) (h₀:=X.base) I.ok.mod.kin hm.kp (thn (ha pos pins s1 σ H1 _ I1 q) fun us s2 ⟨vs,H2,I2,r,q2⟩=>⟨I2.kIn,?_⟩) hst hpl
 exact zi1 (us := .ref a :: us) (vs := .ref a :: vs) F hr hb hd hx I2 (.cons rfl r) q2
theorem zrO {pl:Sem Bool} (he:PE X o ta) (c:Cls X.K C) (hm:zeC X.K C m f) (F:zM X.prog X.w X.K X.mg X.base CX k f fd ps sp) (hr:zO k X.A) (hb:zcM X.K fd ps ds) (hd:zr dvs ds) (hx:zdj CX X E)
   (ht:eval (.Call (.Attribute o m apos) [] [] pos) X.env=(do
     let ov <- eval o X.env
     standAt apos.atName
     let (f,first) <- holding [ov] (getMethod ov m pl)
     callWith pos f first (backTo pos (starEach [] X.env)) (backToKw pos (keywordEach [] X.env))):=by rfl) :
   PE X (.Call (.Attribute o m apos) [] [] pos) (zjB C m sp dvs E ta zf1):=by
 intro pins s σ H Q I h
 refine PySem.W.methodCall_KW (pl:=pl) (thn (he pins s σ H _ I h) fun u s1 ⟨x,H1,I1,rx,a,dx,fs,ex,ea,l,q⟩=>?_) ht
 subst ex
 obtain rfl:u=Value.ref a:=rx
 refine zku I1 ea c hm l ?_
 exact PySem.W.callWith_K0 (first:=[.ref a]) I1.kIn hm.kp (zi1 (us:=[.ref a]) (vs:=[.ref a]) F hr hb hd hx I1 (.cons rfl .nil) q)
structure Mk (K:PySem.W.Frag) (C f:Addr):Prop where
 makes:PySem.W.makesIn K C=true
 init:PySem.W.findIn K (.ref C) "__init__" = some (some (.ref f))
 fn:PySem.W.isFn K (.ref f)=true
 kp:PySem.W.keepIn K (.ref C)=true
theorem zqj {pins:List (Addr×Obj)}{σ:St}{H:Hp}{s:Shared}{Q:VK}{us:List Value}{vs:List V} (M:Mk X.K C f) (F:zM X.prog X.w X.K X.mg X.base CX k f fd ps sp) (hr:zO (k+1) X.A) (hb:zcM X.K fd ps ds) (hd:zr dvs ds)
   (hx:zdj CX X E) (I:Inv X pins σ H s) (r:zr vs us)
   (h:∀ x dx,H x=none->H dx=none->dx≠x->sp (.ref x :: (vs++dvs)) (upd (upd H dx (.own x)) x (.ins C dx [])) (fun v H2=>v = .non∧Q (.ref x) H2) E) :
   wpAny (model X.prog X.w) X.A (call (.ref C) us) (EP X pins σ Q) X.xe s:=by
 have hq:=h (s.heap.objs.size+1) s.heap.objs.size (I.hok.fresh (Nat.le_succ _)) (I.hok.fresh (Nat.le_refl _)) (Nat.ne_of_lt (Nat.lt_succ_self _))
 have I2:=Inv.made (C:=C) I
 have r2:zr (V.ref (s.heap.objs.size+1) :: (vs++dvs)) (Value.ref (s.heap.objs.size+1) :: (us++ds)) := .cons rfl (r.append hd)
 have hl:(Value.ref (s.heap.objs.size+1) :: us++ds).length=ps.length:=by
   have e:=r2.length
   rw [F.len _ _ _ _ hq]at e
   exact e.symm
 refine wpAny_call (zrl (f:=f) I.kIn M.makes M.init (beq_iff_eq.mp M.fn) (codeAny_mono (F.run _ X.stack _ _ ⟨Value.ref (s.heap.objs.size+1) :: us,[]⟩ (Value.ref (s.heap.objs.size+1) :: (us++ds)) _ _ E (hr.make C us [])
   (I2.env0.make C us []) (hb _ (Value.ref (s.heap.objs.size+1) :: us) I2.kIn hl) r2 hq) fun r s' hq'=>?_))
 cases r with
 | error e=>exact hx pins σ _ _ e s' I2 hq'
 | ok fl =>
   cases fl with
   | ret u =>
     obtain ⟨v,H',I3,rv,ev,q3⟩:=I2.after hq'
     subst ev
     exact ⟨rv,⟨V.ref (s.heap.objs.size+1),H',I3,rfl,q3⟩⟩
   | next=>exact False.elim hq'
   | brk=>exact False.elim hq'
   | cont=>exact False.elim hq'
theorem zpu (M:Mk X.K C f) (F:zM X.prog X.w X.K X.mg X.base CX k f fd ps sp) (hr:zO (k+1) X.A) (hg:Gl X x) (hm:X.mg x=some (.ref C)) (hb:zcM X.K fd ps ds) (hd:zr dvs ds) (hx:zdj CX X E)
   (ha:PA X (e :: es) t) (hdb:(x == ("__debug__":Str))=false:=by decide) (he:starEach (e :: es) X.env=(false,eval e X.env) :: starEach es X.env:=by rfl) (hpl:(backTo pos (starEach es X.env)).any (·.1)=false:=by rfl) :
   PE X (.Call (.Name x p) (e :: es) [] pos) (zpR C sp dvs E t):=by
 intro pins s σ H Q I h
 refine wpAny_Call_Name_kw (zgN I hg hm ?_ hdb)
 refine PySem.W.callWith_K (h₀:=X.base) I.ok.mod.kin M.kp (thn (ha pos pins s σ H _ I h) fun us s1 ⟨vs,H1,I1,r,q⟩=>⟨I1.kIn,?_⟩) he hpl
 exact zqj M F hr hb hd hx I1 r q
end
section
variable {X:Cx}{CX:CXT}{k:Nat}{f C:Addr}{fd:FuncData}{ps ks:List Str}{sp:Sp}{E:XK}{x m:Str}{p pos apos kpos:Pos}{e o:Expr}{es:List Expr}{kws:List Keyword}{te ta:TE}{t tk:TA}{nm:Option Str}
variable {g:List Value->List Value->List Value}{gV:List V->List V->List V}
end
structure zV (N P:List Str) (sc:Scope):Prop where
 kind:sc.kind = .function
 co:sc.isCoroutine=false
 gen:sc.isGenerator=false
 nd:N.Nodup
 pre:N.take P.length=P
 par:∀ x∈P,sc.names.lookup x=some .local∨sc.names.lookup x=some .cell
 nofree:∀ y∈sc.names,y.2 ≠ .free
theorem zme {kindOf:Str->Option NameKind}{x:Str}:∀ {binds:List (Str×Value)}{m:Str->Option Value},(∀ v,(x,v)∉binds)->bindL kindOf binds m x=m x
 | [],_,_=>rfl
 | (n,v) :: r,m,h=>by
   unfold bindL
   rw [zme fun w hw=>h w (List.mem_cons_of_mem _ hw)]
   split
   . have:x≠n:=by rintro rfl;exact h v List.mem_cons_self
     simp [this]
   . rfl
theorem zkZ {kindOf:Str->Option NameKind}{x:Str}:∀ {binds:List (Str×Value)}{m:Str->Option Value},(∀ v,(x,v)∉binds)->bindC kindOf binds m x=m x
 | [],_,_=>rfl
 | (n,v) :: r,m,h=>by
   unfold bindC
   rw [zkZ fun w hw=>h w (List.mem_cons_of_mem _ hw)]
   split
   . rfl
   . have:x≠n:=by rintro rfl;exact h v List.mem_cons_self
     simp [this]
theorem zk8 {kindOf:Str->Option NameKind}{x:Str}{v:Value}:∀ {P:List Str}{vs:List Value}{i:Nat}{m:Str->Option Value},P.Nodup->P[i]?=some x->vs[i]?=some v->kindOf x=some .local ->
   bindL kindOf (P.zip vs) m x=some v
 | [],_,_,_,_,h,_,_=>by simp at h
 | _ :: _,[],_,_,_,_,h,_=>by simp at h
 | p :: P,w :: vs,0,m,nd,h1,h2,hk=>by
   simp at h1 h2;subst h1;subst h2
   show bindL kindOf ((p,w) :: P.zip vs) m p=_
   unfold bindL
   rw [zme fun v hv=>(List.nodup_cons.mp nd).1 (List.of_mem_zip hv).1,if_pos hk]
   simp
 | p :: P,w :: vs,i+1,m,nd,h1,h2,hk=>by
   show bindL kindOf ((p,w) :: P.zip vs) m x=_
   unfold bindL
   exact zk8 (i:=i) (List.nodup_cons.mp nd).2 (by simpa using h1) (by simpa using h2) hk
theorem zkn {kindOf:Str->Option NameKind}{x:Str}{v:Value}:∀ {P:List Str}{vs:List Value}{i:Nat}{m:Str->Option Value},P.Nodup->P[i]?=some x->vs[i]?=some v->kindOf x≠some .local ->
   bindC kindOf (P.zip vs) m x=some v
 | [],_,_,_,_,h,_,_=>by simp at h
 | _ :: _,[],_,_,_,_,h,_=>by simp at h
 | p :: P,w :: vs,0,m,nd,h1,h2,hk=>by
   simp at h1 h2;subst h1;subst h2
   show bindC kindOf ((p,w) :: P.zip vs) m p=_
   unfold bindC
   rw [zkZ fun v hv=>(List.nodup_cons.mp nd).1 (List.of_mem_zip hv).1,if_neg hk]
   simp
 | p :: P,w :: vs,i+1,m,nd,h1,h2,hk=>by
   show bindC kindOf ((p,w) :: P.zip vs) m x=_
   unfold bindC
   exact zkn (i:=i) (List.nodup_cons.mp nd).2 (by simpa using h1) (by simpa using h2) hk
noncomputable def start (N:List Str) (vs:List V):St:=vs.map some++List.replicate (N.length - vs.length) none
noncomputable def zcC (CX:CXT) (P:Program) (w:World) (K:PySem.W.Frag) (mg:Str->Option Value) (base:Heap) (N:List Str) (qual:Str) (scope:Scope) (f:Addr) (cd:Value) (A:Around) (outer:List Env) (s:Shared) (H:Hp) (E:XK):Cx where
 prog:=P
 w:=w
 K:=K
 mg:=mg
 base:=base
 A:=A.deeper (envOfC qual scope s.heap.objs.size f cd)
 N:=N
 s₀:=s
 H₀:=H
 env:=envOfC qual scope s.heap.objs.size f cd
 outer:=outer
 stack:=envOfC qual scope s.heap.objs.size f cd :: outer
 ex:=[]
 calm:=true
 fn:=fun _=>true
 pn:=[]
 xe:=fun e s'=>wpAny (model P w) (A.deeper (envOfC qual scope s.heap.objs.size f cd)) (leaving (envOfC qual scope s.heap.objs.size f cd) e) (fun _ s''=>CX outer H s E e s'') (fun e' s''=>CX outer H s E e' s'') s'
theorem zlt {sc:Scope}{n:Nat}{x:Str} (h:sc.names.lookup x=some .cell):∃ c,(cellsFrom n sc.names []).lookup x=some c:=by
 have q:=PySem.W.cellsFrom_some sc.names n [] (.inl h)
 exact Option.isSome_iff_exists.mp q
theorem zud {CX:CXT}{P:Program}{w:World}{K:PySem.W.Frag}{mg:Str->Option Value}{base:Heap}{N ps:List Str}{qual:Str}{scope:Scope}{f:Addr}{cd:Value}{A:Around}{outer:List Env}{s s1:Shared}{H:Hp}{E:XK}{us:List Value}{vs:List V}
   (S:zV N ps scope) (hd:A.handled=none) (e0:ze5 P w K mg base A outer s H) (hl:vs.length=ps.length) (r:zr vs us)
   (x:InCallC s s.heap.objs.size (bindL (envOfC qual scope s.heap.objs.size f cd).kindOf (ps.zip us) fun _=>none) (cellsFrom (s.heap.objs.size+1) scope.names []) (bindC (envOfC qual scope s.heap.objs.size f cd).kindOf (ps.zip us) fun _=>none) s1) :
   Inv (zcC CX P w K mg base N qual scope f cd A outer s H E) [] (start N vs) H s1:=by
 have hpl:ps.length<=N.length:=by have:=congrArg List.length S.pre;rw [List.length_take]at this;omega
 obtain ⟨h1,tk,rfl,hk⟩:=x.done
 have noA:∀ b:Addr,b∉(zcC CX P w K mg base N qual scope f cd A outer s H E).ex:=fun b z=>absurd (show b∈([]:List Addr) from z) ς
 refine ⟨⟨e0.mod,S.kind,rfl,rfl,Nat.le_refl _,fun y z c h1 h2=>?_,fun y hy=>?_,fun y c _ h=>?_,fun _=>hd,Around.frames_deeper e0.frames,.inr ⟨rfl,rfl⟩,fun b z=>absurd z (noA b),e0.bs,e0.bsz,fun b _ _=>noA b,fun b z=>absurd z (noA b),e0.funs,e0.frf⟩,
   rfl,e0.bare,Un.kept hk,⟨_,x.toInCall.ns,fun i y v h1 h2 h3=>?_⟩,fun y c h=>⟨_,x.cell y c h⟩,e0.hok.fresh (Nat.le_refl _),fun y c h=>?_,fun p hp=>absurd (show p∈([]:List (Addr×Obj)) from hp) ς,e0.hok.kept hk,?_⟩
 . exact name_of_addr x.apart (PySem.mem_of_lookup h1) (PySem.mem_of_lookup h2)
 . have hy:scope.names.lookup y=some .cell∨scope.names.lookup y=some .free:=hy
   rcases hy with hy | hy
   . exact zlt hy
   . exact absurd rfl (S.nofree _ (PySem.mem_of_lookup hy))
 . exact Nat.le_of_lt (x.above y c (PySem.mem_of_lookup h))
 . have hi:i < vs.length:=by
     unfold start at h2
     by_cases hi:i < vs.length
     . exact hi
     . rw [List.getElem?_append_right (by simpa using hi)]at h2
       rw [List.getElem?_replicate]at h2
       split at h2 <;> cases h2
   have ha:vs[i]?=some v:=by
     unfold start at h2
     rw [List.getElem?_append_left (by simpa using hi),List.getElem?_map]at h2
     cases e:vs[i]? with
     | none=>rw [e]at h2;cases h2
     | some a=>rw [e]at h2;cases h2;rfl
   obtain ⟨u,hu,rv⟩:=r.get ha
   have hp:ps[i]?=some y:=by
     rw [<- S.pre,List.getElem?_take_of_lt ω];exact h1
   have ndP:ps.Nodup:=by rw [<- S.pre];exact S.nd.sublist (List.take_sublist _ _)
   refine ⟨u,rv,?_⟩
   rcases S.par y (List.mem_of_getElem? hp) with k | k
   . exact .inl ⟨k,zk8 ndP hp hu k⟩
   . obtain ⟨c,e⟩:=zlt (n:=s.heap.objs.size+1) k
     refine .inr ⟨.inl k,c,e,?_⟩
     have q:=x.cell y c e
     rw [zkn ndP hp hu (by show scope.names.lookup y≠_;rw [k];decide)]at q
     exact q
 . exact e0.hok.fresh (Nat.le_of_lt (x.above y c (PySem.mem_of_lookup h)))
 . unfold start
   show _=N.length
   rw [List.length_append,List.length_map,List.length_replicate]
   omega
theorem zpw {CX:CXT}{P:Program}{w:World}{K:PySem.W.Frag}{mg:Str->Option Value}{base:Heap}{k:Nat}{f:Addr}{name qual:Str}{params:Arguments}{body:List Stmt}{scope:Scope}{dV kV doc pm cdv ct oc:Value}{an od:Option Addr}
   {osl:Array (Option Value)} {N ps:List Str} {sp:Sp} (lk:K.lookup f=some ⟨oc,od,.func (PySem.W.fnOf name qual params body scope dV kV doc pm an cdv ct),osl⟩) (hcd:PySem.W.codeIn K cdv qual=true) (S:zV N ps scope)
   (len:∀ vs H Q E,sp vs H Q E->vs.length=ps.length)
   (hbody:∀ (A:Around) (outer:List Env) (s:Shared) (H:Hp) (vs:List V) (Q:VK) (E:XK),zO k (A.deeper (envOfC qual scope s.heap.objs.size f cdv))->sp vs H Q E ->
     ∃ t,PSs (zcC CX P w K mg base N qual scope f cdv A outer s H E) body t∧t { nx:=fun _ H'=>Q .non H',rt:=Q } (start N vs) H) :
   zM P w K mg base CX (k+1) f (PySem.W.fnOf name qual params body scope dV kV doc pm an cdv ct) ps sp:=by
 refine ⟨len,fun A outer s H args us vs Q E hr e0 hb r hsp=>?_⟩
 have hl:=len _ _ _ _ hsp
 have KX:K.In s.heap:=e0.mod.kin.keeps fun b o e=>(e0.bs b o e).1
 have lim:s.heap.NoLimit:=e0.mod.nolimit.keeps fun b o e=>(e0.bs b o e).1
 have hkind:∀ y∈ps.zip us,scope.names.lookup y.1=some .local∨(scope.names.lookup y.1=some .cell∧((cellsFrom (s.heap.objs.size+1) scope.names []).lookup y.1).isSome=true):=fun ⟨n,v⟩ hy=>by
   rcases S.par n (List.of_mem_zip hy).1 with q | q
   . exact .inl q
   . exact .inr ⟨q,PySem.W.cellsFrom_some _ _ _ (.inl q)⟩
 refine codeAny_call_function hr.depth (KX _ _ lk) rfl S.co S.gen rfl (PySem.W.codeRec_of KX hcd) (hb _ _ _ _ ?_)
 refine wpAny_newFunctionEnv_cells S.kind hkind fun env he s1 x=>?_
 subst he
 refine ⟨lim.keeps x.toInCall.keep,codeAny_func ?_⟩
 obtain ⟨t,ht,hq⟩:=hbody A outer s H vs Q E (hr.deeper _) hsp
 have I:Inv (zcC CX P w K mg base N qual scope f cdv A outer s H E) [] (start N vs) H s1:=zud S hr.hd e0 hl r x
 refine wpAny_mono (ht [] s1 (start N vs) H _ I hq) (fun fl s' hs=>?_) fun e s' hs=>hs
 have fin:∀ {σ':St} {H':Hp} {v:V} {u:Value},Inv (zcC CX P w K mg base N qual scope f cdv A outer s H E) [] σ' H' s'->zo v u->Q v H'->CE outer P w H s Q u s' :=
   fun {σ' H' v u} J rv q=>⟨v,H',J.os,J.bare,J.base,J.hok,rv,q⟩
 cases fl with
 | ret u =>
   obtain ⟨v,σ',H',J,rv,q⟩:=hs
   exact fin J rv q
 | next =>
   obtain ⟨σ',H',J,q⟩:=hs
   exact fin (v:=V.non) (u:=Value.none) J rfl q
 | brk =>
   obtain ⟨_,_,_,q⟩:=hs
   exact False.elim q
 | cont =>
   obtain ⟨_,_,_,q⟩:=hs
   exact False.elim q
end L2
namespace L2
open PySem PySem.Spec PyProof.Rows
section
variable {X:Cx}{x:Str}{p pos:Pos}{e:Expr}{es:List Expr}{t:TA}{id T:String}{r:List V->Hp->VK->Prop}
noncomputable def tCB (r:List V->Hp->VK->Prop) (t:TA):TE:=fun σ H Q=>t σ H fun vs H1=>r vs H1 Q
theorem zdJ (hc:zdk X (.builtin id) r) (hg:Gl X x) (hm:X.mg x=none) (hv:bootBuiltins x=some (.builtin id)) (ha:PA X (e :: es) t) (hn:x ≠ "__name__":=by decide) (hdb:(x == ("__debug__":Str))=false:=by decide)
   (he:starEach (e :: es) X.env=(false,eval e X.env) :: starEach es X.env:=by rfl) (hpl:(backTo pos (starEach es X.env)).any (·.1)=false:=by rfl):PE X (.Call (.Name x p) (e :: es) [] pos) (tCB r t):=by
 intro pins s σ H Q I h
 refine wpAny_Call_Name_kw (zfh I hg hm hv ?_ hn hdb)
 exact PyProof.Rows.callWith_builtin1 (thn (ha pos pins s σ H _ I h) fun us s1 ⟨vs,H1,I1,r1,q1⟩=>hc pins s1 σ H1 vs us Q I1 r1 q1) he hpl
theorem zsc (hc:zdk X (.type T) r) (hg:Gl X x) (hm:X.mg x=none) (hv:bootBuiltins x=some (.type T)) (ha:PA X (e :: es) t) (hn:x ≠ "__name__":=by decide) (hdb:(x == ("__debug__":Str))=false:=by decide)
   (he:starEach (e :: es) X.env=(false,eval e X.env) :: starEach es X.env:=by rfl) (hpl:(backTo pos (starEach es X.env)).any (·.1)=false:=by rfl):PE X (.Call (.Name x p) (e :: es) [] pos) (tCB r t):=by
 intro pins s σ H Q I h
 refine wpAny_Call_Name_kw (zfh I hg hm hv ?_ hn hdb)
 exact PyProof.Rows.callWith_type1 (thn (ha pos pins s σ H _ I h) fun us s1 ⟨vs,H1,I1,r1,q1⟩=>hc pins s1 σ H1 vs us Q I1 r1 q1) he hpl
end
end L2
namespace HT
open PySem PyProof.Rows
section
open PySem.SeqAt
open PySem.AutoSeq1 (wpAny_loadPart')
open PySem.MeetsSeq PySem.MeetsSeq2 PySem.MeetsSeq3
end
section
variable {prog:Program}{w:World}{A:Around}{E:Value->Shared->Prop}{s:Shared}
noncomputable def sIx (n d:Nat):Option Int->Nat
 | none=>d
 | some v=>if v < 0 then (v+(n:Int)).toNat else min v.toNat n
theorem zui (n d:Nat) (hd:d<=n) (o:Option Int):sIx n d o<=n:=by
 cases o with
 | none=>exact hd
 | some v =>
   show (if v < 0 then (v+(n:Int)).toNat else min v.toNat n)<=n
   by_cases hv:v < 0
   . rw [if_pos hv];omega
   . rw [if_neg hv];exact Nat.min_le_right _ _
theorem clip_eq (v:Int) (n d:Nat):(if v < 0 then max (v+(n:Int)) 0 else min v (n:Int))=((sIx n d (some v):Nat):Int):=by
 show (if v < 0 then max (v+(n:Int)) 0 else min v (n:Int))=(((if v < 0 then (v+(n:Int)).toNat else min v.toNat n):Nat):Int)
 by_cases hv:v < 0
 . simp only [if_pos hv];omega
 . simp only [if_neg hv];omega
theorem zrI (lo hi:Option Int) (n:Nat):Builtin.Slice.sliceAdjust lo hi 1 (n:Int)=(((sIx n 0 lo:Nat):Int),((sIx n n hi:Nat):Int)):=by
 have h1:¬ ((1:Int) < 0):=by omega
 unfold Builtin.Slice.sliceAdjust
 simp only [h1,if_false]
 refine Prod.ext ?_ ?_
 . cases lo with
   | none=>rfl
   | some v=>exact clip_eq v n 0
 . cases hi with
   | none=>rfl
   | some v=>exact clip_eq v n n
theorem zsP (i j:Nat):Builtin.Slice.slicePlaces (i:Int) (j:Int) 1=j - i:=by
 unfold Builtin.Slice.slicePlaces
 have h1:(1:Int) > 0:=by omega
 simp only [h1,if_true,Int.ediv_one]
 split <;> omega
theorem slicePart_ {v:Value}{o:Option Int}{Q:Option Int->Shared->Prop} (p:IsPart v o) (h:Q o s):wpAny (model prog w) A (Builtin.Slice.slicePartIndex v) Q E s:=by
 cases p with
 | none=>exact slicePart_none h
 | int i t=>exact slicePart_int h
theorem zs2 {sl:Addr}{vl vu:Value}{lo hi:Option Int}{n:Nat}{Q:Int×Int×Nat->Shared->Prop} (hs:s.heap.IsSliceOf sl vl vu .none) (pl:IsPart vl lo) (pu:IsPart vu hi)
   (h:Q (((sIx n 0 lo:Nat):Int),1,sIx n n hi - sIx n 0 lo) s):wpAny (model prog w) A (Builtin.Slice.sliceApplied (.ref sl) (pure (n:Int))) Q E s:=by
 obtain ⟨os,hos,hcs,hds⟩:=id hs
 unfold Builtin.Slice.sliceApplied Builtin.Slice.sliceFields
 refine wpAny_bind (wpAny_bind (wpAny_field hos hds (x:=vl) rfl (wpAny_bind (wpAny_field hos hds (x:=vu) rfl (wpAny_bind (wpAny_field hos hds (x := .none) rfl (wpAny_pure ?_)))))))
 refine wpAny_bind (slicePart_none ?_)
 show wpAny _ _ (if ((1:Int) == 0)=true then _ else _) _ _ s
 rw [if_neg ϑ]
 refine wpAny_bind (slicePart_ pl (wpAny_bind (slicePart_ pu (wpAny_bind (wpAny_pure ?_)))))
 show wpAny _ _ (match Builtin.Slice.sliceAdjust lo hi 1 (n:Int) with | (lo,hi)=>pure (lo,(1:Int),Builtin.Slice.slicePlaces lo hi 1)) _ _ s
 rw [zrI lo hi n]
 show wpAny _ _ (pure (((sIx n 0 lo:Nat):Int),(1:Int),Builtin.Slice.slicePlaces ((sIx n 0 lo:Nat):Int) ((sIx n n hi:Nat):Int) 1)) _ _ s
 rw [zsP]
 exact wpAny_pure h
theorem zqw (xs:Array Value) (i k:Nat):((List.range k).filterMap fun (m:Nat)=>xs[((i:Int)+(m:Int) * 1).toNat]?).toArray=((xs.toList.drop i).take k).toArray:=by
 have e:(fun (m:Nat)=>xs[((i:Int)+(m:Int) * 1).toNat]?)=fun m=>xs[i+m]?:=by
   funext m
   have:((i:Int)+(m:Int) * 1).toNat=i+m:=by omega
   rw [this]
 rw [e]
 have:=pick_run xs i k
 rw [List.filterMap_map]at this
 have e2:((fun x=>xs[x]?) ∘ fun x=>i+x)=fun m=>xs[i+m]?:=rfl
 rw [e2]at this
 rw [this]
theorem getItem_tuple_cut {t sl:Addr}{items:Array Value}{vl vu:Value}{lo hi:Option Int}{Q:Value->Shared->Prop} (ht:IsTup s.heap t items) (hs:s.heap.IsSliceOf sl vl vu .none) (pl:IsPart vl lo) (pu:IsPart vu hi)
   (hw:¬ (sIx items.size 0 lo=0∧sIx items.size items.size hi=items.size))
   (h:Q (.ref s.heap.objs.size) { s with heap:=s.heap.push { cls := .type "tuple",data := .seq ((items.toList.drop (sIx items.size 0 lo)).take (sIx items.size items.size hi - sIx items.size 0 lo)).toArray } })
   (hsz:items.size<=sizeLine):wpAny (model prog w) A (getItem (.ref t) (.ref sl)) Q E s:=by
 have htake:sizeOk (.seq ((items.toList.drop (sIx items.size 0 lo)).take (sIx items.size items.size hi - sIx items.size 0 lo)).toArray):=by
   show ((items.toList.drop (sIx items.size 0 lo)).take (sIx items.size items.size hi - sIx items.size 0 lo)).toArray.size<=sizeLine
   rw [List.size_toArray,List.length_take,List.length_drop,Array.length_toList]
   omega
 have hj:sIx items.size items.size hi<=items.size:=zui _ _ (Nat.le_refl _) hi
 obtain ⟨os,hos,hcs,hds⟩:=id hs
 have hTs:s.TypeIs (.ref sl) "slice":=⟨os,hos,hcs⟩
 unfold getItem
 try with_reducible refine wpAny_holding ?_
 first | refine wpAny_bind (wpAny_pure ?_) | skip
 refine wpAny_bind (wpAny_sequenceKey ht.typeIs ϑ ?_)
 refine wpAny_bind (wpAny_callSpecial?_slot (name:=Str.ofString "__getitem__") ht.typeIs PyProof.Rows.slot_tuple_getitem
   (wpAny_call_entry PyProof.Rows.slot_tuple_getitem ht.typeIs entry_tuple_getitem ?_ (args_tuple_getitem _ _)))
 show wpAny _ _ (Builtin.Tuple.tupleItemsOf (.ref t) >>= _) _ _ s
 refine wpAny_bind (tupleItemsOf_ ht ?_)
 refine wpAny_bind (wpAny_typeOf hTs ?_)
 rw [if_pos ϑ]
 refine wpAny_bind (zs2 hs pl pu ?_)
 have hno:¬ ((((sIx items.size 0 lo:Nat):Int) == 0 && (1:Int) == 1 && (sIx items.size items.size hi - sIx items.size 0 lo) == items.size)=true):=by
   intro q
   rw [Bool.and_eq_true,Bool.and_eq_true]at q
   have q1:((sIx items.size 0 lo:Nat):Int)=0:=eq_of_beq q.1.1
   have q2:sIx items.size items.size hi - sIx items.size 0 lo=items.size:=eq_of_beq q.2
   exact hw ⟨ω,ω⟩
 show wpAny _ _ (if (((sIx items.size 0 lo:Nat):Int) == 0 && (1:Int) == 1 && (sIx items.size items.size hi - sIx items.size 0 lo) == items.size)=true then _ else _) _ _ s
 rw [if_neg hno,zqw]
 first
   | exact wpAny_bind (m:=Builtin.Tuple.tupleExact _) (wpAny_newObj_type (wpAny_pure ⟨_,rfl,wpAny_pure h⟩) htake)
   | exact wpAny_bind (m:=Builtin.Tuple.tupleExact _) (wpAny_newObj_type (wpAny_bind (wpAny_pure (wpAny_pure ⟨_,rfl,wpAny_pure h⟩))) htake)
   | exact wpAny_bind (wpAny_bind (m:=Builtin.Tuple.tupleExact _) (wpAny_newObj_type (wpAny_pure (wpAny_pure ⟨_,rfl,wpAny_pure h⟩)) htake))
   | exact wpAny_bind (wpAny_bind (m:=Builtin.Tuple.tupleExact _) (wpAny_newObj_type (wpAny_pure ⟨_,rfl,wpAny_pure h⟩) htake))
end
end HT
namespace L2
open PySem PySem.Spec PyProof.Rows
noncomputable abbrev TO:=St->Hp->(Option Int->Hp->Prop)->Prop
noncomputable def PO (X:Cx) (e:Option Expr) (t:TO):Prop :=
 ∀ (pins:List (Addr×Obj)) (s:Shared) (σ:St) (H:Hp) (Q:Option Int->Hp->Prop),Inv X pins σ H s->t σ H Q ->
   wpAny (model X.prog X.w) X.A (evalPart e X.env) (fun u s'=>∃ o H',Inv X pins σ H' s'∧IsPart u o∧Q o H') X.xe s
noncomputable def zrh:TO:=fun _ H Q=>Q none H
noncomputable def zs0 (t:TE):TO:=fun σ H Q=>t σ H fun x H1=>∃ i,x = .int i∧Q (some i) H1
theorem ztm {ns:List Int}:∀ {us:List Value},zr (ns.map V.int) us->IntsAre us ns:=by
 induction ns with
 | nil=>intro us r;rw [List.map_nil]at r;cases r;exact .nil
 | cons n ns ih =>
   intro us r
   rw [List.map_cons]at r
   cases r with
   | cons r1 r2 =>
     obtain ⟨t,e⟩:=r1
     subst e
     exact .cons n t (ih r2)
section
variable {X:Cx}{e:Expr}{te:TE}{lo hi:Option Expr}{tl th:TO}{pos p2:Pos}
theorem zke:PO X none zrh:=by
 intro pins s σ H Q I h
 rw [evalPart_none]
 exact wpAny_pure ⟨none,H,I,.none,h⟩
theorem zh6 (h:PE X e te):PO X (some e) (zs0 te):=by
 intro pins s σ H Q I hw
 rw [evalPart_some]
 refine thn (h pins s σ H _ I hw) fun u s1 ⟨x,H1,I1,r1,q1⟩=>?_
 obtain ⟨i,rfl,q⟩:=q1
 obtain ⟨t,rfl⟩:=r1
 exact ⟨some i,H1,I1,.int i t,q⟩
noncomputable def SlR (X:Cx) (r:V->Option Int->Option Int->Hp->VK->Prop):Prop :=
 ∀ (pins:List (Addr×Obj)) (s:Shared) (σ:St) (H:Hp) (x:V) (v vl vu:Value) (lo hi:Option Int) (sl:Addr) (Q:VK),Inv X pins σ H s->zo x v->s.heap.IsSliceOf sl vl vu .none->IsPart vl lo->IsPart vu hi->r x lo hi H Q ->
   ∃ T id,typeLookup (.type T) "__getitem__" = pure (some (.builtin id))∧s.TypeIs v T∧wpAny (model X.prog X.w) X.A (getItem v (.ref sl)) (EP X pins σ Q) X.xe s
noncomputable def tSl (r:V->Option Int->Option Int->Hp->VK->Prop) (te:TE) (tl th:TO):TE:=fun σ H Q=>te σ H fun x H1=>tl σ H1 fun l H2=>th σ H2 fun u H3=>r x l u H3 Q
theorem zmf {r:V->Option Int->Option Int->Hp->VK->Prop} (hr:SlR X r) (he:PE X e te) (hl:PO X lo tl) (hu:PO X hi th):PE X (.Subscript e (.Slice lo hi none p2) pos) (tSl r te tl th):=by
 intro pins s σ H Q I h
 refine Subscript_ (thn (he pins s σ H _ I h) fun v s1 ⟨x,H1,I1,r1,q1⟩=>?_)
 refine wpAny_Slice (thn (hl pins s1 σ H1 _ I1 q1) fun vl s2 ⟨l,H2,I2,pl,q2⟩=>thn (hu pins s2 σ H2 _ I2 q2) fun vu s3 ⟨u,H3,I3,pu,q3⟩=>?_)
 rw [evalPart_none]
 refine wpAny_pure ?_
 have I4:Inv X pins σ H3 { s3 with heap:=s3.heap.push { cls := .type "slice",data := .fields #[vl,vu,.none] } }:=I3.kept (t':=s3.toks) fun b ob q=>Heap.get?_push_of_some _ q
 obtain ⟨T,id,hT,ht,hg⟩:=hr pins { s3 with heap:=s3.heap.push { cls := .type "slice",data := .fields #[vl,vu,.none] } } σ H3 x v vl vu l u s3.heap.objs.size Q I4 r1 (Heap.IsSliceOf.new ..) pl pu q3
 show wpAny (model X.prog X.w) X.A (subscriptTail e (.Slice lo hi none p2) v (.ref s3.heap.objs.size)) (EP X pins σ Q) X.xe { s3 with heap:=s3.heap.push { cls := .type "slice",data := .fields #[vl,vu,.none] } }
 exact tail_any (ops:=[.ref s3.heap.objs.size,v]) ht hT hg (by with_unfolding_all rfl)
noncomputable def cutV (xs:List V) (lo hi:Option Int):List V:=(xs.drop (HT.sIx xs.length 0 lo)).take (HT.sIx xs.length xs.length hi - HT.sIx xs.length 0 lo)
theorem zlS (xs:List V) (lo hi:Option Int):(cutV xs lo hi).length<=xs.length:=by
 unfold cutV
 rw [List.length_take,List.length_drop]
 omega
noncomputable def zqI (K:PySem.W.Frag):V->Option Int->Option Int->Hp->VK->Prop:=fun x lo hi H Q=>∃ a xs,x = .ref a∧SqT K H a xs ∧
 ¬ (HT.sIx xs.length 0 lo=0∧HT.sIx xs.length xs.length hi=xs.length)∧∀ p,H p=none->Q (.ref p) (upd H p (.tup (cutV xs lo hi)))
theorem zru:SlR X (zqI X.K):=by
 intro pins s σ H x v vl vu lo hi sl Q I rx hs pl pu h
 obtain ⟨a,xs,rfl,hx,hw,q⟩:=h
 cases rx
 obtain ⟨its,r,ht,hz⟩:=I.tuple hx
 have hlen:its.toArray.size=xs.length:=by rw [List.size_toArray];exact r.length.symm
 refine ⟨"tuple",_,PyProof.Rows.slot_tuple_getitem.lookup,ht.typeIs,?_⟩
 refine HT.getItem_tuple_cut ht hs pl pu (by rw [hlen];exact hw) ?_ (by rw [hlen];exact hz)
 rw [hlen]
 refine ⟨.ref s.heap.objs.size,_,I.laid (t':=s.toks) (o := .tup (cutV xs lo hi)) (fun b ob q=>Heap.get?_push_of_some _ q) (Nat.le_refl _) ?_,rfl,q _ (I.hok.fresh (Nat.le_refl _))⟩
 exact ⟨Nat.le_trans (zlS xs lo hi) hz,_,(r.drop (HT.sIx xs.length 0 lo)).take (HT.sIx xs.length xs.length hi - HT.sIx xs.length 0 lo),IsTup.new _ _⟩
end
end L2
namespace L2
open PySem PySem.Spec PyProof.Rows
noncomputable def ixN (n:Nat) (i:Int):Option Nat:=if 0<=i then (if i < n then some i.toNat else none) else if -(n:Int)<=i then some (i+n).toNat else none
noncomputable def atI {α:Type} (xs:List α) (i:Int):Option α:=(ixN xs.length i).bind fun j=>xs[j]?
theorem zmC {n:Nat}{i:Int}{j:Nat} (h:ixN n i=some j):seqIndex? i n=some j∧j < n∧-(n:Int)<=i∧i < n:=by
 unfold ixN at h
 by_cases h0:0<=i
 . rw [if_pos h0]at h
   by_cases h1:i < n
   . rw [if_pos h1]at h
     have e:i.toNat=j:=Option.some.inj h
     exact ⟨by rw [seqIndex_of h0 h1,e],ω,ω,h1⟩
   . rw [if_neg h1]at h;cases h
 . rw [if_neg h0]at h
   by_cases h1:-(n:Int)<=i
   . rw [if_pos h1]at h
     have e:(i+n).toNat=j:=Option.some.inj h
     exact ⟨by rw [seqIndex_neg ω h1,e],ω,h1,ω⟩
   . rw [if_neg h1]at h;cases h
theorem zkF {α:Type}{xs:List α}{i:Int}{v:α} (h:atI xs i=some v):∃ j,seqIndex? i xs.length=some j∧xs[j]?=some v∧j < xs.length∧-(xs.length:Int)<=i∧i < xs.length:=by
 unfold atI at h
 cases e:ixN xs.length i with
 | none=>rw [e]at h;cases h
 | some j =>
   rw [e]at h
   obtain ⟨h1,h2,h3,h4⟩:=zmC e
   exact ⟨j,h1,h,h2,h3,h4⟩
noncomputable def zkr (b:Expr):Prop:=∀ o i,subscripted b false o i=operate [o,i] (getItem o i)
noncomputable def IxR (X:Cx) (r:R2):Prop :=
 ∀ (value slice:Expr) (pins:List (Addr×Obj)) (s:Shared) (σ:St) (H:Hp) (x y:V) (v u:Value) (Q:VK),Inv X pins σ H s->zo x v->zo y u->r x y H Q ->
   subscripted slice false v u=operate [v,u] (getItem v u)->wpAny (model X.prog X.w) X.A (subscriptTail value slice v u) (EP X pins σ Q) X.xe s
noncomputable def MtR (X:Cx) (id:String) (r:V->List V->Hp->VK->Prop):Prop :=
 ∀ (pins:List (Addr×Obj)) (s:Shared) (σ:St) (H:Hp) (x:V) (xs:List V) (v:Value) (us:List Value) (Q:VK),Inv X pins σ H s->zo x v->zr xs us->r x xs H Q ->
   wpAny (model X.prog X.w) X.A (call (.builtin id) (v :: us)) (EP X pins σ Q) X.xe s
section
variable {X:Cx}{a b:Expr}{ta tb:TE}{pos:Pos}
theorem IxR.or {r r':R2} (h:IxR X r) (h':IxR X r'):IxR X (fun x y H Q=>r x y H Q∨r' x y H Q):=by
 intro value slice pins s σ H x y v u Q I rx ry q hs
 rcases q with q | q
 . exact h value slice pins s σ H x y v u Q I rx ry q hs
 . exact h' value slice pins s σ H x y v u Q I rx ry q hs
theorem zto {r:R2} (hr:IxR X r) (ha:PE X a ta) (hb:PE X b tb) (hs:zkr b):PE X (.Subscript a b pos) (tOp r ta tb):=by
 intro pins s σ H Q I h
 exact Subscript_ (ziQ ha hb I h fun v u s2 x y H2 I2 rx ry q=>hr a b pins s2 σ H2 x y v u Q I2 rx ry q (hs _ _))
noncomputable def zt9 (K:PySem.W.Frag):R2:=fun x y H Q=>∃ p xs i v,x = .ref p∧y = .int i∧SqL K H p xs∧atI xs i=some v∧Q v H
noncomputable def zqy (K:PySem.W.Frag):R2:=fun x y H Q=>∃ p xs i v,x = .ref p∧y = .int i∧SqT K H p xs∧atI xs i=some v∧Q v H
theorem zuG:IxR X (zt9 X.K):=by
 intro value slice pins s σ H x y v u Q I rx ry h hs
 obtain ⟨p,xs,i,z,rfl,rfl,hq,he,q⟩:=h
 cases rx
 obtain ⟨t,rfl⟩:=ry
 obtain ⟨its,r,pl,hz⟩:=I.list hq
 obtain ⟨j,h1,h2,h3,h4,h5⟩:=zkF he
 obtain ⟨w,ew,rw'⟩:=r.get h2
 have hl:=r.length
 have hn:=zg0
 have fin:EP X pins σ Q w s:=⟨z,H,I,rw',q⟩
 by_cases h0:0<=i
 . have hj:i.toNat=j:=by
     rw [seqIndex_of h0 h5]at h1
     exact Option.some.inj h1
   exact item_listR pl.isList h0 ω (by rw [hj];simpa using ew) fin hs
 . have hj:(i+(its.toArray.size:Int)).toNat=j:=by
     rw [seqIndex_neg ω h4]at h1
     rw [List.size_toArray,<- hl]
     exact Option.some.inj h1
   exact subscriptTail_builtinR (x:=w) pl.isList.typeIs slot_list_getitem.lookup
     (wpAny_getItem_list_neg (Q:=fun r s'=>r=w∧EP X pins σ Q r s') pl.isList ω (by rw [List.size_toArray] <;> omega) ω (by rw [hj];simpa using ew) ⟨rfl,fin⟩) hs
theorem zuE:IxR X (zqy X.K):=by
 intro value slice pins s σ H x y v u Q I rx ry h hs
 obtain ⟨p,xs,i,z,rfl,rfl,hq,he,q⟩:=h
 cases rx
 obtain ⟨t,rfl⟩:=ry
 obtain ⟨its,r,pl,hz⟩:=I.tuple hq
 obtain ⟨j,h1,h2,h3,h4,h5⟩:=zkF he
 obtain ⟨w,ew,rw'⟩:=r.get h2
 have hl:=r.length
 have hn:=zg0
 have fin:EP X pins σ Q w s:=⟨z,H,I,rw',q⟩
 exact subscriptTail_builtinR (x:=w) pl.typeIs slot_tuple_getitem.lookup
   (getItem_tuple (j:=j) (Q:=fun r s'=>r=w∧EP X pins σ Q r s') pl ω ω (by rw [List.size_toArray,<- hl];exact h1) (by simpa using ew) ⟨rfl,fin⟩) hs
theorem zpO (its:List Value) (n j:Nat) (u:Value):Obj.mapSeq (·.setIfInBounds j u) { cls := .type "list",data := .seq its.toArray n }={ cls := .type "list",data := .seq (its.set j u).toArray n }:=by
 simp [Obj.mapSeq]
theorem Inv.lst {pins:List (Addr×Obj)}{σ:St}{H:Hp}{s:Shared}{p:Addr}{xs:List V} (I:Inv X pins σ H s) (h:H p=some (.lst xs)) :
   ∃ (its:List Value) (n:Nat),zr xs its∧s.heap.get? p=some { cls := .type "list",data := .seq its.toArray n }∧xs.length<=sizeLine:=by
 obtain ⟨z,its,n,r,e⟩:=I.hok p _ h
 exact ⟨its,n,r,e,z⟩
theorem Inv.lstUpd {pins:List (Addr×Obj)}{σ:St}{H:Hp}{s:Shared}{p:Addr}{xs ys:List V}{its its':List Value}{n n':Nat}{f:Obj->Obj} (I:Inv X pins σ H s) (h:H p=some (.lst xs))
   (ho:s.heap.get? p=some { cls := .type "list",data := .seq its.toArray n }) (hf:f { cls := .type "list",data := .seq its.toArray n }={ cls := .type "list",data := .seq its'.toArray n' }) (r:zr ys its') (hz:ys.length<=sizeLine) (t:Nat) :
   Inv X pins σ (upd H p (.lst ys)) { s with heap:=s.heap.update p f,toks:=t }:=by
 have e:(s.heap.update p f).get? p=some { cls := .type "list",data := .seq its'.toArray n' }:=by
   rw [Heap.get?_update_self f ho (by rw [hf] <;> rfl),hf]
 refine I.write (x:=p) (e:=p) (by rw [h];trivial) (.inl rfl) (fun b u hb q=>(Heap.get?_update_other _ _ (Ne.symm hb)).trans q) ⟨_,e⟩ ?_
 exact ⟨hz,its',n',r,e⟩
noncomputable def zr1:V->V->V->Hp->(Hp->Prop)->Prop:=fun o i v H Q=>∃ p xs k j,o = .ref p∧i = .int k∧H p=some (.lst xs)∧ixN xs.length k=some j∧Q (upd H p (.lst (xs.set j v)))
theorem ztq:zgd X zr1:=by
 intro pins s σ H o i v ov iv u Q I ro ri rv h
 obtain ⟨p,xs,k,j,rfl,rfl,hp,hj,q⟩:=h
 cases ro
 obtain ⟨t,rfl⟩:=ri
 obtain ⟨its,n,r,ho,hz⟩:=I.lst hp
 obtain ⟨h1,h2,h3,h4⟩:=zmC hj
 have hl:=r.length
 have hn:=zg0
 have I':Inv X pins σ (upd H p (.lst (xs.set j v))) { s with heap:=s.heap.update p (Obj.mapSeq (·.setIfInBounds j u)) } :=
   I.lstUpd hp ho (zpO its n j u) (r.set rv j) (by rw [List.length_set];exact hz) s.toks
 by_cases h0:0<=k
 . have hk:k.toNat=j:=by
     rw [seqIndex_of h0 h4]at h1
     exact Option.some.inj h1
   exact PySem.W.ki_setAt ho h0 ω (by rw [List.size_toArray,<- hl];exact h4) (by rw [hk];exact ⟨_,I',q⟩)
 . have hk:(k+(its.toArray.size:Int)).toNat=j:=by
     rw [seqIndex_neg ω h3]at h1
     rw [List.size_toArray,<- hl]
     exact Option.some.inj h1
   exact PySem.W.ki_setBack ho ω (by rw [List.size_toArray,<- hl];exact h3) ω (by rw [hk];exact ⟨_,I',q⟩)
theorem zrs (lo hi:Option Int) (n:Nat):(sliceBounds lo hi none n).1=((HT.sIx n 0 lo:Nat):Int)∧(sliceBounds lo hi none n).2.1=((HT.sIx n n hi:Nat):Int)∧(sliceBounds lo hi none n).2.2=1:=by
 refine ⟨?_,?_,rfl⟩
 . cases lo with
   | none=>simp [sliceBounds,HT.sIx]
   | some i =>
     simp only [sliceBounds,HT.sIx,Option.getD_none,show (1:Int) > 0 by decide,if_true]
     by_cases h:i < 0
     . simp only [h,if_true] <;> omega
     . simp only [h,if_false] <;> omega
 . cases hi with
   | none=>simp [sliceBounds,HT.sIx]
   | some i =>
     simp only [sliceBounds,HT.sIx,Option.getD_none,show (1:Int) > 0 by decide,if_true]
     by_cases h:i < 0
     . simp only [h,if_true] <;> omega
     . simp only [h,if_false] <;> omega
theorem ztf (its:List Value) (lo hi:Option Int):slicePick its.toArray lo hi none=((its.drop (HT.sIx its.length 0 lo)).take (HT.sIx its.length its.length hi - HT.sIx its.length 0 lo)).toArray:=by
 obtain ⟨h1,h2,h3⟩:=zrs lo hi its.toArray.size
 unfold slicePick
 rw [h1,h2,h3]
 simp only [sliceRange_one,pick_run,List.size_toArray] <;> rfl
noncomputable def zqn (K:PySem.W.Frag):V->Option Int->Option Int->Hp->VK->Prop:=fun x lo hi H Q=>∃ a xs,x = .ref a∧SqL K H a xs∧∀ p,H p=none->Q (.ref p) (upd H p (.lst (cutV xs lo hi)))
theorem ztQ:SlR X (zqn X.K):=by
 intro pins s σ H x v vl vu lo hi sl Q I rx hs pl pu h
 obtain ⟨a,xs,rfl,hx,q⟩:=h
 cases rx
 obtain ⟨its,r,ht,hz⟩:=I.list hx
 have hlen:=r.length
 refine ⟨"list",_,slot_list_getitem.lookup,ht.isList.typeIs,?_⟩
 refine wpAny_getItem_list_slice ht.isList hs pl pu .none ς ?_ (by rw [List.size_toArray] <;> omega)
 rw [ztf,<- hlen]
 refine ⟨.ref s.heap.objs.size,_,I.laid (t':=s.toks) (o := .lst (cutV xs lo hi)) (fun b ob q=>Heap.get?_push_of_some _ q) (Nat.le_refl _) ?_,rfl,q _ (I.hok.fresh (Nat.le_refl _))⟩
 exact ⟨Nat.le_trans (zlS xs lo hi) hz,_,0,(r.drop (HT.sIx xs.length 0 lo)).take (HT.sIx xs.length xs.length hi - HT.sIx xs.length 0 lo),Heap.get?_push_size _ rfl⟩
noncomputable def zbJ:V->Bool
 | .non=>true
 | .bl _=>true
 | .int _=>true
 | .str _=>true
 | _=>false
noncomputable def eqV:V->V->Bool
 | .non,.non=>true
 | .bl a,.bl b=>a == b
 | .bl a,.int b=>(if a then 1 else 0) == b
 | .int a,.bl b=>a == (if b then 1 else 0)
 | .int a,.int b=>a == b
 | .str a,.str b=>a == b
 | _,_=>false
theorem zjP {A:Around}{s:Shared}{y x:V}{u v:Value} (ry:zo y u) (rx:zo x v) (fy:zbJ y=true) (fx:zbJ x=true):SeqAt.EqAt A s u v (eqV y x):=by
 cases y with
 | non =>
   cases ry
   cases x with
   | non=>cases rx;exact SeqAt.EqAt.same _
   | bl b=>cases rx;exact SeqAt.EqAt.none_bool b
   | int b=>obtain ⟨t,rfl⟩:=rx;exact SeqAt.EqAt.none_int b t
   | str b=>obtain ⟨t,rfl⟩:=rx;exact SeqAt.EqAt.none_str b t
   | _=>exact absurd (show false=true from fx) Bool.false_ne_true
 | bl a =>
   cases ry
   cases x with
   | non=>cases rx;exact SeqAt.EqAt.bool_none a
   | bl b=>cases rx;exact SeqAt.EqAt.bool_bool a b
   | int b=>obtain ⟨t,rfl⟩:=rx;exact SeqAt.EqAt.bool_int a b t
   | str b=>obtain ⟨t,rfl⟩:=rx;exact SeqAt.EqAt.bool_str a b t
   | _=>exact absurd (show false=true from fx) Bool.false_ne_true
 | int a =>
   obtain ⟨t',rfl⟩:=ry
   cases x with
   | non=>cases rx;exact SeqAt.EqAt.int_none a t'
   | bl b=>cases rx;exact SeqAt.EqAt.int_bool a t' b
   | int b=>obtain ⟨t,rfl⟩:=rx;exact SeqAt.EqAt.int_int a t' b t
   | str b=>obtain ⟨t,rfl⟩:=rx;exact SeqAt.EqAt.int_str a t' b t
   | _=>exact absurd (show false=true from fx) Bool.false_ne_true
 | str a =>
   obtain ⟨t',rfl⟩:=ry
   cases x with
   | non=>cases rx;exact SeqAt.EqAt.str_none a t'
   | bl b=>cases rx;exact SeqAt.EqAt.str_bool a t' b
   | int b=>obtain ⟨t,rfl⟩:=rx;exact SeqAt.EqAt.str_int a t' b t
   | str b=>obtain ⟨t,rfl⟩:=rx;exact SeqAt.EqAt.str_str a t' b t
   | _=>exact absurd (show false=true from fx) Bool.false_ne_true
 | _=>exact absurd (show false=true from fy) Bool.false_ne_true
noncomputable def eqU (x:V) (u:Value):Bool:=match u with
 | .none=>eqV .non x
 | .bool b=>eqV (.bl b) x
 | .int i _=>eqV (.int i) x
 | .str z _=>eqV (.str z) x
 | _=>false
theorem zlH {x y:V}{u:Value} (r:zo y u) (f:zbJ y=true):eqU x u=eqV y x:=by
 cases y with
 | non=>cases r;rfl
 | bl b=>cases r;rfl
 | int i=>obtain ⟨t,rfl⟩:=r;rfl
 | str z=>obtain ⟨t,rfl⟩:=r;rfl
 | _=>exact absurd (show false=true from f) Bool.false_ne_true
theorem zg5 {x:V}:∀ {xs:List V}{us:List Value},zr xs us->xs.all zbJ=true->us.any (eqU x)=xs.any fun y=>eqV y x
 | _,_,.nil,_=>rfl
 | y :: xs,u :: us,.cons r t,f=>by
   rw [List.all_cons,Bool.and_eq_true]at f
   rw [List.any_cons,List.any_cons,zlH r f.1,zg5 t f.2]
theorem zgX {A:Around}{s:Shared}{x:V}{v:Value} (rx:zo x v) (fx:zbJ x=true):∀ {xs:List V}{us:List Value},zr xs us->xs.all zbJ=true->∀ u∈us,SeqAt.EqAt A s u v (eqU x u)
 | _,_,.nil,_=>fun u hu=>by cases hu
 | y :: xs,u :: us,.cons r t,f=>fun u' hu=>by
   rw [List.all_cons,Bool.and_eq_true]at f
   rcases List.mem_cons.mp hu with rfl | hu
   . rw [zlH r f.1];exact zjP r rx f.1 fx
   . exact zgX rx fx t f.2 u' hu
noncomputable def inV (x:V) (xs:List V):Bool:=xs.any fun y=>eqV y x
noncomputable def rIn (K:PySem.W.Frag) (neg:Bool):R2:=fun x y H Q=>∃ p xs,y = .ref p∧(SqL K H p xs∨SqT K H p xs)∧zbJ x=true∧xs.all zbJ=true∧Q (.bl (if neg then !inV x xs else inV x xs)) H
theorem zrx:OpR X (compareOp .In) (rIn X.K false):=by
 intro pins s σ H x y v u Q I rx ry h
 obtain ⟨p,xs,rfl,hq,fx,fs,q⟩:=h
 cases ry
 rcases hq with hq | hq
 . obtain ⟨its,r,pl,hz⟩:=I.list hq
   refine SeqAt.in_listAt (eqU x) pl.isList (fun w hw=>zgX rx fx r fs w (by simpa using hw)) ⟨.bl _,H,I,rfl,?_⟩
   rw [show its.toArray.any (eqU x)=its.any (eqU x) by simp,zg5 r fs]
   exact q
 . obtain ⟨its,r,pl,hz⟩:=I.tuple hq
   refine SeqAt.in_tupleAt (eqU x) pl (fun w hw=>zgX rx fx r fs w (by simpa using hw)) ⟨.bl _,H,I,rfl,?_⟩
   rw [show its.toArray.any (eqU x)=its.any (eqU x) by simp,zg5 r fs]
   exact q
theorem zuB:OpR X (compareOp .NotIn) (rIn X.K true):=by
 intro pins s σ H x y v u Q I rx ry h
 obtain ⟨p,xs,rfl,hq,fx,fs,q⟩:=h
 cases ry
 rcases hq with hq | hq
 . obtain ⟨its,r,pl,hz⟩:=I.list hq
   refine SeqAt.notIn_listAt (eqU x) pl.isList (fun w hw=>zgX rx fx r fs w (by simpa using hw)) ⟨.bl _,H,I,rfl,?_⟩
   rw [show its.toArray.any (eqU x)=its.any (eqU x) by simp,zg5 r fs]
   exact q
 . obtain ⟨its,r,pl,hz⟩:=I.tuple hq
   refine SeqAt.notIn_tupleAt (eqU x) pl (fun w hw=>zgX rx fx r fs w (by simpa using hw)) ⟨.bl _,H,I,rfl,?_⟩
   rw [show its.toArray.any (eqU x)=its.any (eqU x) by simp,zg5 r fs]
   exact q
theorem zmD:zdk X (.builtin "len") (fun xs H Q=>∃ p ys,xs=[.ref p]∧(SqL X.K H p ys∨SqT X.K H p ys)∧Q (.int ys.length) H):=by
 intro pins s σ H xs us Q I r h
 obtain ⟨p,ys,rfl,hq,q⟩:=h
 obtain ⟨u,rfl,rx⟩:=zer r
 cases rx
 have hn:=zg0
 rcases hq with hq | hq
 . obtain ⟨its,r',pl,hz⟩:=I.list hq
   have hlen:=r'.length
   exact Calls.call_len_list pl.isList (by simp only [List.size_toArray] <;> omega) ⟨.int ys.length,H,I.tok _,⟨s.toks+1,by rw [List.size_toArray,hlen]⟩,q⟩
 . obtain ⟨its,r',pl,hz⟩:=I.tuple hq
   have hlen:=r'.length
   exact len_tuple pl (by simp only [List.size_toArray] <;> omega) ⟨.int ys.length,H,I.tok _,⟨s.toks+1,by rw [List.size_toArray,hlen]⟩,q⟩
theorem zpX:zdk X (.type "list") (fun xs H Q=>∃ p ys,xs=[.ref p]∧(SqL X.K H p ys∨SqT X.K H p ys)∧∀ l,H l=none->Q (.ref l) (upd H l (.lst ys))):=by
 intro pins s σ H xs us Q I r h
 obtain ⟨p,ys,rfl,hq,q⟩:=h
 obtain ⟨u,rfl,rx⟩:=zer r
 cases rx
 have fin:∀ (its:List Value),zr ys its->ys.length<=sizeLine->∀ (h':Heap) (c':Nat),(∀ b o',s.heap.get? b=some o'->h'.get? b=some o') ->
     h'.get? s.heap.objs.size=some { cls := .type "list",dict:=none,data := .seq its.toArray c',slots:=#[] }->EP X pins σ Q (.ref s.heap.objs.size) { s with heap:=h' }:=fun its r' hz h' c' kp e =>
   ⟨.ref s.heap.objs.size,_,I.laid (t':=s.toks) kp (Nat.le_refl _) (show z8 X.prog X.w _ h' _ (.lst ys) from ⟨hz,its,c',r',e⟩),rfl,q _ (I.hok.fresh (Nat.le_refl _))⟩
 rcases hq with hq | hq
 . obtain ⟨its,r',pl,hz⟩:=I.list hq
   have hlen:=r'.length
   obtain ⟨o,ho,hc,n,hd⟩:=pl.isList
   exact call_list_seq p (.inl rfl) ho hc hd (fun h' c' kp e=>fin its r' hz h' c' kp e) (by simp only [List.size_toArray] <;> omega)
 . obtain ⟨its,r',pl,hz⟩:=I.tuple hq
   have hlen:=r'.length
   obtain ⟨o,ho,hc,n,hd⟩:=pl
   exact call_list_seq p (.inr rfl) ho hc hd (fun h' c' kp e=>fin its r' hz h' c' kp e) (by simp only [List.size_toArray] <;> omega)
noncomputable def tyV (K:PySem.W.Frag) (T:String) (x:V) (H:Hp):Prop:=match x with
 | .str _=>T = "str"
 | .int _=>T = "int"
 | .ref p=>(T = "list" ∧ ∃ xs,SqL K H p xs)∨(T = "tuple" ∧ ∃ o,K.lookup p=some o∧o.cls = .type "tuple" ∧ o.dict=none) ∨
     (T = "dict" ∧ ((∃ kvs,H p=some (.dK kvs))∨∃ kvs,H p=some (.dT kvs)))∨(T = "set" ∧ ∃ S n,H p=some (.set S n))
 | _=>False
theorem zhN {pins:List (Addr×Obj)}{σ:St}{H:Hp}{s:Shared}{T:String}{x:V}{v:Value} (I:Inv X pins σ H s) (r:zo x v) (ty:tyV X.K T x H) :
   s.TypeIs v T∧∀ a,v = .ref a->∃ ob,s.heap.get? a=some ob∧ob.dict=none:=by
 cases x with
 | str z =>
   obtain ⟨t,rfl⟩:=r
   cases (show T = "str" from ty)
   exact ⟨typeIs_str s z t,fun _ e=>nomatch e⟩
 | int i =>
   obtain ⟨t,rfl⟩:=r
   cases (show T = "int" from ty)
   exact ⟨typeIs_int s i t,fun _ e=>nomatch e⟩
 | ref p =>
   cases r
   rcases ty with ⟨rfl,xs,hq⟩ | ⟨rfl,o,hk,hc,hd⟩ | ⟨rfl,hk⟩ | ⟨rfl,S,n,hk⟩
   . obtain ⟨its,_,pl,_⟩:=I.list hq
     refine ⟨pl.isList.typeIs,fun a e=>?_⟩
     cases e
     obtain ⟨o,n,e,c,hd,_⟩:=pl
     exact ⟨o,e,hd⟩
   . refine ⟨⟨o,I.kIn p o hk,hc⟩,fun a e=>?_⟩
     cases e
     exact ⟨o,I.kIn _ o hk,hd⟩
   . have z:∃ o,s.heap.get? p=some o∧o.ExactDict:=by
       rcases hk with ⟨kvs,hk⟩ | ⟨kvs,hk⟩
       . obtain ⟨_,_,_,_,o,_,_,e,ex,_⟩:=I.hok p _ hk
         exact ⟨o,e,ex⟩
       . obtain ⟨_,_,_,_,o,_,_,e,ex,_⟩:=I.hok p _ hk
         exact ⟨o,e,ex⟩
     obtain ⟨o,e,ex⟩:=z
     refine ⟨⟨o,e,ex.1⟩,fun a e2=>?_⟩
     cases e2
     exact ⟨o,e,ex.2.1⟩
   . obtain ⟨o,_,_,_,e,ex,_⟩:=I.hok p _ hk
     refine ⟨⟨o,e,ex.1⟩,fun a e2=>?_⟩
     cases e2
     exact ⟨o,e,ex.2.1⟩
 | _=>exact False.elim ty
noncomputable def zrS (K:PySem.W.Frag) (T:String) (r:V->List V->Hp->VK->Prop) (to:TE):TE:=fun σ H Q=>to σ H fun x H1=>tyV K T x H1∧r x [] H1 Q
noncomputable def tBM (K:PySem.W.Frag) (T:String) (r:V->List V->Hp->VK->Prop) (to:TE) (t:TA):TE:=fun σ H Q=>to σ H fun x H1=>tyV K T x H1∧t σ H1 fun xs H2=>r x xs H2 Q
variable {o e:Expr}{es:List Expr}{to:TE}{t:TA}{name:Str}{apos cpos:Pos}{T id:String}{r:V->List V->Hp->VK->Prop}
theorem zpP (pa:PlainAttrs T) (slot:Slot T name id) (hty:typeOf (.builtin id)=pure (.type "method_descriptor")) (hm:MtR X id r) (ho:PE X o to)
   (hbase:attributeBase o name X.env (eval o X.env)=eval o X.env:=by rfl) (hline:(apos.endLine == cpos.line)=true:=by rfl):PE X (.Call (.Attribute o name apos) [] [] cpos) (zrS X.K T r to):=by
 intro pins s σ H Q I h
 refine wpAny_Call_method0_late hbase hline (thn (ho pins s σ H _ I h) fun v s1 ⟨x,H1,I1,r1,ty,q1⟩=>?_)
 obtain ⟨h1,h2⟩:=zhN I1 r1 ty
 exact ⟨T,id,pa,slot,hty,h1,h2,Calls.callWith_builtin rfl (PySem.evalArgs_none (hm pins s1 σ H1 x [] v [] Q I1 r1 .nil q1))⟩
theorem zp8 (pa:PlainAttrs T) (slot:Slot T name id) (hty:typeOf (.builtin id)=pure (.type "method_descriptor")) (hm:MtR X id r) (ho:PE X o to) (ha:PA X (e :: es) t)
   (hbase:attributeBase o name X.env (eval o X.env)=eval o X.env:=by rfl)
   (hfew:((backTo cpos (starEach (e :: es) X.env)).all (fun x=>!x.1) && (backToKw cpos (keywordEach [] X.env)).all (fun x=>x.1.isSome)
     && decide ((e :: es).length+([]:List Keyword).length+(if ([]:List Keyword).isEmpty then 0 else 1) < 30))=true:=by rfl)
   (hline:(apos.endLine == cpos.line)=true:=by rfl) (hs:starEach (e :: es) X.env=(false,eval e X.env) :: starEach es X.env:=by rfl) (hplain:(backTo cpos (starEach es X.env)).any (·.1)=false:=by rfl) :
   PE X (.Call (.Attribute o name apos) (e :: es) [] cpos) (tBM X.K T r to t):=by
 intro pins s σ H Q I h
 refine wpAny_Call_method_late hbase hfew hline rfl (thn (ho pins s σ H _ I h) fun v s1 ⟨x,H1,I1,r1,ty,q1⟩=>?_)
 obtain ⟨h1,h2⟩:=zhN I1 r1 ty
 refine ⟨T,id,pa,slot,hty,h1,h2,?_⟩
 have hA:=ha cpos pins s1 σ H1 _ I1 q1
 rw [hs]at hA ⊢
 refine Calls.callWith_builtin (by show (false || (backTo cpos (starEach es X.env)).any (·.1))=false;rw [hplain] <;> rfl) (Calls.evalArgs_plain ?_)
 exact thn hA fun us s2 ⟨vs,H2,I2,r2,q2⟩=>hm pins s2 σ H2 x vs v us Q I2 r1 r2 q2
end
end L2
namespace L2
open PySem PySem.Spec PyProof.Rows
noncomputable def MtM (X:Cx) (id:String) (r:V->List V->Hp->VK->Prop):Prop :=
 ∀ (pins:List (Addr×Obj)) (s:Shared) (σ:St) (H:Hp) (x:V) (xs:List V) (v:Value) (us:List Value) (Q:VK),Inv X pins σ H s->zo x v->zr xs us->r x xs H Q ->
   wpAny (model X.prog X.w) X.A (call (.builtin id) (v :: us)) (EP X pins σ Q) X.xe s
theorem zr.one:∀ {x:V}{us:List Value},zr [x] us->∃ u,us=[u]∧zo x u
 | _,_,.cons r .nil=>⟨_,rfl,r⟩
theorem zr.zero:∀ {us:List Value},zr [] us->us=[]
 | _,.nil=>rfl
theorem zr.reverse {xs:List V}{us:List Value} (h:zr xs us):zr xs.reverse us.reverse:=by
 induction h with
 | nil=>exact .nil
 | cons r t ih=>rw [List.reverse_cons,List.reverse_cons];exact zr.append ih (.cons r .nil)
theorem zr.rep {xs:List V}{us:List Value} (h:zr xs us):∀ k:Nat,zr (List.replicate k xs).flatten (List.replicate k us).flatten
 | 0=> .nil
 | k+1=>by
   rw [List.replicate_succ,List.replicate_succ,List.flatten_cons,List.flatten_cons]
   exact zr.append h (zr.rep h k)
theorem zkD (its:List Value):∀ (k:Nat) (acc:List Value),
   List.foldl (fun x1 x2=>x1++x2) acc.toArray (List.replicate k its.toArray)=(acc++(List.replicate k its).flatten).toArray
 | 0,acc=>by simp
 | k+1,acc=>by
   have e:acc.toArray++its.toArray=(acc++its).toArray:=by simp
   have e2:(acc++its)++(List.replicate k its).flatten=acc++(List.replicate (k+1) its).flatten:=by
     rw [List.replicate_succ,List.flatten_cons,List.append_assoc]
   rw [<- e2,<- zkD its k (acc++its),<- e,List.replicate_succ,List.foldl_cons]
section
variable {X:Cx}{pins:List (Addr×Obj)}{σ:St}{H:Hp}{s:Shared}{l b:Addr}{xs ys zs:List V}
theorem Inv.lset {its its':List Value}{n:Nat}{f:Array Value->Array Value}{t':Nat} (I:Inv X pins σ H s) (hH:H l=some (.lst xs))
   (e:s.heap.get? l=some { cls := .type "list",data := .seq its.toArray n }) (hf:f its.toArray=its'.toArray) (hv:zr ys its') (hz:ys.length<=sizeLine) :
   Inv X pins σ (upd H l (.lst ys)) { s with heap:=s.heap.update l (Obj.mapSeq f),toks:=t' }:=by
 have q:=PySem.IsL.update e f
 rw [hf]at q
 refine I.write (x:=l) (e:=l) (by rw [hH];exact trivial) (.inl rfl) (fun b' u hb hu=>(Heap.get?_update_other s.heap (Obj.mapSeq f) (Ne.symm hb)).trans hu) ⟨_,q⟩ ?_
 exact ⟨hz,its',_,hv,q⟩
theorem Inv.lnew {its:List Value}{t':Nat} (I:Inv X pins σ H s) (hv:zr ys its) (hz:ys.length<=sizeLine) :
   Inv X pins σ (upd H s.heap.objs.size (.lst ys)) { s with heap:=s.heap.push { cls := .type "list",data := .seq its.toArray },toks:=t' } :=
 I.laid (fun _ _ q=>Heap.get?_push_of_some _ q) (Nat.le_refl _) ⟨hz,its,0,hv,Heap.get?_push_size _ rfl⟩
theorem Inv.fresh (I:Inv X pins σ H s):H s.heap.objs.size=none:=I.hok.fresh (Nat.le_refl _)
theorem Inv.lstM (I:Inv X pins σ H s) (hH:H l=some (.lst xs)):xs.length<=sizeLine∧∃ (its:List Value) (n:Nat),zr xs its∧xs.length=its.length∧s.heap.get? l=some { cls := .type "list",data := .seq its.toArray n }:=by
 obtain ⟨z,its,n,r,e⟩:=I.hok l _ hH
 exact ⟨z,its,n,r,r.length,e⟩
theorem ztd {n:Nat} (h:n<=sizeLine):Builtin.List.listTooLong n=false:=by
 unfold Builtin.List.listTooLong
 exact decide_eq_false ω
end
section
variable {X:Cx}
noncomputable def ztK:V->List V->Hp->VK->Prop:=fun x vs H Q=>∃ l xs y,x = .ref l∧vs=[y]∧H l=some (.lst xs)∧xs.length < sizeLine∧Q .non (upd H l (.lst (xs++[y])))
theorem zjK:MtM X "list.append" ztK:=by
 intro pins s σ H x vs v us Q I rx rv h
 obtain ⟨l,xs,y,rfl,rfl,hH,hz,q⟩:=h
 cases rx
 obtain ⟨u,rfl,ru⟩:=rv.one
 obtain ⟨z,its,n,r,hl,e⟩:=I.lstM hH
 refine call_meets F.slot_list_append ⟨_,e,rfl⟩ F.entry_list_append (F.args_list_append_2 _ _) (PySem.list_append l its.toArray n u (by rw [List.size_toArray];omega)) ⟨e,?_⟩
 refine ⟨.non,_,I.lset (its':=its++[u]) hH e ς (r.append (.cons ru .nil)) ?_,rfl,q⟩
 rw [List.length_append,List.length_singleton]
 omega
noncomputable def zs5:V->List V->Hp->VK->Prop:=fun x vs H Q=>∃ l xs,x = .ref l∧vs=[]∧H l=some (.lst xs)∧Q .non (upd H l (.lst xs.reverse))
theorem zt4:MtM X "list.reverse" zs5:=by
 intro pins s σ H x vs v us Q I rx rv h
 obtain ⟨l,xs,rfl,rfl,hH,q⟩:=h
 cases rx
 have hus:=rv.zero
 subst hus
 obtain ⟨z,its,n,r,hl,e⟩:=I.lstM hH
 refine call_meets F.slot_list_reverse ⟨_,e,rfl⟩ F.entry_list_reverse (F.args_list_reverse_1 _) (AutoSeq1.list_reverse_list_0 l its.toArray n (by rw [List.size_toArray];omega)) ⟨e,?_⟩
 refine ⟨.non,_,I.lset (its':=its.reverse) hH e ς r.reverse ?_,rfl,q⟩
 rw [List.length_reverse]
 omega
noncomputable def zlp:R2:=fun x y H Q=>∃ l b xs zs,x = .ref l∧y = .ref b∧H l=some (.lst xs)∧H b=some (.lst zs)∧xs.length+zs.length<=sizeLine∧∀ p,H p=none->Q (.ref p) (upd H p (.lst (xs++zs)))
theorem zl0:OpR X (binaryOp .Add) zlp:=by
 intro pins s σ H x y v u Q I rx ry h
 obtain ⟨l,b,xs,zs,rfl,rfl,hH,hB,hz,q⟩:=h
 cases rx
 cases ry
 obtain ⟨z,its,n,r,hl,e⟩:=I.lstM hH
 obtain ⟨z2,its2,n2,r2,hl2,e2⟩:=I.lstM hB
 refine PySem.P.add_list e e2 ?_ (by rw [List.size_toArray,List.size_toArray];omega)
 have ea:its.toArray++its2.toArray=(its++its2).toArray:=by simp
 rw [ea]
 exact ⟨.ref _,_,I.lnew (t':=s.toks) (r.append r2) (by rw [List.length_append];omega),rfl,q _ I.fresh⟩
noncomputable def zr0:R2:=fun x y H Q=>∃ l k xs,x = .ref l∧y = .int k∧H l=some (.lst xs)∧-(2 ^ 63)<=k∧k < 2 ^ 63∧xs.length * k.toNat<=sizeLine ∧
 ∀ p,H p=none->Q (.ref p) (upd H p (.lst (List.replicate k.toNat xs).flatten))
theorem zr2 {α:Type} (xs:List α) (k:Nat):(List.replicate k xs).flatten.length=k * xs.length:=by
 induction k with
 | zero=>simp
 | succ k ih=>rw [List.replicate_succ,List.flatten_cons,List.length_append,ih,Nat.succ_mul,Nat.add_comm]
theorem zra:OpR X (binaryOp .Mult) zr0:=by
 intro pins s σ H x y v u Q I rx ry h
 obtain ⟨l,k,xs,rfl,rfl,hH,h1,h2,hz,q⟩:=h
 cases rx
 obtain ⟨t,rfl⟩:=ry
 obtain ⟨z,its,n,r,hl,e⟩:=I.lstM hH
 have hlen:its.toArray.size * k.toNat<=sizeLine:=by rw [List.size_toArray,<- hl];exact hz
 have hcap:¬ its.toArray.size * k.toNat > (2 ^ 63 - 1) / 8:=by
   have:(sizeLine:Nat)<=(2 ^ 63 - 1) / 8:=by decide
   omega
 have hfit:¬ (!Builtin.List.listFitsIndex k)=true:=by
   rw [fitsIndex_both h1 h2]
   exact Bool.false_ne_true
 have hlong:¬ Builtin.List.listTooLong (its.toArray.size * k.toNat)=true:=by
   rw [ztd hlen]
   exact Bool.false_ne_true
 have hnew:List.foldl (fun x1 x2=>x1++x2) #[] (List.replicate (if its.toArray.isEmpty=true then 0 else k.toNat) its.toArray)=(List.replicate k.toNat its).flatten.toArray:=by
   have f0:∀ m:Nat,List.foldl (fun x1 x2=>x1++x2) #[] (List.replicate m its.toArray)=(List.replicate m its).flatten.toArray:=fun m=>by
     have:=zkD its m []
     rw [List.nil_append]at this
     exact this
   rw [f0]
   cases its with
   | nil=>simp
   | cons a r'=>rw [if_neg ς]
 refine wpAny_binaryOp_repeat_ref (T :="list") (U :="int") ϑ ⟨_,e,rfl⟩ (fun s'=>typeIs_int s' k t) noFill_list_mul F.fills_int_mul F.slot_int_rmul repeat_list F.slot_int_index.lookup
   (call_meets F.slot_int_rmul (typeIs_int s k t) F.entry_int_rmul (F.args_int_rmul_2 _ _) (int___rmul___int_list k t l its.toArray n)
     ⟨e,rfl,⟨_,e,rfl⟩,call_meets F.slot_list_mul ⟨_,e,rfl⟩ F.entry_list_mul (F.args_list_mul_2 _ _) (AutoListH.list___mul___list_int_3 l its.toArray n k t hfit hcap hlong) ⟨e,?_⟩⟩)
 rw [hnew]
 exact ⟨.ref _,_,I.lnew (t':=s.toks) (r.rep k.toNat) (by rw [zr2,Nat.mul_comm];exact hz),rfl,q _ I.fresh⟩
end
section
variable {prog:Program}{w:World}{A:Around}{E:Value->Shared->Prop}{s:Shared}
end
section
variable {X:Cx}
end
end L2
namespace Att
open PySem PySem.W PySem.Calls PyProof.Rows
theorem zqH {P:Params}{h:Heap}:∀ (ns:List Int) (vs:List Value),WellAll P h vs (ns.map WData.int)->IntsAre vs ns:=by
 intro ns
 induction ns with
 | nil =>
   intro vs w
   rw [List.map_nil]at w
   cases w
   exact .nil
 | cons n ns ih =>
   intro vs w
   rw [List.map_cons]at w
   cases w with
   | cons a b =>
     cases a
     exact .cons _ _ (ih _ b)
theorem ztC {l:OpenLaw}{n:Nat} (hn:l.most=some n) {P:Params}{h:Heap}{args:List WData}{vals:List Value}
   (hpre:l.row.toRowW.claim.pre args=true) (hwl:WellAll P h vals args) :
   ∃ a vs ns,vals=[Value.ref a]∧args=[WData.list (ns.map WData.int)]∧h.get? a=some { cls := .type "list",data := .seq vs.toArray }∧IntsAre vs ns∧ns.length<=n:=by
 have hsh:WShape.hasAll [] args [.list .int]=true:=(pre_splitW hpre).1
 have hc:l.pre.holds [] { args:=args }=true:=(pre_splitW hpre).2
 obtain ⟨d,r,rfl,h1,h2⟩:=hasAllW_cons hsh
 obtain rfl:=hasAllW_nil h2
 obtain ⟨xs,rfl,h3⟩:=hasW_list h1
 obtain ⟨ns,rfl⟩:=items_int h3
 have hlen:ns.length<=n:=by
   unfold OpenLaw.pre at hc
   have h4:(WTm.not (.lt (.lit (.int (n:Int))) (.len (.arg 0)))).holds [] { args:=[.list (ns.map .int)] }=true:=by
     have h4:=(holds_andW hc).1
     rw [hn]at h4
     exact h4
   have h5:=condW_of h4 (w_not (w_lt w_lit (w_len_list (w_arg rfl))))
   rw [List.length_map]at h5
   refine Nat.le_of_not_lt fun q=>?_
   have q':(n:Int) < ((ns.length:Nat):Int):=by omega
   first
     | (rw [decide_eq_true q']at h5;exact absurd h5 ϑ)
     | (simp at h5;omega)
 cases hwl with
 | cons w1 w2 =>
   cases w2
   cases w1 with
   | list ho hall=>exact ⟨_,_,ns,rfl,rfl,ho,zqH ns _ hall,hlen⟩
theorem zpU (l:OpenLaw) (args:List WData):l.row.toRowW.claim.post args (.bool true) args=true :=
 postW_of (r:=l.row.toRowW) (X:=(true == true))
   (show WShape.has [] (.bool true) .bool=true by first | rfl | decide | simp [WShape.has,WShape.arms,WShape.armsAll])
   (show (WTm.eq .res (.lit (.bool true))).value [] { args:=args,res:=some (.bool true),after:=args }=some (.bool (true == true)) from w_eq_bool (w_res rfl) w_lit) rfl
theorem attach_call {l:OpenLaw}{n:Nat}{q:Program}{loose:List Str}{XP:(Str->Option Value)->Heap->Prop}{YP:World->Heap->Prop}{d:DefRec}
   (hn:l.most=some n) (hdf:d.params.defaults=[])
   (call:∀ (w:World) (s₀ s₁:Shared) (mg mb:Str->Option Value) (fa:Addr) (o:Obj) (pm cd doc:Value) (a:Addr) (vs:List Value) (ns:List Int),
     Ground q loose [] XP w s₀ mg mb s₁.heap->YP w s₁.heap ->
     s₁.heap.get? fa=some o->o.data = .func (docDef d.name d.params d.body d.scope pm cd doc)->s₁.heap.CodeRec cd d.name->mg d.name=some (.ref fa) ->
     s₁.heap.get? a=some { cls := .type "list",data := .seq vs.toArray }->IntsAre vs ns->ns.length<=n->s₁.gens=#[] ->
     codeAny (model l.prog w) callerA (.call (.ref fa) ⟨[.ref a],[]⟩) (fun r s'=>r = .ok (.ret (.bool true))∧OldK s₁.heap s'.heap∧s'.os=s₁.os∧AllBare s'.gens) s₁) :
   WalkO q loose XP YP l.row.toRowW d [] (fun f vs=>PySem.call f vs):=by
 intro w s₀ s₁ mg mb G Y fa o pm cd doc dV kV ho hd hcd hD hmg hg args vals as hpre hlay hrd hwl hlo
 obtain rfl:dV = .none:=Dflts.none hD hdf
 obtain rfl:kV = .none:=Dflts.noKw hD
 obtain ⟨a,vs,ns,rfl,rfl,hobj,hints,hlen⟩:=ztC hn hpre hwl
 refine enter_call (codeAny_mono (call w s₀ s₁ mg mb fa o pm cd doc a vs ns G Y ho (fd_plain hd) hcd hmg hobj hints hlen hg) fun r s' hq=>?_)
 obtain ⟨rfl,h2,h3,h4⟩:=hq
 exact ⟨.inl ⟨.bool true,.bool true,[],rfl,fun _=>rfl,.bool true,zpU l _,fun _=>⟨List.Pairwise.nil,fun _ hm=>(nomatch hm)⟩⟩,h2,h3,h4⟩
section
variable {prog:Program}{w:World}{A:Around}{E:Value->Shared->Prop}{s:Shared}{K:Frag}
end
end Att
namespace L2
open PySem PySem.Spec PyProof.Rows
theorem zjN:∀ {vs:List Value}{ns:List Int},IntsAre vs ns->zr (ns.map V.int) vs
 | _,_,.nil=> .nil
 | _,_,.cons n t h=> .cons ⟨t,rfl⟩ (zjN h)
noncomputable def zg9 (H:Hp):Prop:=∀ b,H b=none∨∃ o xs,H b=some (.frz o (.lst xs))
theorem zrC {P:Program}{w:World}{K:PySem.W.Frag}{mg mb:Str->Option Value}{CX:CXT}{k:Nat}{fa a:Addr}{fd:FuncData}{x:Str}{sp:Sp}{s₁:Shared}{vs:List Value}{ns:List Int}
   (KX:K.In s₁.heap) (hns:s₁.heap.Ns mainGlobals mg) (hb:s₁.heap.Ns builtinsNs mb) (hbb:∀ x:Str,x ≠ "__name__" -> mb x=bootBuiltins x) (hlim:s₁.heap.NoLimit) (hg:s₁.gens=#[])
   (ha:s₁.heap.get? a=some { cls := .type "list",data := .seq vs.toArray }) (hi:IntsAre vs ns) (hl:ns.length<=sizeLine) (hr:zO k callerA)
   (F:∀ base:Heap,K.In base->base.Ns mainGlobals mg->zM P w K mg base CX k fa fd [x] sp) (hbind:∀ (s:Shared) (u:Value),BindsTo s fd ⟨[u],[]⟩ [(x,u)])
   (hsp:∀ H:Hp,zg9 H->SqL K H a (ns.map V.int)->sp [.ref a] H (fun v _=>v = .bl true) fun _ _ _=>False)
   (hCX:∀ H e s',CX [] H s₁ (fun _ _ _=>False) e s'->False) :
   codeAny (model P w) callerA (.call (.ref fa) ⟨[.ref a],[]⟩) (fun r s'=>r = .ok (.ret (.bool true))∧OldK s₁.heap s'.heap∧s'.os=s₁.os∧AllBare s'.gens) s₁:=by
 have rv:=zjN hi
 have lenV:=hi.length
 have core:∀ H:Hp,zg9 H->SqL K H a (ns.map V.int)->HOk P w H s₁.heap->(∀ b,H b≠none->b=a)->(H a≠none->K.lookup a=none) ->
     codeAny (model P w) callerA (.call (.ref fa) ⟨[.ref a],[]⟩) (fun r s'=>r = .ok (.ret (.bool true))∧OldK s₁.heap s'.heap∧s'.os=s₁.os∧AllBare s'.gens) s₁:=by
   intro H hO hS hok hA hK
   have base_of:∀ {b:Addr} {o:Obj},s₁.heap.get? b=some o->H b=none->(zd3 s₁.heap H).get? b=some o:=fun e n=>zsG e n
   have noA:∀ {b:Addr} {o:Obj} {es:Array DictEntry} {ep:Nat},s₁.heap.get? b=some o->o.data = .dict es ep->H b=none:=fun {b o es ep} e d=>by
     cases q:H b with
     | none=>rfl
     | some u =>
       have e':b=a:=hA b (by rw [q];simp)
       subst e'
       rw [ha]at e;cases e
       have d':Data.seq vs.toArray _=Data.dict es ep:=d
       cases d'
   have nsK:∀ {b:Addr} {m:Str->Option Value},s₁.heap.Ns b m->(zd3 s₁.heap H).Ns b m:=fun {b m} ⟨o,es,ep,e,d,r⟩=>⟨o,es,ep,base_of e (noA e d),d,r⟩
   have hKb:K.In (zd3 s₁.heap H):=fun b o e=>base_of (KX b o e) (by
     cases q:H b with
     | none=>rfl
     | some u =>
       have e':b=a:=hA b (by rw [q];simp)
       subst e'
       rw [hK (by rw [q];simp)]at e;cases e)
   have hM:Mod K mg (zd3 s₁.heap H):=⟨hKb,nsK hns,⟨mb,nsK hb,hbb⟩,let ⟨mc,h1,h2⟩:=hlim;⟨mc,nsK h1,h2⟩⟩
   have e0:ze5 P w K mg (zd3 s₁.heap H) callerA [] s₁ H:=⟨rfl,hM,fun b o e=>zpF e,Nat.le_of_eq (zpV _ _),trivial,fun b hb=>absurd (show b∈([]:List Addr) from hb) ς,hok,.of_eq hg⟩
   refine codeAny_mono ((F _ hKb (nsK hns)).run callerA [] s₁ H ⟨[.ref a],[]⟩ [.ref a] [.ref a] _ _ hr e0 (hbind s₁ (.ref a)) (.cons rfl .nil) (hsp H hO hS)) fun r s' h=>?_
   cases r with
   | error e=>exact (hCX H e s' h).elim
   | ok fl =>
     cases fl with
     | next=>exact False.elim h
     | brk=>exact False.elim h
     | cont=>exact False.elim h
     | ret u =>
       obtain ⟨v,H',os,bare,un,hok',r',q⟩:=h
       have q':v = .bl true:=q
       subst q'
       obtain rfl:u=Value.bool true:=r'
       refine ⟨rfl,OldK.of_keep fun b o e=>?_,os,bare⟩
       cases q:H b with
       | none=>exact un.keep b o e q (by intro z;exact absurd (show b∈([]:List Addr) from z) ς) ς
       | some u =>
         rcases hO b with z | ⟨ob,xs,z⟩
         . rw [q]at z;cases z
         . have z2:=un.frzs b ob _ z
           obtain ⟨e1,_⟩:=hok b _ z
           obtain ⟨e2,_⟩:=hok' b _ z2
           rw [e]at e1;cases e1
           exact e2
 cases hk:K.lookup a with
 | some o =>
   have e:=KX a o hk
   rw [ha]at e
   cases e
   refine core (fun _=>none) (fun _=> .inl rfl) (.inr ⟨_,vs.toArray,_,hk,rfl,rfl,rfl,by rw [List.size_toArray,lenV];exact hl,by simpa using rv⟩) (fun b u z=>by have z':(none:Option HO)=some u:=z;cases z') (fun b z=>absurd rfl z) fun z=>absurd rfl z
 | none =>
   refine core (fun b=>if b=a then some (.frz { cls := .type "list",data := .seq vs.toArray } (.lst (ns.map V.int))) else none) (fun b=>?_) (.inl (.inr ⟨{ cls := .type "list",data := .seq vs.toArray },if_pos rfl⟩)) (fun b u z=>?_) (fun b z=>?_) fun _=>hk
   . by_cases hb:b=a
     . exact .inr ⟨_,_,if_pos hb⟩
     . exact .inl (if_neg hb)
   . by_cases hb:b=a
     . have z':=(if_pos hb).symm.trans z
       cases z'
       subst hb
       exact ⟨ha,by rw [List.length_map];exact hl,vs,_,rv,ha⟩
     . have z':=(if_neg hb).symm.trans z
       cases z'
   . by_cases hb:b=a
     . exact hb
     . exact absurd (if_neg hb) z
end L2
namespace L2
open PySem PySem.Spec PyProof.Rows
theorem walk_of {l:PySem.W.OpenLaw}{n k:Nat}{q:Program}{loose:List Str}{XP:(Str->Option Value)->Heap->Prop}{YP:World->Heap->Prop}{d:DefRec}{K:Params->PySem.W.Frag}{CX:World->CXT}{sp:World->Sp}{x:Str}
   (hn:l.most=some n) (hn2:n<=sizeLine) (hdf:d.params.defaults=[]) (hr:zO k callerA)
   (hY:∀ (w:World) (h:Heap),YP w h->(K w.params).In h)
   (F:∀ (w:World) (mg:Str->Option Value) (fa:Addr) (h:Heap),(K w.params).In h->h.Ns mainGlobals mg->mg d.name=some (.ref fa) ->
     ∃ fd:FuncData,(∀ (s:Shared) (u:Value),BindsTo s fd ⟨[u],[]⟩ [(x,u)]) ∧
       ∀ base:Heap,(K w.params).In base->base.Ns mainGlobals mg->zM l.prog w (K w.params) mg base (CX w) k fa fd [x] (sp w))
   (hsp:∀ (w:World) (H:Hp) (a:Addr) (ns:List Int),ns.length<=n->zg9 H->SqL (K w.params) H a (ns.map V.int)->sp w [.ref a] H (fun v _=>v = .bl true) fun _ _ _=>False)
   (hCX:∀ (w:World) (H:Hp) (s:Shared) (e:Value) (s':Shared),CX w [] H s (fun _ _ _=>False) e s'->False) :
   PySem.W.WalkO q loose XP YP l.row.toRowW d [] (fun f vs=>PySem.call f vs):=by
 refine Att.attach_call hn hdf fun w s₀ s₁ mg mb fa o pm cd doc a vs ns G Y ho hd hcd hmg hobj hints hlen hg=>?_
 have KX:=hY w _ Y
 obtain ⟨fd,hb,hF⟩:=F w mg fa _ KX G.T.g hmg
 exact zrC KX G.T.g G.T.b G.T.builtins G.T.nolimit hg hobj hints (Nat.le_trans hlen hn2) hr hF hb (fun H hO hS=>hsp w H a ns hlen hO hS) fun H e s'=>hCX w H s₁ e s'
end L2
namespace L2
open PySem PySem.Spec PyProof.Rows
noncomputable def zgI (s:Stmt) (j:Nat):Stmt:=match s with
 | .ClassDef _ _ _ body _ _ _ _ _ _ _=>body.getD j (.Pass ⟨0,0,0,0⟩)
 | _=> .Pass ⟨0,0,0,0⟩
noncomputable def zdn (s:Stmt):Arguments:=match s with
 | .FunctionDef _ a _ _ _ _ _ _ _ _=>a
 | _=>{ posonlyargs:=[],args:=[],vararg:=none,kwonlyargs:=[],kw_defaults:=[],kwarg:=none,defaults:=[] }
noncomputable def zcU (s:Stmt):List Stmt:=match s with
 | .FunctionDef _ _ b _ _ _ _ _ _ _=>b
 | _=>[]
noncomputable def zH (s:Stmt):Scope:=match s with
 | .FunctionDef _ _ _ _ _ _ sc _ _ _=>sc
 | _=>{ kind := .function,names:=[],isGenerator:=false,isCoroutine:=false }
structure Fun (K:PySem.W.Frag) (x qual:Str) (st:Stmt) (f:Addr) (fd:FuncData):Prop where
 ex:∃ (oc:Value) (od:Option Addr) (kV doc pm:Value) (an:Option Addr) (cdv ct:Value) (osl:Array (Option Value)),
   fd=PySem.W.fnOf x qual (zdn st) (zcU st) (zH st) .none kV doc pm an cdv ct∧K.lookup f=some ⟨oc,od,.func fd,osl⟩∧PySem.W.codeIn K cdv qual=true
 kp:PySem.W.keepIn K (.ref f)=true
section
variable {P:Program}{w:World}{K:PySem.W.Frag}{mg:Str->Option Value}{base:Heap}
theorem Fun.binds {x qual:Str}{st:Stmt}{f:Addr}{fd:FuncData}{ps:List Str} (F:Fun K x qual st f fd)
   (h:∀ (kV doc pm:Value) (an:Option Addr) (cdv ct:Value) (us:List Value),us.length=ps.length->bindArgs (PySem.W.fnOf x qual (zdn st) (zcU st) (zH st) .none kV doc pm an cdv ct) ⟨us,[]⟩=pure (ps.zip us)):zcM K fd ps []:=by
 obtain ⟨oc,od,kV,doc,pm,an,cdv,ct,osl,rfl,lk,hcd⟩:=F.ex
 exact .all (h kV doc pm an cdv ct)
theorem zgi {x qual:Str}{st:Stmt}{f:Addr}{oc:Value}{od an:Option Addr}{osl:Array (Option Value)}{kV doc pm cdv ct:Value} (l:K.lookup f=some ⟨oc,od,.func (PySem.W.fnOf x qual (zdn st) (zcU st) (zH st) .none kV doc pm an cdv ct),osl⟩)
   (c:PySem.W.codeIn K cdv qual=true) (k:PySem.W.keepIn K (.ref f)=true):Fun K x qual st f (PySem.W.fnOf x qual (zdn st) (zcU st) (zH st) .none kV doc pm an cdv ct):=⟨⟨oc,od,kV,doc,pm,an,cdv,ct,osl,rfl,l,c⟩,k⟩
end
theorem zic {A:Around}{k:Nat} (hr:zO k A):A.units+1 < cLine:=Nat.lt_of_le_of_lt (Nat.add_le_add_left (by decide:1<=64) _) hr.units
section
variable {X:Cx}
end
end L2
end
section
namespace L2
open PySem PySem.Spec PyProof.Rows
section
variable {κ:Type} [DecidableEq κ]
noncomputable def zcQ (kvs:List (κ×V)) (k:κ):Option V:=(kvs.find? fun kv=>decide (kv.1=k)).map (·.2)
noncomputable def zcD (kvs:List (κ×V)) (k:κ) (v:V):List (κ×V) :=
 if (kvs.any fun kv=>decide (kv.1=k))=true then kvs.map (fun kv=>if kv.1=k then (kv.1,v) else kv) else kvs++[(k,v)]
theorem zia {p:κ×V}{r:List (κ×V)}{k:κ} (e:p.1=k):zcQ (p :: r) k=some p.2:=by simp [zcQ,List.find?_cons,e]
theorem zhU {p:κ×V}{r:List (κ×V)}{k:κ} (e:¬ p.1=k):zcQ (p :: r) k=zcQ r k:=by simp [zcQ,List.find?_cons,e]
theorem zmG (k:κ):∀ kvs:List (κ×V),(kvs.any fun kv=>decide (kv.1=k))=(zcQ kvs k).isSome
 | []=>rfl
 | p :: r=>by
   rw [List.any_cons]
   by_cases e:p.1=k
   . simp only [zia e,decide_eq_true e,Bool.true_or,Option.isSome_some]
   . rw [zhU e,decide_eq_false e,Bool.false_or];exact zmG k r
theorem zkk (kvs:List (κ×V)) (k:κ) (v:V):(zcD kvs k v).length<=kvs.length+1:=by
 unfold zcD
 split
 . rw [List.length_map];omega
 . rw [List.length_append,List.length_cons,List.length_nil];omega
theorem zcr.isSome_eq {o:Option V}{u:Option Value} (r:zcr o u):o.isSome=u.isSome:=by
 cases o with
 | none=>cases u with
   | none=>rfl
   | some _=>exact (show False from r).elim
 | some _=>cases u with
   | none=>exact (show False from r).elim
   | some _=>rfl
theorem KV.val {kvs:List (κ×V)}{vs:List (κ×Value)} (r:KV kvs vs) (k:κ):zcr (zcQ kvs k) (valueAt vs k):=by
 unfold KV at r
 induction r with
 | nil=>exact True.intro
 | @cons p q ps qs h t ih =>
   obtain ⟨h1,h2⟩:=h
   by_cases e:p.1=k
   . have e':q.1=k:=h1.symm.trans e
     have b:valueAt (q :: qs) k=some q.2:=by simp [valueAt,List.find?_cons,e']
     rw [zia e,b];exact h2
   . have e':¬ q.1=k:=fun z=>e (h1.trans z)
     have b:valueAt (q :: qs) k=valueAt qs k:=by simp [valueAt,List.find?_cons,e']
     rw [zhU e,b];exact ih
theorem KV.any {kvs:List (κ×V)}{vs:List (κ×Value)} (r:KV kvs vs) (k:κ):(kvs.any fun kv=>decide (kv.1=k))=vs.any fun kv=>decide (kv.1=k):=by
 unfold KV at r
 induction r with
 | nil=>rfl
 | cons h t ih=>rw [List.any_cons,List.any_cons,ih,h.1]
theorem KV.repl {kvs:List (κ×V)}{vs:List (κ×Value)} (r:KV kvs vs) (k:κ) {y:V}{u:Value} (ry:zo y u) :
   KV (kvs.map fun kv=>if kv.1=k then (kv.1,y) else kv) (vs.map fun kv=>if kv.1=k then (kv.1,u) else kv):=by
 unfold KV at r ⊢
 induction r with
 | nil=>exact .nil
 | @cons p q ps qs h t ih =>
   rw [List.map_cons,List.map_cons]
   refine .cons ?_ ih
   obtain ⟨h1,h2⟩:=h
   by_cases e:p.1=k
   . rw [if_pos e,if_pos (h1.symm.trans e)];exact ⟨h1,ry⟩
   . rw [if_neg e,if_neg (fun z=>e (h1.trans z))];exact ⟨h1,h2⟩
theorem KV.put {kvs:List (κ×V)}{vs:List (κ×Value)} (r:KV kvs vs) (k:κ) {y:V}{u:Value} (ry:zo y u):KV (zcD kvs k y) (stored vs k u):=by
 unfold zcD stored
 rw [r.any k]
 by_cases e:(vs.any fun kv=>decide (kv.1=k))=true
 . rw [if_pos e,if_pos e];exact r.repl k ry
 . rw [if_neg e,if_neg e];exact Paired.snoc r ⟨rfl,ry⟩
theorem KV.length {kvs:List (κ×V)}{vs:List (κ×Value)} (r:KV kvs vs):kvs.length=vs.length:=Paired.length r
end
theorem zgZ {P:Program}{w:World}{k:Key}{u:Value} (r:zo (kV k) u):(zby P w).is k u=true:=by
 cases k with
 | inl i=>obtain ⟨t,e⟩:=(show ∃ t,u=Value.int i t from r);subst e;exact zpQ P w i t
 | inr x=>obtain ⟨t,e⟩:=(show ∃ t,u=Value.str x t from r);subst e;exact zrT P w x t
theorem zlh {P:Program}{w:World}:∀ {ks:List Key}{us:List Value},zr (ks.map kV) us->ItemsAre (zby P w) ks us
 | [],_,r=>by rw [List.map_nil]at r;cases r;exact .nil
 | k :: ks,_,r=>by
   rw [List.map_cons]at r
   cases r with
   | cons h t=>exact .cons (zgZ h) (zlh t)
noncomputable abbrev KT (H:Hp):List (List Key×V)->List (List Key×Addr×Value)->Prop:=Paired fun p q=>p.1=q.1∧H q.2.1=some (.tup (p.1.map kV))∧zo p.2 q.2.2
theorem KT.val {H:Hp}{kvs:List (List Key×V)}{xs:List (List Key×Addr×Value)} (r:KT H kvs xs) (k:List Key):zcr (zcQ kvs k) ((atKey xs k).map (·.2)):=by
 induction r with
 | nil=>exact True.intro
 | @cons p q ps qs h t ih =>
   obtain ⟨h1,_,h2⟩:=h
   by_cases e:p.1=k
   . have e':q.1=k:=h1.symm.trans e
     have b:atKey (q :: qs) k=some q.2:=by simp [atKey,List.find?_cons,e']
     rw [zia e,b];exact h2
   . have e':¬ q.1=k:=fun z=>e (h1.trans z)
     have b:atKey (q :: qs) k=atKey qs k:=by simp [atKey,List.find?_cons,e']
     rw [zhU e,b];exact ih
theorem KT.repl {H:Hp}{kvs:List (List Key×V)}{xs:List (List Key×Addr×Value)} (r:KT H kvs xs) (k:List Key) {y:V}{u:Value} (ry:zo y u) :
   KT H (kvs.map fun kv=>if kv.1=k then (kv.1,y) else kv) (xs.map (putAt k u)):=by
 induction r with
 | nil=>exact .nil
 | @cons p q ps qs h t ih =>
   rw [List.map_cons,List.map_cons]
   refine .cons ?_ ih
   obtain ⟨h1,h2,h3⟩:=h
   unfold putAt
   by_cases e:p.1=k
   . rw [if_pos e,if_pos (h1.symm.trans e)];exact ⟨h1,h2,ry⟩
   . rw [if_neg e,if_neg (fun z=>e (h1.trans z))];exact ⟨h1,h2,h3⟩
theorem KT.put {H:Hp}{kvs:List (List Key×V)}{xs:List (List Key×Addr×Value)} (r:KT H kvs xs) (k:List Key) {b:Addr}{y:V}{u:Value} (hb:H b=some (.tup (k.map kV))) (ry:zo y u) :
   KT H (zcD kvs k y) (storedH xs k b u):=by
 have e:(kvs.any fun kv=>decide (kv.1=k))=(atKey xs k).isSome:=by
   rw [zmG,(r.val k).isSome_eq,Option.isSome_map]
 unfold zcD storedH
 rw [e]
 by_cases q:(atKey xs k).isSome=true
 . rw [if_pos q,if_pos q];exact r.repl k ry
 . rw [if_neg q,if_neg q];exact Paired.snoc r ⟨rfl,hb,ry⟩
theorem KT.keeps {H H':Hp}{kvs:List (List Key×V)}{xs:List (List Key×Addr×Value)} (r:KT H kvs xs) (ht:∀ b ys,H b=some (.tup ys)->H' b=some (.tup ys)):KT H' kvs xs :=
 Paired.mapP r fun _ _ z=>⟨z.1,ht _ _ z.2.1,z.2.2⟩
section
variable {P:Program}{w:World}{H:Hp}{h:Heap}{a:Addr}
theorem zmr {u:HO} (ok:HOk P w H h) (e:Rd H a u):z8 P w H h a u:=e.ok ok
theorem zgM {kvs:List (Key×V)} (ok:HOk P w H h) (e:Rd H a (.dK kvs)):kvs.length<=sizeLine∧(a == sysModules)=false∧∃ vs,KV kvs vs∧h.DictOf (zby P w) a vs :=
 show z8 P w H h a (.dK kvs) from zmr ok e
theorem zpH {kvs:List (Key×V)} (ok:HOk P w H h) (e:H a=some (.dK kvs)):kvs.length<=sizeLine∧(a == sysModules)=false∧∃ vs,KV kvs vs∧h.DictOf (zby P w) a vs:=zgM ok (.inl e)
theorem zgO {ks:List Key} (ok:HOk P w H h) (e:H a=some (.tup (ks.map kV))):(tupleKind (zby P w)).is h ks a:=by
 obtain ⟨_,its,r,o,h1,h2,n,h3⟩:=(show z8 P w H h a (.tup (ks.map kV)) from ok a _ e)
 exact ⟨o,its.toArray,n,h1,h2,h3,by simpa using zlh r⟩
theorem zhd {kvs:List (List Key×V)} (ok:HOk P w H h) (e:Rd H a (.dT kvs)):kvs.length<=sizeLine∧(a == sysModules)=false ∧
   ∃ xs,KT H kvs xs∧h.DictOfH (tupleKind (zby P w)) a xs:=by
 obtain ⟨z,y,xs,r,o,es,ep,h1,h2,h3,h4,h5⟩:=(show z8 P w H h a (.dT kvs) from zmr ok e)
 refine ⟨z,y,xs,r,o,es,ep,h1,h2,h3,h4,fun x hx=>?_,h5⟩
 have all:∀ {l:List (List Key×V)} {m:List (List Key×Addr×Value)},KT H l m->∀ x∈m,(tupleKind (zby P w)).is h x.1 x.2.1:=by
   intro l m q
   induction q with
   | nil=>intro x hx;exact nomatch hx
   | @cons p q ps qs hq t ih =>
     intro x hx
     rcases List.mem_cons.mp hx with e | hx
     . subst e
       exact zgO ok (by rw [<- hq.1];exact hq.2.1)
     . exact ih x hx
 exact all r x hx
theorem zpz {kvs:List (List Key×V)} (ok:HOk P w H h) (e:H a=some (.dT kvs)):kvs.length<=sizeLine∧(a == sysModules)=false ∧
   ∃ xs,KT H kvs xs∧h.DictOfH (tupleKind (zby P w)) a xs:=zhd ok (.inl e)
end
noncomputable def zdw (H:Hp) (a:Addr) (y:V) (r:Option V):Prop :=
 (∃ kvs k,Rd H a (.dK kvs)∧y=kV k∧r=zcQ kvs k)∨∃ kvs k b,Rd H a (.dT kvs)∧y = .ref b∧H b=some (.tup (k.map kV))∧r=zcQ kvs k
noncomputable def zgS (H:Hp) (a:Addr) (y v:V) (H':Hp):Prop :=
 (∃ kvs k,H a=some (.dK kvs)∧y=kV k∧kvs.length < sizeLine∧H'=upd H a (.dK (zcD kvs k v))) ∨
 ∃ kvs k b,H a=some (.dT kvs)∧y = .ref b∧H b=some (.tup (k.map kV))∧kvs.length < sizeLine∧H'=upd H a (.dT (zcD kvs k v))
theorem zdw.k {H:Hp}{a:Addr}{kvs:List (Key×V)}{k:Key} (e:H a=some (.dK kvs)):zdw H a (kV k) (zcQ kvs k) := .inl ⟨kvs,k,.inl e,rfl,rfl⟩
theorem zgS.k {H:Hp}{a:Addr}{kvs:List (Key×V)}{k:Key}{v:V} (e:H a=some (.dK kvs)) (hl:kvs.length < sizeLine):zgS H a (kV k) v (upd H a (.dK (zcD kvs k v))) := .inl ⟨kvs,k,e,rfl,hl,rfl⟩
section
variable {X:Cx}{pins:List (Addr×Obj)}{σ:St}{H:Hp}{s:Shared}{a:Addr}{y v:V}{u r:Value}{o:Option V}{A:Around}{E:Value->Shared->Prop}
theorem Inv.big (I:Inv X pins σ H s):sysModules < s.heap.objs.size:=by
 have h:mainGlobals < s.heap.objs.size:=(I.mod.glob.keeps I.bk).lt
 exact Nat.lt_trans ϑ h
theorem zqa {Q:Value->Shared->Prop} (hu:A.units+1 < cLine) (I:Inv X pins σ H s) (g:zdw H a y (some v)) (ry:zo y u) (h:∀ w' s',Inv X pins σ H s'->zo v w'->Q w' s') :
   wpAny (model X.prog X.w) A (getItem (.ref a) u) Q E s:=by
 rcases g with ⟨kvs,k,e,ey,l⟩ | ⟨kvs,k,b,e,ey,eb,l⟩
 . subst ey
   obtain ⟨z,hd,vs,rel,dd⟩:=zgM I.hok e
   obtain ⟨w',hw,rw'⟩:=zcr.some_of (v:=v) (o:=valueAt vs k) (by rw [l];exact rel.val k)
   exact wpAny_getItem_of (zgZ ry) dd.mapOf hw (h w' _ (I.tok _) rw')
 . subst ey
   cases (show u=Value.ref b from ry)
   obtain ⟨z,hd,xs,rel,dd⟩:=zhd I.hok e
   obtain ⟨w',hw,rw'⟩:=zcr.some_of (v:=v) (o:=(atKey xs k).map (·.2)) (by rw [l];exact rel.val k)
   obtain ⟨p,hp,hp2⟩:=Option.map_eq_some_iff.mp hw
   refine wpAny_getItem_heap (tupleKind_room_in1 hu) (zgO I.hok eb) dd hp ?_
   rw [hp2]
   exact h w' _ (I.tok _) rw'
theorem zsC {Q:Value->Shared->Prop} (hu:A.units+1 < cLine) (I:Inv X pins σ H s) (g:zdw H a y o) (ry:zo y u) (h:∀ s',Inv X pins σ H s'->Q (.bool o.isSome) s') :
   wpAny (model X.prog X.w) A (compareOp .In u (.ref a)) Q E s:=by
 rcases g with ⟨kvs,k,e,ey,l⟩ | ⟨kvs,k,b,e,ey,eb,l⟩
 . subst ey
   obtain ⟨z,hd,vs,rel,dd⟩:=zgM I.hok e
   refine wpAny_in_of (zgZ ry) hd dd.mapOf ?_
   rw [<- (rel.val k).isSome_eq,<- l]
   exact h _ (I.tok _)
 . subst ey
   cases (show u=Value.ref b from ry)
   obtain ⟨z,hd,xs,rel,dd⟩:=zhd I.hok e
   refine wpAny_in_heap (tupleKind_room_in1 hu) (zgO I.hok eb) hd dd ?_
   have q:=(rel.val k).isSome_eq
   rw [Option.isSome_map]at q
   rw [<- q,<- l]
   exact h _ (I.tok _)
theorem zqA {Q:Value->Shared->Prop} (hu:A.units+1 < cLine) (I:Inv X pins σ H s) (g:zdw H a y o) (ry:zo y u) (h:∀ s',Inv X pins σ H s'->Q (.bool (!o.isSome)) s') :
   wpAny (model X.prog X.w) A (compareOp .NotIn u (.ref a)) Q E s:=by
 rcases g with ⟨kvs,k,e,ey,l⟩ | ⟨kvs,k,b,e,ey,eb,l⟩
 . subst ey
   obtain ⟨z,hd,vs,rel,dd⟩:=zgM I.hok e
   refine wpAny_notIn_of (zgZ ry) hd dd.mapOf ?_
   rw [<- (rel.val k).isSome_eq,<- l]
   exact h _ (I.tok _)
 . subst ey
   cases (show u=Value.ref b from ry)
   obtain ⟨z,hd,xs,rel,dd⟩:=zhd I.hok e
   refine wpAny_notIn_heap (tupleKind_room_in1 hu) (zgO I.hok eb) hd dd ?_
   have q:=(rel.val k).isSome_eq
   rw [Option.isSome_map]at q
   rw [<- q,<- l]
   exact h _ (I.tok _)
theorem zmi {h':Heap}{t':Nat}{ob:HO} (I:Inv X pins σ H s) (mu:Mut (H a)) (hs:Heap.SameBut a s.heap h') (he:∃ q,h'.get? a=some q) (new:z8 X.prog X.w (upd H a ob) h' a ob) :
   Inv X pins σ (upd H a ob) { s with heap:=h',toks:=t' } :=
 I.write (x:=a) (e:=a) mu (.inl rfl) (fun b q hb z=>(hs.2 b hb).trans z) he new
theorem ztG {P:Program}{w:World}{H':Hp}{h':Heap}{kvs:List (Key×V)}{vs:List (Key×Value)} (z:kvs.length<=sizeLine) (hd:(a == sysModules)=false) (rel:KV kvs vs) (dd:h'.DictOf (zby P w) a vs) :
   z8 P w H' h' a (.dK kvs):=⟨z,hd,vs,rel,dd⟩
theorem zuQ {H':Hp}{Q:Unit->Shared->Prop} (hu:A.units+1 < cLine) (I:Inv X pins σ H s) (g:zgS H a y v H') (ry:zo y u) (rv:zo v r) (h:∀ s',Inv X pins σ H' s'->Q () s') :
   wpAny (model X.prog X.w) A (setItem (.ref a) u r) Q E s:=by
 rcases g with ⟨kvs,k,e,ey,l,eH⟩ | ⟨kvs,k,b,e,ey,eb,l,eH⟩
 . subst ey eH
   obtain ⟨z,hd,vs,rel,dd⟩:=zpH I.hok e
   have hz:vs.length<=sizeLine:=by rw [<- rel.length];exact z
   have hl:(zcD kvs k v).length<=sizeLine:=by have:=zkk kvs k v;omega
   refine wpAny_setItem_pairs (hsz:=hz) (zgZ ry) dd fun h' dd' hs=>h _ ?_
   have he:∃ q,h'.get? a=some q:=let ⟨q,_,_,hq,_⟩:=dd';⟨q,hq⟩
   exact zmi I (by rw [e];exact True.intro) hs he (ztG hl hd (rel.put k rv) dd')
 . subst ey eH
   cases (show u=Value.ref b from ry)
   obtain ⟨z,hd,xs,rel,dd⟩:=zpz I.hok e
   have hz:xs.length<=sizeLine:=by rw [<- Paired.length rel];exact z
   have hl:(zcD kvs k v).length<=sizeLine:=by have:=zkk kvs k v;omega
   refine wpAny_setItem_heap (hsz:=hz) (tupleKind_room_in1 hu) (zgO I.hok eb) dd fun h' dd' hs=>h _ ?_
   obtain ⟨q,es,ep,hq,h2,h3,h4,_,h5⟩:=dd'
   refine zmi I (by rw [e];exact True.intro) hs ⟨q,hq⟩ ⟨hl,hd,_,(rel.put k eb rv).keeps fun c ys ec=>?_,q,es,ep,hq,h2,h3,h4,h5⟩
   rw [zt (zsE ec e (fun z=>nomatch z))]
   exact ec
end
section
variable {X:Cx}{pins:List (Addr×Obj)}{σ:St}{H:Hp}{s:Shared}{a:Addr}{kvs:List (Key×V)}{k:Key}{u:Value}{A:Around}{E:Value->Shared->Prop}
end
theorem ztv {X:Cx}{pins:List (Addr×Obj)}{σ:St}{H:Hp}{s:Shared}{a:Addr}{y:V}{o:Option V} (I:Inv X pins σ H s) (g:zdw H a y o):s.TypeIs (.ref a) "dict":=by
 rcases g with ⟨kvs,k,e,_,_⟩ | ⟨kvs,k,b,e,_,_,_⟩
 . obtain ⟨_,_,vs,_,dd⟩:=zgM I.hok e
   exact dd.typeIs
 . obtain ⟨_,_,xs,_,dd⟩:=zhd I.hok e
   exact dd.typeIs
section
variable {X:Cx}{o i e value:Expr}{pos pos' tpos:Pos}{td ty tv:TE}
end
theorem zqf {P:Program}{w:World}{H:Hp} (h:Heap) (hb:sysModules < h.objs.size):z8 P w H (h.push { cls := .type "dict",data := .dict #[] }) h.objs.size (.dK []) :=
 ⟨Nat.zero_le _,beq_eq_false_iff_ne.mpr (Ne.symm (Nat.ne_of_lt hb)),[],.nil,Heap.DictOf.new h⟩
noncomputable def ztY:TE:=fun _ H Q=>∀ p,H p=none->Q (.ref p) (upd H p (.dK []))
section
variable {X:Cx}{pos:Pos}
theorem zrB:PE X (.Dict [] [] pos) ztY:=fun pins s σ H Q I h =>
 wpAny_Dict_empty ⟨.ref s.heap.objs.size,_,I.laid (a:=s.heap.objs.size) (o := .dK []) (t':=s.toks) (fun _ _ q=>Heap.get?_push_of_some _ q) (Nat.le_refl _) (zqf s.heap I.big),rfl,h _ (I.hok.fresh (Nat.le_refl _))⟩
end
section
variable {X:Cx}{pins:List (Addr×Obj)}{σ:St}{H:Hp}{s:Shared}{a:Addr}{y d:V}{u r:Value}{o:Option V}{A:Around}{E:Value->Shared->Prop}
end
section
variable {X:Cx}{o e f:Expr}{apos cpos:Pos}{td ty tx:TE}
end
section
variable {X:Cx}{pins:List (Addr×Obj)}{σ:St}{H:Hp}{s:Shared}{a:Addr}{kvs:List (Key×V)}{A:Around}{E:Value->Shared->Prop}
end
section
variable {X:Cx}{pins:List (Addr×Obj)}{σ:St}{H:Hp}{s:Shared}{a:Addr}{y:V}{u:Value}{A:Around}{E:Value->Shared->Prop}
end
end L2
end
section
namespace L2
open PySem PySem.Spec PyProof.Rows
theorem zje {env:Env}:∀ (names:List (Str×NameKind)) (acc:List (Str×Addr)),(∀ x∈names,x.2 = .free->∃ c,env.cells.lookup x.1=some c) ->
   ∃ cl:List (Str×Addr),(forIn names acc fun (x:Str×NameKind) (cs:List (Str×Addr))=>if (x.2 == NameKind.free)=true then (do let a <- cellOf env x.1;pure (ForInStep.yield ((x.1,a) :: cs)):Sem _) else pure (ForInStep.yield cs))=pure cl ∧
     (∀ x c,(x,c)∈cl->(x,c)∈acc∨((x,NameKind.free)∈names∧env.cells.lookup x=some c)) ∧
     (∀ x c,(x,c)∈acc∨((x,NameKind.free)∈names∧env.cells.lookup x=some c)->(x,c)∈cl)
 | [],acc,_=>⟨acc,rfl,fun x c h=> .inl h,fun x c h=>h.elim id fun z=>nomatch z.1⟩
 | (n,k) :: r,acc,h=>by
   have hr:∀ x∈r,x.2=NameKind.free->∃ c,env.cells.lookup x.1=some c:=fun x hx=>h x (List.mem_cons_of_mem _ hx)
   by_cases hk:k=NameKind.free
   . subst hk
     obtain ⟨c,hc⟩:=h (n,NameKind.free) List.mem_cons_self rfl
     obtain ⟨cl,e,h1,h2⟩:=zje r ((n,c) :: acc) hr
     refine ⟨cl,?_,fun x d hx=>?_,fun x d hx=>?_⟩
     . rw [List.forIn_cons]
       have e1:cellOf env n=(pure c:Sem Addr):=by unfold cellOf;rw [hc]
       simp only [beq_self_eq_true,if_true,e1]
       exact e
     . rcases h1 x d hx with z | ⟨z,z'⟩
       . rcases List.mem_cons.mp z with z | z
         . cases z;exact .inr ⟨List.mem_cons_self,hc⟩
         . exact .inl z
       . exact .inr ⟨List.mem_cons_of_mem _ z,z'⟩
     . apply h2
       rcases hx with z | ⟨z,z'⟩
       . exact .inl (List.mem_cons_of_mem _ z)
       . rcases List.mem_cons.mp z with z | z
         . cases z
           rw [hc]at z';cases z'
           exact .inl List.mem_cons_self
         . exact .inr ⟨z,z'⟩
   . obtain ⟨cl,e,h1,h2⟩:=zje r acc hr
     have hb:(k == NameKind.free)=false:=by simpa using hk
     refine ⟨cl,?_,fun x d hx=>?_,fun x d hx=>?_⟩
     . rw [List.forIn_cons]
       simp only [hb,Bool.false_eq_true,if_false]
       exact e
     . rcases h1 x d hx with z | ⟨z,z'⟩
       . exact .inl z
       . exact .inr ⟨List.mem_cons_of_mem _ z,z'⟩
     . apply h2
       rcases hx with z | ⟨z,z'⟩
       . exact .inl z
       . rcases List.mem_cons.mp z with z | z
         . cases z;exact absurd rfl hk
         . exact .inr ⟨z,z'⟩
theorem zkf {α:Type}:∀ {l:List (Str×α)}{x:Str}{c:α},(x,c)∈l->∃ d,l.lookup x=some d∧(x,d)∈l
 | (n,k) :: r,x,c,h=>by
   cases e:x == n with
   | true =>
     have e':x=n:=by simpa using e
     subst e'
     exact ⟨k,by simp [List.lookup_cons],List.mem_cons_self⟩
   | false =>
     rcases List.mem_cons.mp h with z | z
     . cases z;simp at e
     . obtain ⟨d,h1,h2⟩:=zkf z
       exact ⟨d,by rw [List.lookup_cons,e];exact h1,List.mem_cons_of_mem _ h2⟩
theorem mem_of_lookup {α:Type}:∀ {l:List (Str×α)}{x:Str}{c:α},l.lookup x=some c->(x,c)∈l
 | (n,k) :: r,x,c,h=>by
   rw [List.lookup_cons]at h
   cases e:x == n with
   | true =>
     have e':x=n:=by simpa using e
     subst e'
     rw [e]at h;cases h
     exact List.mem_cons_self
   | false =>
     rw [e]at h
     exact List.mem_cons_of_mem _ (mem_of_lookup h)
theorem zsd {scope:Scope}{env:Env} (h:∀ x∈scope.names,x.2 = .free->∃ c,env.cells.lookup x.1=some c) :
   ∃ cl:List (Str×Addr),closureFor scope env=pure cl∧(∀ x c,cl.lookup x=some c->(x,NameKind.free)∈scope.names∧env.cells.lookup x=some c) ∧
     (∀ x c,(x,NameKind.free)∈scope.names->env.cells.lookup x=some c->cl.lookup x=some c):=by
 obtain ⟨cl,e,h1,h2⟩:=zje (env:=env) scope.names [] h
 have g1:∀ x c,cl.lookup x=some c->(x,NameKind.free)∈scope.names∧env.cells.lookup x=some c:=fun x c z=>by
   rcases h1 x c (mem_of_lookup z) with q | q
   . exact nomatch q
   . exact q
 refine ⟨cl,?_,g1,fun x c z z'=>?_⟩
 . unfold closureFor
   show (forIn scope.names [] _ >>= _)=_
   have e2:=congrArg (fun m:Sem (List (Str×Addr))=>m >>= fun cs=>pure cs) e
   refine Eq.trans ?_ (Eq.trans e2 ?_)
   . congr 1
   . rfl
 . obtain ⟨d,e1,_⟩:=zkf (h2 x c (.inr ⟨z,z'⟩))
   have:=(g1 x d e1).2
   rw [z']at this;cases this
   exact e1
theorem zlY {env:Env}:∀ {names:List (Str×NameKind)}{x:Str},names.lookup x=some .free ->
   (names.map fun (n,k)=>if (k == NameKind.free && env.scope.kind == .function && env.kindOf n == some .cell) then (n,NameKind.cell) else (n,k)).lookup x=some .cell ∨
   (names.map fun (n,k)=>if (k == NameKind.free && env.scope.kind == .function && env.kindOf n == some .cell) then (n,NameKind.cell) else (n,k)).lookup x=some .free
 | [],_,h=>by simp at h
 | (n,k) :: r,x,h=>by
   have ih:=@zlY env r x
   rw [List.map_cons]
   by_cases hc:(k == NameKind.free && env.scope.kind == .function && env.kindOf n == some .cell)=true
   . simp only [hc,if_true]
     cases hx:x == n with
     | true=>left;simp [List.lookup_cons,hx]
     | false =>
       simp only [List.lookup_cons,hx]at h ⊢
       exact ih h
   . simp only [hc,if_false,Bool.false_eq_true]
     cases hx:x == n with
     | true =>
       simp only [List.lookup_cons,hx]at h ⊢
       cases h
       right;rfl
     | false =>
       simp only [List.lookup_cons,hx]at h ⊢
       exact ih h
theorem zkI {env:Env}:∀ {names:List (Str×NameKind)}{x:Str},(∀ y∈names,y.2 ≠ .cell) ->
   ((names.map fun (n,k)=>if (k == NameKind.free && env.scope.kind == .function && env.kindOf n == some .cell) then (n,NameKind.cell) else (n,k)).lookup x=some .cell ∨
   (names.map fun (n,k)=>if (k == NameKind.free && env.scope.kind == .function && env.kindOf n == some .cell) then (n,NameKind.cell) else (n,k)).lookup x=some .free)->names.lookup x=some .free
 | [],_,_,h=>by simp at h
 | (n,k) :: r,x,hn,h=>by
   have ih:=@zkI env r x fun y hy=>hn y (List.mem_cons_of_mem _ hy)
   have hk:=hn (n,k) List.mem_cons_self
   rw [List.map_cons]at h
   by_cases hc:(k == NameKind.free && env.scope.kind == .function && env.kindOf n == some .cell)=true
   . simp only [hc,if_true]at h
     have hf:k = .free:=by
       simp only [Bool.and_eq_true,beq_iff_eq]at hc
       exact hc.1.1
     cases hx:x == n with
     | true=>simp [List.lookup_cons,hx,hf]
     | false =>
       simp only [List.lookup_cons,hx]at h ⊢
       exact ih h
   . simp only [hc,if_false,Bool.false_eq_true]at h
     cases hx:x == n with
     | true =>
       simp only [List.lookup_cons,hx]at h ⊢
       rcases h with h | h
       . cases h;exact absurd rfl hk
       . exact h
     | false =>
       simp only [List.lookup_cons,hx]at h ⊢
       exact ih h
noncomputable def zba (X:Cx) (scope:Scope) (N:List Str) (cl:List (Str×Addr)) (s₀:Shared) (H₀:Hp) (fp:List Addr):Cx :=
 { X with N:=N,s₀:=s₀,H₀:=H₀,env:=compEnvC scope cl s₀.heap.objs.size X.env,outer:=X.stack,ex:=fp,fn:=fun x=>scope.names.lookup x == some .local,pn:=[],xe:=fun _ _=>False }
noncomputable def zd2 (js:List (Option Nat)) (σ:St):St:=js.map fun j=>j.bind fun k=>(σ[k]?).join
structure zbF (X:Cx) (scope:Scope) (N:List Str) (js:List (Option Nat)):Prop where
 kind:scope.kind = .function
 cell:∀ y∈scope.names,y.2 ≠ .cell
 names:∀ y∈scope.names,scope.names.lookup y.1=some y.2
 free:∀ y∈scope.names,y.2 = .free->X.env.kindOf y.1=some .cell∨X.env.kindOf y.1=some .free
 len:js.length=N.length
 slot:∀ (i k:Nat),js[i]?=some (some k)->∃ x,N[i]?=some x∧X.N[k]?=some x∧scope.names.lookup x=some .free
section
variable {X:Cx}{pins:List (Addr×Obj)}{σ:St}{H:Hp}{s:Shared}{scope:Scope}{N:List Str}{js:List (Option Nat)}{cl:List (Str×Addr)}{fp:List Addr}
theorem ztw (S:zbF X scope N js) (I:Inv X pins σ H s) (hf:∀ b∈fp,zco X pins H b) (hlt:∀ b∈fp,b < s.heap.objs.size)
   (h1:∀ x c,cl.lookup x=some c->(x,NameKind.free)∈scope.names∧X.env.cells.lookup x=some c)
   (h2:∀ x c,(x,NameKind.free)∈scope.names->X.env.cells.lookup x=some c->cl.lookup x=some c):(zba X scope N cl s H fp).Ok where
 mod:=I.ok.mod
 kind:=S.kind
 glob:=I.ok.glob
 blt:=I.ok.blt
 above:=Nat.le_refl _
 inj:=fun x y c hx hy=>I.ok.inj x y c (h1 x c hx).2 (h1 y c hy).2
 has:=fun x hx=>by
   have e:scope.names.lookup x=some .free:=zkI S.cell hx
   have hm:=mem_of_lookup e
   obtain ⟨c,hc⟩:=I.ok.has x (S.free (x,.free) hm rfl)
   exact ⟨c,h2 x c hm hc⟩
 cab:=fun x c hx hc=>by
   have hm:=(h1 x c hc).1
   have e:=S.names (x,.free) hm
   have hx':(scope.names.lookup x == some NameKind.local)=true:=hx
   rw [e]at hx'
   have hx2:(some NameKind.free == some NameKind.local)=true:=hx'
   exact absurd hx2 ϑ
 hd:=I.ok.hd
 frames:=I.ok.frames
 stk := .inl rfl
 exf:=fun b hb=>⟨Nat.ne_of_lt (hlt b hb),fun x c hc=>(hf b hb).2.2.2.2.1 x c (h1 x c hc).2⟩
 bs:=I.bs
 bsz:=Nat.le_trans I.ok.bsz I.sz
 noex:=fun b o e hb=>by
   rcases (hf b hb).2.2.2.1 with z | z
   . exact I.ok.noex b o e z
   . exact absurd (Nat.lt_of_lt_of_le (Heap.lt_size e) (Nat.le_trans I.ok.bsz z)) (Nat.lt_irrefl _)
 exfs:=fun b hb z=>by
   rcases List.mem_cons.mp (I.stkSub b z) with e | e
   . exact (hf b hb).2.1 e
   . exact (hf b hb).2.2.1 e
 funs:=I.stack
 frf:=I.stkFree
theorem zk1 {h':Heap}{t':Nat}{m':Str->Option Value} (S:zbF X scope N js) (I:Inv X pins σ H s) (hf:∀ b∈fp,zco X pins H b) (hlt:∀ b∈fp,b < s.heap.objs.size)
   (h1:∀ x c,cl.lookup x=some c->(x,NameKind.free)∈scope.names∧X.env.cells.lookup x=some c)
   (h2:∀ x c,(x,NameKind.free)∈scope.names->X.env.cells.lookup x=some c->cl.lookup x=some c)
   (hn:h'.Ns s.heap.objs.size m') (hk:∀ b o,s.heap.get? b=some o->h'.get? b=some o) :
   Inv (zba X scope N cl s H fp) [] (zd2 js σ) H { s with heap:=h',toks:=t' }:=by
 refine ⟨ztw S I hf hlt h1 h2,rfl,I.bare,Un.kept hk,⟨m',hn,fun i x v e1 e2 e3=>?_⟩,fun x c e=>?_,I.hok.fresh (Nat.le_refl _),fun x c e=>I.freeC x c (h1 x c e).2,fun p hp=>(List.not_mem_nil (show p∈([]:List (Addr×Obj)) from hp)).elim,I.hok.kept hk,?_⟩
 . have e2':(js.map fun j=>j.bind fun k=>(σ[k]?).join)[i]?=some (some v):=e2
   rw [List.getElem?_map]at e2'
   cases ej:js[i]? with
   | none=>rw [ej]at e2';cases e2'
   | some j =>
     rw [ej]at e2'
     cases j with
     | none=>cases e2'
     | some k =>
       have e4:(σ[k]?).join=some v:=Option.some.inj e2'
       have e5:σ[k]?=some (some v):=by
         cases eσ:σ[k]? with
         | none=>rw [eσ]at e4;cases e4
         | some o=>rw [eσ]at e4;exact congrArg some e4
       obtain ⟨x',hx1,hx2,hx3⟩:=S.slot i k ej
       have e1':N[i]?=some x:=e1
       rw [hx1]at e1';cases e1'
       have hm:=mem_of_lookup hx3
       have hfr:=S.free (x,.free) hm rfl
       obtain ⟨m,hns,hl⟩:=I.loc
       obtain ⟨u,r,l⟩:=hl k x v hx2 e5 (hfr.elim (fun z=> .inr (.inl z)) fun z=> .inr (.inr z))
       refine ⟨u,r,.inr ⟨zlY hx3,?_⟩⟩
       rcases l with ⟨z,_⟩ | ⟨_,c,hc,o,ho,hd⟩
       . rcases hfr with y | y
         . have y':X.env.kindOf x=some .cell:=y
           rw [z]at y';cases y'
         . have y':X.env.kindOf x=some .free:=y
           rw [z]at y';cases y'
       . exact ⟨c,h2 x c hm hc,o,hk c o ho,hd⟩
 . obtain ⟨v,o,ho,hd⟩:=I.cell x c (h1 x c e).2
   exact ⟨v,o,hk c o ho,hd⟩
 . show (js.map _).length=N.length
   rw [List.length_map,S.len]
theorem zjU {H':Hp}{s':Shared}{σ':St} (I:Inv X pins σ H s) (hf:∀ b∈fp,zco X pins H b) (J:Inv (zba X scope N cl s H fp) [] σ' H' s'):Inv X pins σ H' s' :=
 I.call' (ch:=fp) J.os J.base J.hok J.bare fun b hb=>by
   obtain ⟨f0,f1,f2,f3,f4,f5⟩:=hf b hb
   exact ⟨f3,f1,f4,f5⟩
theorem ziv {C:Addr}{H':Hp}{s':Shared}{σ':St}{h'':Heap} (I:Inv X pins σ H s) (hC:C=s.heap.objs.size) (hn:H' C=none) (J:Inv X pins σ' H' s') (hs:Heap.SameBut C s'.heap h''):Inv X pins σ' H' { s' with heap:=h'' }:=by
 have J1:=J.turned (h':=h'') (t':=s'.toks) (it:=C) (fun b o hb e=>(hs.2 b hb).trans e) hn (by rw [hC];exact Nat.ne_of_gt I.lt) (.inr (by rw [hC];exact I.sz))
   (fun x c e z=>by
     obtain ⟨v,o,ho,_⟩:=I.cell x c e
     have:=Heap.lt_size ho
     rw [z,hC]at this
     exact absurd this (Nat.lt_irrefl _))
   (fun p hp z=>by
     have:=Heap.lt_size (I.pin p hp).1
     rw [z,hC]at this
     exact absurd this (Nat.lt_irrefl _))
 exact J1
end
noncomputable def zeX (Y:Cx) (ifs:List Expr) (t:TT):Prop :=
 ∀ (pins:List (Addr×Obj)) (s:Shared) (σ:St) (H:Hp) (Q:Bool->Hp->Prop) ,Inv Y pins σ H s->t σ H Q ->
   wpAny (model Y.prog Y.w) Y.A (forIn ifs true fun c r=>if r=true then do let ok <- isTrue c Y.env (eval c Y.env);pure (ForInStep.yield ok) else pure (ForInStep.yield r)) (TP Y pins σ Q) Y.xe s
noncomputable def zsa:TT:=fun _ H Q=>Q true H
theorem zsB {Y:Cx}:zeX Y [] zsa:=fun pins s σ H Q I h=>wpAny_tests_nil ⟨H,I,h⟩
theorem zux {Y:Cx}{c:Expr}{t:TT} (hc:PT Y c t):zeX Y [c] t:=fun pins s σ H Q I h=>wpAny_tests_one (hc pins s σ H Q I h)
noncomputable def zh2 (J:It) (g:TG) (tc:TT) (te:TE) (D:Addr) (σ:St) (H1:Hp) (js:List (Option Nat)) (Q:VK):Prop :=
 ∃ W:Nat->Nat->St->Hp->Prop,(∃ m,W 0 m (zd2 js σ) (upd H1 D (.lst [])))∧∀ i m σ' H',W i m σ' H' ->
   (J.stop i H'∧Q (.ref D) H')∨(J.go i H'∧∀ x H2,J.yld i H' x H2->g x σ' H2 fun σ2 H3=>tc σ2 H3 fun b H4 =>
     if b=true then te σ2 H4 fun y H5=>∃ xs,H5 D=some (.lst xs)∧xs.length < sizeLine∧∃ m',m' < m∧W (i+1) m' σ2 (upd H5 D (.lst (xs++[y])))
     else ∃ m',m' < m∧W (i+1) m' σ2 H4)
noncomputable def zgY (js:List (Option Nat)) (wi:TI) (g:TG) (tc:TT) (te:TE):TE:=fun σ H Q=>wi σ H fun J H1=>∀ D,H1 D=none->zh2 J g tc te D σ H1 js Q
section
variable {X:Cx}{scope:Scope}{N:List Str}{js:List (Option Nat)}{tg iter elt:Expr}{ifs:List Expr}{wi:TI}{g:TG}{tc:TT}{te:TE}{pos:Pos}
structure ziR (X:Cx) (scope:Scope) (N:List Str) (tg elt:Expr) (ifs:List Expr) (g:TG) (tc:TT) (te:TE):Prop where
 run:∀ (cl:List (Str×Addr)) (s₀:Shared) (H₀:Hp) (fp:List Addr),PG (zba X scope N cl s₀ H₀ fp) tg g∧zeX (zba X scope N cl s₀ H₀ fp) ifs tc∧PE (zba X scope N cl s₀ H₀ fp) elt te
theorem zlA {E:Value->Shared->Prop}{RR:Value->Addr->Result->Shared->Prop}{Q:VK}{pins:List (Addr×Obj)}{σ:St}{H1:Hp}{s2:Shared}{J:It}{it:Addr}{fp:List Addr}{tn:Nat->Heap->Prop}
   {cl:List (Str×Addr)} (hc:X.calm=true) (S:zbF X scope N js) (Pt:ziR X scope N tg elt ifs g tc te) (hcl:closureFor scope X.env=pure cl)
   (h1:∀ x c,cl.lookup x=some c->(x,NameKind.free)∈scope.names∧X.env.cells.lookup x=some c)
   (h2:∀ x c,(x,NameKind.free)∈scope.names->X.env.cells.lookup x=some c->cl.lookup x=some c)
   (I2:Inv X pins σ H1 s2) (T:zem X.prog X.w X.K tg J fp it tn) (st2:tn 0 s2.heap) (f2:∀ b∈fp,zco X pins H1 b)
   (h:∀ D,H1 D=none->zh2 J g tc te D σ H1 js Q)
   (hRR:∀ (D C:Addr) (s0 s':Shared) (H0 H':Hp) (m:Str->Option Value),Inv X pins σ H0 s0->C=s0.heap.objs.size->H' C=none->s'.heap.Ns C m->Inv X pins σ H' s'->Q (.ref D) H'->RR (.ref D) C (.ok .next) s') :
   wpAny (model X.prog X.w) X.A (newList []) (fun acc s₃=>wpAny (model X.prog X.w) X.A (newFunctionEnv scope X.env.globals cl [] X.env.qual none .none (some X.env)) (fun cenv s₄ =>
     codeAny (model X.prog X.w) X.A (.compStart (.ListComp elt [⟨tg,iter,ifs,0⟩] scope pos) 0 (.ref it) acc { cenv with scope:=relabel scope X.env }) (RR acc cenv.locals) s₄) E s₃) E s2:=by
 obtain ⟨W,⟨m0,w0⟩,turn⟩:=h s2.heap.objs.size (I2.hok.fresh (Nat.le_refl _))
 refine wpAny_newObj_type (wpAny_newFunctionEnv S.cell (by intro y hy;simp at hy) (fun h₁ hns₁ hsb₁=>?_) S.kind)
 dsimp only at hns₁ hsb₁ ⊢
 have I3:Inv X pins σ (upd H1 s2.heap.objs.size (.lst [])) { s2 with heap:=s2.heap.push { cls := .type "list",dict:=none,data := .seq ([]:List Value).toArray } } :=
   I2.lnew (its:=[]) (t':=s2.toks) .nil (Nat.zero_le _)
 generalize hH3:(upd H1 s2.heap.objs.size (.lst []))=H3 at I3 w0
 generalize hs3:({ s2 with heap:=s2.heap.push { cls := .type "list",dict:=none,data := .seq ([]:List Value).toArray } }:Shared)=s3 at I3
 have e3:s2.heap.push { cls := .type "list",dict:=none,data := .seq ([]:List Value).toArray }=s3.heap:=by rw [<- hs3]
 rw [e3]at hns₁ hsb₁ ⊢
 have hsz:s3.heap.objs.size=s2.heap.objs.size+1:=by rw [<- e3,Heap.size_push]
 have hlt2:∀ b∈fp,b < s2.heap.objs.size:=fun b hb=>by
   obtain ⟨o,ho,_⟩:=T.obj 0 _ st2 b hb
   exact Heap.lt_size ho
 have hlt3:∀ b∈fp,b < s3.heap.objs.size:=fun b hb=>by rw [hsz];exact Nat.lt_succ_of_lt (hlt2 b hb)
 have f3:∀ b∈fp,zco X pins H3 b:=fun b hb=>⟨by rw [<- hH3,zt (Nat.ne_of_lt (hlt2 b hb))];exact (f2 b hb).1,(f2 b hb).2⟩
 have old:∀ b o,s3.heap.get? b=some o->h₁.get? b=some o:=fun b o e=>hsb₁.extBut b o (Nat.ne_of_lt (Heap.lt_size e)) (Heap.get?_push_of_some _ e)
 have old2:∀ b o,s2.heap.get? b=some o->h₁.get? b=some o:=fun b o e=>old b o (by rw [<- e3];exact Heap.get?_push_of_some _ e)
 have st4:tn 0 h₁:=T.keep 0 _ _ st2 fun b _ o e=>old2 b o e
 have I4:∀ t',Inv (zba X scope N cl s3 H3 fp) [] (zd2 js σ) H3 { s3 with heap:=h₁,toks:=t' }:=fun t'=>zk1 S I3 f3 hlt3 h1 h2 hns₁ old
 obtain ⟨pg,pif,pe⟩:=Pt.run cl s3 H3 fp
 have stat:∀ {H':Hp} {pl:List (Addr×Obj)},(∀ b∈fp,H' b=none)->pl=[]->∀ b∈fp,zco (zba X scope N cl s3 H3 fp) pl H' b:=fun hn e b hb=>by
   subst e
   refine ⟨hn b hb,Nat.ne_of_lt (hlt3 b hb),fun z=>?_,.inl hb,fun x c hc=>(f3 b hb).2.2.2.2.1 x c (h1 x c hc).2,fun p hp=>(List.not_mem_nil (show p∈([]:List (Addr×Obj)) from hp)).elim⟩
   rcases List.mem_cons.mp (I3.stkSub b z) with e | e
   . exact (f3 b hb).2.1 e
   . exact (f3 b hb).2.2.1 e
 have loop:∀ s₄:Shared,s₄={ s3 with heap:=h₁,toks:=s2.toks+([]:List (Str×Value)).length } ->
     codeAny (model X.prog X.w) X.A (.compLoop (.ListComp elt [⟨tg,iter,ifs,0⟩] scope pos) 0 (.ref it) (.ref s2.heap.objs.size) (compEnvC scope cl s3.heap.objs.size X.env)) (RR (.ref s2.heap.objs.size) s3.heap.objs.size) s₄:=by
   rintro s₄ rfl
   refine codeAny_loop rfl (fun n s'=>∃ i σ' H',Inv (zba X scope N cl s3 H3 fp) [] σ' H' s'∧tn i s'.heap∧(∀ b∈fp,H' b=none)∧W i n σ' H') ?_ m0 ⟨0,zd2 js σ,H3,I4 _,st4,fun b hb=>(f3 b hb).1,w0⟩
   rintro n s5 ⟨i,σ5,H5,I5,st5,fr5,w5⟩
   show wpAny _ X.A ((compTurn (.ListComp elt [⟨tg,iter,ifs,0⟩] scope pos) 0 (.ref it) (.ref s2.heap.objs.size) (compEnvC scope cl s3.heap.objs.size X.env)).onRaise (fun x=>do noteFrame x (compEnvC scope cl s3.heap.objs.size X.env);theTreesLotGoes x)) _ _ s5
   refine wpAny_noted ?_
   rw [compTurn_list]
   have nox:∀ {α:Type} {t:Sem α} {Q:α->Shared->Prop} {E':Value->Shared->Prop} {s':Shared},wpAny (model X.prog X.w) X.A t Q (fun _ _=>False) s'->wpAny (model X.prog X.w) X.A t Q E' s':=fun h=>wpAny_mono h (fun _ _ x=>x) fun _ _ x=>x.elim
   refine wpAny_bind (wpAny_standAt (wpAny_bind ?_))
   rcases turn i n σ5 H5 w5 with ⟨stop,qn⟩ | ⟨go,step⟩
   . refine nox (thn (T.done (zba X scope N cl s3 H3 fp) rfl rfl rfl hc i [] s5 σ5 H5 _ I5 (stat fr5 rfl) st5 stop) fun r s6 ⟨hr,I6⟩=>?_)
     subst hr
     obtain ⟨m6,hn6,_⟩:=id I6.loc
     exact wpAny_pure (hRR _ _ s3 s6 H3 H5 m6 I3 rfl I6.free hn6 (zjU I3 f3 I6) qn)
   . refine nox (thn (T.item (zba X scope N cl s3 H3 fp) rfl rfl rfl hc i [] s5 σ5 H5 _ I5 (stat fr5 rfl) st5 go) fun r s6 ⟨u,hr,h6⟩=>?_)
     subst hr
     refine wpAny_bind (nox (thn h6 fun _ s7 ⟨x,H7,I7,r7,y7,st7,fr7⟩=>?_))
     have I7':=I7.pinned (stat fr7 rfl) (T.obj _ _ st7)
     refine wpAny_bind (nox (thn (pg _ s7 σ5 H7 x u _ I7' r7 (step x H7 y7)) fun _ s8 ⟨σ8,H8,I8,q8⟩=>?_))
     refine wpAny_bind (nox (thn (pif _ s8 σ8 H8 _ I8 q8) fun ok s9 ⟨H9,I9,q9⟩=>?_))
     have again:∀ {σa:St} {Ha:Hp} {sa:Shared} {m':Nat},Inv (zba X scope N cl s3 H3 fp) ([]++zgl fp s7.heap) σa Ha sa->m' < n->W (i+1) m' σa Ha->∃ m,m < n∧∃ i σ' H',Inv (zba X scope N cl s3 H3 fp) [] σ' H' sa∧tn i sa.heap∧(∀ b∈fp,H' b=none)∧W i m σ' H':=fun {σa Ha sa m'} Ia hm wa=>by
       refine ⟨m',hm,i+1,σa,Ha,Ia.unpinned,T.keep _ _ _ st7 fun b hb o e=>(Ia.pin (b,o) (List.mem_append_right _ (List.mem_append_right _ (zgc hb e)))).1,fun b hb=>?_,wa⟩
       obtain ⟨o,e,d⟩:=T.obj _ _ st7 b hb
       exact (Ia.pin (b,o) (List.mem_append_right _ (List.mem_append_right _ (zgc hb e)))).2.1
     cases ok with
     | false =>
       obtain ⟨m',hm,wa⟩:=q9
       exact wpAny_pure ⟨rfl,again I9 hm wa⟩
     | true =>
       refine wpAny_bind (wpAny_bind (nox (thn (pe _ s9 σ8 H9 _ I9 q9) fun y sa ⟨vy,Ha,Ia,ra,xs,hD,hz,m',hm,wa⟩=>?_)))
       refine wpAny_bind (nox (thn (zjK _ sa σ8 Ha (.ref s2.heap.objs.size) [vy] (.ref s2.heap.objs.size) [y] (fun _ H'=>H'=upd Ha s2.heap.objs.size (.lst (xs++[vy]))) Ia rfl (.cons ra .nil) ⟨_,_,_,rfl,rfl,hD,hz,rfl⟩) fun z sb ⟨vz,Hb,Ib,rb,eb⟩=>?_))
       subst eb
       exact wpAny_pure (wpAny_pure ⟨rfl,again Ib hm wa⟩)
 exact codeAny_compStart_list (loop _ (by rw [<- hs3])) (T.self _ 0 _ _ _ st4 (loop _ (by rw [<- hs3])))
end
end L2
end
section
namespace L2
open PySem PySem.Spec PyProof.Rows
section
variable {X:Cx}{scope:Scope}{N:List Str}{js:List (Option Nat)}{tg iter elt:Expr}{ifs:List Expr}{wi:TI}{g:TG}{tc:TT}{te:TE}{pos:Pos}
theorem zbF.clos (S:zbF X scope N js) {pins:List (Addr×Obj)}{σ:St}{H:Hp}{s:Shared} (I:Inv X pins σ H s) :
   ∃ cl:List (Str×Addr),closureFor scope X.env=pure cl∧(∀ x c,cl.lookup x=some c->(x,NameKind.free)∈scope.names∧X.env.cells.lookup x=some c) ∧
     (∀ x c,(x,NameKind.free)∈scope.names->X.env.cells.lookup x=some c->cl.lookup x=some c) :=
 zsd fun x hx hf=>I.ok.has x.1 (S.free x hx hf)
theorem zql (hc:X.calm=true) (S:zbF X scope N js) (hi:PI X tg iter wi) (Pt:ziR X scope N tg elt ifs g tc te) (hs:∀ x,foldedSetIterable iter X.env x=pure x:=by intro _;rfl) :
   PE X (.ListComp elt [⟨tg,iter,ifs,0⟩] scope pos) (zgY js wi g tc te):=by
 intro pins s σ H Q I h
 obtain ⟨cl,hcl,h1,h2⟩:=S.clos I
 rw [eval_ListComp]
 refine wpAny_comprehension_free (use:=none) (cl:=cl) rfl hs hcl S.kind (fun x hx hl=>by rw [S.names x hx,hl]) ?_
 refine wpAny_mono (hi pins s σ H _ I h) (fun v s1 p1=>wpAny_mono p1 (fun itv s2 p2=>?_) fun _ _ e=>e) fun _ _ e=>e
 obtain ⟨it,fp,tn,J,H2,e,I2,T,st2,f2,r2⟩:=p2
 subst e
 refine zlA (RR:=fun acc C=>compPost (model X.prog X.w) X.A X.xe none (EP X pins σ Q) acc C) hc S Pt hcl h1 h2 I2 T st2 f2 r2 ?_
 intro D C s0 s' H0 H' m I0 hC hn hns I' q
 exact ⟨m,hns,fun h' hs'=>⟨.ref D,H',ziv I0 hC hn I' hs',rfl,q⟩⟩
theorem zro {j:Nat}{y:Str}{py spos:Pos} (hc:X.calm=true) (hN:X.N.Nodup) (hj:X.N[j]?=some y) (hy:X.env.scope.names.lookup y=some .local) (S:zbF X scope N js) (hi:PI X tg iter wi) (Pt:ziR X scope N tg elt ifs g tc te)
   (hsw:swapsWith (.ListComp elt [⟨tg,iter,ifs,0⟩] scope pos) (some (.Name y py)) spos.line X.env=pure true:=by rfl) (hs:∀ x,foldedSetIterable iter X.env x=pure x:=by intro _;rfl) :
   PS X (.Assign [.Name y py] (.ListComp elt [⟨tg,iter,ifs,0⟩] scope pos) spos) (zgh (zgY js wi g tc te) (ze7 j)):=by
 intro pins s σ H D I h
 obtain ⟨cl,hcl,h1,h2⟩:=S.clos I
 rw [exec_Assign_Name_used _ _ _ _ hsw]
 refine wpAny_bind (wpAny_standAt (wpAny_bind ?_))
 show wpAny _ X.A (do let _ <- comprehension (.ListComp elt [⟨tg,iter,ifs,0⟩] scope pos) scope X.env _ (newList []) false (eval iter X.env) (some (assign (.Name y py) X.env))) _ _ s
 refine wpAny_bind (wpAny_mono (wpAny_comprehension_free (use:=some (assign (.Name y py) X.env)) (Q:=fun _ s'=>SP X pins D .next s') (cl:=cl) rfl hs hcl S.kind (fun x hx hl=>by rw [S.names x hx,hl]) ?_) (fun _ s' hq=>wpAny_pure (wpAny_pure hq)) fun _ _ e=>e)
 refine wpAny_mono (hi pins s σ H _ I h) (fun v s1 p1=>wpAny_mono p1 (fun itv s2 p2=>?_) fun _ _ e=>e) fun _ _ e=>e
 obtain ⟨it,fp,tn,J,H2,e,I2,T,st2,f2,r2⟩:=p2
 subst e
 refine zlA (Q:=fun x H1=>ze7 j x σ H1 D.nx) (RR:=fun acc C=>compPost (model X.prog X.w) X.A X.xe (some (assign (.Name y py) X.env)) (fun _ s'=>SP X pins D .next s') acc C) hc S Pt hcl h1 h2 I2 T st2 f2 r2 ?_
 intro D' C s0 s' H0 H' m I0 hC hn hns I' q
 show wpAny _ X.A (assign (.Name y py) X.env (.ref D')) _ _ _
 refine wpAny_assign_Name (zjc I' hN hj (.inl hy) (v := .ref D') rfl (fun s'' I'' ⟨a,sb,ha⟩=>?_) (.inr hy))
 have hCa:C≠a:=by
   rcases ha with ha | ha
   . rw [ha,hC];exact Nat.ne_of_gt I0.lt
   . obtain ⟨v,o,ho,_⟩:=I0.cell y a ha
     rw [hC];exact Nat.ne_of_gt (Heap.lt_size ho)
 exact ⟨m,hns.sameBut sb hCa,fun h' hs'=>⟨_,_,ziv I0 hC hn I'' hs',q⟩⟩
end
end L2
end
section
namespace L2
open PySem PySem.Spec PyProof.Rows
inductive D where
 | non | bl (b:Bool) | int (i:Int) | str (x:Str) | lst (ds:List D) | tup (ds:List D)
mutual
noncomputable def Dat (H:Hp):D->V->Prop
 | .non,v=>v = .non
 | .bl b,v=>v = .bl b
 | .int i,v=>v = .int i
 | .str x,v=>v = .str x
 | .lst ds,v=>∃ a xs,v = .ref a∧Rd H a (.lst xs)∧zbl H ds xs
 | .tup ds,v=>∃ a xs,v = .ref a∧H a=some (.tup xs)∧zbl H ds xs
noncomputable def zbl (H:Hp):List D->List V->Prop
 | [],xs=>xs=[]
 | d :: ds,xs=>∃ x r,xs=x :: r∧Dat H d x∧zbl H ds r
end
mutual
noncomputable def dpt:D->Nat
 | .lst ds=>zbY ds+1
 | .tup ds=>zbY ds+1
 | _=>0
noncomputable def zbY:List D->Nat
 | []=>0
 | d :: r=>max (dpt d) (zbY r)
end
mutual
noncomputable def eqD:D->D->Bool
 | .lst a,.lst b=>zbN a b
 | .tup a,.tup b=>zbN a b
 | .non,.non=>true
 | .bl a,.bl b=>a == b
 | .bl a,.int b=>(if a then 1 else 0) == b
 | .int a,.bl b=>a == (if b then 1 else 0)
 | .int a,.int b=>a == b
 | .str a,.str b=>a == b
 | _,_=>false
noncomputable def zbN:List D->List D->Bool
 | [],[]=>true
 | a :: r,b :: q=>eqD a b && zbN r q
 | _,_=>false
end
theorem zbl.length {H:Hp}:∀ {ds:List D}{xs:List V},zbl H ds xs->ds.length=xs.length
 | [],xs,h=>by unfold zbl at h;subst h;rfl
 | d :: ds,xs,h=>by
   unfold zbl at h
   obtain ⟨x,r,h1,h2,h3⟩:=h
   subst h1
   simp [zbl.length h3]
theorem zbl.get {H:Hp}:∀ {ds:List D}{xs:List V}{i:Nat}{x:V},zbl H ds xs->xs[i]?=some x->∃ d,ds[i]?=some d∧Dat H d x
 | [],xs,i,x,h,e=>by unfold zbl at h;subst h;simp at e
 | d :: ds,xs,i,x,h,e=>by
   unfold zbl at h
   obtain ⟨y,r,h1,h2,h3⟩:=h
   subst h1
   cases i with
   | zero=>simp at e;subst e;exact ⟨d,rfl,h2⟩
   | succ i =>
     obtain ⟨d',e1,e2⟩:=zbl.get (i:=i) h3 (by simpa using e)
     exact ⟨d',by simpa using e1,e2⟩
theorem zl7:∀ {ds:List D}{i:Nat}{d:D},ds[i]?=some d->dpt d<=zbY ds
 | [],_,_,e=>by simp at e
 | d' :: ds,0,d,e=>by simp at e;subst e;unfold zbY;omega
 | d' :: ds,i+1,d,e=>by
   have:=zl7 (ds:=ds) (i:=i) (d:=d) (by simpa using e)
   unfold zbY;omega
theorem zfd:∀ (a b:List D),a.length=b.length->((List.range a.length).all fun j=>eqD (a.getD j .non) (b.getD j .non))=zbN a b
 | [],[],_=>by simp [zbN]
 | x :: a,y :: b,h=>by
   have ih:=zfd a b (by simpa using h)
   rw [List.length_cons,List.range_succ_eq_map,List.all_cons,List.all_map]
   show (eqD x y && (List.range a.length).all fun j=>eqD (a.getD j .non) (b.getD j .non))=zbN (x :: a) (y :: b)
   rw [ih,zbN]
theorem zfg:∀ (a b:List D),a.length≠b.length->zbN a b=false
 | [],[],h=>absurd rfl h
 | [],_ :: _,_=>by unfold zbN;rfl
 | _ :: _,[],_=>by unfold zbN;rfl
 | x :: a,y :: b,h=>by
   rw [zbN,zfg a b (by simpa using h),Bool.and_false]
end L2
end
section
namespace L2
open PySem PySem.Spec PyProof.Rows
section
variable {X:Cx}{pins:List (Addr×Obj)}{σ:St}{H:Hp}{s:Shared}
theorem Inv.noboth (I:Inv X pins σ H s) {a:Addr}{xs ys:List V} (h:Rd H a (.lst xs)) (h':H a=some (.tup ys)):False:=by
 rcases h with h | ⟨o,h⟩
 . rw [h]at h';cases h'
 . rw [h]at h';cases h'
mutual
theorem ziU (I:Inv X pins σ H s):∀ (d d':D) (v:V),Dat H d v->Dat H d' v->eqD d d'=true
 | .non,d',v,h,h'=>by
   unfold Dat at h;subst h
   cases d' <;> simp [Dat]at h' <;> simp [eqD]
 | .bl b,d',v,h,h'=>by
   unfold Dat at h;subst h
   cases d' <;> simp [Dat]at h' <;> simp [eqD,h']
 | .int b,d',v,h,h'=>by
   unfold Dat at h;subst h
   cases d' <;> simp [Dat]at h' <;> simp [eqD,h']
 | .str b,d',v,h,h'=>by
   unfold Dat at h;subst h
   cases d' <;> simp [Dat]at h' <;> simp [eqD,h']
 | .lst ds,d',v,h,h'=>by
   unfold Dat at h
   obtain ⟨a,xs,rfl,h1,h2⟩:=h
   cases d' with
   | lst ds' =>
     unfold Dat at h'
     obtain ⟨b,ys,e,h3,h4⟩:=h'
     cases e
     have e:=I.list_inj (.inl h1) (.inl h3)
     subst e
     unfold eqD
     exact zi4 I ds ds' xs h2 h4
   | tup ds' =>
     unfold Dat at h'
     obtain ⟨b,ys,e,h3,h4⟩:=h'
     cases e
     exact (I.noboth h1 h3).elim
   | _=>simp [Dat]at h'
 | .tup ds,d',v,h,h'=>by
   unfold Dat at h
   obtain ⟨a,xs,rfl,h1,h2⟩:=h
   cases d' with
   | tup ds' =>
     unfold Dat at h'
     obtain ⟨b,ys,e,h3,h4⟩:=h'
     cases e
     have e:=I.tuple_inj (SqT.of h1) (SqT.of h3)
     subst e
     unfold eqD
     exact zi4 I ds ds' xs h2 h4
   | lst ds' =>
     unfold Dat at h'
     obtain ⟨b,ys,e,h3,h4⟩:=h'
     cases e
     exact (I.noboth h3 h1).elim
   | _=>simp [Dat]at h'
theorem zi4 (I:Inv X pins σ H s):∀ (ds ds':List D) (vs:List V),zbl H ds vs->zbl H ds' vs->zbN ds ds'=true
 | [],ds',vs,h,h'=>by
   unfold zbl at h;subst h
   cases ds' with
   | nil=>simp [zbN]
   | cons d r=>simp [zbl]at h'
 | d :: ds,ds',vs,h,h'=>by
   unfold zbl at h
   obtain ⟨x,r,rfl,h1,h2⟩:=h
   cases ds' with
   | nil=>simp [zbl]at h'
   | cons d' r' =>
     unfold zbl at h'
     obtain ⟨y,q,e,h3,h4⟩:=h'
     cases e
     unfold zbN
     rw [ziU I d d' x h1 h3,zi4 I ds r' r h2 h4]
     rfl
end
theorem Dat.flat {d:D}{v:V} (h:Dat H d v):(zbJ v=true∧∀ d' v',Dat H d' v'->zbJ v'=true->eqD d d'=eqV v v')∨(∃ ds a xs,d = .lst ds∧v = .ref a∧Rd H a (.lst xs)∧zbl H ds xs)∨(∃ ds a xs,d = .tup ds∧v = .ref a∧H a=some (.tup xs)∧zbl H ds xs):=by
 cases d with
 | lst ds=>unfold Dat at h;obtain ⟨a,xs,e,h1,h2⟩:=h;exact .inr (.inl ⟨ds,a,xs,rfl,e,h1,h2⟩)
 | tup ds=>unfold Dat at h;obtain ⟨a,xs,e,h1,h2⟩:=h;exact .inr (.inr ⟨ds,a,xs,rfl,e,h1,h2⟩)
 | _ =>
   unfold Dat at h;subst h
   refine .inl ⟨rfl,fun d' v' h' f=>?_⟩
   cases d' with
   | lst ds=>unfold Dat at h';obtain ⟨a,xs,rfl,_⟩:=h';cases f
   | tup ds=>unfold Dat at h';obtain ⟨a,xs,rfl,_⟩:=h';cases f
   | _=>unfold Dat at h';subst h';simp [eqD,eqV]
theorem zgk {A:Around}{ds ds':List D}{xs ys:List V}{us ws:List Value}
   (ih:∀ (d d':D) (x y:V) (u v:Value),dpt d<=zbY ds->Dat H d x->Dat H d' y->zo x u->zo y v->SeqAt.EqAt A s u v (eqD d d'))
   (h:zbl H ds xs) (h':zbl H ds' ys) (r:zr xs us) (r':zr ys ws) (j:Nat) (h1:j < us.toArray.size) (h2:j < ws.toArray.size) :
   SeqAt.EqAt A s us.toArray[j] ws.toArray[j] (eqD (ds.getD j .non) (ds'.getD j .non)):=by
 have l1:=r.length
 have l2:=r'.length
 have k1:=h.length
 have k2:=h'.length
 have h1':j < us.length:=by simpa using h1
 have h2':j < ws.length:=by simpa using h2
 have e1:xs[j]?=some xs[j]:=List.getElem?_eq_getElem ω
 have e2:ys[j]?=some ys[j]:=List.getElem?_eq_getElem ω
 obtain ⟨d,ed,hd⟩:=h.get e1
 obtain ⟨d',ed',hd'⟩:=h'.get e2
 obtain ⟨u,eu,ru⟩:=r.get e1
 obtain ⟨w,ew,rw'⟩:=r'.get e2
 have g1:ds.getD j .non=d:=by rw [List.getD_eq_getElem?_getD,ed];rfl
 have g2:ds'.getD j .non=d':=by rw [List.getD_eq_getElem?_getD,ed'];rfl
 have g3:us.toArray[j]=u:=by
   have:us[j]?=some us[j]:=List.getElem?_eq_getElem h1'
   rw [eu]at this;simpa using (Option.some.inj this).symm
 have g4:ws.toArray[j]=w:=by
   have:ws[j]?=some ws[j]:=List.getElem?_eq_getElem h2'
   rw [ew]at this;simpa using (Option.some.inj this).symm
 rw [g1,g2,g3,g4]
 exact ih d d' _ _ u w (zl7 ed) hd hd' ru rw'
theorem zqJ {A:Around}{y x:V}{u v:Value} (ry:zo y u) (rx:zo x v) (fy:zbJ y=true) (fx:zbJ x=true):SeqAt.RcAt A s u v (eqV y x):=by
 cases y with
 | non =>
   cases ry
   cases x with
   | non =>
     cases rx
     exact SeqAt.RcAt.none_none
   | bl b =>
     cases rx
     exact SeqAt.RcAt.none_bool _
   | int b =>
     obtain ⟨_,rfl⟩:=rx
     exact SeqAt.RcAt.none_int _ _
   | str b =>
     obtain ⟨_,rfl⟩:=rx
     exact SeqAt.RcAt.none_str _ _
   | _=>exact absurd (show false=true from fx) Bool.false_ne_true
 | bl a =>
   cases ry
   cases x with
   | non =>
     cases rx
     exact SeqAt.RcAt.bool_none _
   | bl b =>
     cases rx
     exact SeqAt.RcAt.bool_bool _ _
   | int b =>
     obtain ⟨_,rfl⟩:=rx
     exact SeqAt.RcAt.bool_int _ _ _
   | str b =>
     obtain ⟨_,rfl⟩:=rx
     exact SeqAt.RcAt.bool_str _ _ _
   | _=>exact absurd (show false=true from fx) Bool.false_ne_true
 | int a =>
   obtain ⟨_,rfl⟩:=ry
   cases x with
   | non =>
     cases rx
     exact SeqAt.RcAt.int_none _ _
   | bl b =>
     cases rx
     exact SeqAt.RcAt.int_bool _ _ _
   | int b =>
     obtain ⟨_,rfl⟩:=rx
     exact SeqAt.RcAt.int_int _ _ _ _
   | str b =>
     obtain ⟨_,rfl⟩:=rx
     exact SeqAt.RcAt.int_str _ _ _ _
   | _=>exact absurd (show false=true from fx) Bool.false_ne_true
 | str a =>
   obtain ⟨_,rfl⟩:=ry
   cases x with
   | non =>
     cases rx
     exact SeqAt.RcAt.str_none _ _
   | bl b =>
     cases rx
     exact SeqAt.RcAt.str_bool _ _ _
   | int b =>
     obtain ⟨_,rfl⟩:=rx
     exact SeqAt.RcAt.str_int _ _ _ _
   | str b =>
     obtain ⟨_,rfl⟩:=rx
     exact SeqAt.RcAt.str_str _ _ _ _
   | _=>exact absurd (show false=true from fx) Bool.false_ne_true
 | _=>exact absurd (show false=true from fy) Bool.false_ne_true
theorem zqe {A:Around}{y x:V}{u v:Value} (ry:zo y u) (rx:zo x v) (fy:zbJ y=true) (fx:zbJ x=true):SeqAt.RcNeAt A s u v (!eqV y x):=by
 cases y with
 | non =>
   cases ry
   cases x with
   | non =>
     cases rx
     exact SeqAt.RcNeAt.none_none
   | bl b =>
     cases rx
     exact SeqAt.RcNeAt.none_bool _
   | int b =>
     obtain ⟨_,rfl⟩:=rx
     exact SeqAt.RcNeAt.none_int _ _
   | str b =>
     obtain ⟨_,rfl⟩:=rx
     exact SeqAt.RcNeAt.none_str _ _
   | _=>exact absurd (show false=true from fx) Bool.false_ne_true
 | bl a =>
   cases ry
   cases x with
   | non =>
     cases rx
     exact SeqAt.RcNeAt.bool_none _
   | bl b =>
     cases rx
     exact SeqAt.RcNeAt.bool_bool _ _
   | int b =>
     obtain ⟨_,rfl⟩:=rx
     exact SeqAt.RcNeAt.bool_int _ _ _
   | str b =>
     obtain ⟨_,rfl⟩:=rx
     exact SeqAt.RcNeAt.bool_str _ _ _
   | _=>exact absurd (show false=true from fx) Bool.false_ne_true
 | int a =>
   obtain ⟨_,rfl⟩:=ry
   cases x with
   | non =>
     cases rx
     exact SeqAt.RcNeAt.int_none _ _
   | bl b =>
     cases rx
     exact SeqAt.RcNeAt.int_bool _ _ _
   | int b =>
     obtain ⟨_,rfl⟩:=rx
     exact SeqAt.RcNeAt.int_int _ _ _ _
   | str b =>
     obtain ⟨_,rfl⟩:=rx
     exact SeqAt.RcNeAt.int_str _ _ _ _
   | _=>exact absurd (show false=true from fx) Bool.false_ne_true
 | str a =>
   obtain ⟨_,rfl⟩:=ry
   cases x with
   | non =>
     cases rx
     exact SeqAt.RcNeAt.str_none _ _
   | bl b =>
     cases rx
     exact SeqAt.RcNeAt.str_bool _ _ _
   | int b =>
     obtain ⟨_,rfl⟩:=rx
     exact SeqAt.RcNeAt.str_int _ _ _ _
   | str b =>
     obtain ⟨_,rfl⟩:=rx
     exact SeqAt.RcNeAt.str_str _ _ _ _
   | _=>exact absurd (show false=true from fx) Bool.false_ne_true
 | _=>exact absurd (show false=true from fy) Bool.false_ne_true
theorem ziT {A:Around}{y:V}{u:Value}{a:Addr}{its:Array Value} (hu:A.units < cLine) (ry:zo y u) (fy:zbJ y=true) (p:s.heap.IsList a its):SeqAt.EqAt A s u (.ref a) false∧SeqAt.EqAt A s (.ref a) u false:=by
 cases y with
 | non =>
   cases ry
   exact ⟨SeqAt.EqAt.none_list p hu,SeqAt.EqAt.list_none p hu⟩
 | bl a =>
   cases ry
   exact ⟨SeqAt.EqAt.bool_list _ p hu,SeqAt.EqAt.list_bool _ p hu⟩
 | int a =>
   obtain ⟨_,rfl⟩:=ry
   exact ⟨SeqAt.EqAt.int_list _ _ p hu,SeqAt.EqAt.list_int _ _ p hu⟩
 | str a =>
   obtain ⟨_,rfl⟩:=ry
   exact ⟨SeqAt.EqAt.str_list _ _ p hu,SeqAt.EqAt.list_str _ _ p hu⟩
 | _=>exact absurd (show false=true from fy) Bool.false_ne_true
theorem zjO {A:Around}{y:V}{u:Value}{a:Addr}{its:Array Value} (hu:A.units < cLine) (ry:zo y u) (fy:zbJ y=true) (p:s.heap.IsTuple a its):SeqAt.EqAt A s u (.ref a) false∧SeqAt.EqAt A s (.ref a) u false:=by
 cases y with
 | non =>
   cases ry
   exact ⟨SeqAt.EqAt.none_tuple p hu,SeqAt.EqAt.tuple_none p hu⟩
 | bl a =>
   cases ry
   exact ⟨SeqAt.EqAt.bool_tuple _ p hu,SeqAt.EqAt.tuple_bool _ p hu⟩
 | int a =>
   obtain ⟨_,rfl⟩:=ry
   exact ⟨SeqAt.EqAt.int_tuple _ _ p hu,SeqAt.EqAt.tuple_int _ _ p hu⟩
 | str a =>
   obtain ⟨_,rfl⟩:=ry
   exact ⟨SeqAt.EqAt.str_tuple _ _ p hu,SeqAt.EqAt.tuple_str _ _ p hu⟩
 | _=>exact absurd (show false=true from fy) Bool.false_ne_true
theorem zkh {A:Around}{y:V}{u:Value}{a:Addr}{its:Array Value} (hu:A.units < cLine) (ry:zo y u) (fy:zbJ y=true) (p:s.heap.IsList a its):SeqAt.RcAt A s u (.ref a) false∧SeqAt.RcAt A s (.ref a) u false:=by
 cases y with
 | non =>
   cases ry
   exact ⟨SeqAt.RcAt.none_list p hu,SeqAt.RcAt.list_none p hu⟩
 | bl a =>
   cases ry
   exact ⟨SeqAt.RcAt.bool_list _ p hu,SeqAt.RcAt.list_bool _ p hu⟩
 | int a =>
   obtain ⟨_,rfl⟩:=ry
   exact ⟨SeqAt.RcAt.int_list _ _ p hu,SeqAt.RcAt.list_int _ _ p hu⟩
 | str a =>
   obtain ⟨_,rfl⟩:=ry
   exact ⟨SeqAt.RcAt.str_list _ _ p hu,SeqAt.RcAt.list_str _ _ p hu⟩
 | _=>exact absurd (show false=true from fy) Bool.false_ne_true
theorem zlw {A:Around}{y:V}{u:Value}{a:Addr}{its:Array Value} (hu:A.units < cLine) (ry:zo y u) (fy:zbJ y=true) (p:s.heap.IsTuple a its):SeqAt.RcAt A s u (.ref a) false∧SeqAt.RcAt A s (.ref a) u false:=by
 cases y with
 | non =>
   cases ry
   exact ⟨SeqAt.RcAt.none_tuple p hu,SeqAt.RcAt.tuple_none p hu⟩
 | bl a =>
   cases ry
   exact ⟨SeqAt.RcAt.bool_tuple _ p hu,SeqAt.RcAt.tuple_bool _ p hu⟩
 | int a =>
   obtain ⟨_,rfl⟩:=ry
   exact ⟨SeqAt.RcAt.int_tuple _ _ p hu,SeqAt.RcAt.tuple_int _ _ p hu⟩
 | str a =>
   obtain ⟨_,rfl⟩:=ry
   exact ⟨SeqAt.RcAt.str_tuple _ _ p hu,SeqAt.RcAt.tuple_str _ _ p hu⟩
 | _=>exact absurd (show false=true from fy) Bool.false_ne_true
theorem zkj {A:Around}{y:V}{u:Value}{a:Addr}{its:Array Value} (hu:A.units < cLine) (ry:zo y u) (fy:zbJ y=true) (p:s.heap.IsList a its):SeqAt.RcNeAt A s u (.ref a) true∧SeqAt.RcNeAt A s (.ref a) u true:=by
 cases y with
 | non =>
   cases ry
   exact ⟨SeqAt.RcNeAt.none_list p hu,SeqAt.RcNeAt.list_none p hu⟩
 | bl a =>
   cases ry
   exact ⟨SeqAt.RcNeAt.bool_list _ p hu,SeqAt.RcNeAt.list_bool _ p hu⟩
 | int a =>
   obtain ⟨_,rfl⟩:=ry
   exact ⟨SeqAt.RcNeAt.int_list _ _ p hu,SeqAt.RcNeAt.list_int _ _ p hu⟩
 | str a =>
   obtain ⟨_,rfl⟩:=ry
   exact ⟨SeqAt.RcNeAt.str_list _ _ p hu,SeqAt.RcNeAt.list_str _ _ p hu⟩
 | _=>exact absurd (show false=true from fy) Bool.false_ne_true
theorem zmt {A:Around}{y:V}{u:Value}{a:Addr}{its:Array Value} (hu:A.units < cLine) (ry:zo y u) (fy:zbJ y=true) (p:s.heap.IsTuple a its):SeqAt.RcNeAt A s u (.ref a) true∧SeqAt.RcNeAt A s (.ref a) u true:=by
 cases y with
 | non =>
   cases ry
   exact ⟨SeqAt.RcNeAt.none_tuple p hu,SeqAt.RcNeAt.tuple_none p hu⟩
 | bl a =>
   cases ry
   exact ⟨SeqAt.RcNeAt.bool_tuple _ p hu,SeqAt.RcNeAt.tuple_bool _ p hu⟩
 | int a =>
   obtain ⟨_,rfl⟩:=ry
   exact ⟨SeqAt.RcNeAt.int_tuple _ _ p hu,SeqAt.RcNeAt.tuple_int _ _ p hu⟩
 | str a =>
   obtain ⟨_,rfl⟩:=ry
   exact ⟨SeqAt.RcNeAt.str_tuple _ _ p hu,SeqAt.RcNeAt.tuple_str _ _ p hu⟩
 | _=>exact absurd (show false=true from fy) Bool.false_ne_true
theorem zcO {d:D}{v:V} (h:Dat H d v) (f:zbJ v=true) (ds:List D):eqD d (.lst ds)=false∧eqD d (.tup ds)=false∧eqD (.lst ds) d=false∧eqD (.tup ds) d=false:=by
 cases d with
 | lst e=>unfold Dat at h;obtain ⟨_,_,rfl,_⟩:=h;cases f
 | tup e=>unfold Dat at h;obtain ⟨_,_,rfl,_⟩:=h;cases f
 | _=>simp [eqD]
theorem zhH (I:Inv X pins σ H s):∀ (n:Nat) (A:Around) (d d':D) (x y:V) (u v:Value),A.units+n < cLine->dpt d<=n->Dat H d x->Dat H d' y->zo x u->zo y v->SeqAt.EqAt A s u v (eqD d d'):=by
 intro n
 induction n with
 | zero =>
   intro A d d' x y u v hu hn h h' r r'
   rcases h.flat with ⟨f,q⟩ | ⟨ds,a,xs,rfl,rfl,h1,h2⟩ | ⟨ds,a,xs,rfl,rfl,h1,h2⟩
   . rcases h'.flat with ⟨f',q'⟩ | ⟨ds,a,xs,rfl,rfl,h1,h2⟩ | ⟨ds,a,xs,rfl,rfl,h1,h2⟩
     . rw [q d' y h' f'];exact zjP r r' f f'
     . cases r'
       obtain ⟨its,_,p,_⟩:=I.list (.inl h1)
       rw [(zcO h f ds).1];exact (ziT ω r f p.isList).1
     . cases r'
       obtain ⟨its,_,p,_⟩:=I.tuple (SqT.of h1)
       rw [(zcO h f ds).2.1];exact (zjO ω r f (show s.heap.IsTuple a its.toArray from p)).1
   . unfold dpt at hn;omega
   . unfold dpt at hn;omega
 | succ n ih =>
   intro A d d' x y u v hu hn h h' r r'
   rcases h.flat with ⟨f,q⟩ | ⟨ds,a,xs,rfl,rfl,h1,h2⟩ | ⟨ds,a,xs,rfl,rfl,h1,h2⟩
   . rcases h'.flat with ⟨f',q'⟩ | ⟨ds,a,xs,rfl,rfl,h1,h2⟩ | ⟨ds,a,xs,rfl,rfl,h1,h2⟩
     . rw [q d' y h' f'];exact zjP r r' f f'
     . cases r'
       obtain ⟨its,_,p,_⟩:=I.list (.inl h1)
       rw [(zcO h f ds).1];exact (ziT ω r f p.isList).1
     . cases r'
       obtain ⟨its,_,p,_⟩:=I.tuple (SqT.of h1)
       rw [(zcO h f ds).2.1];exact (zjO ω r f (show s.heap.IsTuple a its.toArray from p)).1
   . cases r
     obtain ⟨its,rv,p,_⟩:=I.list (.inl h1)
     rcases h'.flat with ⟨f',q'⟩ | ⟨ds',b,ys,rfl,rfl,h3,h4⟩ | ⟨ds',b,ys,rfl,rfl,h3,h4⟩
     . rw [(zcO h' f' ds).2.2.1];exact (ziT ω r' f' p.isList).2
     . cases r'
       obtain ⟨its',rv',p',_⟩:=I.list (.inl h3)
       by_cases hab:a=b
       . subst hab
         rw [ziU I _ _ _ h h'];exact SeqAt.EqAt.same _
       . refine SeqAt.EqAt.of_refs hab ?_
         by_cases hl:ds.length=ds'.length
         . have e:=SeqAt.RcAt.lists (A:=A) p.isList p'.isList (by simp [<- rv.length,<- rv'.length,<- h2.length,<- h4.length,hl]) ω
             (fun j j1 j2=>zgk (fun d d' x y u v hd a1 a2 a3 a4=>ih A.in1 d d' x y u v (by show A.units+1+n < cLine;omega) (by unfold dpt at hn;omega) a1 a2 a3 a4) h2 h4 rv rv' j j1 j2)
           have e2:its.toArray.size=ds.length:=by simp [<- rv.length,<- h2.length]
           rw [e2,zfd ds ds' hl]at e
           unfold eqD;exact e
         . unfold eqD
           rw [zfg _ _ hl]
           exact SeqAt.RcAt.lists_lengths p.isList p'.isList (by simpa [<- rv.length,<- rv'.length,<- h2.length,<- h4.length] using hl) ω
     . cases r'
       obtain ⟨its',rv',p',_⟩:=I.tuple (SqT.of h3)
       unfold eqD
       exact SeqAt.EqAt.list_tuple p.isList (show s.heap.IsTuple b its'.toArray from p') ω
   . cases r
     obtain ⟨its,rv,p0,_⟩:=I.tuple (SqT.of h1)
     have p:s.heap.IsTuple a its.toArray:=p0
     rcases h'.flat with ⟨f',q'⟩ | ⟨ds',b,ys,rfl,rfl,h3,h4⟩ | ⟨ds',b,ys,rfl,rfl,h3,h4⟩
     . rw [(zcO h' f' ds).2.2.2];exact (zjO ω r' f' p).2
     . cases r'
       obtain ⟨its',rv',p',_⟩:=I.list (.inl h3)
       unfold eqD
       exact SeqAt.EqAt.tuple_list p p'.isList ω
     . cases r'
       obtain ⟨its',rv',p0',_⟩:=I.tuple (SqT.of h3)
       have p':s.heap.IsTuple b its'.toArray:=p0'
       by_cases hab:a=b
       . subst hab
         rw [ziU I _ _ _ h h'];exact SeqAt.EqAt.same _
       . refine SeqAt.EqAt.of_refs hab ?_
         have e:=SeqAt.RcAt.tuples (A:=A) p p' ω
           (fun j j1 j2=>zgk (fun d d' x y u v hd a1 a2 a3 a4=>ih A.in1 d d' x y u v (by show A.units+1+n < cLine;omega) (by unfold dpt at hn;omega) a1 a2 a3 a4) h2 h4 rv rv' j j1 j2)
         have e2:its.toArray.size=ds.length:=by simp [<- rv.length,<- h2.length]
         have e3:its'.toArray.size=ds'.length:=by simp [<- rv'.length,<- h4.length]
         rw [e2,e3]at e
         unfold eqD
         by_cases hl:ds.length=ds'.length
         . rw [show min ds.length ds'.length=ds.length by omega,zfd ds ds' hl,beq_iff_eq.mpr hl,Bool.and_true]at e
           exact e
         . rw [beq_eq_false_iff_ne.mpr hl,Bool.and_false]at e
           rw [zfg _ _ hl];exact e
theorem zp5 (I:Inv X pins σ H s) {A:Around}{d d':D}{x y:V}{u v:Value} (hu:A.units+dpt d < cLine) (h:Dat H d x) (h':Dat H d' y) (r:zo x u) (r':zo y v):SeqAt.RcAt A s u v (eqD d d'):=by
 rcases h.flat with ⟨f,q⟩ | ⟨ds,a,xs,rfl,rfl,h1,h2⟩ | ⟨ds,a,xs,rfl,rfl,h1,h2⟩
 . rcases h'.flat with ⟨f',q'⟩ | ⟨ds,a,xs,rfl,rfl,h1,h2⟩ | ⟨ds,a,xs,rfl,rfl,h1,h2⟩
   . rw [q d' y h' f'];exact zqJ r r' f f'
   . cases r'
     obtain ⟨its,_,p,_⟩:=I.list (.inl h1)
     rw [(zcO h f ds).1];exact (zkh ω r f p.isList).1
   . cases r'
     obtain ⟨its,_,p,_⟩:=I.tuple (SqT.of h1)
     rw [(zcO h f ds).2.1];exact (zlw ω r f (show s.heap.IsTuple a its.toArray from p)).1
 . cases r
   obtain ⟨its,rv,p,_⟩:=I.list (.inl h1)
   rcases h'.flat with ⟨f',q'⟩ | ⟨ds',b,ys,rfl,rfl,h3,h4⟩ | ⟨ds',b,ys,rfl,rfl,h3,h4⟩
   . rw [(zcO h' f' ds).2.2.1];exact (zkh ω r' f' p.isList).2
   . cases r'
     obtain ⟨its',rv',p',_⟩:=I.list (.inl h3)
     by_cases hl:ds.length=ds'.length
     . have e:=SeqAt.RcAt.lists (A:=A) p.isList p'.isList (by simp [<- rv.length,<- rv'.length,<- h2.length,<- h4.length,hl]) ω
         (fun j j1 j2=>zgk (fun d d' x y u v hd a1 a2 a3 a4=>zhH I (zbY ds) A.in1 d d' x y u v (by unfold dpt at hu;show A.units+1+zbY ds < cLine;omega) hd a1 a2 a3 a4) h2 h4 rv rv' j j1 j2)
       have e2:its.toArray.size=ds.length:=by simp [<- rv.length,<- h2.length]
       rw [e2,zfd ds ds' hl]at e
       unfold eqD;exact e
     . unfold eqD
       rw [zfg _ _ hl]
       exact SeqAt.RcAt.lists_lengths p.isList p'.isList (by simpa [<- rv.length,<- rv'.length,<- h2.length,<- h4.length] using hl) ω
   . cases r'
     obtain ⟨its',rv',p',_⟩:=I.tuple (SqT.of h3)
     unfold eqD
     exact SeqAt.RcAt.list_tuple p.isList (show s.heap.IsTuple b its'.toArray from p') ω
 . cases r
   obtain ⟨its,rv,p0,_⟩:=I.tuple (SqT.of h1)
   have p:s.heap.IsTuple a its.toArray:=p0
   rcases h'.flat with ⟨f',q'⟩ | ⟨ds',b,ys,rfl,rfl,h3,h4⟩ | ⟨ds',b,ys,rfl,rfl,h3,h4⟩
   . rw [(zcO h' f' ds).2.2.2];exact (zlw ω r' f' p).2
   . cases r'
     obtain ⟨its',rv',p',_⟩:=I.list (.inl h3)
     unfold eqD
     exact SeqAt.RcAt.tuple_list p p'.isList ω
   . cases r'
     obtain ⟨its',rv',p0',_⟩:=I.tuple (SqT.of h3)
     have p':s.heap.IsTuple b its'.toArray:=p0'
     have e:=SeqAt.RcAt.tuples (A:=A) p p' ω
       (fun j j1 j2=>zgk (fun d d' x y u v hd a1 a2 a3 a4=>zhH I (zbY ds) A.in1 d d' x y u v (by unfold dpt at hu;show A.units+1+zbY ds < cLine;omega) hd a1 a2 a3 a4) h2 h4 rv rv' j j1 j2)
     have e2:its.toArray.size=ds.length:=by simp [<- rv.length,<- h2.length]
     have e3:its'.toArray.size=ds'.length:=by simp [<- rv'.length,<- h4.length]
     rw [e2,e3]at e
     unfold eqD
     by_cases hl:ds.length=ds'.length
     . rw [show min ds.length ds'.length=ds.length by omega,zfd ds ds' hl,beq_iff_eq.mpr hl,Bool.and_true]at e
       exact e
     . rw [beq_eq_false_iff_ne.mpr hl,Bool.and_false]at e
       rw [zfg _ _ hl];exact e
theorem zpI (I:Inv X pins σ H s) {A:Around}{d d':D}{x y:V}{u v:Value} (hu:A.units+dpt d < cLine) (h:Dat H d x) (h':Dat H d' y) (r:zo x u) (r':zo y v):SeqAt.RcNeAt A s u v (!eqD d d'):=by
 rcases h.flat with ⟨f,q⟩ | ⟨ds,a,xs,rfl,rfl,h1,h2⟩ | ⟨ds,a,xs,rfl,rfl,h1,h2⟩
 . rcases h'.flat with ⟨f',q'⟩ | ⟨ds,a,xs,rfl,rfl,h1,h2⟩ | ⟨ds,a,xs,rfl,rfl,h1,h2⟩
   . rw [q d' y h' f'];exact zqe r r' f f'
   . cases r'
     obtain ⟨its,_,p,_⟩:=I.list (.inl h1)
     rw [(zcO h f ds).1];exact (zkj ω r f p.isList).1
   . cases r'
     obtain ⟨its,_,p,_⟩:=I.tuple (SqT.of h1)
     rw [(zcO h f ds).2.1];exact (zmt ω r f (show s.heap.IsTuple a its.toArray from p)).1
 . cases r
   obtain ⟨its,rv,p,_⟩:=I.list (.inl h1)
   rcases h'.flat with ⟨f',q'⟩ | ⟨ds',b,ys,rfl,rfl,h3,h4⟩ | ⟨ds',b,ys,rfl,rfl,h3,h4⟩
   . rw [(zcO h' f' ds).2.2.1];exact (zkj ω r' f' p.isList).2
   . cases r'
     obtain ⟨its',rv',p',_⟩:=I.list (.inl h3)
     by_cases hl:ds.length=ds'.length
     . have e:=SeqAt.RcNeAt.lists (A:=A) p.isList p'.isList (by simp [<- rv.length,<- rv'.length,<- h2.length,<- h4.length,hl]) ω
         (fun j j1 j2=>zgk (fun d d' x y u v hd a1 a2 a3 a4=>zhH I (zbY ds) A.in1 d d' x y u v (by unfold dpt at hu;show A.units+1+zbY ds < cLine;omega) hd a1 a2 a3 a4) h2 h4 rv rv' j j1 j2)
       have e2:its.toArray.size=ds.length:=by simp [<- rv.length,<- h2.length]
       rw [e2,zfd ds ds' hl]at e
       unfold eqD;exact e
     . unfold eqD
       rw [zfg _ _ hl]
       exact SeqAt.RcNeAt.lists_lengths p.isList p'.isList (by simpa [<- rv.length,<- rv'.length,<- h2.length,<- h4.length] using hl) ω
   . cases r'
     obtain ⟨its',rv',p',_⟩:=I.tuple (SqT.of h3)
     unfold eqD
     exact SeqAt.RcNeAt.list_tuple p.isList (show s.heap.IsTuple b its'.toArray from p') ω
 . cases r
   obtain ⟨its,rv,p0,_⟩:=I.tuple (SqT.of h1)
   have p:s.heap.IsTuple a its.toArray:=p0
   rcases h'.flat with ⟨f',q'⟩ | ⟨ds',b,ys,rfl,rfl,h3,h4⟩ | ⟨ds',b,ys,rfl,rfl,h3,h4⟩
   . rw [(zcO h' f' ds).2.2.2];exact (zmt ω r' f' p).2
   . cases r'
     obtain ⟨its',rv',p',_⟩:=I.list (.inl h3)
     unfold eqD
     exact SeqAt.RcNeAt.tuple_list p p'.isList ω
   . cases r'
     obtain ⟨its',rv',p0',_⟩:=I.tuple (SqT.of h3)
     have p':s.heap.IsTuple b its'.toArray:=p0'
     have e:=SeqAt.RcNeAt.tuples (A:=A) p p' ω
       (fun j j1 j2=>zgk (fun d d' x y u v hd a1 a2 a3 a4=>zhH I (zbY ds) A.in1 d d' x y u v (by unfold dpt at hu;show A.units+1+zbY ds < cLine;omega) hd a1 a2 a3 a4) h2 h4 rv rv' j j1 j2)
     have e2:its.toArray.size=ds.length:=by simp [<- rv.length,<- h2.length]
     have e3:its'.toArray.size=ds'.length:=by simp [<- rv'.length,<- h4.length]
     rw [e2,e3]at e
     unfold eqD
     by_cases hl:ds.length=ds'.length
     . rw [show min ds.length ds'.length=ds.length by omega,zfd ds ds' hl,beq_iff_eq.mpr hl,Bool.and_true]at e
       exact e
     . rw [beq_eq_false_iff_ne.mpr hl,Bool.and_false]at e
       rw [zfg _ _ hl];exact e
end
section
variable {X:Cx}
noncomputable def zhX:R2:=fun x y H Q=>∃ d d',Dat H d x∧Dat H d' y∧dpt d<=100∧Q (.bl (eqD d d')) H
noncomputable def zhK:R2:=fun x y H Q=>∃ d d',Dat H d x∧Dat H d' y∧dpt d<=100∧Q (.bl (!eqD d d')) H
theorem zuI {k:Nat} (hr:zO k X.A):OpR X (compareOp .Eq) zhX:=by
 intro pins s σ H x y v u Q I r r' h
 obtain ⟨d,d',h1,h2,h3,q⟩:=h
 exact zp5 I (by have:=hr.un;omega) h1 h2 r r' _ _ _ _ ⟨.bl _,H,I,rfl,q⟩
theorem zrZ {k:Nat} (hr:zO k X.A):OpR X (compareOp .NotEq) zhK:=by
 intro pins s σ H x y v u Q I r r' h
 obtain ⟨d,d',h1,h2,h3,q⟩:=h
 exact zpI I (by have:=hr.un;omega) h1 h2 r r' _ _ _ _ ⟨.bl _,H,I,rfl,q⟩
end
end L2
end
section
namespace L2
open PySem PySem.Spec PyProof.Rows
section
variable {X:Cx}
noncomputable def zrU (K:PySem.W.Frag):List V->Hp->VK->Prop:=fun xs H Q=>∃ x t b,zcR K H x t∧((∃ n,xs=[x,.ty n]∧PySem.W.kitOne K t (.type n)=some b)∨(∃ C,xs=[x,.ref C]∧PySem.W.kitOne K t (.ref C)=some b))∧Q (.bl b) H
theorem zmJ:zdk X (.builtin "isinstance") (zrU X.K):=by
 intro pins s σ H xs us Q I r h
 obtain ⟨x,t,b,ty,h | h,q⟩:=h
 . obtain ⟨n,rfl,hk⟩:=h
   obtain ⟨u,c,rfl,ru,rc⟩:=zjS r
   cases rc
   exact zmk I ru ty hk fun tk=>⟨.bl b,H,I.tok _,rfl,q⟩
 . obtain ⟨C,rfl,hk⟩:=h
   obtain ⟨u,c,rfl,ru,rc⟩:=zjS r
   cases rc
   exact zmk I ru ty hk fun tk=>⟨.bl b,H,I.tok _,rfl,q⟩
theorem zsO:OpR X (compareOp .Is) (fun x y H Q=>∃ b c,x = .bl b∧y = .bl c∧Q (.bl (b == c)) H):=by
 intro pins s σ H x y v u Q I r r' h
 obtain ⟨b,c,rfl,rfl,q⟩:=h
 cases r;cases r'
 refine wpAny_is_plain rfl ⟨.bl (b == c),H,I,?_,q⟩
 cases b <;> cases c <;> rfl
theorem zuv:OpR X (compareOp .IsNot) (fun x y H Q=>∃ b c,x = .bl b∧y = .bl c∧Q (.bl (!(b == c))) H):=by
 intro pins s σ H x y v u Q I r r' h
 obtain ⟨b,c,rfl,rfl,q⟩:=h
 cases r;cases r'
 refine wpAny_isNot_plain rfl ⟨.bl (!(b == c)),H,I,?_,q⟩
 cases b <;> cases c <;> rfl
theorem zl5 {xs:List V}{us:List Value} (r:zr xs us) {i:Nat}{v:Value} (e:us.toArray[i]?=some v):∃ x,xs[i]?=some x∧zo x v:=by
 have e':us[i]?=some v:=by simpa using e
 have hi:i < us.length:=(List.getElem?_eq_some_iff.mp e').1
 have l:=r.length
 have ex:xs[i]?=some xs[i]:=List.getElem?_eq_getElem ω
 obtain ⟨u,eu,ru⟩:=r.get ex
 rw [e']at eu;cases eu
 exact ⟨_,ex,ru⟩
theorem zsz (bs:List Bool):((List.range bs.length).all fun i=>bs.getD i false)=bs.all id:=by
 rw [Bool.eq_iff_iff,List.all_eq_true,List.all_eq_true]
 constructor
 . intro q b hb
   obtain ⟨i,hi,e⟩:=List.getElem_of_mem hb
   have:=q i (List.mem_range.mpr hi)
   rw [List.getD_eq_getElem?_getD,List.getElem?_eq_getElem hi,e]at this
   exact this
 . intro q i hi
   have hi':=List.mem_range.mp hi
   rw [List.getD_eq_getElem?_getD,List.getElem?_eq_getElem hi']
   exact q _ (List.getElem_mem hi')
theorem zq0 (bs:List Bool):((List.range bs.length).any fun i=>bs.getD i false)=bs.any id:=by
 rw [Bool.eq_iff_iff,List.any_eq_true,List.any_eq_true]
 constructor
 . rintro ⟨i,hi,q⟩
   have hi':=List.mem_range.mp hi
   rw [List.getD_eq_getElem?_getD,List.getElem?_eq_getElem hi']at q
   exact ⟨_,List.getElem_mem hi',q⟩
 . rintro ⟨b,hb,q⟩
   obtain ⟨i,hi,e⟩:=List.getElem_of_mem hb
   refine ⟨i,List.mem_range.mpr hi,?_⟩
   rw [List.getD_eq_getElem?_getD,List.getElem?_eq_getElem hi,e]
   exact q
theorem zjr {pins:List (Addr×Obj)}{σ:St}{H:Hp}{s:Shared}{a:Addr}{its:Array Value} (I:Inv X pins σ H s) {h':Heap}{tk:Nat}
   (hk:∀ b o,b∉[s.heap.objs.size]->(s.heap.push { cls := .type "list_iterator",data := .fields #[.ref a,.int 0 0] }).get? b=some o->h'.get? b=some o):Inv X pins σ H { s with heap:=h',toks:=tk } :=
 I.kept fun b o e=>hk b o (by simpa using Nat.ne_of_lt (Heap.lt_size e)) (Heap.get?_push_of_some _ e)
theorem zlj {A:Around}{bs:List Bool}{its:List Value} (rv:zr (bs.map V.bl) its):TruthOf X.prog X.w A (fun i v=>its.toArray[i]?=some v) (fun i=>bs.getD i false):=by
 intro i v s Q E hp hq
 obtain ⟨x,ex,rx⟩:=zl5 rv hp
 rw [List.getElem?_map]at ex
 cases eb:bs[i]? with
 | none=>rw [eb]at ex;cases ex
 | some b =>
   rw [eb]at ex
   cases ex
   cases rx
   have hq':Q (bs.getD i false) s:=hq
   rw [List.getD_eq_getElem?_getD,eb]at hq'
   exact wpAny_truthy_bool hq'
theorem zsN (hc:X.calm=true):zdk X (.builtin "all") (fun xs H Q=>∃ (a:Addr) (bs:List Bool),xs=[.ref a]∧SqL X.K H a (bs.map V.bl)∧Q (.bl (bs.all id)) H):=by
 intro pins s σ H xs us Q I r h
 obtain ⟨a,bs,rfl,hq,q⟩:=h
 obtain ⟨u,rfl,ru⟩:=zer r
 cases ru
 obtain ⟨its,rv,p,_⟩:=I.list hq
 refine call_all_walk (wpAny_pyIter_list p.isList ?_)
 obtain ⟨o,ho,_⟩:=id p.isList
 refine ⟨s.heap.objs.size,_,_,_,_,_,_,rfl,Walks.list (A:=X.A.in1) (I.ok.hd hc) _ a (Nat.ne_of_lt (Heap.lt_size ho)) its.toArray,⟨⟨_,Heap.get?_push_size _ rfl,rfl,rfl⟩,p.isList.at fun o e=>Heap.get?_push_of_some _ e⟩,zlj (A:=X.A.in1) rv,fun h' tk hk=>?_⟩
 refine ⟨.bl (bs.all id),H,zjr (a:=a) (its:=its.toArray) I hk,?_,q⟩
 have e:its.toArray.size=bs.length:=by simp [<- rv.length]
 rw [e,zsz];rfl
theorem zpW:∀ (ns:List Int) (k:Nat),k<=ns.length->preSum (fun i=>ns.getD i 0) k=(ns.take k).sum:=by
 intro ns k
 induction k with
 | zero=>intro _;simp [preSum]
 | succ k ih =>
   intro hk
   have e:ns[k]?=some ns[k]:=List.getElem?_eq_getElem ω
   rw [List.take_add_one,e,List.sum_append]
   show preSum (fun i=>ns.getD i 0) k+ns.getD k 0=_
   rw [ih ω,List.getD_eq_getElem?_getD,e]
   simp
theorem zrV (hc:X.calm=true):zdk X (.builtin "sum") (fun xs H Q=>∃ (a:Addr) (ns:List Int),xs=[.ref a]∧SqL X.K H a (ns.map V.int)∧Q (.int ns.sum) H):=by
 intro pins s σ H xs us Q I r h
 obtain ⟨a,ns,rfl,hq,q⟩:=h
 obtain ⟨u,rfl,ru⟩:=zer r
 cases ru
 obtain ⟨its,rv,p,_⟩:=I.list hq
 refine call_sum_walkG (wpAny_pyIter_list p.isList ?_)
 obtain ⟨o,ho,_⟩:=id p.isList
 refine ⟨s.heap.objs.size,_,_,_,_,_,fun i=>ns.getD i 0,rfl,Walks.list (A:=X.A.in1) (I.ok.hd hc) _ a (Nat.ne_of_lt (Heap.lt_size ho)) its.toArray,⟨⟨_,Heap.get?_push_size _ rfl,rfl,rfl⟩,p.isList.at fun o e=>Heap.get?_push_of_some _ e⟩,?_,?_,fun h' tk t' hk=>?_⟩
 . intro b hb
   rw [Heap.size_push]
   rcases List.mem_cons.mp hb with e | e
   . rw [e];exact Nat.lt_succ_self _
   . have e':b=a:=by simpa using e
     rw [e'];exact Nat.lt_succ_of_lt (Heap.lt_size ho)
 . intro i v hp
   obtain ⟨x,ex,rx⟩:=zl5 rv hp
   rw [List.getElem?_map]at ex
   cases eb:ns[i]? with
   | none=>rw [eb]at ex;cases ex
   | some b =>
     rw [eb]at ex
     cases ex
     obtain ⟨t,rfl⟩:=rx
     exact ⟨t,by show Value.int b t=Value.int (ns.getD i 0) t;rw [List.getD_eq_getElem?_getD,eb];rfl⟩
 . refine ⟨.int ns.sum,H,zjr (a:=a) (its:=its.toArray) I hk,⟨t',?_⟩,q⟩
   have e:its.toArray.size=ns.length:=by simp [<- rv.length]
   rw [e,zpW ns ns.length (Nat.le_refl _),List.take_length]
end
end L2
end
section
namespace L2
open PySem PySem.Spec PyProof.Rows
noncomputable def zmn (osc scope:Scope) (N0 N:List Str) (js:List (Option Nat)):Bool :=
 decide (scope.kind = .function) && scope.names.all (fun y=>decide (y.2 ≠ .cell) && decide (scope.names.lookup y.1=some y.2) && (decide (y.2 ≠ .free) || decide (osc.names.lookup y.1=some .cell) || decide (osc.names.lookup y.1=some .free))) &&
   decide (js.length=N.length) && (List.range js.length).all fun i=>match js[i]? with
     | some (some k)=>match N[i]?,N0[k]? with
       | some x,some y=>decide (x=y) && decide (scope.names.lookup x=some .free)
       | _,_=>false
     | _=>true
theorem zbF.of {X:Cx}{osc scope:Scope}{N0 N:List Str}{js:List (Option Nat)} (hs:X.env.scope=osc) (hN:X.N=N0) (hc:zmn osc scope N0 N js=true):zbF X scope N js:=by
 unfold zmn at hc
 rw [Bool.and_eq_true,Bool.and_eq_true,Bool.and_eq_true]at hc
 obtain ⟨⟨⟨h1,h2⟩,h3⟩,h4⟩:=hc
 rw [List.all_eq_true]at h2 h4
 have g:∀ y∈scope.names,y.2 ≠ .cell∧scope.names.lookup y.1=some y.2∧(y.2 ≠ .free∨osc.names.lookup y.1=some .cell∨osc.names.lookup y.1=some .free):=fun y hy=>by
   have:=h2 y hy
   simp only [Bool.and_eq_true,Bool.or_eq_true,decide_eq_true_eq]at this
   exact ⟨this.1.1,this.1.2,by rcases this.2 with (z | z) | z <;> simp [z]⟩
 refine ⟨of_decide_eq_true h1,fun y hy=>(g y hy).1,fun y hy=>(g y hy).2.1,fun y hy hf=>?_,of_decide_eq_true h3,fun i k e=>?_⟩
 . rcases (g y hy).2.2 with z | z | z
   . exact absurd hf z
   . left;show X.env.scope.names.lookup y.1=_;rw [hs];exact z
   . right;show X.env.scope.names.lookup y.1=_;rw [hs];exact z
 . have hi:i < js.length:=(List.getElem?_eq_some_iff.mp e).1
   have q:=h4 i (List.mem_range.mpr hi)
   rw [e]at q
   cases e1:N[i]? with
   | none=>rw [e1]at q;cases q
   | some x =>
     cases e2:N0[k]? with
     | none =>
       rw [e1]at q
       dsimp only at q
       rw [e2]at q
       cases q
     | some y =>
       rw [e1]at q
       dsimp only at q
       rw [e2]at q
       simp only [Bool.and_eq_true,decide_eq_true_eq]at q
       exact ⟨x,rfl,by rw [hN,e2,q.1],q.2⟩
section
variable {K:PySem.W.Frag}{a D:Addr}{xs:List V}{g:TG}{tc:TT}{te:TE}{σ:St}{H1:Hp}{js:List (Option Nat)}{Q:VK}
end
section
variable {prog:Program}{w:World}{A:Around}{E:Value->Shared->Prop}{s:Shared}
theorem zup {sl:Addr}{vu:Value}{t1 t2:Tok}{Q:Int×Int×Nat->Shared->Prop} (hs:s.heap.IsSliceOf sl (.int 1 t1) .none (.int (-1) t2))
   (h:Q (1,-1,2) s):wpAny (model prog w) A (Builtin.Slice.sliceApplied (.ref sl) (pure (3:Int))) Q E s:=by
 obtain ⟨os,hos,hcs,hds⟩:=id hs
 unfold Builtin.Slice.sliceApplied Builtin.Slice.sliceFields
 refine wpAny_bind (wpAny_bind (wpAny_field hos hds (x := .int 1 t1) rfl (wpAny_bind (wpAny_field hos hds (x := .none) rfl (wpAny_bind (wpAny_field hos hds (x := .int (-1) t2) rfl (wpAny_pure ?_)))))))
 refine wpAny_bind (HT.slicePart_ (.int (-1) t2) ?_)
 show wpAny _ _ (if ((-1:Int) == 0)=true then _ else _) _ _ s
 rw [if_neg ϑ]
 exact wpAny_bind (HT.slicePart_ (.int 1 t1) (wpAny_bind (HT.slicePart_ .none (wpAny_bind (wpAny_pure (wpAny_pure h))))))
theorem zsK {t sl:Addr}{v0 v1 v2:Value}{t1 t2:Tok}{Q:Value->Shared->Prop} (ht:IsTup s.heap t #[v0,v1,v2]) (hs:s.heap.IsSliceOf sl (.int 1 t1) .none (.int (-1) t2))
   (h:Q (.ref s.heap.objs.size) { s with heap:=s.heap.push { cls := .type "tuple",data := .seq #[v1,v0] } }):wpAny (model prog w) A (getItem (.ref t) (.ref sl)) Q E s:=by
 obtain ⟨os,hos,hcs,hds⟩:=id hs
 have hTs:s.TypeIs (.ref sl) "slice":=⟨os,hos,hcs⟩
 unfold getItem
 try with_reducible refine wpAny_holding ?_
 first | refine wpAny_bind (wpAny_pure ?_) | skip
 refine wpAny_bind (wpAny_sequenceKey ht.typeIs ϑ ?_)
 refine wpAny_bind (wpAny_callSpecial?_slot (name:=Str.ofString "__getitem__") ht.typeIs PyProof.Rows.slot_tuple_getitem
   (wpAny_call_entry PyProof.Rows.slot_tuple_getitem ht.typeIs entry_tuple_getitem ?_ (args_tuple_getitem _ _)))
 show wpAny _ _ (Builtin.Tuple.tupleItemsOf (.ref t) >>= _) _ _ s
 refine wpAny_bind (tupleItemsOf_ ht ?_)
 refine wpAny_bind (wpAny_typeOf hTs ?_)
 rw [if_pos ϑ]
 refine wpAny_bind (zup (vu := .none) hs ?_)
 have hz:sizeOk (.seq #[v1,v0]):=by show 2<=sizeLine;decide
 first
   | exact wpAny_bind (m:=Builtin.Tuple.tupleExact _) (wpAny_newObj_type (wpAny_pure ⟨_,rfl,wpAny_pure h⟩) hz)
   | exact wpAny_bind (m:=Builtin.Tuple.tupleExact _) (wpAny_newObj_type (wpAny_bind (wpAny_pure (wpAny_pure ⟨_,rfl,wpAny_pure h⟩))) hz)
   | exact wpAny_bind (wpAny_bind (m:=Builtin.Tuple.tupleExact _) (wpAny_newObj_type (wpAny_pure (wpAny_pure ⟨_,rfl,wpAny_pure h⟩)) hz))
   | exact wpAny_bind (wpAny_bind (m:=Builtin.Tuple.tupleExact _) (wpAny_newObj_type (wpAny_pure ⟨_,rfl,wpAny_pure h⟩) hz))
end
section
variable {X:Cx}{e st:Expr}{te:TE}{lo hi:Option Expr}{tl th ts:TO}{pos p2:Pos}
noncomputable def zso (te:TE) (tl th ts:TO):TE:=fun σ H Q=>te σ H fun x H1=>tl σ H1 fun l H2=>th σ H2 fun u H3=>ts σ H3 fun k H4=>l=some 1∧u=none∧k=some (-1)∧∃ a p q r,x = .ref a∧H4 a=some (.tup [p,q,r]) ∧
 ∀ b,H4 b=none->Q (.ref b) (upd H4 b (.tup [q,p]))
theorem zqb (he:PE X e te) (hl:PO X lo tl) (hu:PO X hi th) (hst:PO X (some st) ts):PE X (.Subscript e (.Slice lo hi (some st) p2) pos) (zso te tl th ts):=by
 intro pins s σ H Q I h
 refine Subscript_ (thn (he pins s σ H _ I h) fun v s1 ⟨x,H1,I1,r1,q1⟩=>?_)
 refine wpAny_Slice (thn (hl pins s1 σ H1 _ I1 q1) fun vl s2 ⟨l,H2,I2,pl,q2⟩=>thn (hu pins s2 σ H2 _ I2 q2) fun vu s3 ⟨u,H3,I3,pu,q3⟩=>thn (hst pins s3 σ H3 _ I3 q3) fun vs s4 ⟨k,H4,I4,ps,q4⟩=>?_)
 obtain ⟨rfl,rfl,rfl,a,p,q,r,rfl,ha,q5⟩:=q4
 obtain ⟨t1,rfl⟩:∃ t,vl = .int 1 t:=by cases pl;exact ⟨_,rfl⟩
 obtain rfl:vu = .none:=by cases pu;rfl
 obtain ⟨t2,rfl⟩:∃ t,vs = .int (-1) t:=by cases ps;exact ⟨_,rfl⟩
 cases r1
 have I5:Inv X pins σ H4 { s4 with heap:=s4.heap.push { cls := .type "slice",data := .fields #[.int 1 t1,.none,.int (-1) t2] } }:=I4.kept (t':=s4.toks) fun b ob q=>Heap.get?_push_of_some _ q
 show wpAny (model X.prog X.w) X.A (subscriptTail e (.Slice lo hi (some st) p2) (.ref a) (.ref s4.heap.objs.size)) (EP X pins σ Q) X.xe { s4 with heap:=s4.heap.push { cls := .type "slice",data := .fields #[.int 1 t1,.none,.int (-1) t2] } }
 obtain ⟨its,rv,ht,hz⟩:=I5.tuple (SqT.of ha)
 obtain ⟨u0,r0,rfl,rv0,rv'⟩:∃ u r0,its=u :: r0∧zo p u∧zr [q,r] r0:=by cases rv with | cons a b=>exact ⟨_,_,rfl,a,b⟩
 obtain ⟨u1,u2,rfl,rv1,rv2⟩:=zjS rv'
 refine tail_any (ops:=[.ref a,.ref s4.heap.objs.size]) ht.typeIs slot_tuple_getitem.lookup (zsK ht (Heap.IsSliceOf.new ..) ?_) (by with_unfolding_all rfl)
 refine ⟨.ref _,_,I5.laid (t':=s4.toks) (o := .tup [q,p]) (fun b ob q=>Heap.get?_push_of_some _ q) (Nat.le_refl _) ?_,rfl,q5 _ (I5.hok.fresh (Nat.le_refl _))⟩
 exact ⟨by show 2<=sizeLine;decide,[u1,u0],.cons rv1 (.cons rv0 .nil),IsTup.new _ _⟩
end
end L2
namespace L2
open PySem PySem.Spec PyProof.Rows
structure zmz (K:PySem.W.Frag) (C:Addr):Prop where
 ha:PySem.W.findIn K (.ref C) "__class__" = some (some (.builtin "object.__class__"))
 hn:PySem.W.specialIn K (.builtin "object.__class__") "__get__" = some (some (.builtin "getset_descriptor.__get__"))
 htk:PySem.W.takesIn K (.builtin "object.__class__")=some true
 hm:PySem.W.mroIn K C (.type "object")=some true
structure DF (K:PySem.W.Frag) (x q:Str) (st:Stmt) (ps:List Str) where
 a:Addr
 d:FuncData
 F:Fun K x q st a d
 b:zcM K d ps []
structure CF (K:PySem.W.Frag) (mg:Str->Option Value) (x:Str) where
 c:Addr
 m:mg x=some (.ref c)
 cl:Cls K c
 ic:zmz K c
structure VF (mg:Str->Option Value) (x:Str) (v:V) where
 u:Value
 m:mg x=some u
 r:zo v u
noncomputable def Isa (K:PySem.W.Frag) (C C':Addr) (b:Bool):Prop:=PySem.W.kitOne K (.ref C) (.ref C')=some b
end L2
namespace L2
open PySem
section
variable {env:Env}{es:List Expr}
theorem zx {c j p}:starEach (.Constant c j p :: es) env=(false,eval (.Constant c j p) env) :: starEach es env:=rfl
theorem zh {x p}:starEach (.Name x p :: es) env=(false,eval (.Name x p) env) :: starEach es env:=rfl
theorem zb6 {a o b p}:starEach (.BinOp a o b p :: es) env=(false,eval (.BinOp a o b p) env) :: starEach es env:=rfl
theorem zf0 {o a p}:starEach (.UnaryOp o a p :: es) env=(false,eval (.UnaryOp o a p) env) :: starEach es env:=rfl
theorem zbm {f a k p}:starEach (.Call f a k p :: es) env=(false,eval (.Call f a k p) env) :: starEach es env:=rfl
theorem zcn {o a p}:starEach (.Attribute o a p :: es) env=(false,eval (.Attribute o a p) env) :: starEach es env:=rfl
theorem zbv {o a p}:starEach (.Subscript o a p :: es) env=(false,eval (.Subscript o a p) env) :: starEach es env:=rfl
theorem zhn {a p}:starEach (.List a p :: es) env=(false,eval (.List a p) env) :: starEach es env:=rfl
theorem zhm {a k p}:starEach (.Tuple a k p :: es) env=(false,eval (.Tuple a k p) env) :: starEach es env:=rfl
theorem zgP {a g sc p}:starEach (.ListComp a g sc p :: es) env=(false,eval (.ListComp a g sc p) env) :: starEach es env:=rfl
end
end L2
namespace L2
open PySem
end L2
namespace L2
open PySem
end L2
namespace L2
open PySem
end L2
end
section
namespace L2
open PySem
section
variable {K:PySem.W.Frag}{mg:Str->Option Value}{h:Heap}{x q:Str}{st:Stmt}{ps:List Str}{C:Addr}
inductive GB (K:PySem.W.Frag) (x:Str) (st:Stmt) (ps:List Str):Prop
 | mk {f:Addr} {oc kV doc pm cdv ct:Value} {od an:Option Addr} {sl:Array (Option Value)} (a:PySem.W.nsIn K mainGlobals x=some (some (.ref f)))
   (l:K.lookup f=some ⟨oc,od,.func (PySem.W.fnOf x x (zdn st) (zcU st) (zH st) .none kV doc pm an cdv ct),sl⟩) (c:PySem.W.codeIn K cdv x=true) (k:PySem.W.keepIn K (.ref f)=true):GB K x st ps
inductive MB (K:PySem.W.Frag) (C:Addr) (x q:Str) (st:Stmt) (ps:List Str):Prop
 | mk {f:Addr} {oc kV doc pm cdv ct:Value} {od an:Option Addr} {sl:Array (Option Value)} (a:PySem.W.findIn K (.ref C) x=some (some (.ref f))) (i:PySem.W.isFn K (.ref f)=true)
   (l:K.lookup f=some ⟨oc,od,.func (PySem.W.fnOf x q (zdn st) (zcU st) (zH st) .none kV doc pm an cdv ct),sl⟩) (c:PySem.W.codeIn K cdv q=true) (k:PySem.W.keepIn K (.ref f)=true):MB K C x q st ps
structure CB (K:PySem.W.Frag) (x:Str) (C:Addr):Prop where
 a:PySem.W.nsIn K mainGlobals x=some (some (.ref C))
 pg:PySem.W.plainGet K C Str.empty=true
 hd:PySem.W.hasDictIn K C=true
 po:PySem.W.plainOver K C=true
 sa:PySem.W.findIn K (.ref C) "__setattr__" = some (some (.builtin "object.__setattr__"))
 ha:PySem.W.findIn K (.ref C) "__class__" = some (some (.builtin "object.__class__"))
 hm:PySem.W.mroIn K C (.type "object")=some true
 hn:PySem.W.specialIn K (.builtin "object.__class__") "__get__" = some (some (.builtin "getset_descriptor.__get__"))
 htk:PySem.W.takesIn K (.builtin "object.__class__")=some true
noncomputable def CB.cf (X:K.In h) (G:h.Ns mainGlobals mg) (b:CB K x C):CF K mg x:=⟨C,PySem.W.mg_of X G b.a,⟨b.pg,b.hd,b.po,b.sa⟩,⟨b.ha,b.hn,b.htk,b.hm⟩⟩
noncomputable abbrev zbw (x q:Str) (st:Stmt) (ps:List Str):Prop:=∀ (kV doc pm:Value) (an:Option Addr) (cdv ct:Value) (us:List Value),us.length=ps.length->bindArgs (PySem.W.fnOf x q (zdn st) (zcU st) (zH st) .none kV doc pm an cdv ct) ⟨us,[]⟩=pure (ps.zip us)
theorem zbw.mk1 {st:Stmt}{x q a:Str} (h:∀ kV doc pm an cdv ct u,bindArgs (PySem.W.fnOf x q (zdn st) (zcU st) (zH st) .none kV doc pm an cdv ct) ⟨[u],[]⟩=pure [(a,u)]):zbw x q st [a]:=by
 intro _ _ _ _ _ _ us hl;rcases us with _ | ⟨u1,_ | ⟨x0,us⟩⟩ <;> first | exact h _ _ _ _ _ _ _ | cases hl | (simp at hl)
theorem zbw.mk2 {st:Stmt}{x q a b:Str} (h:∀ kV doc pm an cdv ct u v,bindArgs (PySem.W.fnOf x q (zdn st) (zcU st) (zH st) .none kV doc pm an cdv ct) ⟨[u,v],[]⟩=pure [(a,u),(b,v)]):zbw x q st [a,b]:=by
 intro _ _ _ _ _ _ us hl;rcases us with _ | ⟨u1,_ | ⟨u2,_ | ⟨x0,us⟩⟩⟩ <;> first | exact h _ _ _ _ _ _ _ _ | cases hl | (simp at hl)
theorem zbw.mk3 {st:Stmt}{x q a b c:Str} (h:∀ kV doc pm an cdv ct u v w,bindArgs (PySem.W.fnOf x q (zdn st) (zcU st) (zH st) .none kV doc pm an cdv ct) ⟨[u,v,w],[]⟩=pure [(a,u),(b,v),(c,w)]):zbw x q st [a,b,c]:=by
 intro _ _ _ _ _ _ us hl;rcases us with _ | ⟨u1,_ | ⟨u2,_ | ⟨u3,_ | ⟨x0,us⟩⟩⟩⟩ <;> first | exact h _ _ _ _ _ _ _ _ _ | cases hl | (simp at hl)
theorem zbw.mk4 {st:Stmt}{x q a b c d:Str} (h:∀ kV doc pm an cdv ct u v w y,bindArgs (PySem.W.fnOf x q (zdn st) (zcU st) (zH st) .none kV doc pm an cdv ct) ⟨[u,v,w,y],[]⟩=pure [(a,u),(b,v),(c,w),(d,y)]):zbw x q st [a,b,c,d]:=by
 intro _ _ _ _ _ _ us hl;rcases us with _ | ⟨u1,_ | ⟨u2,_ | ⟨u3,_ | ⟨u4,_ | ⟨x0,us⟩⟩⟩⟩⟩ <;> first | exact h _ _ _ _ _ _ _ _ _ _ | cases hl | (simp at hl)
theorem GB.df (X:K.In h) (G:h.Ns mainGlobals mg) (b:GB K x st ps) (hb:zbw x x st ps:=by first | exact zbw.mk1 fun _ _ _ _ _ _ _=>rfl | exact zbw.mk2 fun _ _ _ _ _ _ _ _=>rfl | exact zbw.mk3 fun _ _ _ _ _ _ _ _ _=>rfl | exact zbw.mk4 fun _ _ _ _ _ _ _ _ _ _=>rfl | exact zbw.mk5 fun _ _ _ _ _ _ _ _ _ _ _=>rfl):∃ D:DF K x x st ps,mg x=some (.ref D.a)∧∀ us:List Value,us.length=ps.length->bindArgs D.d ⟨us,[]⟩=pure (ps.zip us):=by
 obtain ⟨a,l,c,k⟩:=b
 exact ⟨⟨_,_,zgi l c k,(zgi l c k).binds hb⟩,PySem.W.mg_of X G a,hb _ _ _ _ _ _⟩
theorem MB.df (b:MB K C x q st ps) (hb:zbw x q st ps:=by first | exact zbw.mk1 fun _ _ _ _ _ _ _=>rfl | exact zbw.mk2 fun _ _ _ _ _ _ _ _=>rfl | exact zbw.mk3 fun _ _ _ _ _ _ _ _ _=>rfl | exact zbw.mk4 fun _ _ _ _ _ _ _ _ _ _=>rfl | exact zbw.mk5 fun _ _ _ _ _ _ _ _ _ _ _=>rfl):∃ D:DF K x q st ps,zeC K C x D.a:=by
 obtain ⟨a,i,l,c,k⟩:=b
 exact ⟨⟨_,_,zgi l c k,(zgi l c k).binds hb⟩,⟨a,i,k⟩⟩
theorem MB.mk' (m:PySem.W.makesIn K C=true) (kc:PySem.W.keepIn K (.ref C)=true) (b:MB K C "__init__" q st ps) (hb:zbw "__init__" q st ps:=by first | exact zbw.mk1 fun _ _ _ _ _ _ _=>rfl | exact zbw.mk2 fun _ _ _ _ _ _ _ _=>rfl | exact zbw.mk3 fun _ _ _ _ _ _ _ _ _=>rfl | exact zbw.mk4 fun _ _ _ _ _ _ _ _ _ _=>rfl | exact zbw.mk5 fun _ _ _ _ _ _ _ _ _ _ _=>rfl):∃ D:DF K "__init__" q st ps,Mk K C D.a:=by
 obtain ⟨a,i,l,c,k⟩:=b
 exact ⟨⟨_,_,zgi l c k,(zgi l c k).binds hb⟩,⟨m,a,i,kc⟩⟩
noncomputable def zf6 (K:PySem.W.Frag) (sub:Nat->Nat->Bool) (a:Addr) (i:Nat):Nat->List Addr->Prop
 | _,[]=>True
 | j,b :: bs=>PySem.W.kitOne K (.ref a) (.ref b)=some (sub i j)∧zf6 K sub a i (j+1) bs
noncomputable def zf2 (K:PySem.W.Frag) (sub:Nat->Nat->Bool) (cs:List Addr):Nat->List Addr->Prop
 | _,[]=>True
 | i,a :: as=>zf6 K sub a i 0 cs∧zf2 K sub cs (i+1) as
theorem zf6.get {sub:Nat->Nat->Bool}{a b:Addr}{i:Nat}:∀ {bs:List Addr}{k j:Nat},zf6 K sub a i k bs->bs[j]?=some b->Isa K a b (sub i (k+j))
 | [],_,_,_,h=>by simp at h
 | c :: cs,k,0,r,h=>by
   simp at h;subst h;exact r.1
 | c :: cs,k,j+1,r,h=>by
   rw [show k+(j+1)=(k+1)+j by omega]
   exact zf6.get r.2 (by simpa using h)
theorem zf2.get {sub:Nat->Nat->Bool}{a b:Addr}{cs:List Addr}:∀ {as:List Addr}{k i j:Nat},zf2 K sub cs k as->as[i]?=some a->cs[j]?=some b->Isa K a b (sub (k+i) j)
 | [],_,_,_,_,h,_=>by simp at h
 | c :: as,k,0,j,r,h,g=>by
   simp at h;subst h
   have:=zf6.get r.1 g
   rwa [Nat.zero_add]at this
 | c :: as,k,i+1,j,r,h,g=>by
   rw [show k+(i+1)=(k+1)+i by omega]
   exact zf2.get r.2 (by simpa using h) g
end
end L2
end
section
namespace L2
open PySem PySem.Spec PyProof.Rows
section
variable {X:Cx}{pins:List (Addr×Obj)}{σ:St}{H H':Hp}{s:Shared}{a C:Addr}
structure zfi (X:Cx) (pins:List (Addr×Obj)) (H:Hp) (b:Addr):Prop where
 new:X.s₀.heap.get? b=none
 free:H b=none
 pn:∀ p∈X.pn++pins,p.1≠b
theorem Inv.callN {h':Heap}{g':Array GenState}{t':Nat}{d':Drawn}{ch:List Addr} (I:Inv X pins σ H s) (u:Un (frs X.stack) ch H H' s.heap h') (hok:HOk X.prog X.w H' h') (hg:AllBare g')
   (hch:∀ b∈ch,X.s₀.heap.get? b=none∧b≠X.env.locals∧(∀ x c,X.env.cells.lookup x=some c->c≠b)∧∀ p∈X.pn++pins,p.1≠b) :
   Inv X pins σ H' { s with heap:=h',gens:=g',drawn:=d',toks:=t' }:=by
 have nch:∀ b o,X.s₀.heap.get? b=some o->b∉ch:=fun b o e z=>by have:=(hch b z).1;rw [e]at this;cases this
 have ok':Cx.Ok { X with ex:=ch++X.ex }:=⟨I.ok.mod,I.ok.kind,I.ok.glob,I.ok.blt,I.ok.above,I.ok.inj,I.ok.has,I.ok.cab,I.ok.hd,I.ok.frames,I.ok.stk,
   fun b hb=>(List.mem_append.mp hb).elim (fun z=>⟨(hch b z).2.1,(hch b z).2.2.1⟩) (I.ok.exf b),I.ok.bs,I.ok.bsz,
   fun b o e hb=>(List.mem_append.mp hb).elim (nch b o (I.ok.bs b o e).1) (I.ok.noex b o e),
   fun b hb=>(List.mem_append.mp hb).elim (fun z hf=>by obtain ⟨_,o,ho,_⟩:=I.ok.funs.mem hf;exact nch b o ho z) (I.ok.exfs b),I.ok.funs,I.ok.frf⟩
 have sub:∀ b,b∉ch++X.ex->b∉X.ex:=fun b z w=>z (List.mem_append_right _ w)
 have I':Inv { X with ex:=ch++X.ex } pins σ H s:=⟨ok',I.os,I.bare,⟨fun b o e n hb hx=>I.base.keep b o e n hb (sub b hx),fun b o e n hb hx=>I.base.slot b o e n hb (sub b hx),fun b o e n hx=>I.base.free b o e n (sub b hx),fun b o e hx=>I.base.there b o e (sub b hx),I.base.tups,I.base.frzs,I.base.tbls⟩,
   I.loc,I.cell,I.free,I.freeC,I.pin,I.hok,I.len⟩
 have J:=I'.call (g':=g') (t':=t') (d':=d') u hok hg fun b hb=>⟨.inl (List.mem_append_left _ hb),(hch b hb).2⟩
 have up:∀ b o,X.s₀.heap.get? b=some o->b∉X.ex->b∉ch++X.ex:=fun b o e z w=>(List.mem_append.mp w).elim (nch b o e) z
 exact ⟨I.ok,J.os,J.bare,⟨fun b o e n hb hx=>J.base.keep b o e n hb (up b o e hx),fun b o e n hb hx=>J.base.slot b o e n hb (up b o e hx),fun b o e n hx=>J.base.free b o e n (up b o e hx),fun b o e hx=>J.base.there b o e (up b o e hx),J.base.tups,J.base.frzs,J.base.tbls⟩,
   J.loc,J.cell,J.free,J.freeC,J.pin,J.hok,J.len⟩
theorem Inv.rec_ne {r:Addr}{o:Obj}{vs:Array Value} (I:Inv X pins σ H s) (ho:s.heap.get? r=some o) (hd:o.data = .fields vs):r∉frs X.stack∧r≠X.env.locals∧∀ x c,X.env.cells.lookup x=some c->c≠r:=by
 refine ⟨fun z=>?_,fun z=>?_,fun x c e z=>?_⟩
 . obtain ⟨_,o',ho',hn⟩:=I.stack.mem z
   rw [ho]at ho';cases ho';exact hn vs hd
 . obtain ⟨m,⟨o',es,ep,ho',hd',_⟩,_⟩:=I.loc
   rw [<- z,ho]at ho';cases ho';rw [hd]at hd';cases hd'
 . obtain ⟨v,o',ho',hd'⟩:=I.cell x c e
   rw [z,ho]at ho';cases ho';rw [hd]at hd';cases hd'
theorem Inv.recd {r:Addr}{o:Obj}{vs:Array Value} (I:Inv X pins σ H s) (L:zfi X pins H r) (ho:s.heap.get? r=some o) (hd:o.data = .fields vs) (g:Array Value->Array Value) :
   Inv X pins σ H { s with heap:=s.heap.update r (Obj.mapFields g) }:=by
 obtain ⟨n1,n2,n3⟩:=I.rec_ne ho hd
 have k:∀ b u,b≠r->s.heap.get? b=some u->(s.heap.update r (Obj.mapFields g)).get? b=some u:=fun b u hb e=>by rw [Heap.get?_update_other _ _ (Ne.symm hb)];exact e
 have kr:(s.heap.update r (Obj.mapFields g)).get? r=some (Obj.mapFields g o):=Heap.get?_update_self _ ho (Obj.isFreed_of_fields (Obj.data_mapFields hd g))
 refine I.callN (g':=s.gens) (t':=s.toks) (d':=s.drawn) (ch:=[r]) ⟨fun b u e n hb hx=>k b u (fun z=>hx (by simp [z])) e,fun b u e n hb hx=>⟨u.slots,k b u (fun z=>hx (by simp [z])) e⟩,fun b u e n hx=>n,
   fun b u e hx=>⟨u,k b u (fun z=>hx (by simp [z])) e⟩,fun _ _ e=>e,fun _ _ _ e=>e,fun b ps e=>⟨#[],by rw [e];simp⟩⟩ (fun b u e=>?_) I.bare (fun b hb=>?_)
 . refine (I.hok b u e).stay (fun c v hc q=>k c v ?_ q) (fun _ q=>q) fun _ _ q=>q
   rcases hc with z | z
   . rw [z];exact fun y=>by rw [y,L.free]at e;cases e
   . exact fun y=>by rw [y,L.free]at z;cases z
 . have e:b=r:=by simpa using hb
   subst e
   exact ⟨L.new,n2,n3,L.pn⟩
theorem Inv.slots {h':Heap} (I:Inv X pins σ H s) (k:Heap.SlotsOnly (frs X.stack) s.heap h'):Inv X pins σ H { s with heap:=h' }:=by
 refine I.callN (g':=s.gens) (t':=s.toks) (d':=s.drawn) (ch:=[]) ⟨fun b u e n hb hx=>by rw [k.2.1 b hb];exact e,fun b u e n hb hx=>k.2.2 b u e,fun b u e n hx=>n,
   fun b u e hx=>?_,fun _ _ e=>e,fun _ _ _ e=>e,fun b ps e=>⟨#[],by rw [e];simp⟩⟩ (fun b u e=>?_) I.bare (fun b hb=>nomatch hb)
 . obtain ⟨sl,q⟩:=k.2.2 b u e;exact ⟨_,q⟩
 . refine (I.hok b u e).stay (fun c v hc q=>?_) (fun _ q=>q) fun _ _ q=>q
   have nf:c∉frs X.stack:=fun z=>by
     have:=I.stkFree c z
     rcases hc with y | y
     . rw [y,e]at this;cases this
     . rw [y]at this;cases this
   rw [k.2.1 c nf];exact q
theorem Inv.lone (I:Inv X pins σ H s) {b:Addr} (hb:s.heap.get? b=none) (hn:H' b=none) (hx:b∉X.ex):zfi X pins H' b:=by
 refine ⟨?_,hn,fun p hp z=>?_⟩
 . cases q:X.s₀.heap.get? b with
   | none=>rfl
   | some o =>
     obtain ⟨o',e⟩:=I.base.there b o q hx
     rw [hb]at e;cases e
 . obtain ⟨e,_⟩:=I.pin p hp
   rw [z,hb]at e;cases e
noncomputable def zt3 (X:Cx) (pins:List (Addr×Obj)) (H:Hp) (h:Heap) (a:Addr) (vs:Array Value):Prop :=
 ∃ T oT ts,vs[1]?=some (.ref T)∧T≠a∧zfi X pins H T∧h.get? T=some oT∧oT.data = .fields ts∧3 < ts.size
noncomputable def Six (vs:Array Value):Prop:=vs.size=6∧vs[2]?=some .none
theorem Six.one {vs:Array Value} (h:Six vs) (x:Value):Six (vs.setIfInBounds 1 x):=⟨by simp [h.1],by rw [Array.getElem?_setIfInBounds_ne ϑ];exact h.2⟩
structure Fl (t:Bool) (X:Cx) (pins:List (Addr×Obj)) (H:Hp) (h:Heap) (a C:Addr):Prop where
 lone:zfi X pins H a
 ob:∃ oe vs,h.get? a=some oe∧oe.cls = .ref C∧oe.data = .fields vs∧Six vs∧((t=false∧vs[1]?=some .none)∨zt3 X pins H h a vs)
variable {M:Model}{A:Around}{E:Value->Shared->Prop}{Q:Unit->Shared->Prop}{t:Bool}
theorem zja {h:Heap}{r:Addr}{o:Obj}{vs:Array Value}{g:Array Value->Array Value} (ho:h.get? r=some o) (hd:o.data = .fields vs) (b:Addr) (m:Str->Option Value) (n:h.Ns b m):(h.update r (Obj.mapFields g)).Ns b m:=by
 obtain ⟨o',es,ep,ho',hd',rest⟩:=n
 refine ⟨o',es,ep,?_,hd',rest⟩
 rw [Heap.get?_update_other _ _ (fun z=>by rw [z,ho']at ho;cases ho;rw [hd]at hd';cases hd')]
 exact ho'
theorem zqv {S:List Addr}{h h':Heap} (k:Heap.SlotsOnly S h h') (b:Addr) (m:Str->Option Value) (n:h.Ns b m):h'.Ns b m:=by
 obtain ⟨o,es,ep,ho,hd,rest⟩:=n
 obtain ⟨sl,q⟩:=k.2.2 b o ho
 exact ⟨_,es,ep,q,hd,rest⟩
theorem ztN {h:Heap}{o:Obj} (b:Addr) (m:Str->Option Value) (n:h.Ns b m):(h.push o).Ns b m:=by
 obtain ⟨o',es,ep,ho,rest⟩:=n
 exact ⟨o',es,ep,Heap.get?_push_of_some _ ho,rest⟩
theorem zhS {fr:Option Addr} (I:Inv X pins σ H s) (f:Fl t X pins H s.heap a C) (h:∀ s',Inv X pins σ H s'->Fl t X pins H s'.heap a C->(∀ b m,s.heap.Ns b m->s'.heap.Ns b m)->Q () s'):wpAny M A (setFlight (.ref a) fr) Q E s:=by
 obtain ⟨l,oe,vs,h1,h2,h3,h4,h5⟩:=f
 unfold setFlight
 rcases h5 with ⟨rfl,h5⟩ | ⟨T,oT,ts,g1,g2,g3,g4,g5,g6⟩
 . refine wpAny_bind (wpAny_field h1 h3 h5 ?_)
   rw [if_neg ϑ]
   exact wpAny_pure (h s I ⟨l,oe,vs,h1,h2,h3,h4,.inl ⟨rfl,h5⟩⟩ fun _ _ z=>z)
 . refine wpAny_bind (wpAny_field h1 h3 g1 ?_)
   rw [if_pos (show (Value.ref T != Value.none)=true from by simp)]
   refine wpAny_setField g4 g5 g6 (h _ (I.recd g3 g4 g5 _) ⟨l,oe,vs,?_,h2,h3,h4,.inr ⟨T,_,_,g1,g2,g3,Heap.get?_update_self _ g4 (Obj.isFreed_of_fields (Obj.data_mapFields g5 _)),Obj.data_mapFields g5 _,?_⟩⟩ fun b m n=>zja g4 g5 b m n)
   . rw [Heap.get?_update_other _ _ g2];exact h1
   . rw [Array.size_setIfInBounds];exact g6
theorem zlC {head:Value}{hadNext:Bool}{L:Addr} (hfr:A.frames=some X.stack) (hst:∃ o,X.stack=X.env :: o) (hf:X.env.frame=some L) (hx:∀ b∈X.ex,b < s.heap.objs.size) (I:Inv X pins σ H s) (l:zfi X pins H a)
   {oe:Obj} {vs:Array Value} (h1:s.heap.get? a=some oe) (h2:oe.cls = .ref C) (h3:oe.data = .fields vs) (h4:Six vs)
   (h:∀ s',Inv X pins σ H s'->Fl true X pins H s'.heap a C->(∀ b m,s.heap.Ns b m->s'.heap.Ns b m)->Q () s') :
   wpAny M A (do setField (.ref a) 1 (<- EntryCells.newEntry head (<- frameOf X.env) .none (rawInt L) .none (<- entryPlaceOf L hadNext))) Q E s:=by
 obtain ⟨o,hst⟩:=hst
 have hl:s.heap.FunFrames X.base (X.env :: o):=hst ▸ I.stack
 have hne:=(I.rec_ne h1 h3).1
 refine wpAny_bind (wpAny_frameOf_fun (by rw [hfr,hst]) hl hf fun h₁ hs₁=>?_)
 have hs₁:Heap.SlotsOnly (frs X.stack) s.heap h₁:=by rw [hst];exact hs₁
 have I1:=I.slots hs₁
 have e1:h₁.get? a=some oe:=by rw [hs₁.2.1 a hne];exact h1
 refine wpAny_bind (wpAny_entryPlaceOf fun pl hpl=>?_)
 unfold EntryCells.newEntry newFields
 refine wpAny_bind (wpAny_newObj_type ?_ (hpl.sizeOk5 _ _ _ _ _))
 generalize hT:({ cls := .type "traceback",dict:=none,data := .fields ([head,.ref L,.none,rawInt L,.none]++(if pl.isEmpty then List.replicate 6 Value.none else pl)).toArray }:Obj)=oT
 have I2:Inv X pins σ H { s with heap:=h₁.push oT }:=I1.kept (t':=s.toks) fun b u e=>Heap.get?_push_of_some _ e
 have e2:(h₁.push oT).get? a=some oe:=Heap.get?_push_of_some _ e1
 have hTn:h₁.get? h₁.objs.size=none:=Heap.get?_none_of_le (Nat.le_refl _)
 have lT:zfi X pins H h₁.objs.size:=I1.lone hTn (I1.hok.fresh (Nat.le_refl _)) fun z=>by
   have:=hx _ z;rw [<- hs₁.1]at this;exact absurd this (Nat.lt_irrefl _)
 have eT:(h₁.push oT).get? h₁.objs.size=some oT:=Heap.get?_push_size _ (by rw [<- hT];rfl)
 have hTa:h₁.objs.size≠a:=Nat.ne_of_gt (Heap.lt_size e1)
 refine wpAny_setField e2 h3 (by rw [h4.1];decide) (h _ (I2.recd l e2 h3 _) ⟨l,_,_,Heap.get?_update_self _ e2 (Obj.isFreed_of_fields (Obj.data_mapFields h3 _)),by rw [Obj.cls_mapFields];exact h2,Obj.data_mapFields h3 _,h4.one _,.inr ⟨h₁.objs.size,oT,_,?_,hTa,lT,?_,by rw [<- hT],?_⟩⟩ fun b m n=>zja e2 h3 b m (ztN b m (zqv hs₁ b m n)))
 . rw [Array.getElem?_setIfInBounds_self_of_lt (by rw [h4.1];decide)]
 . rw [Heap.get?_update_other _ _ (Ne.symm hTa)];exact eT
 . simp
theorem zi3 (hfr:A.frames=some X.stack) (hst:∃ o,X.stack=X.env :: o) {L:Addr} (hf:X.env.frame=some L) (hx:∀ b∈X.ex,b < s.heap.objs.size) (I:Inv X pins σ H s) (f:Fl t X pins H s.heap a C)
   (h:∀ s',Inv X pins σ H s'->Fl true X pins H s'.heap a C->(∀ b m,s.heap.Ns b m->s'.heap.Ns b m)->Q () s'):wpAny M A (noteFrame (.ref a) X.env) Q E s:=by
 obtain ⟨l,oe,vs,h1,h2,h3,h4,h5⟩:=f
 unfold noteFrame
 simp only [hf]
 rcases h5 with ⟨rfl,h5⟩ | ⟨T,oT,ts,g1,g2,g3,g4,g5,g6⟩
 . refine wpAny_bind (wpAny_field h1 h3 h5 ?_)
   rw [if_neg ϑ]
   exact zlC hfr hst hf hx I l h1 h2 h3 h4 h
 . refine wpAny_bind (wpAny_field h1 h3 g1 ?_)
   rw [if_pos (show (Value.ref T != Value.none)=true from by simp)]
   refine wpAny_bind (wpAny_field g4 g5 (Array.getElem?_eq_getElem g6) ?_)
   by_cases hq:(ts[3] == rawInt L)=true
   . rw [if_pos hq]
     exact wpAny_pure (h s I ⟨l,oe,vs,h1,h2,h3,h4,.inr ⟨T,oT,ts,g1,g2,g3,g4,g5,g6⟩⟩ fun _ _ z=>z)
   . rw [if_neg hq]
     refine wpAny_bind (wpAny_setField g4 g5 g6 ?_)
     exact zlC hfr hst hf (fun b hb=>by show b < (s.heap.update T _).objs.size;rw [Heap.size_after_update];exact hx b hb) (I.recd g3 g4 g5 _) l (by show (s.heap.update T _).get? a=_;rw [Heap.get?_update_other _ _ g2];exact h1) h2 h3 h4 fun s' J f k=>h s' J f fun b m n=>k b m (zja g4 g5 b m n)
theorem zqN (hfr:A.frames=some X.stack) (hst:∃ o,X.stack=X.env :: o) {L:Addr} (hf:X.env.frame=some L) (hx:∀ b∈X.ex,b < s.heap.objs.size) (I:Inv X pins σ H s) (f:Fl t X pins H s.heap a C)
   (h:∀ s',Inv X pins σ H s'->Fl true X pins H s'.heap a C->(∀ b m,s.heap.Ns b m->s'.heap.Ns b m)->Q () s'):wpAny M A (leaving X.env (.ref a)) Q E s:=by
 unfold leaving
 exact wpAny_bind (zi3 hfr hst hf hx I f fun s1 I1 f1 k1=>zhS I1 f1 fun s2 I2 f2 k2=>h s2 I2 f2 fun b m n=>k2 b m (k1 b m n))
theorem ztj {α:Type}{what:String}{env':Env}{Q:α->Shared->Prop} (I:Inv X pins σ H s) (f:Fl true X pins H s.heap a C) (h:∀ s',Inv X pins σ H s'->Fl true X pins H s'.heap a C->E (.ref a) s'):wpAny M A (PySem.passOn what (.ref a) env':Sem α) Q E s:=by
 obtain ⟨l,oe,vs,h1,h2,h3,h4,h5⟩:=id f
 obtain ⟨T,oT,ts,g1,g2,g3,g4,g5,g6⟩:=h5.elim (fun z=>nomatch z.1) id
 unfold PySem.passOn
 refine wpAny_bind (wpAny_field h1 h3 g1 ?_)
 rw [if_neg ς]
 exact wpAny_bind (zhS I f fun s1 J f1 _=>wpAny_throw (h s1 J f1))
noncomputable def CX1 (P:Program) (w:World):CXT:=fun outer H s E e s'=>∃ a C H',e = .ref a∧s.heap.get? a=none∧s'.os=s.os∧AllBare s'.gens∧Un (frs outer) [] H H' s.heap s'.heap∧HOk P w H' s'.heap∧H' a=none∧E (.ref C) none H' ∧
 ∃ oe vs,s'.heap.get? a=some oe∧oe.cls = .ref C∧oe.data = .fields vs∧Six vs∧∃ T oT ts,vs[1]?=some (.ref T)∧T≠a∧s.heap.get? T=none∧H' T=none∧s'.heap.get? T=some oT∧oT.data = .fields ts∧3 < ts.size
theorem CX1.inv {EX:XK}{e:Value}{s':Shared} (I:Inv X pins σ H s) (hx:X.ex=[]) (c:CX1 X.prog X.w X.stack H s EX e s'):∃ a C H',e = .ref a∧Inv X pins σ H' s'∧Fl true X pins H' s'.heap a C∧EX (.ref C) none H'∧Un (frs X.stack) [] H H' s.heap s'.heap:=by
 obtain ⟨a,C,H',rfl,hn,os,bare,un,hok,ha,q,oe,vs,h1,h2,h3,h4,T,oT,ts,g1,g2,g3,g3',g4,g5,g6⟩:=c
 obtain ⟨hh,g,d,t,os'⟩:=s'
 obtain rfl:os'=s.os:=os
 have nx:∀ b,b∉X.ex:=fun b z=>by rw [hx]at z;exact nomatch z
 exact ⟨a,C,H',rfl,I.callN (g':=g) (t':=t) (d':=d) (ch:=[]) un hok bare (fun b z=>nomatch z),⟨I.lone hn ha (nx a),oe,vs,h1,h2,h3,h4,.inr ⟨T,oT,ts,g1,g2,I.lone g3 g3' (nx T),g4,g5,g6⟩⟩,q,un⟩
theorem CX1.of {EX:XK} (hx:X.ex=[]) (I:Inv X pins σ H s) (f:Fl true X pins H s.heap a C) (q:EX (.ref C) none H):CX1 X.prog X.w X.outer X.H₀ X.s₀ EX (.ref a) s:=by
 obtain ⟨l,oe,vs,h1,h2,h3,h4,h5⟩:=f
 obtain ⟨T,oT,ts,g1,g2,g3,g4,g5,g6⟩:=h5.elim (fun z=>nomatch z.1) id
 exact ⟨a,C,H,rfl,l.new,I.os,I.bare,hx ▸ I.base,I.hok,l.free,q,oe,vs,h1,h2,h3,h4,T,oT,ts,g1,g2,g3.new,g3.free,g4,g5,g6⟩
end
noncomputable abbrev EW (WX:Addr->Hp->Prop):XK:=fun cls _ H=>∃ C,cls = .ref C∧WX C H
structure XOk (X:Cx) (WX:Addr->Hp->Prop):Prop where
 thr:∀ (t:Bool) (pins:List (Addr×Obj)) (σ:St) (H:Hp) (s:Shared) (a C:Addr),Inv X pins σ H s->Fl t X pins H s.heap a C->WX C H->X.xe (.ref a) s
 pass:zdj (CX1 X.prog X.w) X (EW WX)
 own:PassesOwn (model X.prog X.w) X.A X.env X.xe
section
variable {P:Program}{w:World}{K:PySem.W.Frag}{mg:Str->Option Value}{base:Heap}
theorem zqZ {N:List Str}{qual:Str}{scope:Scope}{f:Addr}{cd:Value}{A:Around}{outer:List Env}{s:Shared}{H:Hp}{E:XK}:XOk (zcC (CX1 P w) P w K mg base N qual scope f cd A outer s H E) (fun C H1=>E (.ref C) none H1):=by
 have thr:∀ (t:Bool) (pins:List (Addr×Obj)) (σ:St) (H':Hp) (s':Shared) (a C:Addr),Inv (zcC (CX1 P w) P w K mg base N qual scope f cd A outer s H E) pins σ H' s' ->
     Fl t (zcC (CX1 P w) P w K mg base N qual scope f cd A outer s H E) pins H' s'.heap a C->E (.ref C) none H'->(zcC (CX1 P w) P w K mg base N qual scope f cd A outer s H E).xe (.ref a) s':=fun t pins σ H' s' a C I fl q =>
   zqN (X:=zcC (CX1 P w) P w K mg base N qual scope f cd A outer s H E) I.ok.frames ⟨outer,rfl⟩ (L:=s.heap.objs.size) rfl (fun b z=>nomatch z) I fl fun s'' I2 f2 _=>CX1.of (X:=zcC (CX1 P w) P w K mg base N qual scope f cd A outer s H E) rfl I2 f2 q
 refine ⟨thr,fun pins σ H' s' e s'' I c=>?_,PassesOwn.leaving⟩
 obtain ⟨a,C,H2,rfl,I2,f2,⟨C',e2,q⟩,_⟩:=CX1.inv I rfl c
 cases e2
 exact thr true pins σ H2 s'' a C I2 f2 q
theorem Fun.okE {x qual:Str}{st:Stmt}{f:Addr}{fd:FuncData}{N ps:List Str}{k:Nat}{sp:Sp} (F:Fun K x qual st f fd) (S:zV N ps (zH st)) (len:∀ vs H Q E,sp vs H Q E->vs.length=ps.length)
   (hbody:∀ (cdv:Value) (A:Around) (outer:List Env) (s:Shared) (H:Hp) (vs:List V) (Q:VK) (E:XK),zO k (A.deeper (envOfC qual (zH st) s.heap.objs.size f cdv))->sp vs H Q E ->
     ∃ t,PSs (zcC (CX1 P w) P w K mg base N qual (zH st) f cdv A outer s H E) (zcU st) t∧t { nx:=fun _ H'=>Q .non H',rt:=Q } (start N vs) H):zM P w K mg base (CX1 P w) (k+1) f fd ps sp:=by
 obtain ⟨oc,od,kV,doc,pm,an,cdv,ct,osl,rfl,lk,hcd⟩:=F.ex
 exact zpw lk hcd S len fun A outer s H vs Q E hr hsp=>hbody cdv A outer s H vs Q E hr hsp
end
end L2
end
section
namespace L2
open PySem PySem.Spec PyProof.Rows
theorem z8.get {P:Program}{w:World}{H:Hp}{h:Heap}{a:Addr}{o:HO} (x:z8 P w H h a o):∃ u,h.get? a=some u:=by
 cases o with
 | lst xs=>obtain ⟨_,_,_,_,e⟩:=x;exact ⟨_,e⟩
 | tup xs=>obtain ⟨_,_,_,ob,e,_⟩:=x;exact ⟨_,e⟩
 | dK kvs=>obtain ⟨_,_,_,_,o,_,_,e,_⟩:=x;exact ⟨_,e⟩
 | dT kvs=>obtain ⟨_,_,_,_,o,_,_,e,_⟩:=x;exact ⟨_,e⟩
 | set S n=>obtain ⟨o,_,_,_,e,_⟩:=x;exact ⟨_,e⟩
 | ins C dx fs=>obtain ⟨_,_,_,e,_⟩:=x;exact ⟨_,e⟩
 | own y=>exact x
 | xd fs=>obtain ⟨_,⟨_,_,_,e,_⟩,_⟩:=x;exact ⟨_,e⟩
 | rng lo hi=>obtain ⟨_,_,_,e⟩:=x;exact ⟨_,e⟩
 | frz ob u=>obtain ⟨e,_⟩:=x;exact ⟨_,e⟩
 | tbl ps=>exact ⟨_,x⟩
 | met f y=>exact ⟨_,x⟩
 | ext φ=>obtain ⟨_,e,_⟩:=x;exact e
theorem HOk.none_of {P:Program}{w:World}{H:Hp}{h:Heap}{a:Addr} (x:HOk P w H h) (e:h.get? a=none):H a=none:=by
 cases q:H a with
 | none=>rfl
 | some o=>obtain ⟨u,z⟩:=(x a o q).get;rw [e]at z;cases z
theorem zpq {p:Program}{mg:Str->Option Value}{h:Heap} (G:h.Ns mainGlobals mg) (B:∃ mb,h.Ns builtinsNs mb∧∀ x:Str,x ≠ "__name__" -> mb x=bootBuiltins x) (nl:h.NoLimit) :
   ∃ loose mb,PySem.W.TopRead p loose mg mb h:=by
 obtain ⟨o,es,ep,ho,hd,hk,hf⟩:=id G
 obtain ⟨mb,b1,b2⟩:=B
 refine ⟨es.toList.map fun e=>match e.key with | .str y _=>y | _=>Str.empty,mb,G,b1,nl,b2,fun x _ hx _ _ _=>?_⟩
 rw [<- hf]
 unfold nsFind findBy
 cases q:es.find? fun e=>e.key.isStr x with
 | none=>rfl
 | some e =>
   refine absurd (List.mem_map.mpr ⟨e,?_,?_⟩) hx
   . rw [Array.mem_toList_iff];exact Array.mem_of_find?_eq_some q
   . have:=Array.find?_some q
     cases hk:e.key with
     | str y t=>rw [hk]at this;exact beq_iff_eq.mp this
     | _=>rw [hk]at this;cases this
structure XC (K:PySem.W.Frag) (x:Str) (C:Addr):Prop where
 a:PySem.W.nsIn K mainGlobals x=some (some (.ref C))
 ex:PySem.W.excIn K C [.type "ValueError",.type "Exception",.type "BaseException",.type "object"] "ValueError.__new__" = true
section
variable {X:Cx}{x:Str}{C:Addr}{WX:Addr->Hp->Prop}{np p1 cpos pos:Pos}{m:Str}{j:Option Str}
theorem zpr {e:Expr}{te:TE} (hc:X.calm=true) (hx:X.ex=[]) (hg:Gl X x) (xo:XOk X WX) (xc:XC X.K x C) (he:PE X e te) (hte:∀ σ H Q,(∀ v,Q v H)->te σ H Q)
   (hs:starEach [e] X.env=(false,eval e X.env) :: starEach [] X.env:=by rfl) (hdb:(x == ("__debug__":Str))=false:=by decide) :
   PS X (.Raise (some (.Call (.Name x np) [e] [] cpos)) none pos) (fun _ _ H=>WX C H):=by
 intro pins s σ H D I h
 obtain ⟨loose,mb,T⟩:=zpq (p:=X.prog) I.mod.glob I.mod.blt I.mod.nolimit
 have O:=(PySem.W.own_of_in I.mod.kin T xc.a xc.ex)
 have O':=O.keeps I.bk
 obtain ⟨tl,N,nm,q,bs,hdct,sn,sub,ab,col,dd,k0,k1,k2,k3,k5,mN,hC,hN,hni,TL⟩:=O.obj
 refine wpAny_Raise_call_subT (C:=C) (nm:=nm) (q:=q) (N:=N) (bs:=bs) (bm:=tl) (hdct:=hdct) (sn:=sn) (sub:=sub) (ab:=ab) (col:=col) (dd:=dd) (k0:=k0) (k1:=k1) (k2:=k2) (k3:=k3) (k5:=k5)
   PySem.F.excBase_ValueError (mN:=mN) (TL.hasType PySem.F.excBase_ValueError.hasBase) (I.ok.hd hc) (by rw [hs];rfl) hni (zgN I hg O.bound ⟨rfl,?_⟩ hdb)
 have ha:=(zbC he zce hs) cpos pins s σ H (fun vs H1=>vs.length=1∧H1=H) I (hte _ _ _ fun v=>⟨rfl,rfl⟩)
 rw [hs]at ha ⊢
 refine Calls.evalArgs_plain (wpAny_mono ha (fun vs s₂ hv=>?_) fun _ _ y=>y)
 obtain ⟨ws,H1,I2,r,hl,rfl⟩:=hv
 refine ⟨rfl,?_,I2.bk _ _ hC,hN.keeps I2.bk,TL.keeps I2.bk,fun h' a hm=>?_⟩
 . show vs.length<=sizeLine
   rw [<- r.length,hl];decide
 . obtain ⟨t,ht,_,_⟩:=hm.there
   have hn:H1 a=none:=I2.hok.none_of hm.new
   exact xo.thr false pins σ H1 _ a C (I2.kept (t':=s₂.toks) hm.keeps) ⟨I2.lone hm.new hn (fun z=>by rw [hx]at z;exact nomatch z),_,_,ht,rfl,rfl,⟨rfl,rfl⟩,.inl ⟨rfl,rfl⟩⟩ h
end
end L2
end
section
namespace L2
open PySem PySem.Spec PyProof.Rows
section
variable {X:Cx}{scope:Scope}{N:List Str}{js:List (Option Nat)}{tg iter elt:Expr}{ifs:List Expr}{wi:TI}{g:TG}{tc:TT}{te:TE}{pos:Pos}
structure zkl (X:Cx) (WX:Addr->Hp->Prop) (scope:Scope) (N:List Str) (tg elt:Expr) (ifs:List Expr) (g:TG) (tc:TT) (te:TE):Prop where
 run:∀ (cl:List (Str×Addr)) (s₀:Shared) (H₀:Hp) (fp:List Addr) (XE:Value->Shared->Prop),zdj (CX1 X.prog X.w) ((zba X scope N cl s₀ H₀ fp).wish XE) (EW WX) ->
   PG ((zba X scope N cl s₀ H₀ fp).wish XE) tg g∧zeX ((zba X scope N cl s₀ H₀ fp).wish XE) ifs tc∧PE ((zba X scope N cl s₀ H₀ fp).wish XE) elt te
theorem zuK {WX:Addr->Hp->Prop}{L:Addr}{E:Value->Shared->Prop}{RR:Value->Addr->Result->Shared->Prop}{Q:VK}{pins:List (Addr×Obj)}{σ:St}{H1:Hp}{s2:Shared}{J:It}{it:Addr}{fp:List Addr}{tn:Nat->Heap->Prop}
   {cl:List (Str×Addr)} (hc:X.calm=true) (hex:X.ex=[]) (hst:∃ o,X.stack=X.env :: o) (hfr:X.env.frame=some L) (S:zbF X scope N js) (Pt:zkl X WX scope N tg elt ifs g tc te) (hcl:closureFor scope X.env=pure cl)
   (h1:∀ x c,cl.lookup x=some c->(x,NameKind.free)∈scope.names∧X.env.cells.lookup x=some c)
   (h2:∀ x c,(x,NameKind.free)∈scope.names->X.env.cells.lookup x=some c->cl.lookup x=some c)
   (I2:Inv X pins σ H1 s2) (T:zem X.prog X.w X.K tg J fp it tn) (st2:tn 0 s2.heap) (f2:∀ b∈fp,zco X pins H1 b)
   (h:∀ D,H1 D=none->zh2 J g tc te D σ H1 js Q)
   (hRR:∀ (D C:Addr) (s0 s':Shared) (H0 H':Hp) (m:Str->Option Value),Inv X pins σ H0 s0->C=s0.heap.objs.size->H' C=none->s'.heap.Ns C m->Inv X pins σ H' s'->Q (.ref D) H'->RR (.ref D) C (.ok .next) s')
   (hRX:∀ (D C:Addr) (s0 s':Shared) (H0 H':Hp) (m:Str->Option Value) (a Cc:Addr),Inv X pins σ H0 s0->C=s0.heap.objs.size->H' C=none->s'.heap.Ns C m->Inv X pins σ H' s'->Fl true X pins H' s'.heap a Cc->WX Cc H'->RR (.ref D) C (.error (.ref a)) s') :
   wpAny (model X.prog X.w) X.A (newList []) (fun acc s₃=>wpAny (model X.prog X.w) X.A (newFunctionEnv scope X.env.globals cl [] X.env.qual none .none (some X.env)) (fun cenv s₄ =>
     codeAny (model X.prog X.w) X.A (.compStart (.ListComp elt [⟨tg,iter,ifs,0⟩] scope pos) 0 (.ref it) acc { cenv with scope:=relabel scope X.env }) (RR acc cenv.locals) s₄) E s₃) E s2:=by
 obtain ⟨W,⟨m0,w0⟩,turn⟩:=h s2.heap.objs.size (I2.hok.fresh (Nat.le_refl _))
 refine wpAny_newObj_type (wpAny_newFunctionEnv S.cell (by intro y hy;simp at hy) (fun h₁ hns₁ hsb₁=>?_) S.kind)
 dsimp only at hns₁ hsb₁ ⊢
 have I3:Inv X pins σ (upd H1 s2.heap.objs.size (.lst [])) { s2 with heap:=s2.heap.push { cls := .type "list",dict:=none,data := .seq ([]:List Value).toArray } } :=
   I2.lnew (its:=[]) (t':=s2.toks) .nil (Nat.zero_le _)
 generalize hH3:(upd H1 s2.heap.objs.size (.lst []))=H3 at I3 w0
 generalize hs3:({ s2 with heap:=s2.heap.push { cls := .type "list",dict:=none,data := .seq ([]:List Value).toArray } }:Shared)=s3 at I3
 have e3:s2.heap.push { cls := .type "list",dict:=none,data := .seq ([]:List Value).toArray }=s3.heap:=by rw [<- hs3]
 rw [e3]at hns₁ hsb₁ ⊢
 have hsz:s3.heap.objs.size=s2.heap.objs.size+1:=by rw [<- e3,Heap.size_push]
 have hlt2:∀ b∈fp,b < s2.heap.objs.size:=fun b hb=>by
   obtain ⟨o,ho,_⟩:=T.obj 0 _ st2 b hb
   exact Heap.lt_size ho
 have hlt3:∀ b∈fp,b < s3.heap.objs.size:=fun b hb=>by rw [hsz];exact Nat.lt_succ_of_lt (hlt2 b hb)
 have f3:∀ b∈fp,zco X pins H3 b:=fun b hb=>⟨by rw [<- hH3,zt (Nat.ne_of_lt (hlt2 b hb))];exact (f2 b hb).1,(f2 b hb).2⟩
 have old:∀ b o,s3.heap.get? b=some o->h₁.get? b=some o:=fun b o e=>hsb₁.extBut b o (Nat.ne_of_lt (Heap.lt_size e)) (Heap.get?_push_of_some _ e)
 have old2:∀ b o,s2.heap.get? b=some o->h₁.get? b=some o:=fun b o e=>old b o (by rw [<- e3];exact Heap.get?_push_of_some _ e)
 have st4:tn 0 h₁:=T.keep 0 _ _ st2 fun b _ o e=>old2 b o e
 have I4:∀ t',Inv (zba X scope N cl s3 H3 fp) [] (zd2 js σ) H3 { s3 with heap:=h₁,toks:=t' }:=fun t'=>zk1 S I3 f3 hlt3 h1 h2 hns₁ old
 generalize hXE:(fun e s'=>notedBy (model X.prog X.w) X.A (compEnvC scope cl s3.heap.objs.size X.env) (fun e s''=>RR (.ref s2.heap.objs.size) s3.heap.objs.size (.error e) s'') e s':Value->Shared->Prop)=XE
 have hp:zdj (CX1 X.prog X.w) ((zba X scope N cl s3 H3 fp).wish XE) (EW WX):=fun pins' σ' Ha sa e sb Ia c=>by
   have Ja:Inv (zba X scope N cl s3 H3 fp) [] σ' Ha sa:=⟨Ia.ok.unwish,Ia.os,Ia.bare,Ia.base,Ia.loc,Ia.cell,Ia.free,Ia.freeC,(fun p hp=>nomatch hp),Ia.hok,Ia.len⟩
   obtain ⟨a,Cc,Hb,rfl,Ib,fb,⟨C',e',q⟩,un⟩:=CX1.inv (zjU I3 f3 Ja) hex c
   cases e'
   obtain ⟨m,⟨o,es,ep,ho,r⟩,_⟩:=Ja.loc
   have ho:sa.heap.get? s3.heap.objs.size=some o:=ho
   obtain ⟨sl,hb⟩:=un.any ho Ja.free ς
   have nb:sb.heap.Ns s3.heap.objs.size m:=⟨_,es,ep,hb,r⟩
   rw [<- hXE]
   show wpAny (model X.prog X.w) X.A (noteFrame (.ref a) X.env) (fun _ s''=>RR (.ref s2.heap.objs.size) s3.heap.objs.size (.error (.ref a)) s'') _ sb
   exact zi3 (X:=X) Ib.ok.frames hst hfr (fun b z=>by rw [hex]at z;exact nomatch z) Ib fb fun sc Ic fc kc=>hRX _ _ s3 sc H3 Hb m a Cc I3 rfl (un.free _ o ho Ja.free ς) (kc _ _ nb) Ic fc q
 obtain ⟨pg,pif,pe⟩:=Pt.run cl s3 H3 fp XE hp
 have stat:∀ {H':Hp} {pl:List (Addr×Obj)},(∀ b∈fp,H' b=none)->pl=[]->∀ b∈fp,zco ((zba X scope N cl s3 H3 fp).wish XE) pl H' b:=fun hn e b hb=>by
   subst e
   refine ⟨hn b hb,Nat.ne_of_lt (hlt3 b hb),fun z=>?_,.inl hb,fun x c hc=>(f3 b hb).2.2.2.2.1 x c (h1 x c hc).2,fun p hp=>(List.not_mem_nil (show p∈([]:List (Addr×Obj)) from hp)).elim⟩
   rcases List.mem_cons.mp (I3.stkSub b z) with e | e
   . exact (f3 b hb).2.1 e
   . exact (f3 b hb).2.2.1 e
 have loop:∀ s₄:Shared,s₄={ s3 with heap:=h₁,toks:=s2.toks+([]:List (Str×Value)).length } ->
     codeAny (model X.prog X.w) X.A (.compLoop (.ListComp elt [⟨tg,iter,ifs,0⟩] scope pos) 0 (.ref it) (.ref s2.heap.objs.size) (compEnvC scope cl s3.heap.objs.size X.env)) (RR (.ref s2.heap.objs.size) s3.heap.objs.size) s₄:=by
   rintro s₄ rfl
   refine codeAny_loop rfl (fun n s'=>∃ i σ' H',Inv ((zba X scope N cl s3 H3 fp).wish XE) [] σ' H' s'∧tn i s'.heap∧(∀ b∈fp,H' b=none)∧W i n σ' H') ?_ m0 ⟨0,zd2 js σ,H3,(I4 _).wish XE,st4,fun b hb=>(f3 b hb).1,w0⟩
   rintro n s5 ⟨i,σ5,H5,I5,st5,fr5,w5⟩
   show wpAny _ X.A ((compTurn (.ListComp elt [⟨tg,iter,ifs,0⟩] scope pos) 0 (.ref it) (.ref s2.heap.objs.size) (compEnvC scope cl s3.heap.objs.size X.env)).onRaise (fun x=>do noteFrame x (compEnvC scope cl s3.heap.objs.size X.env);theTreesLotGoes x)) _ _ s5
   refine wpAny_noted ?_
   rw [compTurn_list]
   have nox:∀ {α:Type} {t:Sem α} {Q:α->Shared->Prop} {E':Value->Shared->Prop} {s':Shared},wpAny (model X.prog X.w) X.A t Q (fun _ _=>False) s'->wpAny (model X.prog X.w) X.A t Q E' s':=fun h=>wpAny_mono h (fun _ _ x=>x) fun _ _ x=>x.elim
   have yox:∀ {α:Type} {t:Sem α} {Q:α->Shared->Prop} {s':Shared},wpAny (model X.prog X.w) X.A t Q XE s'->wpAny (model X.prog X.w) X.A t Q (notedBy (model X.prog X.w) X.A (compEnvC scope cl s3.heap.objs.size X.env) (fun e s''=>RR (.ref s2.heap.objs.size) s3.heap.objs.size (.error e) s'')) s':=fun h=>by subst hXE;exact h
   refine wpAny_bind (wpAny_standAt (wpAny_bind ?_))
   rcases turn i n σ5 H5 w5 with ⟨stop,qn⟩ | ⟨go,step⟩
   . refine nox (thn (T.done ((zba X scope N cl s3 H3 fp).wish XE) rfl rfl rfl hc i [] s5 σ5 H5 _ I5 (stat fr5 rfl) st5 stop) fun r s6 ⟨hr,I6⟩=>?_)
     subst hr
     obtain ⟨m6,hn6,_⟩:=id I6.loc
     exact wpAny_pure (hRR _ _ s3 s6 H3 H5 m6 I3 rfl I6.free hn6 (zjU I3 f3 I6.unwish) qn)
   . refine nox (thn (T.item ((zba X scope N cl s3 H3 fp).wish XE) rfl rfl rfl hc i [] s5 σ5 H5 _ I5 (stat fr5 rfl) st5 go) fun r s6 ⟨u,hr,h6⟩=>?_)
     subst hr
     refine wpAny_bind (nox (thn h6 fun _ s7 ⟨x,H7,I7,r7,y7,st7,fr7⟩=>?_))
     have I7':=I7.pinned (stat fr7 rfl) (T.obj _ _ st7)
     refine wpAny_bind (yox (thn (pg _ s7 σ5 H7 x u _ I7' r7 (step x H7 y7)) fun _ s8 ⟨σ8,H8,I8,q8⟩=>?_))
     refine wpAny_bind (yox (thn (pif _ s8 σ8 H8 _ I8 q8) fun ok s9 ⟨H9,I9,q9⟩=>?_))
     have again:∀ {σa:St} {Ha:Hp} {sa:Shared} {m':Nat},Inv ((zba X scope N cl s3 H3 fp).wish XE) ([]++zgl fp s7.heap) σa Ha sa->m' < n->W (i+1) m' σa Ha->∃ m,m < n∧∃ i σ' H',Inv ((zba X scope N cl s3 H3 fp).wish XE) [] σ' H' sa∧tn i sa.heap∧(∀ b∈fp,H' b=none)∧W i m σ' H':=fun {σa Ha sa m'} Ia hm wa=>by
       refine ⟨m',hm,i+1,σa,Ha,Ia.unpinned,T.keep _ _ _ st7 fun b hb o e=>(Ia.pin (b,o) (List.mem_append_right _ (List.mem_append_right _ (zgc hb e)))).1,fun b hb=>?_,wa⟩
       obtain ⟨o,e,d⟩:=T.obj _ _ st7 b hb
       exact (Ia.pin (b,o) (List.mem_append_right _ (List.mem_append_right _ (zgc hb e)))).2.1
     cases ok with
     | false =>
       obtain ⟨m',hm,wa⟩:=q9
       exact wpAny_pure ⟨rfl,again I9 hm wa⟩
     | true =>
       refine wpAny_bind (wpAny_bind (yox (thn (pe _ s9 σ8 H9 _ I9 q9) fun y sa ⟨vy,Ha,Ia,ra,xs,hD,hz,m',hm,wa⟩=>?_)))
       refine wpAny_bind (yox (thn (zjK _ sa σ8 Ha (.ref s2.heap.objs.size) [vy] (.ref s2.heap.objs.size) [y] (fun _ H'=>H'=upd Ha s2.heap.objs.size (.lst (xs++[vy]))) Ia rfl (.cons ra .nil) ⟨_,_,_,rfl,rfl,hD,hz,rfl⟩) fun z sb ⟨vz,Hb,Ib,rb,eb⟩=>?_))
       subst eb
       exact wpAny_pure (wpAny_pure ⟨rfl,again Ib hm wa⟩)
 exact codeAny_compStart_list (loop _ (by rw [<- hs3])) (T.self _ 0 _ _ _ st4 (loop _ (by rw [<- hs3])))
theorem zry {WX:Addr->Hp->Prop}{L:Addr} (hc:X.calm=true) (xo:XOk X WX) (hex:X.ex=[]) (hst:∃ o,X.stack=X.env :: o) (hfr:X.env.frame=some L) (S:zbF X scope N js) (hi:PI X tg iter wi) (Pt:zkl X WX scope N tg elt ifs g tc te) (hs:∀ x,foldedSetIterable iter X.env x=pure x:=by intro _;rfl) :
   PE X (.ListComp elt [⟨tg,iter,ifs,0⟩] scope pos) (zgY js wi g tc te):=by
 intro pins s σ H Q I h
 obtain ⟨cl,hcl,h1,h2⟩:=S.clos I
 rw [eval_ListComp]
 refine wpAny_comprehension_free (use:=none) (cl:=cl) rfl hs hcl S.kind (fun x hx hl=>by rw [S.names x hx,hl]) ?_
 refine wpAny_mono (hi pins s σ H _ I h) (fun v s1 p1=>wpAny_mono p1 (fun itv s2 p2=>?_) fun _ _ e=>e) fun _ _ e=>e
 obtain ⟨it,fp,tn,J,H2,e,I2,T,st2,f2,r2⟩:=p2
 subst e
 refine zuK (WX:=WX) (L:=L) (RR:=fun acc C=>compPost (model X.prog X.w) X.A X.xe none (EP X pins σ Q) acc C) hc hex hst hfr S Pt hcl h1 h2 I2 T st2 f2 r2 ?_ ?_
 . intro D C s0 s' H0 H' m I0 hC hn hns I' q
   exact ⟨m,hns,fun h' hs'=>⟨.ref D,H',ziv I0 hC hn I' hs',rfl,q⟩⟩
 . intro D C s0 s' H0 H' m a Cc I0 hC hn hns I' f q
   refine ⟨m,hns,fun h' hs' cenv _=>ztj (ziv I0 hC hn I' hs') ?_ fun s2 I2 f2=>xo.thr true pins σ H' s2 a Cc I2 f2 q⟩
   obtain ⟨l,oe,vs,g1,g2,g3,g4,g5⟩:=f
   obtain ⟨o,es,ep,ho,hd,_⟩:=hns
   have ne:∀ (r:Addr) (u:Obj) (ws:Array Value),s'.heap.get? r=some u->u.data = .fields ws->r≠C:=fun r u ws e d z=>by rw [z,ho]at e;cases e;rw [hd]at d;cases d
   obtain ⟨T,oT,ts,k1,k2,k3,k4,k5,k6⟩:=g5.elim (fun z=>nomatch z.1) id
   exact ⟨l,oe,vs,by rw [hs'.2 a (ne _ _ _ g1 g3)];exact g1,g2,g3,g4,.inr ⟨T,oT,ts,k1,k2,k3,by rw [hs'.2 T (ne _ _ _ k4 k5)];exact k4,k5,k6⟩⟩
end
end L2
end
section
namespace L2
open PySem
section
variable {prog:Program}{w:World}{A:Around}{E:Value->Shared->Prop}{h:Heap}{g:Array GenState}{d:Drawn}{t:Nat}{os:OsState}{a C:Addr}{o:Obj}{K:PySem.W.Frag}
theorem zqF {R:Result->Shared->Prop} (X:K.In h) (hm:PySem.W.mroIn K C (.type "object")=some true) (hx:h.get? a=some o) (hc:o.cls = .ref C) (hq:R (.ok (.ret (.ref C))) ⟨h,g,d,t,os⟩) :
   codeAny (model prog w) A (.call (.builtin "getset_descriptor.__get__") ⟨[.builtin "object.__class__",.ref a,.ref C],[]⟩) R ⟨h,g,d,t,os⟩:=by
 have hT5:(⟨h,g,d,t,os⟩:Shared).TypeIs (.builtin "object.__class__") "getset_descriptor":=F.typeOf_object_class
 have L:=PySem.W.looks_mroIn (M:=model prog w) X hm
 rw [<- F.owner_object_class]at L
 refine codeAny_call_builtin F.slot_gs_get.plain F.entry_gs_get (F.slot_gs_get.check _ _ _ _ _ _ _ _ hT5 (F.args_gs_get _ _ _) ?_)
 repeat (any_goals (first | assumption | (with_reducible refine wpAny_loadPart_at hx ?_;rw [hc]) | with_reducible refine L.at ?_ | wp_step))
 refine ⟨Code.quiet_builtin _ ϰ,codeAny_builtin F.entry_object_class ?_⟩
 repeat (any_goals (first | assumption | (with_reducible refine wpAny_loadPart_at hx ?_;rw [hc]) | with_reducible refine L.at ?_ | wp_step))
theorem ztW {tk:Tok}{Q:Fin->Shared->Prop} (X:K.In h) (hm:PySem.W.mroIn K C (.type "object")=some true) (hf:PySem.W.findIn K (.ref C) "__class__" = some (some (.builtin "object.__class__"))) (hx:h.get? a=some o) (hc:o.cls = .ref C) (hq:Q (.done (.ret (.ref C))) ⟨h,g,d,t,os⟩) :
   wpAny (model prog w) A (Builtin.«object.__getattribute__» ⟨[.ref a,.str "__class__" tk],[]⟩) Q E ⟨h,g,d,t,os⟩:=by
 have hT5:(⟨h,g,d,t,os⟩:Shared).TypeIs (.builtin "object.__class__") "getset_descriptor":=F.typeOf_object_class
 have f5:=F.typeOf_object_class
 have f6:=F.slot_gs_get.lookup
 have f7:=F.slot_gs_set.lookup
 have L:=PySem.W.looks_findIn (M:=model prog w) X hf
 repeat (any_goals (first | assumption | (with_reducible refine wpAny_loadPart_at hx ?_;rw [hc]) | with_reducible refine L.at ?_ | wp_step))
 refine zqF X hm hx hc ?_
 repeat (any_goals (first | assumption | wp_step))
theorem zut {M:Model}{nameV:Value}{Q:Unit->Shared->Prop} (X:K.In h) (hB:PySem.W.mroIn K C (.type "BaseException")=some true) (hx:h.get? a=some o) (hc:o.cls = .ref C) (hq:Q () ⟨h,g,d,t,os⟩) :
   wpAny M A (checkBuiltinCall "BaseException.__getattribute__" ⟨[.ref a,nameV],[]⟩) Q E ⟨h,g,d,t,os⟩:=by
 have hk:builtinKind "BaseException.__getattribute__" = some .slot:=by decide +kernel
 have hsplit:splitId "BaseException.__getattribute__" = some ("BaseException", "__getattribute__"):=by decide +kernel
 have L:=PySem.W.looks_mroIn (M:=M) X hB
 have ha:=F.args_bexc_ga (.ref a) nameV
 simp only [checkBuiltinCall,hk,hsplit]
 refine wpAny_bind ?_
 . unfold isInstance
   repeat (first | (with_reducible refine wpAny_loadPart_at hx ?_;rw [hc]) | with_reducible refine L.at ?_ | wp_step)
   exact hq
theorem zpv {tk:Tok}{R:Result->Shared->Prop} (X:K.In h) (hm:PySem.W.mroIn K C (.type "object")=some true) (hB:PySem.W.mroIn K C (.type "BaseException")=some true) (hf:PySem.W.findIn K (.ref C) "__class__" = some (some (.builtin "object.__class__"))) (hx:h.get? a=some o) (hc:o.cls = .ref C)
   (hq:R (.ok (.ret (.ref C))) ⟨h,g,d,t,os⟩):codeAny (model prog w) A (.call (.builtin "BaseException.__getattribute__") ⟨[.ref a,.str "__class__" tk],[]⟩) R ⟨h,g,d,t,os⟩ :=
 codeAny_call_builtin (by first | exact F.slot_bexc_ga.plain | decide +kernel | skip) F.entry_bexc_ga (zut X hB hx hc (ztW X hm hf hx hc hq))
theorem zuS {tk:Tok}{Q:Value->Shared->Prop} (X:K.In h) (hm:PySem.W.mroIn K C (.type "object")=some true) (hB:PySem.W.mroIn K C (.type "BaseException")=some true) (hf:PySem.W.findIn K (.ref C) "__class__" = some (some (.builtin "object.__class__")))
   (hga:PySem.W.findIn K (.ref C) "__getattribute__" = some (some (.builtin "BaseException.__getattribute__"))) (hgn:PySem.W.findIn K (.ref C) "__getattr__" = some none) (hx:h.get? a=some o) (hc:o.cls = .ref C) (hq:Q (.ref C) ⟨h,g,d,t,os⟩) :
   wpAny (model prog w) A (getAttrBy (.ref a) (.str "__class__" tk) false) Q E ⟨h,g,d,t,os⟩:=by
 have f3:=PySem.F.excAttr_ValueError.ga.bind (.ref a)
 have hx2:(Value.builtin "BaseException.__getattribute__" == Value.builtin "object.__getattribute__")=false:=by decide +kernel
 have hx1:(onTheHeap (Value.ref C) && Value.builtin "BaseException.__getattribute__" == Value.builtin "object.__getattribute__")=false:=by rw [hx2];rfl
 have L1:=PySem.W.looks_findIn (M:=model prog w) X hga
 have L2:=PySem.W.looks_findIn (M:=model prog w) X hgn
 repeat (any_goals (first | assumption | (with_reducible refine wpAny_loadPart_at hx ?_;rw [hc]) | with_reducible refine L1.at ?_ | with_reducible refine L2.at ?_ | wp_step))
 refine zpv X hm hB hf hx hc ?_
 repeat (any_goals (first | assumption | wp_step))
theorem zth {Q:Option Value->Shared->Prop} (X:K.In h) (hm:PySem.W.mroIn K C (.type "object")=some true) (hB:PySem.W.mroIn K C (.type "BaseException")=some true) (hf:PySem.W.findIn K (.ref C) "__class__" = some (some (.builtin "object.__class__")))
   (hga:PySem.W.findIn K (.ref C) "__getattribute__" = some (some (.builtin "BaseException.__getattribute__"))) (hgn:PySem.W.findIn K (.ref C) "__getattr__" = some none) (hx:h.get? a=some o) (hc:o.cls = .ref C) (hq:Q (some (.ref C)) ⟨h,g,d,t+1,os⟩) :
   wpAny (model prog w) A (getAttr? (.ref a) "__class__") Q E ⟨h,g,d,t,os⟩:=by
 unfold getAttr? getAttrBy?
 repeat (any_goals (first | assumption | with_reducible apply zuS X hm hB hf hga hgn hx hc | wp_step))
end
structure XF (K:PySem.W.Frag) (C:Addr):Prop where
 ob:PySem.W.mroIn K C (.type "object")=some true
 be:PySem.W.mroIn K C (.type "BaseException")=some true
 cl:PySem.W.findIn K (.ref C) "__class__" = some (some (.builtin "object.__class__"))
 ga:PySem.W.findIn K (.ref C) "__getattribute__" = some (some (.builtin "BaseException.__getattribute__"))
 gn:PySem.W.findIn K (.ref C) "__getattr__" = some none
 hd:PySem.W.hasDictIn K C=true
theorem zss {K:PySem.W.Frag}{a C:Addr} (F:XF K C):PySem.W.KitX K (.ref a) (.ref C) (fun h=>∃ o,h.get? a=some o∧o.cls = .ref C) where
 ty:=fun M h X ⟨o,h1,h2⟩=>h2 ▸ (PySem.W.Looks.ld h1).andThen .now
 it:=fun _ _ X _=>by
   obtain ⟨cd,hcD,_⟩:=PySem.W.any_some F.hd
   unfold PySem.W.clsIn at hcD
   split at hcD
   . rename_i c' d' cd' sl' ho
     intro A' Q' E' s' k q
     unfold isType loadHead
     exact wpAny_bind (wpAny_loadPart (k _ _ (X _ _ ho)) (wpAny_pure q))
   . cases hcD
 ne:=fun h tp dd its n sl X htp=>by
   obtain ⟨cd,hcD,_⟩:=PySem.W.any_some F.hd
   refine Bool.eq_false_iff.mpr fun q=>?_
   have e:C=tp:=Value.ref.inj (beq_iff_eq.mp q)
   subst e
   unfold PySem.W.clsIn at hcD
   split at hcD
   . rename_i c' d' cd' sl' ho
     rw [X _ _ ho]at htp
     cases htp
   . cases hcD
 ca:=fun {prog w A E Q s} X ⟨o,h1,h2⟩ q=>by
   obtain ⟨h,g,d,t,os⟩:=s
   exact zth X F.ob F.be F.cl F.ga F.gn h1 h2 q
end L2
end
section
namespace L2
open PySem PySem.Spec PyProof.Rows
noncomputable abbrev Cx.loud (X:Cx) (A:Around):Cx:={ X with A:=A,calm:=false }
section
variable {X:Cx}{pins:List (Addr×Obj)}{σ:St}{H:Hp}{s:Shared}{A:Around}
theorem Inv.loud (I:Inv X pins σ H s) (hf:A.frames=X.A.frames):Inv (X.loud A) pins σ H s :=
 ⟨⟨I.ok.mod,I.ok.kind,I.ok.glob,I.ok.blt,I.ok.above,I.ok.inj,I.ok.has,I.ok.cab,(fun z=>nomatch z),hf.trans I.ok.frames,I.ok.stk,I.ok.exf,I.ok.bs,I.ok.bsz,I.ok.noex,I.ok.exfs,I.ok.funs,I.ok.frf⟩,I.os,I.bare,I.base,I.loc,I.cell,I.free,I.freeC,I.pin,I.hok,I.len⟩
theorem Inv.calmed (I:Inv (X.loud A) pins σ H s) (ok:X.Ok):Inv X pins σ H s:=⟨ok,I.os,I.bare,I.base,I.loc,I.cell,I.free,I.freeC,I.pin,I.hok,I.len⟩
end
section
variable {P:Program}{w:World}{K:PySem.W.Frag}{mg:Str->Option Value}{base:Heap}
end
section
variable {X:Cx}{k:Nat}{f:Addr}{fd:FuncData}{ps:List Str}{sp:List V->Hp->VK->Prop}{x:Str}{p pos:Pos}{e:Expr}{es:List Expr}{t:TA}
end
section
variable {X:Cx}{pins:List (Addr×Obj)}{σ:St}{H:Hp}{s:Shared}{a:Addr}{ob:Obj}
theorem Inv.freezeX (I:Inv X pins σ H s) (l:zfi X pins H a) (ho:s.heap.get? a=some ob) {vs:Array Value} (hd:ob.data = .fields vs):Inv X pins σ (upd H a (.frz ob (.own a))) s:=by
 obtain ⟨n1,n2,n3⟩:=I.rec_ne ho hd
 have nb:∀ b o,X.s₀.heap.get? b=some o->b≠a:=fun b o e z=>by rw [z,l.new]at e;cases e
 have nh:∀ b o,H b=some o->b≠a:=fun b o e z=>by rw [z,l.free]at e;cases e
 refine ⟨I.ok,I.os,I.bare,⟨I.base.keep,I.base.slot,fun b o e n hx=>by rw [zt (nb b o e)];exact I.base.free b o e n hx,I.base.there,fun b xs e=>?_,fun b o u e=>?_,fun b ps e=>?_⟩,I.loc,I.cell,by rw [zt (Ne.symm n2)];exact I.free,
   fun x c e=>by rw [zt (n3 x c e)];exact I.freeC x c e,fun p hp=>?_,fun b o e=>?_,I.len⟩
 . have:=I.base.tups b xs e;rw [zt (nh b _ this)];exact this
 . have:=I.base.frzs b o u e;rw [zt (nh b _ this)];exact this
 . obtain ⟨m,q⟩:=I.base.tbls b ps e;exact ⟨m,by rw [zt (nh b _ q)];exact q⟩
 . obtain ⟨q1,q2,q3⟩:=I.pin p hp
   exact ⟨q1,by rw [zt (l.pn p hp)];exact q2,q3⟩
 . by_cases hb:b=a
   . subst hb
     rw [zbc]at e;cases e
     exact ⟨ho,ob,ho⟩
   . rw [zt hb]at e
     refine (I.hok b o e).stay (fun c u _ q=>q) (fun c q=>by rw [zt (nh c _ q)];exact q) fun c xs q=>by rw [zt (nh c _ q)];exact q
theorem Inv.forget {h':Heap}{m':Str->Option Value}{t':Nat} (I:Inv X pins σ H s) (hs:Heap.SameBut X.env.locals s.heap h') (hn:h'.Ns X.env.locals m'):Inv X pins (List.replicate X.N.length none) H { s with heap:=h',toks:=t' }:=by
 have neL:∀ b o,X.s₀.heap.get? b=some o->b≠X.env.locals:=fun b o e=>Nat.ne_of_lt (Nat.lt_of_lt_of_le (Heap.lt_size e) I.ok.above)
 have k:∀ b u,b≠X.env.locals->s.heap.get? b=some u->h'.get? b=some u:=fun b u hb e=>(hs.2 b hb).trans e
 refine ⟨I.ok,I.os,I.bare,⟨fun b o e n hb hx=>k b o (neL b o e) (I.base.keep b o e n hb hx),fun b o e n hb hx=>?_,I.base.free,fun b o e hx=>?_,I.base.tups,I.base.frzs,I.base.tbls⟩,⟨m',hn,fun i x v h1 h2=>?_⟩,fun x c e=>?_,I.free,I.freeC,fun p hp=>?_,fun b o e=>?_,ς⟩
 . obtain ⟨sl,q⟩:=I.base.slot b o e n hb hx;exact ⟨sl,k b _ (neL b o e) q⟩
 . obtain ⟨u,q⟩:=I.base.there b o e hx;exact ⟨u,k b u (neL b o e) q⟩
 . rw [List.getElem?_replicate]at h2;split at h2 <;> cases h2
 . obtain ⟨v,o,ho,hd⟩:=I.cell x c e;exact ⟨v,o,k c o (I.cne x c e) ho,hd⟩
 . obtain ⟨q1,q2,q3,q4⟩:=I.pin p hp;exact ⟨k _ _ q3 q1,q2,q3,q4⟩
 . refine (I.hok b o e).stay (fun c u hc q=>k c u (fun z=>?_) q) (fun _ q=>q) fun _ _ q=>q
   rcases hc with y | y
   . rw [<- y,z,I.free]at e;cases e
   . rw [z,I.free]at y;cases y
end
end L2
end
section
namespace L2
open PySem PySem.Spec PyProof.Rows
noncomputable abbrev Cx.pinned (X:Cx) (pn:List (Addr×Obj)):Cx:={ X with pn:=pn }
section
variable {X:Cx}{x n fk:Str}{i k:Nat}{np np2 kp cp rp hp pos:Pos}{CW f L:Addr}{fd:FuncData}{ps:List Str}{cs:List Value}{body:List Stmt}
end
end L2
end
section
namespace L2
open PySem PySem.Spec PyProof.Rows
noncomputable def zc0 (K:PySem.W.Frag) (i:Nat) (c:Value):TE:=fun σ H Q=>∃ (a:Addr) (ob:Obj) (u:HO) (C:Addr) (b:Bool),σ[i]?=some (some (.ref a))∧H a=some (.frz ob u)∧ob.cls = .ref C∧XF K C∧PySem.W.kitOne K (.ref C) c=some b∧Q (.bl b) H
section
variable {X:Cx}{p p1 pos:Pos}{n:Str}{i:Nat}{ce:Expr}{vc:V}{c:Value}
theorem zte (c:Value):zdk X (.builtin "isinstance") (fun xs H Q=>∃ (a:Addr) (vc:V) (ob:Obj) (u:HO) (C:Addr) (b:Bool),xs=[.ref a,vc]∧(∀ w,zo vc w->w=c)∧H a=some (.frz ob u)∧ob.cls = .ref C∧XF X.K C∧PySem.W.kitOne X.K (.ref C) c=some b∧Q (.bl b) H):=by
 rintro pins s σ H xs us Q I r ⟨a,vc,ob,u,C,b,rfl,hc,ha,hcl,xf,hk,q⟩
 cases r with
 | cons r1 r2 =>
   cases r2 with
   | cons r2 r3 =>
     cases r3
     cases (show _=Value.ref a from r1)
     cases hc _ r2
     exact PySem.W.kia_one (zss xf) I.kIn ⟨ob,(I.hok a _ ha).1,hcl⟩ hk (fun z=>nomatch z) fun tk=>⟨.bl b,H,I.tok tk,rfl,q⟩
theorem zfV (hg:Gl X "isinstance") (hm:X.mg "isinstance" = none) (hi:X.N[i]?=some n) (hx:Vis X.env.scope n) (hdn:(n == ("__debug__":Str))=false) (hcn:(n == ("__classdict__":Str))=false) (hc:PE X ce (tC vc)) (hvc:∀ w,zo vc w->w=c)
   (hs:starEach [.Name n p1,ce] X.env=(false,eval (.Name n p1) X.env) :: starEach [ce] X.env) (hs2:starEach [ce] X.env=(false,eval ce X.env) :: starEach [] X.env) (hpl:(backTo pos (starEach [ce] X.env)).any (·.1)=false) :
   PE X (.Call (.Name "isinstance" p) [.Name n p1,ce] [] pos) (zc0 X.K i c):=fun pins s σ H Q I ⟨a,ob,u,C,b,e,ha,hcl,xf,hk,q⟩ =>
 zdJ (zte c) hg hm ϰ (zbC (ziw hi hx hdn hcn) (zbC hc zce hs2) hs) ϑ ϑ hs hpl pins s σ H Q I ⟨.ref a,e,a,vc,ob,u,C,b,rfl,hvc,ha,hcl,xf,hk,q⟩
noncomputable def zkE (K:PySem.W.Frag) (i:Nat) (c1 c2 c3:Value):TA:=zeD (zc0 K i c1) (zeD (zc0 K i c2) (zeD (zc0 K i c3) zf1))
theorem is3 {K:PySem.W.Frag}{i:Nat}{c1 c2 c3:Value}{σ:St}{H:Hp}{Q:List V->Hp->Prop}{a C:Addr}{ob:Obj}{u:HO}{b1 b2 b3:Bool} (e:σ[i]?=some (some (.ref a))) (ha:H a=some (.frz ob u)) (hcl:ob.cls = .ref C) (xf:XF K C)
   (h1:PySem.W.kitOne K (.ref C) c1=some b1) (h2:PySem.W.kitOne K (.ref C) c2=some b2) (h3:PySem.W.kitOne K (.ref C) c3=some b3) (q:Q [.bl b1,.bl b2,.bl b3] H):zkE K i c1 c2 c3 σ H Q :=
 ⟨a,ob,u,C,b1,e,ha,hcl,xf,h1,a,ob,u,C,b2,e,ha,hcl,xf,h2,a,ob,u,C,b3,e,ha,hcl,xf,h3,q⟩
end
theorem zf8 {H:Hp}{p b:Addr}{u o:HO} (hp:H p=none) (e:H b=some o):upd H p u b=some o:=by rw [zt (zcN e hp)];exact e
end L2
end
section
namespace L2
open PySem
noncomputable def KP (K:PySem.W.Frag) (C:Addr):List Value->List Bool->Prop
 | [],[]=>True
 | c :: cs,b :: bs=>PySem.W.kitOne K (.ref C) c=some b∧KP K C cs bs
 | _,_=>False
theorem KP.pair {K:PySem.W.Frag}{C:Addr}:∀ {cs:List Value}{bs:List Bool},KP K C cs bs->Paired (fun c b=>PySem.W.kitOne K (.ref C) c=some b) cs bs
 | [],[],_=> .nil
 | c :: cs,b :: bs,h=> .cons h.1 h.2.pair
 | [],_ :: _,h=>h.elim
 | _ :: _,[],h=>h.elim
structure XBd (K:PySem.W.Frag) (x:Str) (C CW:Addr) (cs:List Value) (bs:List Bool):Prop where
 a:PySem.W.nsIn K mainGlobals x=some (some (.ref C))
 ex:PySem.W.excIn K C [.type "ValueError",.type "Exception",.type "BaseException",.type "object"] "ValueError.__new__" = true
 ob:PySem.W.mroIn K C (.type "object")=some true
 be:PySem.W.mroIn K C (.type "BaseException")=some true
 cl:PySem.W.findIn K (.ref C) "__class__" = some (some (.builtin "object.__class__"))
 ga:PySem.W.findIn K (.ref C) "__getattribute__" = some (some (.builtin "BaseException.__getattribute__"))
 gn:PySem.W.findIn K (.ref C) "__getattr__" = some none
 hd:PySem.W.hasDictIn K C=true
 sb:PySem.W.subIn K (.ref CW) (.type "BaseException")=some true
 k0:PySem.W.kitOne K (.ref C) (.ref CW)=some true
 ne:(C == CW)=false
 ki:KP K C cs bs
theorem XBd.all {K:PySem.W.Frag}{x:Str}{C CW:Addr}{cs:List Value}{bs:List Bool} (b:XBd K x C CW cs bs):XF K C∧PySem.W.exmOne K (.ref C) (.ref CW)=some true∧Paired (fun c b=>PySem.W.kitOne K (.ref C) c=some b) cs bs:=by
 refine ⟨⟨b.ob,b.be,b.cl,b.ga,b.gn,b.hd⟩,?_,b.ki.pair⟩
 have hne:¬ (Value.ref C == Value.ref CW)=true:=fun z=>by
   have e:C=CW:=Value.ref.inj (beq_iff_eq.mp z)
   have n:=b.ne
   rw [e]at n;simp at n
 have k:=b.k0
 unfold PySem.W.kitOne at k
 rw [if_neg hne]at k
 unfold PySem.W.exmOne
 rw [if_pos (by rw [b.sb];rfl)]
 exact k
theorem XBd.xc {K:PySem.W.Frag}{x:Str}{C CW:Addr}{cs:List Value}{bs:List Bool} (b:XBd K x C CW cs bs):XC K x C:=⟨b.a,b.ex⟩
end L2
end
section
namespace L2
open PySem PySem.Spec PyProof.Rows
theorem zuj:entryFor table "proto.unchain" = some Builtin.«proto.unchain»:=entryFor_of_tree (by kernel_rfl)
section
variable {prog:Program}{w:World}{A:Around}{E:Value->Shared->Prop}{s:Shared}
theorem zt7 {α:Type}{e a:Addr}{oe ob:Obj}{vs ws:Array Value}{Q:α->Shared->Prop} (hh:A.handled=some (.ref e)) (he:s.heap.get? e=some oe) (hd:oe.data = .fields vs) (h2:vs[2]?=some .none) (ha:s.heap.get? a=some ob) (hda:ob.data = .fields ws) (hw:2 < ws.size) (hne:e≠a)
   (h:E (.ref a) { s with heap:=s.heap.update a (Obj.mapFields (·.setIfInBounds 2 (.ref e))) }):wpAny (model prog w) A (raiseNew (.ref a):Sem α) Q E s:=by
 unfold raiseNew
 refine wpAny_bind (wpAny_handled ?_)
 rw [hh]
 dsimp only
 rw [if_pos (show (Value.ref e != Value.ref a)=true by simp [hne])]
 refine wpAny_bind (wpAny_holding (wpAny_runValue (codeAny_builtin zuj ?_)))
 show wpAny _ _ (field (.ref e) 2 >>= _) _ _ s
 refine wpAny_bind (wpAny_field he hd h2 ?_)
 rw [if_pos (show (Value.none == Value.none)=true from rfl)]
 refine wpAny_bind (wpAny_pure ?_)
 refine wpAny_pure (wpAny_bind ?_)
 show wpAny _ _ (setField (.ref a) 2 (.ref e)) _ _ s
 exact wpAny_setField ha hda hw (wpAny_throw h)
theorem zpM {it l e:Addr}{i:Nat}{items:Array Value}{oe:Obj}{vs:Array Value}{Q:Option Value->Shared->Prop} (hh:A.handled=some (.ref e)) (he:s.heap.get? e=some oe) (hde:oe.data = .fields vs) (h2:vs[2]?=some .none) (hei:e≠it)
   (hit:s.heap.IsListIter it l i) (hl:s.heap.IsList l items) (hx:items[i]?=none) (hQ:∀ h',Heap.ExtBut it s.heap h'->Q none { s with heap:=h' }):wpAny (model prog w) A (pyNext (.ref it)) Q E s:=by
 obtain ⟨o,ho,hc,hd⟩:=id hit
 obtain ⟨ol,hol,_,nl,hdl⟩:=hl
 unfold pyNext
 refine wpAny_bind (wpAny_attempt (wpAny_callSpecial?_slot (name:=Str.ofString "__next__") hit.typeIs slot_listiter_next (wpAny_call_entry slot_listiter_next hit.typeIs entry_listiter_next ?_ (args_listiter_next _))))
 show wpAny _ _ (field (.ref it) 0 >>= _) _ _ s
 refine wpAny_bind (wpAny_field ho hd (x := .ref l) rfl ?_)
 show wpAny _ _ (if (Value.ref l == Value.none)=true then _ else _) _ _ s
 rw [if_neg (show ¬ ((Value.ref l == Value.none)=true) from fun z=>Bool.false_ne_true z)]
 show wpAny _ _ (field (.ref it) 1 >>= _) _ _ s
 refine wpAny_bind (wpAny_field ho hd (x := .int i 0) rfl ?_)
 show wpAny _ _ (seqItems? (.ref l) >>= _) _ _ s
 refine wpAny_bind (wpAny_seqItems hol hdl ?_)
 simp only [Int.toNat_natCast,hx]
 refine wpAny_bind (wpAny_rule (wpAny_bind (wpAny_setField ho hd ς ?_)))
 show wpAny _ _ (newExc (.type "StopIteration") [] >>= _) _ _ _
 refine wpAny_bind ?_
 simp only [newExc,newTuple]
 refine wpAny_bind (wpAny_newObj_type ?_ (by size_fits))
 refine wpAny_bind (m:=firstArgMember _ _) (wpAny_of_eq (a:=Value.none) (by first | rfl | (simp only [firstArgMember];rfl)) ?_)
 refine wpAny_newObj_type ?_ (by size_fits)
 generalize hg:s.heap.update it _=h1
 have k1:Heap.ExtBut it s.heap h1:=by rw [<- hg];exact (Heap.SameBut.update ..).extBut
 have e1:h1.get? e=some oe:=k1 e oe hei he
 dsimp only
 generalize ht:({ cls := .type "tuple",data := .seq ([]:List Value).toArray }:Obj)=ot
 generalize hx2:({ cls := .type "StopIteration",data:=_ }:Obj)=ox
 have hdx:∃ ws,ox.data = .fields ws∧2 < ws.size:=by rw [<- hx2];exact ⟨_,rfl,by simp;omega⟩
 have hcx:ox.cls = .type "StopIteration":=by rw [<- hx2]
 obtain ⟨ws,hdx,hws⟩:=hdx
 have gx:((h1.push ot).push ox).get? (h1.push ot).objs.size=some ox:=Heap.get?_push_size _ (Obj.isFreed_of_fields hdx)
 have ge:((h1.push ot).push ox).get? e=some oe:=Heap.get?_push_of_some _ (Heap.get?_push_of_some _ e1)
 have hne:e≠(h1.push ot).objs.size:=Nat.ne_of_lt (Heap.lt_size (Heap.get?_push_of_some ot e1))
 refine zt7 (A:=A.in1) hh ge hde h2 gx hdx hws hne ?_
 refine wpAny_bind (wpAny_isInstance (T :="StopIteration") (b:=true) ⟨_,Heap.get?_update_self _ gx (Obj.isFreed_of_fields (Obj.data_mapFields hdx _)),by rw [Obj.cls_mapFields];exact hcx⟩ isSubtype_stop ?_)
 refine wpAny_pure (hQ _ fun b u hb q=>?_)
 have q1:=k1 b u hb q
 have q2:=Heap.get?_push_of_some ot q1
 have q3:=Heap.get?_push_of_some ox q2
 rw [Heap.get?_update_other _ _ (Nat.ne_of_gt (Heap.lt_size q2))]
 exact q3
theorem zs9 {e I ax:Addr}{oe:Obj}{vs:Array Value} (hh:A.handled=some (.ref e)) (hde:oe.data = .fields vs) (h2:vs[2]?=some .none) (hei:e≠I) (hne:ax≠I) (items:Array Value) :
   Walks prog w A I [I,ax,e] [I] items.size (fun i v=>items[i]?=some v) (fun i h=>(h.IsListIter I ax i∧h.IsList ax items)∧h.get? e=some oe) where
 sub:=fun b hb=>by simp at hb;simp [hb]
 frame:=fun _ _ _ st hk=>⟨⟨st.1.1.at fun o e=>hk I ς o e,st.1.2.at fun o e=>hk ax ς o e⟩,hk e ς _ st.2⟩
 item:=fun i s Q E hi st hQ=>by
   refine wpAny_pyNext_list_item st.1.1 st.1.2 (x:=items[i]) (by simp [hi]) fun h' hit' hs'=>?_
   exact hQ _ h' s.toks (by simp [hi]) ⟨⟨hit',st.1.2.extBut hs'.extBut hne⟩,hs'.extBut _ _ hei st.2⟩ fun b o hb q=>hs'.extBut b o (fun h=>hb (by simp [h])) q
 done:=fun s Q E st hQ=>zpM hh st.2 hde h2 hei st.1.1 st.1.2 ς fun h' he'=>hQ h' s.toks fun b o hb q=>he' b o (fun h=>hb (by simp [h])) q
 self:=fun _ _ _ _ st hQ=>wpAny_pyIter_listiter st.1.1 hQ
end
section
variable {X:Cx}
theorem zpJ {e:Addr} (hh:X.A.handled=some (.ref e)):zdk X (.builtin "any") (fun xs H Q=>∃ (a:Addr) (bs:List Bool) (oe:Obj) (u:HO) (vs:Array Value),xs=[.ref a]∧H a=some (.lst (bs.map V.bl))∧H e=some (.frz oe u)∧oe.data = .fields vs∧vs[2]?=some .none∧Q (.bl (bs.any id)) H):=by
 intro pins s σ H xs us Q I r h
 obtain ⟨a,bs,oe,u,vs,rfl,hq,he,hde,h2,q⟩:=h
 obtain ⟨v,rfl,ru⟩:=zer r
 cases ru
 have ge:s.heap.get? e=some oe:=(I.hok e _ he).1
 obtain ⟨its,rv,p,_⟩:=I.list (show SqL X.K H a (bs.map V.bl) from .inl (.inl hq))
 refine call_any_walk (wpAny_pyIter_list p.isList ?_)
 obtain ⟨o,ho,_⟩:=id p.isList
 refine ⟨s.heap.objs.size,_,_,_,_,_,_,rfl,zs9 (A:=X.A.in1) (ax:=a) hh hde h2 (Nat.ne_of_lt (Heap.lt_size ge)) (Nat.ne_of_lt (Heap.lt_size ho)) its.toArray,⟨⟨⟨_,Heap.get?_push_size _ rfl,rfl,rfl⟩,p.isList.at fun o e=>Heap.get?_push_of_some _ e⟩,Heap.get?_push_of_some _ ge⟩,zlj (A:=X.A.in1) rv,fun h' tk hk=>?_⟩
 refine ⟨.bl (bs.any id),H,zjr (a:=a) (its:=its.toArray) I hk,?_,q⟩
 have e:its.toArray.size=bs.length:=by simp [<- rv.length]
 rw [e,zq0];rfl
end
end L2
end
section
namespace L2
open PySem PySem.Spec PyProof.Rows
noncomputable def WG (K:PySem.W.Frag) (CW:Addr) (i nN:Nat) (th:Addr->TS) (D:zcj):Addr->Hp->Prop:=fun C H=>XF K C∧PySem.W.exmOne K (.ref C) (.ref CW)=some true∧∀ (a:Addr) (oe:Obj) (vs:Array Value) (σ:St),H a=none->oe.cls = .ref C->oe.data = .fields vs->Six vs->σ.length=nN ->
 th a { nx:=fun _ _=>False,rt:=D.rt } (σ.set i (some (.ref a))) (upd H a (.frz oe (.own a)))
section
variable {X:Cx}{x n:Str}{i:Nat}{np hp pos:Pos}{CW L:Addr}{b₀:Stmt}{suite body:List Stmt}{th:Addr->TS}
theorem zsD {pins:List (Addr×Obj)}{σ:St}{H:Hp}{s:Shared}{a C:Addr}{D:zcj} (hgx:Gl X x) (hmx:X.mg x=some (.ref CW)) (hdx:(x == ("__debug__":Str))=false)
   (hN:X.N.Nodup) (hi:X.N[i]?=some n) (hx:X.env.scope.names.lookup n=some .local)
   (hS:∀ a,PSs ((X.loud (X.A.mark (some (.ref a)))).nox) (b₀ :: suite) (th a))
   (I:Inv X pins σ H s) (fl:Fl true X pins H s.heap a C) (wk:WG X.K CW i X.N.length th D C H) :
   wpAny (model X.prog X.w) X.A (handleBy (.ref a) X.env [.ExceptHandler (some (.Name x np)) (some n) (b₀ :: suite) hp]) (SP X pins D) X.xe s:=by
 obtain ⟨xf,hex,q⟩:=wk
 refine wpAny_handleBy_cons (codeAny_handlers_test (zgN (X:=X.loud (X.A.mark (some (.ref a)))) (I.loud rfl) hgx hmx ?_ hdx)) (by intro q;cases q)
 obtain ⟨l,oe,vs,h1,h2,h3,h4,h5⟩:=id fl
 have LT:PySem.W.Looks (model X.prog X.w) s.heap (typeOf (.ref a)) (.ref C):=h2 ▸ (PySem.W.Looks.ld h1).andThen .now
 refine (PySem.W.exm_one I.kIn LT hex).here ?_
 refine codeAny_handlers_suite_as (zhS I fl fun s4 I4 f4 _=>zjc I4 hN hi (.inl hx) (show zo (.ref a) (.ref a) from rfl) (fun s5 I5 hsb=>?_) (.inr hx))
 obtain ⟨l4,oe4,vs4,k1,k2,k3,k4,k5⟩:=f4
 have ho:s5.heap.get? a=some oe4:=by
   obtain ⟨b,sb,hb⟩:=hsb
   obtain ⟨_,n2,n3⟩:=I4.rec_ne k1 k3
   refine (sb.2 a ?_).trans k1
   rcases hb with z | z
   . rw [z];exact n2
   . exact fun y=>n3 _ _ z y.symm
 have I6:=I5.freezeX ⟨l4.new,l4.free,l4.pn⟩ ho k3
 have hil:i < σ.length:=by rw [I.len];exact (List.getElem?_eq_some_iff.mp hi).1
 refine wpAny_mono (hS a pins s5 _ _ { nx:=fun _ _=>False,rt:=D.rt } ((I6.loud (A:=X.A.mark (some (.ref a))) rfl).wish _) ?_) (fun fw s6 hs=>?_) fun e s' hs=>hs.elim
 . exact q a oe4 vs4 σ l.free k2 k3 k4 I.len
 . cases fw with
   | ret u =>
     obtain ⟨v,σ7,H7,J7,rv,q7⟩:=hs
     have J8:Inv X pins σ7 H7 s6:=J7.unwish.calmed I.ok
     obtain ⟨m,hn,_⟩:=J8.loc
     exact wpAny_nameGoes hx hn (by rw [I.ok.kind];rfl) fun h' m' hn' hs'=>⟨v,_,H7,J8.forget hs' hn',rv,q7⟩
   | next=>obtain ⟨_,_,_,z⟩:=hs;exact z.elim
   | brk=>obtain ⟨_,_,_,z⟩:=hs;exact z.elim
   | cont=>obtain ⟨_,_,_,z⟩:=hs;exact z.elim
theorem zuM {tb:zcj->TS} (hex:X.ex=[]) (hst0:∃ o,X.stack=X.env :: o) (hfr:X.env.frame=some L) (hgx:Gl X x) (hmx:X.mg x=some (.ref CW)) (hdx:(x == ("__debug__":Str))=false)
   (hN:X.N.Nodup) (hi:X.N[i]?=some n) (hx:X.env.scope.names.lookup n=some .local)
   (hS:∀ a,PSs ((X.loud (X.A.mark (some (.ref a)))).nox) (b₀ :: suite) (th a))
   (hb:∀ (pn:List (Addr×Obj)) (XE:Value->Shared->Prop) (D:zcj),zdj (CX1 X.prog X.w) ((X.pinned pn).wish XE) (EW (WG X.K CW i X.N.length th D))->PSs ((X.pinned pn).wish XE) body (tb D)) :
   PS X (.Try body [.ExceptHandler (some (.Name x np)) (some n) (b₀ :: suite) hp] [] [] pos) (fun D σ H=>tb D D σ H):=by
 intro pins s σ H D I h
 have back:∀ {XE:Value->Shared->Prop} {pl:List (Addr×Obj)} {σ':St} {H':Hp} {s':Shared},Inv ((X.pinned (X.pn++pins)).wish XE) pl σ' H' s'->Inv X pins σ' H' s':=fun J =>
   ⟨I.ok,J.os,J.bare,J.base,J.loc,J.cell,J.free,J.freeC,fun p hp=>J.pin p (List.mem_append_left _ hp),J.hok,J.len⟩
 refine wpAny_Try_except (wpAny_mono (hb (X.pn++pins) (fun e s₁=>wpAny (model X.prog X.w) X.A (noteFrame e X.env) (fun _ s₂=>wpAny (model X.prog X.w) X.A (setFlight e none) (fun _ s₃=>wpAny (model X.prog X.w) X.A (handleBy e X.env [.ExceptHandler (some (.Name x np)) (some n) (b₀ :: suite) hp]) (SP X pins D) X.xe s₃) X.xe s₂) X.xe s₁) D ?_ [] s σ H D ?_ h) (fun fw s1 hs=>?_) fun e s1 he=>he)
 . intro pl σ' Ha sa e sb Ia c
   obtain ⟨a,C,Hb,rfl,Ib,fb,⟨C',e',wk⟩,_⟩:=CX1.inv (back Ia) hex c
   cases e'
   exact zi3 Ib.ok.frames hst0 hfr (fun b z=>by rw [hex]at z;exact nomatch z) Ib fb fun s2 I2 f2 _=>zhS I2 f2 fun s3 I3 f3 _ =>
     zsD hgx hmx hdx hN hi hx hS I3 f3 wk
 . exact ⟨⟨I.ok.mod,I.ok.kind,I.ok.glob,I.ok.blt,I.ok.above,I.ok.inj,I.ok.has,I.ok.cab,I.ok.hd,I.ok.frames,I.ok.stk,I.ok.exf,I.ok.bs,I.ok.bsz,I.ok.noex,I.ok.exfs,I.ok.funs,I.ok.frf⟩,I.os,I.bare,I.base,I.loc,I.cell,I.free,I.freeC,fun p hp=>I.pin p (by rw [List.append_nil]at hp;exact hp),I.hok,I.len⟩
 . cases fw with
   | next=>obtain ⟨σ',H',J,q⟩:=hs;exact zlD pins s1 σ' H' D (back J) q
   | brk=>obtain ⟨σ',H',J,q⟩:=hs;exact ⟨σ',H',back J,q⟩
   | cont=>obtain ⟨σ',H',J,q⟩:=hs;exact ⟨σ',H',back J,q⟩
   | ret u=>obtain ⟨v,σ',H',J,r,q⟩:=hs;exact ⟨v,σ',H',back J,r,q⟩
end
end L2
end
section
namespace L2
open PySem PySem.Spec PyProof.Rows
noncomputable def ztu (e:Addr):List V->Hp->VK->Prop:=fun xs H Q=>∃ (a:Addr) (bs:List Bool) (oe:Obj) (u:HO) (vs:Array Value),xs=[.ref a]∧H a=some (.lst (bs.map V.bl))∧H e=some (.frz oe u)∧oe.data = .fields vs∧vs[2]?=some .none∧Q (.bl (bs.any id)) H
noncomputable def thC (K:PySem.W.Frag) (i j:Nat) (c1 c2 c3 c4 c5 c6:Value) (s1 s2:Str) (a:Addr):TS :=
 ziq (zgh (zii (zkE K i c1 c2 c3)) (ze7 j)) (ziq (zgh (tOp zlp (zjM j) (zii (zeD (zc0 K i c4) (zeD (zlR (zc0 K i c5)) zf1)))) (ze7 j))
   (zlW (tIf (zlE (tB (zc0 K i c6)) (zms (tB (tCB (ztu a) (zeD (zjM j) zf1))))) (tC (.str s1)) (tC (.str s2)))))
theorem zsX {K:PySem.W.Frag}{i j:Nat}{c1 c2 c3 c4 c5 c6:Value}{s1 s2:Str}{b1 b2 b3 b4 b5 b6:Bool}{C a:Addr}{oe:Obj}{vs:Array Value}{σ:St}{H:Hp}{D:zcj} (hij:i≠j) (hi:i < σ.length) (hj:j < σ.length) (xf:XF K C)
   (k1:PySem.W.kitOne K (.ref C) c1=some b1) (k2:PySem.W.kitOne K (.ref C) c2=some b2) (k3:PySem.W.kitOne K (.ref C) c3=some b3) (k4:PySem.W.kitOne K (.ref C) c4=some b4) (k5:PySem.W.kitOne K (.ref C) c5=some b5) (k6:PySem.W.kitOne K (.ref C) c6=some b6)
   (ha:H a=none) (hc:oe.cls = .ref C) (hd:oe.data = .fields vs) (h6:Six vs) (q:∀ H',(∀ b o,H b=some o->H' b=some o)->D.rt (.str (if b6 && !(b1 || b2 || b3 || b4 || !b5) then s1 else s2)) H') :
   thC K i j c1 c2 c3 c4 c5 c6 s1 s2 a D (σ.set i (some (.ref a))) (upd H a (.frz oe (.own a))):=by
 have e0:(σ.set i (some (V.ref a)))[i]?=some (some (.ref a)):=by rw [List.getElem?_set_self hi]
 unfold thC ziq zgh zii
 refine is3 e0 zbc hc xf k1 k2 k3 ⟨show 3<=sizeLine by decide,fun p hp=>?_⟩
 have hpa:a≠p:=fun z=>by rw [<- z,zbc]at hp;cases hp
 have hj':j < (σ.set i (some (V.ref a))).length:=by rw [List.length_set];exact hj
 dsimp only [ze7]
 have e1:((σ.set i (some (V.ref a))).set j (some (V.ref p)))[i]?=some (some (.ref a)):=by rw [List.getElem?_set_ne (Ne.symm hij)];exact e0
 have a1:upd (upd H a (.frz oe (.own a))) p (.lst [.bl b1,.bl b2,.bl b3]) a=some (.frz oe (.own a)):=by rw [zt hpa,zbc]
 refine ⟨.ref p,by rw [List.getElem?_set_self hj'],?_⟩
 refine ⟨a,oe,.own a,C,b4,e1,a1,hc,xf,k4,a,oe,.own a,C,b5,e1,a1,hc,xf,k5,b5,rfl,⟨show 2<=sizeLine by decide,fun p2 hp2=>?_⟩⟩
 have hpp:p≠p2:=fun z=>by rw [<- z,zbc]at hp2;cases hp2
 refine ⟨p,p2,[.bl b1,.bl b2,.bl b3],[.bl b4,.bl (!b5)],rfl,rfl,by rw [zt hpp,zbc],zbc,show 5<=sizeLine by decide,fun p3 hp3=>?_⟩
 generalize hH:upd (upd (upd (upd H a (.frz oe (.own a))) p (.lst [.bl b1,.bl b2,.bl b3])) p2 (.lst [.bl b4,.bl (!b5)])) p3 (.lst ([.bl b1,.bl b2,.bl b3]++[.bl b4,.bl (!b5)]))=H'
 have hx:∀ b o,H b=some o->H' b=some o:=fun b o e=>by rw [<- hH];exact zf8 hp3 (zf8 hp2 (zf8 hp (zf8 ha e)))
 have a3:H' a=some (.frz oe (.own a)):=by rw [<- hH];exact zf8 hp3 (zf8 hp2 a1)
 have l3:H' p3=some (.lst ([b1,b2,b3,b4,!b5].map V.bl)):=by rw [<- hH];exact zbc
 have hj2:j < ((σ.set i (some (V.ref a))).set j (some (V.ref p))).length:=by rw [List.length_set];exact hj'
 have e2:(((σ.set i (some (V.ref a))).set j (some (V.ref p))).set j (some (V.ref p3)))[i]?=some (some (.ref a)):=by rw [List.getElem?_set_ne (Ne.symm hij)];exact e1
 have e3:(((σ.set i (some (V.ref a))).set j (some (V.ref p))).set j (some (V.ref p3)))[j]?=some (some (.ref p3)):=by rw [List.getElem?_set_self hj2]
 have q':=q H' hx
 show tIf _ _ _ _ H' D.rt
 refine ⟨a,oe,.own a,C,b6,e2,a3,hc,xf,k6,b6,rfl,?_⟩
 cases b6 with
 | false =>
   show D.rt (.str s2) H'
   simpa using q'
 | true =>
   dsimp only
   rw [if_pos rfl]
   refine ⟨.ref p3,e3,p3,[b1,b2,b3,b4,!b5],oe,.own a,vs,rfl,l3,a3,hd,h6.2,_,rfl,?_⟩
   have ea:([b1,b2,b3,b4,!b5]:List Bool).any id=(b1 || b2 || b3 || b4 || !b5):=by simp [Bool.or_assoc]
   rw [ea]
   cases hz:(b1 || b2 || b3 || b4 || !b5) with
   | true=>rw [hz]at q';show D.rt (.str s2) H';simpa using q'
   | false=>rw [hz]at q';show D.rt (.str s1) H';simpa using q'
section
variable {X:Cx}
theorem zsi {i j:Nat}{y:Str}{p1 p2 p3 p4 p5 p6 p7 p8 p9:Pos}{e1 e2 e3 e4 e5 e6:Expr}{c1 c2 c3 c4 c5 c6:Value}{s1 s2:Str}{j1 j2:Nat}{a:Addr}{q1 q2 q3 q4 q5 q6 q7 q8 q9:Pos} (hh:X.A.handled=some (.ref a)) (hN:X.N.Nodup) (hj:X.N[j]?=some y) (hy:X.env.scope.names.lookup y=some .local) (hdy:(y == ("__debug__":Str))=false) (hcy:(y == ("__classdict__":Str))=false)
   (h1:PE X e1 (zc0 X.K i c1)) (h2:PE X e2 (zc0 X.K i c2)) (h3:PE X e3 (zc0 X.K i c3)) (h4:PE X e4 (zc0 X.K i c4)) (h5:PE X e5 (zc0 X.K i c5)) (h6:PE X e6 (zc0 X.K i c6))
   (st:∀ es,starEach (e1 :: es) X.env=(false,eval e1 X.env) :: starEach es X.env) (st2:∀ es,starEach (e2 :: es) X.env=(false,eval e2 X.env) :: starEach es X.env) (st3:∀ es,starEach (e3 :: es) X.env=(false,eval e3 X.env) :: starEach es X.env) (st4:∀ es,starEach (e4 :: es) X.env=(false,eval e4 X.env) :: starEach es X.env)
   (ht6:∀ whole,isTrue e6 X.env whole=(do let v <- whole;standAt e6.pos;holding [v] (truthy v))) (hga:Gl X "any") (hma:X.mg "any" = none)
   (w1:swapsWith (.List [e1,e2,e3] q1) (some (.Name y p1)) p2.line X.env=pure false) (w2:swapsWith (.BinOp (.Name y q2) .Add (.List [e4,.UnaryOp .Not e5 q3] q4) q5) (some (.Name y p3)) p4.line X.env=pure false)
   (hfn:X.fn y=true∨X.env.scope.names.lookup y=some .local) :
   PSs X [.Assign [.Name y p1] (.List [e1,e2,e3] q1) p2,.Assign [.Name y p3] (.BinOp (.Name y q2) .Add (.List [e4,.UnaryOp .Not e5 q3] q4) q5) p4,
     .Return (some (.IfExp (.BoolOp .And [e6,.UnaryOp .Not (.Call (.Name "any" q6) [.Name y q7] [] q8) q9] p5) (.Constant (.str s1) j1 p6) (.Constant (.str s2) j2 p7) p8)) p9] (thC X.K i j c1 c2 c3 c4 c5 c6 s1 s2 a) :=
 zji (zjA (i:=j) hN hj (.inl hy) (zjs (zbC h1 (zbC h2 (zbC h3 zce (st3 [])) (st2 _)) (st _))) w1 hfn)
   (zji (zjA (i:=j) hN hj (.inl hy) (zhJ zl0 (ziw hj (.inl hy) hdy hcy) (zjs (zbC h4 (zbC (zml h5) zce rfl) (st4 _)))) w2 hfn)
     (zl4 (zln (zks (PW.pt (zkq (zmp h6 ht6) (zlo (zkN (zmp (zdJ (zpJ hh) hga hma ϰ (zbC (ziw hj (.inl hy) hdy hcy) zce rfl) ϑ ϑ rfl rfl) (fun _=>rfl)))))) zir zir))))
end
end L2
end
section
namespace L2
open PySem
theorem XBd.kc {K:PySem.W.Frag}{x:Str}{C CW:Addr}{c1 c2 c3 c4 c5 c6:Value}{b1 b2 b3 b4 b5 b6:Bool}{i j n:Nat}{s1 s2 s:Str} (b:XBd K x C CW [c1,c2,c3,c4,c5,c6] [b1,b2,b3,b4,b5,b6]) (hij:i≠j) (hi:i < n) (hj:j < n) (hs:s=if b6 && !(b1 || b2 || b3 || b4 || !b5) then s1 else s2) :
   XF K C∧PySem.W.exmOne K (.ref C) (.ref CW)=some true∧∀ (a:Addr) (oe:Obj) (vs:Array Value) (σ:St) (H:Hp) (D:zcj),H a=none->oe.cls = .ref C->oe.data = .fields vs->Six vs->σ.length=n ->
     (∀ H',(∀ b o,H b=some o->H' b=some o)->D.rt (.str s) H')->thC K i j c1 c2 c3 c4 c5 c6 s1 s2 a D (σ.set i (some (.ref a))) (upd H a (.frz oe (.own a))):=by
 obtain ⟨xf,ex,_⟩:=b.all
 obtain ⟨k1,k2,k3,k4,k5,k6,_⟩:=b.ki
 refine ⟨xf,ex,fun a oe vs σ H D ha hc hd h6 hl q=>?_⟩
 subst hs
 exact zsX hij ω ω xf k1 k2 k3 k4 k5 k6 ha hc hd h6 q
end L2
end
section
namespace L2
open PySem PySem.Spec PyProof.Rows
theorem zsy (its:List Value):slicePick its.toArray none none (some (-1))=its.reverse.toArray:=by
 unfold slicePick
 have hb:sliceBounds none none (some (-1)) its.toArray.size=((its.length:Int) - 1,-1,-1):=by simp [sliceBounds]
 rw [hb]
 congr 1
 apply List.ext_getElem?
 intro k
 have hr:sliceRange ((its.length:Int) - 1) (-1) (-1)=(List.range its.length).map fun k=>its.length - 1 - k:=by
   unfold sliceRange
   have hc:(if (-1:Int) > 0 then (if (its.length:Int) - 1 < -1 then ((-1) - ((its.length:Int) - 1)+(-1) - 1) / (-1) else 0) else (if (its.length:Int) - 1 > -1 then ((its.length:Int) - 1 - (-1) - (-1) - 1) / (-(-1)) else 0):Int)=(its.length:Int):=by
     rw [if_neg ϑ]
     by_cases h:(its.length:Int) - 1 > -1
     . rw [if_pos h];simp
     . rw [if_neg h];omega
   rw [hc];dsimp only;rw [Int.toNat_natCast]
   apply List.map_congr_left
   intro m hm
   rw [List.mem_range]at hm
   omega
 rw [hr]
 have hf:(((List.range its.length).map fun k=>its.length - 1 - k).filterMap fun i=>its.toArray[i]?)=its.reverse:=by
   rw [List.filterMap_map]
   have:∀ (n:Nat),n<=its.length->((List.range n).filterMap ((fun i=>its.toArray[i]?) ∘ fun k=>its.length - 1 - k))=its.reverse.take n:=by
     intro n
     induction n with
     | zero=>intro _;rfl
     | succ n ih =>
       intro h
       rw [List.range_succ,List.filterMap_append,ih ω]
       have hl:its.length - 1 - n < its.length:=by omega
       have e:its.toArray[its.length - 1 - n]?=some its[its.length - 1 - n]:=by simp [hl]
       have e2:its.reverse[n]?=some its[its.length - 1 - n]:=by rw [List.getElem?_reverse ω];simp [hl]
       rw [List.filterMap_cons,Function.comp,e,List.filterMap_nil,List.take_add_one,e2];rfl
   rw [this _ (Nat.le_refl _),<- List.length_reverse,List.take_length]
 rw [hf]
section
variable {X:Cx}{e st:Expr}{te:TE}{ts:TO}{pos p2:Pos}
noncomputable def ztz (K:PySem.W.Frag) (te:TE) (ts:TO):TE:=fun σ H Q=>te σ H fun x H1=>ts σ H1 fun k H2=>k=some (-1)∧∃ a xs,x = .ref a∧SqL K H2 a xs∧∀ p,H2 p=none->Q (.ref p) (upd H2 p (.lst xs.reverse))
theorem zp1 (he:PE X e te) (hst:PO X (some st) ts):PE X (.Subscript e (.Slice none none (some st) p2) pos) (ztz X.K te ts):=by
 intro pins s σ H Q I h
 refine Subscript_ (thn (he pins s σ H _ I h) fun v s1 ⟨x,H1,I1,r1,q1⟩=>?_)
 refine wpAny_Slice ?_
 rw [evalPart_none]
 refine wpAny_pure (wpAny_pure ?_)
 refine thn (hst pins s1 σ H1 _ I1 q1) fun vs s4 ⟨k,H4,I4,ps,q4⟩=>?_
 obtain ⟨rfl,a,xs,rfl,hx,q⟩:=q4
 obtain ⟨t2,rfl⟩:∃ t,vs = .int (-1) t:=by cases ps;exact ⟨_,rfl⟩
 cases r1
 have I5:Inv X pins σ H4 { s4 with heap:=s4.heap.push { cls := .type "slice",data := .fields #[.none,.none,.int (-1) t2] } }:=I4.kept (t':=s4.toks) fun b ob q=>Heap.get?_push_of_some _ q
 show wpAny (model X.prog X.w) X.A (subscriptTail e (.Slice none none (some st) p2) (.ref a) (.ref s4.heap.objs.size)) (EP X pins σ Q) X.xe { s4 with heap:=s4.heap.push { cls := .type "slice",data := .fields #[.none,.none,.int (-1) t2] } }
 obtain ⟨its,r,ht,hz⟩:=I5.list hx
 have hlen:=r.length
 refine tail_any (ops:=[.ref a,.ref s4.heap.objs.size]) ht.isList.typeIs slot_list_getitem.lookup ?_ (by with_unfolding_all rfl)
 refine wpAny_getItem_list_slice ht.isList (Heap.IsSliceOf.new ..) .none .none (.int (-1) t2) ς ?_ (by rw [List.size_toArray] <;> omega)
 rw [zsy]
 refine ⟨.ref _,_,I5.laid (t':=s4.toks) (o := .lst xs.reverse) (fun b ob q=>Heap.get?_push_of_some _ q) (Nat.le_refl _) ?_,rfl,q _ (I5.hok.fresh (Nat.le_refl _))⟩
 exact ⟨by rw [List.length_reverse];exact hz,_,0,r.reverse,Heap.get?_push_size _ rfl⟩
end
end L2
end
section
namespace L2
open PySem PySem.Spec PyProof.Rows
section
variable {X:Cx}{pins:List (Addr×Obj)}{σ:St}{H:Hp}{s:Shared}{h':Heap}
theorem Inv.turnedL {t':Nat}{fp:List Addr} (I:Inv X pins σ H s) (hf:∀ b∈fp,zco X pins H b) (k:∀ b o,b∉fp->s.heap.get? b=some o->h'.get? b=some o):Inv X pins σ H { s with heap:=h',toks:=t' }:=by
 have nit:∀ b u,H b=some u->b∉fp:=fun b u e z=>by rw [(hf b z).1]at e;cases e
 refine I.step (g':=s.gens) (d':=s.drawn) (ch:=fp) (fun b hb=>?_) (fun b o _ _ hc e _=>k b o hc e) (fun b o _ _ hc e _=>⟨o.slots,k b o hc e⟩) (fun _ _ _ _ n=>n)
   (fun b o hc e=>⟨o,k b o hc e⟩) (fun _ _ e=>e) (fun _ _ _ e=>e) (fun b ps e=>⟨#[],by rw [e];simp⟩) (fun m hm=>?_) (fun b u e=>?_) I.bare
 . obtain ⟨f0,f1,f2,f3,f4,f5⟩:=hf b hb
   exact ⟨f3,f1,f4,f5⟩
 . obtain ⟨o,es,ep,ho,r⟩:=hm
   exact ⟨o,es,ep,k _ o (fun z=>(hf _ z).2.1 rfl) ho,r⟩
 . refine (I.hok b u e).stay (fun c v hc q=>k c v ?_ q) (fun _ q=>q) fun _ _ q=>q
   rcases hc with z | z
   . rw [z];exact nit b u e
   . exact nit c _ z
theorem Inv.turnNew {t':Nat}{fp:List Addr}{T:Addr}{u:HO} (I:Inv X pins σ H s) (hf:∀ b∈fp,zco X pins H b) (k:∀ b o,b∉fp->s.heap.get? b=some o->h'.get? b=some o) (hT:s.heap.objs.size<=T)
   (new:z8 X.prog X.w (upd H T u) h' T u):Inv X pins σ (upd H T u) { s with heap:=h',toks:=t' }:=by
 have nit:∀ b u,H b=some u->b∉fp:=fun b u e z=>by rw [(hf b z).1]at e;cases e
 have hn:H T=none:=I.hok.fresh hT
 refine I.step (g':=s.gens) (d':=s.drawn) (ch:=fp) (fun b hb=>?_) (fun b o _ _ hc e _=>k b o hc e) (fun b o _ _ hc e _=>⟨o.slots,k b o hc e⟩) (fun b o _ e n=>by rw [zt (Nat.ne_of_lt (Nat.lt_of_lt_of_le (Heap.lt_size e) hT))];exact n)
   (fun b o hc e=>⟨o,k b o hc e⟩) (fun b xs e=>by rw [zt (zcN e hn)];exact e) (fun b o xs e=>by rw [zt (zcN e hn)];exact e) (fun b ps e=>⟨#[],by rw [zt (zcN e hn),e];simp⟩) (fun m hm=>?_) (fun b v e=>?_) I.bare
 . obtain ⟨f0,f1,f2,f3,f4,f5⟩:=hf b hb
   exact ⟨f3,f1,f4,f5⟩
 . obtain ⟨o,es,ep,ho,r⟩:=hm
   exact ⟨o,es,ep,k _ o (fun z=>(hf _ z).2.1 rfl) ho,r⟩
 . by_cases hb:b=T
   . subst hb;rw [zbc]at e;cases e;exact new
   . rw [zt hb]at e
     refine (I.hok b v e).stay (fun c v hc q=>k c v ?_ q) (fun c q=>by rw [zt (zcN q hn)];exact q) fun c xs q=>by rw [zt (zcN q hn)];exact q
     rcases hc with z | z
     . rw [z];exact nit b _ e
     . exact nit c _ z
end
noncomputable def Ite (K:PySem.W.Frag) (a:Addr):It :=
 ⟨fun i H=>∃ xs x,SqL K H a xs∧xs[i]?=some x,fun i H x H'=>∃ T v,x = .ref T∧H T=none∧H'=upd H T (.tup [.int i,v])∧∀ xs,SqL K H a xs->xs[i]?=some v,fun i H=>∃ xs,SqL K H a xs∧xs.length<=i⟩
theorem zsg {P:Program}{w:World}{K:PySem.W.Frag}{es:List Expr}{k:Nat}{tp:Pos} (a e it:Addr) (hei:e≠it) :
   zem P w K (.Tuple es k tp) (Ite K a) [e,it] e (fun i h=>(∃ old,IsEnum h e it i old)∧h.IsListIter it a i) where
 mem:=by simp
 obj:=fun i h ⟨⟨old,he⟩,hi⟩ b hb=>by
   rcases List.mem_cons.mp hb with rfl | hb
   . exact ⟨_,he,fun v z=>nomatch z⟩
   . have eb:b=it:=by simpa using hb
     subst eb
     obtain ⟨o,e,c,d⟩:=hi
     exact ⟨o,e,fun v z=>by rw [d]at z;cases z⟩
 keep:=fun i h h' ⟨⟨old,he⟩,hi⟩ kk=>⟨⟨old,kk e ς _ he⟩,hi.at fun o x=>kk it ς o x⟩
 item:=by
   intro X hP hw hK hc i pins s σ H E I hf ⟨⟨old,he⟩,hi⟩ ⟨xs,x,hq,hx⟩
   subst hP hw hK
   obtain ⟨its,rv,p,hz⟩:=I.list hq
   obtain ⟨u,hu,ru⟩:=rv.get hx
   refine wpAny_pyNext_enum_item he hi p.isList (x:=u) (by simpa using hu) hei fun h' ho hi' hT hsz hk=>⟨_,rfl,?_⟩
   refine wpAny_letOwnedTupleGo_enum ho fun h2 he2 hs2=>?_
   have hlt:e < s.heap.objs.size:=Heap.lt_size he
   have kk:∀ b o,b∉[e,it]->s.heap.get? b=some o->h2.get? b=some o:=fun b o hb eb=>(hs2.2 b (fun z=>hb (by simp [z]))).trans (hk b o (fun z=>hb (by simp [z])) (fun z=>hb (by simp [z])) eb)
   have hT2:h2.get? s.heap.objs.size=some { cls := .type "tuple",data := .seq #[.int i s.toks,u] }:=(hs2.2 _ (Nat.ne_of_gt hlt)).trans hT
   have I2:Inv X pins σ (upd H s.heap.objs.size (.tup [.int i,x])) { s with heap:=h2,toks:=s.toks+1 }:=I.turnNew hf kk (Nat.le_refl _) ⟨by show 2<=sizeLine;decide,[.int i s.toks,u],.cons ⟨_,rfl⟩ (.cons ru .nil),⟨_,hT2,rfl,_,rfl⟩⟩
   refine ⟨.ref s.heap.objs.size,_,I2,rfl,⟨s.heap.objs.size,x,rfl,I.hok.fresh (Nat.le_refl _),rfl,fun ys hy=>by rw [I.list_inj hy hq];exact hx⟩,⟨⟨_,by simpa using he2⟩,hi'.at fun o y=>(hs2.2 it hei.symm).trans y⟩,fun b hb=>?_⟩
   rw [zt]
   . exact (hf b hb).1
   . rcases List.mem_cons.mp hb with rfl | hb
     . exact Nat.ne_of_lt hlt
     . have eb:b=it:=by simpa using hb
       subst eb
       obtain ⟨_,y,_⟩:=hi
       exact Nat.ne_of_lt (Heap.lt_size y)
 done:=by
   intro X hP hw hK hc i pins s σ H E I hf ⟨⟨old,he⟩,hi⟩ ⟨xs,hq,hl⟩
   subst hP hw hK
   obtain ⟨its,rv,p,hz⟩:=I.list hq
   have hlen:=rv.length
   exact wpAny_pyNext_enum_end (I.ok.hd hc) he hi p.isList (Array.getElem?_eq_none (by simp;omega)) fun h' hx=>⟨rfl,I.turnedL (t':=s.toks) hf fun b o hb y=>hx b o (fun z=>hb (by simp [z])) y⟩
 self:=fun _ _ _ _ _ ⟨⟨old,he⟩,_⟩ h=>wpAny_pyIter_enum he h
noncomputable def zq4 (K:PySem.W.Frag) (tl:TE):TI:=fun σ H R=>tl σ H fun x H1=>∃ a,x = .ref a∧(∃ xs,SqL K H1 a xs)∧R (Ite K a) H1
section
variable {X:Cx}{es:List Expr}{k:Nat}{tp p pos:Pos}{l l2 o:Expr}{tl tl2 to:TE}
theorem zuU (hg:Gl X "enumerate") (hm:X.mg "enumerate" = none) (hl:PE X l tl) (hs:starEach [l] X.env=(false,eval l X.env) :: starEach [] X.env):PI X (.Tuple es k tp) (.Call (.Name "enumerate" p) [l] [] pos) (zq4 X.K tl):=by
 intro pins s σ H R I h
 have hb:bootBuiltins ("enumerate":Str)=some (.type "enumerate"):=by decide +kernel
 refine Call_ (zfh I hg hm hb (callWith_type1 (thn (zbC hl zce hs pos pins s σ H (fun vs H1=>∃ a,vs=[.ref a]∧(∃ xs,SqL X.K H1 a xs)∧R (Ite X.K a) H1) I ?_) fun us s1 ⟨vs,H1,I1,r1,q1⟩=>?_) hs rfl))
 . have mono:∀ {P Q:VK},(∀ v H,P v H->Q v H)->tl σ H P->tl σ H Q->True:=fun _ _ _=>trivial
   show tl σ H fun x H1=>∃ a,[x]=[V.ref a]∧_∧_
   have e:(fun (x:V) H1=>∃ a,x = .ref a∧(∃ xs,SqL X.K H1 a xs)∧R (Ite X.K a) H1)=(fun (x:V) H1=>∃ a,[x]=[V.ref a]∧(∃ xs,SqL X.K H1 a xs)∧R (Ite X.K a) H1):=by
     funext x H1;simp
   rw [<- e];exact h
 . obtain ⟨a,e,⟨xs,hq⟩,q⟩:=q1
   subst e
   obtain ⟨u,rfl,ru⟩:=zer r1
   cases ru
   obtain ⟨its,rv,pl,hz⟩:=I1.list hq
   refine call_enumerate_list pl.isList fun h' he hit hsz hk=>?_
   refine wpAny_pyIter_enum he ?_
   refine ⟨s1.heap.objs.size+1,[s1.heap.objs.size+1,s1.heap.objs.size],_,_,H1,rfl,I1.kept (t':=s1.toks) hk,zsg a _ _ (Nat.succ_ne_self _),⟨⟨_,he⟩,hit⟩,fun b hb=>?_,q⟩
   rcases List.mem_cons.mp hb with rfl | hb
   . exact I1.fpOk (Nat.le_succ _) (I1.hok.fresh (Nat.le_succ _))
   . have eb:b=s1.heap.objs.size:=by simpa using hb
     subst eb
     exact I1.fpOk (Nat.le_refl _) (I1.hok.fresh (Nat.le_refl _))
end
section
variable {X:Cx}{es:List Expr}{k:Nat}{tp p pos apos:Pos}{l l2 o:Expr}{tl tl2 to:TE}
noncomputable def zd5 (X:Cx) (a:Addr):Prop:=∀ o u,X.H₀ a≠some (.frz o u)
theorem Inv.freeze {pins:List (Addr×Obj)}{σ:St}{H:Hp}{s:Shared}{a:Addr}{kvs:List (Key×V)} (I:Inv X pins σ H s) (ha:H a=some (.dK kvs)):zd5 X a∧∃ o,s.heap.get? a=some o∧Inv X pins σ (upd H a (.frz o (.dK kvs))) s:=by
 have nf:zd5 X a:=fun o u z=>by have:=I.base.frzs a o u z;rw [ha]at this;cases this
 have x:=I.hok a _ ha
 obtain ⟨o,ho⟩:∃ o,s.heap.get? a=some o:=by obtain ⟨_,_,_,_,o,_,_,e,_⟩:=x;exact ⟨o,e⟩
 refine ⟨nf,o,ho,?_⟩
 have tp:∀ b xs,H b=some (.tup xs)->upd H a (.frz o (.dK kvs)) b=some (.tup xs):=fun b xs z=>by
   rw [zt]
   . exact z
   . intro q;subst q;rw [ha]at z;cases z
 have st:∀ {b u},H b=some u->z8 X.prog X.w (upd H a (.frz o (.dK kvs))) s.heap b u:=fun {b u} e=>(I.hok b u e).stay (fun _ _ _ q=>q) (fun c q=>by
   rw [zt]
   . exact q
   . intro z;subst z;rw [ha]at q;cases q) tp
 refine ⟨I.ok,I.os,I.bare,⟨I.base.keep,I.base.slot,fun b ob e n hx=>?_,I.base.there,fun b xs e=>tp b xs (I.base.tups b xs e),fun b ob u e=>?_,fun b ps e=>?_⟩,I.loc,I.cell,?_,fun x c e=>?_,fun q hq=>?_,fun b u e=>?_,I.len⟩
 . rw [zt]
   . exact I.base.free b ob e n hx
   . intro z;subst z;have:=I.base.free _ ob e n hx;rw [ha]at this;cases this
 . rw [zt]
   . exact I.base.frzs b ob u e
   . intro z;subst z;exact nf _ _ e
 . obtain ⟨m,e1⟩:=I.base.tbls b ps e
   refine ⟨m,?_⟩
   rw [zt]
   . exact e1
   . intro z;subst z;rw [ha]at e1;cases e1
 . rw [zt]
   . exact I.free
   . intro z;have:=I.free;rw [z,ha]at this;cases this
 . rw [zt]
   . exact I.freeC x c e
   . intro z;have:=I.freeC x c e;rw [z,ha]at this;cases this
 . obtain ⟨e,n,r⟩:=I.pin q hq
   refine ⟨e,?_,r⟩
   rw [zt]
   . exact n
   . intro z;rw [z,ha]at n;cases n
 . by_cases hb:b=a
   . subst hb
     rw [zbc]at e;cases e
     exact ⟨ho,st ha⟩
   . rw [zt hb]at e
     exact st e
theorem Inv.thaw {pins:List (Addr×Obj)}{σ:St}{H:Hp}{s:Shared}{a:Addr}{o:Obj}{kvs:List (Key×V)} (I:Inv X pins σ H s) (nf:zd5 X a) (ha:H a=some (.frz o (.dK kvs))):Inv X pins σ (upd H a (.dK kvs)) s:=by
 have tp:∀ b xs,H b=some (.tup xs)->upd H a (.dK kvs) b=some (.tup xs):=fun b xs z=>by
   rw [zt]
   . exact z
   . intro q;subst q;rw [ha]at z;cases z
 have st:∀ {b u},z8 X.prog X.w H s.heap b u->z8 X.prog X.w (upd H a (.dK kvs)) s.heap b u:=fun {b u} e=>e.stay (fun _ _ _ q=>q) (fun c q=>by
   rw [zt]
   . exact q
   . intro z;subst z;rw [ha]at q;cases q) tp
 refine ⟨I.ok,I.os,I.bare,⟨I.base.keep,I.base.slot,fun b ob e n hx=>?_,I.base.there,fun b xs e=>tp b xs (I.base.tups b xs e),fun b ob u e=>?_,fun b ps e=>?_⟩,I.loc,I.cell,?_,fun x c e=>?_,fun q hq=>?_,fun b u e=>?_,I.len⟩
 . rw [zt]
   . exact I.base.free b ob e n hx
   . intro z;subst z;have:=I.base.free _ ob e n hx;rw [ha]at this;cases this
 . rw [zt]
   . exact I.base.frzs b ob u e
   . intro z;subst z;exact nf _ _ e
 . obtain ⟨m,e1⟩:=I.base.tbls b ps e
   refine ⟨m,?_⟩
   rw [zt]
   . exact e1
   . intro z;subst z;rw [ha]at e1;cases e1
 . rw [zt]
   . exact I.free
   . intro z;have:=I.free;rw [z,ha]at this;cases this
 . rw [zt]
   . exact I.freeC x c e
   . intro z;have:=I.freeC x c e;rw [z,ha]at this;cases this
 . obtain ⟨e,n,r⟩:=I.pin q hq
   refine ⟨e,?_,r⟩
   rw [zt]
   . exact n
   . intro z;rw [z,ha]at n;cases n
 . by_cases hb:b=a
   . subst hb
     rw [zbc]at e;cases e
     obtain ⟨_,q⟩:=(show z8 X.prog X.w H s.heap b (.frz o (.dK kvs)) from I.hok b _ ha)
     exact st q
   . rw [zt hb]at e
     exact st (I.hok b u e)
noncomputable def zcL (X:Cx) (R:Hp->Prop) (H':Hp):Prop:=∃ a o kvs,H' a=some (.frz o (.dK kvs))∧zd5 X a∧R (upd H' a (.dK kvs))
theorem zt2 {e:Expr}{t:TE} (h:PE X e t):PE X e (fun σ H Q=>t σ H fun v H'=>zcL X (Q v) H'):=fun pins s σ H Q I hw=>by
 refine thn (h pins s σ H _ I hw) fun v s1 ⟨x,H1,I1,r,a,o,kvs,ha,nf,q⟩=>⟨x,_,I1.thaw nf ha,r,q⟩
theorem zqP {st:Stmt}{t:TS} (h:PS X st t):PS X st (fun D σ H=>t { nx:=fun σ' H'=>zcL X (D.nx σ') H',rt:=fun v H'=>zcL X (D.rt v) H',bk:=fun σ' H'=>zcL X (D.bk σ') H',ct:=fun σ' H'=>zcL X (D.ct σ') H' } σ H):=fun pins s σ H D I hw=>by
 refine thn (h pins s σ H _ I hw) fun f s1 q=>?_
 cases f with
 | next=>obtain ⟨σ',H',I',a,o,kvs,ha,nf,q⟩:=q;exact ⟨σ',_,I'.thaw nf ha,q⟩
 | brk=>obtain ⟨σ',H',I',a,o,kvs,ha,nf,q⟩:=q;exact ⟨σ',_,I'.thaw nf ha,q⟩
 | cont=>obtain ⟨σ',H',I',a,o,kvs,ha,nf,q⟩:=q;exact ⟨σ',_,I'.thaw nf ha,q⟩
 | ret u=>obtain ⟨v,σ',H',I',r,a,o,kvs,ha,nf,q⟩:=q;exact ⟨v,σ',_,I'.thaw nf ha,r,q⟩
noncomputable def Iti (o:Obj) (a:Addr) (kvs:List (Key×V)):It :=
 ⟨fun i H=>H a=some (.frz o (.dK kvs))∧i < kvs.length,fun i H x H'=>∃ T kk v,kvs[i]?=some (kk,v)∧x = .ref T∧H T=none∧H'=upd H T (.tup [kV kk,v]),fun i H=>H a=some (.frz o (.dK kvs))∧kvs.length<=i⟩
noncomputable def Itv (o:Obj) (a:Addr) (kvs:List (Key×V)):It :=
 ⟨fun i H=>H a=some (.frz o (.dK kvs))∧i < kvs.length,fun i H x H'=>H'=H∧∃ kk,kvs[i]?=some (kk,x),fun i H=>H a=some (.frz o (.dK kvs))∧kvs.length<=i⟩
theorem KV.get {κ:Type}:∀ {kvs:List (κ×V)}{vs:List (κ×Value)}{i:Nat}{kk:κ}{v:V},KV kvs vs->kvs[i]?=some (kk,v)->∃ u,vs[i]?=some (kk,u)∧zo v u:=by
 intro kvs vs i kk v r
 unfold KV at r
 induction r generalizing i with
 | nil=>intro e;simp at e
 | @cons p q ps qs h t ih =>
   intro e
   cases i with
   | zero =>
     simp at e;subst e
     obtain ⟨h1,h2⟩:=h
     obtain ⟨q1,q2⟩:=q
     have h1':kk=q1:=h1
     subst h1'
     exact ⟨q2,rfl,h2⟩
   | succ i=>exact ih (by simpa using e)
theorem zsx {P:Program}{w:World}{kk:Key}{u:Value} (h:(zby P w).is kk u=true):zo (kV kk) u:=by
 rcases zdI (k:=kk) (v:=u) h with ⟨i,t,rfl,rfl⟩ | ⟨x,t,rfl,rfl⟩
 . exact ⟨t,rfl⟩
 . exact ⟨t,rfl⟩
theorem zjo {pins:List (Addr×Obj)}{σ:St}{H:Hp}{s:Shared}{a:Addr}{ob:Obj}{kvs:List (Key×V)} (I:Inv X pins σ H s) (ha:H a=some (.frz ob (.dK kvs))) :
   s.heap.get? a=some ob∧∃ vs,KV kvs vs∧∃ ep,s.heap.DictAt (zby X.prog X.w) a vs ep:=by
 obtain ⟨e,_,_,vs,r,dd⟩:=(show z8 X.prog X.w H s.heap a (.frz ob (.dK kvs)) from I.hok a _ ha)
 exact ⟨e,vs,r,dd.dictAt⟩
theorem zuc {P:Program}{w:World}{h h':Heap}{a:Addr}{ob:Obj}{vs vs':List (Key×Value)}{ep ep':Nat} (e:h.get? a=some ob) (e':h'.get? a=some ob) (d:h.DictAt (zby P w) a vs ep) (d':h'.DictAt (zby P w) a vs' ep'):ep=ep':=by
 obtain ⟨o,es,h1,h2,h3,_⟩:=d
 obtain ⟨o',es',h1',h2',h3',_⟩:=d'
 rw [e]at h1;cases h1
 rw [e']at h1';cases h1'
 rw [h3]at h3'
 injection h3'
theorem zsj {P:Program}{w:World}{K:PySem.W.Frag}{es:List Expr}{k:Nat}{tp:Pos} (ob:Obj) (a it:Addr) (kvs:List (Key×V)) (ep:Nat) (hep:∀ (X:Cx) pins σ H s,X.prog=P->X.w=w->Inv X pins σ H s->H a=some (.frz ob (.dK kvs))->∃ vs,KV kvs vs∧s.heap.DictAt (zby X.prog X.w) a vs ep) :
   zem P w K (.Tuple es k tp) (Iti ob a kvs) [it] it (fun i h=>∃ ok ov,IsItemIter h it a i kvs.length ep ok ov) where
 mem:=by simp
 obj:=fun i h ⟨ok,ov,st⟩ b hb=>by
   have e:b=it:=by simpa using hb
   subst e
   exact ⟨_,st,fun v z=>nomatch z⟩
 keep:=fun i h h' ⟨ok,ov,st⟩ kk=>⟨ok,ov,kk it ς _ st⟩
 item:=by
   intro X hP hw hK hc i pins s σ H E I hf ⟨ok,ov,st⟩ ⟨ha,hi⟩
   obtain ⟨vs,r,dat⟩:=hep X pins σ H s hP hw I ha
   subst hP hw hK
   obtain ⟨⟨kk,v⟩,hx⟩:∃ p,kvs[i]?=some p:=⟨kvs[i],by simp [hi]⟩
   obtain ⟨u,hu,ru⟩:=r.get hx
   rw [r.length]at st
   refine wpAny_pyNext_items_item st dat hu fun key h' hkey ho hT hsz hk=>⟨_,rfl,?_⟩
   refine wpAny_letOwnedTupleGo_items ho fun h2 he2 hs2=>?_
   have hlt:it < s.heap.objs.size:=Heap.lt_size st
   have kk2:∀ b o,b∉[it]->s.heap.get? b=some o->h2.get? b=some o:=fun b o hb eb=>(hs2.2 b (fun z=>hb (by simp [z]))).trans (hk b o (fun z=>hb (by simp [z])) eb)
   have hT2:h2.get? s.heap.objs.size=some { cls := .type "tuple",data := .seq #[key,u] }:=(hs2.2 _ (Nat.ne_of_gt hlt)).trans hT
   have I2:Inv X pins σ (upd H s.heap.objs.size (.tup [kV kk,v])) { s with heap:=h2,toks:=s.toks }:=I.turnNew hf kk2 (Nat.le_refl _) ⟨by show 2<=sizeLine;decide,[key,u],.cons (zsx hkey) (.cons ru .nil),⟨_,hT2,rfl,_,rfl⟩⟩
   refine ⟨.ref s.heap.objs.size,_,I2,rfl,⟨s.heap.objs.size,kk,v,hx,rfl,I.hok.fresh (Nat.le_refl _),rfl⟩,⟨_,_,by rw [r.length];exact he2⟩,fun b hb=>?_⟩
   have eb:b=it:=by simpa using hb
   subst eb
   rw [zt (Nat.ne_of_lt hlt)]
   exact (hf b hb).1
 done:=by
   intro X hP hw hK hc i pins s σ H E I hf ⟨ok,ov,st⟩ ⟨ha,hi⟩
   obtain ⟨vs,r,dat⟩:=hep X pins σ H s hP hw I ha
   subst hP hw hK
   rw [r.length]at st hi
   exact wpAny_pyNext_items_end (I.ok.hd hc) st dat (List.getElem?_eq_none hi) fun h' hx=>⟨rfl,I.turnedL (t':=s.toks) hf fun b o hb y=>hx b o (fun z=>hb (by simp [z])) y⟩
 self:=fun _ _ _ _ _ ⟨ok,ov,st⟩ h=>PySem.W.kcp_self st h
theorem ztk {P:Program}{w:World}{K:PySem.W.Frag}{tg:Expr} (ob:Obj) (a it:Addr) (kvs:List (Key×V)) (ep:Nat) (hep:∀ (X:Cx) pins σ H s,X.prog=P->X.w=w->Inv X pins σ H s->H a=some (.frz ob (.dK kvs))->∃ vs,KV kvs vs∧s.heap.DictAt (zby X.prog X.w) a vs ep) :
   zem P w K tg (Itv ob a kvs) [it] it (fun i h=>h.IsValIter it a i kvs.length ep) where
 mem:=by simp
 obj:=fun i h st b hb=>by
   have e:b=it:=by simpa using hb
   subst e
   obtain ⟨o,e,c,d⟩:=st
   exact ⟨o,e,fun v z=>by rw [d]at z;cases z⟩
 keep:=fun i h h' st kk=>st.at fun o e=>kk it ς o e
 item:=by
   intro X hP hw hK hc i pins s σ H E I hf st ⟨ha,hi⟩
   obtain ⟨vs,r,dat⟩:=hep X pins σ H s hP hw I ha
   subst hP hw hK
   obtain ⟨⟨kk,v⟩,hx⟩:∃ p,kvs[i]?=some p:=⟨kvs[i],by simp [hi]⟩
   obtain ⟨u,hu,ru⟩:=r.get hx
   rw [r.length]at st
   refine wpAny_pyNext_values_item st dat hu fun h' st' sb=>?_
   have I1:Inv X pins σ H { s with heap:=h' }:=I.turnedL (t':=s.toks) hf fun b o hb e=>(sb.2 b (fun z=>hb (by simp [z]))).trans e
   obtain ⟨o,e,c,d⟩:=id st'
   exact ⟨u,rfl,zjj (s:={ s with heap:=h' }) e c d ϑ ⟨v,H,I1,ru,⟨rfl,kk,hx⟩,by rw [r.length];exact st',fun b hb=>(hf b hb).1⟩⟩
 done:=by
   intro X hP hw hK hc i pins s σ H E I hf st ⟨ha,hi⟩
   obtain ⟨vs,r,dat⟩:=hep X pins σ H s hP hw I ha
   subst hP hw hK
   rw [r.length]at st hi
   exact wpAny_pyNext_values_end (I.ok.hd hc) st dat (List.getElem?_eq_none hi) fun h' hx=>⟨rfl,I.turnedL (t':=s.toks) hf fun b o hb y=>hx b o (fun z=>hb (by simp [z])) y⟩
 self:=fun _ _ _ _ _ st h=>wpAny_pyIter_valiter st h
theorem zkA {s:Shared}{a:Addr}{ob:Obj}{kvs:List (Key×V)}{vs:List (Key×Value)}{ep:Nat} (e:s.heap.get? a=some ob) (d:s.heap.DictAt (zby X.prog X.w) a vs ep) :
   ∀ (Y:Cx) pins σ H s',Y.prog=X.prog->Y.w=X.w->Inv Y pins σ H s'->H a=some (.frz ob (.dK kvs))->∃ vs,KV kvs vs∧s'.heap.DictAt (zby Y.prog Y.w) a vs ep:=fun Y pins σ H s' hP hw I ha=>by
 obtain ⟨e',vs',r,ep',d'⟩:=zjo I ha
 have d2:s'.heap.DictAt (zby X.prog X.w) a vs' ep':=by rw [<- hP,<- hw];exact d'
 have:=zuc e e' d d2
 subst this
 exact ⟨vs',r,d'⟩
noncomputable def zq6 (X:Cx) (to:TE):TI:=fun σ H R=>to σ H fun x H1=>∃ a kvs,x = .ref a∧H1 a=some (.dK kvs)∧∀ ob,zd5 X a->R (Iti ob a kvs) (upd H1 a (.frz ob (.dK kvs)))
noncomputable def zqk (X:Cx) (to:TE):TI:=fun σ H R=>to σ H fun x H1=>∃ a kvs,x = .ref a∧H1 a=some (.dK kvs)∧∀ ob,zd5 X a->R (Itv ob a kvs) (upd H1 a (.frz ob (.dK kvs)))
theorem zsU {cpos:Pos} (ho:PE X o to) (hbase:attributeBase o "items" X.env (eval o X.env)=eval o X.env:=by rfl) (hline:(apos.endLine == cpos.line)=true:=by rfl):PI X (.Tuple es k tp) (.Call (.Attribute o "items" apos) [] [] cpos) (zq6 X to):=by
 intro pins s σ H R I h
 refine wpAny_Call_method0_late hbase hline (thn (ho pins s σ H _ I h) fun v s1 ⟨x,H1,I1,r1,a,kvs,ex,ha,q⟩=>?_)
 subst ex
 cases r1
 obtain ⟨nf,ob,eob,I2⟩:=I1.freeze ha
 obtain ⟨_,vs,rv,ep,dat⟩:=zjo I2 zbc
 obtain ⟨h1,h2⟩:=zhN (T :="dict") (x := .ref a) (v := .ref a) I1 rfl (.inr (.inr (.inl ⟨rfl,.inl ⟨kvs,ha⟩⟩)))
 obtain ⟨_,hd,_⟩:=(show z8 X.prog X.w H1 s1.heap a (.dK kvs) from I1.hok a _ ha)
 refine ⟨"dict", "dict.items",F.plainAttrs_dict,F.slot_dict_items,F.type_dict_items,h1,h2,Calls.callWith_builtin rfl (PySem.evalArgs_none ?_)⟩
 refine call_meetsIn F.slot_dict_items dat.dictOf.typeIs F.entry_dict_items (F.args_dict_items_1 _) (meets_dict_items (zby X.prog X.w) a hd) ⟨⟨vs,dat.dictOf⟩,?_⟩
 refine wpAny_pyIter_items (d:=a) ⟨_,Heap.get?_push_size _ rfl,rfl,rfl⟩ (dat.push _) ?_
 have I3:Inv X pins σ (upd H1 a (.frz ob (.dK kvs))) { s1 with heap:=s1.heap.push { cls := .type "dict_items",data := .fields #[.ref a] } }:=I2.kept (t':=s1.toks) fun b o e=>Heap.get?_push_of_some _ e
 refine ⟨_,[_],_,_,_,rfl,I3.kept (t':=s1.toks) fun b o e=>Heap.get?_push_of_some _ e,zsj ob a _ kvs ep (zkA eob dat),⟨.none,.none,?_⟩,fun b hb=>?_,q ob nf⟩
 . rw [rv.length];exact Heap.get?_push_size _ rfl
 . have eb:=List.mem_singleton.mp hb
   subst eb
   exact I3.fpOk (Nat.le_refl _) (I3.hok.fresh (Nat.le_refl _))
theorem ztB {tg:Expr}{cpos:Pos} (ho:PE X o to) (hbase:attributeBase o "values" X.env (eval o X.env)=eval o X.env:=by rfl) (hline:(apos.endLine == cpos.line)=true:=by rfl):PI X tg (.Call (.Attribute o "values" apos) [] [] cpos) (zqk X to):=by
 intro pins s σ H R I h
 refine wpAny_Call_method0_late hbase hline (thn (ho pins s σ H _ I h) fun v s1 ⟨x,H1,I1,r1,a,kvs,ex,ha,q⟩=>?_)
 subst ex
 cases r1
 obtain ⟨nf,ob,eob,I2⟩:=I1.freeze ha
 obtain ⟨_,vs,rv,ep,dat⟩:=zjo I2 zbc
 obtain ⟨h1,h2⟩:=zhN (T :="dict") (x := .ref a) (v := .ref a) I1 rfl (.inr (.inr (.inl ⟨rfl,.inl ⟨kvs,ha⟩⟩)))
 obtain ⟨_,hd,_⟩:=(show z8 X.prog X.w H1 s1.heap a (.dK kvs) from I1.hok a _ ha)
 refine ⟨"dict", "dict.values",F.plainAttrs_dict,F.slot_dict_values,F.type_dict_values,h1,h2,Calls.callWith_builtin rfl (PySem.evalArgs_none ?_)⟩
 refine call_meetsIn F.slot_dict_values dat.dictOf.typeIs F.entry_dict_values (F.args_dict_values_1 _) (meets_dict_values (zby X.prog X.w) a hd) ⟨⟨vs,dat.dictOf⟩,?_⟩
 refine wpAny_pyIter_values (d:=a) ⟨_,Heap.get?_push_size _ rfl,rfl,rfl⟩ (dat.push _) ?_
 have I3:Inv X pins σ (upd H1 a (.frz ob (.dK kvs))) { s1 with heap:=s1.heap.push { cls := .type "dict_values",data := .fields #[.ref a] } }:=I2.kept (t':=s1.toks) fun b o e=>Heap.get?_push_of_some _ e
 refine ⟨_,[_],_,_,_,rfl,I3.kept (t':=s1.toks) fun b o e=>Heap.get?_push_of_some _ e,ztk ob a _ kvs ep (zkA eob dat),⟨_,Heap.get?_push_size _ rfl,rfl,by rw [rv.length];rfl⟩,fun b hb=>?_,q ob nf⟩
 have eb:=List.mem_singleton.mp hb
 subst eb
 exact I3.fpOk (Nat.le_refl _) (I3.hok.fresh (Nat.le_refl _))
end
end L2
end
section
namespace MI
open PySem PySem.Spec L2
structure GP where
 K:PySem.W.Frag
 cm:List Addr
 an:List Str
structure GP.Ok (G:GP) (sub att:Nat->Nat->Bool):Prop where
 cls:∀ (c:Nat) C,G.cm[c]?=some C->Cls G.K C∧zmz G.K C
 noat:∀ (c:Nat) C (k:Nat) f,G.cm[c]?=some C->att c k=true->G.an[k]?=some f->zcB G.K C f
 nd:G.an.Nodup
 isa:∀ (c c':Nat) C C',G.cm[c]?=some C->G.cm[c']?=some C'->Isa G.K C C' (sub c c')
mutual
noncomputable def RD (ρ:List Addr) (H:Hp):D->V->Prop
 | .non,v=>v = .non
 | .bl b,v=>v = .bl b
 | .int i,v=>v = .int i
 | .str x,v=>v = .str x
 | .tup ds,v=>∃ a vs,v = .ref a∧H a=some (.tup vs)∧RDs ρ H ds vs
 | .obj n,v=>∃ a,v = .ref a∧ρ[n]?=some a
noncomputable def RDs (ρ:List Addr) (H:Hp):List D->List V->Prop
 | [],vs=>vs=[]
 | d :: ds,vs=>∃ x r,vs=x :: r∧RD ρ H d x∧RDs ρ H ds r
end
structure Ext (F:Addr->Prop) (ρ ρ1:List Addr) (H H1:Hp):Prop where
 pre:∃ t,ρ1=ρ++t
 tup:∀ b xs,H b=some (.tup xs)->H1 b=some (.tup xs)
 frm:∀ b,F b->H1 b=H b
theorem Ext.refl {F:Addr->Prop}{ρ:List Addr}{H:Hp}:Ext F ρ ρ H H:=⟨⟨[],ς⟩,fun _ _ h=>h,fun _ _=>rfl⟩
theorem Ext.trans {F:Addr->Prop}{ρ ρ1 ρ2:List Addr}{H H1 H2:Hp} (a:Ext F ρ ρ1 H H1) (b:Ext F ρ1 ρ2 H1 H2):Ext F ρ ρ2 H H2:=by
 obtain ⟨t,rfl⟩:=a.pre
 obtain ⟨u,rfl⟩:=b.pre
 exact ⟨⟨t++u,ς⟩,fun c xs h=>b.tup c xs (a.tup c xs h),fun c hc=>(b.frm c hc).trans (a.frm c hc)⟩
theorem Ext.get {F:Addr->Prop}{ρ ρ1:List Addr}{H H1:Hp} (e:Ext F ρ ρ1 H H1) {n:Nat}{a:Addr} (h:ρ[n]?=some a):ρ1[n]?=some a:=by
 obtain ⟨t,rfl⟩:=e.pre
 rw [List.getElem?_append_left (List.getElem?_eq_some_iff.mp h).1];exact h
mutual
theorem RD.ext {F:Addr->Prop}{ρ ρ1:List Addr}{H H1:Hp} (e:Ext F ρ ρ1 H H1):∀ (d:D) (v:V),RD ρ H d v->RD ρ1 H1 d v
 | .non,v,h=>by unfold RD at h ⊢;exact h
 | .bl b,v,h=>by unfold RD at h ⊢;exact h
 | .int i,v,h=>by unfold RD at h ⊢;exact h
 | .str x,v,h=>by unfold RD at h ⊢;exact h
 | .tup ds,v,h=>by
   unfold RD at h ⊢
   obtain ⟨a,vs,h1,h2,h3⟩:=h
   exact ⟨a,vs,h1,e.tup _ _ h2,RDs.ext e ds vs h3⟩
 | .obj n,v,h=>by
   unfold RD at h ⊢
   obtain ⟨a,h1,h2⟩:=h
   exact ⟨a,h1,e.get h2⟩
theorem RDs.ext {F:Addr->Prop}{ρ ρ1:List Addr}{H H1:Hp} (e:Ext F ρ ρ1 H H1):∀ (ds:List D) (vs:List V),RDs ρ H ds vs->RDs ρ1 H1 ds vs
 | [],vs,h=>by unfold RDs at h ⊢;exact h
 | d :: ds,vs,h=>by
   unfold RDs at h ⊢
   obtain ⟨x,r,h1,h2,h3⟩:=h
   exact ⟨x,r,h1,RD.ext e d x h2,RDs.ext e ds r h3⟩
end
mutual
noncomputable def D.bd (n:Nat):D->Prop
 | .obj m=>m < n
 | .tup ds=>bds n ds
 | _=>True
noncomputable def bds (n:Nat):List D->Prop
 | []=>True
 | d :: r=>d.bd n∧bds n r
end
mutual
theorem RD.bd {ρ:List Addr}{H:Hp}:∀ (d:D) (v:V),RD ρ H d v->d.bd ρ.length
 | .non,v,h=>by simp [D.bd]
 | .bl b,v,h=>by simp [D.bd]
 | .int i,v,h=>by simp [D.bd]
 | .str x,v,h=>by simp [D.bd]
 | .tup ds,v,h=>by
   unfold RD at h;unfold D.bd
   obtain ⟨a,vs,h1,h2,h3⟩:=h
   exact RDs.bd ds vs h3
 | .obj n,v,h=>by
   unfold RD at h;unfold D.bd
   obtain ⟨a,h1,h2⟩:=h
   exact (List.getElem?_eq_some_iff.mp h2).1
theorem RDs.bd {ρ:List Addr}{H:Hp}:∀ (ds:List D) (vs:List V),RDs ρ H ds vs->bds ρ.length ds
 | [],vs,h=>by simp [bds]
 | d :: ds,vs,h=>by
   unfold RDs at h;unfold bds
   obtain ⟨x,r,h1,h2,h3⟩:=h
   exact ⟨RD.bd d x h2,RDs.bd ds r h3⟩
end
mutual
theorem D.nr_bd {n:Nat}:∀ (d:D),d.nr=true->d.bd n
 | .non,h=>by simp [D.bd]
 | .bl b,h=>by simp [D.bd]
 | .int i,h=>by simp [D.bd]
 | .str x,h=>by simp [D.bd]
 | .tup ds,h=>by unfold D.nr at h;unfold D.bd;exact zjg ds h
 | .obj n,h=>by simp [D.nr]at h
theorem zjg {n:Nat}:∀ (ds:List D),nrs ds=true->bds n ds
 | [],h=>by simp [bds]
 | d :: ds,h=>by
   unfold nrs at h;unfold bds
   rw [Bool.and_eq_true]at h
   exact ⟨D.nr_bd d h.1,zjg ds h.2⟩
end
mutual
theorem RD.cut {ρ ρ1:List Addr}{H:Hp}{n:Nat} (e:∀ m,m < n->ρ1[m]?=ρ[m]?):∀ (d:D) (v:V),d.bd n->RD ρ H d v->RD ρ1 H d v
 | .non,v,_,h=>by unfold RD at h ⊢;exact h
 | .bl b,v,_,h=>by unfold RD at h ⊢;exact h
 | .int i,v,_,h=>by unfold RD at h ⊢;exact h
 | .str x,v,_,h=>by unfold RD at h ⊢;exact h
 | .tup ds,v,b,h=>by
   unfold RD at h ⊢;unfold D.bd at b
   obtain ⟨a,vs,h1,h2,h3⟩:=h
   exact ⟨a,vs,h1,h2,RDs.cut e ds vs b h3⟩
 | .obj m,v,b,h=>by
   unfold RD at h ⊢;unfold D.bd at b
   obtain ⟨a,h1,h2⟩:=h
   exact ⟨a,h1,by rw [e m b];exact h2⟩
theorem RDs.cut {ρ ρ1:List Addr}{H:Hp}{n:Nat} (e:∀ m,m < n->ρ1[m]?=ρ[m]?):∀ (ds:List D) (vs:List V),bds n ds->RDs ρ H ds vs->RDs ρ1 H ds vs
 | [],vs,_,h=>by unfold RDs at h ⊢;exact h
 | d :: ds,vs,b,h=>by
   unfold RDs at h ⊢;unfold bds at b
   obtain ⟨x,r,h1,h2,h3⟩:=h
   exact ⟨x,r,h1,RD.cut e d x b.1 h2,RDs.cut e ds r b.2 h3⟩
end
section
variable {ρ:List Addr}{H:Hp}
theorem RDs.length:∀ {ds:List D}{vs:List V},RDs ρ H ds vs->ds.length=vs.length
 | [],vs,h=>by unfold RDs at h;subst h;rfl
 | d :: ds,vs,h=>by
   unfold RDs at h
   obtain ⟨x,r,h1,h2,h3⟩:=h
   subst h1;simp [RDs.length h3]
theorem RDs.get:∀ {ds:List D}{vs:List V}{i:Nat}{d:D},RDs ρ H ds vs->ds[i]?=some d->∃ v,vs[i]?=some v∧RD ρ H d v
 | [],vs,i,d,h,e=>by simp at e
 | x :: ds,vs,i,d,h,e=>by
   unfold RDs at h
   obtain ⟨y,r,h1,h2,h3⟩:=h
   subst h1
   cases i with
   | zero=>simp at e;subst e;exact ⟨y,rfl,h2⟩
   | succ i =>
     obtain ⟨v,e1,e2⟩:=RDs.get (i:=i) h3 (by simpa using e)
     exact ⟨v,by simpa using e1,e2⟩
theorem RDs.nil:RDs ρ H [] []:=by unfold RDs;rfl
theorem RDs.cons {d:D}{v:V}{ds:List D}{vs:List V} (h:RD ρ H d v) (hs:RDs ρ H ds vs):RDs ρ H (d :: ds) (v :: vs):=by
 unfold RDs;exact ⟨v,vs,rfl,h,hs⟩
theorem RDs.append {ds2:List D}{vs2:List V} (h:RDs ρ H ds2 vs2):∀ {ds:List D}{vs:List V},RDs ρ H ds vs->RDs ρ H (ds++ds2) (vs++vs2)
 | [],vs,hs=>by unfold RDs at hs;subst hs;exact h
 | d :: ds,vs,hs=>by
   unfold RDs at hs
   obtain ⟨y,r,h1,h2,h3⟩:=hs
   subst h1
   exact RDs.cons h2 (RDs.append h h3)
theorem RDs.snoc {d:D}{v:V}{ds:List D}{vs:List V} (hs:RDs ρ H ds vs) (h:RD ρ H d v):RDs ρ H (ds++[d]) (vs++[v]):=RDs.append (RDs.cons h RDs.nil) hs
theorem RDs.take:∀ (n:Nat) {ds:List D}{vs:List V},RDs ρ H ds vs->RDs ρ H (ds.take n) (vs.take n)
 | 0,_,_,h=>by simp;exact RDs.nil
 | n+1,[],vs,h=>by unfold RDs at h;subst h;simp;exact RDs.nil
 | n+1,d :: ds,vs,h=>by
   unfold RDs at h
   obtain ⟨y,r,h1,h2,h3⟩:=h
   subst h1
   exact RDs.cons h2 (RDs.take n h3)
theorem RDs.drop:∀ (n:Nat) {ds:List D}{vs:List V},RDs ρ H ds vs->RDs ρ H (ds.drop n) (vs.drop n)
 | 0,_,_,h=>h
 | n+1,[],vs,h=>by unfold RDs at h;subst h;simp;exact RDs.nil
 | n+1,d :: ds,vs,h=>by
   unfold RDs at h
   obtain ⟨y,r,h1,h2,h3⟩:=h
   subst h1
   exact RDs.drop n h3
theorem RDs.reverse:∀ {ds:List D}{vs:List V},RDs ρ H ds vs->RDs ρ H ds.reverse vs.reverse
 | [],vs,h=>by unfold RDs at h;subst h;simp;exact RDs.nil
 | d :: ds,vs,h=>by
   unfold RDs at h
   obtain ⟨y,r,h1,h2,h3⟩:=h
   subst h1
   rw [List.reverse_cons,List.reverse_cons]
   exact RDs.snoc (RDs.reverse h3) h2
theorem RDs.set {d:D}{v:V} (h:RD ρ H d v):∀ (i:Nat) {ds:List D}{vs:List V},RDs ρ H ds vs->RDs ρ H (ds.set i d) (vs.set i v)
 | _,[],vs,hs=>by unfold RDs at hs;subst hs;simp;exact RDs.nil
 | 0,x :: ds,vs,hs=>by
   unfold RDs at hs
   obtain ⟨y,r,h1,h2,h3⟩:=hs
   subst h1
   exact RDs.cons h h3
 | i+1,x :: ds,vs,hs=>by
   unfold RDs at hs
   obtain ⟨y,r,h1,h2,h3⟩:=hs
   subst h1
   exact RDs.cons h2 (RDs.set h i h3)
theorem RDs.rep {ds:List D}{vs:List V} (h:RDs ρ H ds vs):∀ k:Nat,RDs ρ H (List.replicate k ds).flatten (List.replicate k vs).flatten
 | 0=>by simp;exact RDs.nil
 | k+1=>by
   rw [List.replicate_succ,List.replicate_succ,List.flatten_cons,List.flatten_cons]
   exact RDs.append (RDs.rep h k) h
theorem RDs.ints:∀ ns:List Int,RDs ρ H (ns.map D.int) (ns.map V.int)
 | []=>by simp;exact RDs.nil
 | n :: r=>RDs.cons (by unfold RD;rfl) (RDs.ints r)
theorem RDs.of_ints:∀ {ds:List D}{ns:List Int}{vs:List V},zcl ds=some ns->RDs ρ H ds vs->vs=ns.map V.int
 | [],ns,vs,e,h=>by
   unfold RDs at h;subst h
   simp [zcl]at e;subst e;rfl
 | d :: ds,ns,vs,e,h=>by
   unfold RDs at h
   obtain ⟨y,r,h1,h2,h3⟩:=h
   cases d with
   | int i =>
     rw [zcl,Option.map_eq_some_iff]at e
     obtain ⟨ms,e1,rfl⟩:=e
     unfold RD at h2
     subst h1 h2
     rw [RDs.of_ints e1 h3];rfl
   | _=>simp [zcl]at e
theorem RDs.of_bools:∀ {ds:List D}{ns:List Bool}{vs:List V},zcI ds=some ns->RDs ρ H ds vs->vs=ns.map V.bl
 | [],ns,vs,e,h=>by
   unfold RDs at h;subst h
   simp [zcI]at e;subst e;rfl
 | d :: ds,ns,vs,e,h=>by
   unfold RDs at h
   obtain ⟨y,r,h1,h2,h3⟩:=h
   cases d with
   | bl i =>
     rw [zcI,Option.map_eq_some_iff]at e
     obtain ⟨ms,e1,rfl⟩:=e
     unfold RD at h2
     subst h1 h2
     rw [RDs.of_bools e1 h3];rfl
   | _=>simp [zcI]at e
end
noncomputable def KRs (ρ:List Addr) (H:Hp):List (Int×D)->List (Key×V)->Prop
 | [],vs=>vs=[]
 | p :: r,vs=>∃ v q,vs=(Sum.inl p.1,v) :: q∧RD ρ H p.2 v∧KRs ρ H r q
noncomputable def FRs (G:GP) (ρ:List Addr) (H:Hp) (C:Addr):List (Nat×D)->List (Str×V)->Prop
 | [],vs=>vs=[]
 | p :: r,vs=>∃ f v q,vs=(f,v) :: q∧G.an[p.1]?=some f∧zcB G.K C f∧RD ρ H p.2 v∧FRs G ρ H C r q
noncomputable def KL (K:PySem.W.Frag) (a:Addr) (xs:List V):Prop :=
 ∃ (o:Obj) (its:Array Value) (n:Nat),K.lookup a=some o∧o.cls = .type "list" ∧ o.dict=none∧o.data = .seq its n∧its.size<=sizeLine∧zr xs its.toList
noncomputable def RO (G:GP) (ρ:List Addr) (H:Hp) (a:Addr):O->Prop
 | .lst xs=>∃ vs,H a=some (.lst vs)∧RDs ρ H xs vs
 | .scr xs=>∃ vs,((∃ o,H a=some (.frz o (.lst vs)))∨KL G.K a vs)∧RDs ρ H xs vs
 | .dic kvs=>∃ vs,H a=some (.dK vs)∧KRs ρ H kvs vs
 | .hole=>True
 | .set xs=>∃ S n,H a=some (.set S n)∧n=xs.length∧∀ x,S x=decide (x∈xs)
 | .ins c fs=>∃ C dx vs,G.cm[c]?=some C∧H a=some (.ins C dx vs)∧FRs G ρ H C fs vs
theorem KRs.map {ρ ρ1:List Addr}{H H1:Hp}:∀ {kvs:List (Int×D)}{vs:List (Key×V)},KRs ρ H kvs vs->(∀ p∈kvs,∀ v,RD ρ H p.2 v->RD ρ1 H1 p.2 v)->KRs ρ1 H1 kvs vs
 | [],vs,h,_=>h
 | p :: r,vs,h,f=>by
   unfold KRs at h ⊢
   obtain ⟨v,q,h1,h2,h3⟩:=h
   exact ⟨v,q,h1,f p List.mem_cons_self v h2,KRs.map h3 fun x hx=>f x (List.mem_cons_of_mem _ hx)⟩
theorem FRs.map {G:GP}{ρ ρ1:List Addr}{H H1:Hp}{C:Addr}:∀ {kvs:List (Nat×D)}{vs:List (Str×V)},FRs G ρ H C kvs vs->(∀ p∈kvs,∀ v,RD ρ H p.2 v->RD ρ1 H1 p.2 v)->FRs G ρ1 H1 C kvs vs
 | [],vs,h,_=>h
 | p :: r,vs,h,f=>by
   unfold FRs at h ⊢
   obtain ⟨g,v,q,h1,h2,h3,h4,h5⟩:=h
   exact ⟨g,v,q,h1,h2,h3,f p List.mem_cons_self v h4,FRs.map h5 fun x hx=>f x (List.mem_cons_of_mem _ hx)⟩
theorem RO.map {G:GP}{ρ ρ1:List Addr}{H H1:Hp}{a:Addr}{o:O} (h:RO G ρ H a o) (ha:∀ u,H a=some u->H1 a=some u) (f:∀ d v,RD ρ H d v->RD ρ1 H1 d v) (fs:∀ ds vs,RDs ρ H ds vs->RDs ρ1 H1 ds vs):RO G ρ1 H1 a o:=by
 cases o with
 | lst xs=>obtain ⟨vs,h1,h2⟩:=h;exact ⟨vs,ha _ h1,fs _ _ h2⟩
 | scr xs =>
   obtain ⟨vs,h1,h2⟩:=h
   refine ⟨vs,?_,fs _ _ h2⟩
   rcases h1 with ⟨o,h1⟩ | h1
   . exact .inl ⟨o,ha _ h1⟩
   . exact .inr h1
 | dic kvs=>obtain ⟨vs,h1,h2⟩:=h;exact ⟨vs,ha _ h1,h2.map fun p _ v=>f _ _⟩
 | hole=>trivial
 | set xs=>obtain ⟨S,n,h1,h2⟩:=h;exact ⟨S,n,ha _ h1,h2⟩
 | ins c fs=>obtain ⟨C,dx,vs,h1,h2,h3⟩:=h;exact ⟨C,dx,vs,h1,ha _ h2,h3.map fun p _ v=>f _ _⟩
noncomputable def O.isScr:O->Bool
 | .scr _=>true
 | .hole=>true
 | _=>false
structure HR (F:Addr->Prop) (G:GP) (ρ:List Addr) (h:MH) (H:Hp):Prop where
 pro:∀ b,F b->(∃ u,H b=some u)∧∀ (m:Nat) o,ρ[m]?=some b->h[m]?=some o->o.isScr=true
 nd:∀ (n m:Nat) a o o',n≠m->ρ[n]?=some a->ρ[m]?=some a->h[n]?=some o->h[m]?=some o'->o.isScr=true∨o'.isScr=true
 len:ρ.length=h.length
 all:∀ (n:Nat) o,h[n]?=some o->∃ a,ρ[n]?=some a∧RO G ρ H a o
theorem HR.at {F:Addr->Prop}{G:GP}{ρ:List Addr}{h:MH}{H:Hp} (r:HR F G ρ h H) {n:Nat}{o:O}{a:Addr} (e:h[n]?=some o) (ea:ρ[n]?=some a):RO G ρ H a o:=by
 obtain ⟨b,e1,e2⟩:=r.all n o e
 rw [ea]at e1;cases e1;exact e2
structure zY (ρ:List Addr) (H:Hp) (env:zD) (σ:St):Prop where
 len:env.length=σ.length
 all:∀ (i:Nat) d,env[i]?=some (some d)->∃ v,σ[i]?=some (some v)∧RD ρ H d v
theorem zY.ext {F:Addr->Prop}{ρ ρ1:List Addr}{H H1:Hp}{env:zD}{σ:St} (h:zY ρ H env σ) (e:Ext F ρ ρ1 H H1):zY ρ1 H1 env σ :=
 ⟨h.len,fun i d q=>let ⟨v,q1,q2⟩:=h.all i d q;⟨v,q1,RD.ext e _ _ q2⟩⟩
theorem zY.set {ρ:List Addr}{H:Hp}{env:zD}{σ:St} (h:zY ρ H env σ) {d:D}{v:V} (r:RD ρ H d v) (i:Nat):zY ρ H (env.set i (some d)) (σ.set i (some v)):=by
 refine ⟨by simp [h.len],fun j d' q=>?_⟩
 by_cases hj:i=j
 . subst hj
   have hi:i < env.length:=by
     have:=(List.getElem?_eq_some_iff.mp q).1
     simpa using this
   rw [List.getElem?_set_self hi]at q
   cases q
   exact ⟨v,by rw [List.getElem?_set_self (by rw [<- h.len];exact hi)],r⟩
 . rw [List.getElem?_set_ne hj]at q ⊢
   exact h.all j d' q
section
variable {F:Addr->Prop}{G:GP}{ρ:List Addr}{h:MH}{H:Hp}
theorem zck (hr:HR F G ρ h H) {p:Addr}{u:HO} (hp:H p=none):Ext F ρ ρ H (upd H p u):=⟨⟨[],ς⟩,fun b xs e=>by rw [zt (zcN e hp)];exact e,fun b hb=>by
 obtain ⟨⟨v,hv⟩,_⟩:=hr.pro b hb
 rw [zt (zcN hv hp)]⟩
theorem zrd {p:Addr}{u:HO} (hp:H p=none) {a:Addr}{o:HO} (e:H a=some o):upd H p u a=some o:=by rw [zt (zcN e hp)];exact e
theorem HR.grow {H1:Hp} (r:HR F G ρ h H) (k:∀ a o,H a=some o->H1 a=some o):HR F G ρ h H1:=by
 have e:Ext F ρ ρ H H1:=⟨⟨[],ς⟩,fun b xs q=>k _ _ q,fun b hb=>by obtain ⟨⟨v,hv⟩,_⟩:=r.pro b hb;rw [hv];exact k _ _ hv⟩
 exact ⟨fun b hb=>let ⟨⟨v,hv⟩,z⟩:=r.pro b hb;⟨⟨v,k _ _ hv⟩,z⟩,r.nd,r.len,fun n o q=>let ⟨a,q1,q2⟩:=r.all n o q;⟨a,q1,q2.map (fun u=>k a u) (RD.ext e) (RDs.ext e)⟩⟩
theorem HR.new (r:HR F G ρ h H) {p:Addr}{u:HO} (hp:H p=none):HR F G ρ h (upd H p u):=r.grow fun a o e=>zrd hp e
noncomputable def zex (F:Addr->Prop) (ρ:List Addr) (h:MH) (a:Addr):Prop:=¬ F a∧∀ (m:Nat) o,ρ[m]?=some a->h[m]?=some o->o.isScr=true
theorem RO.some_of {a:Addr}{o:O} (r:RO G ρ H a o):o.isScr=true∨∃ u,H a=some u:=by
 cases o with
 | lst xs=>obtain ⟨vs,z,_⟩:=r;exact .inr ⟨_,z⟩
 | scr xs=>exact .inl rfl
 | dic xs=>obtain ⟨vs,z,_⟩:=r;exact .inr ⟨_,z⟩
 | hole=>exact .inl rfl
 | set xs=>obtain ⟨S,n,z,_⟩:=r;exact .inr ⟨_,z⟩
 | ins c fs=>obtain ⟨C,dx,vs,_,z,_⟩:=r;exact .inr ⟨_,z⟩
theorem HR.fresh (r:HR F G ρ h H) {a:Addr} (ha:H a=none):zex F ρ h a:=by
 refine ⟨fun z=>?_,fun m o e1 e2=>?_⟩
 . obtain ⟨⟨v,hv⟩,_⟩:=r.pro a z
   rw [ha]at hv;cases hv
 . rcases (r.at e2 e1).some_of with z | ⟨u,z⟩
   . exact z
   . rw [ha]at z;cases z
theorem getElem?_snoc {α:Type}{l:List α}{x y:α}{n:Nat} (h:(l++[x])[n]?=some y):(l[n]?=some y)∨(n=l.length∧x=y):=by
 by_cases hn:n < l.length
 . rw [List.getElem?_append_left hn]at h;exact .inl h
 . rw [List.getElem?_append_right ω]at h
   have:n - l.length=0:=by
     by_cases z:n - l.length=0
     . exact z
     . rw [List.getElem?_eq_none (by simp;omega)]at h;cases h
   rw [this]at h
   simp at h
   exact .inr ⟨ω,h⟩
theorem RD.snoc {b:Addr} (d:D) (v:V) (h:RD ρ H d v):RD (ρ++[b]) H d v:=RD.ext (F:=fun _=>False) ⟨⟨[b],rfl⟩,fun _ _ z=>z,fun _ z=>z.elim⟩ _ _ h
theorem RDs.snocρ {b:Addr} (d:List D) (v:List V) (h:RDs ρ H d v):RDs (ρ++[b]) H d v:=RDs.ext (F:=fun _=>False) ⟨⟨[b],rfl⟩,fun _ _ z=>z,fun _ z=>z.elim⟩ _ _ h
theorem HR.named (r:HR F G ρ h H) {a:Addr}{o:O} (fr:zex F ρ h a) (ro:RO G (ρ++[a]) H a o):HR F G (ρ++[a]) (h++[o]) H:=by
 refine ⟨fun b hb=>⟨(r.pro b hb).1,fun m x z1 z2=>?_⟩,fun n m b x y hne h1 h2 h3 h4=>?_,by simp [r.len],fun n x hx=>?_⟩
 . rcases getElem?_snoc z1 with z1 | ⟨e1,f1⟩
   . have hm:m < h.length:=by rw [<- r.len];exact (List.getElem?_eq_some_iff.mp z1).1
     rw [List.getElem?_append_left hm]at z2
     exact (r.pro b hb).2 m x z1 z2
   . subst f1;exact absurd hb fr.1
 . rcases getElem?_snoc h1 with h1 | ⟨e1,f1⟩
   . rcases getElem?_snoc h2 with h2 | ⟨e2,f2⟩
     . have hn:n < h.length:=by rw [<- r.len];exact (List.getElem?_eq_some_iff.mp h1).1
       have hm:m < h.length:=by rw [<- r.len];exact (List.getElem?_eq_some_iff.mp h2).1
       rw [List.getElem?_append_left hn]at h3
       rw [List.getElem?_append_left hm]at h4
       exact r.nd n m b x y hne h1 h2 h3 h4
     . have hn:n < h.length:=by rw [<- r.len];exact (List.getElem?_eq_some_iff.mp h1).1
       rw [List.getElem?_append_left hn]at h3
       subst f2
       exact .inl (fr.2 n x h1 h3)
   . rcases getElem?_snoc h2 with h2 | ⟨e2,f2⟩
     . have hm:m < h.length:=by rw [<- r.len];exact (List.getElem?_eq_some_iff.mp h2).1
       rw [List.getElem?_append_left hm]at h4
       subst f1
       exact .inr (fr.2 m y h2 h4)
     . exact absurd (e1.trans e2.symm) hne
 . rcases getElem?_snoc hx with hx | ⟨e,f⟩
   . obtain ⟨b,e1,e2⟩:=r.all n x hx
     exact ⟨b,by rw [List.getElem?_append_left (List.getElem?_eq_some_iff.mp e1).1];exact e1,e2.map (fun _ z=>z) RD.snoc RDs.snocρ⟩
   . subst f
     exact ⟨a,by rw [e,<- r.len];simp,ro⟩
theorem HR.write (r:HR F G ρ h H) {n:Nat}{a:Addr}{o o1:O}{u0 u:HO} (e:h[n]?=some o) (ea:ρ[n]?=some a) (hs:o.isScr=false) (hs1:o1.isScr=false) (eu:H a=some u0) (mu:Mut (some u0))
   (ro:RO G ρ (upd H a u) a o1):Ext F ρ ρ H (upd H a u)∧HR F G ρ (h.set n o1) (upd H a u):=by
 have hn:n < h.length:=(List.getElem?_eq_some_iff.mp e).1
 have tp:∀ b xs,H b=some (.tup xs)->upd H a u b=some (.tup xs):=fun b xs q=>by
   rw [zt]
   . exact q
   . intro z;subst z;rw [eu]at q;cases q;exact mu
 have hb0:∀ b,F b->b≠a:=fun b hb z=>by have:=(r.pro b hb).2 n o (by rw [z];exact ea) e;rw [hs]at this;cases this
 have ex:Ext F ρ ρ H (upd H a u):=⟨⟨[],ς⟩,tp,fun b hb=>zt (hb0 b hb)⟩
 refine ⟨ex,fun b hb=>⟨by rw [zt (hb0 b hb)];exact (r.pro b hb).1,fun m x z1 z2=>?_⟩,fun i j b x y hne h1 h2 h3 h4=>?_,by simp [r.len],fun m x hx=>?_⟩
 . by_cases hm:n=m
   . subst hm
     rw [ea]at z1;cases z1
     exact absurd rfl (hb0 _ hb)
   . rw [List.getElem?_set_ne hm]at z2
     exact (r.pro b hb).2 m x z1 z2
 . have sc:∀ (k:Nat) z,(h.set n o1)[k]?=some z->∃ z0,h[k]?=some z0∧z0.isScr=z.isScr:=fun k z hz=>by
     by_cases hk:n=k
     . subst hk
       rw [List.getElem?_set_self hn]at hz
       cases hz
       exact ⟨o,e,hs.trans hs1.symm⟩
     . rw [List.getElem?_set_ne hk]at hz
       exact ⟨z,hz,rfl⟩
   obtain ⟨x0,hx0,ex0⟩:=sc i x h3
   obtain ⟨y0,hy0,ey0⟩:=sc j y h4
   rw [<- ex0,<- ey0]
   exact r.nd i j b x0 y0 hne h1 h2 hx0 hy0
 . by_cases hm:n=m
   . subst hm
     rw [List.getElem?_set_self hn]at hx
     cases hx
     exact ⟨a,ea,ro⟩
   . rw [List.getElem?_set_ne hm]at hx
     obtain ⟨b,e1,e2⟩:=r.all m x hx
     refine ⟨b,e1,?_⟩
     by_cases hb:b=a
     . subst hb
       have hsc:x.isScr=true:=by
         rcases r.nd n m b o x hm ea e1 e hx with z | z
         . rw [hs]at z;cases z
         . exact z
       cases x with
       | scr xs =>
         obtain ⟨vs,z,w⟩:=e2
         refine ⟨vs,?_,RDs.ext ex _ _ w⟩
         rcases z with ⟨o',z⟩ | z
         . rw [eu]at z;cases z;exact mu.elim
         . exact .inr z
       | hole=>trivial
       | _=>cases hsc
     . exact e2.map (fun w z=>by rw [zt hb];exact z) (RD.ext ex) (RDs.ext ex)
theorem HR.sub {F':Addr->Prop} (r:HR F' G ρ h H) (hs:∀ b,F b->F' b):HR F G ρ h H:=⟨fun b hb=>r.pro b (hs b hb),r.nd,r.len,r.all⟩
theorem Ext.sub {F':Addr->Prop}{ρ1:List Addr}{H1:Hp} (r:Ext F' ρ ρ1 H H1) (hs:∀ b,F b->F' b):Ext F ρ ρ1 H H1:=⟨r.pre,r.tup,fun b hb=>r.frm b (hs b hb)⟩
theorem HR.upd_free (r:HR F G ρ h H) {a:Addr}{xs ys:List V} (fr:zex F ρ h a) (ha:H a=some (.lst xs)):Ext F ρ ρ H (upd H a (.lst ys))∧HR F G ρ h (upd H a (.lst ys)):=by
 have hb0:∀ b,F b->b≠a:=fun b hb z=>fr.1 (z ▸ hb)
 have tp:∀ b xs,H b=some (.tup xs)->upd H a (.lst ys) b=some (.tup xs):=fun b xs q=>by
   rw [zt]
   . exact q
   . intro z;subst z;rw [ha]at q;cases q
 have ex:Ext F ρ ρ H (upd H a (.lst ys)):=⟨⟨[],ς⟩,tp,fun b hb=>zt (hb0 b hb)⟩
 refine ⟨ex,fun b hb=>⟨by rw [zt (hb0 b hb)];exact (r.pro b hb).1,(r.pro b hb).2⟩,r.nd,r.len,fun n o q=>?_⟩
 obtain ⟨b,q1,q2⟩:=r.all n o q
 refine ⟨b,q1,?_⟩
 by_cases hb:b=a
 . subst hb
   have hsc:=fr.2 n o q1 q
   cases o with
   | scr xs =>
     obtain ⟨vs,z,w⟩:=q2
     refine ⟨vs,?_,RDs.ext ex _ _ w⟩
     rcases z with ⟨o',z⟩ | z
     . rw [ha]at z;cases z
     . exact .inr z
   | hole=>trivial
   | _=>cases hsc
 . exact q2.map (fun w z=>by rw [zt hb];exact z) (RD.ext ex) (RDs.ext ex)
end
end MI
end
section
namespace MI
open PySem PySem.Spec L2
section
variable {α β γ δ:Type}
noncomputable abbrev RL (α β:Type):=(Addr->Prop)->List Addr->MH->Hp->α->β->Prop
noncomputable def wp (F:Addr->Prop) (W:Nat->Hp->Prop) (G:GP) (Rl:RL α β) (env:zD) (σ:L2.St) (ρ:List Addr) (H:Hp) (r:R α) (Q:β->Hp->Prop):Prop:=match r with
 | .ok v h1=>∀ ρ1 H1 v1,Ext F ρ ρ1 H H1->zY ρ1 H1 env σ->HR F G ρ1 h1 H1->Rl F ρ1 h1 H1 v v1->Q v1 H1
 | .ex c h1=>∀ ρ1 H1,Ext F ρ ρ1 H H1->HR F G ρ1 h1 H1->W c H1
 | .bad=>False
noncomputable def tG (W:Nat->Hp->Prop) (G:GP) (Rl:RL α β) (m:ME α):L2.St->Hp->(β->Hp->Prop)->Prop:=fun σ H Q =>
 ∃ F ρ env h,zY ρ H env σ∧HR F G ρ h H∧wp F W G Rl env σ ρ H (m env h) Q
variable {W:Nat->Hp->Prop}{F:Addr->Prop}{G:GP}{Rl:RL α β}{Rl':RL γ δ}{env:zD}{σ:L2.St}{ρ ρ1:List Addr}{H H1:Hp}{h h1:MH}
theorem wp.mono {r:R α}{Q:β->Hp->Prop} (w:wp F W G Rl env σ ρ H r Q) (e:Ext F ρ ρ1 H H1):wp F W G Rl env σ ρ1 H1 r Q:=by
 cases r with
 | ok v h1=>exact fun ρ2 H2 v1 e2=>w ρ2 H2 v1 (e.trans e2)
 | ex c h1=>exact fun ρ2 H2 e2=>w ρ2 H2 (e.trans e2)
 | bad=>exact w
theorem zI {m:ME α}{k:α->ME γ}{Q:δ->Hp->Prop}{P:β->Hp->Prop} (w:wp F W G Rl' env σ ρ H (zm m k env h) Q)
   (f:∀ x h1 ρ1 H1 y,Ext F ρ ρ1 H H1->zY ρ1 H1 env σ->HR F G ρ1 h1 H1->Rl F ρ1 h1 H1 x y->wp F W G Rl' env σ ρ1 H1 (k x env h1) Q->P y H1):wp F W G Rl env σ ρ H (m env h) P:=by
 unfold zm at w
 cases e:m env h with
 | ok v h1 =>
   rw [e]at w
   exact fun ρ1 H1 y ex er hr rl=>f v h1 ρ1 H1 y ex er hr rl (w.mono ex)
 | ex c h1=>rw [e]at w;exact w
 | bad=>rw [e]at w;exact w
end
theorem zX {X:Cx}{e:Expr}{t t':TE} (h:PE X e t) (i:∀ σ H Q,t' σ H Q->t σ H Q):PE X e t':=fun pins s σ H Q I hw=>h pins s σ H Q I (i _ _ _ hw)
theorem zib {X:Cx}{e:Expr}{t t':TT} (h:PT X e t) (i:∀ σ H Q,t' σ H Q->t σ H Q):PT X e t':=fun pins s σ H Q I hw=>h pins s σ H Q I (i _ _ _ hw)
theorem zll {X:Cx}{e:Expr}{t t':TT} (h:PW X e t) (i:∀ σ H Q,t' σ H Q->t σ H Q):PW X e t':=fun wh pins s σ H Q I hw=>h wh pins s σ H Q I (i _ _ _ hw)
theorem zmu {X:Cx}{e:List Expr}{t t':TA} (h:PA X e t) (i:∀ σ H Q,t' σ H Q->t σ H Q):PA X e t':=fun pos pins s σ H Q I hw=>h pos pins s σ H Q I (i _ _ _ hw)
theorem zkg {X:Cx}{e:Option Expr}{t t':TO} (h:PO X e t) (i:∀ σ H Q,t' σ H Q->t σ H Q):PO X e t':=fun pins s σ H Q I hw=>h pins s σ H Q I (i _ _ _ hw)
theorem zjE {X:Cx}{tg e:Expr}{t t':TI} (h:PI X tg e t) (i:∀ σ H Q,t' σ H Q->t σ H Q):PI X tg e t':=fun pins s σ H Q I hw=>h pins s σ H Q I (i _ _ _ hw)
noncomputable abbrev rV:RL D V:=fun _ ρ _ H d v=>RD ρ H d v
noncomputable abbrev rB:RL Bool Bool:=fun _ _ _ _ a b=>a=b
noncomputable abbrev rO:RL (Option Int) (Option Int):=fun _ _ _ _ a b=>a=b
noncomputable abbrev rA:RL (List D) (List V):=fun _ ρ _ H d v=>RDs ρ H d v
noncomputable def rL (K:PySem.W.Frag):RL (List D) V:=fun _ ρ _ H xs v=>∃ a vs,v = .ref a∧H a=some (.lst vs)∧RDs ρ H xs vs
noncomputable def rN (K:PySem.W.Frag):RL (List D) V:=fun F ρ h H xs v=>∃ a vs,v = .ref a∧H a=some (.lst vs)∧zex F ρ h a∧RDs ρ H xs vs
noncomputable abbrev tE (W:Nat->Hp->Prop) (G:GP) (m:ME D):TE:=tG W G rV m
noncomputable abbrev tT (W:Nat->Hp->Prop) (G:GP) (m:ME Bool):TT:=tG W G rB m
noncomputable abbrev tA (W:Nat->Hp->Prop) (G:GP) (m:ME (List D)):TA:=tG W G rA m
noncomputable abbrev tO (W:Nat->Hp->Prop) (G:GP) (m:ME (Option Int)):TO:=tG W G rO m
noncomputable abbrev tL (W:Nat->Hp->Prop) (G:GP) (m:ME (List D)):TE:=tG W G (rL G.K) m
noncomputable abbrev tN (W:Nat->Hp->Prop) (G:GP) (m:ME (List D)):TE:=tG W G (rN G.K) m
@[irreducible] noncomputable def JE (X:Cx) (e:Expr) (t:TE):Prop:=PE X e t
@[irreducible] noncomputable def JT (X:Cx) (e:Expr) (t:TT):Prop:=PT X e t
@[irreducible] noncomputable def JW (X:Cx) (e:Expr) (t:TT):Prop:=PW X e t
@[irreducible] noncomputable def JA (X:Cx) (e:List Expr) (t:TA):Prop:=PA X e t
@[irreducible] noncomputable def JO (X:Cx) (e:Option Expr) (t:TO):Prop:=PO X e t
theorem JE.to {X:Cx}{e:Expr}{t:TE} (h:JE X e t):PE X e t:=by unfold JE at h;exact h
theorem JE.of {X:Cx}{e:Expr}{t:TE} (h:PE X e t):JE X e t:=by unfold JE;exact h
theorem JT.to {X:Cx}{e:Expr}{t:TT} (h:JT X e t):PT X e t:=by unfold JT at h;exact h
theorem JT.of {X:Cx}{e:Expr}{t:TT} (h:PT X e t):JT X e t:=by unfold JT;exact h
theorem JW.to {X:Cx}{e:Expr}{t:TT} (h:JW X e t):PW X e t:=by unfold JW at h;exact h
theorem JW.of {X:Cx}{e:Expr}{t:TT} (h:PW X e t):JW X e t:=by unfold JW;exact h
theorem JA.to {X:Cx}{e:List Expr}{t:TA} (h:JA X e t):PA X e t:=by unfold JA at h;exact h
theorem JA.of {X:Cx}{e:List Expr}{t:TA} (h:PA X e t):JA X e t:=by unfold JA;exact h
theorem JO.to {X:Cx}{e:Option Expr}{t:TO} (h:JO X e t):PO X e t:=by unfold JO at h;exact h
theorem JO.of {X:Cx}{e:Option Expr}{t:TO} (h:PO X e t):JO X e t:=by unfold JO;exact h
section
variable {W:Nat->Hp->Prop}{X:Cx}{F:Addr->Prop}{G:GP}{env:zD}{σ:L2.St}{ρ:List Addr}{H:Hp}{h:MH}{a b c:Expr}{ma mb mc:ME D}{pos:Pos}{Q:VK}
theorem wp.done {α β:Type}{Rl:RL α β}{x:α}{y:β}{Q:β->Hp->Prop} (w:wp F W G Rl env σ ρ H (.ok x h) Q) (er:zY ρ H env σ) (hr:HR F G ρ h H) (r:Rl F ρ h H x y):Q y H:=w ρ H y Ext.refl er hr r
theorem wp.made {α β:Type}{Rl:RL α β}{x:α}{y:β}{Q:β->Hp->Prop}{p:Addr}{u:HO} (w:wp F W G Rl env σ ρ H (.ok x h) Q) (er:zY ρ H env σ) (hr:HR F G ρ h H) (hp:H p=none) (r:Rl F ρ h (upd H p u) x y):Q y (upd H p u) :=
 w ρ _ y (zck hr hp) (er.ext (zck hr hp)) (hr.new hp) r
theorem zc (i:Nat) {x:Str}{pos:Pos} (hN:X.N[i]?=some x:=by rfl) (hv:Vis X.env.scope x:=by first | exact Or.inl rfl | exact Or.inr (Or.inl rfl) | exact Or.inr (Or.inr rfl)) (hd:(x == ("__debug__":Str))=false:=by decide)
   (hcd:(x == ("__classdict__":Str))=false:=by decide):JE X (.Name x pos) (tE W G (var i)) :=
 .of (zX (ziw hN hv hd hcd) fun σ H Q ⟨F,ρ,env,h,er,hr,w⟩=>by
   unfold var at w
   cases e:env[i]? with
   | none=>rw [e]at w;exact w.elim
   | some o =>
     cases o with
     | none=>rw [e]at w;exact w.elim
     | some d =>
       rw [e]at w
       obtain ⟨v,h1,h2⟩:=er.all i d e
       exact ⟨v,h1,w.done er hr h2⟩)
theorem q_c {e:Expr}{v:V}{d:D} (h:PE X e (tC v)) (r:∀ ρ H,RD ρ H d v):JE X e (tE W G (zb d)) :=
 .of (zX h fun σ H Q ⟨F,ρ,env,h,er,hr,w⟩=>wp.done (h:=h) w er hr (r ρ H))
theorem zi {i j pos}:JE X (.Constant (.int i) j pos) (tE W G (zb (.int i))):=q_c zh5 fun _ _=>by unfold RD;rfl
theorem zcV {i j pos}:JE X (.Constant (.bool i) j pos) (tE W G (zb (.bl i))):=q_c zua fun _ _=>by unfold RD;rfl
theorem zeF {j pos}:JE X (.Constant .none j pos) (tE W G (zb .non)):=q_c zus fun _ _=>by unfold RD;rfl
theorem ztb {x j pos}:JE X (.Constant (.str x) j pos) (tE W G (zb (.str x))):=q_c zir fun _ _=>by unfold RD;rfl
theorem zdH {x:Str}{i:Int}{u:Value}{pos:Pos} (hg:Gl X x) (hm:X.mg x=some u) (r:zo (.int i) u) (hd:(x == ("__debug__":Str))=false:=by decide):JE X (.Name x pos) (tE W G (zb (.int i))) :=
 q_c (ze1 hg hm r hd) fun _ _=>by unfold RD;rfl
noncomputable def OpM (W:Nat->Hp->Prop) (G:GP) (f:D->D->ME D) (r:R2):Prop:=∀ (F:Addr->Prop) (ρ:List Addr) (h:MH) (H:Hp) (env:zD) (σ:L2.St) (x y:D) (v u:V) (Q:VK),zY ρ H env σ->HR F G ρ h H->RD ρ H x v->RD ρ H y u ->
 wp F W G rV env σ ρ H (f x y env h) Q->r v u H Q
theorem zhk {op:Operator}{r:R2}{f:D->D->ME D} (ho:OpR X (binaryOp op) r) (hf:OpM W G f r) (ha:JE X a (tE W G ma)) (hb:JE X b (tE W G mb)):JE X (.BinOp a op b pos) (tE W G (bin f ma mb)) :=
 .of (zX (zhJ ho ha.to hb.to) fun σ H Q ⟨F,ρ,env,h,er,hr,w⟩=>⟨F,ρ,env,h,er,hr,zI w fun x h1 ρ1 H1 y e1 er1 hr1 r1 w1=>⟨F,ρ1,env,h1,er1,hr1,zI w1 fun x2 h2 ρ2 H2 y2 e2 er2 hr2 r2 w2 =>
   hf F ρ2 h2 H2 env σ x x2 y y2 Q er2 hr2 (RD.ext e2 _ _ r1) r2 w2⟩⟩)
theorem zet {op:CmpOp}{r:R2}{f:D->D->ME D} (ho:OpR X (compareOp op) r∧OpM W G f r) (ha:JE X a (tE W G ma)) (hb:JE X b (tE W G mb)) (hm:behindInMarks op b=false):JE X (.Compare a [op] [b] pos) (tE W G (bin f ma mb)) :=
 .of (zX (zuk ho.1 ha.to hb.to hm) fun σ H Q ⟨F,ρ,env,h,er,hr,w⟩=>⟨F,ρ,env,h,er,hr,zI w fun x h1 ρ1 H1 y e1 er1 hr1 r1 w1=>⟨F,ρ1,env,h1,er1,hr1,zI w1 fun x2 h2 ρ2 H2 y2 e2 er2 hr2 r2 w2 =>
   ho.2 F ρ2 h2 H2 env σ x x2 y y2 Q er2 hr2 (RD.ext e2 _ _ r1) r2 w2⟩⟩)
theorem zmo {m:ME D}{Q:Bool->Hp->Prop} (w:wp F W G rB env σ ρ H (tst m env h) Q):wp F W G rV env σ ρ H (m env h) (fun v H1=>∃ k,v = .bl k∧Q k H1) :=
 zI w fun d h1 ρ1 H1 y e1 er1 hr1 r1 w1=>by
   cases d with
   | bl k =>
     have r1:RD ρ1 H1 (.bl k) y:=r1
     unfold RD at r1
     exact ⟨k,r1,wp.done (h:=h1) w1 er1 hr1 rfl⟩
   | _=>exact w1.elim
theorem zT {op:CmpOp}{r:R2}{f:D->D->ME D} (ho:OpR X (compareOp op) r∧OpM W G f r) (ha:JE X a (tE W G ma)) (hb:JE X b (tE W G mb)) (hm:behindInMarks op b=false):JT X (.Compare a [op] [b] pos) (tT W G (tst (bin f ma mb))) :=
 .of (zib (zuz ho.1 ha.to hb.to hm) fun σ H Q ⟨F,ρ,env,h,er,hr,w⟩=>⟨F,ρ,env,h,er,hr,zI (zmo (m:=bin f ma mb) w) fun x h1 ρ1 H1 y e1 er1 hr1 r1 w1=>⟨F,ρ1,env,h1,er1,hr1,zI w1 fun x2 h2 ρ2 H2 y2 e2 er2 hr2 r2 w2 =>
   ho.2 F ρ2 h2 H2 env σ x x2 y y2 _ er2 hr2 (RD.ext e2 _ _ r1) r2 w2⟩⟩)
theorem zlT {r r':R2}{f g:D->D->ME D}{Q:VK} (hf:OpM W G f r) (hg:OpM W G g r') (w:tE W G (zdW f g ma mb mc) σ H Q):ziW r r' (tE W G ma) (tE W G mb) (tE W G mc) σ H Q:=by
 obtain ⟨F,ρ,env,h,er,hr,w⟩:=w
 refine ⟨F,ρ,env,h,er,hr,zI w fun x h1 ρ1 H1 y e1 er1 hr1 r1 w1=>⟨F,ρ1,env,h1,er1,hr1,zI w1 fun x2 h2 ρ2 H2 y2 e2 er2 hr2 r2 w2=>?_⟩⟩
 refine hf F ρ2 h2 H2 env σ x x2 y y2 _ er2 hr2 (RD.ext e2 _ _ r1) r2 ?_
 refine zI (Rl:=rV) w2 fun d h3 ρ3 H3 z e3 er3 hr3 r3 w3=>?_
 cases d with
 | bl k =>
   have r3:RD ρ3 H3 (.bl k) z:=r3
   unfold RD at r3
   refine ⟨k,r3,?_⟩
   cases k with
   | true =>
     rw [if_pos rfl]
     exact ⟨F,ρ3,env,h3,er3,hr3,zI w3 fun x4 h4 ρ4 H4 y4 e4 er4 hr4 r4 w4=>hg F ρ4 h4 H4 env σ x2 x4 y2 y4 Q er4 hr4 (RD.ext (e3.trans e4) _ _ r2) r4 w4⟩
   | false =>
     rw [if_neg ϑ]
     exact wp.done (h:=h3) w3 er3 hr3 (by unfold RD;rfl)
 | _=>exact w3.elim
theorem zur {op op':CmpOp}{r r':R2}{f g:D->D->ME D} (ho:OpR X (compareOp op) r∧OpM W G f r) (ho':OpR X (compareOp op') r'∧OpM W G g r') (ha:JE X a (tE W G ma)) (hb:JE X b (tE W G mb)) (hc:JE X c (tE W G mc))
   (hm:lastMarks [op,op'] [b,c]=false:=by with_unfolding_all rfl):JE X (.Compare a [op,op'] [b,c] pos) (tE W G (zdW f g ma mb mc)) :=
 .of (zX (ztD ho.1 ho'.1 ha.to hb.to hc.to hm) fun σ H Q w=>zlT ho.2 ho'.2 w)
theorem zrp {op op':CmpOp}{r r':R2}{f g:D->D->ME D} (ho:OpR X (compareOp op) r∧OpM W G f r) (ho':OpR X (compareOp op') r'∧OpM W G g r') (ha:JE X a (tE W G ma)) (hb:JE X b (tE W G mb)) (hc:JE X c (tE W G mc))
   (hm:lastMarks [op,op'] [b,c]=false:=by with_unfolding_all rfl):JT X (.Compare a [op,op'] [b,c] pos) (tT W G (tst (zdW f g ma mb mc))) :=
 .of (zib (zsM ho.1 ho'.1 ha.to hb.to hc.to hm) fun σ H Q ⟨F,ρ,env,h,er,hr,w⟩=>zlT ho.2 ho'.2 ⟨F,ρ,env,h,er,hr,zmo (m:=zdW f g ma mb mc) w⟩)
theorem zsk {op:UnaryOp}{r:V->Hp->VK->Prop}{f:D->ME D} (ho:UnR X (unaryOp op) r)
   (hf:∀ (F:Addr->Prop) (ρ:List Addr) (h:MH) (H:Hp) (env:zD) (σ:L2.St) (x:D) (v:V) (Q:VK),zY ρ H env σ->HR F G ρ h H->RD ρ H x v->wp F W G rV env σ ρ H (f x env h) Q->r v H Q) (ha:JE X a (tE W G ma)):JE X (.UnaryOp op a pos) (tE W G (un f ma)) :=
 .of (zX (zjD ho ha.to) fun σ H Q ⟨F,ρ,env,h,er,hr,w⟩=>⟨F,ρ,env,h,er,hr,zI w fun x h1 ρ1 H1 y e1 er1 hr1 r1 w1=>hf F ρ1 h1 H1 env σ x y Q er1 hr1 r1 w1⟩)
theorem zdb (ha:JE X a (tE W G ma)):JE X (.UnaryOp .USub a pos) (tE W G (un zbi ma)):=zsk zjm (fun F ρ h H env σ x v Q er hr r w=>by
 cases x with
 | int i=>unfold RD at r;exact ⟨i,r,wp.done (h:=h) w er hr (by unfold RD;rfl)⟩
 | _=>exact w.elim) ha
theorem zjt {f:D->D->ME D}{C:Int->Int->Prop}{g:Int->Int->V}{k:Int->Int->D} (hk:∀ i j ρ H,RD ρ H (k i j) (g i j)) (hf:∀ x y env h,(∃ i j,x = .int i∧y = .int j∧((C i j∧f x y env h = .ok (k i j) h)∨f x y env h = .bad))∨f x y env h = .bad):OpM W G f (rI C g):=by
 intro F ρ h H env σ x y v u Q er hr r1 r2 w
 rcases hf x y env h with ⟨i,j,rfl,rfl,⟨hc,e⟩ | e⟩ | e
 . rw [e]at w
   unfold RD at r1 r2
   exact ⟨i,j,r1,r2,hc,w.done er hr (hk i j ρ H)⟩
 . rw [e]at w;exact w.elim
 . rw [e]at w;exact w.elim
theorem zjG {f:D->D->ME D}{g:Int->Int->V}{k:Int->Int->D} (hk:∀ i j ρ H,RD ρ H (k i j) (g i j)) (hf:∀ x y env h,(∃ i j,x = .int i∧y = .int j∧f x y env h = .ok (k i j) h)∨f x y env h = .bad):OpM W G f (rI0 g):=by
 intro F ρ h H env σ x y v u Q er hr r1 r2 w
 rcases hf x y env h with ⟨i,j,rfl,rfl,e⟩ | e
 . rw [e]at w
   unfold RD at r1 r2
   exact ⟨i,j,r1,r2,w.done er hr (hk i j ρ H)⟩
 . rw [e]at w;exact w.elim
theorem zlF:OpM W G zE (rI0 fun i j=> .int (i+j)):=zjG (k:=fun i j=> .int (i+j)) (fun _ _ _ _=>by unfold RD;rfl) fun x y env h=>by cases x <;> cases y <;> first | exact .inr rfl | exact .inl ⟨_,_,rfl,rfl,rfl⟩
theorem ztT:OpM W G z3 (rI0 fun i j=> .int (i - j)):=zjG (k:=fun i j=> .int (i - j)) (fun _ _ _ _=>by unfold RD;rfl) fun x y env h=>by cases x <;> cases y <;> first | exact .inr rfl | exact .inl ⟨_,_,rfl,rfl,rfl⟩
theorem zuh:OpM W G zbr (rI zhb fun i j=> .int (i * j)):=zjt (k:=fun i j=> .int (i * j)) (fun _ _ _ _=>by unfold RD;rfl) fun x y env h=>by
 cases x <;> cases y <;> first | exact .inr rfl | skip
 rename_i i j
 refine .inl ⟨i,j,rfl,rfl,?_⟩
 show (_∧(if (zbR i || zbR j)=true then zb (.int (i * j)) else zK:ME D) env h=_)∨(if (zbR i || zbR j)=true then zb (.int (i * j)) else zK:ME D) env h=_
 by_cases e:(zbR i || zbR j)=true
 . left
   rw [if_pos e]
   refine ⟨?_,rfl⟩
   unfold zhb
   simp only [zbR,Bool.or_eq_true,Bool.and_eq_true,decide_eq_true_eq]at e
   exact e
 . right;rw [if_neg e];rfl
theorem zti:OpM W G zcH (rI zlB fun i j=> .int (i / j)):=zjt (k:=fun i j=> .int (i / j)) (fun _ _ _ _=>by unfold RD;rfl) fun x y env h=>by
 cases x <;> cases y <;> first | exact .inr rfl | skip
 rename_i i j
 refine .inl ⟨i,j,rfl,rfl,?_⟩
 show (_∧(if 0 < j∧j < 1073741824 then zb (.int (i / j)) else zK:ME D) env h=_)∨(if 0 < j∧j < 1073741824 then zb (.int (i / j)) else zK:ME D) env h=_
 by_cases e:0 < j∧j < 1073741824
 . left;rw [if_pos e];exact ⟨e,rfl⟩
 . right;rw [if_neg e];rfl
theorem ztR:OpM W G zbj (rI (fun _ j=>0 < j) fun i j=> .int (i % j)):=zjt (k:=fun i j=> .int (i % j)) (fun _ _ _ _=>by unfold RD;rfl) fun x y env h=>by
 cases x <;> cases y <;> first | exact .inr rfl | skip
 rename_i i j
 refine .inl ⟨i,j,rfl,rfl,?_⟩
 show (_∧(if 0 < j then zb (.int (i % j)) else zK:ME D) env h=_)∨(if 0 < j then zb (.int (i % j)) else zK:ME D) env h=_
 by_cases e:0 < j
 . left;rw [if_pos e];exact ⟨e,rfl⟩
 . right;rw [if_neg e];rfl
theorem ziP (p:Int->Int->Bool):OpM W G (zgD p) (rI0 fun i j=> .bl (p i j)):=zjG (k:=fun i j=> .bl (p i j)) (fun _ _ _ _=>by unfold RD;rfl) fun x y env h=>by cases x <;> cases y <;> first | exact .inr rfl | exact .inl ⟨_,_,rfl,rfl,rfl⟩
theorem zbW (ha:JE X a (tE W G ma)) (hb:JE X b (tE W G mb)):JE X (.BinOp a .Add b pos) (tE W G (bin zE ma mb)):=zhk zpy zlF ha hb
theorem zda (ha:JE X a (tE W G ma)) (hb:JE X b (tE W G mb)):JE X (.BinOp a .Sub b pos) (tE W G (bin z3 ma mb)):=zhk zrm ztT ha hb
theorem zeW (ha:JE X a (tE W G ma)) (hb:JE X b (tE W G mb)):JE X (.BinOp a .Mult b pos) (tE W G (bin zbr ma mb)):=zhk zse zuh ha hb
theorem zig (ha:JE X a (tE W G ma)) (hb:JE X b (tE W G mb)):JE X (.BinOp a .FloorDiv b pos) (tE W G (bin zcH ma mb)):=zhk zpT zti ha hb
theorem zdD (ha:JE X a (tE W G ma)) (hb:JE X b (tE W G mb)):JE X (.BinOp a .Mod b pos) (tE W G (bin zbj ma mb)):=zhk zrL ztR ha hb
end
end MI
end
section
namespace MI
open PySem PySem.Spec L2
mutual
noncomputable def cv:D->L2.D
 | .non=> .non
 | .bl b=> .bl b
 | .int i=> .int i
 | .str x=> .str x
 | .tup ds=> .tup (cvs ds)
 | .obj _=> .non
noncomputable def cvs:List D->List L2.D
 | []=>[]
 | d :: r=>cv d :: cvs r
end
noncomputable def cvC:Cmp->L2.D
 | .d x=>cv x
 | .l xs=> .lst (cvs xs)
theorem zmh {ρ:List Addr}{H:Hp}:∀ (n:Nat),(∀ (d:D) (v:V),d.pl n=true->RD ρ H d v->Dat H (cv d) v∧dpt (cv d)<=n)∧(∀ (ds:List D) (vs:List V),ds.all (D.pl n)=true->RDs ρ H ds vs->zbl H (cvs ds) vs∧zbY (cvs ds)<=n):=by
 intro n
 induction n with
 | zero =>
   have one:∀ (d:D) (v:V),d.pl 0=true->RD ρ H d v->Dat H (cv d) v∧dpt (cv d)<=0:=fun d v p r=>by
     cases d <;> first
       | (simp [D.pl]at p;done)
       | (unfold RD at r;simp [cv,Dat,dpt,r])
   refine ⟨one,fun ds=>?_⟩
   induction ds with
   | nil=>intro vs _ r;unfold RDs at r;simp [cvs,zbl,zbY,r]
   | cons d ds ih =>
     intro vs p r
     rw [List.all_cons,Bool.and_eq_true]at p
     unfold RDs at r
     obtain ⟨x,q,rfl,r1,r2⟩:=r
     obtain ⟨h1,h2⟩:=one d x p.1 r1
     obtain ⟨h3,h4⟩:=ih q p.2 r2
     unfold cvs zbl zbY
     exact ⟨⟨x,q,rfl,h1,h3⟩,ω⟩
 | succ n ihn =>
   have one:∀ (d:D) (v:V),d.pl (n+1)=true->RD ρ H d v->Dat H (cv d) v∧dpt (cv d)<=n+1:=fun d v p r=>by
     cases d with
     | tup ds =>
       unfold D.pl at p
       unfold RD at r
       obtain ⟨a,vs,rfl,h1,h2⟩:=r
       obtain ⟨h3,h4⟩:=ihn.2 ds vs p h2
       unfold cv Dat dpt
       exact ⟨⟨a,vs,rfl,h1,h3⟩,ω⟩
     | obj m=>simp [D.pl]at p
     | _=>unfold RD at r;simp [cv,Dat,dpt,r]
   refine ⟨one,fun ds=>?_⟩
   induction ds with
   | nil=>intro vs _ r;unfold RDs at r;simp [cvs,zbl,zbY,r]
   | cons d ds ih =>
     intro vs p r
     rw [List.all_cons,Bool.and_eq_true]at p
     unfold RDs at r
     obtain ⟨x,q,rfl,r1,r2⟩:=r
     obtain ⟨h1,h2⟩:=one d x p.1 r1
     obtain ⟨h3,h4⟩:=ih q p.2 r2
     unfold cvs zbl zbY
     exact ⟨⟨x,q,rfl,h1,h3⟩,ω⟩
theorem zkH:∀ (n:Nat),(∀ (a b:D),a.pl n=true->b.pl n=true->eqD (cv a) (cv b)=peq a b)∧(∀ (a b:List D),a.all (D.pl n)=true->b.all (D.pl n)=true->zbN (cvs a) (cvs b)=zbZ a b):=by
 intro n
 have many:(∀ (a b:D),a.pl n=true->b.pl n=true->eqD (cv a) (cv b)=peq a b)->(∀ (a b:List D),a.all (D.pl n)=true->b.all (D.pl n)=true->zbN (cvs a) (cvs b)=zbZ a b):=by
   intro one a
   induction a with
   | nil=>intro b _ _;cases b <;> simp [cvs,zbN,zbZ]
   | cons x a ih =>
     intro b p q
     cases b with
     | nil=>simp [cvs,zbN,zbZ]
     | cons y b =>
       rw [List.all_cons,Bool.and_eq_true]at p q
       unfold cvs zbN zbZ
       rw [one x y p.1 q.1,ih b p.2 q.2]
 induction n with
 | zero =>
   have one:∀ (a b:D),a.pl 0=true->b.pl 0=true->eqD (cv a) (cv b)=peq a b:=fun a b p q=>by
     cases a <;> first
       | (simp [D.pl]at p;done)
       | (cases b <;> first
         | (simp [D.pl]at q;done)
         | simp [cv,eqD,peq])
   exact ⟨one,many one⟩
 | succ n ihn =>
   have one:∀ (a b:D),a.pl (n+1)=true->b.pl (n+1)=true->eqD (cv a) (cv b)=peq a b:=fun a b p q=>by
     cases a with
     | tup as =>
       cases b with
       | tup bs =>
         unfold D.pl at p q
         unfold cv eqD peq
         refine (ihn ?_).2 as bs p q
         intro one a
         induction a with
         | nil=>intro b _ _;cases b <;> simp [cvs,zbN,zbZ]
         | cons x a ih =>
           intro b p q
           cases b with
           | nil=>simp [cvs,zbN,zbZ]
           | cons y b =>
             rw [List.all_cons,Bool.and_eq_true]at p q
             unfold cvs zbN zbZ
             rw [one x y p.1 q.1,ih b p.2 q.2]
       | obj m=>simp [D.pl]at q
       | _=>simp [cv,eqD,peq]
     | obj m=>simp [D.pl]at p
     | _ =>
       cases b with
       | obj m=>simp [D.pl]at q
       | _=>simp [cv,eqD,peq]
   exact ⟨one,many one⟩
section
variable {W:Nat->Hp->Prop}{X:Cx}{F:Addr->Prop}{G:GP}{env:zD}{σ:L2.St}{ρ:List Addr}{H:Hp}{h:MH}{a b c:Expr}{ma mb mc:ME D}{pos:Pos}{Q:VK}{k:Nat}
theorem HR.lst (hr:HR F G ρ h H) {n:Nat}{v:V}{xs:List D} (r:RD ρ H (.obj n) v) (e:h[n]?=some (.lst xs)):∃ a vs,v = .ref a∧ρ[n]?=some a∧H a=some (.lst vs)∧RDs ρ H xs vs:=by
 unfold RD at r
 obtain ⟨a,rfl,ea⟩:=r
 obtain ⟨vs,h1,h2⟩:=hr.at e ea
 exact ⟨a,vs,rfl,ea,h1,h2⟩
theorem HR.scr (hr:HR F G ρ h H) {n:Nat}{v:V}{xs:List D} (r:RD ρ H (.obj n) v) (e:h[n]?=some (.scr xs)):∃ a vs,v = .ref a∧ρ[n]?=some a∧SqL G.K H a vs∧RDs ρ H xs vs:=by
 unfold RD at r
 obtain ⟨a,rfl,ea⟩:=r
 obtain ⟨vs,h1,h2⟩:=hr.at e ea
 refine ⟨a,vs,rfl,ea,?_,h2⟩
 rcases h1 with ⟨o,h1⟩ | h1
 . exact .inl (.inr ⟨o,h1⟩)
 . exact .inr h1
theorem HR.dic (hr:HR F G ρ h H) {n:Nat}{v:V}{xs:List (Int×D)} (r:RD ρ H (.obj n) v) (e:h[n]?=some (.dic xs)):∃ a vs,v = .ref a∧ρ[n]?=some a∧H a=some (.dK vs)∧KRs ρ H xs vs:=by
 unfold RD at r
 obtain ⟨a,rfl,ea⟩:=r
 obtain ⟨vs,h1,h2⟩:=hr.at e ea
 exact ⟨a,vs,rfl,ea,h1,h2⟩
theorem HR.ins (hr:HR F G ρ h H) {n c:Nat}{v:V}{xs:List (Nat×D)} (r:RD ρ H (.obj n) v) (e:h[n]?=some (.ins c xs)):∃ a C dx vs,v = .ref a∧ρ[n]?=some a∧G.cm[c]?=some C∧H a=some (.ins C dx vs)∧FRs G ρ H C xs vs:=by
 unfold RD at r
 obtain ⟨a,rfl,ea⟩:=r
 obtain ⟨C,dx,vs,h1,h2,h3⟩:=hr.at e ea
 exact ⟨a,C,dx,vs,rfl,ea,h1,h2,h3⟩
theorem zki {x:D}{k:Cmp} (e:zbP h x=some k):(∃ n xs,x = .obj n∧h[n]?=some (.lst xs)∧xs.all (D.pl 5)=true∧k = .l xs)∨(x.pl 5=true∧k = .d x):=by
 have fin:∀ {y:D},(if y.pl 5=true then some (Cmp.d y) else none)=some k->y.pl 5=true∧k = .d y:=fun {y} e=>by
   by_cases p:y.pl 5=true
   . rw [if_pos p]at e;cases e;exact ⟨p,rfl⟩
   . rw [if_neg p]at e;cases e
 cases x with
 | obj n =>
   simp only [zbP]at e
   cases q:h[n]? with
   | none=>rw [q]at e;cases e
   | some o =>
     rw [q]at e
     cases o with
     | lst xs =>
       dsimp only at e
       by_cases p:xs.all (D.pl 5)=true
       . rw [if_pos p]at e;cases e;exact .inl ⟨n,xs,rfl,q,p,rfl⟩
       . rw [if_neg p]at e;cases e
     | _=>cases e
 | _=>exact .inr (fin e)
theorem zih (hr:HR F G ρ h H) {x:D}{v:V}{k:Cmp} (r:RD ρ H x v) (e:zbP h x=some k):Dat H (cvC k) v∧dpt (cvC k)<=100:=by
 rcases zki e with ⟨n,xs,rfl,q,p,rfl⟩ | ⟨p,rfl⟩
 . obtain ⟨a,vs,rfl,ea,h1,h2⟩:=hr.lst r q
   obtain ⟨h3,h4⟩:=(zmh 5).2 xs vs p h2
   unfold cvC Dat dpt
   exact ⟨⟨a,vs,rfl,.inl h1,h3⟩,ω⟩
 . obtain ⟨h1,h2⟩:=(zmh 5).1 _ v p r
   exact ⟨h1,Nat.le_trans h2 ϑ⟩
theorem zmH {x:D}{k:Cmp} (e:zbP h x=some k):match k with
   | .d y=>y.pl 5=true
   | .l ys=>ys.all (D.pl 5)=true:=by
 rcases zki e with ⟨n,xs,rfl,q,p,rfl⟩ | ⟨p,rfl⟩
 . exact p
 . exact p
theorem zlQ (xs:List L2.D) (y:D):eqD (.lst xs) (cv y)=false∧eqD (cv y) (.lst xs)=false:=by
 cases y <;> simp [cv,eqD]
theorem zky {x y:D}{k l:Cmp} (e:zbP h x=some k) (e':zbP h y=some l):eqD (cvC k) (cvC l)=k.eq l:=by
 have p:=zmH e
 have q:=zmH e'
 cases k with
 | d x =>
   cases l with
   | d y=>exact (zkH 5).1 x y p q
   | l ys=>exact (zlQ _ _).2
 | l xs =>
   cases l with
   | d y=>exact (zlQ _ _).1
   | l ys =>
     show eqD (.lst (cvs xs)) (.lst (cvs ys))=zbZ xs ys
     unfold eqD
     exact (zkH 5).2 xs ys p q
theorem zq1:OpM W G eqV zhX:=fun F ρ h H env σ x y v u Q er hr r1 r2 w=>by
 unfold eqV at w
 cases e1:zbP h x with
 | none=>rw [e1]at w;exact w.elim
 | some k =>
   cases e2:zbP h y with
   | none=>rw [e1,e2]at w;exact w.elim
   | some l =>
     rw [e1,e2]at w
     obtain ⟨h1,h2⟩:=zih hr r1 e1
     obtain ⟨h3,h4⟩:=zih hr r2 e2
     exact ⟨_,_,h1,h3,h2,w.done er hr (by rw [zky e1 e2];unfold RD;rfl)⟩
theorem zrE:OpM W G neV zhK:=fun F ρ h H env σ x y v u Q er hr r1 r2 w=>by
 unfold neV at w
 cases e1:zbP h x with
 | none=>rw [e1]at w;exact w.elim
 | some k =>
   cases e2:zbP h y with
   | none=>rw [e1,e2]at w;exact w.elim
   | some l =>
     rw [e1,e2]at w
     obtain ⟨h1,h2⟩:=zih hr r1 e1
     obtain ⟨h3,h4⟩:=zih hr r2 e2
     exact ⟨_,_,h1,h3,h2,w.done er hr (by rw [zky e1 e2];unfold RD;rfl)⟩
theorem zgT (hr:zO k X.A):OpR X (compareOp .Lt) (rI0 fun i j=> .bl (decide (i < j)))∧OpM W G ltV (rI0 fun i j=> .bl (decide (i < j))):=⟨zrt,ziP _⟩
theorem zi8 (hr:zO k X.A):OpR X (compareOp .LtE) (rI0 fun i j=> .bl (decide (i<=j)))∧OpM W G leV (rI0 fun i j=> .bl (decide (i<=j))):=⟨zrG,ziP _⟩
theorem zjY (hr:zO k X.A):OpR X (compareOp .Gt) (rI0 fun i j=> .bl (decide (j < i)))∧OpM W G gtV (rI0 fun i j=> .bl (decide (j < i))):=⟨zta,ziP _⟩
theorem zcS (hr:zO k X.A):OpR X (compareOp .Eq) zhX∧OpM W G eqV zhX:=⟨zuI hr,zq1⟩
theorem zbQ (hr:zO k X.A):OpR X (compareOp .NotEq) zhK∧OpM W G neV zhK:=⟨zrZ hr,zrE⟩
theorem zkR {d:D}{v:V} (r:RD ρ H d v) (f:zbk d=true):zbJ v=true:=by
 cases d <;> first | (simp [zbk]at f;done) | (unfold RD at r;subst r;rfl)
theorem zkM:∀ {ds:List D}{vs:List V},RDs ρ H ds vs->ds.all zbk=true->vs.all zbJ=true
 | [],vs,r,_=>by unfold RDs at r;subst r;rfl
 | d :: ds,vs,r,f=>by
   unfold RDs at r
   obtain ⟨x,q,rfl,r1,r2⟩:=r
   rw [List.all_cons,Bool.and_eq_true]at f
   rw [List.all_cons,zkR r1 f.1,zkM r2 f.2];rfl
theorem zuJ {d e:D}{v u:V} (r:RD ρ H d v) (r':RD ρ H e u) (f:zbk d=true) (f':zbk e=true):L2.eqV v u=peq d e:=by
 cases d <;> first
   | (simp [zbk]at f;done)
   | (cases e <;> first
     | (simp [zbk]at f';done)
     | (unfold RD at r r';subst r r';simp [L2.eqV,peq]))
theorem zkV {d:D}{v:V} (r:RD ρ H d v) (f:zbk d=true):∀ {ds:List D}{vs:List V},RDs ρ H ds vs->ds.all zbk=true->L2.inV v vs=inB d ds
 | [],vs,r',_=>by unfold RDs at r';subst r';rfl
 | e :: ds,vs,r',f'=>by
   unfold RDs at r'
   obtain ⟨x,q,rfl,r1,r2⟩:=r'
   rw [List.all_cons,Bool.and_eq_true]at f'
   have ih:=zkV r f r2 f'.2
   unfold L2.inV inB at ih ⊢
   rw [List.any_cons,List.any_cons,ih,zuJ r1 r f'.1 f]
theorem zjw:∀ {kvs:List (Int×D)}{vs:List (Key×V)}{k:Int},KRs ρ H kvs vs->match look k kvs with
   | some d=>∃ v,zcQ vs (Sum.inl k)=some v∧RD ρ H d v
   | none=>zcQ vs (Sum.inl k)=none
 | [],vs,k,r=>by unfold KRs at r;subst r;rfl
 | p :: kvs,vs,k,r=>by
   unfold KRs at r
   obtain ⟨v,q,rfl,r1,r2⟩:=r
   unfold look
   by_cases e:p.1=k
   . rw [if_pos e]
     exact ⟨v,zia (by rw [e]),r1⟩
   . rw [if_neg e,zhU (fun z=>e (Sum.inl.inj z))]
     exact zjw r2
noncomputable def zd0 (neg:Bool):R2:=fun x y H Q=>∃ a o,y = .ref a∧zdw H a x o∧Q (.bl (if neg then !o.isSome else o.isSome)) H
theorem zuR (hr:zO k X.A):OpR X (compareOp .In) (zd0 false):=fun pins s σ H x y v u Q I rx ry ⟨a,o,e,g,q⟩=>by
 subst e;cases ry
 exact zsC (zic hr) I g rx fun s' I'=>⟨.bl o.isSome,H,I',rfl,q⟩
theorem zsp (hr:zO k X.A):OpR X (compareOp .NotIn) (zd0 true):=fun pins s σ H x y v u Q I rx ry ⟨a,o,e,g,q⟩=>by
 subst e;cases ry
 exact zqA (zic hr) I g rx fun s' I'=>⟨.bl (!o.isSome),H,I',rfl,q⟩
theorem zkW {x y:D}:(∃ b,inV x y env h = .ok (.bl b) h)∨inV x y env h = .bad:=by
 cases y with
 | tup ds =>
   simp only [inV]
   split
   . exact .inl ⟨_,rfl⟩
   . exact .inr rfl
 | obj n =>
   simp only [inV]
   cases q:h[n]? with
   | none=>exact .inr rfl
   | some o =>
     cases o with
     | lst xs =>
       dsimp only
       split
       . exact .inl ⟨_,rfl⟩
       . exact .inr rfl
     | scr xs =>
       dsimp only
       split
       . exact .inl ⟨_,rfl⟩
       . exact .inr rfl
     | dic kvs=>cases x <;> first | exact .inl ⟨_,rfl⟩ | exact .inr rfl
     | _=>exact .inr rfl
 | _=>exact .inr rfl
theorem zl8 {x y:D}{v u:V}{neg b:Bool}{Q:VK} (hK:X.K=G.K) (hr:HR F G ρ h H) (r1:RD ρ H x v) (r2:RD ρ H y u) (w:inV x y env h = .ok (.bl b) h) (q0:Q (.bl (if neg then !b else b)) H) :
   rIn X.K neg v u H Q∨zd0 neg v u H Q:=by
 have seq:∀ {p:Addr} {vs:List V} {ds:List D},u = .ref p->(SqL X.K H p vs∨SqT X.K H p vs)->RDs ρ H ds vs->(if (zbk x && ds.all zbk)=true then R.ok (.bl (inB x ds)) h else .bad:R D) = .ok (.bl b) h->rIn X.K neg v u H Q:=fun {p vs ds} e sq rs w=>by
   by_cases f:(zbk x && ds.all zbk)=true
   . rw [if_pos f]at w
     cases w
     rw [Bool.and_eq_true]at f
     refine ⟨p,vs,e,sq,zkR r1 f.1,zkM rs f.2,?_⟩
     rw [zkV r1 f.1 rs f.2]
     exact q0
   . rw [if_neg f]at w;cases w
 cases y with
 | tup ds =>
   simp only [inV]at w
   unfold RD at r2
   obtain ⟨p,vs,e,hp,rs⟩:=r2
   exact .inl (seq e (.inr (.inl (.inl hp))) rs w)
 | obj n =>
   simp only [inV]at w
   cases q:h[n]? with
   | none=>rw [q]at w;cases w
   | some o =>
     rw [q]at w
     cases o with
     | lst xs =>
       obtain ⟨a,vs,e,ea,h1,h2⟩:=hr.lst r2 q
       exact .inl (seq e (.inl (SqL.of h1)) h2 w)
     | scr xs =>
       obtain ⟨a,vs,e,ea,h1,h2⟩:=hr.scr r2 q
       exact .inl (seq e (.inl (by rw [hK];exact h1)) h2 w)
     | dic kvs =>
       obtain ⟨a,vs,e,ea,h1,h2⟩:=hr.dic r2 q
       cases x with
       | int i =>
         dsimp only at w
         unfold RD at r1
         subst r1
         refine .inr ⟨a,zcQ vs (Sum.inl i),e,zdw.k (k:=Sum.inl i) h1,?_⟩
         have lv:=zjw (k:=i) h2
         cases el:look i kvs with
         | none=>rw [el]at lv w;cases w;rw [lv];exact q0
         | some d =>
           rw [el]at lv w
           obtain ⟨v',e',_⟩:=lv
           cases w
           rw [e'];exact q0
       | _=>cases w
     | _=>cases w
 | _=>cases w
noncomputable def ROr (r r':R2):R2:=fun x y H Q=>r x y H Q∨r' x y H Q
theorem zr5 (hK:X.K=G.K):OpM W G inV (ROr (rIn X.K false) (zd0 false)):=fun F ρ h H env σ x y v u Q er hr r1 r2 w=>by
 rcases zkW (x:=x) (y:=y) (env:=env) (h:=h) with ⟨b,e⟩ | e
 . rw [e]at w
   exact zl8 (neg:=false) hK hr r1 r2 e (w.done er hr (by unfold RD;rfl))
 . rw [e]at w;exact w.elim
theorem ztx (hK:X.K=G.K):OpM W G zcb (ROr (rIn X.K true) (zd0 true)):=fun F ρ h H env σ x y v u Q er hr r1 r2 w=>by
 unfold zcb zm at w
 rcases zkW (x:=x) (y:=y) (env:=env) (h:=h) with ⟨b,e⟩ | e
 . rw [e]at w
   exact zl8 (neg:=true) hK hr r1 r2 e (wp.done (h:=h) w er hr (by unfold RD;rfl))
 . rw [e]at w;exact w.elim
theorem zlc (hr:zO k X.A) (hK:X.K=G.K:=by rfl):OpR X (compareOp .In) (ROr (rIn X.K false) (zd0 false))∧OpM W G inV (ROr (rIn X.K false) (zd0 false)):=⟨zrx.or (zuR hr),zr5 hK⟩
theorem ziS (hr:zO k X.A) (hK:X.K=G.K:=by rfl):OpR X (compareOp .NotIn) (ROr (rIn X.K true) (zd0 true))∧OpM W G zcb (ROr (rIn X.K true) (zd0 true)):=⟨zuB.or (zsp hr),ztx hK⟩
theorem RD.non_iff {d:D}{v:V} (r:RD ρ H d v):(v = .non)↔(d = .non):=by
 cases d <;> unfold RD at r <;> first
   | (subst r;simp;done)
   | (obtain ⟨a,vs,rfl,_⟩:=r;simp;done)
   | (obtain ⟨a,rfl,_⟩:=r;simp;done)
noncomputable def rIs (neg:Bool):R2:=ROr (fun x y H Q=>y = .non∧Q (.bl (if neg then !decide (x = .non) else decide (x = .non))) H) (fun x y H Q=>∃ b c,x = .bl b∧y = .bl c∧Q (.bl (if neg then !(b == c) else (b == c))) H)
theorem zrn:OpM W G isN (rIs false):=fun F ρ h H env σ x y v u Q er hr r1 r2 w=>by
 cases y with
 | non =>
   unfold RD at r2
   refine .inl ⟨r2,?_⟩
   have e:decide (v = .non)=decide (x = .non):=decide_eq_decide.mpr r1.non_iff
   have w':wp F W G rV env σ ρ H (.ok (.bl (decide (x = .non))) h) Q:=by cases x <;> exact w
   exact w'.done er hr (by rw [e];unfold RD;rfl)
 | bl c =>
   cases x with
   | bl b=>unfold RD at r1 r2;exact .inr ⟨b,c,r1,r2,wp.done (h:=h) w er hr (by unfold RD;rfl)⟩
   | _=>exact w.elim
 | _=>cases x <;> exact w.elim
theorem zp6:OpM W G zdC (rIs true):=fun F ρ h H env σ x y v u Q er hr r1 r2 w=>by
 cases y with
 | non =>
   unfold RD at r2
   refine .inl ⟨r2,?_⟩
   have e:decide (v = .non)=decide (x = .non):=decide_eq_decide.mpr r1.non_iff
   have w':wp F W G rV env σ ρ H (.ok (.bl (!decide (x = .non))) h) Q:=by cases x <;> exact w
   exact w'.done er hr (by rw [e];unfold RD;rfl)
 | bl c =>
   cases x with
   | bl b=>unfold RD at r1 r2;exact .inr ⟨b,c,r1,r2,wp.done (h:=h) w er hr (by unfold RD;rfl)⟩
   | _=>exact w.elim
 | _=>cases x <;> exact w.elim
theorem zrJ (hr:zO k X.A):OpR X (compareOp .Is) (rIs false)∧OpM W G isN (rIs false):=⟨zs6.or zsO,zrn⟩
theorem zi0 (hr:zO k X.A):OpR X (compareOp .IsNot) (rIs true)∧OpM W G zdC (rIs true):=⟨zqX.or zuv,zp6⟩
theorem zrj (ha:JE X a (tE W G ma)):JE X (.UnaryOp .Not a pos) (tE W G (un zjV ma)) :=
 .of (zX (zml ha.to) fun σ H Q ⟨F,ρ,env,h,er,hr,w⟩=>⟨F,ρ,env,h,er,hr,zI w fun x h1 ρ1 H1 y e1 er1 hr1 r1 w1=>by
   cases x with
   | bl b=>have r1:RD ρ1 H1 (.bl b) y:=r1;unfold RD at r1;exact ⟨b,r1,wp.done (h:=h1) w1 er1 hr1 (by unfold RD;rfl)⟩
   | _=>exact w1.elim⟩)
variable {rest:List Expr}
theorem ze4 {op} (ha:JE X a (tE W G ma)):JE X (.BoolOp op [a] pos) (tE W G ma) := .of (zpE ha.to)
theorem zd1 (ha:JE X a (tE W G ma)) (hb:JE X (.BoolOp .And (b :: rest) pos) (tE W G mb)):JE X (.BoolOp .And (a :: b :: rest) pos) (tE W G (zcW ma mb)) :=
 .of (zX (zrF ha.to hb.to) fun σ H Q ⟨F,ρ,env,h,er,hr,w⟩=>⟨F,ρ,env,h,er,hr,zI w fun x h1 ρ1 H1 y e1 er1 hr1 r1 w1=>by
   cases x with
   | bl b =>
     have r1:RD ρ1 H1 (.bl b) y:=r1
     unfold RD at r1
     refine ⟨b,r1,?_⟩
     cases b with
     | true=>rw [if_pos rfl];exact ⟨F,ρ1,env,h1,er1,hr1,w1⟩
     | false=>rw [if_neg ϑ];exact wp.done (h:=h1) w1 er1 hr1 (by unfold RD;rfl)
   | _=>exact w1.elim⟩)
variable {ta tb:ME Bool}
theorem zeq (hc:JT X c (tT W G ta)) (ha:JE X a (tE W G ma)) (hb:JE X b (tE W G mb)):JE X (.IfExp c a b pos) (tE W G (ifE ta ma mb)) :=
 .of (zX (zks hc.to ha.to hb.to) fun σ H Q ⟨F,ρ,env,h,er,hr,w⟩=>⟨F,ρ,env,h,er,hr,zI w fun x h1 ρ1 H1 y e1 er1 hr1 r1 w1=>by
   obtain rfl:x=y:=r1
   cases x with
   | true=>rw [if_pos rfl]at w1 ⊢;exact ⟨F,ρ1,env,h1,er1,hr1,w1⟩
   | false=>rw [if_neg ϑ]at w1 ⊢;exact ⟨F,ρ1,env,h1,er1,hr1,w1⟩⟩)
theorem zbX (ha:JT X a (tT W G ta)):JT X (.UnaryOp .Not a pos) (tT W G (zbn ta)) :=
 .of (zib (zkN ha.to) fun σ H Q ⟨F,ρ,env,h,er,hr,w⟩=>⟨F,ρ,env,h,er,hr,zI w fun x h1 ρ1 H1 y e1 er1 hr1 r1 w1=>by
   obtain rfl:x=y:=r1
   exact wp.done (h:=h1) w1 er1 hr1 rfl⟩)
theorem ziu (ha:JT X a (tT W G ta)):JW X (.BoolOp .And [a] pos) (tT W G ta) := .of (zlo ha.to)
theorem zc9 (ha:JT X a (tT W G ta)):JW X (.BoolOp .Or [a] pos) (tT W G ta) := .of (zpt ha.to)
theorem zgK (ha:JT X a (tT W G ta)) (hb:JW X (.BoolOp .And (b :: rest) pos) (tT W G tb)):JW X (.BoolOp .And (a :: b :: rest) pos) (tT W G (zbp ta tb)) :=
 .of (zll (zkq ha.to hb.to) fun σ H Q ⟨F,ρ,env,h,er,hr,w⟩=>⟨F,ρ,env,h,er,hr,zI w fun x h1 ρ1 H1 y e1 er1 hr1 r1 w1=>by
   obtain rfl:x=y:=r1
   cases x with
   | true=>rw [if_pos rfl]at w1 ⊢;exact ⟨F,ρ1,env,h1,er1,hr1,w1⟩
   | false=>rw [if_neg ϑ]at w1 ⊢;exact wp.done (h:=h1) w1 er1 hr1 rfl⟩)
theorem zcp (ha:JT X a (tT W G ta)) (hb:JW X (.BoolOp .Or (b :: rest) pos) (tT W G tb)):JW X (.BoolOp .Or (a :: b :: rest) pos) (tT W G (orT ta tb)) :=
 .of (zll (zuL ha.to hb.to) fun σ H Q ⟨F,ρ,env,h,er,hr,w⟩=>⟨F,ρ,env,h,er,hr,zI w fun x h1 ρ1 H1 y e1 er1 hr1 r1 w1=>by
   obtain rfl:x=y:=r1
   cases x with
   | false=>rw [if_neg ϑ]at w1 ⊢;exact ⟨F,ρ1,env,h1,er1,hr1,w1⟩
   | true=>rw [if_pos rfl]at w1 ⊢;exact wp.done (h:=h1) w1 er1 hr1 rfl⟩)
theorem t_w (h:JW X a (tT W G ta)):JT X a (tT W G ta) := .of (PW.pt h.to)
theorem zbB (ha:JE X a (tE W G ma)) (he:∀ whole,isTrue a X.env whole=(do let v <- whole;standAt a.pos;holding [v] (truthy v))) (hK:X.K=G.K:=by rfl):JT X a (tT W G (tru ma)) :=
 .of (zib (ztA ha.to he) fun σ H Q ⟨F,ρ,env,h,er,hr,w⟩=>⟨F,ρ,env,h,er,hr,zI w fun x h1 ρ1 H1 y e1 er1 hr1 r1 w1=>by
   unfold zew at w1
   have r1:RD ρ1 H1 x y:=r1
   cases x with
   | non=>unfold RD at r1;subst r1;exact ⟨false,rfl,wp.done (h:=h1) w1 er1 hr1 rfl⟩
   | bl b=>unfold RD at r1;subst r1;exact ⟨b,rfl,wp.done (h:=h1) w1 er1 hr1 rfl⟩
   | int i=>unfold RD at r1;subst r1;exact ⟨i != 0,rfl,wp.done (h:=h1) w1 er1 hr1 rfl⟩
   | tup ds =>
     unfold RD at r1
     obtain ⟨p,vs,rfl,hp,rs⟩:=r1
     refine ⟨!ds.isEmpty,.inr (.inl ⟨vs,.inl (.inl hp),?_⟩),wp.done (h:=h1) w1 er1 hr1 rfl⟩
     have:=rs.length
     cases ds <;> cases vs <;> first | rfl | simp at this
   | obj n =>
     dsimp only at w1
     cases q:h1[n]? with
     | none=>rw [q]at w1;exact w1.elim
     | some o =>
       rw [q]at w1
       cases o with
       | lst xs =>
         obtain ⟨p,vs,rfl,ea,hp,rs⟩:=hr1.lst r1 q
         refine ⟨!xs.isEmpty,.inl ⟨vs,SqL.of hp,?_⟩,wp.done (h:=h1) w1 er1 hr1 rfl⟩
         have:=rs.length
         cases xs <;> cases vs <;> first | rfl | simp at this
       | scr xs =>
         obtain ⟨p,vs,rfl,ea,hp,rs⟩:=hr1.scr r1 q
         refine ⟨!xs.isEmpty,.inl ⟨vs,by rw [hK];exact hp,?_⟩,wp.done (h:=h1) w1 er1 hr1 rfl⟩
         have:=rs.length
         cases xs <;> cases vs <;> first | rfl | simp at this
       | dic kvs =>
         obtain ⟨p,vs,rfl,ea,hp,rs⟩:=hr1.dic r1 q
         refine ⟨!kvs.isEmpty,.inr (.inr ⟨vs,hp,?_⟩),wp.done (h:=h1) w1 er1 hr1 rfl⟩
         cases kvs with
         | nil=>unfold KRs at rs;subst rs;rfl
         | cons p r=>unfold KRs at rs;obtain ⟨v,q,rfl,_⟩:=rs;rfl
       | _=>exact w1.elim
   | _=>exact w1.elim⟩)
end
end MI
end
section
namespace MI
open PySem PySem.Spec L2
section
variable {α β γ δ:Type}{W:Nat->Hp->Prop}{F:Addr->Prop}{G:GP}{Rl:RL α β}{Rl':RL γ δ}{env:zD}{σ:L2.St}{ρ:List Addr}{H:Hp}{h:MH}
theorem zl1 {r:R α}{Rl2:RL α δ}{Q:δ->Hp->Prop}{P:β->Hp->Prop} (w:wp F W G Rl2 env σ ρ H r Q)
   (f:∀ x h1 ρ1 H1 y,Ext F ρ ρ1 H H1->zY ρ1 H1 env σ->HR F G ρ1 h1 H1->Rl F ρ1 h1 H1 x y->wp F W G Rl2 env σ ρ1 H1 (.ok x h1) Q->P y H1):wp F W G Rl env σ ρ H r P:=by
 cases r with
 | ok v h1=>exact fun ρ1 H1 y ex er hr rl=>f v h1 ρ1 H1 y ex er hr rl (w.mono ex)
 | ex c h1=>exact w
 | bad=>exact w
end
section
variable {W:Nat->Hp->Prop}{X:Cx}{F:Addr->Prop}{G:GP}{env:zD}{σ:L2.St}{ρ:List Addr}{H:Hp}{h:MH}{a b c e:Expr}{es:List Expr}{ma mb mc:ME D}{ml ml':ME (List D)}{pos p p1 p2:Pos}{Q:VK}{k:Nat}
theorem zl:JA X [] (tA W G ze) := .of (zmu zce fun σ H Q ⟨F,ρ,env,h,er,hr,w⟩=>wp.done (h:=h) w er hr RDs.nil)
theorem zd (ha:JE X e (tE W G ma)) (hr:JA X es (tA W G ml)) (hs:starEach (e :: es) X.env=(false,eval e X.env) :: starEach es X.env):JA X (e :: es) (tA W G (za ma ml)) :=
 .of (zmu (zbC ha.to hr.to hs) fun σ H Q ⟨F,ρ,env,h,er,hr,w⟩=>⟨F,ρ,env,h,er,hr,zI w fun x h1 ρ1 H1 y e1 er1 hr1 r1 w1=>⟨F,ρ1,env,h1,er1,hr1,zI w1 fun xs h2 ρ2 H2 ys e2 er2 hr2 r2 w2 =>
   wp.done (h:=h2) w2 er2 hr2 (RDs.cons (RD.ext e2 _ _ r1) r2)⟩⟩)
theorem zhg {n:Nat} (h:n<=1000000):n<=sizeLine:=by rw [sizeLine_eq];omega
theorem zbf {x1} (ha:JA X es (tA W G ml)):JE X (.Tuple es x1 pos) (tE W G (zG ml)) :=
 .of (zX (zsH ha.to) fun σ H Q ⟨F,ρ,env,h,er,hr,w⟩=>⟨F,ρ,env,h,er,hr,zI w fun xs h1 ρ1 H1 ys e1 er1 hr1 r1 w1=>by
   by_cases hl:xs.length<=1000
   . rw [if_pos hl]at w1
     have r1:RDs ρ1 H1 xs ys:=r1
     refine ⟨zhg (by rw [<- r1.length];omega),fun p hp=>?_⟩
     refine wp.made (h:=h1) w1 er1 hr1 hp ?_
     show RD ρ1 (upd H1 p (.tup ys)) (.tup xs) (.ref p)
     unfold RD
     exact ⟨p,ys,rfl,zbc,RDs.ext (zck hr1 hp) _ _ r1⟩
   . rw [if_neg hl]at w1;exact w1.elim⟩)
theorem zeo {p:Addr}{xs:List D}{vs:List V} (hr:HR F G ρ h H) (hp:H p=none) (r:RDs ρ H xs vs):rN G.K F ρ h (upd H p (.lst vs)) xs (.ref p):=⟨p,vs,rfl,zbc,hr.fresh hp,RDs.ext (zck hr hp) _ _ r⟩
theorem zcK (ha:JA X es (tA W G ml)):JE X (.List es pos) (tN W G (zbq ml)) :=
 .of (zX (zjs ha.to) fun σ H Q ⟨F,ρ,env,h,er,hr,w⟩=>⟨F,ρ,env,h,er,hr,zI w fun xs h1 ρ1 H1 ys e1 er1 hr1 r1 w1=>by
   by_cases hl:xs.length<=1000
   . rw [if_pos hl]at w1
     have r1:RDs ρ1 H1 xs ys:=r1
     exact ⟨zhg (by rw [<- r1.length];omega),fun p hp=>wp.made (h:=h1) w1 er1 hr1 hp (zeo hr1 hp r1)⟩
   . rw [if_neg hl]at w1;exact w1.elim⟩)
theorem zl9 {a:Addr}{vs:List V}{xs:List D}{Q:VK} (w:wp F W G rV env σ ρ H (zgg (.lst xs) env h) Q) (er:zY ρ H env σ) (hr:HR F G ρ h H) (ha:H a=some (.lst vs)) (fr:zex F ρ h a) (r:RDs ρ H xs vs):Q (.ref a) H:=by
 have ex:Ext F ρ (ρ++[a]) H H:=⟨⟨[a],rfl⟩,fun _ _ z=>z,fun _ _=>rfl⟩
 refine w (ρ++[a]) H (.ref a) ex (er.ext ex) (hr.named fr ⟨vs,ha,RDs.snocρ _ _ r⟩) ?_
 show RD _ _ (.obj h.length) (.ref a)
 unfold RD
 exact ⟨a,rfl,by rw [<- hr.len];simp⟩
theorem z6 (ha:JE X e (tN W G ml)):JE X e (tE W G (zF ml)) :=
 .of (zX ha.to fun σ H Q ⟨F,ρ,env,h,er,hr,w⟩=>⟨F,ρ,env,h,er,hr,zI w fun xs h1 ρ1 H1 y e1 er1 hr1 ⟨a,vs,ey,ha,fr,r1⟩ w1=>by
   subst ey;exact zl9 w1 er1 hr1 ha fr r1⟩)
theorem zgf (ha:JE X e (tN W G ml)):JE X e (tL W G ml) :=
 .of (zX ha.to fun σ H Q ⟨F,ρ,env,h,er,hr,w⟩=>⟨F,ρ,env,h,er,hr,zl1 w fun x h1 ρ1 H1 y e1 er1 hr1 ⟨a,vs,ey,ha,fr,r1⟩ w1=>by
   subst ey;exact w1.done er1 hr1 ⟨a,vs,rfl,ha,r1⟩⟩)
theorem zqD {n:Nat}{y:V}{P:Prop}{β:Type}{Rl:RL (List D) β}{Q:β->Hp->Prop} (w:wp F W G Rl env σ ρ H (zcJ n env h) Q) (hr:HR F G ρ h H) (r:RD ρ H (.obj n) y)
   (f:∀ a vs xs,y = .ref a->ρ[n]?=some a->H a=some (.lst vs)->RDs ρ H xs vs->h[n]?=some (.lst xs)->wp F W G Rl env σ ρ H (.ok xs h) Q->P):P:=by
 simp only [zcJ]at w
 cases q:h[n]? with
 | none=>rw [q]at w;exact w.elim
 | some o =>
   rw [q]at w
   cases o with
   | lst xs=>obtain ⟨a,vs,ea,e1,h1,h2⟩:=hr.lst r q;exact f a vs xs ea e1 h1 h2 q w
   | _=>exact w.elim
theorem zhM {γ δ:Type}{Rl':RL γ δ}{n:Nat}{y:V}{P:Prop}{Q:δ->Hp->Prop}{kk:List D->ME γ} (w:wp F W G Rl' env σ ρ H (zm (zcJ n) kk env h) Q) (hr:HR F G ρ h H) (r:RD ρ H (.obj n) y)
   (f:∀ a vs xs,y = .ref a->ρ[n]?=some a->H a=some (.lst vs)->RDs ρ H xs vs->h[n]?=some (.lst xs)->wp F W G Rl' env σ ρ H (kk xs env h) Q->P):P:=by
 simp only [zm,zcJ]at w
 cases q:h[n]? with
 | none=>rw [q]at w;exact w.elim
 | some o =>
   rw [q]at w
   cases o with
   | lst xs=>obtain ⟨a,vs,ea,e1,h1,h2⟩:=hr.lst r q;exact f a vs xs ea e1 h1 h2 q w
   | _=>exact w.elim
theorem zdf (ha:JE X e (tE W G ma)):JE X e (tL W G (zbS ma)) :=
 .of (zX ha.to fun σ H Q ⟨F,ρ,env,h,er,hr,w⟩=>⟨F,ρ,env,h,er,hr,zI w fun x h1 ρ1 H1 y e1 er1 hr1 r1 w1=>by
   cases x with
   | obj n=>exact zqD w1 hr1 r1 fun a vs xs ey _ ha rs _ w2=>by subst ey;exact w2.done er1 hr1 ⟨a,vs,rfl,ha,rs⟩
   | _=>exact w1.elim⟩)
theorem RDs.atI {xs:List D}{vs:List V}{i:Int}{d:D} (r:RDs ρ H xs vs) (e:MI.atI xs i=some d):∃ v,L2.atI vs i=some v∧RD ρ H d v:=by
 unfold MI.atI at e
 unfold L2.atI
 rw [Option.bind_eq_some_iff]at e
 obtain ⟨j,e1,e2⟩:=e
 obtain ⟨v,e3,e4⟩:=r.get e2
 exact ⟨v,by rw [<- r.length];show (MI.ixN xs.length i).bind _=_;rw [e1];exact e3,e4⟩
noncomputable def zqR:R2:=fun x y H Q=>∃ a v,x = .ref a∧zdw H a y (some v)∧Q v H
theorem ztt (hr:zO k X.A):IxR X zqR:=by
 intro value slice pins s σ H x y v u Q I rx ry h hs
 obtain ⟨a,z,rfl,g,q⟩:=h
 cases rx
 have hT:=ztv I g
 unfold PyProof.Rows.subscriptTail
 refine wpAny_bind ?_
 rw [getitemInPython_of_ne hT.not_modules]
 refine wpAny_bind (wpAny_specialOf hT PySem.F.slot_dict_getitem.lookup ?_)
 have fin:wpAny (model X.prog X.w) X.A (subscripted slice false (.ref a) u) (fun r s₃=>wpAny (model X.prog X.w) X.A (letTemporaryGo value (.ref a) r >>= fun _=>pure r) (EP X pins σ Q) X.xe s₃) X.xe s:=by
   rw [hs]
   exact wpAny_operating (zqa (zic hr) I g ry fun w' s3 I3 rw'=>wpAny_bind (wpAny_letTemporaryGo (wpAny_pure ⟨z,H,I3,rw',q⟩)))
 first
   | exact wpAny_pure (wpAny_bind fin)
   | exact wpAny_bind (wpAny_pure (wpAny_bind fin))
   | exact wpAny_bind fin
theorem zw (rm:zO k X.A) (ha:JE X a (tE W G ma)) (hb:JE X b (tE W G mb)) (hs:zkr b) (hK:X.K=G.K:=by rfl):JE X (.Subscript a b pos) (tE W G (bin zf ma mb)) :=
 .of (zX (zto (zuG.or (zuE.or (ztt rm))) ha.to hb.to hs) fun σ H Q ⟨F,ρ,env,h,er,hr,w⟩=>⟨F,ρ,env,h,er,hr,zI w fun x h1 ρ1 H1 y e1 er1 hr1 r1 w1=>⟨F,ρ1,env,h1,er1,hr1,zI w1 fun x2 h2 ρ2 H2 y2 e2 er2 hr2 r2 w2=>by
   have r1:RD ρ2 H2 x y:=RD.ext e2 _ _ r1
   have r2:RD ρ2 H2 x2 y2:=r2
   cases x with
   | tup ds =>
     cases x2 with
     | int i =>
       simp only [zf]at w2
       unfold RD at r1 r2
       obtain ⟨p,vs,rfl,hp,rs⟩:=r1
       cases q:MI.atI ds i with
       | none=>rw [q]at w2;exact w2.elim
       | some d =>
         rw [q]at w2
         obtain ⟨v,e3,e4⟩:=rs.atI q
         exact .inr (.inl ⟨p,vs,i,v,rfl,r2,SqT.of hp,e3,w2.done er2 hr2 e4⟩)
     | _=>exact w2.elim
   | obj n =>
     cases x2 with
     | int i =>
       simp only [zf]at w2
       have r2':=r2
       unfold RD at r2'
       cases qo:h2[n]? with
       | none=>rw [qo]at w2;exact w2.elim
       | some o =>
         rw [qo]at w2
         cases o with
         | lst xs =>
           obtain ⟨p,vs,rfl,ea,hp,rs⟩:=hr2.lst r1 qo
           dsimp only at w2
           cases q:MI.atI xs i with
           | none=>rw [q]at w2;exact w2.elim
           | some d =>
             rw [q]at w2
             obtain ⟨v,e3,e4⟩:=rs.atI q
             exact .inl ⟨p,vs,i,v,rfl,r2',SqL.of hp,e3,w2.done er2 hr2 e4⟩
         | scr xs =>
           obtain ⟨p,vs,rfl,ea,hp,rs⟩:=hr2.scr r1 qo
           dsimp only at w2
           cases q:MI.atI xs i with
           | none=>rw [q]at w2;exact w2.elim
           | some d =>
             rw [q]at w2
             obtain ⟨v,e3,e4⟩:=rs.atI q
             exact .inl ⟨p,vs,i,v,rfl,r2',by rw [hK];exact hp,e3,w2.done er2 hr2 e4⟩
         | dic kvs =>
           obtain ⟨p,vs,rfl,ea,hp,rs⟩:=hr2.dic r1 qo
           dsimp only at w2
           have lv:=zjw (k:=i) rs
           cases q:look i kvs with
           | none=>rw [q]at w2;exact w2.elim
           | some d =>
             rw [q]at w2 lv
             obtain ⟨v,e3,e4⟩:=lv
             subst r2'
             exact .inr (.inr ⟨p,v,rfl,by rw [<- e3];exact zdw.k (k:=Sum.inl i) hp,w2.done er2 hr2 e4⟩)
         | _=>exact w2.elim
     | _=>exact w2.elim
   | _=>cases x2 <;> exact w2.elim⟩⟩)
theorem zdX:JO X none (tO W G noP) := .of (zkg zke fun σ H Q ⟨F,ρ,env,h,er,hr,w⟩=>wp.done (h:=h) w er hr rfl)
theorem zdY (ha:JE X a (tE W G ma)):JO X (some a) (tO W G (zbz ma)) :=
 .of (zkg (zh6 ha.to) fun σ H Q ⟨F,ρ,env,h,er,hr,w⟩=>⟨F,ρ,env,h,er,hr,zI w fun x h1 ρ1 H1 y e1 er1 hr1 r1 w1=>by
   cases x with
   | int i=>have r1:RD ρ1 H1 (.int i) y:=r1;unfold RD at r1;exact ⟨i,r1,wp.done (h:=h1) w1 er1 hr1 rfl⟩
   | _=>exact w1.elim⟩)
variable {lo hi:Option Expr}{ol oh:ME (Option Int)}
theorem zij (n d:Nat) (o:Option Int):MI.sIx n d o=HT.sIx n d o:=by
 cases o with
 | none=>rfl
 | some v =>
   show (if v < 0 then max (v+(n:Int)) 0 else min v (n:Int)).toNat=_
   rw [HT.clip_eq v n d]
   simp
theorem RDs.cutV {xs:List D}{vs:List V} (r:RDs ρ H xs vs) (l u:Option Int):RDs ρ H (MI.cut xs l u) (L2.cutV vs l u):=by
 unfold MI.cut L2.cutV
 rw [zij,zij,r.length]
 exact (r.drop _).take _
theorem zff (ha:JE X a (tE W G ma)) (hl:JO X lo (tO W G ol)) (hh:JO X hi (tO W G oh)):JE X (.Subscript a (.Slice lo hi none p2) pos) (tN W G (zca ma ol oh)) :=
 .of (zX (zmf ztQ ha.to hl.to hh.to) fun σ H Q ⟨F,ρ,env,h,er,hr,w⟩=>⟨F,ρ,env,h,er,hr,zI w fun x h1 ρ1 H1 y e1 er1 hr1 r1 w1=>⟨F,ρ1,env,h1,er1,hr1,zI w1 fun l h2 ρ2 H2 l' e2 er2 hr2 r2 w2 =>
   ⟨F,ρ2,env,h2,er2,hr2,zI w2 fun u h3 ρ3 H3 u' e3 er3 hr3 r3 w3=>by
     have r1:RD ρ3 H3 x y:=RD.ext (e2.trans e3) _ _ r1
     obtain rfl:l=l':=r2
     obtain rfl:u=u':=r3
     cases x with
     | obj n =>
       exact zhM w3 hr3 r1 fun p vs xs ey _ hp rs eq w4=>⟨p,vs,ey,SqL.of hp,fun q hq=>wp.made (h:=h3) w4 er3 hr3 hq (zeo hr3 hq (rs.cutV l u))⟩
     | _=>exact w3.elim⟩⟩⟩)
theorem zmI (ha:JE X a (tE W G ma)) (hl:JO X lo (tO W G ol)) (hh:JO X hi (tO W G oh)):JE X (.Subscript a (.Slice lo hi none p2) pos) (tE W G (zd4 ma ol oh)) :=
 .of (zX (zmf zru ha.to hl.to hh.to) fun σ H Q ⟨F,ρ,env,h,er,hr,w⟩=>⟨F,ρ,env,h,er,hr,zI w fun x h1 ρ1 H1 y e1 er1 hr1 r1 w1=>⟨F,ρ1,env,h1,er1,hr1,zI w1 fun l h2 ρ2 H2 l' e2 er2 hr2 r2 w2 =>
   ⟨F,ρ2,env,h2,er2,hr2,zI w2 fun u h3 ρ3 H3 u' e3 er3 hr3 r3 w3=>by
     have r1:RD ρ3 H3 x y:=RD.ext (e2.trans e3) _ _ r1
     obtain rfl:l=l':=r2
     obtain rfl:u=u':=r3
     cases x with
     | tup ds =>
       by_cases hc:(MI.cut ds l u).length < ds.length
       . dsimp only at w3
         rw [if_pos hc]at w3
         unfold RD at r1
         obtain ⟨p,vs,rfl,hp,rs⟩:=r1
         refine ⟨p,vs,rfl,SqT.of hp,fun z=>?_,fun q hq=>wp.made (h:=h3) w3 er3 hr3 hq ?_⟩
         . rw [<- rs.length,<- zij,<- zij]at z
           unfold MI.cut at hc
           rw [z.1,z.2]at hc
           simp at hc
         . show RD ρ3 _ (.tup (MI.cut ds l u)) _
           unfold RD
           exact ⟨q,_,rfl,zbc,RDs.ext (zck hr3 hq) _ _ (rs.cutV l u)⟩
       . dsimp only at w3
         rw [if_neg hc]at w3;exact w3.elim
     | _=>exact w3.elim⟩⟩⟩)
theorem ztH {p3 p4 p5:Pos}{k1 k2:Nat} (ha:JE X a (tE W G ma)):JE X (.Subscript a (.Slice (some (.Constant (.int 1) k1 p3)) none (some (.UnaryOp .USub (.Constant (.int 1) k2 p5) p4)) p2) pos) (tE W G (zhe ma)) :=
 .of (zX (zqb ha.to (zh6 zh5) zke (zh6 (zjD zjm zh5))) fun σ H Q ⟨F,ρ,env,h,er,hr,w⟩=>⟨F,ρ,env,h,er,hr,zI w fun x h1 ρ1 H1 y e1 er1 hr1 r1 w1=>by
   have r1:RD ρ1 H1 x y:=r1
   refine ⟨1,rfl,1,rfl,-1,rfl,rfl,rfl,rfl,?_⟩
   cases x with
   | tup ds =>
     unfold RD at r1
     obtain ⟨q,vs,rfl,hp,rs⟩:=r1
     match ds,w1 with
     | [d1,d2,d3],w1 =>
       unfold RDs at rs
       obtain ⟨v1,r',rfl,rd1,rs⟩:=rs
       unfold RDs at rs
       obtain ⟨v2,r',rfl,rd2,rs⟩:=rs
       unfold RDs at rs
       obtain ⟨v3,r',rfl,rd3,rs⟩:=rs
       unfold RDs at rs
       subst rs
       refine ⟨q,v1,v2,v3,rfl,hp,fun b hb=>wp.made (h:=h1) w1 er1 hr1 hb ?_⟩
       show RD ρ1 _ (.tup [d2,d1]) _
       unfold RD
       exact ⟨b,_,rfl,zbc,RDs.ext (zck hr1 hb) _ _ (RDs.cons rd2 (RDs.cons rd1 RDs.nil))⟩
     | [],w1=>exact w1.elim
     | [_],w1=>exact w1.elim
     | [_,_],w1=>exact w1.elim
     | _ :: _ :: _ :: _ :: _,w1=>exact w1.elim
   | _=>exact w1.elim⟩)
end
end MI
end
section
namespace MI
open PySem PySem.Spec L2
section
variable {W:Nat->Hp->Prop}{X:Cx}{F:Addr->Prop}{G:GP}{env:zD}{σ:L2.St}{ρ:List Addr}{H:Hp}{h:MH}{a b c e o:Expr}{es:List Expr}{ma mb mc:ME D}{ml ml':ME (List D)}{pos p p1 p2 apos:Pos}{Q:VK}{k:Nat}
theorem zfe (ha:JE X a (tE W G ma)) (hb:JE X b (tL W G ml)):JE X (.BinOp a .Add b pos) (tN W G (zcm ma ml)) :=
 .of (zX (zhJ zl0 ha.to hb.to) fun σ H Q ⟨F,ρ,env,h,er,hr,w⟩=>⟨F,ρ,env,h,er,hr,zI w fun x h1 ρ1 H1 y e1 er1 hr1 r1 w1=>⟨F,ρ1,env,h1,er1,hr1,zI w1 fun ys h2 ρ2 H2 y2 e2 er2 hr2 ⟨q,us,ey,hq,rs2⟩ w2=>by
   subst ey
   have r1:RD ρ2 H2 x y:=RD.ext e2 _ _ r1
   cases x with
   | obj n =>
     refine zhM w2 hr2 r1 fun p vs xs ey _ hp rs eq w3=>?_
     by_cases hl:xs.length+ys.length<=1000000
     . rw [if_pos hl]at w3
       exact ⟨p,q,vs,us,ey,rfl,hp,hq,zhg (by rw [<- rs.length,<- rs2.length];exact hl),fun d hd=>wp.made (h:=h2) w3 er2 hr2 hd (zeo hr2 hd (RDs.append rs2 rs))⟩
     . rw [if_neg hl]at w3;exact w3.elim
   | _=>exact w2.elim⟩⟩)
theorem zuu (ha:JE X a (tE W G ma)) (hb:JE X b (tE W G mb)):JE X (.BinOp a .Mult b pos) (tN W G (zim ma mb)) :=
 .of (zX (zhJ zra ha.to hb.to) fun σ H Q ⟨F,ρ,env,h,er,hr,w⟩=>⟨F,ρ,env,h,er,hr,zI w fun x h1 ρ1 H1 y e1 er1 hr1 r1 w1=>⟨F,ρ1,env,h1,er1,hr1,zI w1 fun x2 h2 ρ2 H2 y2 e2 er2 hr2 r2 w2=>by
   have r1:RD ρ2 H2 x y:=RD.ext e2 _ _ r1
   have r2:RD ρ2 H2 x2 y2:=r2
   cases x with
   | obj n =>
     cases x2 with
     | int i =>
       unfold RD at r2
       refine zhM w2 hr2 r1 fun p vs xs ey _ hp rs eq w3=>?_
       by_cases hl:-1000000<=i∧i<=1000000∧xs.length * i.toNat<=1000000
       . rw [if_pos hl]at w3
         exact ⟨p,i,vs,ey,r2,hp,ω,ω,zhg (by rw [<- rs.length];exact hl.2.2),fun d hd=>wp.made (h:=h2) w3 er2 hr2 hd (zeo hr2 hd (RDs.rep rs _))⟩
       . rw [if_neg hl]at w3;exact w3.elim
     | _=>exact w2.elim
   | _=>cases x2 <;> exact w2.elim⟩⟩)
theorem zdU {α:Type}{Rl:RL α V}{m:ME α}{P:List V->Hp->Prop} (hw:tG W G Rl m σ H (fun y H1=>P [y] H1)):zeD (tG W G Rl m) zf1 σ H P:=hw
theorem zk5 (hg:Gl X "all") (hm:X.mg "all" = none) (ha:JE X e (tL W G ml)) (hs:starEach [e] X.env=(false,eval e X.env) :: starEach [] X.env) (hc:X.calm=true:=by rfl):JE X (.Call (.Name "all" p) [e] [] pos) (tE W G (zhi ml)) :=
 .of (zX (zdJ (zsN hc) hg hm ϰ (zbC ha.to zce hs) (he:=hs)) fun σ H Q ⟨F,ρ,env,h,er,hr,w⟩=>zdU ⟨F,ρ,env,h,er,hr,zI w fun xs h1 ρ1 H1 y e1 er1 hr1 ⟨q,us,ey,hq,rs⟩ w1=>by
   subst ey
   cases eb:zcI xs with
   | none=>rw [eb]at w1;exact w1.elim
   | some bs =>
     rw [eb]at w1
     have e2:=RDs.of_bools eb rs
     subst e2
     exact ⟨q,bs,rfl,SqL.of hq,wp.done (h:=h1) w1 er1 hr1 (by unfold RD;rfl)⟩⟩)
theorem zp7 (hg:Gl X "sum") (hm:X.mg "sum" = none) (ha:JE X e (tL W G ml)) (hs:starEach [e] X.env=(false,eval e X.env) :: starEach [] X.env) (hc:X.calm=true:=by rfl):JE X (.Call (.Name "sum" p) [e] [] pos) (tE W G (zhQ ml)) :=
 .of (zX (zdJ (zrV hc) hg hm ϰ (zbC ha.to zce hs) (he:=hs)) fun σ H Q ⟨F,ρ,env,h,er,hr,w⟩=>zdU ⟨F,ρ,env,h,er,hr,zI w fun xs h1 ρ1 H1 y e1 er1 hr1 ⟨q,us,ey,hq,rs⟩ w1=>by
   subst ey
   cases eb:zcl xs with
   | none=>rw [eb]at w1;exact w1.elim
   | some bs =>
     rw [eb]at w1
     have e2:=RDs.of_ints eb rs
     subst e2
     exact ⟨q,bs,rfl,SqL.of hq,wp.done (h:=h1) w1 er1 hr1 (by unfold RD;rfl)⟩⟩)
theorem zkX (hg:Gl X "len") (hm:X.mg "len" = none) (ha:JE X e (tL W G ml)) (hs:starEach [e] X.env=(false,eval e X.env) :: starEach [] X.env):JE X (.Call (.Name "len" p) [e] [] pos) (tE W G (zbd ml)) :=
 .of (zX (zdJ zmD hg hm PySem.boot_len (zbC ha.to zce hs) (he:=hs)) fun σ H Q ⟨F,ρ,env,h,er,hr,w⟩=>zdU ⟨F,ρ,env,h,er,hr,zI w fun xs h1 ρ1 H1 y e1 er1 hr1 ⟨q,us,ey,hq,rs⟩ w1=>by
   subst ey
   exact ⟨q,us,rfl,.inl (SqL.of hq),wp.done (h:=h1) w1 er1 hr1 (by rw [rs.length];unfold RD;rfl)⟩⟩)
theorem zc1 (hg:Gl X "len") (hm:X.mg "len" = none) (ha:JE X e (tE W G ma)) (hs:starEach [e] X.env=(false,eval e X.env) :: starEach [] X.env) (hK:X.K=G.K:=by rfl):JE X (.Call (.Name "len" p) [e] [] pos) (tE W G (zbd (zbs ma))) :=
 .of (zX (zdJ zmD hg hm PySem.boot_len (zbC ha.to zce hs) (he:=hs)) fun σ H Q ⟨F,ρ,env,h,er,hr,w⟩=>zdU ⟨F,ρ,env,h,er,hr,by
   have w':wp F W G rV env σ ρ H (zm ma (fun x=>zm (fun _ h=>match x with
     | .obj n=>(match h[n]? with
       | some (.lst xs)=>R.ok xs h
       | some (.scr xs)=> .ok xs h
       | _=> .bad)
     | .tup ds=> .ok ds h
     | _=> .bad) fun xs=>zb (.int xs.length)) env h) Q:=by
     have e:zbd (zbs ma) env h=(zm ma (fun x=>zm (fun _ h=>match x with
       | .obj n=>(match h[n]? with
         | some (.lst xs)=>R.ok xs h
         | some (.scr xs)=> .ok xs h
         | _=> .bad)
       | .tup ds=> .ok ds h
       | _=> .bad) fun xs=>zb (.int xs.length)) env h):=by
       unfold zbd zbs zm
       cases ma env h <;> rfl
     rw [<- e];exact w
   refine zI w' fun x h1 ρ1 H1 y e1 er1 hr1 r1 w1=>?_
   have r1:RD ρ1 H1 x y:=r1
   cases x with
   | tup ds =>
     unfold RD at r1
     obtain ⟨q,vs,rfl,hp,rs⟩:=r1
     exact ⟨q,vs,rfl,.inr (SqT.of hp),wp.done (h:=h1) w1 er1 hr1 (by rw [rs.length];unfold RD;rfl)⟩
   | obj n =>
     simp only [zm]at w1
     cases qo:h1[n]? with
     | none=>rw [qo]at w1;exact w1.elim
     | some o =>
       rw [qo]at w1
       cases o with
       | lst xs =>
         obtain ⟨q,vs,rfl,ea,hp,rs⟩:=hr1.lst r1 qo
         exact ⟨q,vs,rfl,.inl (SqL.of hp),wp.done (h:=h1) w1 er1 hr1 (by rw [rs.length];unfold RD;rfl)⟩
       | scr xs =>
         obtain ⟨q,vs,rfl,ea,hp,rs⟩:=hr1.scr r1 qo
         exact ⟨q,vs,rfl,.inl (by rw [hK];exact hp),wp.done (h:=h1) w1 er1 hr1 (by rw [rs.length];unfold RD;rfl)⟩
       | _=>exact w1.elim
   | _=>exact w1.elim⟩)
theorem zis (hg:Gl X "list") (hm:X.mg "list" = none) (ha:JE X e (tL W G ml)) (hs:starEach [e] X.env=(false,eval e X.env) :: starEach [] X.env):JE X (.Call (.Name "list" p) [e] [] pos) (tN W G ml) :=
 .of (zX (zsc zpX hg hm ϰ (zbC ha.to zce hs) (he:=hs)) fun σ H Q ⟨F,ρ,env,h,er,hr,w⟩=>zdU ⟨F,ρ,env,h,er,hr,zl1 w fun xs h1 ρ1 H1 y e1 er1 hr1 ⟨q,us,ey,hq,rs⟩ w1=>by
   subst ey
   exact ⟨q,us,rfl,.inl (SqL.of hq),fun d hd=>w1.made er1 hr1 hd (zeo hr1 hd rs)⟩⟩)
theorem zqz (hg:Gl X "abs") (hm:X.mg "abs" = none) (ha:JE X e (tE W G ma)) (hs:starEach [e] X.env=(false,eval e X.env) :: starEach [] X.env):JE X (.Call (.Name "abs" p) [e] [] pos) (tE W G (zdG ma)) :=
 .of (zX (zdJ zs1 hg hm ϰ (zbC ha.to zce hs) (he:=hs)) fun σ H Q ⟨F,ρ,env,h,er,hr,w⟩=>zdU ⟨F,ρ,env,h,er,hr,zI w fun x h1 ρ1 H1 y e1 er1 hr1 r1 w1=>by
   cases x with
   | int i=>have r1:RD ρ1 H1 (.int i) y:=r1;unfold RD at r1;subst r1;exact ⟨i,rfl,wp.done (h:=h1) w1 er1 hr1 (by unfold RD;rfl)⟩
   | _=>exact w1.elim⟩)
end
end MI
end
section
namespace MI
open PySem PySem.Spec L2
theorem zju (x:Int):∀ l:List Int,(zcG x l).Perm (x :: l)
 | []=>by simp [zcG]
 | y :: r=>by
   unfold zcG
   by_cases h:x<=y
   . rw [if_pos h]
   . rw [if_neg h]
     exact ((zju x r).cons y).trans (List.Perm.swap x y r)
theorem zjI:∀ l:List Int,(zb7 l).Perm l
 | []=>by simp [zb7]
 | y :: r=>by
   show (zcG y (zb7 r)).Perm _
   exact (zju y _).trans ((zjI r).cons y)
theorem zlZ (x:Int):∀ l:List Int,l.Pairwise (· <= ·)->(zcG x l).Pairwise (· <= ·)
 | [],_=>by simp [zcG]
 | y :: r,h=>by
   unfold zcG
   rw [List.pairwise_cons]at h
   by_cases hx:x<=y
   . rw [if_pos hx]
     refine List.pairwise_cons.mpr ⟨fun z hz=>?_,List.pairwise_cons.mpr h⟩
     rcases List.mem_cons.mp hz with e | hz
     . rw [e];exact hx
     . exact Int.le_trans hx (h.1 z hz)
   . rw [if_neg hx]
     refine List.pairwise_cons.mpr ⟨fun z hz=>?_,zlZ x r h.2⟩
     rcases List.mem_cons.mp ((zju x r).mem_iff.mp hz) with e | hz
     . rw [e];omega
     . exact h.1 z hz
theorem zlv:∀ l:List Int,(zb7 l).Pairwise (· <= ·)
 | []=>by simp [zb7]
 | y :: r=>zlZ y _ (zlv r)
theorem zkQ:∀ {l m:List Int},l.Perm m->l.Pairwise (· <= ·)->m.Pairwise (· <= ·)->l=m
 | [],m,p,_,_=>by simpa using p
 | x :: l,m,p,hl,hm=>by
   cases m with
   | nil=>simp at p
   | cons y m =>
     rw [List.pairwise_cons]at hl hm
     have h1:x∈y :: m:=p.mem_iff.mp List.mem_cons_self
     have h2:y∈x :: l:=p.mem_iff.mpr List.mem_cons_self
     have e:x=y:=by
       rcases List.mem_cons.mp h1 with e | h1
       . exact e
       . rcases List.mem_cons.mp h2 with e | h2
         . exact e.symm
         . have a:=hl.1 y h2
           have b:=hm.1 x h1
           omega
     subst e
     rw [zkQ (List.perm_cons x |>.mp p) hl.2 hm.2]
section
variable {W:Nat->Hp->Prop}{X:Cx}{F:Addr->Prop}{G:GP}{env:zD}{σ:L2.St}{ρ:List Addr}{H:Hp}{h:MH}{a b c e o:Expr}{es:List Expr}{ma mb mc:ME D}{ml ml':ME (List D)}{pos p p1 p2 apos:Pos}{Q:VK}{k:Nat}
theorem ztM:zdk X (.builtin "sorted") (fun xs H Q=>∃ (a:Addr) (ns:List Int),xs=[.ref a]∧SqL X.K H a (ns.map V.int)∧ns.length < 64∧∀ p,H p=none->Q (.ref p) (upd H p (.lst ((zb7 ns).map V.int)))):=by
 intro pins s σ H xs us Q I r h
 obtain ⟨a,ns,rfl,hq,hn,q⟩:=h
 obtain ⟨u,rfl,ru⟩:=zer r
 cases ru
 obtain ⟨its,rv,pl,hz⟩:=I.list hq
 have hlen:=rv.length
 rw [List.length_map]at hlen
 refine PyProof.Rows.sorted_ints (ns:=ns) pl.isList (ztm rv) ω fun out ns' h1 h2 h3=>?_
 have e:ns'=zb7 ns:=zkQ (h2.trans (zjI ns).symm) h3 (zlv ns)
 subst e
 obtain ⟨ep,he⟩:=PyProof.Rows.sortedAll_at s.heap its out
 refine ⟨.ref (s.heap.objs.size+1),_,I.laid (t':=s.toks) (a:=s.heap.objs.size+1) (o := .lst ((zb7 ns).map V.int)) (fun b o e=>PyProof.Rows.sortedAll_old e) (Nat.le_succ _) ?_,rfl,q _ (I.hok.fresh (Nat.le_succ _))⟩
 refine ⟨?_,out.toList,ep,zjN h1,?_⟩
 . rw [List.length_map,(zjI ns).length_eq,hlen,<- hlen,<- List.length_map (f:=V.int)];exact hz
 . rw [Array.toArray_toList];exact he
theorem zrr (rm:zO k X.A) (hg:Gl X "sorted") (hm:X.mg "sorted" = none) (ha:JE X e (tL W G ml)) (hs:starEach [e] X.env=(false,eval e X.env) :: starEach [] X.env):JE X (.Call (.Name "sorted" p) [e] [] pos) (tN W G (zh0 ml)) :=
 .of (zX (zdJ ztM hg hm ϰ (zbC ha.to zce hs) (he:=hs)) fun σ H Q ⟨F,ρ,env,h,er,hr,w⟩=>zdU ⟨F,ρ,env,h,er,hr,zI w fun xs h1 ρ1 H1 y e1 er1 hr1 ⟨q,us,ey,hq,rs⟩ w1=>by
   subst ey
   cases eb:zcl xs with
   | none=>rw [eb]at w1;exact w1.elim
   | some ns =>
     rw [eb]at w1
     have e2:=RDs.of_ints eb rs
     subst e2
     by_cases hl:ns.length < 64
     . dsimp only at w1
       rw [if_pos hl]at w1
       exact ⟨q,ns,rfl,SqL.of hq,hl,fun d hd=>wp.made (h:=h1) w1 er1 hr1 hd (zeo hr1 hd (RDs.ints _))⟩
     . dsimp only at w1
       rw [if_neg hl]at w1;exact w1.elim⟩)
theorem zt0 {a:Expr}{ta:TE} (hc:X.calm=true) (hg:Gl X "list") (hm:X.mg "list" = none) (hg':Gl X "range") (hm':X.mg "range" = none) (ha:PE X a ta) (hs:starEach [a] X.env=(false,eval a X.env) :: starEach [] X.env) :
   PE X (.Call (.Name "list" p) [.Call (.Name "range" p1) [a] [] p2] [] pos) (fun σ H Q=>ta σ H fun x H1=>∃ j:Int,x = .int j∧-1000000<=j∧j<=1000000∧∀ q,H1 q=none->Q (.ref q) (upd H1 q (.lst ((List.range j.toNat).map fun (k:Nat)=>V.int k)))):=by
 intro pins s σ H Q I h
 have hbl:bootBuiltins ("list":Str)=some (.type "list"):=by decide +kernel
 have hbr:bootBuiltins ("range":Str)=some (.type "range"):=by decide +kernel
 refine wpAny_Call_Name_kw (zfh I hg hm hbl ?_ ϑ ϑ)
 refine PyProof.Rows.callWith_type1 (pos:=pos) ?_ zbm rfl
 rw [zbm]
 refine Calls.spliced_cons (wpAny_Call_Name_kw (zfh I hg' hm' hbr ?_ ϑ ϑ))
 refine PyProof.Rows.callWith_type1 (pos:=p2) ?_ hs rfl
 rw [hs]
 refine Calls.spliced_cons (thn (ha pins s σ H _ I h) fun v s1 ⟨x,H1,I1,r1,q1⟩=>Calls.spliced_nil ?_)
 obtain ⟨j,e,j1,j2,q⟩:=q1
 subst e
 obtain ⟨t,rfl⟩:=r1
 refine call_range_1 (Calls.spliced_nil ?_)
 have hsz:Builtin.Range.rangeSize 0 j 1=(j.toNat:Nat):=by rw [rangeSize_one];split <;> omega
 have I2:Inv X pins σ H1 { s1 with heap:=s1.heap.push { cls := .type "range",data := .fields #[.int 0 s1.toks,.int j t,.int 1 (s1.toks+1)] },toks:=s1.toks+1+1 }:=I1.kept fun b o e=>Heap.get?_push_of_some _ e
 refine call_list_range (n:=j.toNat) (I.ok.hd hc) (IsRange.new ..) (small_one ω ω ω ω) hsz ω fun h' tk acc' c' hk hat hit=>?_
 refine ⟨.ref _,_,I2.laid (h':=h') (t':=tk) (o := .lst ((List.range j.toNat).map fun (k:Nat)=>V.int k)) hk (Nat.le_refl _) ?_,rfl,q _ (I2.hok.fresh (Nat.le_refl _))⟩
 refine ⟨?_,acc'.toList,c',?_,by rw [Array.toArray_toList];exact hat⟩
 . rw [List.length_map,List.length_range];exact zhg ω
 . obtain ⟨hs1,hs2⟩:=hit
   have key:∀ (n:Nat) (l:List Value),l.length=n->(∀ (i:Nat) v,l[i]?=some v->∃ t,v=Value.int (i:Int) t)->zr ((List.range n).map fun (k:Nat)=>V.int k) l:=by
     intro n
     induction n with
     | zero=>intro l hl _;cases l <;> simp at hl;exact .nil
     | succ n ih =>
       intro l hl hv
       have e:l=l.dropLast++[l.getLast (by intro z;rw [z]at hl;cases hl)]:=(List.dropLast_concat_getLast _).symm
       rw [List.range_succ,List.map_append,e]
       refine zr.append (ih _ (by rw [List.length_dropLast];omega) fun i v hi=>hv i v ?_) ?_
       . rw [e,List.getElem?_append_left (List.getElem?_eq_some_iff.mp hi).1];exact hi
       . have hne:l≠[]:=by intro z;rw [z]at hl;cases hl
         obtain ⟨t',ht'⟩:=hv n (l.getLast hne) (by rw [List.getLast_eq_getElem];simp [hl])
         exact .cons ⟨t',ht'⟩ .nil
   refine key _ _ (by rw [Array.length_toList];exact hs1) fun i v hi=>?_
   obtain ⟨t',ht'⟩:=hs2 i v (by simpa using hi)
   exact ⟨t',by rw [ht'];simp⟩
theorem zrH (hg:Gl X "list") (hm:X.mg "list" = none) (hg':Gl X "range") (hm':X.mg "range" = none) (ha:JE X e (tE W G ma)) (hs:starEach [e] X.env=(false,eval e X.env) :: starEach [] X.env) (hc:X.calm=true:=by rfl) :
   JE X (.Call (.Name "list" p) [.Call (.Name "range" p1) [e] [] p2] [] pos) (tN W G (zhZ ma)) :=
 .of (zX (zt0 hc hg hm hg' hm' ha.to hs) fun σ H Q ⟨F,ρ,env,h,er,hr,w⟩=>⟨F,ρ,env,h,er,hr,zI w fun x h1 ρ1 H1 y e1 er1 hr1 r1 w1=>by
   cases x with
   | int i =>
     have r1:RD ρ1 H1 (.int i) y:=r1
     unfold RD at r1
     by_cases hl:-1000000<=i∧i<=1000000
     . dsimp only at w1
       rw [if_pos hl]at w1
       refine ⟨i,r1,hl.1,hl.2,fun d hd=>wp.made (h:=h1) w1 er1 hr1 hd (zeo hr1 hd ?_)⟩
       have:=RDs.ints (ρ:=ρ1) (H:=H1) ((List.range i.toNat).map fun (k:Nat)=>(k:Int))
       rw [List.map_map,List.map_map]at this
       exact this
     . dsimp only at w1
       rw [if_neg hl]at w1;exact w1.elim
   | _=>exact w1.elim⟩)
end
end MI
end
section
namespace MI
open PySem PySem.Spec L2
noncomputable def tyN:Ty->String
 | .int => "int"
 | .bool => "bool"
 | .str => "str"
 | .list => "list"
 | .tuple => "tuple"
 | .dict => "dict"
section
variable {W:Nat->Hp->Prop}{X:Cx}{F:Addr->Prop}{G:GP}{env:zD}{σ:L2.St}{ρ:List Addr}{H:Hp}{h:MH}{a b c e o:Expr}{es:List Expr}{ma mb mc mo:ME D}{ml ml':ME (List D)}{pos p p1 p2 apos cpos:Pos}{Q:VK}{k:Nat}
theorem ztE {t:Ty}{x:D}{v:V}{b:Bool} (hr:HR F G ρ h H) (r:RD ρ H x v) (e:zbH h t x=some b):∃ u,zcR X.K H v u∧PySem.W.kitOne X.K u (.type (tyN t))=some b:=by
 cases x with
 | non=>unfold RD at r;subst r;cases e;exact ⟨_,.non,by cases t <;> rfl⟩
 | bl x=>unfold RD at r;subst r;cases e;exact ⟨_,.bl x,by cases t <;> rfl⟩
 | int x=>unfold RD at r;subst r;cases e;exact ⟨_,.int x,by cases t <;> rfl⟩
 | str x=>unfold RD at r;subst r;cases e;exact ⟨_,.str x,by cases t <;> rfl⟩
 | tup ds =>
   unfold RD at r
   obtain ⟨q,vs,rfl,hq,_⟩:=r
   cases e;exact ⟨_,.tup hq,by cases t <;> rfl⟩
 | obj n =>
   simp only [zbH]at e
   cases qo:h[n]? with
   | none=>rw [qo]at e;cases e
   | some o =>
     rw [qo]at e
     cases o with
     | lst xs =>
       obtain ⟨q,vs,rfl,_,hq,_⟩:=hr.lst r qo
       cases e;exact ⟨_,.lst hq,by cases t <;> rfl⟩
     | dic xs =>
       obtain ⟨q,vs,rfl,_,hq,_⟩:=hr.dic r qo
       cases e;exact ⟨_,.dK hq,by cases t <;> rfl⟩
     | _=>cases e
theorem zdA {t:Ty}{x:Str} (hg:Gl X "isinstance") (hm:X.mg "isinstance" = none) (hg':Gl X x) (hm':X.mg x=none) (ha:JE X e (tE W G ma)) (hs:starEach [e,.Name x p1] X.env=(false,eval e X.env) :: starEach [.Name x p1] X.env)
   (hv:bootBuiltins x=some (.type (tyN t)):=by decide +kernel) (hn:x ≠ "__name__":=by decide) (hd:(x == ("__debug__":Str))=false:=by decide):JE X (.Call (.Name "isinstance" p) [e,.Name x p1] [] pos) (tE W G (zcs t ma)) :=
 .of (zX (zdJ zmJ hg hm ϰ (zbC ha.to (zbC (zkB (v := .ty (tyN t)) hg' hm' hv rfl hn hd) zce zh) hs) (he:=hs) (hpl:=by rw [zh];rfl)) fun σ H Q ⟨F,ρ,env,h,er,hr,w⟩=>by
   refine ⟨F,ρ,env,h,er,hr,zI w fun x' h1 ρ1 H1 y e1 er1 hr1 r1 w1=>?_⟩
   cases eb:zbH h1 t x' with
   | none=>rw [eb]at w1;exact w1.elim
   | some b =>
     rw [eb]at w1
     obtain ⟨u,h2,h3⟩:=ztE (X:=X) hr1 r1 eb
     exact ⟨y,u,b,h2,.inl ⟨_,rfl,h3⟩,wp.done (h:=h1) w1 er1 hr1 (by unfold RD;rfl)⟩)
theorem zjy {sub att:Nat->Nat->Bool}{ci:Nat}{C:Addr}{x:Str} (ok:G.Ok sub att) (hC:G.cm[ci]?=some C) (hg:Gl X "isinstance") (hm:X.mg "isinstance" = none) (hg':Gl X x) (hm':X.mg x=some (.ref C)) (ha:JE X e (tE W G ma))
   (hs:starEach [e,.Name x p1] X.env=(false,eval e X.env) :: starEach [.Name x p1] X.env) (hK:X.K=G.K:=by rfl) (hd:(x == ("__debug__":Str))=false:=by decide):JE X (.Call (.Name "isinstance" p) [e,.Name x p1] [] pos) (tE W G (ze6 sub ci ma)) :=
 .of (zX (zdJ zmJ hg hm ϰ (zbC ha.to (zbC (ze1 (v := .ref C) hg' hm' rfl hd) zce zh) hs) (he:=hs) (hpl:=by rw [zh];rfl)) fun σ H Q ⟨F,ρ,env,h,er,hr,w⟩=>by
   refine ⟨F,ρ,env,h,er,hr,zI w fun x' h1 ρ1 H1 y e1 er1 hr1 r1 w1=>?_⟩
   have r1:RD ρ1 H1 x' y:=r1
   cases x' with
   | obj n =>
     dsimp only at w1
     cases qo:h1[n]? with
     | none=>rw [qo]at w1;exact w1.elim
     | some o =>
       rw [qo]at w1
       cases o with
       | ins c fs =>
         obtain ⟨q,C',dx,vs,rfl,_,hC',hq,_⟩:=hr1.ins r1 qo
         obtain ⟨h2,h3⟩:=ok.cls c C' hC'
         refine ⟨.ref q,.ref C',sub c ci,.ins hq (by rw [hK];exact h2) (by rw [hK];exact h3.ha) (by rw [hK];exact h3.hn) (by rw [hK];exact h3.htk) (by rw [hK];exact h3.hm),.inr ⟨C,rfl,?_⟩,wp.done (h:=h1) w1 er1 hr1 (by unfold RD;rfl)⟩
         rw [hK];exact ok.isa c ci C' C hC' hC
       | _=>exact w1.elim
   | _=>exact w1.elim)
theorem zlO {l:List Str} (hl:l.Nodup) {i j:Nat}{x:Str} (h1:l[i]?=some x) (h2:l[j]?=some x):i=j:=zjJ hl h1 h2
theorem FRs.lookup {C:Addr} (nd:G.an.Nodup) {f:Str}{kk:Nat} (hf:G.an[kk]?=some f):∀ {fs:List (Nat×D)}{vs:List (Str×V)}{d:D},FRs G ρ H C fs vs->fs.lookup kk=some d->∃ v,vs.lookup f=some v∧RD ρ H d v∧zcB G.K C f
 | [],vs,d,r,e=>by simp at e
 | p :: fs,vs,d,r,e=>by
   unfold FRs at r
   obtain ⟨g,v,q,rfl,h1,h2,h3,h4⟩:=r
   obtain ⟨i,d'⟩:=p
   rw [List.lookup_cons]at e
   by_cases hi:kk=i
   . subst hi
     simp at e
     subst e
     rw [hf]at h1;cases h1
     exact ⟨v,by rw [List.lookup_cons];simp,h3,h2⟩
   . have b:(kk == i)=false:=by simpa using hi
     rw [b]at e
     obtain ⟨v',e1,e2,e3⟩:=FRs.lookup nd hf h4 e
     refine ⟨v',?_,e2,e3⟩
     have hne:¬ f=g:=fun z=>hi (zlO nd (z ▸ hf) h1)
     have b':(f == g)=false:=by simpa using hne
     rw [List.lookup_cons,b']
     exact e1
theorem FRs.none {C:Addr}{f:Str} (hf:∀ kk:Nat,G.an[kk]?≠some f):∀ {fs:List (Nat×D)}{vs:List (Str×V)},FRs G ρ H C fs vs->vs.lookup f=none
 | [],vs,r=>by unfold FRs at r;subst r;rfl
 | p :: fs,vs,r=>by
   unfold FRs at r
   obtain ⟨g,v,q,rfl,h1,h2,h3,h4⟩:=r
   have hne:¬ f=g:=fun z=>hf p.1 (z ▸ h1)
   have b':(f == g)=false:=by simpa using hne
   rw [List.lookup_cons,b']
   exact FRs.none hf h4
theorem FRs.put {C:Addr} (nd:G.an.Nodup) {f:Str}{kk:Nat}{d:D}{v:V} (hf:G.an[kk]?=some f) (hn:zcB G.K C f) (rd:RD ρ H d v):∀ {fs:List (Nat×D)}{vs:List (Str×V)},FRs G ρ H C fs vs->FRs G ρ H C (zdV kk d fs) (zb4 f v vs)
 | [],vs,r=>by
   unfold FRs at r;subst r
   show FRs G ρ H C [(kk,d)] [(f,v)]
   unfold FRs
   exact ⟨f,v,[],rfl,hf,hn,rd,by unfold FRs;rfl⟩
 | p :: fs,vs,r=>by
   unfold FRs at r
   obtain ⟨g,u,q,rfl,h1,h2,h3,h4⟩:=r
   unfold zdV zb4
   by_cases hi:p.1=kk
   . rw [if_pos hi]
     rw [hi,hf]at h1;cases h1
     rw [if_pos rfl]
     unfold FRs
     exact ⟨f,v,q,rfl,hf,hn,rd,h4⟩
   . rw [if_neg hi]
     have hne:¬ g=f:=fun z=>hi (zlO nd (z ▸ h1) hf)
     rw [if_neg hne]
     unfold FRs
     exact ⟨g,u,_,rfl,h1,h2,h3,FRs.put nd hf hn rd h4⟩
theorem zbE {sub att:Nat->Nat->Bool}{kk:Nat}{f:Str} (ok:G.Ok sub att) (hf:G.an[kk]?=some f) (ha:JE X e (tE W G ma)) (hb:attributeBase e f X.env (eval e X.env)=eval e X.env) (hK:X.K=G.K:=by rfl):JE X (.Attribute e f pos) (tE W G (fld kk ma)) :=
 .of (zX (zq3 ha.to hb) fun σ H Q ⟨F,ρ,env,h,er,hr,w⟩=>⟨F,ρ,env,h,er,hr,zI w fun x h1 ρ1 H1 y e1 er1 hr1 r1 w1=>by
   have r1:RD ρ1 H1 x y:=r1
   cases x with
   | obj n =>
     dsimp only at w1
     cases qo:h1[n]? with
     | none=>rw [qo]at w1;exact w1.elim
     | some o =>
       rw [qo]at w1
       cases o with
       | ins c fs =>
         dsimp only at w1
         obtain ⟨q,C,dx,vs,rfl,_,hC,hq,rs⟩:=hr1.ins r1 qo
         cases ql:fs.lookup kk with
         | none=>rw [ql]at w1;exact w1.elim
         | some d =>
           rw [ql]at w1
           obtain ⟨v,h2,h3,h4⟩:=rs.lookup ok.nd hf ql
           exact ⟨q,C,dx,vs,v,rfl,hq,by rw [hK];exact (ok.cls c C hC).1,by rw [hK];exact h4,h2,wp.done (h:=h1) w1 er1 hr1 h3⟩
       | _=>exact w1.elim
   | _=>exact w1.elim⟩)
theorem zt5 {q:Addr}{u:HO}{ob:O}{Q:VK} (w:wp F W G rV env σ ρ H (zgg ob env h) Q) (er:zY ρ H env σ) (hr:HR F G ρ h H) (hq:H q=none) (ro:RO G (ρ++[q]) (upd H q u) q ob):Q (.ref q) (upd H q u):=by
 have ex:Ext F ρ (ρ++[q]) H (upd H q u):=⟨⟨[q],rfl⟩,(zck hr hq).tup,(zck hr hq).frm⟩
 refine w (ρ++[q]) _ (.ref q) ex (er.ext ex) ((hr.new hq).named (hr.fresh hq) ro) ?_
 show RD _ _ (.obj h.length) (.ref q)
 unfold RD
 exact ⟨q,rfl,by rw [<- hr.len];simp⟩
theorem zli:JE X (.Dict [] [] pos) (tE W G zhW) :=
 .of (zX zrB fun σ H Q ⟨F,ρ,env,h,er,hr,w⟩=>fun q hq=>zt5 w er hr hq ⟨[],zbc,by unfold KRs;rfl⟩)
theorem zl6 {n:Nat}{q:Addr}{xs ys:List D}{us vs:List V}{Q:VK}{d:D}{v:V} (w:wp F W G rV env σ ρ H (.ok d (h.set n (.lst ys))) Q) (er:zY ρ H env σ) (hr:HR F G ρ h H) (e:h[n]?=some (.lst xs)) (eq:ρ[n]?=some q) (hq:H q=some (.lst us))
   (rs:RDs ρ H ys vs) (rd:RD ρ H d v):Q v (upd H q (.lst vs)):=by
 have tp:Ext (fun _=>False) ρ ρ H (upd H q (.lst vs)):=by
   refine ⟨⟨[],ς⟩,fun b xs z=>?_,fun _ z=>z.elim⟩
   rw [zt]
   . exact z
   . intro zz;subst zz;rw [hq]at z;cases z
 obtain ⟨ex,hr'⟩:=hr.write (o1 := .lst ys) (u := .lst vs) e eq rfl rfl hq trivial ⟨vs,zbc,RDs.ext tp _ _ rs⟩
 exact w ρ _ v ex (er.ext ex) hr' (RD.ext ex _ _ rd)
theorem zpN {x:D}{kk:Unit->ME D}{Q:VK} (w:wp F W G rV env σ ρ H (zm (isL x) kk env h) Q):∃ n xs,x = .obj n∧h[n]?=some (.lst xs)∧wp F W G rV env σ ρ H (kk () env h) Q:=by
 cases x with
 | obj n =>
   simp only [zm,isL]at w
   cases qo:h[n]? with
   | none=>rw [qo]at w;exact w.elim
   | some o =>
     rw [qo]at w
     cases o with
     | lst xs=>exact ⟨n,xs,rfl,qo,w⟩
     | _=>exact w.elim
 | _=>exact w.elim
theorem zev (ho:JE X o (tE W G mo)) (ha:JE X e (tE W G ma)) (hs:starEach [e] X.env=(false,eval e X.env) :: starEach [] X.env) (hbase:attributeBase o "append" X.env (eval o X.env)=eval o X.env:=by rfl)
   (hfew:((backTo cpos (starEach [e] X.env)).all (fun x=>!x.1) && (backToKw cpos (keywordEach [] X.env)).all (fun x=>x.1.isSome) && decide (([e]:List Expr).length+([]:List Keyword).length+(if ([]:List Keyword).isEmpty then 0 else 1) < 30))=true:=by rfl)
   (hline:(apos.endLine == cpos.line)=true:=by rfl):JE X (.Call (.Attribute o "append" apos) [e] [] cpos) (tE W G (zbu mo ma)) :=
 .of (zX (zp8 PySem.F.plainAttrs_list PySem.F.slot_list_append PySem.F.type_list_append zjK ho.to (zbC ha.to zce hs) hbase hfew hline hs) fun σ H Q ⟨F,ρ,env,h,er,hr,w⟩=>⟨F,ρ,env,h,er,hr,zI w fun x h1 ρ1 H1 y e1 er1 hr1 r1 w1=>by
   obtain ⟨n,xs,rfl,qo,w2⟩:=zpN w1
   obtain ⟨q,vs,rfl,_,hq,_⟩:=hr1.lst r1 qo
   refine ⟨.inl ⟨rfl,_,SqL.of hq⟩,zdU ⟨F,ρ1,env,h1,er1,hr1,zI w2 fun z h2 ρ2 H2 yz e2 er2 hr2 r2 w3=>?_⟩⟩
   dsimp only at w3
   cases qo2:h2[n]? with
   | none=>rw [qo2]at w3;exact w3.elim
   | some o2 =>
     rw [qo2]at w3
     cases o2 with
     | lst xs2 =>
       dsimp only at w3
       by_cases hl:xs2.length < 1000000
       . rw [if_pos hl]at w3
         obtain ⟨q2,vs2,ev,eq2,hq2,rs2⟩:=hr2.lst (RD.ext e2 _ _ r1) qo2
         cases ev
         exact ⟨q,vs2,yz,rfl,rfl,hq2,by rw [<- rs2.length,sizeLine_eq];omega,zl6 w3 er2 hr2 qo2 eq2 hq2 (rs2.snoc r2) (by unfold RD;rfl)⟩
       . rw [if_neg hl]at w3;exact w3.elim
     | _=>exact w3.elim⟩)
theorem ztr (ho:JE X o (tE W G mo)) (hbase:attributeBase o "reverse" X.env (eval o X.env)=eval o X.env:=by rfl) (hline:(apos.endLine == cpos.line)=true:=by rfl):JE X (.Call (.Attribute o "reverse" apos) [] [] cpos) (tE W G (zhV mo)) :=
 .of (zX (zpP PySem.F.plainAttrs_list PySem.F.slot_list_reverse PySem.F.type_list_reverse zt4 ho.to hbase hline) fun σ H Q ⟨F,ρ,env,h,er,hr,w⟩=>⟨F,ρ,env,h,er,hr,zI w fun x h1 ρ1 H1 y e1 er1 hr1 r1 w1=>by
   cases x with
   | obj n =>
     dsimp only at w1
     cases qo:h1[n]? with
     | none=>rw [qo]at w1;exact w1.elim
     | some o =>
       rw [qo]at w1
       cases o with
       | lst xs =>
         obtain ⟨q,vs,rfl,eq,hq,rs⟩:=hr1.lst r1 qo
         exact ⟨.inl ⟨rfl,_,SqL.of hq⟩,q,vs,rfl,rfl,hq,zl6 w1 er1 hr1 qo eq hq rs.reverse (by unfold RD;rfl)⟩
       | _=>exact w1.elim
   | _=>exact w1.elim⟩)
end
end MI
end
section
namespace MI
open PySem PySem.Spec L2
noncomputable def wpS (F:Addr->Prop) (W:Nat->Hp->Prop) (G:GP) (ρ:List Addr) (H:Hp) (r:RS) (E:zcj):Prop:=match r with
 | .nx e h1=>∀ ρ1 H1 σ1,Ext F ρ ρ1 H H1->zY ρ1 H1 e σ1->HR F G ρ1 h1 H1->E.nx σ1 H1
 | .bk e h1=>∀ ρ1 H1 σ1,Ext F ρ ρ1 H H1->zY ρ1 H1 e σ1->HR F G ρ1 h1 H1->E.bk σ1 H1
 | .ct e h1=>∀ ρ1 H1 σ1,Ext F ρ ρ1 H H1->zY ρ1 H1 e σ1->HR F G ρ1 h1 H1->E.ct σ1 H1
 | .rt v h1=>∀ ρ1 H1 v1,Ext F ρ ρ1 H H1->HR F G ρ1 h1 H1->RD ρ1 H1 v v1->E.rt v1 H1
 | .ex c h1=>∀ ρ1 H1,Ext F ρ ρ1 H H1->HR F G ρ1 h1 H1->W c H1
 | .bad=>False
noncomputable def tS (W:Nat->Hp->Prop) (G:GP) (m:MS):TS:=fun E σ H=>∃ F ρ env h,zY ρ H env σ∧HR F G ρ h H∧wpS F W G ρ H (m env h) E
section
variable {F:Addr->Prop}{W:Nat->Hp->Prop}{G:GP}{env:zD}{σ:L2.St}{ρ ρ1:List Addr}{H H1:Hp}{h h1:MH}{E:zcj}
theorem wpS.mono {r:RS} (w:wpS F W G ρ H r E) (e:Ext F ρ ρ1 H H1):wpS F W G ρ1 H1 r E:=by
 cases r with
 | nx v h1=>exact fun ρ2 H2 v1 e2=>w ρ2 H2 v1 (e.trans e2)
 | bk v h1=>exact fun ρ2 H2 v1 e2=>w ρ2 H2 v1 (e.trans e2)
 | ct v h1=>exact fun ρ2 H2 v1 e2=>w ρ2 H2 v1 (e.trans e2)
 | rt v h1=>exact fun ρ2 H2 v1 e2=>w ρ2 H2 v1 (e.trans e2)
 | ex c h1=>exact fun ρ2 H2 e2=>w ρ2 H2 (e.trans e2)
 | bad=>exact w
theorem wpS_bind {α β:Type}{Rl:RL α β}{m:ME α}{k:α->MS}{P:β->Hp->Prop} (w:wpS F W G ρ H (zci m k env h) E)
   (f:∀ x h1 ρ1 H1 y,Ext F ρ ρ1 H H1->zY ρ1 H1 env σ->HR F G ρ1 h1 H1->Rl F ρ1 h1 H1 x y->wpS F W G ρ1 H1 (k x env h1) E->P y H1):wp F W G Rl env σ ρ H (m env h) P:=by
 unfold zci at w
 cases e:m env h with
 | ok v h1 =>
   rw [e]at w
   exact fun ρ1 H1 y ex er hr rl=>f v h1 ρ1 H1 y ex er hr rl (w.mono ex)
 | ex c h1=>rw [e]at w;exact w
 | bad=>rw [e]at w;exact w
theorem wpS.done {e:zD}{σ1:L2.St} (w:wpS F W G ρ H (.nx e h) E) (er:zY ρ H e σ1) (hr:HR F G ρ h H):E.nx σ1 H:=w ρ H σ1 Ext.refl er hr
end
@[irreducible] noncomputable def JS (X:Cx) (e:Stmt) (t:TS):Prop:=PS X e t
@[irreducible] noncomputable def JSs (X:Cx) (e:List Stmt) (t:TS):Prop:=PSs X e t
@[irreducible] noncomputable def JG (X:Cx) (e:Expr) (t:TG):Prop:=PG X e t
@[irreducible] noncomputable def JGs (X:Cx) (e:List Expr) (t:TGs):Prop:=PGs X e t
@[irreducible] noncomputable def JI (X:Cx) (tg e:Expr) (t:TI):Prop:=PI X tg e t
@[irreducible] noncomputable def zdi (X:Cx) (e:List Expr) (t:TT):Prop:=zeX X e t
theorem JS.to {X:Cx}{e:Stmt}{t:TS} (h:JS X e t):PS X e t:=by unfold JS at h;exact h
theorem JS.of {X:Cx}{e:Stmt}{t:TS} (h:PS X e t):JS X e t:=by unfold JS;exact h
theorem JSs.to {X:Cx}{e:List Stmt}{t:TS} (h:JSs X e t):PSs X e t:=by unfold JSs at h;exact h
theorem JSs.of {X:Cx}{e:List Stmt}{t:TS} (h:PSs X e t):JSs X e t:=by unfold JSs;exact h
theorem JG.to {X:Cx}{e:Expr}{t:TG} (h:JG X e t):PG X e t:=by unfold JG at h;exact h
theorem JG.of {X:Cx}{e:Expr}{t:TG} (h:PG X e t):JG X e t:=by unfold JG;exact h
theorem JGs.to {X:Cx}{e:List Expr}{t:TGs} (h:JGs X e t):PGs X e t:=by unfold JGs at h;exact h
theorem JGs.of {X:Cx}{e:List Expr}{t:TGs} (h:PGs X e t):JGs X e t:=by unfold JGs;exact h
theorem JI.to {X:Cx}{tg e:Expr}{t:TI} (h:JI X tg e t):PI X tg e t:=by unfold JI at h;exact h
theorem JI.of {X:Cx}{tg e:Expr}{t:TI} (h:PI X tg e t):JI X tg e t:=by unfold JI;exact h
theorem zdi.to {X:Cx}{e:List Expr}{t:TT} (h:zdi X e t):zeX X e t:=by unfold zdi at h;exact h
theorem zdi.of {X:Cx}{e:List Expr}{t:TT} (h:zeX X e t):zdi X e t:=by unfold zdi;exact h
theorem zct {X:Cx}{e:Stmt}{t t':TS} (h:PS X e t) (i:∀ E σ H,t' E σ H->t E σ H):PS X e t':=fun pins s σ H E I hw=>h pins s σ H E I (i _ _ _ hw)
theorem zkL {X:Cx}{e:List Stmt}{t t':TS} (h:PSs X e t) (i:∀ E σ H,t' E σ H->t E σ H):PSs X e t':=fun pins s σ H E I hw=>h pins s σ H E I (i _ _ _ hw)
theorem zlg {X:Cx}{e:Expr}{t t':TG} (h:PG X e t) (i:∀ v σ H Q,t' v σ H Q->t v σ H Q):PG X e t':=fun pins s σ H v u Q I r hw=>h pins s σ H v u Q I r (i _ _ _ _ hw)
theorem zlu {X:Cx}{e:List Expr}{t t':TGs} (h:PGs X e t) (i:∀ v σ H Q,t' v σ H Q->t v σ H Q):PGs X e t':=fun pins s σ H v u Q I r hw=>h pins s σ H v u Q I r (i _ _ _ _ hw)
section
variable {W:Nat->Hp->Prop}{X:Cx}{F:Addr->Prop}{G:GP}{env:zD}{σ:L2.St}{ρ:List Addr}{H:Hp}{h:MH}{a b c e o:Expr}{es:List Expr}{st:Stmt}{rest bd bd2:List Stmt}{ma mb mc mo:ME D}{ml ml':ME (List D)}{mt:ME Bool}{m1 m2:MS}{pos p p1 p2 tpos:Pos}{k i:Nat}{x:Str}
theorem zbb:JSs X [] (tS W G zB) := .of (zkL zlD fun E σ H ⟨F,ρ,env,h,er,hr,w⟩=>wpS.done (h:=h) w er hr)
theorem zq (h1:JS X st (tS W G m1)):JSs X [st] (tS W G m1) := .of (zl4 h1.to)
theorem zn (h1:JS X st (tS W G m1)) (h2:JSs X rest (tS W G m2)):JSs X (st :: rest) (tS W G (zg m1 m2)) :=
 .of (zkL (zji h1.to h2.to) fun E σ H ⟨F,ρ,env,h,er,hr,w⟩=>⟨F,ρ,env,h,er,hr,by
   unfold zg at w
   cases e:m1 env h with
   | nx e1 h1 =>
     rw [e]at w
     exact fun ρ1 H1 σ1 ex er1 hr1=>⟨F,ρ1,e1,h1,er1,hr1,w.mono ex⟩
   | bk e1 h1=>rw [e]at w;exact w
   | ct e1 h1=>rw [e]at w;exact w
   | rt v h1=>rw [e]at w;exact w
   | ex c h1=>rw [e]at w;exact w
   | bad=>rw [e]at w;exact w⟩)
theorem zdc (ha:JE X e (tE W G ma)) (hs:swapsWith e none pos.line X.env=pure false:=by rfl):JS X (.Expr e pos) (tS W G (zbh ma)) :=
 .of (zct (zuq ha.to hs) fun E σ H ⟨F,ρ,env,h,er,hr,w⟩=>⟨F,ρ,env,h,er,hr,wpS_bind w fun x h1 ρ1 H1 y e1 er1 hr1 r1 w1=>wpS.done (h:=h1) w1 er1 hr1⟩)
theorem zN (ha:JE X e (tE W G ma)):JS X (.Return (some e) pos) (tS W G (zC ma)) :=
 .of (zct (zln ha.to) fun E σ H ⟨F,ρ,env,h,er,hr,w⟩=>⟨F,ρ,env,h,er,hr,wpS_bind w fun x h1 ρ1 H1 y e1 er1 hr1 r1 w1=>w1 ρ1 H1 y Ext.refl hr1 r1⟩)
theorem z9 (hc:JT X c (tT W G mt)) (ha:JSs X bd (tS W G m1)) (hb:JSs X bd2 (tS W G m2)):JS X (.If c bd bd2 pos) (tS W G (ifS mt m1 m2)) :=
 .of (zct (zum hc.to ha.to hb.to) fun E σ H ⟨F,ρ,env,h,er,hr,w⟩=>⟨F,ρ,env,h,er,hr,wpS_bind w fun x h1 ρ1 H1 y e1 er1 hr1 r1 w1=>by
   obtain rfl:x=y:=r1
   cases x with
   | true=>rw [if_pos rfl]at w1 ⊢;exact ⟨F,ρ1,env,h1,er1,hr1,w1⟩
   | false=>rw [if_neg ϑ]at w1 ⊢;exact ⟨F,ρ1,env,h1,er1,hr1,w1⟩⟩)
noncomputable def tTg (G:GP) (t:Tg):TG:=fun v σ H Q=>∃ F ρ env h d env1,zY ρ H env σ∧HR F G ρ h H∧RD ρ H d v∧zcX t d env=some env1∧∀ σ1,zY ρ H env1 σ1->Q σ1 H
noncomputable def zin (l:List Nat):TGs:=fun vs σ H Q=>∃ ρ env ds env1,zY ρ H env σ∧RDs ρ H ds vs∧zdh l ds env=some env1∧∀ σ1,zY ρ H env1 σ1->Q σ1 H
theorem zcA (hN:X.N.Nodup) (hi:X.N[i]?=some x) (hx:Loc X.env.scope x) (hf:X.fn x=true∨X.env.scope.names.lookup x=some .local:=by first | exact .inl rfl | exact .inr rfl | assumption):JG X (.Name x pos) (tTg G (.nm i)) :=
 .of (zlg (zkt hN hi hx hf) fun v σ H Q ⟨F,ρ,env,h,d,env1,er,hr,r,e,q⟩=>by
   cases e
   exact q _ (er.set r i))
theorem zfb:JGs X [] (zin []) := .of (zlu zqi fun v σ H Q ⟨ρ,env,ds,env1,er,r,e,q⟩=>by
 cases ds with
 | nil=>unfold RDs at r;cases e;exact ⟨r,q σ er⟩
 | cons d ds=>cases e)
theorem zcq {l:List Nat} (hN:X.N.Nodup) (hi:X.N[i]?=some x) (hx:Loc X.env.scope x) (h2:JGs X es (zin l)) (hf:X.fn x=true∨X.env.scope.names.lookup x=some .local:=by first | exact .inl rfl | exact .inr rfl | assumption)
   (hs:(assignEach (.Name x pos :: es) X.env).map (·.2)=assign (.Name x pos) X.env :: (assignEach es X.env).map (·.2):=by rfl):JGs X (.Name x pos :: es) (zin (i :: l)) :=
 .of (zlu (zr4 (zkt hN hi hx hf) h2.to hs) fun v σ H Q ⟨ρ,env,ds,env1,er,r,e,q⟩=>by
   cases ds with
   | nil=>cases e
   | cons d ds =>
     unfold RDs at r
     obtain ⟨y,vs,rfl,r1,r2⟩:=r
     exact ⟨y,vs,rfl,ρ,_,ds,env1,er.set r1 i,r2,e,q⟩)
theorem zq8:∀ (l:List Nat) {ds:List D}{e e1:zD},zdh l ds e=some e1->ds.length=l.length:=by
 intro l
 induction l with
 | nil=>intro ds e e1 h;cases ds <;> first | rfl | cases h
 | cons i l ih =>
   intro ds e e1 h
   cases ds with
   | nil=>cases h
   | cons d ds=>simp [ih (ds:=ds) h]
theorem zeZ {l:List Nat}{n k:Nat} (hc:X.calm=true) (h:JGs X es (zin l)) (hl:n=l.length:=by rfl) (hn:(assignEach es X.env).length=n:=by rfl) (hst:(assignEach es X.env).findIdx? (·.1)=none:=by rfl):JG X (.Tuple es k pos) (tTg G (.tp l)) :=
 .of (zlg (zs3 hc h.to hn hst) fun v σ H Q ⟨F,ρ,env,hh,d,env1,er,hr,r,e,q⟩=>by
   cases d with
   | tup ds =>
     unfold RD at r
     obtain ⟨a,vs,rfl,ha,rs⟩:=r
     exact ⟨a,vs,rfl,SqT.of ha,by rw [<- rs.length,hl];exact zq8 l e,ρ,env,ds,env1,er,rs,e,q⟩
   | _=>cases e)
theorem zL (hN:X.N.Nodup) (hi:X.N[i]?=some x) (hx:Loc X.env.scope x) (ha:JE X e (tE W G ma)) (hs:swapsWith e (some (.Name x p)) pos.line X.env=pure false:=by rfl) (hf:X.fn x=true∨X.env.scope.names.lookup x=some .local:=by first | exact .inl rfl | exact .inr rfl | assumption) :
   JS X (.Assign [.Name x p] e pos) (tS W G (zk (.nm i) ma)) :=
 .of (zct (zjA hN hi hx ha.to hs hf) fun E σ H ⟨F,ρ,env,h,er,hr,w⟩=>⟨F,ρ,env,h,er,hr,wpS_bind w fun x h1 ρ1 H1 y e1 er1 hr1 r1 w1=>wpS.done (h:=h1) w1 (er1.set r1 i) hr1⟩)
theorem zjv {tg:Expr}{t:Tg} (ha:JE X e (tE W G ma)) (hg:JG X tg (tTg G t)) (hs:swapsWithSole [tg] e pos.line X.env=pure false:=by rfl) (hw:swappedStores [tg] e X.env=pure none:=by rfl)
   (h1:(assignEach [tg] X.env).map (·.2)=[assign tg X.env]:=by rfl):JS X (.Assign [tg] e pos) (tS W G (zk t ma)) :=
 .of (zct (zk2 ha.to hg.to hs hw h1) fun E σ H ⟨F,ρ,env,h,er,hr,w⟩=>⟨F,ρ,env,h,er,hr,wpS_bind w fun x h1 ρ1 H1 y e1 er1 hr1 r1 w1=>by
   unfold zhf at w1
   cases eb:zcX t x env with
   | none=>rw [eb]at w1;exact w1.elim
   | some env1 =>
     rw [eb]at w1
     exact ⟨F,ρ1,env,h1,x,env1,er1,hr1,r1,eb,fun σ1 er2=>w1.done er2 hr1⟩⟩)
theorem zk4 {j:Nat}{y:Str}{px py pt:Pos}{kt k2 pt2} (hN:X.N.Nodup) (hi:X.N[i]?=some x) (hj:X.N[j]?=some y) (ha:JA X [a,b] (tA W G ml)) (hij:i≠j:=by decide)
   (hx:X.env.scope.names.lookup x=some .local:=by rfl) (hy:X.env.scope.names.lookup y=some .local:=by rfl) (hc:X.calm=true:=by rfl)
   (hw:swappedStores [.Tuple [.Name x px,.Name y py] kt pt] (.Tuple [a,b] k2 pt2) X.env=pure (some [x,y]):=by rfl)
   (hs:swapsWithSole [.Tuple [.Name x px,.Name y py] kt pt] (.Tuple [a,b] k2 pt2) pos.line X.env=pure false:=by rfl) :
   JS X (.Assign [.Tuple [.Name x px,.Name y py] kt pt] (.Tuple [a,b] k2 pt2) pos) (tS W G (zd7 [i,j] ml)) :=
 .of (zct (zuC hc hN hi hj hij hx hy ha.to hw hs) fun E σ H ⟨F,ρ,env,h,er,hr,w⟩=>⟨F,ρ,env,h,er,hr,wpS_bind w fun xs h1 ρ1 H1 ys e1 er1 hr1 r1 w1=>by
   have r1:RDs ρ1 H1 xs ys:=r1
   match xs,w1 with
   | [u,v],w1 =>
     unfold RDs at r1
     obtain ⟨u',q,rfl,ru,r1⟩:=r1
     unfold RDs at r1
     obtain ⟨v',q,rfl,rv,r1⟩:=r1
     unfold RDs at r1
     subst r1
     exact ⟨u',v',rfl,wpS.done (h:=h1) w1 ((er1.set ru i).set rv j) hr1⟩
   | [],w1=>exact w1.elim
   | [_],w1=>exact w1.elim
   | _ :: _ :: _ :: _,w1=>exact w1.elim⟩)
theorem zrN {op:Operator}{r:R2}{f:D->D->ME D} (hN:X.N.Nodup) (hi:X.N[i]?=some x) (hx:Loc X.env.scope x) (ho:OpR X (inplaceOp op) r) (hf:OpM W G f r) (ha:JE X e (tE W G ma))
   (hfn:X.fn x=true∨X.env.scope.names.lookup x=some .local):JS X (.AugAssign (.Name x p) op e pos) (tS W G (zfW f i ma)) :=
 .of (zct (zuA (ti:=r) hN hi hx ha.to ho hfn) fun E σ H ⟨F,ρ,env,h,er,hr,w⟩=>by
   have w':wp F W G rV env σ ρ H ((zm (var i) fun x=>zm ma fun y=>f x y) env h) (fun z H2=>E.nx (σ.set i (some z)) H2):=wpS_bind w fun x h1 ρ1 H1 y e1 er1 hr1 r1 w1=>wpS.done (h:=h1) w1 (er1.set r1 i) hr1
   unfold zm var at w'
   cases ev:env[i]? with
   | none=>simp only [ev]at w';exact w'.elim
   | some od =>
     cases od with
     | none=>simp only [ev]at w';exact w'.elim
     | some d =>
       simp only [ev]at w'
       obtain ⟨v,h1,h2⟩:=er.all i d ev
       refine ⟨v,h1,F,ρ,env,h,er,hr,zI (k:=fun y=>f d y) w' fun y h1 ρ1 H1 u e1 er1 hr1 r1 w1=>?_⟩
       exact hf F ρ1 h1 H1 env σ d y v u _ er1 hr1 (RD.ext e1 _ _ h2) r1 w1)
theorem zps (hN:X.N.Nodup) (hi:X.N[i]?=some x) (hx:Loc X.env.scope x) (ha:JE X e (tE W G ma)) (hfn:X.fn x=true∨X.env.scope.names.lookup x=some .local:=by first | exact .inl rfl | exact .inr rfl | assumption) :
   JS X (.AugAssign (.Name x p) .Add e pos) (tS W G (zfW zE i ma)):=zrN hN hi hx zrg zlF ha hfn
theorem FRs.length {C:Addr}:∀ {fs:List (Nat×D)}{vs:List (Str×V)},FRs G ρ H C fs vs->vs.length=fs.length
 | [],vs,r=>by unfold FRs at r;subst r;rfl
 | p :: fs,vs,r=>by
   unfold FRs at r
   obtain ⟨g,v,q,rfl,h1,h2,h3,h4⟩:=r
   simp [FRs.length h4]
theorem zg6 {sub att:Nat->Nat->Bool}{kk:Nat}{f:Str} (ok:G.Ok sub att) (hf:G.an[kk]?=some f) (ho:JE X o (tE W G mo)) (ha:JE X e (tE W G ma)) (hs:swapsWith e (some (.Attribute o f p)) pos.line X.env=pure false) (hK:X.K=G.K:=by rfl) :
   JS X (.Assign [.Attribute o f p] e pos) (tS W G (zep att kk mo ma)) :=
 .of (zct (zri ho.to ha.to hs) fun E σ H ⟨F,ρ,env,h,er,hr,w⟩=>⟨F,ρ,env,h,er,hr,wpS_bind w fun y h1 ρ1 H1 vy e1 er1 hr1 r1 w1=>⟨F,ρ1,env,h1,er1,hr1,wpS_bind w1 fun x h2 ρ2 H2 vx e2 er2 hr2 r2 w2=>by
   have r1:RD ρ2 H2 y vy:=RD.ext e2 _ _ r1
   have r2:RD ρ2 H2 x vx:=r2
   cases x with
   | obj n =>
     dsimp only at w2
     cases qo:h2[n]? with
     | none=>rw [qo]at w2;exact w2.elim
     | some o =>
       rw [qo]at w2
       cases o with
       | ins c fs =>
         dsimp only at w2
         obtain ⟨q,C,dx,vs,rfl,eq,hC,hq,rs⟩:=hr2.ins r2 qo
         by_cases hl:(att c kk && decide (fs.length < 100))=true
         . rw [if_pos hl]at w2
           rw [Bool.and_eq_true,decide_eq_true_eq]at hl
           have hn:=ok.noat c C kk f hC hl.1 hf
           refine ⟨q,C,dx,vs,rfl,hq,by rw [hK];exact (ok.cls c C hC).1,by rw [hK];exact hn,by rw [rs.length];omega,?_⟩
           have tp:Ext (fun _=>False) ρ2 ρ2 H2 (upd H2 q (.ins C dx (zb4 f vy vs))):=by
             refine ⟨⟨[],ς⟩,fun b xs z=>?_,fun _ z=>z.elim⟩
             rw [zt]
             . exact z
             . intro zz;subst zz;rw [hq]at z;cases z
           obtain ⟨ex,hr'⟩:=hr2.write (o1 := .ins c (zdV kk y fs)) (u := .ins C dx (zb4 f vy vs)) qo eq rfl rfl hq trivial ⟨C,dx,_,hC,zbc,FRs.put ok.nd hf hn (RD.ext tp _ _ r1) (rs.map fun p _ v=>RD.ext tp _ _)⟩
           exact w2 ρ2 _ σ ex (er2.ext ex) hr'
         . rw [if_neg hl]at w2;exact w2.elim
       | _=>exact w2.elim
   | _=>exact w2.elim⟩⟩)
noncomputable def zt6:zha:=fun o i v H Q=>∃ a H',o = .ref a∧zgS H a i v H'∧Q H'
theorem zrw (hr:zO k X.A):zgd X zt6:=fun pins s σ H o i v ov iv u Q I ro ri rv ⟨a,H',e,g,q⟩=>by
 subst e;cases ro
 exact zuQ (zic hr) I g ri rv fun s' I'=>⟨H',I',q⟩
theorem zsY {t t':zha} (h:zgd X t) (h':zgd X t'):zgd X (fun o i v H Q=>t o i v H Q∨t' o i v H Q):=fun pins s σ H o i v ov iv u Q I ro ri rv q=>by
 rcases q with q | q
 . exact h pins s σ H o i v ov iv u Q I ro ri rv q
 . exact h' pins s σ H o i v ov iv u Q I ro ri rv q
theorem KRs.any {kk:Int}:∀ {kvs:List (Int×D)}{vs:List (Key×V)},KRs ρ H kvs vs->(kvs.any fun p=>decide (p.1=kk))=(vs.any fun kv=>decide (kv.1=(Sum.inl kk:Key)))
 | [],vs,r=>by unfold KRs at r;subst r;rfl
 | p :: kvs,vs,r=>by
   unfold KRs at r
   obtain ⟨u,q,rfl,r1,r2⟩:=r
   rw [List.any_cons,List.any_cons,KRs.any r2]
   congr 1
   exact decide_eq_decide.mpr ⟨fun z=>by rw [z],fun z=>Sum.inl.inj z⟩
theorem KRs.repl {kk:Int}{d:D}{v:V} (rd:RD ρ H d v):∀ {kvs:List (Int×D)}{vs:List (Key×V)},KRs ρ H kvs vs->KRs ρ H (kvs.map fun p=>if p.1=kk then (p.1,d) else p) (vs.map fun kv=>if kv.1=Sum.inl kk then (kv.1,v) else kv)
 | [],vs,r=>by unfold KRs at r;subst r;simp [KRs]
 | p :: kvs,vs,r=>by
   unfold KRs at r
   obtain ⟨u,q,rfl,r1,r2⟩:=r
   rw [List.map_cons,List.map_cons]
   unfold KRs
   by_cases e:p.1=kk
   . rw [if_pos e,if_pos (by rw [e])]
     exact ⟨v,_,rfl,rd,KRs.repl rd r2⟩
   . rw [if_neg e,if_neg (fun z=>e (Sum.inl.inj z))]
     exact ⟨u,_,rfl,r1,KRs.repl rd r2⟩
theorem KRs.snoc {kk:Int}{d:D}{v:V} (rd:RD ρ H d v):∀ {kvs:List (Int×D)}{vs:List (Key×V)},KRs ρ H kvs vs->KRs ρ H (kvs++[(kk,d)]) (vs++[(Sum.inl kk,v)])
 | [],vs,r=>by
   unfold KRs at r;subst r
   show KRs ρ H [(kk,d)] [(Sum.inl kk,v)]
   unfold KRs
   exact ⟨v,[],rfl,rd,by unfold KRs;rfl⟩
 | p :: kvs,vs,r=>by
   unfold KRs at r
   obtain ⟨u,q,rfl,r1,r2⟩:=r
   rw [List.cons_append,List.cons_append]
   unfold KRs
   exact ⟨u,_,rfl,r1,KRs.snoc rd r2⟩
theorem KRs.put {kk:Int}{d:D}{v:V} (rd:RD ρ H d v) {kvs:List (Int×D)}{vs:List (Key×V)} (r:KRs ρ H kvs vs):KRs ρ H (zdZ kk d kvs) (zcD vs (Sum.inl kk) v):=by
 unfold zdZ zcD
 rw [r.any]
 by_cases e:(vs.any fun kv=>decide (kv.1=(Sum.inl kk:Key)))=true
 . rw [if_pos e,if_pos e];exact r.repl rd
 . rw [if_neg e,if_neg e];exact r.snoc rd
theorem KRs.length:∀ {kvs:List (Int×D)}{vs:List (Key×V)},KRs ρ H kvs vs->kvs.length=vs.length
 | [],vs,r=>by unfold KRs at r;subst r;rfl
 | p :: kvs,vs,r=>by
   unfold KRs at r
   obtain ⟨u,q,rfl,r1,r2⟩:=r
   simp [KRs.length r2]
theorem zjx (rm:zO k X.A) (ho:JE X o (tE W G mo)) (hb:JE X b (tE W G mb)) (ha:JE X e (tE W G ma)) (hs:swapsWithSole [.Subscript o b p] e pos.line X.env=pure false:=by rfl) (hw:swappedStores [.Subscript o b p] e X.env=pure none:=by rfl)
   (h1:(assignEach [.Subscript o b p] X.env).map (·.2)=[assign (.Subscript o b p) X.env]:=by rfl)
   (hq:∀ v,assign (.Subscript o b p) X.env v=(do
     let ov <- holding [v] (eval o X.env)
     let iv <- holding [v,ov] (eval b X.env)
     standAt p
     holding [v,ov,iv] (setItem ov iv v)
     release [v,ov,iv] []):=by intro _;rfl):JS X (.Assign [.Subscript o b p] e pos) (tS W G (zdT mo mb ma)) :=
 .of (zct (zk2 ha.to (zp9 ho.to hb.to (zsY ztq (zrw rm)) hq) hs hw h1) fun E σ H ⟨F,ρ,env,h,er,hr,w⟩=>⟨F,ρ,env,h,er,hr,wpS_bind w fun y h1 ρ1 H1 vy e1 er1 hr1 r1 w1=>⟨F,ρ1,env,h1,er1,hr1,wpS_bind w1 fun x h2 ρ2 H2 vx e2 er2 hr2 r2 w2=>⟨F,ρ2,env,h2,er2,hr2,wpS_bind w2 fun z h3 ρ3 H3 vz e3 er3 hr3 r3 w3=>by
   have r1:RD ρ3 H3 y vy:=RD.ext (e2.trans e3) _ _ r1
   have r2:RD ρ3 H3 x vx:=RD.ext e3 _ _ r2
   have r3:RD ρ3 H3 z vz:=r3
   cases x with
   | obj n =>
     cases z with
     | int j =>
       unfold RD at r3
       dsimp only at w3
       cases qo:h3[n]? with
       | none=>rw [qo]at w3;exact w3.elim
       | some o =>
         rw [qo]at w3
         cases o with
         | lst xs =>
           dsimp only at w3
           obtain ⟨q,vs,rfl,eq,hq,rs⟩:=hr3.lst r2 qo
           cases ej:ixN xs.length j with
           | none=>rw [ej]at w3;exact w3.elim
           | some jj =>
             rw [ej]at w3
             refine .inl ⟨q,vs,j,jj,rfl,r3,hq,by rw [<- rs.length];exact ej,?_⟩
             have tp:Ext (fun _=>False) ρ3 ρ3 H3 (upd H3 q (.lst (vs.set jj vy))):=by
               refine ⟨⟨[],ς⟩,fun b xs z=>?_,fun _ z=>z.elim⟩
               rw [zt]
               . exact z
               . intro zz;subst zz;rw [hq]at z;cases z
             obtain ⟨ex,hr'⟩:=hr3.write (o1 := .lst (xs.set jj y)) (u := .lst (vs.set jj vy)) qo eq rfl rfl hq trivial ⟨_,zbc,RDs.ext tp _ _ (RDs.set r1 jj rs)⟩
             exact w3 ρ3 _ σ ex (er3.ext ex) hr'
         | dic kvs =>
           dsimp only at w3
           obtain ⟨q,vs,rfl,eq,hq,rs⟩:=hr3.dic r2 qo
           by_cases hl:kvs.length < 1000000
           . rw [if_pos hl]at w3
             subst r3
             refine .inr ⟨q,_,rfl,zgS.k (k:=Sum.inl j) hq (by rw [<- rs.length,sizeLine_eq];omega),?_⟩
             have tp:Ext (fun _=>False) ρ3 ρ3 H3 (upd H3 q (.dK (zcD vs (Sum.inl j) vy))):=by
               refine ⟨⟨[],ς⟩,fun b xs z=>?_,fun _ z=>z.elim⟩
               rw [zt]
               . exact z
               . intro zz;subst zz;rw [hq]at z;cases z
             obtain ⟨ex,hr'⟩:=hr3.write (o1 := .dic (zdZ j y kvs)) (u := .dK (zcD vs (Sum.inl j) vy)) qo eq rfl rfl hq trivial ⟨_,zbc,KRs.put (RD.ext tp _ _ r1) (rs.map fun p _ v=>RD.ext tp _ _)⟩
             exact w3 ρ3 _ σ ex (er3.ext ex) hr'
           . rw [if_neg hl]at w3;exact w3.elim
         | _=>exact w3.elim
     | _=>exact w3.elim
   | _=>cases z <;> exact w3.elim⟩⟩⟩)
end
end MI
end
section
namespace MI
open PySem PySem.Spec L2
noncomputable def zes (G:GP) (F:Addr->Prop) (ρ:List Addr) (H:Hp) (J:It) (p:Src):Prop :=
 ∀ (F':Addr->Prop) (ρ':List Addr) (h':MH) (H':Hp) (i:Nat),Ext F ρ ρ' H H'->HR F' G ρ' h' H'->guard p.2 h'=true ->
   (∀ d,p.1[i]?=some d->J.go i H'∧∀ x H2,J.yld i H' x H2->Ext F' ρ' ρ' H' H2∧HR F' G ρ' h' H2∧RD ρ' H2 d x)∧(p.1.length<=i->J.stop i H')
noncomputable def rI (G:GP):RL Src It:=fun F ρ _ H p J=>zes G F ρ H J p
noncomputable abbrev tI (W:Nat->Hp->Prop) (G:GP) (m:ME Src):TI:=tG W G (rI G) m
section
variable {W:Nat->Hp->Prop}{X:Cx}{F:Addr->Prop}{G:GP}{env:zD}{σ:L2.St}{ρ:List Addr}{H:Hp}{h:MH}{a b c e o tg:Expr}{ma mb:ME D}{pos p p1:Pos}{k:Nat}
theorem zmy {n:Nat}{ob:O}{gs:List (Nat×O)} (g:guard gs h=true) (hm:(n,ob)∈gs):h[n]?=some ob:=by
 unfold guard at g
 rw [List.all_eq_true]at g
 exact of_decide_eq_true (g (n,ob) hm)
theorem zs7 {n:Nat}{q:Addr}{xs:List D} (hK:X.K=G.K) (eq:ρ[n]?=some q):zes G F ρ H (Itl X.K q) (xs,[(n,.lst xs)]):=by
 intro F' ρ' h' H' i ex hr g
 have e:=zmy g (List.mem_singleton.mpr rfl)
 have eq':=ex.get eq
 obtain ⟨vs,hq,rs⟩:=hr.at e eq'
 refine ⟨fun d hd=>?_,fun hl=>⟨vs,SqL.of hq,by rw [<- rs.length];exact hl⟩⟩
 obtain ⟨v,e1,e2⟩:=rs.get hd
 refine ⟨⟨vs,v,SqL.of hq,e1⟩,fun x H2 ⟨y1,y2⟩=>?_⟩
 subst y1
 have:=y2 vs (SqL.of hq)
 rw [e1]at this;cases this
 exact ⟨Ext.refl,hr,e2⟩
theorem zdo (ha:JE X a (tE W G ma)) (hK:X.K=G.K:=by rfl):JI X tg a (tI W G (itL ma)) :=
 .of (zjE (zqO ha.to) fun σ H Q ⟨F,ρ,env,h,er,hr,w⟩=>⟨F,ρ,env,h,er,hr,zI w fun x h1 ρ1 H1 y e1 er1 hr1 r1 w1=>by
   cases x with
   | obj n =>
     simp only [zio]at w1
     cases qo:h1[n]? with
     | none=>rw [qo]at w1;exact w1.elim
     | some o =>
       rw [qo]at w1
       cases o with
       | lst xs =>
         obtain ⟨q,vs,rfl,eq,hq,rs⟩:=hr1.lst r1 qo
         exact ⟨q,rfl,⟨vs,SqL.of hq⟩,w1.done er1 hr1 (zs7 hK eq)⟩
       | _=>exact w1.elim
   | _=>exact w1.elim⟩)
theorem zgJ (hg:Gl X "range") (hm:X.mg "range" = none) (ha:JE X a (tE W G ma)) (hs:starEach [a] X.env=(false,eval a X.env) :: starEach [] X.env):JI X tg (.Call (.Name "range" p) [a] [] pos) (tI W G (itR ma)) :=
 .of (zjE (zqS hg hm (zbC ha.to zce hs) (hs.trans ϱ)) fun σ H Q ⟨F,ρ,env,h,er,hr,w⟩=>zdU ⟨F,ρ,env,h,er,hr,zI w fun x h1 ρ1 H1 y e1 er1 hr1 r1 w1=>by
   have r1:RD ρ1 H1 x y:=r1
   cases x with
   | int i =>
     unfold RD at r1
     subst r1
     by_cases hl:-1000000<=i∧i<=1000000
     . dsimp only at w1
       rw [if_pos hl]at w1
       refine ⟨i,rfl,ω,ω,w1 ρ1 H1 (Itr 0 i.toNat) Ext.refl er1 hr1 ?_⟩
       intro F' ρ' h' H' j _ hr' _
       refine ⟨fun d hd=>?_,fun hj=>by rw [List.length_map,List.length_range]at hj;exact hj⟩
       have hj:j < i.toNat:=by
         have:=(List.getElem?_eq_some_iff.mp hd).1
         simpa using this
       refine ⟨hj,fun x H2 ⟨y1,y2⟩=>?_⟩
       subst y1 y2
       rw [List.getElem?_map,List.getElem?_range hj]at hd
       cases hd
       exact ⟨Ext.refl,hr',by unfold RD;simp⟩
     . dsimp only at w1
       rw [if_neg hl]at w1;exact w1.elim
   | _=>exact w1.elim⟩)
variable {mt:ME Bool}{m1:MS}{bd:List Stmt}{E:zcj}{r:RS}{kk:MS}
theorem zlb {N:L2.St->Hp->Prop} (w:wpS F W G ρ H (zeu r kk) E) (f:∀ e1 h1 ρ1 H1 σ1,Ext F ρ ρ1 H H1->zY ρ1 H1 e1 σ1->HR F G ρ1 h1 H1->wpS F W G ρ1 H1 (kk e1 h1) E->N σ1 H1):wpS F W G ρ H r { E with nx:=N,ct:=N,bk:=E.nx }:=by
 cases r with
 | nx e1 h1=>exact fun ρ1 H1 σ1 ex er hr=>f e1 h1 ρ1 H1 σ1 ex er hr (wpS.mono (r:=kk e1 h1) w ex)
 | ct e1 h1=>exact fun ρ1 H1 σ1 ex er hr=>f e1 h1 ρ1 H1 σ1 ex er hr (wpS.mono (r:=kk e1 h1) w ex)
 | bk e1 h1=>exact w
 | rt v h1=>exact w
 | ex c h1=>exact w
 | bad=>exact w
theorem zkO (hp:PassesOwn (model X.prog X.w) X.A X.env X.xe) (hc:JT X c (tT W G mt)) (hb:JSs X bd (tS W G m1)):JS X (.While c bd [] pos) (tS W G (zgU mt m1)) :=
 .of (zct (zsl hp hc.to hb.to) fun E σ H ⟨F,ρ,env,h,er,hr,w⟩=>by
   refine ⟨fun n σ H=>∃ ρ env h,zY ρ H env σ∧HR F G ρ h H∧wpS F W G ρ H (zen mt m1 n env h) E,⟨1000000,ρ,env,h,er,hr,w⟩,?_⟩
   rintro n σ H ⟨ρ,env,h,er,hr,w⟩
   cases n with
   | zero=>exact w.elim
   | succ n =>
     refine ⟨F,ρ,env,h,er,hr,wpS_bind w fun x h1 ρ1 H1 y e1 er1 hr1 r1 w1=>?_⟩
     obtain rfl:x=y:=r1
     cases x with
     | true =>
       rw [if_pos rfl]at w1 ⊢
       exact ⟨_,fun σ' H' z=>z,F,ρ1,env,h1,er1,hr1,zlb w1 fun e2 h2 ρ2 H2 σ2 ex2 er2 hr2 w2=>⟨n,Nat.lt_succ_self n,ρ2,e2,h2,er2,hr2,w2⟩⟩
     | false =>
       rw [if_neg ϑ]at w1 ⊢
       exact wpS.done (h:=h1) w1 er1 hr1)
variable {ms:ME Src}{t:Tg}{iter:Expr}
theorem zkP {p:Src}{J:It}{ρ1:List Addr}{H1:Hp}{h1:MH} (src:zes G F ρ1 H1 J p) (er1:zY ρ1 H1 env σ) (hr1:HR F G ρ1 h1 H1) (w1:wpS F W G ρ1 H1 (zcx t p.2 m1 p.1 env h1) E) :
   ∃ Wv:Nat->Nat->L2.St->Hp->Prop,(∃ m,Wv 0 m σ H1)∧∀ i m σ H,Wv i m σ H ->
     (J.stop i H∧E.nx σ H)∨(J.go i H∧∃ N:L2.St->Hp->Prop,(∀ σ' H',N σ' H'->∃ m',m' < m∧Wv (i+1) m' σ' H')∧∀ x H',J.yld i H x H'->tTg G t x σ H' fun σ2 H2=>tS W G m1 { E with nx:=N,ct:=N,bk:=E.nx } σ2 H2):=by
 refine ⟨fun i m σ H=>∃ ρ env h,Ext F ρ1 ρ H1 H∧zY ρ H env σ∧HR F G ρ h H∧m=p.1.length - i∧i<=p.1.length∧wpS F W G ρ H (zcx t p.2 m1 (p.1.drop i) env h) E,⟨p.1.length,ρ1,env,h1,Ext.refl,er1,hr1,ς,Nat.zero_le _,by simpa using w1⟩,?_⟩
 rintro i m σ H ⟨ρ,env,h,ex,er,hr,rfl,hi,w⟩
 by_cases hlt:i < p.1.length
 . right
   have ed:p.1.drop i=p.1[i] :: p.1.drop (i+1):=List.drop_eq_getElem_cons hlt
   rw [ed]at w
   simp only [zcx]at w
   by_cases g:guard p.2 h=true
   . rw [if_pos g]at w
     obtain ⟨s1,_⟩:=src F ρ h H i ex hr g
     obtain ⟨go,yl⟩:=s1 p.1[i] (List.getElem?_eq_getElem hlt)
     refine ⟨go,_,fun σ' H' z=>z,fun x H' hy=>?_⟩
     obtain ⟨ex2,hr2,rd⟩:=yl x H' hy
     cases eb:zcX t p.1[i] env with
     | none=>rw [eb]at w;exact w.elim
     | some env1 =>
       rw [eb]at w
       refine ⟨F,ρ,env,h,p.1[i],env1,er.ext ex2,hr2,rd,eb,fun σ1 er3=>⟨F,ρ,env1,h,er3,hr2,zlb (wpS.mono (r:=zeu (m1 env1 h) (zcx t p.2 m1 (p.1.drop (i+1)))) w ex2) fun e4 h4 ρ4 H4 σ4 ex4 er4 hr4 w4=>?_⟩⟩
       exact ⟨p.1.length - (i+1),ω,ρ4,e4,h4,(ex.trans ex2).trans ex4,er4,hr4,rfl,hlt,w4⟩
   . rw [if_neg g]at w;exact w.elim
 . left
   have ei:i=p.1.length:=by omega
   rw [List.drop_eq_nil_of_le ω]at w
   simp only [zcx]at w
   by_cases g:guard p.2 h=true
   . rw [if_pos g]at w
     exact ⟨(src F ρ h H i ex hr g).2 ω,w.done er hr⟩
   . rw [if_neg g]at w;exact w.elim
theorem zd8 (hp:PassesOwn (model X.prog X.w) X.A X.env X.xe) (hi:JI X tg iter (tI W G ms)) (hg:JG X tg (tTg G t)) (hb:JSs X bd (tS W G m1)) (hc:X.calm=true:=by rfl) (hs:∀ x,foldedSetIterable iter X.env x=pure x:=by intro _;rfl) :
   JS X (.For tg iter bd [] pos) (tS W G (zcz t ms m1)) :=
 .of (zct (zkp hp hc hi.to hg.to hb.to hs) fun E σ H ⟨F,ρ,env,h,er,hr,w⟩=>⟨F,ρ,env,h,er,hr,wpS_bind w fun p h1 ρ1 H1 J e1 er1 hr1 src w1=>zkP src er1 hr1 w1⟩)
theorem zmF {α β γ δ:Type}{Rl:RL α β}{Rl':RL γ δ}{F':Addr->Prop}{env1:zD}{σ1:L2.St} (sub:∀ b,F b->F' b) {m:ME α}{k:α->ME γ}{Q:δ->Hp->Prop}{P:β->Hp->Prop} (w:wp F W G Rl' env σ ρ H (zm m k env1 h) Q)
   (f:∀ x h1 ρ1 H1 y,Ext F' ρ ρ1 H H1->zY ρ1 H1 env1 σ1->HR F' G ρ1 h1 H1->Rl F' ρ1 h1 H1 x y->wp F W G Rl' env σ ρ1 H1 (k x env1 h1) Q->P y H1):wp F' W G Rl env1 σ1 ρ H (m env1 h) P:=by
 unfold zm at w
 cases e:m env1 h with
 | ok v h1 =>
   rw [e]at w
   exact fun ρ1 H1 y ex er hr rl=>f v h1 ρ1 H1 y ex er hr rl (w.mono (ex.sub sub))
 | ex c h1=>rw [e]at w;exact fun ρ1 H1 ex hr=>w ρ1 H1 (ex.sub sub) (hr.sub sub)
 | bad=>rw [e]at w;exact w
theorem zr3 {js:List (Option Nat)} (er:zY ρ H env σ):zY ρ H (zb3 js env) (zd2 js σ):=by
 refine ⟨by simp [zb3,zd2],fun i d e=>?_⟩
 unfold zb3 at e
 unfold zd2
 rw [List.getElem?_map]at e ⊢
 cases ej:js[i]? with
 | none=>rw [ej]at e;cases e
 | some j =>
   rw [ej]at e
   cases j with
   | none=>cases e
   | some kk =>
     have e2:(env[kk]?).join=some d:=Option.some.inj e
     cases ek:env[kk]? with
     | none=>rw [ek]at e2;cases e2
     | some od =>
       rw [ek]at e2
       have e3:od=some d:=e2
       subst e3
       obtain ⟨v,h1,h2⟩:=er.all kk d ek
       refine ⟨v,?_,h2⟩
       show some ((σ[kk]?).join)=_
       rw [h1];rfl
variable {N:List Str}{js:List (Option Nat)}{scope:Scope}{elt:Expr}{ifs:List Expr}{cond:ME Bool}{me:ME D}
theorem zlP {t:Tg}{Q:VK}{p:Src}{J:It}{ρ1:List Addr}{H1:Hp}{h1:MH} (hlen:p.1.length<=1000000) (src:zes G F ρ1 H1 J p) (er1:zY ρ1 H1 env σ) (hr1:HR F G ρ1 h1 H1) (w1:wp F W G (rN G.K) env σ ρ1 H1 (zbI t p.2 cond me p.1 [] (zb3 js env) h1) Q) (D:Addr) (hD:H1 D=none) :
   zh2 J (tTg G t) (tT W G cond) (tE W G me) D σ H1 js Q:=by
 have nF:¬ F D:=(hr1.fresh hD).1
 have hr1':HR F G ρ1 h1 (upd H1 D (.lst [])):=hr1.new hD
 have frD:=hr1.fresh hD
 refine ⟨fun i m σ' H'=>∃ ρ' env' h' acc vs,Ext F ρ1 ρ' H1 H'∧zY ρ' H' env' σ'∧HR F G ρ' h' H'∧H' D=some (.lst vs)∧zex F ρ' h' D∧RDs ρ' H' acc vs∧acc.length<=i∧m=p.1.length - i∧i<=p.1.length ∧
   wp F W G (rN G.K) env σ ρ' H' (zbI t p.2 cond me (p.1.drop i) acc env' h') Q,⟨p.1.length,ρ1,zb3 js env,h1,[],[],zck hr1 hD,zr3 (er1.ext (zck hr1 hD)),hr1',zbc,frD,RDs.nil,Nat.le_refl _,ς,Nat.zero_le _,by simpa using w1.mono (zck hr1 hD)⟩,?_⟩
 rintro i m σ' H' ⟨ρ',env',h',acc,vs,ex,er',hr',hD',fr,rs,hal,rfl,hi,w⟩
 have sub:∀ b,F b->(F b∨b=D):=fun b hb=> .inl hb
 have hrF:HR (fun b=>F b∨b=D) G ρ' h' H':=⟨fun b hb=>by
   rcases hb with hb | rfl
   . exact hr'.pro b hb
   . exact ⟨⟨_,hD'⟩,fr.2⟩,hr'.nd,hr'.len,hr'.all⟩
 by_cases hlt:i < p.1.length
 . right
   have ed:p.1.drop i=p.1[i] :: p.1.drop (i+1):=List.drop_eq_getElem_cons hlt
   rw [ed]at w
   simp only [zbI]at w
   by_cases g:guard p.2 h'=true
   . rw [if_pos g]at w
     obtain ⟨s1,_⟩:=src _ ρ' h' H' i ex hrF g
     obtain ⟨go,yl⟩:=s1 p.1[i] (List.getElem?_eq_getElem hlt)
     refine ⟨go,fun x H2 hy=>?_⟩
     obtain ⟨ex2,hr2,rd⟩:=yl x H2 hy
     cases eb:zcX t p.1[i] env' with
     | none=>rw [eb]at w;exact w.elim
     | some env1 =>
       rw [eb]at w
       refine ⟨_,ρ',env',h',p.1[i],env1,er'.ext ex2,hr2,rd,eb,fun σ2 er3=>⟨_,ρ',env1,h',er3,hr2,zmF sub (w.mono (ex2.sub sub)) fun b h3 ρ3 H3 b' ex3 er3' hr3 rb w3=>?_⟩⟩
       obtain rfl:b=b':=rb
       have hD3:H3 D=some (.lst vs):=by rw [ex3.frm D (.inr rfl),ex2.frm D (.inr rfl)];exact hD'
       cases b with
       | true =>
         rw [if_pos rfl]at w3 ⊢
         refine ⟨_,ρ3,env1,h3,er3',hr3,zmF sub w3 fun y h4 ρ4 H4 vy ex4 er4 hr4 ry w4=>?_⟩
         have hD4:H4 D=some (.lst vs):=by rw [ex4.frm D (.inr rfl)];exact hD3
         have fr4:zex F ρ4 h4 D:=⟨nF,(hr4.pro D (.inr rfl)).2⟩
         have exA:Ext F ρ' ρ4 H' H4:=((ex2.trans ex3).trans ex4).sub sub
         have rs4:RDs ρ4 H4 acc vs:=RDs.ext exA _ _ rs
         obtain ⟨ex5,hr5⟩:=(hr4.sub sub).upd_free (ys:=vs++[vy]) fr4 hD4
         refine ⟨vs,hD4,by have:=rs.length;rw [sizeLine_eq];omega,p.1.length - (i+1),ω,ρ4,env1,h4,acc++[y],vs++[vy],(ex.trans exA).trans ex5,er4.ext ex5,hr5,zbc,fr4,RDs.ext ex5 _ _ (rs4.snoc ry),by simp;omega,rfl,hlt,w4.mono ex5⟩
       | false =>
         rw [if_neg ϑ]at w3 ⊢
         have exA:Ext F ρ' ρ3 H' H3:=(ex2.trans ex3).sub sub
         exact ⟨p.1.length - (i+1),ω,ρ3,env1,h3,acc,vs,ex.trans exA,er3',hr3.sub sub,hD3,⟨nF,(hr3.pro D (.inr rfl)).2⟩,RDs.ext exA _ _ rs,ω,rfl,hlt,w3⟩
   . rw [if_neg g]at w;exact w.elim
 . left
   rw [List.drop_eq_nil_of_le ω]at w
   simp only [zbI]at w
   by_cases g:guard p.2 h'=true
   . rw [if_pos g]at w
     exact ⟨(src F ρ' h' H' i ex hr' g).2 ω,w.done (er1.ext ex) hr' ⟨D,vs,rfl,hD',fr,rs⟩⟩
   . rw [if_neg g]at w;exact w.elim
theorem zmE {t:Tg}{Q:VK} (w:tN W G (zcu js t ms cond me) σ H Q):zgY js (tI W G ms) (tTg G t) (tT W G cond) (tE W G me) σ H Q:=by
 obtain ⟨F,ρ,env,h,er,hr,w⟩:=w
 refine ⟨F,ρ,env,h,er,hr,zI w fun p h1 ρ1 H1 J e1 er1 hr1 src w1=>fun D hD=>?_⟩
 by_cases hlen:p.1.length<=1000000
 . rw [if_pos hlen]at w1
   exact zlP hlen src er1 hr1 w1 D hD
 . rw [if_neg hlen]at w1;exact w1.elim
theorem zeA:zdi X [] (tT W G zb9) := .of (fun pins s σ H Q I ⟨F,ρ,env,h,er,hr,w⟩=>zsB pins s σ H Q I (wp.done (h:=h) w er hr rfl))
theorem zsS (hc:JT X c (tT W G cond)):zdi X [c] (tT W G cond) := .of (zux hc.to)
theorem zlf {t:Tg}{j:Nat}{y:Str}{py spos:Pos} (hc:X.calm=true) (hN:X.N.Nodup) (hj:X.N[j]?=some y) (hy:X.env.scope.names.lookup y=some .local) (S:zbF X scope N js) (hi:JI X tg iter (tI W G ms))
   (hg:∀ cl s₀ H₀ fp,JG (zba X scope N cl s₀ H₀ fp) tg (tTg G t)) (hf:∀ cl s₀ H₀ fp,zdi (zba X scope N cl s₀ H₀ fp) ifs (tT W G cond)) (he:∀ cl s₀ H₀ fp,JE (zba X scope N cl s₀ H₀ fp) elt (tE W G me))
   (hsw:swapsWith (.ListComp elt [⟨tg,iter,ifs,0⟩] scope pos) (some (.Name y py)) spos.line X.env=pure true:=by rfl) (hs:∀ x,foldedSetIterable iter X.env x=pure x:=by intro _;rfl) :
   JS X (.Assign [.Name y py] (.ListComp elt [⟨tg,iter,ifs,0⟩] scope pos) spos) (tS W G (zk (.nm j) (zF (zcu js t ms cond me)))) :=
 .of (zct (zro hc hN hj hy S hi.to ⟨fun cl s₀ H₀ fp=>⟨(hg cl s₀ H₀ fp).to,(hf cl s₀ H₀ fp).to,(he cl s₀ H₀ fp).to⟩⟩ hsw hs) fun E σ H ⟨F,ρ,env,h,er,hr,w⟩=>zmE ⟨F,ρ,env,h,er,hr,by
   have w':wp F W G rV env σ ρ H (zF (zcu js t ms cond me) env h) (fun z H2=>E.nx (σ.set j (some z)) H2):=wpS_bind w fun x h1 ρ1 H1 y e1 er1 hr1 r1 w1=>wpS.done (h:=h1) w1 (er1.set r1 j) hr1
   exact zI w' fun xs h1 ρ1 H1 y e1 er1 hr1 ⟨q,vs,ey,hq,fr,rs⟩ w1=>by subst ey;exact zl9 w1 er1 hr1 hq fr rs⟩)
end
end MI
end
section
namespace MI
open PySem PySem.Spec L2
noncomputable def O.bd (n:Nat):O->Prop
 | .lst xs=>bds n xs
 | .scr xs=>bds n xs
 | .dic kvs=>∀ p∈kvs,p.2.bd n
 | .hole=>True
 | .set _=>True
 | .ins _ fs=>∀ p∈fs,p.2.bd n
section
variable {F:Addr->Prop}{G:GP}{ρ ρ1 ρ2 ρ':List Addr}{H H1 H2:Hp}{h h1 h2:MH}{a:Addr}{o:O}{n:Nat}
theorem KRs.mem {kvs:List (Int×D)}:∀ {vs:List (Key×V)},KRs ρ H kvs vs->∀ p∈kvs,∃ v,RD ρ H p.2 v:=by
 induction kvs with
 | nil=>intro vs r p hp;cases hp
 | cons q kvs ih =>
   intro vs r p hp
   unfold KRs at r
   obtain ⟨v,w,rfl,r1,r2⟩:=r
   rcases List.mem_cons.mp hp with rfl | hp
   . exact ⟨v,r1⟩
   . exact ih r2 p hp
theorem FRs.mem {C:Addr}{kvs:List (Nat×D)}:∀ {vs:List (Str×V)},FRs G ρ H C kvs vs->∀ p∈kvs,∃ v,RD ρ H p.2 v:=by
 induction kvs with
 | nil=>intro vs r p hp;cases hp
 | cons q kvs ih =>
   intro vs r p hp
   unfold FRs at r
   obtain ⟨f,v,w,rfl,_,_,r1,r2⟩:=r
   rcases List.mem_cons.mp hp with rfl | hp
   . exact ⟨v,r1⟩
   . exact ih r2 p hp
theorem RO.bd (r:RO G ρ H a o):o.bd ρ.length:=by
 cases o with
 | lst xs=>obtain ⟨vs,_,r⟩:=r;exact RDs.bd _ _ r
 | scr xs=>obtain ⟨vs,_,r⟩:=r;exact RDs.bd _ _ r
 | dic kvs=>obtain ⟨vs,_,r⟩:=r;exact fun p hp=>let ⟨v,q⟩:=r.mem p hp;RD.bd _ _ q
 | hole=>trivial
 | set xs=>trivial
 | ins c fs=>obtain ⟨C,dx,vs,_,_,r⟩:=r;exact fun p hp=>let ⟨v,q⟩:=r.mem p hp;RD.bd _ _ q
theorem zkT:∀ {ds:List D},nrs ds=true->∀ d∈ds,d.nr=true
 | [],_,d,hd=>by cases hd
 | x :: ds,h,d,hd=>by
   unfold nrs at h
   rw [Bool.and_eq_true]at h
   rcases List.mem_cons.mp hd with rfl | hd
   . exact h.1
   . exact zkT h.2 d hd
theorem O.flat_bd (f:o.flat=true):o.bd n:=by
 cases o with
 | lst xs=>exact zjg xs f
 | scr xs=>cases f
 | dic kvs=>exact fun p hp=>D.nr_bd _ (zkT f _ (List.mem_map_of_mem hp))
 | hole=>cases f
 | set xs=>trivial
 | ins c fs=>cases f
theorem KRs.cut {kvs:List (Int×D)} (e:∀ m,m < n->ρ1[m]?=ρ[m]?):∀ {vs:List (Key×V)},KRs ρ H kvs vs->(∀ p∈kvs,p.2.bd n)->KRs ρ1 H kvs vs:=by
 induction kvs with
 | nil=>intro vs r _;exact r
 | cons q kvs ih =>
   intro vs r b
   unfold KRs at r ⊢
   obtain ⟨v,w,e1,r1,r2⟩:=r
   exact ⟨v,w,e1,RD.cut e _ _ (b q List.mem_cons_self) r1,ih r2 fun p hp=>b p (List.mem_cons_of_mem _ hp)⟩
theorem FRs.cut {C:Addr}{kvs:List (Nat×D)} (e:∀ m,m < n->ρ1[m]?=ρ[m]?):∀ {vs:List (Str×V)},FRs G ρ H C kvs vs->(∀ p∈kvs,p.2.bd n)->FRs G ρ1 H C kvs vs:=by
 induction kvs with
 | nil=>intro vs r _;exact r
 | cons q kvs ih =>
   intro vs r b
   unfold FRs at r ⊢
   obtain ⟨f,v,w,e1,e2,e3,r1,r2⟩:=r
   exact ⟨f,v,w,e1,e2,e3,RD.cut e _ _ (b q List.mem_cons_self) r1,ih r2 fun p hp=>b p (List.mem_cons_of_mem _ hp)⟩
theorem RO.cut (r:RO G ρ H a o) (b:o.bd n) (e:∀ m,m < n->ρ1[m]?=ρ[m]?):RO G ρ1 H a o:=by
 cases o with
 | lst xs=>obtain ⟨vs,h1,r⟩:=r;exact ⟨vs,h1,RDs.cut e _ _ b r⟩
 | scr xs=>obtain ⟨vs,h1,r⟩:=r;exact ⟨vs,h1,RDs.cut e _ _ b r⟩
 | dic kvs=>obtain ⟨vs,h1,r⟩:=r;exact ⟨vs,h1,r.cut e b⟩
 | hole=>exact r
 | set xs=>exact r
 | ins c fs=>obtain ⟨C,dx,vs,h1,h2,r⟩:=r;exact ⟨C,dx,vs,h1,h2,r.cut e b⟩
theorem HR.select (hr:HR F G ρ2 h2 H2) {os:List Nat}{objs:MH}{ρ':List Addr} (nd:os.Nodup) (hl:objs.length=os.length) (hl':ρ'.length=os.length) (ha:∀ (j i:Nat),os[j]?=some i->ρ'[j]?=ρ2[i]?)
   (hA:∀ (j i:Nat) ob,os[j]?=some i->objs[j]?=some ob->∃ a ob2,ρ2[i]?=some a∧h2[i]?=some ob2∧ob.isScr=ob2.isScr∧RO G ρ' H2 a ob):HR F G ρ' objs H2:=by
 have org:∀ (j:Nat) b ob,ρ'[j]?=some b->objs[j]?=some ob->∃ i ob2,os[j]?=some i∧ρ2[i]?=some b∧h2[i]?=some ob2∧ob.isScr=ob2.isScr∧RO G ρ' H2 b ob:=fun j b ob e1 e2=>by
   have hj:j < os.length:=by rw [<- hl];exact (List.getElem?_eq_some_iff.mp e2).1
   have ei:=List.getElem?_eq_getElem hj
   obtain ⟨a,ob2,h3,h4,h5,h6⟩:=hA j _ ob ei e2
   have:=ha j _ ei
   rw [e1,h3]at this;cases this
   exact ⟨_,ob2,ei,h3,h4,h5,h6⟩
 refine ⟨fun b hb=>⟨(hr.pro b hb).1,fun m ob e1 e2=>?_⟩,fun m m' b ob ob' hne e1 e2 e3 e4=>?_,by rw [hl,hl'],fun m ob e=>?_⟩
 . obtain ⟨i,ob2,_,h3,h4,h5,_⟩:=org m b ob e1 e2
   rw [h5];exact (hr.pro b hb).2 i ob2 h3 h4
 . obtain ⟨i,ob2,f1,h3,h4,h5,_⟩:=org m b ob e1 e3
   obtain ⟨i',ob2',f1',h3',h4',h5',_⟩:=org m' b ob' e2 e4
   rw [h5,h5']
   refine hr.nd i i' b ob2 ob2' (fun z=>hne ?_) h3 h3' h4 h4'
   subst z
   obtain ⟨g1,g2⟩:=List.getElem?_eq_some_iff.mp f1
   obtain ⟨g1',g2'⟩:=List.getElem?_eq_some_iff.mp f1'
   exact (List.getElem_inj nd).mp (g2.trans g2'.symm)
 . have hm:m < os.length:=by rw [<- hl];exact (List.getElem?_eq_some_iff.mp e).1
   obtain ⟨a,ob2,h3,h4,h5,h6⟩:=hA m _ ob (List.getElem?_eq_getElem hm) e
   exact ⟨a,by rw [ha m _ (List.getElem?_eq_getElem hm)];exact h3,h6⟩
noncomputable def RlP (n b:Nat) (h2:MH) (ds:List D) (ms:List Nat) (ds':List D) (ms':List Nat):Prop:=(∃ t,ms'=ms++t)∧ms'.Nodup∧(∀ m∈ms',n<=m∧∃ o,h2[m]?=some o∧o.flat=true) ∧
   ∀ (ρ2 ρ':List Addr) (H:Hp) (vs:List V),(∀ i,i < n->ρ'[i]?=ρ2[i]?)->(∀ (j m:Nat),ms'[j]?=some m->ρ'[b+j]?=ρ2[m]?)->RDs ρ2 H ds vs->RDs ρ' H ds' vs
theorem zhG {b:Nat}:∀ {ds:List D}{ms:List Nat}{ds':List D}{ms':List Nat},zb1 n b h2 ds ms=some (ds',ms')->ms.Nodup->(∀ m∈ms,n<=m∧∃ o,h2[m]?=some o∧o.flat=true)->RlP n b h2 ds ms ds' ms'
 | [],ms,ds',ms',e,nd,hm=>by
   simp only [zb1]at e
   cases e
   exact ⟨⟨[],ς⟩,nd,hm,fun ρ2 ρ' H vs _ _ r=>by unfold RDs at r ⊢;exact r⟩
 | d :: ds,ms,ds',ms',e,nd,hm=>by
   have plain:∀ {q:List D×List Nat},d.bd n->zb1 n b h2 ds ms=some q->ds'=d :: q.1->ms'=q.2->RlP n b h2 (d :: ds) ms ds' ms':=fun {q} hd e' e1 e2=>by
     subst e1 e2
     obtain ⟨h3,h4,h5,h6⟩:=zhG (ds':=q.1) (ms':=q.2) e' nd hm
     refine ⟨h3,h4,h5,fun ρ2 ρ' H vs g1 g2 r=>?_⟩
     unfold RDs at r ⊢
     obtain ⟨x,w,e3,r1,r2⟩:=r
     exact ⟨x,w,e3,RD.cut g1 _ _ hd r1,h6 ρ2 ρ' H w g1 g2 r2⟩
   have byNr:d.nr=true->(if d.nr=true then (zb1 n b h2 ds ms).map fun p=>(d :: p.1,p.2) else none)=some (ds',ms')->RlP n b h2 (d :: ds) ms ds' ms':=fun hn e=>by
     rw [if_pos hn,Option.map_eq_some_iff]at e
     obtain ⟨q,e1,e2⟩:=e
     cases e2
     exact plain (D.nr_bd d hn) e1 rfl rfl
   cases d with
   | obj m =>
     simp only [zb1]at e
     by_cases h1:m < n
     . rw [if_pos h1,Option.map_eq_some_iff]at e
       obtain ⟨q,e1,e2⟩:=e
       cases e2
       exact plain (by unfold D.bd;exact h1) e1 rfl rfl
     . rw [if_neg h1]at e
       by_cases h3:m∈ms
       . rw [if_pos h3]at e;cases e
       . rw [if_neg h3]at e
         cases q:h2[m]? with
         | none=>rw [q]at e;cases e
         | some ob =>
           rw [q]at e
           dsimp only at e
           by_cases h4:ob.flat=true
           . rw [if_pos h4,Option.map_eq_some_iff]at e
             obtain ⟨w,e1,e2⟩:=e
             cases e2
             have nd':(ms++[m]).Nodup:=by
               rw [List.nodup_append]
               exact ⟨nd,ς,fun x hx y hy=>by simp at hy;subst hy;exact fun z=>h3 (z ▸ hx)⟩
             obtain ⟨⟨t,et⟩,g4,g5,g6⟩:=zhG (ds':=w.1) (ms':=w.2) e1 nd' (fun x hx=>by
               rcases List.mem_append.mp hx with hx | hx
               . exact hm x hx
               . simp at hx;subst hx;exact ⟨ω,ob,q,h4⟩)
             refine ⟨⟨m :: t,by rw [et];simp⟩,g4,g5,fun ρ2 ρ' H vs g1 g2 r=>?_⟩
             unfold RDs at r ⊢
             obtain ⟨x,w',e3,r1,r2⟩:=r
             refine ⟨x,w',e3,?_,g6 ρ2 ρ' H w' g1 g2 r2⟩
             unfold RD at r1 ⊢
             obtain ⟨a,ea,eb⟩:=r1
             refine ⟨a,ea,?_⟩
             rw [g2 ms.length m (by rw [et];simp)]
             exact eb
           . rw [if_neg h4]at e;cases e
   | non=>exact byNr rfl e
   | bl x=>exact byNr rfl e
   | int x=>exact byNr rfl e
   | str x=>exact byNr rfl e
   | tup xs =>
     have e':(if (D.tup xs).nr=true then (zb1 n b h2 ds ms).map fun p=>(D.tup xs :: p.1,p.2) else none)=some (ds',ms'):=e
     by_cases hn:(D.tup xs).nr=true
     . exact byNr hn e'
     . rw [if_neg hn]at e';cases e'
theorem zrX (hr1:HR F G ρ1 h1 H1) (ok:zdL h1 h2=true) {i:Nat}{ob:O} (hi:i < h1.length) (e:h2[i]?=some ob):ob.bd ρ1.length:=by
 unfold zdL at ok
 rw [List.all_eq_true]at ok
 have:=ok i (List.mem_range.mpr hi)
 rw [Bool.or_eq_true,decide_eq_true_eq]at this
 rcases this with z | z
 . obtain ⟨a,e1,e2⟩:=hr1.all i ob (by rw [<- z];exact e)
   exact e2.bd
 . rw [e]at z
   exact O.flat_bd z
theorem HR.keepSome {t:List Addr} (hr1:HR F G ρ1 h1 H1) (hr2:HR F G (ρ1++t) h2 H2) (ok:zdL h1 h2=true) {os:List Nat}{obs:MH} (nd:os.Nodup) (hge:∀ m∈os,h1.length<=m) (hl:obs.length=os.length)
   (hA:∀ (j i:Nat) ob,os[j]?=some i->obs[j]?=some ob->∃ a ob2,(ρ1++t)[i]?=some a∧h2[i]?=some ob2∧ob.isScr=ob2.isScr∧RO G (ρ1++os.map fun i=>(ρ1++t).getD i 0) H2 a ob) :
   HR F G (ρ1++os.map fun i=>(ρ1++t).getD i 0) (h2.take h1.length++obs) H2:=by
 have hl2:h1.length<=h2.length:=by rw [<- hr1.len,<- hr2.len];simp
 have hpre:∀ m,m < ρ1.length->(ρ1++os.map fun i=>(ρ1++t).getD i 0)[m]?=(ρ1++t)[m]?:=fun m hm=>by rw [List.getElem?_append_left hm,List.getElem?_append_left hm]
 have hio:∀ (j i:Nat),(List.range h1.length++os)[j]?=some i->(j < h1.length∧i=j)∨(h1.length<=j∧os[j - h1.length]?=some i):=fun j i e=>by
   by_cases hj:j < h1.length
   . rw [List.getElem?_append_left (by simpa using hj),List.getElem?_range hj]at e
     cases e;exact .inl ⟨hj,rfl⟩
   . rw [List.getElem?_append_right (by simp;omega)]at e
     simp only [List.length_range]at e
     exact .inr ⟨ω,e⟩
 refine hr2.select (os:=List.range h1.length++os) ?_ ?_ ?_ (fun j i e=>?_) (fun j i ob e1 e2=>?_)
 . rw [List.nodup_append]
   refine ⟨List.nodup_range,nd,fun x hx y hy z=>?_⟩
   have:=hge y hy
   rw [List.mem_range]at hx
   omega
 . rw [List.length_append,List.length_append,List.length_range,hl,List.length_take];omega
 . rw [List.length_append,List.length_append,List.length_range,List.length_map,hr1.len]
 . rcases hio j i e with ⟨hj,rfl⟩ | ⟨hj,e⟩
   . exact hpre i (by rw [hr1.len];exact hj)
   . rw [List.getElem?_append_right (by rw [hr1.len];exact hj),List.getElem?_map,hr1.len,e]
     have hi:i < (ρ1++t).length:=by
       have ho:j - h1.length < obs.length:=by rw [hl];exact (List.getElem?_eq_some_iff.mp e).1
       obtain ⟨a,_,h3,_⟩:=hA _ _ _ e (List.getElem?_eq_getElem ho)
       exact (List.getElem?_eq_some_iff.mp h3).1
     rw [List.getElem?_eq_getElem hi]
     simp [List.getD,List.getElem?_eq_getElem hi]
 . rcases hio j i e1 with ⟨hj,rfl⟩ | ⟨hj,e1⟩
   . have hlt:i < (h2.take h1.length).length:=by rw [List.length_take];omega
     rw [List.getElem?_append_left hlt,List.getElem?_take_of_lt hj]at e2
     obtain ⟨a,h3,h4⟩:=hr2.all i ob e2
     exact ⟨a,ob,h3,e2,rfl,h4.cut (zrX hr1 ok hj e2) hpre⟩
   . have hlt:(h2.take h1.length).length=h1.length:=by rw [List.length_take];omega
     rw [List.getElem?_append_right (by rw [hlt];exact hj),hlt]at e2
     exact hA _ _ _ e1 e2
theorem RO.flat (r:RO G ρ H a o) (f:o.flat=true):RO G ρ' H a o:=r.cut (n:=0) (O.flat_bd f) fun m hm=>absurd hm (Nat.not_lt_zero m)
theorem zmA:∀ {fs:List (Nat×D)}{ds:List D}{vs:List (Str×V)}{C:Addr}{us:List V},FRs G ρ H C fs vs->vs.map (·.2)=us->RDs ρ' H ds us->FRs G ρ' H C ((fs.map (·.1)).zip ds) vs
 | [],ds,vs,C,us,r,e,rs=>by unfold FRs at r;subst r;simp [FRs]
 | p :: fs,ds,vs,C,us,r,e,rs=>by
   unfold FRs at r
   obtain ⟨f,v,q,rfl,h1,h2,h3,h4⟩:=r
   subst e
   rw [List.map_cons]at rs
   cases ds with
   | nil=>unfold RDs at rs;cases rs
   | cons d ds =>
     unfold RDs at rs
     obtain ⟨x,w,e1,r1,r2⟩:=rs
     cases e1
     rw [List.map_cons,List.zip_cons_cons]
     unfold FRs
     exact ⟨f,v,q,rfl,h1,h2,r1,zmA h4 rfl r2⟩
theorem FRs.vals:∀ {fs:List (Nat×D)}{vs:List (Str×V)}{C:Addr},FRs G ρ H C fs vs->RDs ρ H (fs.map (·.2)) (vs.map (·.2))
 | [],vs,C,r=>by unfold FRs at r;subst r;simp;exact RDs.nil
 | p :: fs,vs,C,r=>by
   unfold FRs at r
   obtain ⟨f,v,q,rfl,h1,h2,h3,h4⟩:=r
   exact RDs.cons h3 (FRs.vals h4)
theorem zst {v:D}{v2:V}{t:List Addr} (hr1:HR F G ρ1 h1 H1) (hr2:HR F G (ρ1++t) h2 H2) (rd:RD (ρ1++t) H2 v v2) (ok:zdL h1 h2=true) :
   ∃ t',HR F G (ρ1++t') (gcV h1.length v h2).2 H2∧RD (ρ1++t') H2 (gcV h1.length v h2).1 v2:=by
 have none':HR F G ρ1 (h2.take h1.length) H2:=by
   have:=hr1.keepSome hr2 ok (os:=[]) (obs:=[]) ς ς rfl (fun j i ob e=>by simp at e)
   simpa using this
 have low:∀ {d:D} {u:V},d.bd h1.length->RD (ρ1++t) H2 d u->RD ρ1 H2 d u:=fun {d u} hb r=>RD.cut (n:=h1.length) (fun m hm=>by rw [List.getElem?_append_left (by rw [hr1.len];exact hm)]) d u hb r
 have flatOs:∀ {ms:List Nat},(∀ m∈ms,h1.length<=m∧∃ o,h2[m]?=some o∧o.flat=true)->∀ (ρ':List Addr) (j i:Nat) ob,ms[j]?=some i->(ms.map fun k=>h2.getD k (.lst []))[j]?=some ob->∃ a ob2,(ρ1++t)[i]?=some a∧h2[i]?=some ob2∧ob.isScr=ob2.isScr∧RO G ρ' H2 a ob:=fun {ms} hm ρ' j i ob e1 e2=>by
   obtain ⟨_,o,ho,hf⟩:=hm i (List.mem_of_getElem? e1)
   rw [List.getElem?_map,e1]at e2
   have e3:h2.getD i (.lst [])=ob:=Option.some.inj e2
   rw [List.getD_eq_getElem?_getD,ho]at e3
   have e4:o=ob:=e3
   subst e4
   obtain ⟨a,g1,g2⟩:=hr2.all i o ho
   exact ⟨a,o,g1,ho,rfl,g2.flat hf⟩
 cases v with
 | obj m =>
   simp only [gcV]
   by_cases hm:m < h1.length
   . rw [if_pos hm]
     exact ⟨[],by simpa using none',by simpa using low (by unfold D.bd;exact hm) rd⟩
   . rw [if_neg hm]
     cases q:h2[m]? with
     | none=>exact ⟨t,hr2,rd⟩
     | some ob =>
       have flatCase:ob.flat=true->∃ t',HR F G (ρ1++t') (h2.take h1.length++[ob]) H2∧RD (ρ1++t') H2 (.obj h1.length) v2:=fun hf=>by
         have hh:=hr1.keepSome hr2 ok (os:=[m]) (obs:=[ob]) ς (by simp;omega) rfl (fun j i x e1 e2=>by
           refine flatOs (ms:=[m]) (fun k hk=>?_) _ j i x e1 ?_
           . have e:k=m:=by simpa using hk
             subst e;exact ⟨ω,ob,q,hf⟩
           . simp only [List.map_cons,List.map_nil,List.getD_eq_getElem?_getD,q];exact e2)
         refine ⟨_,hh,?_⟩
         unfold RD at rd ⊢
         obtain ⟨a,e1,e2⟩:=rd
         refine ⟨a,e1,?_⟩
         rw [List.getElem?_append_right (by rw [hr1.len];exact Nat.le_refl _),hr1.len]
         simp [List.getD_eq_getElem?_getD,e2]
       cases ob with
       | ins c fs =>
         dsimp only
         cases qr:zb1 h1.length (h1.length+1) h2 (fs.map (·.2)) [] with
         | none=>exact ⟨t,hr2,rd⟩
         | some pr =>
           obtain ⟨ds,ms⟩:=pr
           obtain ⟨_,nd,hms,rel⟩:=zhG qr ς ς
           dsimp only
           have hge:∀ k∈m :: ms,h1.length<=k:=fun k hk=>by
             rcases List.mem_cons.mp hk with rfl | hk
             . omega
             . exact (hms k hk).1
           have ndm:(m :: ms).Nodup:=by
             rw [List.nodup_cons]
             refine ⟨fun z=>?_,nd⟩
             obtain ⟨_,o,ho,hf⟩:=hms m z
             rw [q]at ho;cases ho;cases hf
           have hlen:∀ k∈ms,k < (ρ1++t).length:=fun k hk=>by
             obtain ⟨_,o,ho,_⟩:=hms k hk
             rw [hr2.len];exact (List.getElem?_eq_some_iff.mp ho).1
           have hml:m < (ρ1++t).length:=by rw [hr2.len];exact (List.getElem?_eq_some_iff.mp q).1
           have hh:=hr1.keepSome hr2 ok (os:=m :: ms) (obs := .ins c ((fs.map (·.1)).zip ds) :: ms.map fun k=>h2.getD k (.lst [])) ndm hge ς (fun j i x e1 e2=>by
             cases j with
             | zero =>
               cases e1;cases e2
               obtain ⟨a,g1,g2⟩:=hr2.all m _ q
               refine ⟨a,_,g1,q,rfl,?_⟩
               obtain ⟨C,dx,vs,k1,k2,k3⟩:=g2
               refine ⟨C,dx,vs,k1,k2,zmA k3 rfl (rel (ρ1++t) _ H2 _ (fun i hi=>?_) (fun j k ek=>?_) k3.vals)⟩
               . rw [List.getElem?_append_left (by rw [hr1.len];exact hi),List.getElem?_append_left (by rw [hr1.len];exact hi)]
               . rw [List.getElem?_append_right (by rw [hr1.len];omega),hr1.len]
                 have e5:h1.length+1+j - h1.length=j+1:=by omega
                 rw [e5,List.map_cons,List.getElem?_cons_succ,List.getElem?_map,ek]
                 have hk:=hlen k (List.mem_of_getElem? ek)
                 rw [List.getElem?_eq_getElem hk]
                 simp [List.getD_eq_getElem?_getD,List.getElem?_eq_getElem hk]
             | succ j=>exact flatOs hms _ j i x (by simpa using e1) (by simpa using e2))
           refine ⟨_,hh,?_⟩
           unfold RD at rd ⊢
           obtain ⟨a,e1,e2⟩:=rd
           refine ⟨a,e1,?_⟩
           rw [List.getElem?_append_right (by rw [hr1.len];exact Nat.le_refl _),hr1.len]
           simp [List.getD_eq_getElem?_getD,e2]
       | lst xs =>
         dsimp only
         by_cases hf:(O.lst xs).flat=true
         . rw [if_pos hf];exact flatCase hf
         . rw [if_neg hf];exact ⟨t,hr2,rd⟩
       | scr xs =>
         dsimp only
         by_cases hf:(O.scr xs).flat=true
         . rw [if_pos hf];exact flatCase hf
         . rw [if_neg hf];exact ⟨t,hr2,rd⟩
       | dic xs =>
         dsimp only
         by_cases hf:(O.dic xs).flat=true
         . rw [if_pos hf];exact flatCase hf
         . rw [if_neg hf];exact ⟨t,hr2,rd⟩
       | hole =>
         dsimp only
         by_cases hf:O.hole.flat=true
         . rw [if_pos hf];exact flatCase hf
         . rw [if_neg hf];exact ⟨t,hr2,rd⟩
       | set xs =>
         dsimp only
         by_cases hf:(O.set xs).flat=true
         . rw [if_pos hf];exact flatCase hf
         . rw [if_neg hf];exact ⟨t,hr2,rd⟩
 | tup ds =>
   simp only [gcV]
   cases qr:zb1 h1.length h1.length h2 ds [] with
   | none=>exact ⟨t,hr2,rd⟩
   | some pr =>
     obtain ⟨ds',ms⟩:=pr
     obtain ⟨_,nd,hms,rel⟩:=zhG qr ς ς
     dsimp only
     have hlen:∀ k∈ms,k < (ρ1++t).length:=fun k hk=>by
       obtain ⟨_,o,ho,_⟩:=hms k hk
       rw [hr2.len];exact (List.getElem?_eq_some_iff.mp ho).1
     have hh:=hr1.keepSome hr2 ok (os:=ms) (obs:=ms.map fun k=>h2.getD k (.lst [])) nd (fun k hk=>(hms k hk).1) ς (fun j i x e1 e2=>flatOs hms _ j i x e1 e2)
     refine ⟨_,hh,?_⟩
     unfold RD at rd ⊢
     obtain ⟨a,vs,e1,e2,rs⟩:=rd
     refine ⟨a,vs,e1,e2,rel (ρ1++t) _ H2 vs (fun i hi=>?_) (fun j k ek=>?_) rs⟩
     . rw [List.getElem?_append_left (by rw [hr1.len];exact hi),List.getElem?_append_left (by rw [hr1.len];exact hi)]
     . rw [List.getElem?_append_right (by rw [hr1.len];omega),hr1.len]
       have e5:h1.length+j - h1.length=j:=by omega
       rw [e5,List.getElem?_map,ek]
       have hk:=hlen k (List.mem_of_getElem? ek)
       rw [List.getElem?_eq_getElem hk]
       simp [List.getD_eq_getElem?_getD,List.getElem?_eq_getElem hk]
 | non=>exact ⟨[],by simpa [gcV] using none',by simpa [gcV] using low (by simp [D.bd]) rd⟩
 | bl x=>exact ⟨[],by simpa [gcV] using none',by simpa [gcV] using low (by simp [D.bd]) rd⟩
 | int x=>exact ⟨[],by simpa [gcV] using none',by simpa [gcV] using low (by simp [D.bd]) rd⟩
 | str x=>exact ⟨[],by simpa [gcV] using none',by simpa [gcV] using low (by simp [D.bd]) rd⟩
end
end MI
end
section
namespace MI
open PySem PySem.Spec L2
noncomputable def wpF (F:Addr->Prop) (G:GP) (ρ:List Addr) (H:Hp) (r:R D) (Q:VK):Prop:=match r with
 | .ok v h1=>∀ ρ1 H1 v1,Ext F ρ ρ1 H H1->HR F G ρ1 h1 H1->RD ρ1 H1 v v1->Q v1 H1
 | .ex c h1=>∀ ρ1 H1,Ext F ρ ρ1 H H1->HR F G ρ1 h1 H1->False
 | .bad=>False
noncomputable def spM (G:GP) (n:Nat) (f:MF):Sp:=fun vs H Q _=>∃ F ρ ds h,HR F G ρ h H∧RDs ρ H ds vs∧ds.length=n∧wpF F G ρ H (f ds h) Q
noncomputable def Ar (n:Nat) (f:MF):Prop:=∀ ds h,ds.length≠n->f ds h = .bad
theorem zhP {np nl:Nat}{m:MS}:Ar np (zS np nl m):=fun ds h hn=>if_neg hn
section
variable {P:Program}{w:World}{K:PySem.W.Frag}{mg:Str->Option Value}{base:Heap}{G:GP}
theorem zuD {F:Addr->Prop}{ρ:List Addr}{H:Hp}{N:List Str}{ds:List D}{vs:List V}{nl np:Nat} (r:RDs ρ H ds vs) (h1:N.length=nl) (h2:ds.length=np) (h3:np<=nl):zY ρ H (ds.map some++List.replicate (nl - np) none) (L2.start N vs):=by
 have hl:=r.length
 unfold L2.start
 refine ⟨by simp;omega,fun i d e=>?_⟩
 by_cases hi:i < ds.length
 . rw [List.getElem?_append_left (by simpa using hi),List.getElem?_map]at e
   rw [List.getElem?_append_left (by simp;omega),List.getElem?_map]
   cases ei:ds[i]? with
   | none=>rw [ei]at e;cases e
   | some d' =>
     rw [ei]at e
     have e':d'=d:=by simpa using e
     subst e'
     obtain ⟨v,g1,g2⟩:=r.get ei
     exact ⟨v,by rw [g1];rfl,g2⟩
 . rw [List.getElem?_append_right (by simpa using hi)]at e
   have:=List.mem_of_getElem? e
   rw [List.mem_replicate]at this
   cases this.2
end
section
variable {X:Cx}{F:Addr->Prop}{G:GP}{env:zD}{σ:L2.St}{ρ:List Addr}{H:Hp}{h:MH}{e o:Expr}{es:List Expr}{mo:ME D}{ml:ME (List D)}{pos p apos:Pos}{k n:Nat}{x m:Str}{f C:Addr}{fd:FuncData}{ps:List Str}{mf:MF}
theorem zjX:∀ {tbl:List (Nat×MF)}{c:Nat}{mf:MF},tbl.lookup c=some mf->c∈tbl.map (·.1)
 | [],c,mf,h=>by cases h
 | p :: r,c,mf,h=>by
   rw [List.lookup_cons]at h
   by_cases e:c=p.1
   . rw [e];simp
   . have b:(c == p.1)=false:=by simpa using e
     rw [b]at h
     exact List.mem_cons_of_mem _ (zjX h)
theorem zbM {l:List Str}{m:Str} (h:l.contains m=false) (kk:Nat):l[kk]?≠some m:=fun e=>by
 have:=List.mem_of_getElem? e
 rw [<- List.contains_iff_mem,h]at this
 cases this
end
end MI
end
section
namespace MI
open PySem PySem.Spec L2
noncomputable def ze0 (K:PySem.W.Frag):Sp:=fun vs H Q _=>∃ (a:Addr) (ns:List Int),vs=[.ref a]∧ns.length<=63∧zg9 H∧SqL K H a (ns.map V.int)∧∀ H',Q (.bl true) H'
theorem zsW {G:GP}{mf:MF} (hl:∀ ns:List Int,ns.length<=63->∃ h',mf [.obj 0] [.scr (ns.map .int)] = .ok (.bl true) h') (vs:List V) (H:Hp) (Q:VK) (E:XK) (h:ze0 G.K vs H Q E):spM G 1 mf vs H Q E:=by
 obtain ⟨a,ns,rfl,hn,ho,hs,q⟩:=h
 obtain ⟨h',e⟩:=hl ns hn
 refine ⟨fun _=>False,[a],[.obj 0],[.scr (ns.map .int)],⟨fun b z=>z.elim,fun n m b o o' hne h1 h2 h3 h4=>?_,rfl,fun n o e=>?_⟩,RDs.cons (by unfold RD;exact ⟨a,rfl,rfl⟩) RDs.nil,rfl,?_⟩
 . have e1:n=0:=by have:=(List.getElem?_eq_some_iff.mp h3).1;simp at this;exact this
   have e2:m=0:=by have:=(List.getElem?_eq_some_iff.mp h4).1;simp at this;exact this
   exact absurd (e1.trans e2.symm) hne
 . have e1:n=0:=by have:=(List.getElem?_eq_some_iff.mp e).1;simp at this;exact this
   subst e1
   cases e
   refine ⟨a,rfl,ns.map V.int,?_,RDs.ints ns⟩
   rcases hs with hs | hs
   . rcases hs with hs | ⟨o,hs⟩
     . rcases ho a with z | ⟨o,xs,z⟩
       . rw [z]at hs;cases hs
       . rw [z]at hs;cases hs
     . exact .inl ⟨o,hs⟩
   . exact .inr hs
 . rw [e]
   intro ρ1 H1 v1 _ _ r
   unfold RD at r
   subst r
   exact q H1
theorem law_start {K:PySem.W.Frag}{H:Hp}{a:Addr}{ns:List Int} (ho:zg9 H) (hl:ns.length<=63) (hS:SqL K H a (ns.map V.int)):ze0 K [.ref a] H (fun v _=>v = .bl true) fun _ _ _=>False:=⟨a,ns,rfl,hl,ho,hS,fun _=>rfl⟩
end MI
end
section
namespace MI
open PySem PySem.Spec L2
section
variable {W:Nat->Hp->Prop}{X:Cx}{F:Addr->Prop}{G:GP}{env:zD}{σ:L2.St}{ρ:List Addr}{H:Hp}{h:MH}{a b c e o tg:Expr}{es:List Expr}{ma mb mo:ME D}{pos p p1 tp apos cpos:Pos}{k:Nat}
theorem zmx:∀ {xs:List D}{n i:Nat}{d:D},(zc8 n xs)[i]?=some d->∃ x,xs[i]?=some x∧d = .tup [.int ((n+i:Nat):Int),x]
 | [],n,i,d,e=>by simp [zc8]at e
 | x :: xs,n,0,d,e=>by simp [zc8]at e;exact ⟨x,rfl,by rw [<- e];simp⟩
 | x :: xs,n,i+1,d,e=>by
   have e':(zc8 (n+1) xs)[i]?=some d:=by simpa [zc8] using e
   obtain ⟨y,h1,h2⟩:=zmx e'
   exact ⟨y,by simpa using h1,by rw [h2];congr 2;simp;omega⟩
theorem zmb:∀ (xs:List D) (n:Nat),(zc8 n xs).length=xs.length
 | [],n=>rfl
 | x :: xs,n=>by simp [zc8,zmb xs (n+1)]
theorem zq9 (hg:Gl X "enumerate") (hm:X.mg "enumerate" = none) (ha:JE X a (tE W G ma)) (hs:starEach [a] X.env=(false,eval a X.env) :: starEach [] X.env) (hK:X.K=G.K:=by rfl):JI X (.Tuple es k tp) (.Call (.Name "enumerate" p) [a] [] pos) (tI W G (itE ma)) :=
 .of (zjE (zuU hg hm ha.to hs) fun σ H Q ⟨F,ρ,env,h,er,hr,w⟩=>⟨F,ρ,env,h,er,hr,zI w fun x h1 ρ1 H1 y e1 er1 hr1 r1 w1=>by
   cases x with
   | obj n =>
     simp only [zio]at w1
     cases qo:h1[n]? with
     | none=>rw [qo]at w1;exact w1.elim
     | some o =>
       rw [qo]at w1
       cases o with
       | lst xs =>
         obtain ⟨q,vs,rfl,eq,hq,rs⟩:=hr1.lst r1 qo
         refine ⟨q,rfl,⟨vs,SqL.of hq⟩,w1 ρ1 H1 (Ite X.K q) Ext.refl er1 hr1 ?_⟩
         intro F' ρ' h' H' i ex hr' g
         have e:=zmy g (List.mem_singleton.mpr rfl)
         have eq':=ex.get eq
         obtain ⟨vs',hq',rs'⟩:=hr'.at e eq'
         refine ⟨fun d hd=>?_,fun hl=>⟨vs',SqL.of hq',by rw [<- rs'.length];rw [zmb]at hl;exact hl⟩⟩
         obtain ⟨x,hx,ed⟩:=zmx hd
         obtain ⟨v,e1,e2⟩:=rs'.get hx
         refine ⟨⟨vs',v,SqL.of hq',e1⟩,fun z H2 ⟨T,v2,y1,y2,y3,y4⟩=>?_⟩
         subst y1 y3 ed
         have:=y4 vs' (SqL.of hq')
         rw [e1]at this;cases this
         refine ⟨zck hr' y2,hr'.new y2,?_⟩
         unfold RD
         exact ⟨T,_,rfl,zbc,RDs.cons (by unfold RD;simp) (RDs.cons (RD.ext (zck hr' y2) _ _ e2) RDs.nil)⟩
       | _=>exact w1.elim
   | _=>exact w1.elim⟩)
theorem HR.freeze {n:Nat}{q:Addr}{kvs:List (Int×D)}{vs:List (Key×V)}{ob:Obj} (hr:HR F G ρ h H) (e:h[n]?=some (.dic kvs)) (eq:ρ[n]?=some q) (hq:H q=some (.dK vs)) :
   HR (fun b=>F b∨b=q) G ρ (h.set n .hole) (upd H q (.frz ob (.dK vs)))∧Ext F ρ ρ H (upd H q (.frz ob (.dK vs))):=by
 have hn:n < h.length:=(List.getElem?_eq_some_iff.mp e).1
 have nF:∀ b,F b->b≠q:=fun b hb z=>by have:=(hr.pro b hb).2 n _ (z ▸ eq) e;cases this
 have ex:Ext F ρ ρ H (upd H q (.frz ob (.dK vs))):=by
   refine ⟨⟨[],ς⟩,fun b xs z=>?_,fun b hb=>zt (nF b hb)⟩
   rw [zt]
   . exact z
   . intro zz;subst zz;rw [hq]at z;cases z
 have at':∀ (m:Nat) x,(h.set n .hole)[m]?=some x->(n=m∧x = .hole)∨(n≠m∧h[m]?=some x):=fun m x hx=>by
   by_cases hm:n=m
   . subst hm;rw [List.getElem?_set_self hn]at hx;cases hx;exact .inl ⟨rfl,rfl⟩
   . rw [List.getElem?_set_ne hm]at hx;exact .inr ⟨hm,hx⟩
 refine ⟨⟨fun b hb=>⟨?_,fun m x e1 e2=>?_⟩,fun i j b x y hne h1 h2 h3 h4=>?_,by simp [hr.len],fun m x hx=>?_⟩,ex⟩
 . rcases hb with hb | rfl
   . rw [zt (nF b hb)];exact (hr.pro b hb).1
   . exact ⟨_,zbc⟩
 . rcases at' m x e2 with ⟨_,rfl⟩ | ⟨hm,e2⟩
   . rfl
   . rcases hb with hb | rfl
     . exact (hr.pro b hb).2 m x e1 e2
     . rcases hr.nd n m b _ x hm eq e1 e e2 with z | z
       . cases z
       . exact z
 . rcases at' i x h3 with ⟨_,rfl⟩ | ⟨_,h3⟩
   . exact .inl rfl
   . rcases at' j y h4 with ⟨_,rfl⟩ | ⟨_,h4⟩
     . exact .inr rfl
     . exact hr.nd i j b x y hne h1 h2 h3 h4
 . rcases at' m x hx with ⟨rfl,rfl⟩ | ⟨hm,hx⟩
   . exact ⟨q,eq,trivial⟩
   . obtain ⟨b,e1,e2⟩:=hr.all m x hx
     refine ⟨b,e1,?_⟩
     by_cases hb:b=q
     . subst hb
       have hsc:x.isScr=true:=by
         rcases hr.nd n m b _ x hm eq e1 e hx with z | z
         . cases z
         . exact z
       cases x with
       | scr xs =>
         obtain ⟨us,z,w⟩:=e2
         refine ⟨us,?_,RDs.ext ex _ _ w⟩
         rcases z with ⟨o',z⟩ | z
         . rw [hq]at z;cases z
         . exact .inr z
       | hole=>trivial
       | _=>cases hsc
     . exact e2.map (fun w z=>by rw [zt hb];exact z) (RD.ext ex) (RDs.ext ex)
theorem HR.thaw {n:Nat}{q:Addr}{kvs:List (Int×D)}{vs:List (Key×V)}{ob:Obj} (nq:¬ F q) (hr:HR (fun b=>F b∨b=q) G ρ h H) (e:h[n]?=some .hole) (eq:ρ[n]?=some q) (hq:H q=some (.frz ob (.dK vs))) (r:KRs ρ H kvs vs) :
   HR F G ρ (h.set n (.dic kvs)) (upd H q (.dK vs))∧Ext F ρ ρ H (upd H q (.dK vs)):=by
 have hn:n < h.length:=(List.getElem?_eq_some_iff.mp e).1
 have nF:∀ b,F b->b≠q:=fun b hb z=>nq (z ▸ hb)
 have ex:Ext F ρ ρ H (upd H q (.dK vs)):=by
   refine ⟨⟨[],ς⟩,fun b xs z=>?_,fun b hb=>zt (nF b hb)⟩
   rw [zt]
   . exact z
   . intro zz;subst zz;rw [hq]at z;cases z
 have at':∀ (m:Nat) x,(h.set n (.dic kvs))[m]?=some x->(n=m∧x = .dic kvs)∨(n≠m∧h[m]?=some x):=fun m x hx=>by
   by_cases hm:n=m
   . subst hm;rw [List.getElem?_set_self hn]at hx;cases hx;exact .inl ⟨rfl,rfl⟩
   . rw [List.getElem?_set_ne hm]at hx;exact .inr ⟨hm,hx⟩
 have scq:∀ (m:Nat) x,ρ[m]?=some q->h[m]?=some x->x.isScr=true:=fun m x e1 e2=>(hr.pro q (.inr rfl)).2 m x e1 e2
 refine ⟨⟨fun b hb=>⟨?_,fun m x e1 e2=>?_⟩,fun i j b x y hne h1 h2 h3 h4=>?_,by simp [hr.len],fun m x hx=>?_⟩,ex⟩
 . rw [zt (nF b hb)];exact (hr.pro b (.inl hb)).1
 . rcases at' m x e2 with ⟨rfl,rfl⟩ | ⟨hm,e2⟩
   . rw [eq]at e1;cases e1;exact absurd hb nq
   . exact (hr.pro b (.inl hb)).2 m x e1 e2
 . rcases at' i x h3 with ⟨rfl,rfl⟩ | ⟨_,h3⟩
   . rcases at' j y h4 with ⟨z,rfl⟩ | ⟨_,h4⟩
     . exact absurd z hne
     . rw [eq]at h1;cases h1
       exact .inr (scq j y h2 h4)
   . rcases at' j y h4 with ⟨rfl,rfl⟩ | ⟨_,h4⟩
     . rw [eq]at h2;cases h2
       exact .inl (scq i x h1 h3)
     . exact hr.nd i j b x y hne h1 h2 h3 h4
 . rcases at' m x hx with ⟨rfl,rfl⟩ | ⟨hm,hx⟩
   . exact ⟨q,eq,vs,zbc,r.map fun p _ v=>RD.ext ex _ _⟩
   . obtain ⟨b,e1,e2⟩:=hr.all m x hx
     refine ⟨b,e1,?_⟩
     by_cases hb:b=q
     . subst hb
       have hsc:=scq m x e1 hx
       cases x with
       | scr xs =>
         obtain ⟨us,z,w⟩:=e2
         refine ⟨us,?_,RDs.ext ex _ _ w⟩
         rcases z with ⟨o',z⟩ | z
         . rw [hq]at z;cases z
         . exact .inr z
       | hole=>trivial
       | _=>cases hsc
     . exact e2.map (fun w z=>by rw [zt hb];exact z) (RD.ext ex) (RDs.ext ex)
theorem KRs.items:∀ {kvs:List (Int×D)}{vs:List (Key×V)}{i:Nat}{d:D},KRs ρ H kvs vs->(zdz kvs)[i]?=some d->∃ p v,kvs[i]?=some p∧vs[i]?=some (Sum.inl p.1,v)∧d = .tup [.int p.1,p.2]∧RD ρ H p.2 v
 | [],vs,i,d,r,e=>by simp [zdz]at e
 | p :: kvs,vs,0,d,r,e=>by
   unfold KRs at r
   obtain ⟨v,q,rfl,r1,r2⟩:=r
   simp [zdz]at e
   exact ⟨p,v,rfl,rfl,e.symm,r1⟩
 | p :: kvs,vs,i+1,d,r,e=>by
   unfold KRs at r
   obtain ⟨v,q,rfl,r1,r2⟩:=r
   obtain ⟨p',v',h1,h2,h3,h4⟩:=KRs.items (i:=i) (d:=d) r2 (by simpa [zdz] using e)
   exact ⟨p',v',by simpa using h1,by simpa using h2,h3,h4⟩
theorem zs4 {q:Addr}{kvs:List (Int×D)}{vs:List (Key×V)}{ob:Obj} (hq:H q=some (.frz ob (.dK vs))) (Fq:F q) (r:KRs ρ H kvs vs):zes G F ρ H (Iti ob q vs) (zdz kvs,[]):=by
 intro F' ρ' h' H' i ex hr' _
 have hq':H' q=some (.frz ob (.dK vs)):=by rw [ex.frm q Fq];exact hq
 have r':KRs ρ' H' kvs vs:=r.map fun p _ v=>RD.ext ex _ _
 have hl:=r.length
 refine ⟨fun d hd=>?_,fun hle=>⟨hq',by rw [<- hl];simpa [zdz] using hle⟩⟩
 obtain ⟨p,v,h1,h2,rfl,h4⟩:=r'.items hd
 refine ⟨⟨hq',(List.getElem?_eq_some_iff.mp h2).1⟩,fun x H2 ⟨T,kk,u,y1,y2,y3,y4⟩=>?_⟩
 rw [h2]at y1;cases y1
 subst y2 y4
 refine ⟨zck hr' y3,hr'.new y3,?_⟩
 unfold RD
 exact ⟨T,_,rfl,zbc,RDs.cons (by unfold RD;rfl) (RDs.cons (RD.ext (zck hr' y3) _ _ h4) RDs.nil)⟩
theorem KRs.vals:∀ {kvs:List (Int×D)}{vs:List (Key×V)}{i:Nat}{d:D},KRs ρ H kvs vs->(zdK kvs)[i]?=some d->∃ kk v,vs[i]?=some (kk,v)∧RD ρ H d v
 | [],vs,i,d,r,e=>by simp [zdK]at e
 | p :: kvs,vs,0,d,r,e=>by
   unfold KRs at r
   obtain ⟨v,q,rfl,r1,r2⟩:=r
   simp [zdK]at e
   subst e
   exact ⟨_,v,rfl,r1⟩
 | p :: kvs,vs,i+1,d,r,e=>by
   unfold KRs at r
   obtain ⟨v,q,rfl,r1,r2⟩:=r
   obtain ⟨kk,v',h1,h2⟩:=KRs.vals (i:=i) (d:=d) r2 (by simpa [zdK] using e)
   exact ⟨kk,v',by simpa using h1,h2⟩
theorem ztZ {q:Addr}{kvs:List (Int×D)}{vs:List (Key×V)}{ob:Obj} (hq:H q=some (.frz ob (.dK vs))) (Fq:F q) (r:KRs ρ H kvs vs):zes G F ρ H (Itv ob q vs) (zdK kvs,[]):=by
 intro F' ρ' h' H' i ex hr' _
 have hq':H' q=some (.frz ob (.dK vs)):=by rw [ex.frm q Fq];exact hq
 have r':KRs ρ' H' kvs vs:=r.map fun p _ v=>RD.ext ex _ _
 have hl:=r.length
 refine ⟨fun d hd=>?_,fun hle=>⟨hq',by rw [<- hl];simpa [zdK] using hle⟩⟩
 obtain ⟨kk,v,h1,h2⟩:=r'.vals hd
 refine ⟨⟨hq',(List.getElem?_eq_some_iff.mp h1).1⟩,fun x H2 ⟨y1,kk',y2⟩=>?_⟩
 subst y1
 rw [h1]at y2;cases y2
 exact ⟨Ext.refl,hr',h2⟩
structure zjQ (X:Cx) (F:Addr->Prop) (G:GP) (ρ:List Addr) (H:Hp) (n:Nat) (q:Addr) (ob:Obj) (kvs:List (Int×D)) (vs:List (Key×V)):Prop where
 nf:zd5 X q
 nq:¬ F q
 eq:ρ[n]?=some q
 hq:H q=some (.dK vs)
 rs:KRs ρ H kvs vs
theorem zg1 {n:Nat}{q:Addr}{ob:Obj}{kvs:List (Int×D)}{vs:List (Key×V)}{ρ2:List Addr}{H2:Hp}{h2:MH} (Z:zjQ X F G ρ H n q ob kvs vs) (e1:Ext F ρ ρ H (upd H q (.frz ob (.dK vs)))) (ex:Ext (fun b=>F b∨b=q) ρ ρ2 (upd H q (.frz ob (.dK vs))) H2) (hr2:HR (fun b=>F b∨b=q) G ρ2 h2 H2) (hh:h2[n]?=some .hole) :
   H2 q=some (.frz ob (.dK vs))∧HR F G ρ2 (h2.set n (.dic kvs)) (upd H2 q (.dK vs))∧Ext F ρ ρ2 H (upd H2 q (.dK vs))∧Ext F ρ2 ρ2 H2 (upd H2 q (.dK vs)):=by
 have hq2:H2 q=some (.frz ob (.dK vs)):=by rw [ex.frm q (.inr rfl)];exact zbc
 have exF:Ext F ρ ρ2 H H2:=e1.trans (ex.sub fun b hb=> .inl hb)
 obtain ⟨g1,g2⟩:=HR.thaw Z.nq hr2 hh (ex.get Z.eq) hq2 (Z.rs.map fun p _ v=>RD.ext exF _ _)
 exact ⟨hq2,g1,exF.trans g2,g2⟩
theorem zsr {n:Nat}{q:Addr}{ob:Obj}{kvs:List (Int×D)}{vs:List (Key×V)}{r:RS}{E:zcj} (Z:zjQ X F G ρ H n q ob kvs vs) (e1:Ext F ρ ρ H (upd H q (.frz ob (.dK vs)))) (w:wpS F W G ρ H (zeG n kvs r) E) :
   wpS (fun b=>F b∨b=q) W G ρ (upd H q (.frz ob (.dK vs))) r { nx:=fun σ' H'=>zcL X (E.nx σ') H',rt:=fun v H'=>zcL X (E.rt v) H',bk:=fun σ' H'=>zcL X (E.bk σ') H',ct:=fun σ' H'=>zcL X (E.ct σ') H' }:=by
 cases r with
 | nx e h2 =>
   intro ρ2 H2 σ2 ex er hr2
   simp only [zeG]at w
   by_cases hh:h2[n]?=some .hole
   . rw [if_pos hh]at w
     obtain ⟨g0,g1,g2,g3⟩:=zg1 Z e1 ex hr2 hh
     exact ⟨q,ob,vs,g0,Z.nf,w ρ2 _ σ2 g2 (er.ext g3) g1⟩
   . rw [if_neg hh]at w;exact w.elim
 | bk e h2 =>
   intro ρ2 H2 σ2 ex er hr2
   simp only [zeG]at w
   by_cases hh:h2[n]?=some .hole
   . rw [if_pos hh]at w
     obtain ⟨g0,g1,g2,g3⟩:=zg1 Z e1 ex hr2 hh
     exact ⟨q,ob,vs,g0,Z.nf,w ρ2 _ σ2 g2 (er.ext g3) g1⟩
   . rw [if_neg hh]at w;exact w.elim
 | ct e h2 =>
   intro ρ2 H2 σ2 ex er hr2
   simp only [zeG]at w
   by_cases hh:h2[n]?=some .hole
   . rw [if_pos hh]at w
     obtain ⟨g0,g1,g2,g3⟩:=zg1 Z e1 ex hr2 hh
     exact ⟨q,ob,vs,g0,Z.nf,w ρ2 _ σ2 g2 (er.ext g3) g1⟩
   . rw [if_neg hh]at w;exact w.elim
 | rt v h2 =>
   intro ρ2 H2 v2 ex hr2 rd
   simp only [zeG]at w
   by_cases hh:h2[n]?=some .hole
   . rw [if_pos hh]at w
     obtain ⟨g0,g1,g2,g3⟩:=zg1 Z e1 ex hr2 hh
     exact ⟨q,ob,vs,g0,Z.nf,w ρ2 _ v2 g2 g1 (RD.ext g3 _ _ rd)⟩
   . rw [if_neg hh]at w;exact w.elim
 | ex c h2=>exact w.elim
 | bad=>exact w.elim
variable {m1:MS}{t:Tg}{bd:List Stmt}{cond:ME Bool}{me:ME D}{N:List Str}{js:List (Option Nat)}{scope:Scope}{elt:Expr}{ifs:List Expr}
theorem zpY {pr:List (Int×D)->List D}{It':Obj->Addr->List (Key×V)->It}{E:zcj} (src:∀ {F:Addr->Prop}{ρ:List Addr}{H:Hp}{q:Addr}{kvs:List (Int×D)}{vs:List (Key×V)}{ob:Obj},H q=some (.frz ob (.dK vs))->F q->KRs ρ H kvs vs->zes G F ρ H (It' ob q vs) (pr kvs,[]))
   (w:tS W G (zhh pr t mo m1) E σ H):zk6 (fun σ H R=>tE W G mo σ H fun x H1=>∃ a kvs,x = .ref a∧H1 a=some (.dK kvs)∧∀ ob,zd5 X a->R (It' ob a kvs) (upd H1 a (.frz ob (.dK kvs)))) (tTg G t) (tS W G m1)
     { nx:=fun σ' H'=>zcL X (E.nx σ') H',rt:=fun v H'=>zcL X (E.rt v) H',bk:=fun σ' H'=>zcL X (E.bk σ') H',ct:=fun σ' H'=>zcL X (E.ct σ') H' } σ H:=by
 obtain ⟨F,ρ,env,h,er,hr,w⟩:=w
 refine ⟨F,ρ,env,h,er,hr,wpS_bind w fun x h1 ρ1 H1 y e1 er1 hr1 r1 w1=>?_⟩
 cases x with
 | obj n =>
   dsimp only at w1
   cases qo:h1[n]? with
   | none=>rw [qo]at w1;exact w1.elim
   | some o =>
     rw [qo]at w1
     cases o with
     | dic kvs =>
       obtain ⟨q,vs,rfl,eq,hq,rs⟩:=hr1.dic r1 qo
       refine ⟨q,vs,rfl,hq,fun ob nf=>?_⟩
       obtain ⟨g1,g2⟩:=hr1.freeze (ob:=ob) qo eq hq
       have nq:¬ F q:=fun z=>by have:=(hr1.pro q z).2 n _ eq qo;cases this
       exact zkP (src zbc (.inr rfl) (rs.map fun p _ v=>RD.ext g2 _ _)) (er1.ext g2) g1 (zsr ⟨nf,nq,eq,hq,rs⟩ g2 w1)
     | _=>exact w1.elim
 | _=>exact w1.elim
theorem zue (hp:PassesOwn (model X.prog X.w) X.A X.env X.xe) (ho:JE X o (tE W G mo)) (hg:JG X (.Tuple es k tp) (tTg G t)) (hb:JSs X bd (tS W G m1)) (hc:X.calm=true:=by rfl) (hbase:attributeBase o "items" X.env (eval o X.env)=eval o X.env:=by rfl) (hline:(apos.endLine == cpos.line)=true:=by rfl)
   (hs:∀ x,foldedSetIterable (.Call (.Attribute o "items" apos) [] [] cpos) X.env x=pure x:=by intro _;rfl):JS X (.For (.Tuple es k tp) (.Call (.Attribute o "items" apos) [] [] cpos) bd [] pos) (tS W G (zhh zdz t mo m1)) :=
 .of (zct (zqP (zkp hp hc (zsU ho.to hbase hline) hg.to hb.to hs)) fun E σ H w=>zpY (fun h1 h2 h3=>zs4 h1 h2 h3) w)
theorem zqt {pr:List (Int×D)->List D}{It':Obj->Addr->List (Key×V)->It}{Q:VK} (src:∀ {F:Addr->Prop}{ρ:List Addr}{H:Hp}{q:Addr}{kvs:List (Int×D)}{vs:List (Key×V)}{ob:Obj},H q=some (.frz ob (.dK vs))->F q->KRs ρ H kvs vs->zes G F ρ H (It' ob q vs) (pr kvs,[]))
   (w:tN W G (zg2 pr js t mo cond me) σ H Q):zgY js (fun σ H R=>tE W G mo σ H fun x H1=>∃ a kvs,x = .ref a∧H1 a=some (.dK kvs)∧∀ ob,zd5 X a->R (It' ob a kvs) (upd H1 a (.frz ob (.dK kvs)))) (tTg G t) (tT W G cond) (tE W G me) σ H (fun v H'=>zcL X (Q v) H'):=by
 obtain ⟨F,ρ,env,h,er,hr,w⟩:=w
 refine ⟨F,ρ,env,h,er,hr,zI w fun x h1 ρ1 H1 y e1 er1 hr1 r1 w1=>?_⟩
 cases x with
 | obj n =>
   dsimp only at w1
   cases qo:h1[n]? with
   | none=>rw [qo]at w1;exact w1.elim
   | some o =>
     rw [qo]at w1
     cases o with
     | dic kvs =>
       dsimp only at w1
       obtain ⟨q,vs,rfl,eq,hq,rs⟩:=hr1.dic r1 qo
       refine ⟨q,vs,rfl,hq,fun ob nf=>?_⟩
       intro D hD
       obtain ⟨g1,g2⟩:=hr1.freeze (ob:=ob) qo eq hq
       have nq:¬ F q:=fun z=>by have:=(hr1.pro q z).2 n _ eq qo;cases this
       by_cases hlen:(pr kvs).length<=1000000
       . rw [if_pos hlen]at w1
         refine zlP (F:=fun b=>F b∨b=q) (p:=(pr kvs,[])) (t:=t) hlen (src zbc (.inr rfl) (rs.map fun p _ v=>RD.ext g2 _ _)) (er1.ext g2) g1 ?_ D hD
         cases ec:zbI t [] cond me (pr kvs) [] (zb3 js env) (h1.set n .hole) with
         | ok xs h2 =>
           rw [ec]at w1
           simp only [zit]at w1
           intro ρ2 H2 v2 ex er2 hr2 ⟨d,us,ev,hd,fr,rus⟩
           by_cases hh:h2[n]?=some .hole
           . rw [if_pos hh]at w1
             have Z:zjQ X F G ρ1 H1 n q ob kvs vs:=⟨nf,nq,eq,hq,rs⟩
             obtain ⟨k0,k1,k2,k3⟩:=zg1 Z g2 ex hr2 hh
             have dq:d≠q:=fun z=>by rw [z,k0]at hd;cases hd
             refine ⟨q,ob,vs,k0,nf,w1 ρ2 _ v2 k2 (er2.ext k3) k1 ⟨d,us,ev,by rw [zt dq];exact hd,⟨fun z=>fr.1 (.inl z),fun m x z1 z2=>?_⟩,RDs.ext k3 _ _ rus⟩⟩
             by_cases hm:n=m
             . subst hm
               rw [ex.get eq]at z1;cases z1;exact absurd rfl dq
             . rw [List.getElem?_set_ne hm]at z2
               exact fr.2 m x z1 z2
           . rw [if_neg hh]at w1;exact w1.elim
         | ex c h2=>rw [ec]at w1;exact w1.elim
         | bad=>rw [ec]at w1;exact w1.elim
       . rw [if_neg hlen]at w1;exact w1.elim
     | _=>exact w1.elim
 | _=>exact w1.elim
theorem zqg (hc:X.calm=true) (S:zbF X scope N js) (ho:JE X o (tE W G mo)) (hg:∀ cl s₀ H₀ fp,JG (zba X scope N cl s₀ H₀ fp) tg (tTg G t)) (hf:∀ cl s₀ H₀ fp,zdi (zba X scope N cl s₀ H₀ fp) ifs (tT W G cond)) (he:∀ cl s₀ H₀ fp,JE (zba X scope N cl s₀ H₀ fp) elt (tE W G me))
   (hbase:attributeBase o "values" X.env (eval o X.env)=eval o X.env:=by rfl) (hline:(apos.endLine == cpos.line)=true:=by rfl) (hs:∀ x,foldedSetIterable (.Call (.Attribute o "values" apos) [] [] cpos) X.env x=pure x:=by intro _;rfl) :
   JE X (.ListComp elt [⟨tg,.Call (.Attribute o "values" apos) [] [] cpos,ifs,0⟩] scope pos) (tN W G (zg2 zdK js t mo cond me)) :=
 .of (zX (zt2 (zql hc S (ztB ho.to hbase hline) ⟨fun cl s₀ H₀ fp=>⟨(hg cl s₀ H₀ fp).to,(hf cl s₀ H₀ fp).to,(he cl s₀ H₀ fp).to⟩⟩ hs)) fun σ H Q w=>zqt (fun h1 h2 h3=>ztZ h1 h2 h3) w)
end
end MI
end
section
namespace MI
open PySem PySem.Spec L2
noncomputable abbrev WE (xm:List Addr) (E:XK):Nat->Hp->Prop:=fun c H=>∃ C,xm[c]?=some C∧E (.ref C) none H
noncomputable abbrev zcY (xm:List Addr) (W:Nat->Hp->Prop):Addr->Hp->Prop:=fun C H=>∃ c,xm[c]?=some C∧W c H
structure XM (X:Cx) (xm:List Addr) (W:Nat->Hp->Prop):Prop where
 has:∀ c H,W c H->∃ C,xm[c]?=some C
 pass:zdj (CX1 X.prog X.w) X (EW (zcY xm W))
structure XB (X:Cx) (xm:List Addr) (W:Nat->Hp->Prop):Prop extends XM X xm W where
 ok:XOk X (zcY xm W)
 ex:X.ex=[]
 st:∃ o,X.stack=X.env :: o
 fr:∃ L,X.env.frame=some L
theorem CX1.mono {P:Program}{w:World}{outer:List Env}{H:Hp}{s:Shared}{E E':XK}{e:Value}{s':Shared} (m:∀ c d H,E c d H->E' c d H) (c:CX1 P w outer H s E e s'):CX1 P w outer H s E' e s':=by
 obtain ⟨a,C,H',r1,r2,r3,r4,r5,r6,r7,q,r⟩:=c
 exact ⟨a,C,H',r1,r2,r3,r4,r5,r6,r7,m _ _ _ q,r⟩
theorem XOk.mono {X:Cx}{WX WX':Addr->Hp->Prop} (x:XOk X WX) (m:∀ C H,WX' C H->WX C H):XOk X WX' :=
 ⟨fun t pins σ H s a C I f q=>x.thr t pins σ H s a C I f (m C H q),fun pins σ H s e s' I c=>x.pass pins σ H s e s' I (CX1.mono (fun cls d H ⟨C,e,q⟩=>⟨C,e,m C H q⟩) c),x.own⟩
noncomputable def zf7 (F:Addr->Prop) (W:Nat->Hp->Prop) (G:GP) (ρ:List Addr) (H:Hp) (r:R D) (Q:VK):Prop:=match r with
 | .ok v h1=>∀ ρ1 H1 v1,Ext F ρ ρ1 H H1->HR F G ρ1 h1 H1->RD ρ1 H1 v v1->Q v1 H1
 | .ex c h1=>∀ ρ1 H1,Ext F ρ ρ1 H H1->HR F G ρ1 h1 H1->W c H1
 | .bad=>False
noncomputable def spE (G:GP) (xm:List Addr) (n:Nat) (f:MF):Sp:=fun vs H Q E=>∃ F ρ ds h,HR F G ρ h H∧RDs ρ H ds vs∧ds.length=n∧zf7 F (WE xm E) G ρ H (f ds h) Q
section
variable {P:Program}{w:World}{K:PySem.W.Frag}{mg:Str->Option Value}{base:Heap}{G:GP}{xm:List Addr}
theorem zr8 {N:List Str}{qual:Str}{scope:Scope}{f:Addr}{cd:Value}{A:Around}{outer:List Env}{s:Shared}{H:Hp}{E:XK}:XB (zcC (CX1 P w) P w K mg base N qual scope f cd A outer s H E) xm (WE xm E) :=
 have ok:=XOk.mono (zqZ (P:=P) (w:=w) (K:=K) (mg:=mg) (base:=base) (N:=N) (qual:=qual) (scope:=scope) (f:=f) (cd:=cd) (A:=A) (outer:=outer) (s:=s) (H:=H) (E:=E)) (WX':=zcY xm (WE xm E)) fun C H ⟨c,e,C',e',q⟩=>by rw [e]at e';cases e';exact q
 ⟨⟨fun c H ⟨C,e,_⟩=>⟨C,e⟩,ok.pass⟩,ok,rfl,⟨outer,rfl⟩,⟨_,rfl⟩⟩
theorem z5 {x qual:Str}{st:Stmt}{f:Addr}{fd:FuncData}{N ps:List Str}{k np nl:Nat}{m:MS} (Fn:Fun K x qual st f fd) (S:zV N ps (zH st)) (hnl:N.length=nl) (hnp:ps.length=np) (hle:np<=nl)
   (body:∀ (cdv:Value) (A:Around) (outer:List Env) (s:Shared) (H:Hp) (E:XK),zO k (A.deeper (PyProof.Rows.envOfC qual (zH st) s.heap.objs.size f cdv)) ->
     ∀ W,XB (zcC (CX1 P w) P w K mg base N qual (zH st) f cdv A outer s H E) xm W->JSs (zcC (CX1 P w) P w K mg base N qual (zH st) f cdv A outer s H E) (zcU st) (tS W G m)):zM P w K mg base (CX1 P w) (k+1) f fd ps (spE G xm np (zS np nl m)):=by
 refine Fn.okE S (fun vs H Q E h=>?_) (fun cdv A outer s H vs Q E hr h=>?_)
 . obtain ⟨F,ρ,ds,h,_,r,hl,_⟩:=h
   rw [<- r.length,hl,hnp]
 . obtain ⟨F,ρ,ds,h,hrr,r,hl,w⟩:=h
   refine ⟨_,(body cdv A outer s H E hr (WE xm E) (zr8)).to,F,ρ,_,h,zuD (F:=F) r hnl hl hle,hrr,?_⟩
   unfold zS at w
   rw [if_pos hl]at w
   cases e:m (ds.map some++List.replicate (nl - np) none) h with
   | nx e1 h1=>rw [e]at w;exact fun ρ1 H1 σ1 ex er hr'=>w ρ1 H1 .non ex hr' (by unfold RD;rfl)
   | rt v h1=>rw [e]at w;exact w
   | ex c h1=>rw [e]at w;exact w
   | bk e1 h1=>rw [e]at w;exact w.elim
   | ct e1 h1=>rw [e]at w;exact w.elim
   | bad=>rw [e]at w;exact w.elim
end
section
variable {X:Cx}{F:Addr->Prop}{G:GP}{env:zD}{σ:L2.St}{ρ:List Addr}{H:Hp}{h:MH}{e o:Expr}{es:List Expr}{mo:ME D}{ml:ME (List D)}{pos p apos:Pos}{k n:Nat}{x m:Str}{xm:List Addr}{W:Nat->Hp->Prop}{f C:Addr}{fd:FuncData}{ps:List Str}{mf:MF}
theorem zlx {ds:List D}{Q:VK} (er:zY ρ H env σ) (hr:HR F G ρ h H) (w:wp F W G rV env σ ρ H (app mf ds h) Q):zf7 F W G ρ H (mf ds h) Q:=by
 unfold app gc at w
 cases e:mf ds h with
 | ok v h2 =>
   rw [e]at w
   intro ρ2 H2 v2 ex hr2 rd
   dsimp only at w
   by_cases ok:zdL h h2=true
   . rw [if_pos ok]at w
     obtain ⟨t,rfl⟩:=ex.pre
     obtain ⟨t',g1,g2⟩:=zst hr hr2 rd ok
     have ex':Ext F ρ (ρ++t') H H2:=⟨⟨t',rfl⟩,ex.tup,ex.frm⟩
     exact w (ρ++t') H2 v2 ex' (er.ext ex') g1 g2
   . rw [if_neg ok]at w
     exact w ρ2 H2 v2 ex (er.ext ex) hr2 rd
 | ex c h2=>rw [e]at w;exact w
 | bad=>rw [e]at w;exact w
theorem zf7.imp {r:R D}{Q:VK} (w:zf7 F W G ρ H r Q) (has:∀ c H,W c H->∃ C,xm[c]?=some C):zf7 F (WE xm (EW (zcY xm W))) G ρ H r Q:=by
 cases r with
 | ok v h=>exact w
 | bad=>exact w
 | ex c h =>
   intro ρ1 H1 e hr
   obtain ⟨C,ec⟩:=has c H1 (w ρ1 H1 e hr)
   exact ⟨C,ec,C,rfl,c,ec,w ρ1 H1 e hr⟩
theorem zjC {ds:List D}{vs:List V}{Q:VK} (has:∀ c H,W c H->∃ C,xm[c]?=some C) (ar:Ar n mf) (er:zY ρ H env σ) (hr:HR F G ρ h H) (rs:RDs ρ H ds vs) (w:wp F W G rV env σ ρ H (app mf ds h) Q):spE G xm n mf vs H Q (EW (zcY xm W)):=by
 by_cases hl:ds.length=n
 . exact ⟨F,ρ,ds,h,hr,rs,hl,zf7.imp (zlx er hr w) has⟩
 . unfold app gc at w
   rw [ar ds h hl]at w
   exact w.elim
theorem zA (xw:XM X xm W) (Fo:zM X.prog X.w X.K X.mg X.base (CX1 X.prog X.w) k f fd ps (spE G xm n mf)) (hr:zO k X.A) (hg:Gl X x) (hm:X.mg x=some (.ref f)) (hk:PySem.W.keepIn X.K (.ref f)=true) (hb:zcM X.K fd ps []) (ha:JA X (e :: es) (tA W G ml))
   (ar:Ar n mf:=by exact zhP) (he:starEach (e :: es) X.env=(false,eval e X.env) :: starEach es X.env:=by rfl) (hpl:(backTo pos (starEach es X.env)).any (·.1)=false:=by rfl) (hdb:(x == ("__debug__":Str))=false:=by decide) :
   JE X (.Call (.Name x p) (e :: es) [] pos) (tE W G (zj mf ml)) :=
 .of (zX (zrb (dvs:=[]) (E:=EW (zcY xm W)) Fo hr hg hm hk hb .nil xw.pass ha.to hdb he hpl) fun σ H Q ⟨F,ρ,env,h,er,hrr,w⟩=>⟨F,ρ,env,h,er,hrr,zI w fun ds h1 ρ1 H1 vs e1 er1 hr1 rs w1=>by
   rw [List.append_nil]
   exact zjC xw.has ar er1 hr1 rs w1⟩)
theorem zeY {c ni:Nat} (xw:XM X xm W) (hC:G.cm[c]?=some C) (M:Mk X.K C f) (Fo:zM X.prog X.w X.K X.mg X.base (CX1 X.prog X.w) k f fd ps (spE G xm ni mf)) (hr:zO (k+1) X.A) (hg:Gl X x) (hm:X.mg x=some (.ref C)) (hb:zcM X.K fd ps []) (ha:JA X (e :: es) (tA W G ml))
   (ar:Ar ni mf:=by exact zhP) (he:starEach (e :: es) X.env=(false,eval e X.env) :: starEach es X.env:=by rfl) (hpl:(backTo pos (starEach es X.env)).any (·.1)=false:=by rfl) (hdb:(x == ("__debug__":Str))=false:=by decide) :
   JE X (.Call (.Name x p) (e :: es) [] pos) (tE W G (zj (mkF c mf) ml)) :=
 .of (zX (zpu (dvs:=[]) (E:=EW (zcY xm W)) M Fo hr hg hm hb .nil xw.pass ha.to hdb he hpl) fun σ H Q ⟨F,ρ,env,h,er,hrr,w⟩=>⟨F,ρ,env,h,er,hrr,zI w fun ds h1 ρ1 H1 vs e1 er1 hr1 rs w1=>fun q dx hq hdx hne=>by
   have w2:=zlx er1 hr1 w1
   rw [List.append_nil]
   have hnq:upd H1 dx (.own q) q=none:=by rw [zt (Ne.symm hne)];exact hq
   have hra:HR F G ρ1 h1 (upd H1 dx (.own q)):=hr1.new hdx
   have hrb:HR F G ρ1 h1 (upd (upd H1 dx (.own q)) q (.ins C dx [])):=hra.new hnq
   have exa:Ext F ρ1 ρ1 H1 (upd (upd H1 dx (.own q)) q (.ins C dx [])):=(zck hr1 hdx).trans (zck hra hnq)
   have frq:zex F ρ1 h1 q:=hr1.fresh hq
   have hrc:HR F G (ρ1++[q]) (h1++[.ins c []]) (upd (upd H1 dx (.own q)) q (.ins C dx [])):=hrb.named frq ⟨C,dx,[],hC,zbc,by unfold FRs;rfl⟩
   have exb:Ext F ρ1 (ρ1++[q]) H1 (upd (upd H1 dx (.own q)) q (.ins C dx [])):=⟨⟨[q],rfl⟩,exa.tup,exa.frm⟩
   have hql:(ρ1++[q])[h1.length]?=some q:=by rw [<- hr1.len];simp
   by_cases hl:(D.obj h1.length :: ds).length=ni
   . refine ⟨F,ρ1++[q],.obj h1.length :: ds,h1++[.ins c []],hrc,RDs.cons (by unfold RD;exact ⟨q,rfl,hql⟩) (RDs.ext exb _ _ rs),hl,?_⟩
     unfold mkF at w2
     cases em:mf (.obj h1.length :: ds) (h1++[.ins c []]) with
     | ok v h2 =>
       rw [em]at w2
       cases v with
       | non =>
         intro ρ3 H3 v3 ex3 hr3 r3
         unfold RD at r3
         exact ⟨r3,w2 ρ3 H3 (.ref q) (exb.trans ex3) hr3 (by unfold RD;exact ⟨q,rfl,ex3.get hql⟩)⟩
       | _=>exact w2.elim
     | ex c h2=>rw [em]at w2;exact fun ρ3 H3 ex3 hr3=>let z:=w2 ρ3 H3 (exb.trans ex3) hr3;let ⟨C,ec⟩:=xw.has c H3 z;⟨C,ec,C,rfl,c,ec,z⟩
     | bad=>rw [em]at w2;exact w2
   . unfold mkF at w2
     rw [ar _ _ hl]at w2
     exact w2.elim⟩)
noncomputable def zgb (W:Nat->Hp->Prop) (X:Cx) (G:GP) (ex:Expr) (mo:ME D) (ml:ME (List D)) (tbl:List (Nat×MF)) (cs:List Nat):Prop :=
 ∀ (c:Nat) (mf:MF),c∈cs->tbl.lookup c=some mf->PE X ex (fun σ H Q=>∃ F ρ env h,zY ρ H env σ∧HR F G ρ h H∧(∀ v h1,mo env h = .ok v h1->∃ n fs,v = .obj n∧h1[n]?=some (.ins c fs))∧wp F W G rV env σ ρ H (zR tbl mo ml env h) Q)
theorem zbO {ex:Expr}{tbl:List (Nat×MF)}:zgb W X G ex mo ml tbl []:=fun _ _ hc=>nomatch hc
theorem zuH {c:Nat}{tbl:List (Nat×MF)}{Q:VK}{hn:∀ kk:Nat,G.an[kk]?≠some m} (has:∀ c H,W c H->∃ C,xm[c]?=some C) (hC:G.cm[c]?=some C) (ht:tbl.lookup c=some mf) (ar:Ar n mf) (w:∃ F ρ env h,zY ρ H env σ∧HR F G ρ h H∧(∀ v h1,mo env h = .ok v h1->∃ n fs,v = .obj n∧h1[n]?=some (.ins c fs))∧wp F W G rV env σ ρ H (zR tbl mo ml env h) Q) :
   zjB C m (spE G xm n mf) [] (EW (zcY xm W)) (tE W G mo) (tA W G ml) σ H Q:=by
 obtain ⟨F,ρ,env,h,er,hr,hcl,w⟩:=w
 refine ⟨F,ρ,env,h,er,hr,?_⟩
 cases em:mo env h with
 | ex c h1=>unfold zR zm at w;simp only [em]at w;exact w
 | bad=>unfold zR zm at w;simp only [em]at w;exact w
 | ok v0 h1 =>
 obtain ⟨i,fs,rfl,ei⟩:=hcl v0 h1 em
 have w':wp F W G rV env σ ρ H (zm ml (fun ds=>fun _ h=>app mf (.obj i :: ds) h) env h1) Q:=by
   unfold zR zm at w
   simp only [em,ei,ht]at w
   exact w
 intro ρ1 H1 v1 ex1 er1 hr1 r1
 obtain ⟨q,C',dx,vs,rfl,eq,hC',hq,rs⟩:=hr1.ins r1 ei
 rw [hC]at hC';cases hC'
 refine ⟨q,dx,vs,rfl,hq,rs.none hn,F,ρ1,env,h1,er1,hr1,zI (w'.mono ex1) fun ds h2 ρ2 H2 us e2 er2 hr2 rs2 w2=>?_⟩
 rw [List.append_nil]
 exact zjC has ar er2 hr2 (RDs.cons (RD.ext e2 _ _ r1) rs2) w2
theorem zlq {c:Nat}{cs:List Nat}{tbl:List (Nat×MF)}{pl:Sem Bool} (xw:XM X xm W) (hC:G.cm[c]?=some C) (cl:Cls X.K C) (hm:zeC X.K C m f) (Fo:zM X.prog X.w X.K X.mg X.base (CX1 X.prog X.w) k f fd ps (spE G xm n mf)) (hr:zO k X.A) (hb:zcM X.K fd ps []) (ho:JE X o (tE W G mo)) (ha:JA X (e :: es) (tA W G ml))
   (rest:zgb W X G (.Call (.Attribute o m apos) (e :: es) [] pos) mo ml tbl cs) (hn:∀ kk:Nat,G.an[kk]?≠some m) (ht:tbl.lookup c=some mf:=by rfl) (ar:Ar n mf:=by exact zhP)
   (hst:starEach (e :: es) X.env=(false,eval e X.env) :: starEach es X.env:=by rfl) (hpl:(backTo pos (starEach es X.env)).any (·.1)=false:=by rfl)
   (hev:eval (.Call (.Attribute o m apos) (e :: es) [] pos) X.env=(do
     let ov <- eval o X.env
     standAt apos.atName
     let (f,first) <- holding [ov] (getMethod ov m pl)
     callWith pos f first (backTo pos (starEach (e :: es) X.env)) (backToKw pos (keywordEach [] X.env))):=by rfl):zgb W X G (.Call (.Attribute o m apos) (e :: es) [] pos) mo ml tbl (c :: cs):=fun c' mf' hc' ht'=>by
 rcases List.mem_cons.mp hc' with rfl | hc'
 . rw [ht]at ht';cases ht'
   exact zX (zub (dvs:=[]) (E:=EW (zcY xm W)) ho.to cl hm Fo hr hb .nil xw.pass ha.to hst hpl hev) fun σ H Q w=>zuH (hn:=hn) xw.has hC ht ar w
 . exact rest c' mf' hc' ht'
theorem zb2 {c:Nat}{cs:List Nat}{tbl:List (Nat×MF)}{pl:Sem Bool} (xw:XM X xm W) (hC:G.cm[c]?=some C) (cl:Cls X.K C) (hm:zeC X.K C m f) (Fo:zM X.prog X.w X.K X.mg X.base (CX1 X.prog X.w) k f fd ps (spE G xm n mf)) (hr:zO k X.A) (hb:zcM X.K fd ps []) (ho:JE X o (tE W G mo))
   (rest:zgb W X G (.Call (.Attribute o m apos) [] [] pos) mo ze tbl cs) (hn:∀ kk:Nat,G.an[kk]?≠some m) (ht:tbl.lookup c=some mf:=by rfl) (ar:Ar n mf:=by exact zhP)
   (hev:eval (.Call (.Attribute o m apos) [] [] pos) X.env=(do
     let ov <- eval o X.env
     standAt apos.atName
     let (f,first) <- holding [ov] (getMethod ov m pl)
     callWith pos f first (backTo pos (starEach [] X.env)) (backToKw pos (keywordEach [] X.env))):=by rfl):zgb W X G (.Call (.Attribute o m apos) [] [] pos) mo ze tbl (c :: cs):=fun c' mf' hc' ht'=>by
 rcases List.mem_cons.mp hc' with rfl | hc'
 . rw [ht]at ht';cases ht'
   refine zX (zrO (dvs:=[]) (E:=EW (zcY xm W)) ho.to cl hm Fo hr hb .nil xw.pass hev) fun σ H Q w=>?_
   obtain ⟨F,ρ,env,h,er,hr,hcl,w⟩:=w
   refine ⟨F,ρ,env,h,er,hr,?_⟩
   cases em:mo env h with
   | ex c h1=>unfold zR zm at w;simp only [em]at w;exact w
   | bad=>unfold zR zm at w;simp only [em]at w;exact w
   | ok v0 h1 =>
   obtain ⟨i,fs,rfl,ei⟩:=hcl v0 h1 em
   have w':wp F W G rV env σ ρ H (app mf [.obj i] h1) Q:=by
     unfold zR zm at w
     simp only [em,ei,ht]at w
     exact w
   intro ρ1 H1 v1 ex1 er1 hr1 r1
   obtain ⟨q,C',dx,vs,rfl,eq,hC',hq,rs⟩:=hr1.ins r1 ei
   rw [hC]at hC';cases hC'
   refine ⟨q,dx,vs,rfl,hq,rs.none hn,?_⟩
   show spE G xm n mf (.ref q :: ([]++[])) H1 Q (EW (zcY xm W))
   exact zjC xw.has ar er1 hr1 (RDs.cons r1 RDs.nil) (w'.mono ex1)
 . exact rest c' mf' hc' ht'
theorem zbL {ex:Expr}{tbl:List (Nat×MF)}{c0:Nat}{mf0:MF} (h:zgb W X G ex mo ml tbl (tbl.map (·.1))) (h0:tbl.lookup c0=some mf0:=by rfl):JE X ex (tE W G (zR tbl mo ml)) :=
 .of (fun pins s σ H Q I ⟨F,ρ,env,hh,er,hr,w⟩=>by
   cases em:mo env hh with
   | ex c h1=>exact h c0 mf0 (zjX h0) h0 pins s σ H Q I ⟨F,ρ,env,hh,er,hr,(fun v h1' e=>by rw [em]at e;cases e),w⟩
   | bad=>unfold zR zm at w;simp only [em]at w;exact w.elim
   | ok v h1 =>
     have w':=w
     unfold zR zm at w'
     simp only [em]at w'
     cases v with
     | obj n =>
       dsimp only at w'
       cases qo:h1[n]? with
       | none=>rw [qo]at w';exact w'.elim
       | some o =>
         rw [qo]at w'
         cases o with
         | ins c fs =>
           dsimp only at w'
           cases ht:tbl.lookup c with
           | none=>rw [ht]at w';exact w'.elim
           | some mf=>exact h c mf (zjX ht) ht pins s σ H Q I ⟨F,ρ,env,hh,er,hr,(fun v h1' e=>by rw [em]at e;cases e;exact ⟨n,fs,rfl,qo⟩),w⟩
         | _=>exact w'.elim
     | _=>exact w'.elim)
theorem zeH {c:Nat}{np cpos rpos:Pos}{C:Addr}{mm:Str}{jj:Nat}{pp:Pos} (xb:XB X xm W) (hc:xm[c]?=some C) (xc:XC X.K x C) (hg:Gl X x) (hcalm:X.calm=true:=by rfl) (hdb:(x == ("__debug__":Str))=false:=by decide) :
   JS X (.Raise (some (.Call (.Name x np) [.Constant (.str mm) jj pp] [] cpos)) none rpos) (tS W G (zdx c)) :=
 .of (zct (zpr (WX:=zcY xm W) hcalm xb.ex hg xb.ok xc (zir (X:=X)) (fun σ H Q h=>h _) rfl hdb) fun E σ H ⟨F,ρ,env,h,er,hr,w⟩=>⟨c,hc,w ρ H Ext.refl hr⟩)
section
variable {js:List (Option Nat)}{N:List Str}{scope:Scope}{tg iter elt:Expr}{ifs:List Expr}{ms:ME Src}{cond:ME Bool}{me:ME D}
theorem zf4 {t:Tg} (xb:XB X xm W) (S:zbF X scope N js) (hi:JI X tg iter (tI W G ms)) (he:∀ cl s₀ H₀ fp XE,XM ((zba X scope N cl s₀ H₀ fp).wish XE) xm W ->
     JG ((zba X scope N cl s₀ H₀ fp).wish XE) tg (tTg G t)∧zdi ((zba X scope N cl s₀ H₀ fp).wish XE) ifs (tT W G cond)∧JE ((zba X scope N cl s₀ H₀ fp).wish XE) elt (tE W G me)) (hc:X.calm=true:=by rfl)
   (hs:∀ x,foldedSetIterable iter X.env x=pure x:=by intro _;rfl):JE X (.ListComp elt [⟨tg,iter,ifs,0⟩] scope pos) (tN W G (zcu js t ms cond me)):=by
 obtain ⟨L,hL⟩:=xb.fr
 exact .of (zX (zry (WX:=zcY xm W) hc xb.ok xb.ex xb.st hL S hi.to ⟨fun cl s₀ H₀ fp XE hp=>let z:=he cl s₀ H₀ fp XE ⟨xb.has,hp⟩;⟨z.1.to,z.2.1.to,z.2.2.to⟩⟩ hs) fun σ H Q w=>zmE w)
end
end
section
variable {X:Cx}{W:Nat->Hp->Prop}{G:GP}{a b c:Expr}{ma mb mc:ME D}{pos p:Pos}{tg:Expr}
end
theorem zp3 {G:GP}{xm:List Addr}{mf:MF} (hl:∀ ns:List Int,ns.length<=63->∃ h',mf [.obj 0] [.scr (ns.map .int)] = .ok (.bl true) h') (vs:List V) (H:Hp) (Q:VK) (E:XK) (h:ze0 G.K vs H Q E):spE G xm 1 mf vs H Q E:=by
 obtain ⟨F,ρ,ds,hh,r1,r2,r3,w⟩:=zsW hl vs H Q E h
 refine ⟨F,ρ,ds,hh,r1,r2,r3,?_⟩
 cases e:mf ds hh with
 | ok v h1=>rw [e]at w;exact w
 | ex c h1=>rw [e]at w;exact fun ρ1 H1 ex hr=>(w ρ1 H1 ex hr).elim
 | bad=>rw [e]at w;exact w
end MI
end
section
namespace MI
open PySem PySem.Spec L2
section
variable {X:Cx}{G:GP}{xm:List Addr}{W:Nat->Hp->Prop}
theorem zrY {a:Expr}{ma:ME D}{p2 pos p3 p4:Pos}{k2:Nat} (ha:JE X a (tE W G ma)):JE X (.Subscript a (.Slice none none (some (.UnaryOp .USub (.Constant (.int 1) k2 p3) p4)) p2) pos) (tN W G (zh9 ma)) :=
 .of (zX (zp1 ha.to (zh6 (zjD zjm zh5))) fun σ H Q ⟨F,ρ,env,h,er,hr,w⟩=>⟨F,ρ,env,h,er,hr,zI w fun x h1 ρ1 H1 y e1 er1 hr1 r1 w1=>by
   have r1:RD ρ1 H1 x y:=r1
   refine ⟨1,rfl,-1,rfl,rfl,?_⟩
   cases x with
   | obj n =>
     exact zhM w1 hr1 r1 fun p vs xs ey _ hp rs eq w4=>⟨p,vs,ey,SqL.of hp,fun q hq=>wp.made (h:=h1) w4 er1 hr1 hq (zeo hr1 hq rs.reverse)⟩
   | _=>exact w1.elim⟩)
theorem zsJ {xw n:Str}{i:Nat}{np hp tpos:Pos}{CW:Addr}{b₀:Stmt}{suite body:List Stmt}{th:Addr->TS}{tab:Nat->Str}{m1:MS} (xb:XB X xm W) (hgx:Gl X xw) (hmx:X.mg xw=some (.ref CW)) (hN:X.N.Nodup) (hi:X.N[i]?=some n)
   (hS:∀ a,PSs ((X.loud (X.A.mark (some (.ref a)))).nox) (b₀ :: suite) (th a))
   (hk:∀ (c:Nat) C,xm[c]?=some C->XF X.K C∧PySem.W.exmOne X.K (.ref C) (.ref CW)=some true∧∀ (a:Addr) (oe:Obj) (vs:Array Value) (σ:L2.St) (H:Hp) (D:zcj),H a=none->oe.cls = .ref C->oe.data = .fields vs->Six vs->σ.length=X.N.length ->
     (∀ H',(∀ b o,H b=some o->H' b=some o)->D.rt (.str (tab c)) H')->th a D (σ.set i (some (.ref a))) (upd H a (.frz oe (.own a))))
   (hb:∀ pn XE W',XM ((X.pinned pn).wish XE) xm W'->JSs ((X.pinned pn).wish XE) body (tS W' G m1))
   (hx:X.env.scope.names.lookup n=some .local:=by rfl) (hdx:(xw == ("__debug__":Str))=false:=by decide) :
   JS X (.Try body [.ExceptHandler (some (.Name xw np)) (some n) (b₀ :: suite) hp] [] [] tpos) (tS W G (zg7 xm.length tab m1)):=by
 obtain ⟨L,hL⟩:=xb.fr
 refine .of (zct (zuM (i:=i) (th:=th) (tb:=fun D=>tS (fun c H=>∃ C,xm[c]?=some C∧WG X.K CW i X.N.length th D C H) G m1) xb.ex xb.st hL hgx hmx hdx hN hi hx hS fun pn XE D hp=>(hb pn XE _ ⟨fun c H ⟨C,e,_⟩=>⟨C,e⟩,?_⟩).to) fun E σ H ⟨F,ρ,env,h,er,hr,w⟩=>⟨F,ρ,env,h,er,hr,?_⟩)
 . exact fun pins σ H s e s' I c=>hp pins σ H s e s' I (CX1.mono (fun cls d H ⟨C,e,cn,ec,C',ec',q⟩=>⟨C,e,by rw [ec]at ec';cases ec';exact q⟩) c)
 . unfold zg7 at w
   cases em:m1 env h with
   | ex c h1 =>
     rw [em]at w
     dsimp only at w
     intro ρ1 H1 ex hr1
     by_cases hcl:c < xm.length
     . rw [if_pos hcl]at w
       refine ⟨xm[c],List.getElem?_eq_getElem hcl,?_⟩
       obtain ⟨k1,k2,k3⟩:=hk c _ (List.getElem?_eq_getElem hcl)
       refine ⟨k1,k2,fun a oe vs σ' ha hc hd h6 hl=>k3 a oe vs σ' H1 _ ha hc hd h6 hl fun H' e1=>?_⟩
       have hr2:HR F G ρ1 h1 H':=hr1.grow e1
       have ex2:Ext F ρ1 ρ1 H1 H':=⟨⟨[],ς⟩,fun b xs z=>e1 _ _ z,fun b hb=>by obtain ⟨⟨v,hv⟩,_⟩:=hr1.pro b hb;rw [hv];exact e1 _ _ hv⟩
       exact w ρ1 H' (.str (tab c)) (ex.trans ex2) hr2 (by unfold RD;rfl)
     . rw [if_neg hcl]at w;exact w.elim
   | nx e1 h1=>rw [em]at w;exact w
   | rt v h1=>rw [em]at w;exact w
   | bk e1 h1=>rw [em]at w;exact w
   | ct e1 h1=>rw [em]at w;exact w
   | bad=>rw [em]at w;exact w
end
end MI
end
section
namespace L2
open PySem PySem.Spec PyProof.Rows
noncomputable def zqh (i j l:Nat) (t:TA):TS:=fun D σ H=>t σ H fun vs H1=>∃ x y z,vs=[x,y,z]∧D.nx (((σ.set i (some x)).set j (some y)).set l (some z)) H1
theorem zpx {X:Cx}{pos:Pos}{i j l:Nat}{x y z:Str}{a b c:Expr}{ta:TA}{px py pz pt:Pos}{kt k2 pt2} (hc:X.calm=true) (hN:X.N.Nodup) (hi:X.N[i]?=some x) (hj:X.N[j]?=some y) (hl:X.N[l]?=some z) (hij:i≠j) (hil:i≠l) (hjl:j≠l)
   (hx:X.env.scope.names.lookup x=some .local) (hy:X.env.scope.names.lookup y=some .local) (hz:X.env.scope.names.lookup z=some .local) (ha:PA X [a,b,c] ta)
   (hw:swappedStores [.Tuple [.Name x px,.Name y py,.Name z pz] kt pt] (.Tuple [a,b,c] k2 pt2) X.env=pure (some [x,y,z]))
   (hs:swapsWithSole [.Tuple [.Name x px,.Name y py,.Name z pz] kt pt] (.Tuple [a,b,c] k2 pt2) pos.line X.env=pure false:=by rfl) :
   PS X (.Assign [.Tuple [.Name x px,.Name y py,.Name z pz] kt pt] (.Tuple [a,b,c] k2 pt2) pos) (zqh i j l ta):=by
 intro pins s σ H D I h
 rw [exec_Assign_arm]
 refine wpAny_bind (wpAny_standAt ?_)
 rw [hs]
 refine wpAny_bind (wpAny_pure ?_)
 rw [if_neg ϑ]
 refine wpAny_bind (Tuple_ (thn (ha _ pins s σ H _ I h) fun us s1 ⟨vs,H1,I1,r1,q1⟩=>?_))
 obtain ⟨v1,v2,v3,e1,q1⟩:=q1
 subst e1
 obtain ⟨u1,u2,u3,rfl,r1,r2,r3⟩:∃ u1 u2 u3,us=[u1,u2,u3]∧zo v1 u1∧zo v2 u2∧zo v3 u3:=by
   cases r1 with
   | cons p q=>cases q with
     | cons p' q'=>cases q' with
       | cons p2 q2=>cases q2;exact ⟨_,_,_,rfl,p,p',p2⟩
 refine wpAny_newObj_type ?_ (by show 3<=sizeLine;decide)
 have I2:Inv X pins σ H1 { s1 with heap:=s1.heap.push { cls := .type "tuple",data := .seq [u1,u2,u3].toArray } }:=I1.kept (t':=s1.toks) fun b o e=>Heap.get?_push_of_some _ e
 rw [hw]
 refine wpAny_bind (wpAny_pure ?_)
 show wpAny (model X.prog X.w) X.A (do rule "assign.swapped-stores";let items <- unpackItems (.ref s1.heap.objs.size) 3 none;assignInOrder [fun v=>bindName X.env z v,fun v=>bindName X.env y v,fun v=>bindName X.env x v] items.reverse;pure Flow.next) _ _ _
 refine wpAny_bind (wpAny_rule (wpAny_bind (unpackItems_tuple (items:=#[u1,u2,u3]) (I.ok.hd hc) (IsTup.new s1.heap _) fun h' hx'=>?_)))
 have I3:=I2.kept (h':=h') (t':=s1.toks) fun b o e=>hx' b o (Nat.ne_of_lt (Heap.lt_size e)) e
 show wpAny _ _ (assignInOrder [fun v=>bindName X.env z v,fun v=>bindName X.env y v,fun v=>bindName X.env x v] [u3,u2,u1] >>= fun _=>pure Flow.next) _ _ _
 refine wpAny_bind (assignInOrder_cons (wpAny_bindName (zez I3 hN hl (.inl hz) r3 (fun s2 I4=>?_) (.inr hz))))
 refine assignInOrder_cons (wpAny_bindName (zez I4 hN hj (.inl hy) r2 (fun s3 I5=>?_) (.inr hy)))
 refine assignInOrder_cons (wpAny_bindName (zez I5 hN hi (.inl hx) r1 (fun s4 I6=>assignInOrder_nil (wpAny_pure ?_)) (.inr hx)))
 rw [List.set_comm _ _ (Ne.symm hij),List.set_comm _ _ (Ne.symm hil)]at I6
 rw [List.set_comm _ _ (Ne.symm hjl)]at I6
 exact ⟨_,H1,I6,q1⟩
end L2
namespace MI
open PySem PySem.Spec L2
section
variable {W:Nat->Hp->Prop}{X:Cx}{F:Addr->Prop}{G:GP}{env:zD}{σ:L2.St}{ρ:List Addr}{H:Hp}{h:MH}{a b c e o:Expr}{es:List Expr}{ma mb mc:ME D}{ml ml':ME (List D)}{pos p p1 p2 apos:Pos}{Q:VK}{k i:Nat}{x:Str}
theorem zrM {j k:Nat}{y z:Str}{px py pz pt:Pos}{kt k2 pt2} (hN:X.N.Nodup) (hi:X.N[i]?=some x) (hj:X.N[j]?=some y) (hl:X.N[k]?=some z) (ha:JA X [a,b,c] (tA W G ml)) (hij:i≠j:=by decide) (hil:i≠k:=by decide) (hjl:j≠k:=by decide)
   (hx:X.env.scope.names.lookup x=some .local:=by rfl) (hy:X.env.scope.names.lookup y=some .local:=by rfl) (hz:X.env.scope.names.lookup z=some .local:=by rfl) (hc:X.calm=true:=by rfl)
   (hw:swappedStores [.Tuple [.Name x px,.Name y py,.Name z pz] kt pt] (.Tuple [a,b,c] k2 pt2) X.env=pure (some [x,y,z]):=by rfl)
   (hs:swapsWithSole [.Tuple [.Name x px,.Name y py,.Name z pz] kt pt] (.Tuple [a,b,c] k2 pt2) pos.line X.env=pure false:=by rfl) :
   JS X (.Assign [.Tuple [.Name x px,.Name y py,.Name z pz] kt pt] (.Tuple [a,b,c] k2 pt2) pos) (tS W G (zd7 [i,j,k] ml)) :=
 .of (zct (zpx hc hN hi hj hl hij hil hjl hx hy hz ha.to hw hs) fun E σ H ⟨F,ρ,env,h,er,hr,w⟩=>⟨F,ρ,env,h,er,hr,wpS_bind w fun xs h1 ρ1 H1 ys e1 er1 hr1 r1 w1=>by
   have r1:RDs ρ1 H1 xs ys:=r1
   match xs,w1 with
   | [u,v,t],w1 =>
     unfold RDs at r1
     obtain ⟨u',q,rfl,ru,r1⟩:=r1
     unfold RDs at r1
     obtain ⟨v',q,rfl,rv,r1⟩:=r1
     unfold RDs at r1
     obtain ⟨t',q,rfl,rt,r1⟩:=r1
     unfold RDs at r1
     subst r1
     exact ⟨u',v',t',rfl,wpS.done (h:=h1) w1 (((er1.set ru i).set rv j).set rt k) hr1⟩
   | [],w1=>exact w1.elim
   | [_],w1=>exact w1.elim
   | [_,_],w1=>exact w1.elim
   | _ :: _ :: _ :: _ :: _,w1=>exact w1.elim⟩)
end
end MI
end
section
open PySem L2 MI
namespace My
noncomputable def top (i:Nat):Stmt:=PySem.Challenge.pw_closering_k06_webs.main.body.getD i (.Pass ⟨0,0,0,0⟩)
noncomputable abbrev zhs:Stmt:=top 9
theorem zmK:zV ["value"] ["value"] (zH zhs):=⟨rfl,rfl,rfl,ϰ,rfl,ϰ,ϰ⟩
noncomputable abbrev zht:Stmt:=top 10
theorem zmL:zV ["value", "least", "most"] ["value", "least", "most"] (zH zht):=⟨rfl,rfl,rfl,ϰ,rfl,ϰ,ϰ⟩
noncomputable abbrev zhu:Stmt:=top 11
theorem zmM:zV ["points", "value"] ["points", "value"] (zH zhu):=⟨rfl,rfl,rfl,ϰ,rfl,ϰ,ϰ⟩
noncomputable abbrev zhv:Stmt:=top 12
theorem zmN:zV ["points", "value"] ["points", "value"] (zH zhv):=⟨rfl,rfl,rfl,ϰ,rfl,ϰ,ϰ⟩
noncomputable abbrev zgn:Stmt:=top 13
theorem zmO:zV ["points", "value"] ["points", "value"] (zH zgn):=⟨rfl,rfl,rfl,ϰ,rfl,ϰ,ϰ⟩
noncomputable abbrev zeP:Stmt:=top 14
theorem zmP:zV ["one", "other", "turn"] ["one", "other", "turn"] (zH zeP):=⟨rfl,rfl,rfl,ϰ,rfl,ϰ,ϰ⟩
noncomputable abbrev zhx:Stmt:=zgI (top 15) 0
theorem zmQ:zV ["self", "points", "ties", "turn"] ["self", "points", "ties", "turn"] (zH zhx):=⟨rfl,rfl,rfl,ϰ,rfl,ϰ,ϰ⟩
noncomputable abbrev zbx:Stmt:=zgI (top 15) 1
theorem zmR:zV ["self"] ["self"] (zH zbx):=⟨rfl,rfl,rfl,ϰ,rfl,ϰ,ϰ⟩
noncomputable abbrev zhw:Stmt:=top 16
theorem zmS:zV ["tie"] ["tie"] (zH zhw):=⟨rfl,rfl,rfl,ϰ,rfl,ϰ,ϰ⟩
noncomputable abbrev zeO:Stmt:=top 17
theorem zmT:zV ["web"] ["web"] (zH zeO):=⟨rfl,rfl,rfl,ϰ,rfl,ϰ,ϰ⟩
noncomputable abbrev zfx:Stmt:=top 18
theorem zmU:zV ["one", "other"] ["one", "other"] (zH zfx):=⟨rfl,rfl,rfl,ϰ,rfl,ϰ,ϰ⟩
noncomputable abbrev zed:Stmt:=top 22
theorem zmV:zV ["ties", "value"] ["ties", "value"] (zH zed):=⟨rfl,rfl,rfl,ϰ,rfl,ϰ,ϰ⟩
noncomputable abbrev zix:Stmt:=top 23
theorem zmW:zV ["ties", "value"] ["ties", "value"] (zH zix):=⟨rfl,rfl,rfl,ϰ,rfl,ϰ,ϰ⟩
noncomputable abbrev zee:Stmt:=top 24
theorem zjZ:zV ["ties", "step", "tie"] ["ties", "step"] (zH zee):=⟨rfl,rfl,rfl,ϰ,rfl,ϰ,ϰ⟩
noncomputable abbrev ziy:Stmt:=top 25
theorem zfy:zV ["web", "start", "steps", "ties", "gone", "here", "step"] ["web", "start", "steps"] (zH ziy):=⟨rfl,rfl,rfl,ϰ,rfl,ϰ,ϰ⟩
noncomputable abbrev zgo:Stmt:=top 26
theorem zmX:zV ["web"] ["web"] (zH zgo):=⟨rfl,rfl,rfl,ϰ,rfl,ϰ,ϰ⟩
noncomputable abbrev zeS:Stmt:=top 27
theorem zhy:zV ["web", "chosen", "ties", "found", "place"] ["web", "chosen"] (zH zeS):=⟨rfl,rfl,rfl,ϰ,rfl,ϰ,ϰ⟩
noncomputable abbrev zfv:Stmt:=top 28
theorem zeT:zV ["ties", "onward", "start", "arrived", "waiting", "place", "here", "step", "there"] ["ties", "onward", "start", "arrived"] (zH zfv):=⟨rfl,rfl,rfl,ϰ,rfl,ϰ,ϰ⟩
noncomputable abbrev zgp:Stmt:=top 29
theorem zj0:zV ["web", "chosen", "start", "arrived"] ["web", "chosen", "start"] (zH zgp):=⟨rfl,rfl,rfl,ϰ,rfl,ϰ,ϰ⟩
noncomputable abbrev zgq:Stmt:=top 30
theorem zgv:zV ["web", "chosen", "ties", "onward", "arrived", "point"] ["web", "chosen"] (zH zgq):=⟨rfl,rfl,rfl,ϰ,rfl,ϰ,ϰ⟩
noncomputable abbrev zgr:Stmt:=top 31
theorem zgw:zV ["web", "arrived", "goal", "ties", "steps", "here"] ["web", "arrived", "goal"] (zH zgr):=⟨rfl,rfl,rfl,ϰ,rfl,ϰ,ϰ⟩
noncomputable abbrev zfw:Stmt:=top 32
theorem zmY:zV ["arrived"] ["arrived"] (zH zfw):=⟨rfl,rfl,rfl,ϰ,rfl,ϰ,ϰ⟩
noncomputable abbrev zeQ:Stmt:=top 34
theorem zmZ:zV ["values", "count"] ["values", "count"] (zH zeQ):=⟨rfl,rfl,rfl,ϰ,rfl,ϰ,ϰ⟩
noncomputable abbrev ziz:Stmt:=zgI (top 37) 0
theorem zm0:zV ["self", "heights"] ["self", "heights"] (zH ziz):=⟨rfl,rfl,rfl,ϰ,rfl,ϰ,ϰ⟩
noncomputable abbrev zeR:Stmt:=zgI (top 37) 1
theorem zj1:zV ["self", "web", "found"] ["self", "web"] (zH zeR):=⟨rfl,rfl,rfl,ϰ,rfl,ϰ,ϰ⟩
noncomputable abbrev ziA:Stmt:=zgI (top 38) 0
theorem zm1:zV ["self", "steps"] ["self", "steps"] (zH ziA):=⟨rfl,rfl,rfl,ϰ,rfl,ϰ,ϰ⟩
noncomputable abbrev ziB:Stmt:=top 40
theorem zm2:zV ["web", "value"] ["web", "value"] (zH ziB):=⟨rfl,rfl,rfl,ϰ,rfl,ϰ,ϰ⟩
noncomputable abbrev zhz:Stmt:=top 41
theorem ziC:zV ["web", "start", "steps", "gone", "end"] ["web", "start", "steps"] (zH zhz):=⟨rfl,rfl,rfl,ϰ,rfl,ϰ,ϰ⟩
noncomputable abbrev zgs:Stmt:=top 43
theorem zfz:zV ["web", "arrived", "ties", "heights", "point", "step", "made"] ["web", "arrived"] (zH zgs):=⟨rfl,rfl,rfl,ϰ,rfl,ϰ,ϰ⟩
noncomputable abbrev zgt:Stmt:=top 44
theorem zj2:zV ["web", "arrived", "place", "tie"] ["web", "arrived", "place"] (zH zgt):=⟨rfl,rfl,rfl,ϰ,rfl,ϰ,ϰ⟩
noncomputable abbrev zgu:Stmt:=top 45
theorem zgx:zV ["web", "arrived", "heights", "place", "tie"] ["web"] (zH zgu):=⟨rfl,rfl,rfl,ϰ,rfl,ϰ,ϰ⟩
noncomputable abbrev ziD:Stmt:=top 47
theorem zm3:zV ["_law_script", "_law_k"] ["_law_script", "_law_k"] (zH ziD):=⟨rfl,rfl,rfl,ϰ,rfl,ϰ,ϰ⟩
noncomputable abbrev ziE:Stmt:=top 48
theorem zj3:zV ["_law_cell", "_law_k", "_law_many", "_law_primes"] ["_law_cell", "_law_k", "_law_many"] (zH ziE):=⟨rfl,rfl,rfl,ϰ,rfl,ϰ,ϰ⟩
noncomputable abbrev ziF:Stmt:=top 49
theorem zcc:zV ["_law_script", "_law_few", "_law_points", "_law_turn", "_law_most", "_law_wrong", "_law_halves", "_law_ties", "_law_k", "_law_one", "_law_other", "_law_low", "_law_many", "_law_by", "_law_number"] ["_law_script"] (zH ziF):=⟨rfl,rfl,rfl,ϰ,rfl,ϰ,ϰ⟩
noncomputable abbrev ziG:Stmt:=top 51
theorem zeU:zV ["_law_ties", "_law_start", "_law_steps", "_law_points", "_law_total", "_law_step", "_law_at", "_law_way", "_law_ends"] ["_law_ties", "_law_start", "_law_steps"] (zH ziG):=⟨rfl,rfl,rfl,ϰ,rfl,ϰ,ϰ⟩
noncomputable abbrev ziH:Stmt:=top 53
theorem ziI:zV ["_law_web_here", "_law_start", "_law_steps", "error", "_law_others"] ["_law_web_here", "_law_start", "_law_steps"] (zH ziH):=⟨rfl,rfl,rfl,ϰ,rfl,ϰ,ϰ⟩
noncomputable abbrev zhA:Stmt:=top 54
theorem zcw:zV ["_law_web_here", "_law_points", "_law_ties", "_law_script", "_law_point", "_law_start", "_law_steps", "_law_now", "_law_k", "_law_way", "_law_handed", "_law_back", "_law_cell", "_law_step", "_law_some", "_law_came", "_law_total"] ["_law_web_here", "_law_points", "_law_ties", "_law_script"] (zH zhA):=⟨rfl,rfl,rfl,ϰ,rfl,ϰ,ϰ⟩
noncomputable abbrev zhB:Stmt:=top 55
theorem zdt:zV ["_law_script", "_law_points", "_law_ties", "_law_turn", "_law_web_here", "_law_turned", "_law_at", "_law_one", "_law_other", "_law_both", "_law_found"] ["_law_script"] (zH zhB):=⟨rfl,rfl,rfl,ϰ,rfl,ϰ,ϰ⟩
noncomputable def anL:List Str:=["points", "turn", "triples", "heights", "steps"]
theorem zqu:anL.Nodup:=ϰ
theorem zb0:anL.contains "ties" = false:=ϰ
theorem zlG:anL.contains "shows" = false:=ϰ
set_option genInjectivity false in
set_option genSizeOfSpec false in
structure TX (K:PySem.W.Frag) (mg:Str->Option Value) where
 zdu:DF K "is_number" "is_number" zhs ["value"]
 zdd:mg "is_number" = some (.ref zdu.a)
 zcF:DF K "is_within" "is_within" zht ["value", "least", "most"]
 zcE:mg "is_within" = some (.ref zcF.a)
 zc3:DF K "is_point" "is_point" zhu ["points", "value"]
 zc2:mg "is_point" = some (.ref zc3.a)
 zfA:DF K "is_tie" "is_tie" zhv ["points", "value"]
 zfk:mg "is_tie" = some (.ref zfA.a)
 zfB:DF K "own_tie" "own_tie" zgn ["points", "value"]
 zeJ:mg "own_tie" = some (.ref zfB.a)
 zef:DF K "alike" "alike" zeP ["one", "other", "turn"]
 zdq:mg "alike" = some (.ref zef.a)
 zdQ:DF K "__init__" "Web.__init__" zhx ["self", "points", "ties", "turn"]
 zbA:DF K "ties" "Web.ties" zbx ["self"]
 zeg:DF K "turned" "turned" zhw ["tie"]
 zdN:mg "turned" = some (.ref zeg.a)
 zeh:DF K "about" "about" zeO ["web"]
 zdr:mg "about" = some (.ref zeh.a)
 zei:DF K "together" "together" zfx ["one", "other"]
 zds:mg "together" = some (.ref zei.a)
 zfC:DF K "is_place" "is_place" zed ["ties", "value"]
 zfl:mg "is_place" = some (.ref zfC.a)
 zfD:DF K "is_step" "is_step" zix ["ties", "value"]
 zeK:mg "is_step" = some (.ref zfD.a)
 zc4:DF K "leg" "leg" zee ["ties", "step"]
 zcg:mg "leg" = some (.ref zc4.a)
 zfE:DF K "legs" "legs" ziy ["web", "start", "steps"]
 zfm:mg "legs" = some (.ref zfE.a)
 zfF:DF K "every_tie" "every_tie" zgo ["web"]
 zfn:mg "every_tie" = some (.ref zfF.a)
 zej:DF K "steps_from" "steps_from" zeS ["web", "chosen"]
 zea:mg "steps_from" = some (.ref zej.a)
 zek:DF K "spread" "spread" zfv ["ties", "onward", "start", "arrived"]
 zdO:mg "spread" = some (.ref zek.a)
 zfG:DF K "reach" "reach" zgp ["web", "chosen", "start"]
 zfo:mg "reach" = some (.ref zfG.a)
 zfH:DF K "reach_all" "reach_all" zgq ["web", "chosen"]
 zfp:mg "reach_all" = some (.ref zfH.a)
 zfI:DF K "trace" "trace" zgr ["web", "arrived", "goal"]
 zfq:mg "trace" = some (.ref zfI.a)
 zfJ:DF K "ties_taken" "ties_taken" zfw ["arrived"]
 zfr:mg "ties_taken" = some (.ref zfJ.a)
 zfK:DF K "are_numbers" "are_numbers" zeQ ["values", "count"]
 zfs:mg "are_numbers" = some (.ref zfK.a)
 zgy:DF K "__init__" "Heights.__init__" ziz ["self", "heights"]
 zfL:DF K "shows" "Heights.shows" zeR ["self", "web"]
 zgz:DF K "__init__" "Ring.__init__" ziA ["self", "steps"]
 zfM:DF K "refuse_no_point" "refuse_no_point" ziB ["web", "value"]
 zft:mg "refuse_no_point" = some (.ref zfM.a)
 zfN:DF K "climb" "climb" zhz ["web", "start", "steps"]
 zeb:mg "climb" = some (.ref zfN.a)
 zfO:DF K "heights_along" "heights_along" zgs ["web", "arrived"]
 zfu:mg "heights_along" = some (.ref zfO.a)
 zfP:DF K "ring_by" "ring_by" zgt ["web", "arrived", "place"]
 zeL:mg "ring_by" = some (.ref zfP.a)
 zfQ:DF K "levels" "levels" zgu ["web"]
 zec:mg "levels" = some (.ref zfQ.a)
 zbK:DF K "_law_cell_at" "_law_cell_at" ziD ["_law_script", "_law_k"]
 zbo:mg "_law_cell_at" = some (.ref zbK.a)
 zZ:DF K "_law_draw" "_law_draw" ziE ["_law_cell", "_law_k", "_law_many"]
 zu:mg "_law_draw" = some (.ref zZ.a)
 zfR:DF K "_law_web" "_law_web" ziF ["_law_script"]
 zeM:mg "_law_web" = some (.ref zfR.a)
 zfS:DF K "_law_walk" "_law_walk" ziG ["_law_ties", "_law_start", "_law_steps"]
 zdP:mg "_law_walk" = some (.ref zfS.a)
 zc5:DF K "_law_climbed" "_law_climbed" ziH ["_law_web_here", "_law_start", "_law_steps"]
 zb8:mg "_law_climbed" = some (.ref zc5.a)
 zfT:DF K "_law_walks_right" "_law_walks_right" zhA ["_law_web_here", "_law_points", "_law_ties", "_law_script"]
 zeN:mg "_law_walks_right" = some (.ref zfT.a)
 zfU:DF K "law" "law" zhB ["_law_script"]
 zhr:mg "law" = some (.ref zfU.a)
 z4:CF K mg "Web"
 zgA:Mk K z4.c zdQ.a
 zbU:zeC K z4.c "ties" zbA.a
 ziJ:zcB K z4.c "points"
 ziK:zcB K z4.c "turn"
 ziL:zcB K z4.c "triples"
 zcT:CF K mg "Heights"
 zm4:Mk K zcT.c zgy.a
 zj4:zeC K zcT.c "shows" zfL.a
 ziM:zcB K zcT.c "heights"
 zdR:CF K mg "Ring"
 zm5:Mk K zdR.c zgz.a
 ziN:zcB K zdR.c "steps"
 n_ValueError:mg "ValueError" = none
 n_isinstance:mg "isinstance" = none
 n_int:mg "int" = none
 n_bool:mg "bool" = none
 n_tuple:mg "tuple" = none
 n_len:mg "len" = none
 n_list:mg "list" = none
 n_range:mg "range" = none
 n_sorted:mg "sorted" = none
 n_all:mg "all" = none
 n_sum:mg "sum" = none
 n_enumerate:mg "enumerate" = none
 n_abs:mg "abs" = none
 n_any:mg "any" = none
 v_MOST:VF mg "MOST" (.int (1000000))
 v_FORTH:VF mg "FORTH" (.int (1))
 v_BACK:VF mg "BACK" (.int (-1))
 is:zf2 K zdF [z4.c,zcT.c,zdR.c] 0 [z4.c,zcT.c,zdR.c]
 {X_WebError X_BadWeb X_BadPoint X_BadTie X_Unlike X_BadText:Addr}
 m_WebError:mg "WebError" = some (.ref X_WebError)
 m_BadWeb:mg "BadWeb" = some (.ref X_BadWeb)
 xb_BadWeb:XBd K "BadWeb" X_BadWeb X_WebError [.ref X_BadPoint,.ref X_BadText,.ref X_BadWeb,.ref X_Unlike,.type "ValueError",.ref X_BadTie] [false,false,true,false,true,false]
 m_BadPoint:mg "BadPoint" = some (.ref X_BadPoint)
 xb_BadPoint:XBd K "BadPoint" X_BadPoint X_WebError [.ref X_BadPoint,.ref X_BadText,.ref X_BadWeb,.ref X_Unlike,.type "ValueError",.ref X_BadTie] [true,false,false,false,true,false]
 m_BadTie:mg "BadTie" = some (.ref X_BadTie)
 xb_BadTie:XBd K "BadTie" X_BadTie X_WebError [.ref X_BadPoint,.ref X_BadText,.ref X_BadWeb,.ref X_Unlike,.type "ValueError",.ref X_BadTie] [false,false,false,false,true,true]
 m_Unlike:mg "Unlike" = some (.ref X_Unlike)
 xb_Unlike:XBd K "Unlike" X_Unlike X_WebError [.ref X_BadPoint,.ref X_BadText,.ref X_BadWeb,.ref X_Unlike,.type "ValueError",.ref X_BadTie] [false,false,false,true,true,false]
 m_BadText:mg "BadText" = some (.ref X_BadText)
 xb_BadText:XBd K "BadText" X_BadText X_WebError [.ref X_BadPoint,.ref X_BadText,.ref X_BadWeb,.ref X_Unlike,.type "ValueError",.ref X_BadTie] [false,true,false,false,true,false]
section
variable {K:PySem.W.Frag}{mg:Str->Option Value}{P:Program}{w:World}{base:Heap}
noncomputable def TX.G (T:TX K mg):GP:=⟨K,[T.z4.c,T.zcT.c,T.zdR.c],anL⟩
noncomputable def TX.xm (T:TX K mg):List Addr:=[T.X_BadWeb,T.X_BadPoint,T.X_BadTie,T.X_Unlike,T.X_BadText]
theorem TX.zbt (T:TX K mg):T.G.cm[0]?=some T.z4.c:=rfl
theorem TX.zhC (T:TX K mg):T.G.cm[1]?=some T.zcT.c:=rfl
theorem TX.zm6 (T:TX K mg):T.G.cm[2]?=some T.zdR.c:=rfl
theorem TX.an_points (T:TX K mg):T.G.an[0]?=some ("points":Str):=rfl
theorem TX.an_turn (T:TX K mg):T.G.an[1]?=some ("turn":Str):=rfl
theorem TX.an_triples (T:TX K mg):T.G.an[2]?=some ("triples":Str):=rfl
theorem TX.an_heights (T:TX K mg):T.G.an[3]?=some ("heights":Str):=rfl
theorem TX.an_steps (T:TX K mg):T.G.an[4]?=some ("steps":Str):=rfl
theorem TX.xi_BadWeb (T:TX K mg):T.xm[0]?=some T.X_BadWeb:=rfl
theorem TX.x_BadWeb (T:TX K mg):XC K "BadWeb" T.X_BadWeb:=T.xb_BadWeb.xc
theorem TX.xi_BadPoint (T:TX K mg):T.xm[1]?=some T.X_BadPoint:=rfl
theorem TX.x_BadPoint (T:TX K mg):XC K "BadPoint" T.X_BadPoint:=T.xb_BadPoint.xc
theorem TX.xi_BadTie (T:TX K mg):T.xm[2]?=some T.X_BadTie:=rfl
theorem TX.x_BadTie (T:TX K mg):XC K "BadTie" T.X_BadTie:=T.xb_BadTie.xc
theorem TX.xi_Unlike (T:TX K mg):T.xm[3]?=some T.X_Unlike:=rfl
theorem TX.x_Unlike (T:TX K mg):XC K "Unlike" T.X_Unlike:=T.xb_Unlike.xc
theorem TX.xi_BadText (T:TX K mg):T.xm[4]?=some T.X_BadText:=rfl
theorem TX.x_BadText (T:TX K mg):XC K "BadText" T.X_BadText:=T.xb_BadText.xc
theorem TX.ok (T:TX K mg):T.G.Ok zdF zd9 where
 cls:=fun c C h=>match c,h with
   | 0,h=>by cases h;exact ⟨T.z4.cl,T.z4.ic⟩
   | 1,h=>by cases h;exact ⟨T.zcT.cl,T.zcT.ic⟩
   | 2,h=>by cases h;exact ⟨T.zdR.cl,T.zdR.ic⟩
   | _+3,h=>by cases h
 noat:=fun c C k f h1 h2 h3=>by
   have h2:=List.contains_iff_mem.mp h2
   simp only [List.mem_cons,Prod.mk.injEq,List.not_mem_nil,or_false]at h2
   rcases h2 with ⟨rfl,rfl⟩ | ⟨rfl,rfl⟩ | ⟨rfl,rfl⟩ | ⟨rfl,rfl⟩ | ⟨rfl,rfl⟩
   . cases h1;cases h3;exact T.ziJ
   . cases h1;cases h3;exact T.ziK
   . cases h1;cases h3;exact T.ziL
   . cases h1;cases h3;exact T.ziM
   . cases h1;cases h3;exact T.ziN
 nd:=zqu
 isa:=fun c c' C C' h1 h2=>by have:=T.is.get h1 h2;rwa [Nat.zero_add]at this
theorem TX.kC (T:TX K mg):∀ (c:Nat) C,T.xm[c]?=some C->XF K C∧PySem.W.exmOne K (.ref C) (.ref T.X_WebError)=some true∧∀ (a:Addr) (oe:Obj) (vs:Array Value) (σ:St) (H:Hp) (D:zcj),H a=none->oe.cls = .ref C->oe.data = .fields vs->Six vs->σ.length=5->(∀ H',(∀ b o,H b=some o->H' b=some o)->D.rt (.str (zi7 c)) H')->thC K 3 4 (.ref T.X_BadPoint) (.ref T.X_BadText) (.ref T.X_BadWeb) (.ref T.X_Unlike) (.type "ValueError") (.ref T.X_BadTie) (Str.ofString "none") (Str.ofString "other") a D (σ.set 3 (some (.ref a))) (upd H a (.frz oe (.own a)))
 | 0,C,h=>by cases h;exact T.xb_BadWeb.kc ϑ ϑ ϑ ϱ
 | 1,C,h=>by cases h;exact T.xb_BadPoint.kc ϑ ϑ ϑ ϱ
 | 2,C,h=>by cases h;exact T.xb_BadTie.kc ϑ ϑ ϑ ϱ
 | 3,C,h=>by cases h;exact T.xb_Unlike.kc ϑ ϑ ϑ ϱ
 | 4,C,h=>by cases h;exact T.xb_BadText.kc ϑ ϑ ϑ ϱ
 | _+5,C,h=>by cases h
end
end My
end
section
open PySem L2 MI
namespace My
section
variable {P:Program}{w:World}{K:PySem.W.Frag}{mg:Str->Option Value}{base:Heap}
theorem ziO (T:TX K mg):zM P w K mg base (CX1 P w) 2 T.zdu.a T.zdu.d ["value"] (spE T.G T.xm 1 zdd) :=
 z5 (k:=1) T.zdu.F zmK rfl rfl ϑ fun cdv A outer s H E hr W xb =>
     (zq (zN (zd1 (zdA ϱ T.n_isinstance ϱ T.n_int (zc 0) zh) (ze4 (zrj (zdA ϱ T.n_isinstance ϱ T.n_bool (zc 0) zh))))))
theorem zgB (T:TX K mg):zM P w K mg base (CX1 P w) 3 T.zcF.a T.zcF.d ["value", "least", "most"] (spE T.G T.xm 3 zcE) :=
 z5 (k:=2) T.zcF.F zmL rfl rfl ϑ fun cdv A outer s H E hr W xb =>
     (zq (zN (zd1 (zA xb.toXM (ziO T) (hr.mono ϑ) ϱ T.zdd T.zdu.F.kp T.zdu.b (zd (zc 0) zl zh)) (ze4 (zur (zi8 hr) (zi8 hr) (zc 1) (zc 0) (zc 2))))))
theorem zhD (T:TX K mg):zM P w K mg base (CX1 P w) 4 T.zc3.a T.zc3.d ["points", "value"] (spE T.G T.xm 2 zc2) :=
 z5 (k:=3) T.zc3.F zmM rfl rfl ϑ fun cdv A outer s H E hr W xb =>
     (zq (zN (zA xb.toXM (zgB T) (hr.mono ϑ) ϱ T.zcE T.zcF.F.kp T.zcF.b (zd (zc 1) (zd zi (zd (zda (zc 0) zi) zl zb6) zx) zh))))
theorem zm7 (T:TX K mg):zM P w K mg base (CX1 P w) 5 T.zfA.a T.zfA.d ["points", "value"] (spE T.G T.xm 2 zfk) :=
 z5 (k:=4) T.zfA.F zmN rfl rfl ϑ fun cdv A outer s H E hr W xb =>
     (zn (z9 (t_w (zcp (zbX (zbB (zdA ϱ T.n_isinstance ϱ T.n_tuple (zc 1) zh) (fun _=>rfl))) (zc9 (zT (zbQ hr) (zc1 ϱ T.n_len (zc 1) zh) zi (zP _))))) (zq (zN zcV)) zbb)
     (zn (z9 (t_w (zcp (zbX (zbB (zA xb.toXM (zhD T) (hr.mono ϑ) ϱ T.zc2 T.zc3.F.kp T.zc3.b (zd (zc 0) (zd (zw hr (zc 1) zi (fun _ _=>rfl)) zl zbv) zh)) (fun _=>rfl))) (zc9 (zbX (zbB (zA xb.toXM (zhD T) (hr.mono ϑ) ϱ T.zc2 T.zc3.F.kp T.zc3.b (zd (zc 0) (zd (zw hr (zc 1) zi (fun _ _=>rfl)) zl zbv) zh)) (fun _=>rfl)))))) (zq (zN zcV)) zbb)
     (zq (zN (zd1 (zet (zbQ hr) (zw hr (zc 1) zi (fun _ _=>rfl)) (zw hr (zc 1) zi (fun _ _=>rfl)) (zP _)) (ze4 (zA xb.toXM (zgB T) (hr.mono ϑ) ϱ T.zcE T.zcF.F.kp T.zcF.b (zd (zw hr (zc 1) zi (fun _ _=>rfl)) (zd (zdb (zdH ϱ T.v_MOST.m T.v_MOST.r)) (zd (zdH ϱ T.v_MOST.m T.v_MOST.r) zl zh) zf0) zbv))))))))
theorem zm8 (T:TX K mg):zM P w K mg base (CX1 P w) 6 T.zfB.a T.zfB.d ["points", "value"] (spE T.G T.xm 2 zeJ) :=
 z5 (k:=5) T.zfB.F zmO rfl rfl ϑ fun cdv A outer s H E hr W xb =>
     (zn (z9 (zbX (zbB (zA xb.toXM (zm7 T) (hr.mono ϑ) ϱ T.zfk T.zfA.F.kp T.zfA.b (zd (zc 0) (zd (zc 1) zl zh) zh)) (fun _=>rfl))) (zq (zeH (c:=0) xb T.xi_BadWeb T.x_BadWeb ϱ)) zbb)
     (zq (zN (zbf (zd (zw hr (zc 1) zi (fun _ _=>rfl)) (zd (zw hr (zc 1) zi (fun _ _=>rfl)) (zd (zw hr (zc 1) zi (fun _ _=>rfl)) zl zbv) zbv) zbv)))))
theorem zj5 (T:TX K mg):zM P w K mg base (CX1 P w) 2 T.zef.a T.zef.d ["one", "other", "turn"] (spE T.G T.xm 3 zdq) :=
 z5 (k:=1) T.zef.F zmP rfl rfl ϑ fun cdv A outer s H E hr W xb =>
     (zn (z9 (zT (zcS hr) (zc 2) zi (zP _)) (zq (zN (zet (zcS hr) (zc 0) (zc 1) (zP _)))) zbb)
     (zq (zN (zet (zcS hr) (zdD (zda (zc 0) (zc 1)) (zc 2)) zi (zP _)))))
theorem zgC (T:TX K mg):zM P w K mg base (CX1 P w) 7 T.zdQ.a T.zdQ.d ["self", "points", "ties", "turn"] (spE T.G T.xm 4 zde) :=
 z5 (k:=6) T.zdQ.F zmQ rfl rfl ϑ fun cdv A outer s H E hr W xb =>
     (zn (z9 (zbX (zbB (zA xb.toXM (zgB T) (hr.mono ϑ) ϱ T.zcE T.zcF.F.kp T.zcF.b (zd (zc 1) (zd zi (zd (zdH ϱ T.v_MOST.m T.v_MOST.r) zl zh) zx) zh)) (fun _=>rfl))) (zq (zeH (c:=0) xb T.xi_BadWeb T.x_BadWeb ϱ)) zbb)
     (zn (z9 (zbX (zbB (zA xb.toXM (zgB T) (hr.mono ϑ) ϱ T.zcE T.zcF.F.kp T.zcF.b (zd (zc 3) (zd zi (zd (zdH ϱ T.v_MOST.m T.v_MOST.r) zl zh) zx) zh)) (fun _=>rfl))) (zq (zeH (c:=0) xb T.xi_BadWeb T.x_BadWeb ϱ)) zbb)
     (zn (z9 (zbX (zbB (zdA ϱ T.n_isinstance ϱ T.n_list (zc 2) zh) (fun _=>rfl))) (zq (zeH (c:=0) xb T.xi_BadWeb T.x_BadWeb ϱ)) zbb)
     (zn (zg6 T.ok T.an_points (zc 0) (zc 1) rfl)
     (zn (zg6 T.ok T.an_turn (zc 0) (zc 3) rfl)
     (zq (zg6 T.ok T.an_triples (zc 0) (z6 (zf4 (N:=["tie", "points"]) (js:=[none,some 1]) xb (zbF.of (osc:=zH zhx) (N0:=["self", "points", "ties", "turn"]) rfl rfl ϰ) (zdo (zc 2)) (fun _ _ _ _ _ xc=>⟨(zcA (i:=0) (show (["tie", "points"]:List Str).Nodup by decide +kernel) rfl (Or.inl rfl)),zeA,(zA xc (zm8 T) (hr.mono ϑ) ϱ T.zeJ T.zfB.F.kp T.zfB.b (zd (zc 1) (zd (zc 0) zl zh) zh))⟩))) rfl)))))))
theorem zbV (T:TX K mg):zM P w K mg base (CX1 P w) 2 T.zbA.a T.zbA.d ["self"] (spE T.G T.xm 1 zho) :=
 z5 (k:=1) T.zbA.F zmR rfl rfl ϑ fun cdv A outer s H E hr W xb =>
     (zq (zN (z6 (zis ϱ T.n_list (zdf (zbE T.ok T.an_triples (zc 0) rfl)) zcn))))
theorem zj6 (T:TX K mg):zM P w K mg base (CX1 P w) 2 T.zeg.a T.zeg.d ["tie"] (spE T.G T.xm 1 zdN) :=
 z5 (k:=1) T.zeg.F zmS rfl rfl ϑ fun cdv A outer s H E hr W xb =>
     (zq (zN (zbf (zd (zw hr (zc 0) zi (fun _ _=>rfl)) (zd (zw hr (zc 0) zi (fun _ _=>rfl)) (zd (zdb (zw hr (zc 0) zi (fun _ _=>rfl))) zl zf0) zbv) zbv))))
theorem zj7 (T:TX K mg):zM P w K mg base (CX1 P w) 9 T.zeh.a T.zeh.d ["web"] (spE T.G T.xm 1 zdr) :=
 z5 (k:=8) T.zeh.F zmT rfl rfl ϑ fun cdv A outer s H E hr W xb =>
     (zq (zN (zeY xb.toXM T.zbt T.zgA (zgC T) (hr.mono ϑ) ϱ T.z4.m T.zdQ.b (zd (zbE T.ok T.an_points (zc 0) rfl) (zd (z6 (zf4 (N:=["tie"]) (js:=[none]) xb (zbF.of (osc:=zH zeO) (N0:=["web"]) rfl rfl ϰ) (zdo (zbL (c0:=0) (zb2 xb.toXM T.zbt T.z4.cl T.zbU (zbV T) (hr.mono ϑ) T.zbA.b (zc 0) zbO (zbM zb0)))) (fun _ _ _ _ _ xc=>⟨(zcA (i:=0) (show (["tie"]:List Str).Nodup by decide +kernel) rfl (Or.inl rfl)),zeA,(zA xc (zj6 T) (hr.mono ϑ) ϱ T.zdN T.zeg.F.kp T.zeg.b (zd (zc 0) zl zh))⟩))) (zd (zbE T.ok T.an_turn (zc 0) rfl) zl zcn) zgP) zcn))))
theorem zj8 (T:TX K mg):zM P w K mg base (CX1 P w) 9 T.zei.a T.zei.d ["one", "other"] (spE T.G T.xm 2 zds) :=
 z5 (k:=8) T.zei.F zmU rfl rfl ϑ fun cdv A outer s H E hr W xb =>
     (zn (z9 (t_w (zcp (zbX (zbB (zjy T.ok T.zbt ϱ T.n_isinstance ϱ T.z4.m (zc 0) zh) (fun _=>rfl))) (zc9 (zbX (zbB (zjy T.ok T.zbt ϱ T.n_isinstance ϱ T.z4.m (zc 1) zh) (fun _=>rfl)))))) (zq (zeH (c:=3) xb T.xi_Unlike T.x_Unlike ϱ)) zbb)
     (zn (z9 (t_w (zcp (zT (zbQ hr) (zbE T.ok T.an_points (zc 0) rfl) (zbE T.ok T.an_points (zc 1) rfl) (zP _)) (zc9 (zT (zbQ hr) (zbE T.ok T.an_turn (zc 0) rfl) (zbE T.ok T.an_turn (zc 1) rfl) (zP _))))) (zq (zeH (c:=3) xb T.xi_Unlike T.x_Unlike ϱ)) zbb)
     (zq (zN (zeY xb.toXM T.zbt T.zgA (zgC T) (hr.mono ϑ) ϱ T.z4.m T.zdQ.b (zd (zbE T.ok T.an_points (zc 0) rfl) (zd (z6 (zfe (zbL (c0:=0) (zb2 xb.toXM T.zbt T.z4.cl T.zbU (zbV T) (hr.mono ϑ) T.zbA.b (zc 0) zbO (zbM zb0))) (zdf (zbL (c0:=0) (zb2 xb.toXM T.zbt T.z4.cl T.zbU (zbV T) (hr.mono ϑ) T.zbA.b (zc 1) zbO (zbM zb0)))))) (zd (zbE T.ok T.an_turn (zc 0) rfl) zl zcn) zb6) zcn))))))
theorem zm9 (T:TX K mg):zM P w K mg base (CX1 P w) 4 T.zfC.a T.zfC.d ["ties", "value"] (spE T.G T.xm 2 zfl) :=
 z5 (k:=3) T.zfC.F zmV rfl rfl ϑ fun cdv A outer s H E hr W xb =>
     (zq (zN (zA xb.toXM (zgB T) (hr.mono ϑ) ϱ T.zcE T.zcF.F.kp T.zcF.b (zd (zc 1) (zd zi (zd (zda (zc1 ϱ T.n_len (zc 0) zh) zi) zl zb6) zx) zh))))
theorem zna (T:TX K mg):zM P w K mg base (CX1 P w) 5 T.zfD.a T.zfD.d ["ties", "value"] (spE T.G T.xm 2 zeK) :=
 z5 (k:=4) T.zfD.F zmW rfl rfl ϑ fun cdv A outer s H E hr W xb =>
     (zn (z9 (t_w (zcp (zbX (zbB (zdA ϱ T.n_isinstance ϱ T.n_tuple (zc 1) zh) (fun _=>rfl))) (zc9 (zT (zbQ hr) (zc1 ϱ T.n_len (zc 1) zh) zi (zP _))))) (zq (zN zcV)) zbb)
     (zq (zN (zd1 (zA xb.toXM (zm9 T) (hr.mono ϑ) ϱ T.zfl T.zfC.F.kp T.zfC.b (zd (zc 0) (zd (zw hr (zc 1) zi (fun _ _=>rfl)) zl zbv) zh)) (zd1 (zA xb.toXM (ziO T) (hr.mono ϑ) ϱ T.zdd T.zdu.F.kp T.zdu.b (zd (zw hr (zc 1) zi (fun _ _=>rfl)) zl zbv)) (ze4 (zet (zlc hr) (zw hr (zc 1) zi (fun _ _=>rfl)) (zbf (zd (zdH ϱ T.v_FORTH.m T.v_FORTH.r) (zd (zdH ϱ T.v_BACK.m T.v_BACK.r) zl zh) zh)) (by with_unfolding_all rfl))))))))
theorem zhE (T:TX K mg):zM P w K mg base (CX1 P w) 3 T.zc4.a T.zc4.d ["ties", "step"] (spE T.G T.xm 2 zcg) :=
 z5 (k:=2) T.zc4.F zjZ rfl rfl ϑ fun cdv A outer s H E hr W xb =>
     (zn (zL (i:=2) zjZ.nd rfl (Or.inl rfl) (zw hr (zc 0) (zw hr (zc 1) zi (fun _ _=>rfl)) (fun _ _=>rfl)))
     (zq (zN (zeq (zT (zcS hr) (zw hr (zc 1) zi (fun _ _=>rfl)) (zdH ϱ T.v_FORTH.m T.v_FORTH.r) (zP _)) (zc 2) (zA xb.toXM (zj6 T) (hr.mono ϑ) ϱ T.zdN T.zeg.F.kp T.zeg.b (zd (zc 2) zl zh))))))
theorem znb (T:TX K mg):zM P w K mg base (CX1 P w) 6 T.zfE.a T.zfE.d ["web", "start", "steps"] (spE T.G T.xm 3 zfm) :=
 z5 (k:=5) T.zfE.F zfy rfl rfl ϑ fun cdv A outer s H E hr W xb =>
     (zn (z9 (t_w (zcp (zbX (zbB (zA xb.toXM (zhD T) (hr.mono ϑ) ϱ T.zc2 T.zc3.F.kp T.zc3.b (zd (zbE T.ok T.an_points (zc 0) rfl) (zd (zc 1) zl zh) zcn)) (fun _=>rfl))) (zc9 (zbX (zbB (zdA ϱ T.n_isinstance ϱ T.n_list (zc 2) zh) (fun _=>rfl)))))) (zq (zN zeF)) zbb)
     (zn (zL (i:=3) zfy.nd rfl (Or.inl rfl) (zbL (c0:=0) (zb2 xb.toXM T.zbt T.z4.cl T.zbU (zbV T) (hr.mono ϑ) T.zbA.b (zc 0) zbO (zbM zb0))))
     (zn (zL (i:=4) zfy.nd rfl (Or.inl rfl) (z6 (zcK zl)))
     (zn (zL (i:=5) zfy.nd rfl (Or.inl rfl) (zc 1))
     (zn (zd8 xb.ok.own (zdo (zc 2)) (zcA (i:=6) zfy.nd rfl (Or.inl rfl))
     (zn (z9 (zbX (zbB (zA xb.toXM (zna T) (hr.mono ϑ) ϱ T.zeK T.zfD.F.kp T.zfD.b (zd (zc 3) (zd (zc 6) zl zh) zh)) (fun _=>rfl))) (zq (zN zeF)) zbb)
     (zn (zdc (zev (zc 4) (zA xb.toXM (zhE T) (hr.mono ϑ) ϱ T.zcg T.zc4.F.kp T.zc4.b (zd (zc 3) (zd (zc 6) zl zh) zh)) zbm))
     (zn (z9 (zT (zbQ hr) (zw hr (zw hr (zc 4) (zdb zi) (fun _ _=>rfl)) zi (fun _ _=>rfl)) (zc 5) (zP _)) (zq (zN zeF)) zbb)
     (zq (zL (i:=5) zfy.nd rfl (Or.inl rfl) (zw hr (zw hr (zc 4) (zdb zi) (fun _ _=>rfl)) zi (fun _ _=>rfl))))))))
     (zq (zN (zc 4))))))))
theorem znc (T:TX K mg):zM P w K mg base (CX1 P w) 3 T.zfF.a T.zfF.d ["web"] (spE T.G T.xm 1 zfn) :=
 z5 (k:=2) T.zfF.F zmX rfl rfl ϑ fun cdv A outer s H E hr W xb =>
     (zq (zN (z6 (zrH ϱ T.n_list ϱ T.n_range (zkX ϱ T.n_len (zdf (zbL (c0:=0) (zb2 xb.toXM T.zbt T.z4.cl T.zbU (zbV T) (hr.mono ϑ) T.zbA.b (zc 0) zbO (zbM zb0)))) zbm) zbm))))
theorem zj9 (T:TX K mg):zM P w K mg base (CX1 P w) 3 T.zej.a T.zej.d ["web", "chosen"] (spE T.G T.xm 2 zea) :=
 z5 (k:=2) T.zej.F zhy rfl rfl ϑ fun cdv A outer s H E hr W xb =>
     (zn (zL (i:=2) zhy.nd rfl (Or.inl rfl) (zbL (c0:=0) (zb2 xb.toXM T.zbt T.z4.cl T.zbU (zbV T) (hr.mono ϑ) T.zbA.b (zc 0) zbO (zbM zb0))))
     (zn (zlf (j:=3) (N:=["point"]) (js:=[none]) rfl zhy.nd rfl rfl (zbF.of (osc:=zH zeS) (N0:=["web", "chosen", "ties", "found", "place"]) rfl rfl ϰ) (zgJ ϱ T.n_range (zbE T.ok T.an_points (zc 0) rfl) zcn) (fun _ _ _ _=>(zcA (i:=0) (show (["point"]:List Str).Nodup by decide +kernel) rfl (Or.inl rfl))) (fun _ _ _ _=>zeA) (fun _ _ _ _=>(z6 (zcK zl))))
     (zn (zd8 xb.ok.own (zdo (zc 1)) (zcA (i:=4) zhy.nd rfl (Or.inl rfl))
     (zn (zdc (zev (zw hr (zc 3) (zw hr (zw hr (zc 2) (zc 4) (fun _ _=>rfl)) zi (fun _ _=>rfl)) (fun _ _=>rfl)) (zbf (zd (zc 4) (zd (zdH ϱ T.v_FORTH.m T.v_FORTH.r) zl zh) zh)) zhm))
     (zq (zdc (zev (zw hr (zc 3) (zw hr (zw hr (zc 2) (zc 4) (fun _ _=>rfl)) zi (fun _ _=>rfl)) (fun _ _=>rfl)) (zbf (zd (zc 4) (zd (zdH ϱ T.v_BACK.m T.v_BACK.r) zl zh) zh)) zhm)))))
     (zq (zN (zc 3))))))
theorem zka (T:TX K mg):zM P w K mg base (CX1 P w) 4 T.zek.a T.zek.d ["ties", "onward", "start", "arrived"] (spE T.G T.xm 4 zdO) :=
 z5 (k:=3) T.zek.F zeT rfl rfl ϑ fun cdv A outer s H E hr W xb =>
     (zn (zjx hr (zc 3) (zc 2) zeF)
     (zn (zL (i:=4) zeT.nd rfl (Or.inl rfl) (z6 (zcK (zd (zc 2) zl zh))))
     (zn (zL (i:=5) zeT.nd rfl (Or.inl rfl) zi)
     (zq (zkO xb.ok.own (zT (zgT hr) (zc 5) (zc1 ϱ T.n_len (zc 4) zh) (zP _)) (zn (zL (i:=6) zeT.nd rfl (Or.inl rfl) (zw hr (zc 4) (zc 5) (fun _ _=>rfl)))
     (zn (zd8 xb.ok.own (zdo (zw hr (zc 1) (zc 6) (fun _ _=>rfl))) (zcA (i:=7) zeT.nd rfl (Or.inl rfl))
     (zn (zL (i:=8) zeT.nd rfl (Or.inl rfl) (zw hr (zA xb.toXM (zhE T) (hr.mono ϑ) ϱ T.zcg T.zc4.F.kp T.zc4.b (zd (zc 0) (zd (zc 7) zl zh) zh)) zi (fun _ _=>rfl)))
     (zq (z9 (zT (ziS hr) (zc 8) (zc 3) (by with_unfolding_all rfl)) (zn (zjx hr (zc 3) (zc 8) (zc 7))
     (zq (zdc (zev (zc 4) (zc 8) zh)))) zbb))))
     (zq (zps (i:=5) zeT.nd rfl (Or.inl rfl) zi)))))))))
theorem znd (T:TX K mg):zM P w K mg base (CX1 P w) 5 T.zfG.a T.zfG.d ["web", "chosen", "start"] (spE T.G T.xm 3 zfo) :=
 z5 (k:=4) T.zfG.F zj0 rfl rfl ϑ fun cdv A outer s H E hr W xb =>
     (zn (zL (i:=3) zj0.nd rfl (Or.inl rfl) zli)
     (zn (zdc (zA xb.toXM (zka T) (hr.mono ϑ) ϱ T.zdO T.zek.F.kp T.zek.b (zd (zbL (c0:=0) (zb2 xb.toXM T.zbt T.z4.cl T.zbU (zbV T) (hr.mono ϑ) T.zbA.b (zc 0) zbO (zbM zb0))) (zd (zA xb.toXM (zj9 T) (hr.mono ϑ) ϱ T.zea T.zej.F.kp T.zej.b (zd (zc 0) (zd (zc 1) zl zh) zh)) (zd (zc 2) (zd (zc 3) zl zh) zh) zbm) zbm)))
     (zq (zN (zc 3)))))
theorem zne (T:TX K mg):zM P w K mg base (CX1 P w) 5 T.zfH.a T.zfH.d ["web", "chosen"] (spE T.G T.xm 2 zfp) :=
 z5 (k:=4) T.zfH.F zgv rfl rfl ϑ fun cdv A outer s H E hr W xb =>
     (zn (zL (i:=2) zgv.nd rfl (Or.inl rfl) (zbL (c0:=0) (zb2 xb.toXM T.zbt T.z4.cl T.zbU (zbV T) (hr.mono ϑ) T.zbA.b (zc 0) zbO (zbM zb0))))
     (zn (zL (i:=3) zgv.nd rfl (Or.inl rfl) (zA xb.toXM (zj9 T) (hr.mono ϑ) ϱ T.zea T.zej.F.kp T.zej.b (zd (zc 0) (zd (zc 1) zl zh) zh)))
     (zn (zL (i:=4) zgv.nd rfl (Or.inl rfl) zli)
     (zn (zd8 xb.ok.own (zgJ ϱ T.n_range (zbE T.ok T.an_points (zc 0) rfl) zcn) (zcA (i:=5) zgv.nd rfl (Or.inl rfl))
     (zq (z9 (zT (ziS hr) (zc 5) (zc 4) (by with_unfolding_all rfl)) (zq (zdc (zA xb.toXM (zka T) (hr.mono ϑ) ϱ T.zdO T.zek.F.kp T.zek.b (zd (zc 2) (zd (zc 3) (zd (zc 5) (zd (zc 4) zl zh) zh) zh) zh)))) zbb)))
     (zq (zN (zc 4)))))))
theorem znf (T:TX K mg):zM P w K mg base (CX1 P w) 4 T.zfI.a T.zfI.d ["web", "arrived", "goal"] (spE T.G T.xm 3 zfq) :=
 z5 (k:=3) T.zfI.F zgw rfl rfl ϑ fun cdv A outer s H E hr W xb =>
     (zn (zL (i:=3) zgw.nd rfl (Or.inl rfl) (zbL (c0:=0) (zb2 xb.toXM T.zbt T.z4.cl T.zbU (zbV T) (hr.mono ϑ) T.zbA.b (zc 0) zbO (zbM zb0))))
     (zn (zL (i:=4) zgw.nd rfl (Or.inl rfl) (z6 (zcK zl)))
     (zn (zL (i:=5) zgw.nd rfl (Or.inl rfl) (zc 2))
     (zn (zkO xb.ok.own (zT (zi0 hr) (zw hr (zc 1) (zc 5) (fun _ _=>rfl)) zeF (zP _)) (zn (zdc (zev (zc 4) (zw hr (zc 1) (zc 5) (fun _ _=>rfl)) zbv))
     (zq (zL (i:=5) zgw.nd rfl (Or.inl rfl) (zw hr (zA xb.toXM (zhE T) (hr.mono ϑ) ϱ T.zcg T.zc4.F.kp T.zc4.b (zd (zc 3) (zd (zw hr (zc 1) (zc 5) (fun _ _=>rfl)) zl zbv) zh)) zi (fun _ _=>rfl))))))
     (zn (zdc (ztr (zc 4)))
     (zq (zN (zc 4))))))))
theorem zng (T:TX K mg):zM P w K mg base (CX1 P w) 2 T.zfJ.a T.zfJ.d ["arrived"] (spE T.G T.xm 1 zfr) :=
 z5 (k:=1) T.zfJ.F zmY rfl rfl ϑ fun cdv A outer s H E hr W xb =>
     (zq (zN (z6 (zrr hr ϱ T.n_sorted (zgf (zqg (N:=["step"]) (js:=[none]) rfl (zbF.of (osc:=zH zfw) (N0:=["arrived"]) rfl rfl ϰ) (zc 0) (fun _ _ _ _=>(zcA (i:=0) (show (["step"]:List Str).Nodup by decide +kernel) rfl (Or.inl rfl))) (fun _ _ _ _=>(zsS (zT (zi0 hr) (zc 0) zeF (zP _)))) (fun _ _ _ _=>(zw hr (zc 0) zi (fun _ _=>rfl))))) zgP))))
theorem znh (T:TX K mg):zM P w K mg base (CX1 P w) 3 T.zfK.a T.zfK.d ["values", "count"] (spE T.G T.xm 2 zfs) :=
 z5 (k:=2) T.zfK.F zmZ rfl rfl ϑ fun cdv A outer s H E hr W xb =>
     (zq (zN (zd1 (zdA ϱ T.n_isinstance ϱ T.n_list (zc 0) zh) (zd1 (zet (zcS hr) (zc1 ϱ T.n_len (zc 0) zh) (zc 1) (zP _)) (ze4 (zk5 ϱ T.n_all (zgf (zf4 (N:=["value"]) (js:=[none]) xb (zbF.of (osc:=zH zeQ) (N0:=["values", "count"]) rfl rfl ϰ) (zdo (zc 0)) (fun _ _ _ _ _ xc=>⟨(zcA (i:=0) (show (["value"]:List Str).Nodup by decide +kernel) rfl (Or.inl rfl)),zeA,(zA xc (ziO T) (hr.mono ϑ) ϱ T.zdd T.zdu.F.kp T.zdu.b (zd (zc 0) zl zh))⟩))) zgP))))))
theorem zni (T:TX K mg):zM P w K mg base (CX1 P w) 2 T.zgy.a T.zgy.d ["self", "heights"] (spE T.G T.xm 2 zhp) :=
 z5 (k:=1) T.zgy.F zm0 rfl rfl ϑ fun cdv A outer s H E hr W xb =>
     (zq (zg6 T.ok T.an_heights (zc 0) (z6 (zis ϱ T.n_list (zdf (zc 1)) zh)) rfl))
theorem zkb (T:TX K mg):zM P w K mg base (CX1 P w) 4 T.zfL.a T.zfL.d ["self", "web"] (spE T.G T.xm 2 zhq) :=
 z5 (k:=3) T.zfL.F zj1 rfl rfl ϑ fun cdv A outer s H E hr W xb =>
     (zn (z9 (zbX (zbB (zA xb.toXM (znh T) (hr.mono ϑ) ϱ T.zfs T.zfK.F.kp T.zfK.b (zd (zbE T.ok T.an_heights (zc 0) rfl) (zd (zbE T.ok T.an_points (zc 1) rfl) zl zcn) zcn)) (fun _=>rfl))) (zq (zN zcV)) zbb)
     (zn (zL (i:=2) zj1.nd rfl (Or.inr rfl) (zbE T.ok T.an_heights (zc 0) rfl))
     (zq (zN (zk5 ϱ T.n_all (zgf (zf4 (N:=["tie", "web", "found"]) (js:=[none,some 1,some 2]) xb (zbF.of (osc:=zH zeR) (N0:=["self", "web", "found"]) rfl rfl ϰ) (zdo (zbL (c0:=0) (zb2 xb.toXM T.zbt T.z4.cl T.zbU (zbV T) (hr.mono ϑ) T.zbA.b (zc 1) zbO (zbM zb0)))) (fun _ _ _ _ _ xc=>⟨(zcA (i:=0) (show (["tie", "web", "found"]:List Str).Nodup by decide +kernel) rfl (Or.inl rfl)),zeA,(zA xc (zj5 T) (hr.mono ϑ) ϱ T.zdq T.zef.F.kp T.zef.b (zd (zda (zw hr (zc 2) (zw hr (zc 0) zi (fun _ _=>rfl)) (fun _ _=>rfl)) (zw hr (zc 2) (zw hr (zc 0) zi (fun _ _=>rfl)) (fun _ _=>rfl))) (zd (zw hr (zc 0) zi (fun _ _=>rfl)) (zd (zbE T.ok T.an_turn (zc 1) rfl) zl zcn) zbv) zb6))⟩))) zgP)))))
theorem znj (T:TX K mg):zM P w K mg base (CX1 P w) 2 T.zgz.a T.zgz.d ["self", "steps"] (spE T.G T.xm 2 zgm) :=
 z5 (k:=1) T.zgz.F zm1 rfl rfl ϑ fun cdv A outer s H E hr W xb =>
     (zq (zg6 T.ok T.an_steps (zc 0) (z6 (zis ϱ T.n_list (zdf (zc 1)) zh)) rfl))
theorem znk (T:TX K mg):zM P w K mg base (CX1 P w) 5 T.zfM.a T.zfM.d ["web", "value"] (spE T.G T.xm 2 zft) :=
 z5 (k:=4) T.zfM.F zm2 rfl rfl ϑ fun cdv A outer s H E hr W xb =>
     (zq (z9 (zbX (zbB (zA xb.toXM (zhD T) (hr.mono ϑ) ϱ T.zc2 T.zc3.F.kp T.zc3.b (zd (zbE T.ok T.an_points (zc 0) rfl) (zd (zc 1) zl zh) zcn)) (fun _=>rfl))) (zq (zeH (c:=1) xb T.xi_BadPoint T.x_BadPoint ϱ)) zbb))
theorem znl (T:TX K mg):zM P w K mg base (CX1 P w) 7 T.zfN.a T.zfN.d ["web", "start", "steps"] (spE T.G T.xm 3 zeb) :=
 z5 (k:=6) T.zfN.F ziC rfl rfl ϑ fun cdv A outer s H E hr W xb =>
     (zn (zdc (zA xb.toXM (znk T) (hr.mono ϑ) ϱ T.zft T.zfM.F.kp T.zfM.b (zd (zc 0) (zd (zc 1) zl zh) zh)))
     (zn (zL (i:=3) ziC.nd rfl (Or.inl rfl) (zA xb.toXM (znb T) (hr.mono ϑ) ϱ T.zfm T.zfE.F.kp T.zfE.b (zd (zc 0) (zd (zc 1) (zd (zc 2) zl zh) zh) zh)))
     (zn (z9 (zT (zrJ hr) (zc 3) zeF (zP _)) (zq (zeH (c:=2) xb T.xi_BadTie T.x_BadTie ϱ)) zbb)
     (zn (zL (i:=4) ziC.nd rfl (Or.inl rfl) (zeq (zbB (zc 3) (fun _=>rfl)) (zw hr (zw hr (zc 3) (zdb zi) (fun _ _=>rfl)) zi (fun _ _=>rfl)) (zc 1)))
     (zq (zN (zbf (zd (zc 4) (zd (zp7 ϱ T.n_sum (zgf (zf4 (N:=["made"]) (js:=[none]) xb (zbF.of (osc:=zH zhz) (N0:=["web", "start", "steps", "gone", "end"]) rfl rfl ϰ) (zdo (zc 3)) (fun _ _ _ _ _ xc=>⟨(zcA (i:=0) (show (["made"]:List Str).Nodup by decide +kernel) rfl (Or.inl rfl)),zeA,(zw hr (zc 0) zi (fun _ _=>rfl))⟩))) zgP) zl zbm) zh))))))))
theorem znm (T:TX K mg):zM P w K mg base (CX1 P w) 4 T.zfO.a T.zfO.d ["web", "arrived"] (spE T.G T.xm 2 zfu) :=
 z5 (k:=3) T.zfO.F zfz rfl rfl ϑ fun cdv A outer s H E hr W xb =>
     (zn (zL (i:=2) zfz.nd rfl (Or.inl rfl) (zbL (c0:=0) (zb2 xb.toXM T.zbt T.z4.cl T.zbU (zbV T) (hr.mono ϑ) T.zbA.b (zc 0) zbO (zbM zb0))))
     (zn (zL (i:=3) zfz.nd rfl (Or.inl rfl) (z6 (zuu (z6 (zcK (zd zi zl zx))) (zbE T.ok T.an_points (zc 0) rfl))))
     (zn (zue xb.ok.own (zc 1) (zeZ rfl (zcq (i:=4) zfz.nd rfl (Or.inl rfl) (zcq (i:=5) zfz.nd rfl (Or.inl rfl) zfb)))
     (zq (z9 (zT (zi0 hr) (zc 5) zeF (zP _)) (zn (zL (i:=6) zfz.nd rfl (Or.inl rfl) (zA xb.toXM (zhE T) (hr.mono ϑ) ϱ T.zcg T.zc4.F.kp T.zc4.b (zd (zc 2) (zd (zc 5) zl zh) zh)))
     (zq (zjx hr (zc 3) (zc 4) (zbW (zw hr (zc 3) (zw hr (zc 6) zi (fun _ _=>rfl)) (fun _ _=>rfl)) (zw hr (zc 6) zi (fun _ _=>rfl)))))) zbb)))
     (zq (zN (zc 3))))))
theorem znn (T:TX K mg):zM P w K mg base (CX1 P w) 6 T.zfP.a T.zfP.d ["web", "arrived", "place"] (spE T.G T.xm 3 zeL) :=
 z5 (k:=5) T.zfP.F zj2 rfl rfl ϑ fun cdv A outer s H E hr W xb =>
     (zn (zL (i:=3) zj2.nd rfl (Or.inl rfl) (zw hr (zbL (c0:=0) (zb2 xb.toXM T.zbt T.z4.cl T.zbU (zbV T) (hr.mono ϑ) T.zbA.b (zc 0) zbO (zbM zb0))) (zc 2) (fun _ _=>rfl)))
     (zq (zN (z6 (zfe (z6 (zcK (zd (zbf (zd (zc 2) (zd (zdH ϱ T.v_FORTH.m T.v_FORTH.r) zl zh) zh)) zl zhm))) (zdf (zA xb.toXM (znf T) (hr.mono ϑ) ϱ T.zfq T.zfI.F.kp T.zfI.b (zd (zc 0) (zd (zA xb.toXM (znd T) (hr.mono ϑ) ϱ T.zfo T.zfG.F.kp T.zfG.b (zd (zc 0) (zd (zA xb.toXM (zng T) (hr.mono ϑ) ϱ T.zfr T.zfJ.F.kp T.zfJ.b (zd (zc 1) zl zh)) (zd (zw hr (zc 3) zi (fun _ _=>rfl)) zl zbv) zbm) zh)) (zd (zw hr (zc 3) zi (fun _ _=>rfl)) zl zbv) zbm) zh))))))))
theorem zno (T:TX K mg):zM P w K mg base (CX1 P w) 7 T.zfQ.a T.zfQ.d ["web"] (spE T.G T.xm 1 zec) :=
 z5 (k:=6) T.zfQ.F zgx rfl rfl ϑ fun cdv A outer s H E hr W xb =>
     (zn (zL (i:=1) zgx.nd rfl (Or.inl rfl) (zA xb.toXM (zne T) (hr.mono ϑ) ϱ T.zfp T.zfH.F.kp T.zfH.b (zd (zc 0) (zd (zA xb.toXM (znc T) (hr.mono ϑ) ϱ T.zfn T.zfF.F.kp T.zfF.b (zd (zc 0) zl zh)) zl zbm) zh)))
     (zn (zL (i:=2) zgx.nd rfl (Or.inl rfl) (zA xb.toXM (znm T) (hr.mono ϑ) ϱ T.zfu T.zfO.F.kp T.zfO.b (zd (zc 0) (zd (zc 1) zl zh) zh)))
     (zn (zd8 xb.ok.own (zq9 ϱ T.n_enumerate (zbL (c0:=0) (zb2 xb.toXM T.zbt T.z4.cl T.zbU (zbV T) (hr.mono ϑ) T.zbA.b (zc 0) zbO (zbM zb0))) zbm) (zeZ rfl (zcq (i:=3) zgx.nd rfl (Or.inl rfl) (zcq (i:=4) zgx.nd rfl (Or.inl rfl) zfb)))
     (zq (z9 (zbX (zbB (zA xb.toXM (zj5 T) (hr.mono ϑ) ϱ T.zdq T.zef.F.kp T.zef.b (zd (zda (zw hr (zc 2) (zw hr (zc 4) zi (fun _ _=>rfl)) (fun _ _=>rfl)) (zw hr (zc 2) (zw hr (zc 4) zi (fun _ _=>rfl)) (fun _ _=>rfl))) (zd (zw hr (zc 4) zi (fun _ _=>rfl)) (zd (zbE T.ok T.an_turn (zc 0) rfl) zl zcn) zbv) zb6)) (fun _=>rfl))) (zq (zN (zeY xb.toXM T.zm6 T.zm5 (znj T) (hr.mono ϑ) ϱ T.zdR.m T.zgz.b (zd (zA xb.toXM (znn T) (hr.mono ϑ) ϱ T.zeL T.zfP.F.kp T.zfP.b (zd (zc 0) (zd (zc 1) (zd (zc 3) zl zh) zh) zh)) zl zbm)))) zbb)))
     (zq (zN (zeY xb.toXM T.zhC T.zm4 (zni T) (hr.mono ϑ) ϱ T.zcT.m T.zgy.b (zd (zc 2) zl zh)))))))
theorem zdS (T:TX K mg):zM P w K mg base (CX1 P w) 2 T.zbK.a T.zbK.d ["_law_script", "_law_k"] (spE T.G T.xm 2 zbo) :=
 z5 (k:=1) T.zbK.F zm3 rfl rfl ϑ fun cdv A outer s H E hr W xb =>
     (zn (z9 (zT (zgT hr) (zc 1) (zc1 ϱ T.n_len (zc 0) zh) (zP _)) (zq (zN (zw hr (zc 0) (zc 1) (fun _ _=>rfl)))) zbb)
     (zq (zN zi)))
theorem zcd (T:TX K mg):zM P w K mg base (CX1 P w) 2 T.zZ.a T.zZ.d ["_law_cell", "_law_k", "_law_many"] (spE T.G T.xm 3 zu) :=
 z5 (k:=1) T.zZ.F zj3 rfl rfl ϑ fun cdv A outer s H E hr W xb =>
     (zn (zL (i:=3) zj3.nd rfl (Or.inl rfl) (zbf (zd zi (zd zi (zd zi (zd zi (zd zi (zd zi (zd zi (zd zi (zd zi (zd zi (zd zi (zd zi (zd zi (zd zi (zd zi (zd zi zl zx) zx) zx) zx) zx) zx) zx) zx) zx) zx) zx) zx) zx) zx) zx) zx)))
     (zq (zN (zdD (zdD (zbW (zeW (zc 0) zi) (zeW (zc 1) zi)) (zw hr (zc 3) (zdD (zc 1) zi) (fun _ _=>rfl))) (zc 2)))))
theorem znp (T:TX K mg):zM P w K mg base (CX1 P w) 3 T.zfR.a T.zfR.d ["_law_script"] (spE T.G T.xm 1 zeM) :=
 z5 (k:=2) T.zfR.F zcc rfl rfl ϑ fun cdv A outer s H E hr W xb =>
     (zn (zL (i:=1) zcc.nd rfl (Or.inl rfl) (zig (zeW (zc1 ϱ T.n_len (zc 0) zh) (zw hr (zbf (zd zi (zd zi (zd zi zl zx) zx) zx)) (zA xb.toXM (zcd T) (hr.mono ϑ) ϱ T.zu T.zZ.F.kp T.zZ.b (zd (zA xb.toXM (zdS T) (hr.mono ϑ) ϱ T.zbo T.zbK.F.kp T.zbK.b (zd (zc 0) (zd zi zl zx) zh)) (zd zi (zd zi zl zx) zx) zbm)) (fun _ _=>rfl))) zi))
     (zn (zL (i:=2) zcc.nd rfl (Or.inl rfl) (zbW zi (zA xb.toXM (zcd T) (hr.mono ϑ) ϱ T.zu T.zZ.F.kp T.zZ.b (zd (zA xb.toXM (zdS T) (hr.mono ϑ) ϱ T.zbo T.zbK.F.kp T.zbK.b (zd (zc 0) (zd zi zl zx) zh)) (zd zi (zd (zbW zi (zc 1)) zl zb6) zx) zbm))))
     (zn (zL (i:=3) zcc.nd rfl (Or.inl rfl) (zw hr (zbf (zd zi (zd zi (zd zi (zd zi (zd zi (zd zi (zd zi zl zx) zx) zx) zx) zx) zx) zx)) (zA xb.toXM (zcd T) (hr.mono ϑ) ϱ T.zu T.zZ.F.kp T.zZ.b (zd (zA xb.toXM (zdS T) (hr.mono ϑ) ϱ T.zbo T.zbK.F.kp T.zbK.b (zd (zc 0) (zd zi zl zx) zh)) (zd zi (zd zi zl zx) zx) zbm)) (fun _ _=>rfl)))
     (zn (zL (i:=4) zcc.nd rfl (Or.inl rfl) (zw hr (zbf (zd zi (zd zi (zd zi (zd zi zl zx) zx) zx) zx)) (zA xb.toXM (zcd T) (hr.mono ϑ) ϱ T.zu T.zZ.F.kp T.zZ.b (zd (zA xb.toXM (zdS T) (hr.mono ϑ) ϱ T.zbo T.zbK.F.kp T.zbK.b (zd (zc 0) (zd zi zl zx) zh)) (zd zi (zd zi zl zx) zx) zbm)) (fun _ _=>rfl)))
     (zn (zL (i:=5) zcc.nd rfl (Or.inl rfl) (zw hr (zbf (zd zi (zd zi (zd zi (zd zi zl zx) zx) zx) zx)) (zA xb.toXM (zcd T) (hr.mono ϑ) ϱ T.zu T.zZ.F.kp T.zZ.b (zd (zA xb.toXM (zdS T) (hr.mono ϑ) ϱ T.zbo T.zbK.F.kp T.zbK.b (zd (zc 0) (zd zi zl zx) zh)) (zd zi (zd zi zl zx) zx) zbm)) (fun _ _=>rfl)))
     (zn (zL (i:=6) zcc.nd rfl (Or.inl rfl) (zd1 (zet (zjY hr) (zc 2) zi (zP _)) (ze4 (zet (zcS hr) (zA xb.toXM (zcd T) (hr.mono ϑ) ϱ T.zu T.zZ.F.kp T.zZ.b (zd (zA xb.toXM (zdS T) (hr.mono ϑ) ϱ T.zbo T.zbK.F.kp T.zbK.b (zd (zc 0) (zd zi zl zx) zh)) (zd zi (zd zi zl zx) zx) zbm)) zi (zP _)))))
     (zn (zL (i:=7) zcc.nd rfl (Or.inl rfl) (z6 (zcK zl)))
     (zn (zd8 xb.ok.own (zgJ ϱ T.n_range (zc1 ϱ T.n_len (zc 0) zh) zbm) (zcA (i:=8) zcc.nd rfl (Or.inl rfl))
     (zn (zL (i:=9) zcc.nd rfl (Or.inl rfl) (zA xb.toXM (zcd T) (hr.mono ϑ) ϱ T.zu T.zZ.F.kp T.zZ.b (zd (zw hr (zc 0) (zc 8) (fun _ _=>rfl)) (zd (zbW (zdD (zc 8) zi) zi) (zd (zc 2) zl zh) zb6) zbv)))
     (zn (zL (i:=10) zcc.nd rfl (Or.inl rfl) (zdD (zbW (zbW (zc 9) zi) (zA xb.toXM (zcd T) (hr.mono ϑ) ϱ T.zu T.zZ.F.kp T.zZ.b (zd (zw hr (zc 0) (zc 8) (fun _ _=>rfl)) (zd (zbW (zdD (zc 8) zi) zi) (zd (zda (zc 2) zi) zl zb6) zb6) zbv))) (zc 2)))
     (zn (z9 (zbB (zc 6) (fun _=>rfl)) (zn (zL (i:=11) zcc.nd rfl (Or.inl rfl) (zeq (zT (zgT hr) (zc 9) (zig (zc 2) zi) (zP _)) zi (zig (zc 2) zi)))
     (zn (zL (i:=12) zcc.nd rfl (Or.inl rfl) (zeq (zT (zcS hr) (zc 11) zi (zP _)) (zig (zc 2) zi) (zda (zc 2) (zc 11))))
     (zn (zL (i:=13) zcc.nd rfl (Or.inl rfl) (zbW zi (zA xb.toXM (zcd T) (hr.mono ϑ) ϱ T.zu T.zZ.F.kp T.zZ.b (zd (zw hr (zc 0) (zc 8) (fun _ _=>rfl)) (zd (zbW (zdD (zc 8) zi) zi) (zd (zda (zc 12) zi) zl zb6) zb6) zbv))))
     (zq (zL (i:=10) zcc.nd rfl (Or.inl rfl) (zbW (zc 11) (zdD (zbW (zda (zc 9) (zc 11)) (zc 13)) (zc 12)))))))) zbb)
     (zn (zL (i:=14) zcc.nd rfl (Or.inl rfl) (zda (zA xb.toXM (zcd T) (hr.mono ϑ) ϱ T.zu T.zZ.F.kp T.zZ.b (zd (zeW (zc 10) zi) (zd zi (zd (zc 4) zl zh) zx) zb6)) (zA xb.toXM (zcd T) (hr.mono ϑ) ϱ T.zu T.zZ.F.kp T.zZ.b (zd (zeW (zc 9) zi) (zd zi (zd (zc 4) zl zh) zx) zb6))))
     (zn (z9 (t_w (zgK (zT (zjY hr) (zc 5) zi (zP _)) (ziu (zT (zcS hr) (zA xb.toXM (zcd T) (hr.mono ϑ) ϱ T.zu T.zZ.F.kp T.zZ.b (zd (zw hr (zc 0) (zc 8) (fun _ _=>rfl)) (zd (zbW (zdD (zc 8) zi) zi) (zd (zc 5) zl zh) zb6) zbv)) zi (zP _))))) (zq (zL (i:=14) zcc.nd rfl (Or.inl rfl) (zbW (zc 14) zi))) zbb)
     (zn (z9 (t_w (zgK (zT (zjY hr) (zc 3) zi (zP _)) (zgK (zT (zcS hr) (zA xb.toXM (zcd T) (hr.mono ϑ) ϱ T.zu T.zZ.F.kp T.zZ.b (zd (zw hr (zc 0) (zc 8) (fun _ _=>rfl)) (zd zi (zd zi zl zx) zx) zbv)) zi (zP _)) (ziu (zT (zgT hr) (zbW (zqz ϱ T.n_abs (zc 14) zh) (zc 3)) zi (zP _)))))) (zq (zL (i:=14) zcc.nd rfl (Or.inl rfl) (zda (zc 14) (zc 3)))) zbb)
     (zq (zdc (zev (zc 7) (zbf (zd (zc 9) (zd (zc 10) (zd (zc 14) zl zh) zh) zh)) zhm))))))))))
     (zq (zN (zbf (zd (zc 2) (zd (zc 7) (zd (zc 3) zl zh) zh) zh))))))))))))
theorem znq (T:TX K mg):zM P w K mg base (CX1 P w) 2 T.zfS.a T.zfS.d ["_law_ties", "_law_start", "_law_steps"] (spE T.G T.xm 3 zdP) :=
 z5 (k:=1) T.zfS.F zeU rfl rfl ϑ fun cdv A outer s H E hr W xb =>
     (zn (zk4 (i:=3) (j:=4) zeU.nd rfl rfl (zd (z6 (zcK (zd (zc 1) zl zh))) (zd zi zl zx) zhn))
     (zn (zd8 xb.ok.own (zdo (zc 2)) (zcA (i:=5) zeU.nd rfl (Or.inl rfl))
     (zn (z9 (t_w (zcp (zbX (zbB (zdA ϱ T.n_isinstance ϱ T.n_tuple (zc 5) zh) (fun _=>rfl))) (zc9 (zT (zbQ hr) (zc1 ϱ T.n_len (zc 5) zh) zi (zP _))))) (zq (zN (zbf (zd (z6 (zcK zl)) (zd zi zl zx) zhn)))) zbb)
     (zn (zjv (zc 5) (zeZ rfl (zcq (i:=6) zeU.nd rfl (Or.inl rfl) (zcq (i:=7) zeU.nd rfl (Or.inl rfl) zfb))))
     (zn (z9 (t_w (zcp (zbB (zdA ϱ T.n_isinstance ϱ T.n_bool (zc 6) zh) (fun _=>rfl)) (zcp (zbX (zbB (zdA ϱ T.n_isinstance ϱ T.n_int (zc 6) zh) (fun _=>rfl))) (zcp (zbX (zrp (zi8 hr) (zgT hr) zi (zc 6) (zc1 ϱ T.n_len (zc 0) zh))) (zc9 (zT (ziS hr) (zc 7) (zbf (zd zi (zd (zdb zi) zl zf0) zx)) (by with_unfolding_all rfl))))))) (zq (zN (zbf (zd (z6 (zcK zl)) (zd zi zl zx) zhn)))) zbb)
     (zn (zL (i:=8) zeU.nd rfl (Or.inl rfl) (zeq (zT (zcS hr) (zc 7) zi (zP _)) (zmI (zw hr (zc 0) (zc 6) (fun _ _=>rfl)) zdX (zdY zi)) (ztH (zw hr (zc 0) (zc 6) (fun _ _=>rfl)))))
     (zn (z9 (zT (zbQ hr) (zw hr (zc 3) (zdb zi) (fun _ _=>rfl)) (zw hr (zc 8) zi (fun _ _=>rfl)) (zP _)) (zq (zN (zbf (zd (z6 (zcK zl)) (zd zi zl zx) zhn)))) zbb)
     (zn (zdc (zev (zc 3) (zw hr (zc 8) zi (fun _ _=>rfl)) zbv))
     (zq (zL (i:=4) zeU.nd rfl (Or.inl rfl) (zbW (zc 4) (zeW (zc 7) (zw hr (zw hr (zc 0) (zc 6) (fun _ _=>rfl)) zi (fun _ _=>rfl)))))))))))))
     (zq (zN (zbf (zd (zc 3) (zd (zc 4) zl zh) zh))))))
theorem zhF (T:TX K mg):zM P w K mg base (CX1 P w) 8 T.zc5.a T.zc5.d ["_law_web_here", "_law_start", "_law_steps"] (spE T.G T.xm 3 zb8) :=
 z5 (k:=7) T.zc5.F ziI rfl rfl ϑ fun cdv A outer s H E hr W xb =>
     (zq (zsJ (i:=3) xb ϱ T.m_WebError ziI.nd rfl (fun _=>(zsi (j:=4) rfl ziI.nd rfl rfl ϑ ϑ (zfV (i:=3) ϱ T.n_isinstance rfl (.inl rfl) ϑ ϑ (ze1 (v := .ref T.X_BadPoint) ϱ T.m_BadPoint rfl) (fun w h=>h) rfl rfl rfl) (zfV (i:=3) ϱ T.n_isinstance rfl (.inl rfl) ϑ ϑ (ze1 (v := .ref T.X_BadText) ϱ T.m_BadText rfl) (fun w h=>h) rfl rfl rfl) (zfV (i:=3) ϱ T.n_isinstance rfl (.inl rfl) ϑ ϑ (ze1 (v := .ref T.X_BadWeb) ϱ T.m_BadWeb rfl) (fun w h=>h) rfl rfl rfl) (zfV (i:=3) ϱ T.n_isinstance rfl (.inl rfl) ϑ ϑ (ze1 (v := .ref T.X_Unlike) ϱ T.m_Unlike rfl) (fun w h=>h) rfl rfl rfl) (zfV (i:=3) ϱ T.n_isinstance rfl (.inl rfl) ϑ ϑ (zkB (v := .ty "ValueError") ϱ T.n_ValueError ϰ rfl) (fun w h=>h) rfl rfl rfl) (zfV (i:=3) ϱ T.n_isinstance rfl (.inl rfl) ϑ ϑ (ze1 (v := .ref T.X_BadTie) ϱ T.m_BadTie rfl) (fun w h=>h) rfl rfl rfl) (fun _=>zbm) (fun _=>zbm) (fun _=>zbm) (fun _=>zbm) (fun _=>rfl) ϱ T.n_any rfl rfl (.inl rfl))) T.kC (fun _ _ _ xt=>(zq (zN (zA xt (znl T) (hr.mono ϑ) ϱ T.zeb T.zfN.F.kp T.zfN.b (zd (zc 0) (zd (zc 1) (zd (zc 2) zl zh) zh) zh)))))))
theorem znr (T:TX K mg):zM P w K mg base (CX1 P w) 9 T.zfT.a T.zfT.d ["_law_web_here", "_law_points", "_law_ties", "_law_script"] (spE T.G T.xm 4 zeN) :=
 z5 (k:=8) T.zfT.F zcw rfl rfl ϑ fun cdv A outer s H E hr W xb =>
     (zn (zL (i:=4) zcw.nd rfl (Or.inl rfl) (zA xb.toXM (zcd T) (hr.mono ϑ) ϱ T.zu T.zZ.F.kp T.zZ.b (zd (zA xb.toXM (zdS T) (hr.mono ϑ) ϱ T.zbo T.zbK.F.kp T.zbK.b (zd (zc 3) (zd zi zl zx) zh)) (zd zi (zd (zc 1) zl zh) zx) zbm)))
     (zn (zrM (i:=5) (j:=6) (k:=7) zcw.nd rfl rfl rfl (zd (zc 4) (zd (z6 (zcK zl)) (zd zi zl zx) zhn) zh))
     (zn (zd8 xb.ok.own (zgJ ϱ T.n_range (zc1 ϱ T.n_len (zc 2) zh) zbm) (zcA (i:=8) zcw.nd rfl (Or.inl rfl))
     (zq (z9 (zT (zlc hr) (zc 4) (zmI (zw hr (zc 2) (zc 8) (fun _ _=>rfl)) zdX (zdY zi)) (by with_unfolding_all rfl)) (zn (zL (i:=9) zcw.nd rfl (Or.inl rfl) (zeq (zT (zcS hr) (zc 4) (zw hr (zw hr (zc 2) (zc 8) (fun _ _=>rfl)) zi (fun _ _=>rfl)) (zP _)) zi (zdb zi)))
     (zn (zdc (zev (zc 6) (zbf (zd (zc 8) (zd (zc 9) zl zh) zh)) zhm))
     (zn (zL (i:=4) zcw.nd rfl (Or.inl rfl) (zeq (zT (zcS hr) (zc 9) zi (zP _)) (zw hr (zw hr (zc 2) (zc 8) (fun _ _=>rfl)) zi (fun _ _=>rfl)) (zw hr (zw hr (zc 2) (zc 8) (fun _ _=>rfl)) zi (fun _ _=>rfl))))
     (zq (zL (i:=7) zcw.nd rfl (Or.inl rfl) (zbW (zc 7) (zeW (zc 9) (zw hr (zw hr (zc 2) (zc 8) (fun _ _=>rfl)) zi (fun _ _=>rfl))))))))) zbb)))
     (zn (zL (i:=10) zcw.nd rfl (Or.inl rfl) (z6 (zis ϱ T.n_list (zdf (zc 6)) zh)))
     (zn (z9 (t_w (zcp (zT (zbQ hr) (zA xb.toXM (zhF T) (hr.mono ϑ) ϱ T.zb8 T.zc5.F.kp T.zc5.b (zd (zc 0) (zd (zc 5) (zd (zc 10) zl zh) zh) zh)) (zbf (zd (zc 4) (zd (zc 7) zl zh) zh)) (zP _)) (zc9 (zT (zbQ hr) (zc 10) (zc 6) (zP _))))) (zq (zN zcV)) zbb)
     (zn (zlf (j:=11) (N:=["_law_at", "_law_way"]) (js:=[none,none]) rfl zcw.nd rfl rfl (zbF.of (osc:=zH zhA) (N0:=["_law_web_here", "_law_points", "_law_ties", "_law_script", "_law_point", "_law_start", "_law_steps", "_law_now", "_law_k", "_law_way", "_law_handed", "_law_back", "_law_cell", "_law_step", "_law_some", "_law_came", "_law_total"]) rfl rfl ϰ) (zdo (z6 (zrY (zc 6)))) (fun _ _ _ _=>(zeZ rfl (zcq (i:=0) (show (["_law_at", "_law_way"]:List Str).Nodup by decide +kernel) rfl (Or.inl rfl) (zcq (i:=1) (show (["_law_at", "_law_way"]:List Str).Nodup by decide +kernel) rfl (Or.inl rfl) zfb)))) (fun _ _ _ _=>zeA) (fun _ _ _ _=>(zbf (zd (zc 0) (zd (zdb (zc 1)) zl zf0) zh))))
     (zn (z9 (zT (zbQ hr) (zA xb.toXM (zhF T) (hr.mono ϑ) ϱ T.zb8 T.zc5.F.kp T.zc5.b (zd (zc 0) (zd (zc 5) (zd (z6 (zfe (zc 6) (zdf (zc 11)))) zl zb6) zh) zh)) (zbf (zd (zc 5) (zd zi zl zx) zh)) (zP _)) (zq (zN zcV)) zbb)
     (zn (z9 (zT (zbQ hr) (zA xb.toXM (zhF T) (hr.mono ϑ) ϱ T.zb8 T.zc5.F.kp T.zc5.b (zd (zc 0) (zd (zc 5) (zd (z6 (zfe (z6 (zfe (zc 6) (zdf (zc 11)))) (zdf (zc 6)))) zl zb6) zh) zh)) (zbf (zd (zc 4) (zd (zc 7) zl zh) zh)) (zP _)) (zq (zN zcV)) zbb)
     (zn (zd8 xb.ok.own (zgJ ϱ T.n_range zi zx) (zcA (i:=8) zcw.nd rfl (Or.inl rfl))
     (zn (zL (i:=12) zcw.nd rfl (Or.inl rfl) (zA xb.toXM (zdS T) (hr.mono ϑ) ϱ T.zbo T.zbK.F.kp T.zbK.b (zd (zc 3) (zd (zc 8) zl zh) zh)))
     (zn (zL (i:=13) zcw.nd rfl (Or.inl rfl) (zbf (zd (zda (zA xb.toXM (zcd T) (hr.mono ϑ) ϱ T.zu T.zZ.F.kp T.zZ.b (zd (zc 12) (zd zi (zd (zbW (zc1 ϱ T.n_len (zc 2) zh) zi) zl zb6) zx) zh)) zi) (zd (zw hr (zbf (zd zi (zd (zdb zi) (zd zi (zd zi zl zx) zx) zf0) zx)) (zA xb.toXM (zcd T) (hr.mono ϑ) ϱ T.zu T.zZ.F.kp T.zZ.b (zd (zc 12) (zd zi (zd zi zl zx) zx) zh)) (fun _ _=>rfl)) zl zbv) zb6)))
     (zn (zL (i:=14) zcw.nd rfl (Or.inl rfl) (z6 (zfe (z6 (zff (zc 6) zdX (zdY (zA xb.toXM (zcd T) (hr.mono ϑ) ϱ T.zu T.zZ.F.kp T.zZ.b (zd (zc 12) (zd zi (zd (zbW (zkX ϱ T.n_len (zdf (zc 6)) zh) zi) zl zb6) zx) zh))))) (zgf (zcK (zd (zc 13) zl zh))))))
     (zn (zjv (zA xb.toXM (znq T) (hr.mono ϑ) ϱ T.zdP T.zfS.F.kp T.zfS.b (zd (zc 2) (zd (zc 5) (zd (zc 14) zl zh) zh) zh)) (zeZ rfl (zcq (i:=15) zcw.nd rfl (Or.inl rfl) (zcq (i:=16) zcw.nd rfl (Or.inl rfl) zfb))))
     (zq (z9 (zT (zbQ hr) (zA xb.toXM (zhF T) (hr.mono ϑ) ϱ T.zb8 T.zc5.F.kp T.zc5.b (zd (zc 0) (zd (zc 5) (zd (zc 14) zl zh) zh) zh)) (zeq (zT (zcS hr) (zc 15) (z6 (zcK zl)) (zP _)) ztb (zbf (zd (zw hr (zc 15) (zdb zi) (fun _ _=>rfl)) (zd (zc 16) zl zh) zbv))) (zP _)) (zq (zN zcV)) zbb)))))))
     (zq (zN zcV)))))))))))
theorem zns (T:TX K mg):zM P w K mg base (CX1 P w) 10 T.zfU.a T.zfU.d ["_law_script"] (spE T.G T.xm 1 zhr) :=
 z5 (k:=9) T.zfU.F zdt rfl rfl ϑ fun cdv A outer s H E hr W xb =>
     (zn (zjv (zA xb.toXM (znp T) (hr.mono ϑ) ϱ T.zeM T.zfR.F.kp T.zfR.b (zd (zc 0) zl zh)) (zeZ rfl (zcq (i:=1) zdt.nd rfl (Or.inl rfl) (zcq (i:=2) zdt.nd rfl (Or.inl rfl) (zcq (i:=3) zdt.nd rfl (Or.inl rfl) zfb)))))
     (zn (zL (i:=4) zdt.nd rfl (Or.inl rfl) (zeY xb.toXM T.zbt T.zgA (zgC T) (hr.mono ϑ) ϱ T.z4.m T.zdQ.b (zd (zc 1) (zd (zc 2) (zd (zc 3) zl zh) zh) zh)))
     (zn (zL (i:=5) zdt.nd rfl (Or.inl rfl) (zA xb.toXM (zj7 T) (hr.mono ϑ) ϱ T.zdr T.zeh.F.kp T.zeh.b (zd (zc 4) zl zh)))
     (zn (z9 (t_w (zcp (zT (zbQ hr) (zbL (c0:=0) (zb2 xb.toXM T.zbt T.z4.cl T.zbU (zbV T) (hr.mono ϑ) T.zbA.b (zc 5) zbO (zbM zb0))) (z6 (zf4 (N:=["_law_a", "_law_b", "_law_more"]) (js:=[none,none,none]) xb (zbF.of (osc:=zH zhB) (N0:=["_law_script", "_law_points", "_law_ties", "_law_turn", "_law_web_here", "_law_turned", "_law_at", "_law_one", "_law_other", "_law_both", "_law_found"]) rfl rfl ϰ) (zdo (zc 2)) (fun _ _ _ _ _ xc=>⟨(zeZ rfl (zcq (i:=0) (show (["_law_a", "_law_b", "_law_more"]:List Str).Nodup by decide +kernel) rfl (Or.inl rfl) (zcq (i:=1) (show (["_law_a", "_law_b", "_law_more"]:List Str).Nodup by decide +kernel) rfl (Or.inl rfl) (zcq (i:=2) (show (["_law_a", "_law_b", "_law_more"]:List Str).Nodup by decide +kernel) rfl (Or.inl rfl) zfb)))),zeA,(zbf (zd (zc 1) (zd (zc 0) (zd (zdb (zc 2)) zl zf0) zh) zh))⟩))) (zP _)) (zc9 (zT (zbQ hr) (zbf (zd (zbE T.ok T.an_points (zc 5) rfl) (zd (zbE T.ok T.an_turn (zc 5) rfl) zl zcn) zcn)) (zbf (zd (zc 1) (zd (zc 3) zl zh) zh)) (zP _))))) (zq (zN zcV)) zbb)
     (zn (zL (i:=6) zdt.nd rfl (Or.inl rfl) (zA xb.toXM (zcd T) (hr.mono ϑ) ϱ T.zu T.zZ.F.kp T.zZ.b (zd (zA xb.toXM (zdS T) (hr.mono ϑ) ϱ T.zbo T.zbK.F.kp T.zbK.b (zd (zc 0) (zd zi zl zx) zh)) (zd zi (zd (zbW (zc1 ϱ T.n_len (zc 2) zh) zi) zl zb6) zx) zbm)))
     (zn (zk4 (i:=7) (j:=8) zdt.nd rfl rfl (zd (zeY xb.toXM T.zbt T.zgA (zgC T) (hr.mono ϑ) ϱ T.z4.m T.zdQ.b (zd (zc 1) (zd (z6 (zff (zc 2) zdX (zdY (zc 6)))) (zd (zc 3) zl zh) zbv) zh)) (zd (zeY xb.toXM T.zbt T.zgA (zgC T) (hr.mono ϑ) ϱ T.z4.m T.zdQ.b (zd (zc 1) (zd (z6 (zff (zc 2) (zdY (zc 6)) zdX)) (zd (zc 3) zl zh) zbv) zh)) zl zbm) zbm))
     (zn (zL (i:=9) zdt.nd rfl (Or.inl rfl) (zA xb.toXM (zj8 T) (hr.mono ϑ) ϱ T.zds T.zei.F.kp T.zei.b (zd (zc 7) (zd (zc 8) zl zh) zh)))
     (zn (z9 (t_w (zcp (zT (zbQ hr) (zbL (c0:=0) (zb2 xb.toXM T.zbt T.z4.cl T.zbU (zbV T) (hr.mono ϑ) T.zbA.b (zc 9) zbO (zbM zb0))) (zc 2) (zP _)) (zcp (zT (zbQ hr) (zbf (zd (zbE T.ok T.an_points (zc 9) rfl) (zd (zbE T.ok T.an_turn (zc 9) rfl) zl zcn) zcn)) (zbf (zd (zc 1) (zd (zc 3) zl zh) zh)) (zP _)) (zc9 (zT (zbQ hr) (zbL (c0:=0) (zb2 xb.toXM T.zbt T.z4.cl T.zbU (zbV T) (hr.mono ϑ) T.zbA.b (zA xb.toXM (zj7 T) (hr.mono ϑ) ϱ T.zdr T.zeh.F.kp T.zeh.b (zd (zc 5) zl zh)) zbO (zbM zb0))) (zc 2) (zP _)))))) (zq (zN zcV)) zbb)
     (zn (z9 (t_w (zcp (zT (zbQ hr) (zbL (c0:=0) (zb2 xb.toXM T.zbt T.z4.cl T.zbU (zbV T) (hr.mono ϑ) T.zbA.b (zA xb.toXM (zj8 T) (hr.mono ϑ) ϱ T.zds T.zei.F.kp T.zei.b (zd (zc 8) (zd (zc 7) zl zh) zh)) zbO (zbM zb0))) (z6 (zfe (z6 (zff (zc 2) (zdY (zc 6)) zdX)) (zgf (zff (zc 2) zdX (zdY (zc 6)))))) (zP _)) (zcp (zT (zbQ hr) (zbL (c0:=0) (zb2 xb.toXM T.zbt T.z4.cl T.zbU (zbV T) (hr.mono ϑ) T.zbA.b (zc 7) zbO (zbM zb0))) (z6 (zff (zc 2) zdX (zdY (zc 6)))) (zP _)) (zc9 (zT (zbQ hr) (zbL (c0:=0) (zb2 xb.toXM T.zbt T.z4.cl T.zbU (zbV T) (hr.mono ϑ) T.zbA.b (zc 8) zbO (zbM zb0))) (z6 (zff (zc 2) (zdY (zc 6)) zdX)) (zP _)))))) (zq (zN zcV)) zbb)
     (zn (zL (i:=10) zdt.nd rfl (Or.inl rfl) (zA xb.toXM (zno T) (hr.mono ϑ) ϱ T.zec T.zfQ.F.kp T.zfQ.b (zd (zc 9) zl zh)))
     (zn (z9 (t_w (zgK (zbB (zjy T.ok T.zhC ϱ T.n_isinstance ϱ T.zcT.m (zc 10) zh) (fun _=>rfl)) (ziu (zbX (t_w (zgK (zbB (zbL (c0:=1) (zlq xb.toXM T.zhC T.zcT.cl T.zj4 (zkb T) (hr.mono ϑ) T.zfL.b (zc 10) (zd (zc 7) zl zh) zbO (zbM zlG))) (fun _=>rfl)) (ziu (zbB (zbL (c0:=1) (zlq xb.toXM T.zhC T.zcT.cl T.zj4 (zkb T) (hr.mono ϑ) T.zfL.b (zc 10) (zd (zc 8) zl zh) zbO (zbM zlG))) (fun _=>rfl))))))))) (zq (zN zcV)) zbb)
     (zq (zN (zd1 (zA xb.toXM (znr T) (hr.mono ϑ) ϱ T.zeN T.zfT.F.kp T.zfT.b (zd (zc 4) (zd (zc 1) (zd (zc 2) (zd (zc 0) zl zh) zh) zh) zh)) (ze4 (zet (zcS hr) (zbL (c0:=0) (zb2 xb.toXM T.zbt T.z4.cl T.zbU (zbV T) (hr.mono ϑ) T.zbA.b (zc 4) zbO (zbM zb0))) (zc 2) (zP _)))))))))))))))))
end
end My
end
namespace PySem.W.Fast
def tw1707972366673673047:=0
def tw14744826410045187789:=0
def tw12870134317858983524:=0
def tw14231166569834883771:=0
def tw7797130485664445832:=0
def tw16785239527523098181:=0
def tw8216661749500182230:=0
def tw14992698087706095751:=0
def tw12099327449316337455:=0
def tw908866963654640204:=0
def tw14204125844007570469:=0
def tw202184209283888204:=0
def tw2026283300312065816:=0
def tw9293584735783468285:=0
def tw17270728764553122240:=0
def tw10190846090810551093:=0
def tw3056642930609805427:=0
def tw3101247926853457821:=0
def tw11246593148854161762:=0
def tw3184487190204536968:=0
def tw18353862217999944792:=0
def tw6222841148938917705:=0
def tw17208309580450008396:=0
def tw1827008358401752656:=0
def tw17588607509685097284:=0
def tw11373663081222675620:=0
def tw10416648416947199530:=0
def tw4669510956887961941:=0
def tw8295453094492216233:=0
def tw18024734950741245770:=0
def tw3985762458454919927:=0
def tw8060961047042530642:=0
def tw15445132531047607619:=0
def tw4161427241056806534:=0
def tw17947122158557580331:=0
def tw14241710334128964651:=0
def tw3815278654167496155:=0
def tw10912238063977700461:=0
def tw4903914183522129803:=0
def tw1825410817121861249:=0
end PySem.W.Fast
open PySem L2 MI
namespace My
theorem zuF {P:Program}{w:World}{K:PySem.W.Frag}{mg:Str->Option Value}{base:Heap} (T:TX K mg):zM P w K mg base (CX1 P w) 10 T.zfU.a T.zfU.d ["_law_script"] (ze0 K):=(zns T).imp fun vs H Q E h=>zp3 (G:=T.G) Mx.law_true vs H Q E h
theorem all_mk {l:PySem.W.OpenLaw}{w:World}{K:PySem.W.Frag}{h:Heap}{mg:Str->Option Value}{fa:Addr} (X:K.In h) (G:h.Ns mainGlobals mg) (hfa:mg "law" = some (.ref fa))
   {zdv zel zeV X_WebError X_BadWeb X_BadPoint X_BadTie X_Unlike X_BadText:Addr}
   {tk_MOST tk_FORTH tk_BACK:Tok}
   (znt:CB K "Web" zdv)
   (znu:CB K "Heights" zel)
   (znv:CB K "Ring" zeV)
   (ea_WebError:PySem.W.nsIn K mainGlobals "WebError" = some (some (.ref X_WebError)))
   (ea_BadWeb:PySem.W.nsIn K mainGlobals "BadWeb" = some (some (.ref X_BadWeb)))
   (ea_BadPoint:PySem.W.nsIn K mainGlobals "BadPoint" = some (some (.ref X_BadPoint)))
   (ea_BadTie:PySem.W.nsIn K mainGlobals "BadTie" = some (some (.ref X_BadTie)))
   (ea_Unlike:PySem.W.nsIn K mainGlobals "Unlike" = some (some (.ref X_Unlike)))
   (ea_BadText:PySem.W.nsIn K mainGlobals "BadText" = some (some (.ref X_BadText)))
   (znw:GB K "is_number" zhs ["value"])
   (znx:GB K "is_within" zht ["value", "least", "most"])
   (zny:GB K "is_point" zhu ["points", "value"])
   (znz:GB K "is_tie" zhv ["points", "value"])
   (znA:GB K "own_tie" zgn ["points", "value"])
   (znB:GB K "alike" zeP ["one", "other", "turn"])
   (znC:MB K zdv "__init__" "Web.__init__" zhx ["self", "points", "ties", "turn"])
   (znD:PySem.W.makesIn K zdv=true)
   (znE:PySem.W.keepIn K (.ref zdv)=true)
   (znF:MB K zdv "ties" "Web.ties" zbx ["self"])
   (znG:GB K "turned" zhw ["tie"])
   (znH:GB K "about" zeO ["web"])
   (znI:GB K "together" zfx ["one", "other"])
   (znJ:GB K "is_place" zed ["ties", "value"])
   (znK:GB K "is_step" zix ["ties", "value"])
   (znL:GB K "leg" zee ["ties", "step"])
   (znM:GB K "legs" ziy ["web", "start", "steps"])
   (znN:GB K "every_tie" zgo ["web"])
   (znO:GB K "steps_from" zeS ["web", "chosen"])
   (znP:GB K "spread" zfv ["ties", "onward", "start", "arrived"])
   (znQ:GB K "reach" zgp ["web", "chosen", "start"])
   (znR:GB K "reach_all" zgq ["web", "chosen"])
   (znS:GB K "trace" zgr ["web", "arrived", "goal"])
   (znT:GB K "ties_taken" zfw ["arrived"])
   (znU:GB K "are_numbers" zeQ ["values", "count"])
   (znV:MB K zel "__init__" "Heights.__init__" ziz ["self", "heights"])
   (znW:PySem.W.makesIn K zel=true)
   (znX:PySem.W.keepIn K (.ref zel)=true)
   (znY:MB K zel "shows" "Heights.shows" zeR ["self", "web"])
   (znZ:MB K zeV "__init__" "Ring.__init__" ziA ["self", "steps"])
   (zn0:PySem.W.makesIn K zeV=true)
   (zn1:PySem.W.keepIn K (.ref zeV)=true)
   (zn2:GB K "refuse_no_point" ziB ["web", "value"])
   (zn3:GB K "climb" zhz ["web", "start", "steps"])
   (zn4:GB K "heights_along" zgs ["web", "arrived"])
   (zn5:GB K "ring_by" zgt ["web", "arrived", "place"])
   (zn6:GB K "levels" zgu ["web"])
   (zn7:GB K "_law_cell_at" ziD ["_law_script", "_law_k"])
   (zn8:GB K "_law_draw" ziE ["_law_cell", "_law_k", "_law_many"])
   (zn9:GB K "_law_web" ziF ["_law_script"])
   (zoa:GB K "_law_walk" ziG ["_law_ties", "_law_start", "_law_steps"])
   (zob:GB K "_law_climbed" ziH ["_law_web_here", "_law_start", "_law_steps"])
   (zoc:GB K "_law_walks_right" zhA ["_law_web_here", "_law_points", "_law_ties", "_law_script"])
   (zod:GB K "law" zhB ["_law_script"])
   (ziJ:PySem.W.findIn K (.ref zdv) "points" = some none)
   (ziK:PySem.W.findIn K (.ref zdv) "turn" = some none)
   (ziL:PySem.W.findIn K (.ref zdv) "triples" = some none)
   (ziM:PySem.W.findIn K (.ref zel) "heights" = some none)
   (ziN:PySem.W.findIn K (.ref zeV) "steps" = some none)
   (z_ValueError:PySem.W.nsIn K mainGlobals "ValueError" = some none)
   (z_isinstance:PySem.W.nsIn K mainGlobals "isinstance" = some none)
   (z_int:PySem.W.nsIn K mainGlobals "int" = some none)
   (z_bool:PySem.W.nsIn K mainGlobals "bool" = some none)
   (z_tuple:PySem.W.nsIn K mainGlobals "tuple" = some none)
   (z_len:PySem.W.nsIn K mainGlobals "len" = some none)
   (z_list:PySem.W.nsIn K mainGlobals "list" = some none)
   (z_range:PySem.W.nsIn K mainGlobals "range" = some none)
   (z_sorted:PySem.W.nsIn K mainGlobals "sorted" = some none)
   (z_all:PySem.W.nsIn K mainGlobals "all" = some none)
   (z_sum:PySem.W.nsIn K mainGlobals "sum" = some none)
   (z_enumerate:PySem.W.nsIn K mainGlobals "enumerate" = some none)
   (z_abs:PySem.W.nsIn K mainGlobals "abs" = some none)
   (z_any:PySem.W.nsIn K mainGlobals "any" = some none)
   (u_MOST:PySem.W.nsIn K mainGlobals "MOST" = some (some (.int (1000000) tk_MOST)))
   (u_FORTH:PySem.W.nsIn K mainGlobals "FORTH" = some (some (.int (1) tk_FORTH)))
   (u_BACK:PySem.W.nsIn K mainGlobals "BACK" = some (some (.int (-1) tk_BACK)))
   (iz:zf2 K zdF [zdv,zel,zeV] 0 [zdv,zel,zeV])
   (eb_BadWeb:XBd K "BadWeb" X_BadWeb X_WebError [.ref X_BadPoint,.ref X_BadText,.ref X_BadWeb,.ref X_Unlike,.type "ValueError",.ref X_BadTie] [false,false,true,false,true,false])
   (eb_BadPoint:XBd K "BadPoint" X_BadPoint X_WebError [.ref X_BadPoint,.ref X_BadText,.ref X_BadWeb,.ref X_Unlike,.type "ValueError",.ref X_BadTie] [true,false,false,false,true,false])
   (eb_BadTie:XBd K "BadTie" X_BadTie X_WebError [.ref X_BadPoint,.ref X_BadText,.ref X_BadWeb,.ref X_Unlike,.type "ValueError",.ref X_BadTie] [false,false,false,false,true,true])
   (eb_Unlike:XBd K "Unlike" X_Unlike X_WebError [.ref X_BadPoint,.ref X_BadText,.ref X_BadWeb,.ref X_Unlike,.type "ValueError",.ref X_BadTie] [false,false,false,true,true,false])
   (eb_BadText:XBd K "BadText" X_BadText X_WebError [.ref X_BadPoint,.ref X_BadText,.ref X_BadWeb,.ref X_Unlike,.type "ValueError",.ref X_BadTie] [false,true,false,false,true,false])
   : ∃ fd:FuncData,(∀ (s:Shared) (v:Value),BindsTo s fd ⟨[v],[]⟩ [("_law_script",v)])∧∀ base:Heap,K.In base->base.Ns mainGlobals mg->zM l.prog w K mg base (CX1 l.prog w) 10 fa fd ["_law_script"] (ze0 K):=by
 obtain ⟨zoe,zof,_⟩:=znw.df X G
 obtain ⟨zog,zoh,_⟩:=znx.df X G
 obtain ⟨zoi,zoj,_⟩:=zny.df X G
 obtain ⟨zok,zol,_⟩:=znz.df X G
 obtain ⟨zom,zon,_⟩:=znA.df X G
 obtain ⟨zoo,zop,_⟩:=znB.df X G
 obtain ⟨zoq,zor⟩:=znC.mk' znD znE
 obtain ⟨zos,zot⟩:=znF.df
 obtain ⟨zou,zov,_⟩:=znG.df X G
 obtain ⟨zow,zox,_⟩:=znH.df X G
 obtain ⟨zoy,zoz,_⟩:=znI.df X G
 obtain ⟨zoA,zoB,_⟩:=znJ.df X G
 obtain ⟨zoC,zoD,_⟩:=znK.df X G
 obtain ⟨zoE,zoF,_⟩:=znL.df X G
 obtain ⟨zoG,zoH,_⟩:=znM.df X G
 obtain ⟨zoI,zoJ,_⟩:=znN.df X G
 obtain ⟨zoK,zoL,_⟩:=znO.df X G
 obtain ⟨zoM,zoN,_⟩:=znP.df X G
 obtain ⟨zoO,zoP,_⟩:=znQ.df X G
 obtain ⟨zoQ,zoR,_⟩:=znR.df X G
 obtain ⟨zoS,zoT,_⟩:=znS.df X G
 obtain ⟨zoU,zoV,_⟩:=znT.df X G
 obtain ⟨zoW,zoX,_⟩:=znU.df X G
 obtain ⟨zoY,zoZ⟩:=znV.mk' znW znX
 obtain ⟨zo0,zo1⟩:=znY.df
 obtain ⟨zo2,zo3⟩:=znZ.mk' zn0 zn1
 obtain ⟨zo4,zo5,_⟩:=zn2.df X G
 obtain ⟨zo6,zo7,_⟩:=zn3.df X G
 obtain ⟨zo8,zo9,_⟩:=zn4.df X G
 obtain ⟨zpa,zpb,_⟩:=zn5.df X G
 obtain ⟨zpc,zpd,_⟩:=zn6.df X G
 obtain ⟨zpe,zpf,_⟩:=zn7.df X G
 obtain ⟨zpg,zph,_⟩:=zn8.df X G
 obtain ⟨zpi,zpj,_⟩:=zn9.df X G
 obtain ⟨zpk,zpl,_⟩:=zoa.df X G
 obtain ⟨zpm,zpn,_⟩:=zob.df X G
 obtain ⟨zpo,zpp,_⟩:=zoc.df X G
 obtain ⟨zkc,zkd,hl⟩:=zod.df X G
 cases hfa.symm.trans zkd
 exact ⟨zkc.d,fun s v=> .of_eq (hl [v] rfl),fun base _ _=>zuF ⟨zoe,zof,zog,zoh,zoi,zoj,zok,zol,zom,zon,zoo,zop,zoq,zos,zou,zov,zow,zox,zoy,zoz,zoA,zoB,zoC,zoD,zoE,zoF,zoG,zoH,zoI,zoJ,zoK,zoL,zoM,zoN,zoO,zoP,zoQ,zoR,zoS,zoT,zoU,zoV,zoW,zoX,zoY,zo0,zo2,zo4,zo5,zo6,zo7,zo8,zo9,zpa,zpb,zpc,zpd,zpe,zpf,zpg,zph,zpi,zpj,zpk,zpl,zpm,zpn,zpo,zpp,zkc,zkd,znt.cf X G,zor,zot,ziJ,ziK,ziL,znu.cf X G,zoZ,zo1,ziM,znv.cf X G,zo3,ziN,PySem.W.mg_none_of X G z_ValueError,PySem.W.mg_none_of X G z_isinstance,PySem.W.mg_none_of X G z_int,PySem.W.mg_none_of X G z_bool,PySem.W.mg_none_of X G z_tuple,PySem.W.mg_none_of X G z_len,PySem.W.mg_none_of X G z_list,PySem.W.mg_none_of X G z_range,PySem.W.mg_none_of X G z_sorted,PySem.W.mg_none_of X G z_all,PySem.W.mg_none_of X G z_sum,PySem.W.mg_none_of X G z_enumerate,PySem.W.mg_none_of X G z_abs,PySem.W.mg_none_of X G z_any,⟨_,PySem.W.mg_of X G u_MOST,⟨_,rfl⟩⟩,⟨_,PySem.W.mg_of X G u_FORTH,⟨_,rfl⟩⟩,⟨_,PySem.W.mg_of X G u_BACK,⟨_,rfl⟩⟩,iz,PySem.W.mg_of X G ea_WebError,PySem.W.mg_of X G ea_BadWeb,eb_BadWeb,PySem.W.mg_of X G ea_BadPoint,eb_BadPoint,PySem.W.mg_of X G ea_BadTie,eb_BadTie,PySem.W.mg_of X G ea_Unlike,eb_Unlike,PySem.W.mg_of X G ea_BadText,eb_BadText⟩⟩
theorem walk {l:PySem.W.OpenLaw}{q:Program}{loose:List Str}{XP:(Str->Option Value)->Heap->Prop}{YP:World->Heap->Prop}{d:DefRec}{K:Params->PySem.W.Frag} (hn:l.most=some 63) (hdf:d.params.defaults=[])
   (hY:∀ (w:World) (h:Heap),YP w h->(K w.params).In h)
   (F:∀ (w:World) (mg:Str->Option Value) (fa:Addr) (h:Heap),(K w.params).In h->h.Ns mainGlobals mg->mg d.name=some (.ref fa) ->
     ∃ fd:FuncData,(∀ (s:Shared) (u:Value),BindsTo s fd ⟨[u],[]⟩ [("_law_script",u)])∧∀ base:Heap,(K w.params).In base->base.Ns mainGlobals mg->zM l.prog w (K w.params) mg base (CX1 l.prog w) 10 fa fd ["_law_script"] (ze0 (K w.params))) :
   PySem.W.WalkO q loose XP YP l.row.toRowW d [] (fun f vs=>PySem.call f vs) :=
 L2.walk_of (n:=63) (k:=10) (x :="_law_script") (CX:=fun w=>CX1 l.prog w) (sp:=fun w=>ze0 (K w.params)) hn ϑ hdf ⟨rfl,ϑ,ϑ⟩ hY F (fun _ _ a ns hl ho hS=>MI.law_start ho hl hS) fun _ _ _ _ _ ⟨_,_,_,_,_,_,_,_,_,_,z,_⟩=>z
end My
open PySem PySem.W PyProof.Rows
set_option maxRecDepth 100000 in
theorem PySem.Challenge.cw_closering_k06_webs_holds : PySem.Challenge.rw_closering_k06_webs.Holds := by
 w_on;o_law;k_head;(case hw=>w_witness2)
 k_fill
 refine My.walk (l:=PySem.Challenge.rw_closering_k06_webs) rfl rfl (fun w h Y=>PySem.W.kIn_of Y) ?F
 case F =>
   intro w mg fa h KX G hmg
   apply My.all_mk KX G hmg
   all_goals first | k_is | (apply L2.GB.mk <;> k_is) | (apply L2.MB.mk <;> k_is) | (apply L2.CB.mk <;> k_is) | (apply L2.XBd.mk <;> first | k_is | k_exc | kit_is | rfl | ((repeat' first | exact trivial | apply And.intro) <;> kit_is)) | ((repeat' first | exact trivial | apply And.intro) <;> kit_is)

