import PyProof.Rows.All
import Wide.All
import OpenK.AllK
import Wide.FinOn
import Lean
import PyProof.EqAt
import PyProof.EqKinds
import PyProof.TupleCall
import PySem.Challenge.RW_closering_k02_whole_between
set_option Elab.async false
set_option linter.all false
set_option maxRecDepth 100000
noncomputable section
set_option maxHeartbeats 0
theorem ω {p:Prop}(h:p:=by omega):p:=h
theorem ϑ {p:Prop}(h:p:=by decide):p:=h
theorem ϰ {p:Prop}(h:p:=by decide +kernel):p:=h
theorem ϱ {p:Prop}(h:p:=by rfl):p:=h
theorem ς {p:Prop}(h:p:=by simp):p:=h
section
namespace MI
open PySem (Str)
inductive D where
 | non | bl (b:Bool) | int (i:Int) | str (x:Str) | tup (ds:List D) | obj (n:Nat)
deriving Inhabited
mutual
noncomputable def D.eq:D->D->Bool
 | .non,.non=>true
 | .bl a,.bl b=>a == b
 | .int a,.int b=>a == b
 | .str a,.str b=>decide (a=b)
 | .tup a,.tup b=>eqs a b
 | .obj a,.obj b=>a == b
 | _,_=>false
noncomputable def eqs:List D->List D->Bool
 | [],[]=>true
 | a :: r,b :: q=>D.eq a b && eqs r q
 | _,_=>false
end
mutual
theorem D.eq_iff:∀ a b:D,D.eq a b=true↔a=b
 | .non,b=>by cases b <;> simp [D.eq]
 | .bl a,b=>by cases b <;> simp [D.eq]
 | .int a,b=>by cases b <;> simp [D.eq]
 | .str a,b=>by cases b <;> simp [D.eq]
 | .obj a,b=>by cases b <;> simp [D.eq]
 | .tup a,b=>by
   cases b with
   | tup b=>simp [D.eq,zmB a b]
   | _=>simp [D.eq]
theorem zmB:∀ a b:List D,eqs a b=true↔a=b
 | [],b=>by cases b <;> simp [eqs]
 | x :: r,b=>by
   cases b with
   | nil=>simp [eqs]
   | cons y q=>simp [eqs,D.eq_iff x y,zmB r q]
end
instance:DecidableEq D:=fun a b=>decidable_of_iff _ (D.eq_iff a b)
mutual
noncomputable def D.nr:D->Bool
 | .obj _=>false
 | .tup ds=>nrs ds
 | _=>true
noncomputable def nrs:List D->Bool
 | []=>true
 | d :: r=>d.nr && nrs r
end
inductive O where
 | lst (xs:List D) | scr (xs:List D) | dic (kvs:List (Int×D)) | hole | set (xs:List Int) | ins (c:Nat) (fs:List (Nat×D))
deriving Inhabited,DecidableEq
noncomputable def O.flat:O->Bool
 | .lst xs=>nrs xs
 | .scr _=>false
 | .dic kvs=>nrs (kvs.map (·.2))
 | .hole=>false
 | .set _=>true
 | .ins _ _=>false
noncomputable abbrev zr:=List (Option D)
noncomputable abbrev MH:=List O
inductive R (α:Type) where
 | ok (a:α) (h:MH) | ex (c:Nat) (h:MH) | bad
noncomputable abbrev ME (α:Type):=zr->MH->R α
inductive RS where
 | nx (e:zr) (h:MH) | rt (v:D) (h:MH) | bk (e:zr) (h:MH) | ct (e:zr) (h:MH) | ex (c:Nat) (h:MH) | bad
noncomputable abbrev MS:=zr->MH->RS
noncomputable abbrev MF:=List D->MH->R D
section
variable {α β:Type}
noncomputable def zb (a:α):ME α:=fun _ h=> .ok a h
noncomputable def zG:ME α:=fun _ _=> .bad
noncomputable def zl (m:ME α) (k:α->ME β):ME β:=fun e h=>match m e h with
 | .ok a h1=>k a e h1
 | .ex c h1=> .ex c h1
 | .bad=> .bad
end
noncomputable def var (i:Nat):ME D:=fun e h=>match e[i]? with
 | some (some d)=> .ok d h
 | _=> .bad
noncomputable def un (f:D->ME D) (a:ME D):ME D:=zl a f
noncomputable def bin (f:D->D->ME D) (a b:ME D):ME D:=zl a fun x=>zl b fun y=>f x y
noncomputable def zgC (o:O):ME D:=fun _ h=> .ok (.obj h.length) (h++[o])
noncomputable def O.items:O->Option (List D)
 | .lst xs=>some xs
 | .scr xs=>some xs
 | _=>none
noncomputable def zbZ (n:Nat):ME (List D):=fun _ h=>match h[n]? with
 | some (.lst xs)=> .ok xs h
 | _=> .bad
noncomputable def zce:D->ME D
 | .int i=>zb (.int (-i))
 | _=>zG
noncomputable def zI:D->D->ME D
 | .int i,.int j=>zb (.int (i+j))
 | _,_=>zG
noncomputable def z6:D->D->ME D
 | .int i,.int j=>zb (.int (i - j))
 | _,_=>zG
noncomputable def zb8 (i:Int):Bool:=decide (-18446744073709551616 < i) && decide (i < 18446744073709551616)
noncomputable def zbD:D->D->ME D
 | .int i,.int j=>if zb8 i || zb8 j then zb (.int (i * j)) else zG
 | _,_=>zG
noncomputable def zcV:D->D->ME D
 | .int i,.int j=>if 0 < j∧j < 1073741824 then zb (.int (i / j)) else zG
 | _,_=>zG
noncomputable def zbl:D->D->ME D
 | .int i,.int j=>if 0 < j then zb (.int (i % j)) else zG
 | _,_=>zG
noncomputable def zg9 (p:Int->Int->Bool):D->D->ME D
 | .int i,.int j=>zb (.bl (p i j))
 | _,_=>zG
noncomputable def ltV:=zg9 fun i j=>decide (i < j)
noncomputable def leV:=zg9 fun i j=>decide (i<=j)
noncomputable def gtV:=zg9 fun i j=>decide (j < i)
noncomputable def geV:=zg9 fun i j=>decide (j<=i)
mutual
noncomputable def peq:D->D->Bool
 | .non,.non=>true
 | .bl a,.bl b=>a == b
 | .bl a,.int b=>(if a then 1 else 0) == b
 | .int a,.bl b=>a == (if b then 1 else 0)
 | .int a,.int b=>a == b
 | .str a,.str b=>a == b
 | .tup a,.tup b=>zbC a b
 | _,_=>false
noncomputable def zbC:List D->List D->Bool
 | [],[]=>true
 | a :: r,b :: q=>peq a b && zbC r q
 | _,_=>false
end
noncomputable def D.pl:Nat->D->Bool
 | _,.obj _=>false
 | 0,.tup _=>false
 | n+1,.tup ds=>ds.all (D.pl n)
 | _,_=>true
inductive Cmp where
 | d (x:D) | l (xs:List D)
noncomputable def zbE (h:MH):D->Option Cmp
 | .obj n=>match h[n]? with
   | some (.lst xs)=>if xs.all (D.pl 5) then some (.l xs) else none
   | _=>none
 | x=>if x.pl 5 then some (.d x) else none
noncomputable def Cmp.eq:Cmp->Cmp->Bool
 | .d x,.d y=>peq x y
 | .l x,.l y=>zbC x y
 | _,_=>false
noncomputable def eqV (x y:D):ME D:=fun _ h=>match zbE h x,zbE h y with
 | some a,some b=> .ok (.bl (a.eq b)) h
 | _,_=> .bad
noncomputable def neV (x y:D):ME D:=fun _ h=>match zbE h x,zbE h y with
 | some a,some b=> .ok (.bl (!a.eq b)) h
 | _,_=> .bad
noncomputable def zby:D->Bool
 | .non=>true
 | .bl _=>true
 | .int _=>true
 | .str _=>true
 | _=>false
noncomputable def look (k:Int):List (Int×D)->Option D
 | []=>none
 | p :: r=>if p.1=k then some p.2 else look k r
noncomputable def zcr (k:Int) (v:D) (kvs:List (Int×D)):List (Int×D) :=
 if (kvs.any fun p=>decide (p.1=k))=true then kvs.map (fun p=>if p.1=k then (p.1,v) else p) else kvs++[(k,v)]
noncomputable def inB (x:D) (xs:List D):Bool:=xs.any fun y=>peq y x
noncomputable def inV (x y:D):ME D:=fun _ h=>match y with
 | .tup ds=>if zby x && ds.all zby then .ok (.bl (inB x ds)) h else .bad
 | .obj n=>match h[n]? with
   | some (.lst xs)=>if zby x && xs.all zby then .ok (.bl (inB x xs)) h else .bad
   | some (.scr xs)=>if zby x && xs.all zby then .ok (.bl (inB x xs)) h else .bad
   | some (.dic kvs)=>match x with
     | .int k=> .ok (.bl (look k kvs).isSome) h
     | _=> .bad
   | _=> .bad
 | _=> .bad
noncomputable def zbL (x y:D):ME D:=zl (inV x y) fun b=>match b with
 | .bl b=>zb (.bl !b)
 | _=>zG
noncomputable def isN:D->D->ME D
 | x,.non=>zb (.bl (decide (x = .non)))
 | .bl a,.bl b=>zb (.bl (a == b))
 | _,_=>zG
noncomputable def zdP (x y:D):ME D:=zl (isN x y) fun b=>match b with
 | .bl b=>zb (.bl !b)
 | _=>zG
noncomputable def ze1:D->ME D
 | .bl b=>zb (.bl !b)
 | _=>zG
noncomputable def zcl (a b:ME D):ME D:=zl a fun x=>match x with
 | .bl true=>b
 | .bl false=>zb (.bl false)
 | _=>zG
noncomputable def orV (a b:ME D):ME D:=zl a fun x=>match x with
 | .bl true=>zb (.bl true)
 | .bl false=>b
 | _=>zG
noncomputable def zdA (f g:D->D->ME D) (a b c:ME D):ME D:=zl a fun x=>zl b fun y=>zl (f x y) fun t=>match t with
 | .bl true=>zl c fun z=>g y z
 | .bl false=>zb (.bl false)
 | _=>zG
noncomputable def tst (m:ME D):ME Bool:=zl m fun x=>match x with
 | .bl b=>zb b
 | _=>zG
noncomputable def zeS (x:D):ME Bool:=fun _ h=>match x with
 | .non=> .ok false h
 | .bl b=> .ok b h
 | .int i=> .ok (i != 0) h
 | .tup ds=> .ok (!ds.isEmpty) h
 | .obj n=>match h[n]? with
   | some (.lst xs)=> .ok (!xs.isEmpty) h
   | some (.scr xs)=> .ok (!xs.isEmpty) h
   | some (.dic kvs)=> .ok (!kvs.isEmpty) h
   | _=> .bad
 | _=> .bad
noncomputable def tru (m:ME D):ME Bool:=zl m zeS
noncomputable def zbt (a b:ME Bool):ME Bool:=zl a fun c=>if c=true then b else zb false
noncomputable def orT (a b:ME Bool):ME Bool:=zl a fun c=>if c=true then zb true else b
noncomputable def zS (a:ME Bool):ME Bool:=zl a fun c=>zb !c
noncomputable def ifE (t:ME Bool) (a b:ME D):ME D:=zl t fun c=>if c=true then a else b
noncomputable def ze:ME (List D):=zb []
noncomputable def za (a:ME D) (r:ME (List D)):ME (List D):=zl a fun x=>zl r fun xs=>zb (x :: xs)
noncomputable def zJ (r:ME (List D)):ME D:=zl r fun xs=>if xs.length<=1000 then zb (.tup xs) else zG
noncomputable def zbA (r:ME (List D)):ME (List D):=zl r fun xs=>if xs.length<=1000 then zb xs else zG
noncomputable def zM (r:ME (List D)):ME D:=zl r fun xs=>zgC (.lst xs)
noncomputable def zdl (a:ME D):ME (List D):=zl a fun x=>match x with
 | .obj n=>zbZ n
 | _=>zG
noncomputable def zbF (a:ME D):ME (List D):=zl a fun x=>fun _ h=>match x with
 | .obj n=>(match h[n]? with
   | some (.lst xs)=> .ok xs h
   | some (.scr xs)=> .ok xs h
   | _=> .bad)
 | .tup ds=> .ok ds h
 | _=> .bad
noncomputable def ixN (n:Nat) (i:Int):Option Nat:=if 0<=i then (if i < n then some i.toNat else none) else if -(n:Int)<=i then some (i+n).toNat else none
noncomputable def atI {α:Type} (xs:List α) (i:Int):Option α:=(ixN xs.length i).bind fun j=>xs[j]?
noncomputable def zj (x i:D):ME D:=fun _ h=>match x,i with
 | .tup ds,.int i=>match atI ds i with
   | some d=> .ok d h
   | none=> .bad
 | .obj n,.int i=>match h[n]? with
   | some (.lst xs)=>(match atI xs i with
     | some d=> .ok d h
     | none=> .bad)
   | some (.scr xs)=>(match atI xs i with
     | some d=> .ok d h
     | none=> .bad)
   | some (.dic kvs)=>(match look i kvs with
     | some d=> .ok d h
     | none=> .bad)
   | _=> .bad
 | _,_=> .bad
noncomputable def sIx (n d:Nat):Option Int->Nat
 | none=>d
 | some v=>(if v < 0 then max (v+n) 0 else min v n).toNat
noncomputable def cut {α:Type} (xs:List α) (lo hi:Option Int):List α:=(xs.drop (sIx xs.length 0 lo)).take (sIx xs.length xs.length hi - sIx xs.length 0 lo)
noncomputable def noP:ME (Option Int):=zb none
noncomputable def zcE (a:ME D):ME (Option Int):=zl a fun x=>match x with
 | .int i=>zb (some i)
 | _=>zG
noncomputable def zdX (a:ME D) (lo hi:ME (Option Int)):ME (List D):=zl a fun x=>zl lo fun l=>zl hi fun u=>match x with
 | .obj n=>zl (zbZ n) fun xs=>zb (cut xs l u)
 | _=>zG
noncomputable def zeb (a:ME D) (lo hi:ME (Option Int)):ME D:=zl a fun x=>zl lo fun l=>zl hi fun u=>match x with
 | .tup ds=>if (cut ds l u).length < ds.length then zb (.tup (cut ds l u)) else zG
 | _=>zG
noncomputable def zen (a:ME D):ME D:=zl a fun x=>match x with
 | .tup [p,q,_]=>zb (.tup [q,p])
 | _=>zG
noncomputable def zca:List D->Option (List Bool)
 | []=>some []
 | .bl b :: r=>(zca r).map (b :: ·)
 | _ :: _=>none
noncomputable def zbO:List D->Option (List Int)
 | []=>some []
 | .int b :: r=>(zbO r).map (b :: ·)
 | _ :: _=>none
noncomputable def zgp (l:ME (List D)):ME D:=zl l fun xs=>match zca xs with
 | some bs=>zb (.bl (bs.all id))
 | none=>zG
noncomputable def zeX (l:ME (List D)):ME D:=zl l fun xs=>match zca xs with
 | some bs=>zb (.bl (bs.any id))
 | none=>zG
noncomputable def zir (l:ME (List D)):ME D:=zl l fun xs=>match zbO xs with
 | some ns=>zb (.int ns.sum)
 | none=>zG
noncomputable def zbJ (l:ME (List D)):ME D:=zl l fun xs=>zb (.int xs.length)
noncomputable def zbd:List Int->List Int->List Int
 | _,[]=>[]
 | seen,x :: r=>if x∈seen then zbd seen r else x :: zbd (x :: seen) r
noncomputable def zhp (l:ME (List D)):ME D:=zl l fun xs=>match zbO xs with
 | some ns=>if ns.length < 4000 then zb (.int (zbd [] ns).length) else zG
 | none=>zG
noncomputable def zbV (x:Int):List Int->List Int
 | []=>[x]
 | y :: r=>if x<=y then x :: y :: r else y :: zbV x r
noncomputable def sortI (l:List Int):List Int:=l.foldr zbV []
noncomputable def zxI (l:ME (List D)):ME (List D):=zl l fun xs=>match zbO xs with
 | some ns=>if ns.length < 64 then zb ((sortI ns).map .int) else zG
 | none=>zG
noncomputable def zyD (l:ME (List D)):ME (List D):=zl l fun xs=>match zbO xs with
 | some ns=>if ns.length < 64 then zb ((sortI (zbd [] ns)).map .int) else zG
 | none=>zG
noncomputable def zxr (a:ME D):ME (List D):=zl a fun x=>fun _ h=>match x with
 | .obj n=>match h[n]? with
   | some (.dic kvs)=>if kvs.length < 64 then .ok ((sortI (kvs.map (·.1))).map .int) h else .bad
   | _=> .bad
 | _=> .bad
noncomputable def zdV (a:ME D):ME D:=zl a fun x=>match x with
 | .int i=>zb (.int (if i < 0 then -i else i))
 | _=>zG
noncomputable def zyi (a:ME D):ME D:=zl a fun x=>match x with
 | .int i=>zb (.int i)
 | .bl b=>zb (.int (if b then 1 else 0))
 | _=>zG
noncomputable def zyB (a n:ME D):ME (List D):=zl a fun x=>zl n fun k=>match x,k with
 | .obj m,.int k=>zl (zbZ m) fun xs=>if -1000000<=k∧k<=1000000∧xs.length * k.toNat<=1000000 then zb (List.replicate k.toNat xs).flatten else zG
 | _,_=>zG
noncomputable def zdS (a:ME D) (b:ME (List D)):ME (List D):=zl a fun x=>zl b fun ys=>match x with
 | .obj m=>zl (zbZ m) fun xs=>if xs.length+ys.length<=1000000 then zb (xs++ys) else zG
 | _=>zG
noncomputable def pairsOf:List D->Option (List (Int×D))
 | []=>some []
 | .tup [.int k,v] :: r=>(pairsOf r).map ((k,v) :: ·)
 | _ :: _=>none
noncomputable def zia (l:ME (List D)):ME D:=zl l fun xs=>match pairsOf xs with
 | some ps=>if ps.length<=1000000 then zgC (.dic (ps.foldl (fun a p=>zcr p.1 p.2 a) [])) else zG
 | none=>zG
noncomputable def zka:ME D:=zgC (.dic [])
noncomputable def ziU (a:ME D):ME (List D):=zl a fun x=>match x with
 | .int i=>if -1000000<=i∧i<=1000000 then zb ((List.range i.toNat).map fun (k:Nat)=>D.int k) else zG
 | _=>zG
inductive Ty where
 | int | bool | str | list | tuple | dict
deriving DecidableEq
noncomputable def zbQ (h:MH) (t:Ty):D->Option Bool
 | .non=>some false
 | .bl _=>some (t == .bool || t == .int)
 | .int _=>some (t == .int)
 | .str _=>some (t == .str)
 | .tup _=>some (t == .tuple)
 | .obj n=>match h[n]? with
   | some (.lst _)=>some (t == .list)
   | some (.dic _)=>some (t == .dict)
   | _=>none
noncomputable def zbG (t:Ty) (a:ME D):ME D:=zl a fun x=>fun _ h=>match zbQ h t x with
 | some b=> .ok (.bl b) h
 | none=> .bad
noncomputable def zZ (sub:Nat->Nat->Bool) (c:Nat) (a:ME D):ME D:=zl a fun x=>fun _ h=>match x with
 | .obj n=>match h[n]? with
   | some (.ins c' _)=> .ok (.bl (sub c' c)) h
   | _=> .bad
 | _=> .bad
noncomputable def fld (k:Nat) (a:ME D):ME D:=zl a fun x=>fun _ h=>match x with
 | .obj n=>match h[n]? with
   | some (.ins _ fs)=>(match fs.lookup k with
     | some d=> .ok d h
     | none=> .bad)
   | _=> .bad
 | _=> .bad
noncomputable def zem (k:Nat) (v:D):List (Nat×D)->List (Nat×D)
 | []=>[(k,v)]
 | p :: r=>if p.1=k then (k,v) :: r else p :: zem k v r
noncomputable def isL (x:D):ME Unit:=fun _ h=>match x with
 | .obj n=>(match h[n]? with
   | some (.lst _)=> .ok () h
   | _=> .bad)
 | _=> .bad
noncomputable def zbf (a v:ME D):ME D:=zl a fun x=>zl (isL x) fun _=>zl v fun y=>fun _ h=>match x with
 | .obj n=>match h[n]? with
   | some (.lst xs)=>if xs.length < 1000000 then .ok .non (h.set n (.lst (xs++[y]))) else .bad
   | _=> .bad
 | _=> .bad
noncomputable def zxg (a:ME D):ME D:=zl a fun x=>fun _ h=>match x with
 | .obj n=>match h[n]? with
   | some (.lst xs)=>(match xs[xs.length - 1]? with
     | some y=> .ok y (h.set n (.lst xs.dropLast))
     | none=> .bad)
   | _=> .bad
 | _=> .bad
noncomputable def ziI (a:ME D):ME D:=zl a fun x=>fun _ h=>match x with
 | .obj n=>match h[n]? with
   | some (.lst xs)=> .ok .non (h.set n (.lst xs.reverse))
   | _=> .bad
 | _=> .bad
noncomputable def zyY (a:ME D):ME D:=zl a fun x=>fun _ h=>match x with
 | .obj n=>match h[n]? with
   | some (.lst xs)=> .ok .non (h.set n (.lst []))
   | _=> .bad
 | _=> .bad
noncomputable def zxP (a b:ME D):ME D:=zl a fun x=>zl (isL x) fun _=>zl b fun y=>fun _ h=>match x,y with
 | .obj n,.obj m=>match h[n]?,h[m]? with
   | some (.lst xs),some (.lst ys)=>if xs.length+ys.length<=1000000 then .ok .non (h.set n (.lst (xs++ys))) else .bad
   | _,_=> .bad
 | _,_=> .bad
noncomputable def zdZ (h1 h2:MH):Bool:=(List.range h1.length).all fun i=>decide (h2[i]?=h1[i]?) || (match h2[i]? with
 | some o=>o.flat
 | none=>false)
noncomputable def zcc (n b:Nat) (h2:MH):List D->List Nat->Option (List D×List Nat)
 | [],ms=>some ([],ms)
 | .obj m :: r,ms=>if m < n then (zcc n b h2 r ms).map fun p=>(.obj m :: p.1,p.2)
   else if m∈ms then none else match h2[m]? with
     | some o=>if o.flat=true then (zcc n b h2 r (ms++[m])).map fun p=>(.obj (b+ms.length) :: p.1,p.2) else none
     | none=>none
 | d :: r,ms=>if d.nr=true then (zcc n b h2 r ms).map fun p=>(d :: p.1,p.2) else none
noncomputable def gcV (n:Nat) (v:D) (h2:MH):D×MH:=match v with
 | .obj m=>if m < n then (v,h2.take n) else match h2[m]? with
   | some (.ins c fs)=>(match zcc n (n+1) h2 (fs.map (·.2)) [] with
     | some (ds,ms)=>(.obj n,h2.take n ++ .ins c ((fs.map (·.1)).zip ds) :: ms.map fun k=>h2.getD k (.lst []))
     | none=>(v,h2))
   | some o=>if o.flat=true then (.obj n,h2.take n++[o]) else (v,h2)
   | none=>(v,h2)
 | .tup ds=>(match zcc n n h2 ds [] with
   | some (ds',ms)=>(.tup ds',h2.take n++ms.map fun k=>h2.getD k (.lst []))
   | none=>(v,h2))
 | _=>(v,h2.take n)
noncomputable def gc (h1:MH):R D->R D
 | .ok v h2=>if zdZ h1 h2=true then .ok (gcV h1.length v h2).1 (gcV h1.length v h2).2 else .ok v h2
 | r=>r
noncomputable def app (f:MF) (ds:List D) (h:MH):R D:=gc h (f ds h)
noncomputable def zi (f:MF) (args:ME (List D)):ME D:=zl args fun ds=>fun _ h=>app f ds h
noncomputable def mkF (c:Nat) (f:MF):MF:=fun ds h=>match f (.obj h.length :: ds) (h++[.ins c []]) with
 | .ok .non h2=> .ok (.obj h.length) h2
 | .ok _ _=> .bad
 | .ex c h2=> .ex c h2
 | .bad=> .bad
noncomputable def zbh (tbl:List (Nat×MF)) (o:ME D) (args:ME (List D)):ME D:=zl o fun x=>fun e h=>match x with
 | .obj n=>match h[n]? with
   | some (.ins c _)=>(match tbl.lookup c with
     | some f=>zl args (fun ds=>fun _ h=>app f (x :: ds) h) e h
     | none=> .bad)
   | _=> .bad
 | _=> .bad
noncomputable def zcv {α:Type} (m:ME α) (k:α->MS):MS:=fun e h=>match m e h with
 | .ok a h1=>k a e h1
 | .ex c h1=> .ex c h1
 | .bad=> .bad
noncomputable def zu:MS:=fun e h=> .nx e h
noncomputable def ze3:MS:=fun _ _=> .bad
noncomputable def zh (a b:MS):MS:=fun e h=>match a e h with
 | .nx e1 h1=>b e1 h1
 | r=>r
noncomputable def ifS (t:ME Bool) (a b:MS):MS:=zcv t fun c=>if c=true then a else b
noncomputable def zY (m:ME D):MS:=zcv m fun _=>zu
noncomputable def zp (m:ME D):MS:=zcv m fun v _ h=> .rt v h
noncomputable def zym:MS:=fun e h=> .bk e h
noncomputable def zxu:MS:=fun e h=> .ct e h
inductive Tg where
 | nm (i:Nat) | tp (l:List Nat)
noncomputable def zdC:List Nat->List D->zr->Option zr
 | [],[],e=>some e
 | i :: r,x :: xs,e=>zdC r xs (e.set i (some x))
 | _,_,_=>none
noncomputable def zda:Tg->D->zr->Option zr
 | .nm i,x,e=>some (e.set i (some x))
 | .tp l,.tup ds,e=>zdC l ds e
 | .tp _,_,_=>none
noncomputable def zhG (t:Tg) (v:D):MS:=fun e h=>match zda t v e with
 | some e1=> .nx e1 h
 | none=> .bad
noncomputable def zm (t:Tg) (m:ME D):MS:=zcv m (zhG t)
noncomputable def zik (l:List Nat) (m:ME (List D)):MS:=zcv m fun vs e h=>match zdC l vs e with
 | some e1=> .nx e1 h
 | none=> .bad
noncomputable def zgF (f:D->D->ME D) (i:Nat) (m:ME D):MS:=zm (.nm i) (zl (var i) fun x=>zl m fun y=>f x y)
noncomputable def zeP (att:Nat->Nat->Bool) (k:Nat) (o v:ME D):MS:=zcv v fun y=>zcv o fun x=>fun e h=>match x with
 | .obj n=>(match h[n]? with
   | some (.ins c fs)=>if att c k && decide (fs.length < 100) then .nx e (h.set n (.ins c (zem k y fs))) else .bad
   | _=> .bad)
 | _=> .bad
noncomputable def zfq (o i v:ME D):MS:=zcv v fun y=>zcv o fun x=>zcv i fun z=>fun e h=>match x,z with
 | .obj n,.int k=>(match h[n]? with
   | some (.lst xs)=>(match ixN xs.length k with
     | some j=> .nx e (h.set n (.lst (xs.set j y)))
     | none=> .bad)
   | some (.dic kvs)=>if kvs.length < 1000000 then .nx e (h.set n (.dic (zcr k y kvs))) else .bad
   | _=> .bad)
 | _,_=> .bad
noncomputable abbrev Src:=List D×List (Nat×O)
noncomputable def guard (gs:List (Nat×O)) (h:MH):Bool:=gs.all fun p=>decide (h[p.1]?=some p.2)
noncomputable def zjO (n:Nat) (f:List D->List D):ME Src:=fun _ h=>match h[n]? with
 | some (.lst xs)=> .ok (f xs,[(n,.lst xs)]) h
 | _=> .bad
noncomputable def zlO (k:Nat):List D->List D
 | []=>[]
 | x :: r=> .tup [.int k,x] :: zlO (k+1) r
noncomputable def zcD:List D->List D->List D
 | x :: r,y :: q=> .tup [x,y] :: zcD r q
 | _,_=>[]
noncomputable def itL (a:ME D):ME Src:=zl a fun x=>match x with
 | .obj n=>zjO n id
 | _=>zG
noncomputable def itT (a:ME D):ME Src:=zl a fun x=>match x with
 | .tup ds=>zb (ds,[])
 | _=>zG
noncomputable def itR (a:ME D):ME Src:=zl a fun x=>match x with
 | .int i=>if -1000000<=i∧i<=1000000 then zb ((List.range i.toNat).map fun (k:Nat)=>D.int k,[]) else zG
 | _=>zG
noncomputable def itE (a:ME D):ME Src:=zl a fun x=>match x with
 | .obj n=>zjO n (zlO 0)
 | _=>zG
noncomputable def itZ (a b:ME D):ME Src:=zl a fun x=>zl b fun y=>match x,y with
 | .obj n,.obj m=>fun _ h=>(match h[n]?,h[m]? with
   | some (.lst xs),some (.lst ys)=> .ok (zcD xs ys,[(n,.lst xs),(m,.lst ys)]) h
   | _,_=> .bad)
 | _,_=>zG
noncomputable def zeM (r:RS) (k:MS):RS:=match r with
 | .nx e h=>k e h
 | .ct e h=>k e h
 | .bk e h=> .nx e h
 | r=>r
noncomputable def zc2 (t:Tg) (gs:List (Nat×O)) (body:MS):List D->MS
 | [],e,h=>if guard gs h=true then .nx e h else .bad
 | x :: xs,e,h=>if guard gs h=true then (match zda t x e with
     | none=> .bad
     | some e1=>zeM (body e1 h) (zc2 t gs body xs)) else .bad
noncomputable def zcY (t:Tg) (src:ME Src) (body:MS):MS:=zcv src fun p=>zc2 t p.2 body p.1
noncomputable def zxY (kvs:List (Int×D)):List D:=kvs.map fun p=> .tup [.int p.1,p.2]
noncomputable def zy7 (kvs:List (Int×D)):List D:=kvs.map (·.2)
noncomputable def zs3 (n:Nat) (kvs:List (Int×D)):RS->RS
 | .nx e h=>if h[n]?=some .hole then .nx e (h.set n (.dic kvs)) else .bad
 | .bk e h=>if h[n]?=some .hole then .bk e (h.set n (.dic kvs)) else .bad
 | .ct e h=>if h[n]?=some .hole then .ct e (h.set n (.dic kvs)) else .bad
 | .rt v h=>if h[n]?=some .hole then .rt v (h.set n (.dic kvs)) else .bad
 | .ex _ _=> .bad
 | .bad=> .bad
noncomputable def zuI {α:Type} (n:Nat) (kvs:List (Int×D)):R α->R α
 | .ok a h=>if h[n]?=some .hole then .ok a (h.set n (.dic kvs)) else .bad
 | .ex _ _=> .bad
 | .bad=> .bad
noncomputable def zxo (pr:List (Int×D)->List D) (t:Tg) (a:ME D) (body:MS):MS:=zcv a fun x=>fun e h=>match x with
 | .obj n=>(match h[n]? with
   | some (.dic kvs)=>zs3 n kvs (zc2 t [] body (pr kvs) e (h.set n .hole))
   | _=> .bad)
 | _=> .bad
noncomputable def ze2 (t:ME Bool) (body:MS):Nat->MS
 | 0=>ze3
 | n+1=>zcv t fun c=>if c=true then (fun e h=>zeM (body e h) (ze2 t body n)) else zu
noncomputable def zhs (t:ME Bool) (body:MS):MS:=ze2 t body 1000000
noncomputable def zbH (js:List (Option Nat)) (e:zr):zr:=js.map fun j=>j.bind fun k=>(e[k]?).join
noncomputable def zcm (t:Tg) (gs:List (Nat×O)) (cond:ME Bool) (elt:ME D):List D->List D->ME (List D)
 | [],acc,e,h=>if guard gs h=true then .ok acc h else .bad
 | x :: xs,acc,e,h=>if guard gs h=true then (match zda t x e with
     | none=> .bad
     | some e1=>zl cond (fun c=>if c=true then zl elt (fun y=>zcm t gs cond elt xs (acc++[y])) else zcm t gs cond elt xs acc) e1 h) else .bad
noncomputable def zbP:ME Bool:=zb true
noncomputable def zbR (js:List (Option Nat)) (t:Tg) (src:ME Src) (cond:ME Bool) (elt:ME D):ME (List D):=zl src fun p=>fun e h=>if p.1.length<=1000000 then zcm t p.2 cond elt p.1 [] (zbH js e) h else .bad
noncomputable def zy1 (pr:List (Int×D)->List D) (js:List (Option Nat)) (t:Tg) (a:ME D) (cond:ME Bool) (elt:ME D):ME (List D):=zl a fun x=>fun e h=>match x with
 | .obj n=>(match h[n]? with
   | some (.dic kvs)=>if (pr kvs).length<=1000000 then zuI n kvs (zcm t [] cond elt (pr kvs) [] (zbH js e) (h.set n .hole)) else .bad
   | _=> .bad)
 | _=> .bad
noncomputable def zP (np nl:Nat) (body:MS):MF:=fun ds h=>if ds.length=np then (match body (ds.map some++List.replicate (nl - np) none) h with
 | .nx _ h1=> .ok .non h1
 | .rt v h1=> .ok v h1
 | .ex c h1=> .ex c h1
 | _=> .bad) else .bad
end MI
end
section
namespace MI
open PySem (Str)
noncomputable def zD {α β:Type} (r:R α) (f:α->MH->R β):R β:=match r with
 | .ok a h=>f a h
 | .ex c h=> .ex c h
 | .bad=> .bad
noncomputable def zcA {α:Type} (r:R α) (f:α->MH->RS):RS:=match r with
 | .ok a h=>f a h
 | .ex c h=> .ex c h
 | .bad=> .bad
noncomputable def zfB (r:RS) (f:zr->MH->RS):RS:=match r with
 | .nx e h=>f e h
 | r=>r
noncomputable def zhd (r:RS):R D:=match r with
 | .nx _ h1=> .ok .non h1
 | .rt v h1=> .ok v h1
 | .ex c h1=> .ex c h1
 | _=> .bad
section
variable {α β:Type}{e e1:zr}{h h1:MH}{x y z d v:D}{i j:Int}{n m k:Nat}
@[simp] theorem zu3 (a:α) (f:α->MH->R β):zD (.ok a h) f=f a h:=rfl
@[simp] theorem zys (f:α->MH->R β):zD (.bad) f = .bad:=rfl
@[simp] theorem znd (a:α) (f:α->MH->RS):zcA (.ok a h) f=f a h:=rfl
@[simp] theorem zxt (f:α->MH->RS):zcA (.bad) f = .bad:=rfl
@[simp] theorem zbv (f:zr->MH->RS):zfB (.nx e h) f=f e h:=rfl
@[simp] theorem zyH (f:zr->MH->RS):zfB (.rt v h) f = .rt v h:=rfl
@[simp] theorem zxB (f:zr->MH->RS):zfB (.bk e h) f = .bk e h:=rfl
@[simp] theorem zxn (f:zr->MH->RS):zfB (.ct e h) f = .ct e h:=rfl
@[simp] theorem zyS (f:zr->MH->RS):zfB .bad f = .bad:=rfl
@[simp] theorem zyr:zhd (.nx e h) = .ok .non h:=rfl
@[simp] theorem zyJ:zhd (.rt v h) = .ok v h:=rfl
@[simp] theorem zxq:zhd .bad = .bad:=rfl
@[simp] theorem zuK (f:MS):zeM (.nx e h) f=f e h:=rfl
@[simp] theorem zyt (f:MS):zeM (.ct e h) f=f e h:=rfl
@[simp] theorem zyU (f:MS):zeM (.rt v h) f = .rt v h:=rfl
@[simp] theorem zx6 (f:MS):zeM .bad f = .bad:=rfl
@[simp] theorem zO (a:ME α) (f:α->ME β):zl a f e h=zD (a e h) fun x h1=>f x e h1:=by unfold zl zD;cases a e h <;> rfl
@[simp] theorem zeg (a:ME α) (f:α->MS):zcv a f e h=zcA (a e h) fun x h1=>f x e h1:=by unfold zcv zcA;cases a e h <;> rfl
@[simp] theorem zbx (a b:MS):zh a b e h=zfB (a e h) b:=by unfold zh zfB;cases a e h <;> rfl
@[simp] theorem zkf (np nl:Nat) (b:MS) (ds:List D):zP np nl b ds h=if ds.length=np then zhd (b (ds.map some++List.replicate (nl - np) none) h) else .bad:=by
 unfold zP zhd
 split
 . cases b (ds.map some++List.replicate (nl - np) none) h <;> rfl
 . rfl
@[simp] theorem zw8 (a:α):zb a e h = .ok a h:=rfl
@[simp] theorem zyb:(zG:ME α) e h = .bad:=rfl
@[simp] theorem zxO:var n e h=match e[n]? with
 | some (some d)=> .ok d h
 | _=> .bad:=rfl
@[simp] theorem zw6 (f:D->ME D) (a:ME D):un f a e h=zD (a e h) fun x h1=>f x e h1:=zO _ _
@[simp] theorem zw7 (f:D->D->ME D) (a b:ME D):MI.bin f a b e h=zD (a e h) fun x h1=>zD (b e h1) fun y h2=>f x y e h2:=by unfold MI.bin;simp
@[simp] theorem zxD (o:O):zgC o e h = .ok (.obj h.length) (h++[o]):=rfl
@[simp] theorem zxT:zce (.int i) e h = .ok (.int (-i)) h:=rfl
@[simp] theorem zxZ:zI (.int i) (.int j) e h = .ok (.int (i+j)) h:=rfl
@[simp] theorem zxJ:z6 (.int i) (.int j) e h = .ok (.int (i - j)) h:=rfl
@[simp] theorem zyh:zcV (.int i) (.int j) e h=if 0 < j∧j < 1073741824 then .ok (.int (i / j)) h else .bad:=by simp only [zcV];split <;> rfl
@[simp] theorem zy6:zbl (.int i) (.int j) e h=if 0 < j then .ok (.int (i % j)) h else .bad:=by simp only [zbl];split <;> rfl
@[simp] theorem zk2:zbD (.int i) (.int j) e h=if (zb8 i || zb8 j)=true then .ok (.int (i * j)) h else .bad:=by simp only [zbD];split <;> rfl
@[simp] theorem zxf:ltV (.int i) (.int j) e h = .ok (.bl (decide (i < j))) h:=rfl
@[simp] theorem zxQ:leV (.int i) (.int j) e h = .ok (.bl (decide (i<=j))) h:=rfl
@[simp] theorem zyq:gtV (.int i) (.int j) e h = .ok (.bl (decide (j < i))) h:=rfl
@[simp] theorem zwW:geV (.int i) (.int j) e h = .ok (.bl (decide (j<=i))) h:=rfl
@[simp] theorem zxd:eqV (.int i) (.int j) e h = .ok (.bl (decide (i=j))) h:=by simp only [eqV,zbE,D.pl,if_pos,Cmp.eq,peq,Bool.beq_eq_decide_eq]
@[simp] theorem zw0:neV (.int i) (.int j) e h = .ok (.bl (!decide (i=j))) h:=by simp only [neV,zbE,D.pl,if_pos,Cmp.eq,peq,Bool.beq_eq_decide_eq]
@[simp] theorem zxm {a b:Bool}:eqV (.bl a) (.bl b) e h = .ok (.bl (a == b)) h:=rfl
@[simp] theorem zxa {a b:Bool}:neV (.bl a) (.bl b) e h = .ok (.bl (!(a == b))) h:=rfl
@[simp] theorem zyK {b:Bool}:ze1 (.bl b) e h = .ok (.bl !b) h:=rfl
@[simp] theorem zxc:isN x .non e h = .ok (.bl (decide (x = .non))) h:=by cases x <;> rfl
@[simp] theorem zx5 {a b:Bool}:isN (.bl a) (.bl b) e h = .ok (.bl (a == b)) h:=rfl
@[simp] theorem zyg:zdP x .non e h = .ok (.bl (!decide (x = .non))) h:=by cases x <;> rfl
@[simp] theorem zwX {a b:Bool}:zdP (.bl a) (.bl b) e h = .ok (.bl (!(a == b))) h:=rfl
noncomputable def zg6 (r:R D) (f:MH->R D):R D:=zD r fun x h1=>match x with
 | .bl true=>f h1
 | .bl false=> .ok (.bl false) h1
 | _=> .bad
noncomputable def orR (r:R D) (f:MH->R D):R D:=zD r fun x h1=>match x with
 | .bl true=> .ok (.bl true) h1
 | .bl false=>f h1
 | _=> .bad
@[simp] theorem zx4 {b:Bool} (f:MH->R D):zg6 (.ok (.bl b) h) f=if b=true then f h else .ok (.bl false) h:=by cases b <;> rfl
@[simp] theorem zxi {b:Bool} (f:MH->R D):orR (.ok (.bl b) h) f=if b=true then .ok (.bl true) h else f h:=by cases b <;> rfl
@[simp] theorem zyT (a b:ME D):zcl a b e h=zg6 (a e h) (b e):=by
 unfold zcl zg6
 rw [zO]
 cases a e h with
 | ok x h1=>cases x <;> first | rfl | (rename_i b;cases b <;> rfl)
 | _=>rfl
@[simp] theorem zw9 (a b:ME D):orV a b e h=orR (a e h) (b e):=by
 unfold orV orR
 rw [zO]
 cases a e h with
 | ok x h1=>cases x <;> first | rfl | (rename_i b;cases b <;> rfl)
 | _=>rfl
@[simp] theorem zy9 (f g:D->D->ME D) (a b c:ME D):zdA f g a b c e h=zD (a e h) fun x h1=>zD (b e h1) fun y h2=>zg6 (f x y e h2) fun h3=>zD (c e h3) fun z h4=>g y z e h4:=by
 unfold zdA
 simp only [zO]
 congr 1;funext x h1;congr 1;funext y h2
 unfold zg6
 congr 1;funext t h3
 cases t <;> first | rfl | (rename_i b;cases b <;> simp)
noncomputable def zjL (r:R D):R Bool:=zD r fun x h1=>match x with
 | .bl b=> .ok b h1
 | _=> .bad
@[simp] theorem zx2 {b:Bool}:zjL (.ok (.bl b) h) = .ok b h:=rfl
@[simp] theorem zx3 (a:ME D):tst a e h=zjL (a e h):=by
 unfold tst zjL
 rw [zO]
 congr 1;funext x h1;cases x <;> rfl
@[simp] theorem zxW (a:ME D):tru a e h=zD (a e h) fun x h1=>zeS x e h1:=by unfold tru;rw [zO]
@[simp] theorem zyV {b:Bool}:zeS (.bl b) e h = .ok b h:=rfl
@[simp] theorem zxl:zeS .non e h = .ok false h:=rfl
@[simp] theorem zxX:zeS (.int i) e h = .ok (i != 0) h:=rfl
@[simp] theorem zyQ (a b:ME Bool):zbt a b e h=zD (a e h) fun c h1=>if c=true then b e h1 else .ok false h1:=by unfold zbt;rw [zO];congr 1;funext c h1;cases c <;> rfl
@[simp] theorem zyw (a b:ME Bool):orT a b e h=zD (a e h) fun c h1=>if c=true then .ok true h1 else b e h1:=by unfold orT;rw [zO];congr 1;funext c h1;cases c <;> rfl
@[simp] theorem zyR (a:ME Bool):zS a e h=zD (a e h) fun c h1=> .ok (!c) h1:=by unfold zS;rw [zO];rfl
@[simp] theorem zx7 (t:ME Bool) (a b:ME D):ifE t a b e h=zD (t e h) fun c h1=>if c=true then a e h1 else b e h1:=by unfold ifE;rw [zO];congr 1;funext c h1;cases c <;> rfl
@[simp] theorem zy4:ze e h = .ok [] h:=rfl
@[simp] theorem zyX (a:ME D) (r:ME (List D)):za a r e h=zD (a e h) fun x h1=>zD (r e h1) fun xs h2=> .ok (x :: xs) h2:=by unfold za;simp
@[simp] theorem zxh (r:ME (List D)):zJ r e h=zD (r e h) fun xs h1=>if xs.length<=1000 then .ok (.tup xs) h1 else .bad:=by unfold zJ;rw [zO];congr 1;funext xs h1;split <;> rfl
@[simp] theorem zxE (r:ME (List D)):zbA r e h=zD (r e h) fun xs h1=>if xs.length<=1000 then .ok xs h1 else .bad:=by unfold zbA;rw [zO];congr 1;funext xs h1;split <;> rfl
@[simp] theorem zxy (r:ME (List D)):zM r e h=zD (r e h) fun xs h1=> .ok (.obj h1.length) (h1++[.lst xs]):=by unfold zM;rw [zO];rfl
@[simp] theorem zxH:zbZ n e h=match h[n]? with
 | some (.lst xs)=> .ok xs h
 | _=> .bad:=rfl
@[simp] theorem zyp (a:ME D):zdl a e h=zD (a e h) fun x h1=>match x with
 | .obj n=>zbZ n e h1
 | _=> .bad:=by unfold zdl;rw [zO];congr 1;funext x h1;cases x <;> rfl
@[simp] theorem zxV (a:ME D):zbF a e h=zD (a e h) fun x h1=>match x with
 | .obj n=>(match h1[n]? with
   | some (.lst xs)=> .ok xs h1
   | some (.scr xs)=> .ok xs h1
   | _=> .bad)
 | .tup ds=> .ok ds h1
 | _=> .bad:=by unfold zbF;rw [zO] <;> congr 1
@[simp] theorem zyl:noP e h = .ok none h:=rfl
@[simp] theorem zy5 (a:ME D):zcE a e h=zD (a e h) fun x h1=>match x with
 | .int i=> .ok (some i) h1
 | _=> .bad:=by unfold zcE;rw [zO];congr 1;funext x h1;cases x <;> rfl
@[simp] theorem zxR (a:ME D) (lo hi:ME (Option Int)):zdX a lo hi e h=zD (a e h) fun x h1=>zD (lo e h1) fun l h2=>zD (hi e h2) fun u h3=>match x with
 | .obj n=>zD (zbZ n e h3) fun xs h4=> .ok (cut xs l u) h4
 | _=> .bad:=by unfold zdX;simp only [zO];congr 1;funext x h1;congr 1;funext l h2;congr 1;funext u h3;cases x <;> simp
@[simp] theorem zwU (a:ME D) (lo hi:ME (Option Int)):zeb a lo hi e h=zD (a e h) fun x h1=>zD (lo e h1) fun l h2=>zD (hi e h2) fun u h3=>match x with
 | .tup ds=>if (cut ds l u).length < ds.length then .ok (.tup (cut ds l u)) h3 else .bad
 | _=> .bad:=by unfold zeb;simp only [zO];congr 1;funext x h1;congr 1;funext l h2;congr 1;funext u h3;cases x <;> first | rfl | (dsimp only;split <;> rfl)
@[simp] theorem zyc (a:ME D):zen a e h=zD (a e h) fun x h1=>match x with
 | .tup [p,q,_]=> .ok (.tup [q,p]) h1
 | _=> .bad:=by unfold zen;rw [zO];congr 1;funext x h1;rcases x with _|_|_|_|l|_ <;> first | rfl | (rcases l with _|⟨a0,_|⟨a1,_|⟨a2,_|⟨a3,l⟩⟩⟩⟩ <;> rfl)
@[simp] theorem zxC (l:ME (List D)):zgp l e h=zD (l e h) fun xs h1=>match zca xs with
 | some bs=> .ok (.bl (bs.all id)) h1
 | none=> .bad:=by unfold zgp;rw [zO];congr 1;funext x h1;cases hh:zca x <;> simp [hh]
@[simp] theorem zyW (l:ME (List D)):zeX l e h=zD (l e h) fun xs h1=>match zca xs with
 | some bs=> .ok (.bl (bs.any id)) h1
 | none=> .bad:=by unfold zeX;rw [zO];congr 1;funext x h1;cases hh:zca x <;> simp [hh]
@[simp] theorem zxG (l:ME (List D)):zir l e h=zD (l e h) fun xs h1=>match zbO xs with
 | some bs=> .ok (.int bs.sum) h1
 | none=> .bad:=by unfold zir;rw [zO];congr 1;funext x h1;cases hh:zbO x <;> simp [hh]
@[simp] theorem zmv (l:ME (List D)):zbJ l e h=zD (l e h) fun xs h1=> .ok (.int xs.length) h1:=by unfold zbJ;rw [zO];rfl
@[simp] theorem zxk (l:ME (List D)):zhp l e h=zD (l e h) fun xs h1=>match zbO xs with
 | some ns=>if ns.length < 4000 then .ok (.int (zbd [] ns).length) h1 else .bad
 | none=> .bad:=by unfold zhp;rw [zO];congr 1;funext x h1;cases hh:zbO x <;> simp [hh];split <;> rfl
@[simp] theorem zyC (a:ME D):zdV a e h=zD (a e h) fun x h1=>match x with
 | .int i=> .ok (.int (if i < 0 then -i else i)) h1
 | _=> .bad:=by unfold zdV;rw [zO];congr 1;funext x h1;cases x <;> rfl
@[simp] theorem zxj (a:ME D) (b:ME (List D)):zdS a b e h=zD (a e h) fun x h1=>zD (b e h1) fun ys h2=>match x with
 | .obj m=>zD (zbZ m e h2) fun xs h3=>if xs.length+ys.length<=1000000 then .ok (xs++ys) h3 else .bad
 | _=> .bad:=by
 unfold zdS;simp only [zO];congr 1;funext x h1;congr 1;funext y h2
 cases x <;> first | rfl | (dsimp only;rw [zO];congr 1;funext xs h3;split <;> rfl)
@[simp] theorem zxK:zka e h = .ok (.obj h.length) (h++[.dic []]):=rfl
@[simp] theorem zyA (a:ME D):ziU a e h=zD (a e h) fun x h1=>match x with
 | .int i=>if -1000000<=i∧i<=1000000 then .ok ((List.range i.toNat).map fun (k:Nat)=>D.int k) h1 else .bad
 | _=> .bad:=by unfold ziU;rw [zO];congr 1;funext x h1;cases x <;> first | rfl | (dsimp only;split <;> rfl)
@[simp] theorem zyo (t:Ty) (a:ME D):zbG t a e h=zD (a e h) fun x h1=>match zbQ h1 t x with
 | some b=> .ok (.bl b) h1
 | none=> .bad:=by unfold zbG;rw [zO] <;> congr 1
@[simp] theorem zyF (s:Nat->Nat->Bool) (a:ME D):zZ s n a e h=zD (a e h) fun x h1=>match x with
 | .obj n'=>match h1[n']? with
   | some (.ins c' _)=> .ok (.bl (s c' n)) h1
   | _=> .bad
 | _=> .bad:=by unfold zZ;rw [zO] <;> congr 1
@[simp] theorem zwZ (a:ME D):fld k a e h=zD (a e h) fun x h1=>match x with
 | .obj n=>match h1[n]? with
   | some (.ins _ fs)=>(match fs.lookup k with
     | some d=> .ok d h1
     | none=> .bad)
   | _=> .bad
 | _=> .bad:=by unfold fld;rw [zO] <;> congr 1
noncomputable def zcC (x:D) (h:MH) (r:R D):R D:=match x with
 | .obj n=>(match h[n]? with
   | some (.lst _)=>r
   | _=> .bad)
 | _=> .bad
@[simp] theorem zyn (a b:ME D):zbf a b e h=zD (a e h) fun x h1=>zcC x h1 (zD (b e h1) fun y h2=>match x with
 | .obj n=>match h2[n]? with
   | some (.lst xs)=>if xs.length < 1000000 then .ok .non (h2.set n (.lst (xs++[y]))) else .bad
   | _=> .bad
 | _=> .bad):=by
 unfold zbf;simp only [zO];congr 1;funext x h1
 unfold isL zcC
 cases x <;> first | rfl | skip
 dsimp only
 split <;> simp_all <;> congr 1
@[simp] theorem zxU (a:ME D):ziI a e h=zD (a e h) fun x h1=>match x with
 | .obj n=>match h1[n]? with
   | some (.lst xs)=> .ok .non (h1.set n (.lst xs.reverse))
   | _=> .bad
 | _=> .bad:=by unfold ziI;rw [zO] <;> congr 1
@[simp] theorem zxz (f:MF) (a:ME (List D)):zi f a e h=zD (a e h) fun ds h1=>app f ds h1:=by unfold zi;rw [zO]
@[simp] theorem zxw (tbl:List (Nat×MF)) (o:ME D) (a:ME (List D)):zbh tbl o a e h=zD (o e h) fun x h1=>match x with
 | .obj n=>match h1[n]? with
   | some (.ins c _)=>(match tbl.lookup c with
     | some f=>zD (a e h1) fun ds h2=>app f (x :: ds) h2
     | none=> .bad)
   | _=> .bad
 | _=> .bad:=by
 unfold zbh;rw [zO] <;> congr 1
@[simp] theorem zxA:zu e h = .nx e h:=rfl
@[simp] theorem zyM (t:ME Bool) (a b:MS):ifS t a b e h=zcA (t e h) fun c h1=>if c=true then a e h1 else b e h1:=by unfold ifS;rw [zeg];congr 1;funext c h1;cases c <;> rfl
@[simp] theorem zyE (a:ME D):zY a e h=zcA (a e h) fun _ h1=> .nx e h1:=by unfold zY;rw [zeg];rfl
@[simp] theorem zw3 (a:ME D):zp a e h=zcA (a e h) fun v h1=> .rt v h1:=by unfold zp;rw [zeg]
@[simp] theorem zuC (t:Tg) (a:ME D):zm t a e h=zcA (a e h) fun v h1=>zhG t v e h1:=by unfold zm;rw [zeg]
@[simp] theorem zxN:zhG (.nm n) v e h = .nx (e.set n (some v)) h:=rfl
@[simp] theorem zxF (l:List Nat) (ds:List D):zhG (.tp l) (.tup ds) e h=match zdC l ds e with
 | some e1=> .nx e1 h
 | none=> .bad:=rfl
@[simp] theorem zyz (l:List Nat) (a:ME (List D)):zik l a e h=zcA (a e h) fun vs h1=>match zdC l vs e with
 | some e1=> .nx e1 h1
 | none=> .bad:=by unfold zik;rw [zeg] <;> congr 1
@[simp] theorem zyd:zdC [] [] e=some e:=rfl
@[simp] theorem zy3 (l:List Nat) (ds:List D):zdC (n :: l) (x :: ds) e=zdC l ds (e.set n (some x)):=rfl
@[simp] theorem zrn:zda (.nm n) x e=some (e.set n (some x)):=rfl
@[simp] theorem zx0 (l:List Nat) (ds:List D):zda (.tp l) (.tup ds) e=zdC l ds e:=rfl
@[simp] theorem zyL (f:D->D->ME D) (a:ME D):zgF f n a e h=zcA (zD (var n e h) fun x h1=>zD (a e h1) fun y h2=>f x y e h2) fun v h1=> .nx (e.set n (some v)) h1:=by unfold zgF;rw [zuC];simp only [zO];rfl
@[simp] theorem zyf (att:Nat->Nat->Bool) (o a:ME D):zeP att k o a e h=zcA (a e h) fun y h1=>zcA (o e h1) fun x h2=>match x with
 | .obj n=>(match h2[n]? with
   | some (.ins c fs)=>if (att c k && decide (fs.length < 100))=true then .nx e (h2.set n (.ins c (zem k y fs))) else .bad
   | _=> .bad)
 | _=> .bad:=by unfold zeP;rw [zeg] <;> congr 1
@[simp] theorem zyO (o i a:ME D):zfq o i a e h=zcA (a e h) fun y h1=>zcA (o e h1) fun x h2=>zcA (i e h2) fun z h3=>match x,z with
 | .obj n,.int k=>(match h3[n]? with
   | some (.lst xs)=>(match ixN xs.length k with
     | some j=> .nx e (h3.set n (.lst (xs.set j y)))
     | none=> .bad)
   | some (.dic kvs)=>if kvs.length < 1000000 then .nx e (h3.set n (.dic (zcr k y kvs))) else .bad
   | _=> .bad)
 | _,_=> .bad:=by unfold zfq;rw [zeg] <;> congr 1
@[simp] theorem zl4 (t:Tg) (s:ME Src) (b:MS):zcY t s b e h=zcA (s e h) fun p h1=>zc2 t p.2 b p.1 e h1:=by unfold zcY;rw [zeg]
@[simp] theorem zyI (a:ME D):itL a e h=zD (a e h) fun x h1=>match x with
 | .obj n=>(match h1[n]? with
   | some (.lst xs)=> .ok (xs,[(n,.lst xs)]) h1
   | _=> .bad)
 | _=> .bad:=by unfold itL;rw [zO];congr 1;funext x h1;cases x <;> rfl
@[simp] theorem zwT (a:ME D):itR a e h=zD (a e h) fun x h1=>match x with
 | .int i=>if -1000000<=i∧i<=1000000 then .ok ((List.range i.toNat).map fun (k:Nat)=>D.int k,[]) h1 else .bad
 | _=> .bad:=by unfold itR;rw [zO];congr 1;funext x h1;cases x <;> first | rfl | (dsimp only;split <;> rfl)
@[simp] theorem zw1 (js:List (Option Nat)) (t:Tg) (s:ME Src) (c:ME Bool) (a:ME D):zbR js t s c a e h=zD (s e h) fun p h1=>if p.1.length<=1000000 then zcm t p.2 c a p.1 [] (zbH js e) h1 else .bad:=by unfold zbR;rw [zO]
@[simp] theorem zye:zbP e h = .ok true h:=rfl
@[simp] theorem zwV (a:D) (l:List D):MI.atI (a :: l) 0=some a:=by simp [MI.atI,ixN]
@[simp] theorem zxM (a b:D) (l:List D):MI.atI (a :: b :: l) 1=some b:=by rw [MI.atI,show ixN (a :: b :: l).length 1=some 1 from by unfold ixN;rw [if_pos ω,if_pos (by simp only [List.length_cons];omega)];rfl];rfl
@[simp] theorem zxb (a b c:D) (l:List D):MI.atI (a :: b :: c :: l) 2=some c:=by rw [MI.atI,show ixN (a :: b :: c :: l).length 2=some 2 from by unfold ixN;rw [if_pos ω,if_pos (by simp only [List.length_cons];omega)];rfl];rfl
theorem zq8 {n k:Nat} (h:k < n):ixN n (k:Int)=some k:=by
 unfold ixN
 rw [if_pos ω,if_pos ω];simp
theorem zfu {α:Type}{xs:List α}{k:Nat} (h:k < xs.length):MI.atI xs (k:Int)=some xs[k]:=by
 unfold MI.atI
 rw [zq8 h];simp [h]
theorem zhl {α:Type} (xs:List α) (a:α):MI.atI (xs++[a]) (-1)=some a:=by
 unfold MI.atI ixN
 rw [if_neg ω,if_pos (by simp;omega)]
 have e:(-1+((xs++[a]).length:Int)).toNat=xs.length:=by simp;omega
 rw [e];simp
theorem zH {h:MH}{n:Nat}{o:O} (e:h[n]?=some o) (g:MH):(h++g)[n]?=some o:=by rw [List.getElem?_append_left (List.getElem?_eq_some_iff.mp e).1];exact e
@[simp] theorem zcB (h g:MH) (k:Nat):(h++g)[h.length+k]?=g[k]?:=by rw [List.getElem?_append_right ω];congr 1;omega
@[simp] theorem znN (h g:MH) (k:Nat) (o:O):(h++g).set (h.length+k) o=h++g.set k o:=by rw [List.set_append_right _ _ ω];congr 2;omega
theorem zd0 (h g:MH):zdZ h (h++g)=true:=by
 unfold zdZ
 rw [List.all_eq_true]
 intro i hi
 rw [List.mem_range]at hi
 rw [List.getElem?_append_left hi];simp
@[simp] theorem zyu (h:MH):gc h .bad = .bad:=rfl
theorem zs6 (h g:MH) (i:Int):gc h (.ok (.int i) (h++g)) = .ok (.int i) h:=by simp [gc,zd0,gcV]
theorem zb6 (h g:MH) (b:Bool):gc h (.ok (.bl b) (h++g)) = .ok (.bl b) h:=by simp [gc,zd0,gcV]
theorem znL (h g:MH):gc h (.ok .non (h++g)) = .ok .non h:=by simp [gc,zd0,gcV]
@[simp] theorem zy0 (h:MH) (i:Int):gc h (.ok (.int i) h) = .ok (.int i) h:=by have:=zs6 h [] i;simpa using this
@[simp] theorem zxe (h:MH) (b:Bool):gc h (.ok (.bl b) h) = .ok (.bl b) h:=by have:=zb6 h [] b;simpa using this
@[simp] theorem zxp (h:MH):gc h (.ok .non h) = .ok .non h:=by have:=znL h [];simpa using this
theorem zlg (n b:Nat) (h2:MH):∀ (ds:List D) (ms:List Nat),nrs ds=true->zcc n b h2 ds ms=some (ds,ms)
 | [],ms,_=>rfl
 | d :: ds,ms,hn=>by
   unfold nrs at hn
   rw [Bool.and_eq_true]at hn
   have ih:=zlg n b h2 ds ms hn.2
   cases d with
   | obj m=>simp [D.nr]at hn
   | _=>simp only [zcc,hn.1,if_pos,ih];rfl
theorem zmK (h g:MH) {ds:List D} (hn:nrs ds=true):gc h (.ok (.tup ds) (h++g)) = .ok (.tup ds) h:=by
 simp only [gc,zd0,if_pos,gcV,zlg _ _ _ _ _ hn]
 simp
theorem zh9 (h:MH) {ds:List D} (hn:nrs ds=true):gc h (.ok (.tup ds) h) = .ok (.tup ds) h:=by have:=zmK h [] hn;simpa using this
theorem zmh (h g:MH) {k:Nat}{o:O} (e:g[k]?=some o) (f:o.flat=true):gc h (.ok (.obj (h.length+k)) (h++g)) = .ok (.obj h.length) (h++[o]):=by
 have hlt:¬ h.length+k < h.length:=by omega
 simp only [gc,zd0,if_pos,gcV,if_neg hlt,zcB,e]
 cases o with
 | ins c fs=>cases f
 | _=>simp [f]
theorem zmp (h g:MH) {o:O} (f:o.flat=true):gc h (.ok (.obj h.length) (h++o :: g)) = .ok (.obj h.length) (h++[o]):=zmh h (o :: g) (k:=0) rfl f
end
end MI
end
section
namespace MI
noncomputable def ziC (l:ME (List D)):ME (List D):=zl l fun xs=>match zbO xs with
 | some ns=>if ns.length < 65 then zb ((sortI (zbd [] ns)).map .int) else zG
 | none=>zG
noncomputable def ziF (a:ME D):ME (List D):=zl a fun x=>fun _ h=>match x with
 | .obj n=>match h[n]? with
   | some (.dic kvs)=>if kvs.length < 65 then .ok ((sortI (kvs.map (·.1))).map .int) h else .bad
   | _=> .bad
 | _=> .bad
end MI
end
section
open PySem MI
namespace My
noncomputable def zK:Nat->Nat->Bool:=fun a b=>[(0,0),(1,1),(2,1),(2,2),(3,1),(3,3),(4,1),(4,4),(5,1),(5,5),(6,1),(6,6),(7,1),(7,7),(8,1),(8,8),(9,1),(9,9),(10,1),(10,10)].contains (a,b)
noncomputable def zek:Nat->Nat->Bool:=fun a b=>[(0,0),(0,1),(0,2),(2,3),(3,4),(4,5),(4,6),(5,7),(6,8),(6,4),(7,4),(8,0),(9,4),(10,0)].contains (a,b)
noncomputable def zeq:MF:=zP 1 1
   (zp (zcl (zbG .int (var 0)) (un ze1 (zbG .bool (var 0)))))
noncomputable def zcq:MF:=zP 3 3
   (zp (zcl (zi zeq (za (var 0) ze)) (zdA leV leV (var 1) (var 0) (var 2))))
noncomputable def zch:MF:=zP 2 2
   (zp (zi zcq (za (var 1) (za (zb (.int (0))) (za (bin z6 (var 0) (zb (.int (1)))) ze)))))
noncomputable def zfM:MF:=zP 2 2
   (zh (ifS (orT (zS (tru (zbG .tuple (var 1)))) (tst (bin neV (zbJ (zbF (var 1))) (zb (.int (3)))))) (zp (zb (.bl false))) zu)
   (zh (ifS (orT (zS (tru (zi zch (za (var 0) (za (bin zj (var 1) (zb (.int (0)))) ze))))) (zS (tru (zi zch (za (var 0) (za (bin zj (var 1) (zb (.int (1)))) ze)))))) (zp (zb (.bl false))) zu)
   (zp (zcl (bin neV (bin zj (var 1) (zb (.int (0)))) (bin zj (var 1) (zb (.int (1))))) (zi zcq (za (bin zj (var 1) (zb (.int (2)))) (za (un zce (zb (.int (1000000)))) (za (zb (.int (1000000))) ze))))))))
noncomputable def ze5:MF:=zP 2 2
   (zh (ifS (zS (tru (zi zfM (za (var 0) (za (var 1) ze))))) ze3 zu)
   (zp (zJ (za (bin zj (var 1) (zb (.int (0)))) (za (bin zj (var 1) (zb (.int (1)))) (za (bin zj (var 1) (zb (.int (2)))) ze))))))
noncomputable def zgJ:MF:=zP 4 4
   (zh (ifS (zS (tru (zi zcq (za (var 1) (za (zb (.int (1))) (za (zb (.int (1000000))) ze)))))) ze3 zu)
   (zh (ifS (zS (tru (zi zcq (za (var 3) (za (zb (.int (0))) (za (zb (.int (1000000))) ze)))))) ze3 zu)
   (zh (ifS (zS (tru (zbG .list (var 2)))) ze3 zu)
   (zh (zeP zek 0 (var 0) (var 1))
   (zh (zeP zek 1 (var 0) (var 3))
   (zeP zek 2 (var 0) (zM (zbR [none,some 1] (.nm 0) (itL (var 2)) zbP (zi ze5 (za (var 1) (za (var 0) ze)))))))))))
noncomputable def zhI:MF:=zP 1 1
   (zp (zM (zdl (fld 2 (var 0)))))
noncomputable def zfN:MF:=zP 1 1
   (zp (zJ (za (bin zj (var 0) (zb (.int (1)))) (za (bin zj (var 0) (zb (.int (0)))) (za (un zce (bin zj (var 0) (zb (.int (2))))) ze)))))
noncomputable def zfO:MF:=zP 2 2
   (zp (zi zcq (za (var 1) (za (zb (.int (0))) (za (bin z6 (zbJ (zbF (var 0))) (zb (.int (1)))) ze)))))
noncomputable def ze6:MF:=zP 2 2
   (zh (ifS (orT (zS (tru (zbG .tuple (var 1)))) (tst (bin neV (zbJ (zbF (var 1))) (zb (.int (2)))))) (zp (zb (.bl false))) zu)
   (zp (zcl (zi zfO (za (var 0) (za (bin zj (var 1) (zb (.int (0)))) ze))) (zcl (zi zeq (za (bin zj (var 1) (zb (.int (1)))) ze)) (bin inV (bin zj (var 1) (zb (.int (1)))) (zJ (za (zb (.int (1))) (za (zb (.int (-1))) ze))))))))
noncomputable def zcR:MF:=zP 2 3
   (zh (zm (.nm 2) (bin zj (var 0) (bin zj (var 1) (zb (.int (0))))))
   (zp (ifE (tst (bin eqV (bin zj (var 1) (zb (.int (1)))) (zb (.int (1))))) (var 2) (zi zfN (za (var 2) ze)))))
noncomputable def zcM:List (Nat×MF):=[(0,zhI)]
noncomputable def zer:MF:=zP 3 7
   (zh (ifS (orT (zS (tru (zi zch (za (fld 0 (var 0)) (za (var 1) ze))))) (zS (tru (zbG .list (var 2))))) (zp (zb .non)) zu)
   (zh (zm (.nm 3) (zbh zcM (var 0) ze))
   (zh (zm (.nm 4) (zM (zbA ze)))
   (zh (zm (.nm 5) (var 1))
   (zh (zcY (.nm 6) (itL (var 2))
   (zh (ifS (zS (tru (zi ze6 (za (var 3) (za (var 6) ze))))) (zp (zb .non)) zu)
   (zh (zY (zbf (var 4) (zi zcR (za (var 3) (za (var 6) ze)))))
   (zh (ifS (tst (bin neV (bin zj (bin zj (var 4) (un zce (zb (.int (1))))) (zb (.int (0)))) (var 5))) (zp (zb .non)) zu)
   (zm (.nm 5) (bin zj (bin zj (var 4) (un zce (zb (.int (1))))) (zb (.int (1)))))))))
   (zp (var 4)))))))
noncomputable def zes:MF:=zP 3 4
   (zh (zm (.nm 3) (zi zer (za (var 0) (za (var 1) (za (var 2) ze)))))
   (zh (ifS (tst (bin isN (var 3) (zb .non))) (zp (zb .non)) zu)
   (zp (zM (zdS (zM (zbA (za (var 1) ze))) (zbR [none] (.nm 0) (itL (var 3)) zbP (bin zj (var 0) (zb (.int (1))))))))))
noncomputable def zfP:MF:=zP 3 4
   (zh (zm (.nm 3) (zi zes (za (var 0) (za (var 1) (za (var 2) ze)))))
   (zp (zcl (bin zdP (var 3) (zb .non)) (bin eqV (zhp (zdl (var 3))) (zbJ (zbF (var 3)))))))
noncomputable def zfQ:MF:=zP 4 4
   (zp (zcl (zi zfP (za (var 0) (za (var 1) (za (var 3) ze)))) (bin eqV (bin zj (zi zes (za (var 0) (za (var 1) (za (var 3) ze)))) (un zce (zb (.int (1))))) (var 2))))
noncomputable def zfR:MF:=zP 1 1
   (zp (zM (ziU (zbJ (zbF (zbh zcM (var 0) ze))))))
noncomputable def zfS:MF:=zP 2 5
   (zh (zm (.nm 2) (zbh zcM (var 0) ze))
   (zh (zm (.nm 3) (zM (zbR [none] (.nm 0) (itR (fld 0 (var 0))) zbP (zM (zbA ze)))))
   (zh (zcY (.nm 4) (itL (var 1))
   (zh (zY (zbf (bin zj (var 3) (bin zj (bin zj (var 2) (var 4)) (zb (.int (0))))) (zJ (za (var 4) (za (zb (.int (1))) ze)))))
   (zY (zbf (bin zj (var 3) (bin zj (bin zj (var 2) (var 4)) (zb (.int (1))))) (zJ (za (var 4) (za (zb (.int (-1))) ze)))))))
   (zp (var 3)))))
noncomputable def zfT:MF:=zP 4 9
   (zh (zfq (var 3) (var 2) (zb .non))
   (zh (zm (.nm 4) (zM (zbA (za (var 2) ze))))
   (zh (zm (.nm 5) (zb (.int (0))))
   (zhs (tst (bin ltV (var 5) (zbJ (zbF (var 4))))) (zh (zm (.nm 6) (bin zj (var 4) (var 5)))
   (zh (zcY (.nm 7) (itL (bin zj (var 1) (var 6)))
   (zh (zm (.nm 8) (bin zj (zi zcR (za (var 0) (za (var 7) ze))) (zb (.int (1)))))
   (ifS (tst (bin zbL (var 8) (var 3))) (zh (zfq (var 3) (var 8) (var 7))
   (zY (zbf (var 4) (var 8)))) zu)))
   (zgF zI 5 (zb (.int (1))))))))))
noncomputable def zfU:MF:=zP 3 4
   (zh (zm (.nm 3) zka)
   (zh (zY (zi zfT (za (zbh zcM (var 0) ze) (za (zi zfS (za (var 0) (za (var 1) ze))) (za (var 2) (za (var 3) ze))))))
   (zp (var 3))))
noncomputable def zfV:MF:=zP 3 6
   (zh (zm (.nm 3) (zbh zcM (var 0) ze))
   (zh (zm (.nm 4) (zM (zbA ze)))
   (zh (zm (.nm 5) (var 2))
   (zh (zhs (tst (bin zdP (bin zj (var 1) (var 5)) (zb .non))) (zh (zY (zbf (var 4) (bin zj (var 1) (var 5))))
   (zm (.nm 5) (bin zj (zi zcR (za (var 3) (za (bin zj (var 1) (var 5)) ze))) (zb (.int (0)))))))
   (zh (zY (ziI (var 4)))
   (zp (var 4)))))))
noncomputable def zfW:MF:=zP 2 2
   (zh (ifS (orT (zS (tru (zbG .list (var 0)))) (zS (tru (zgp (zbR [none,some 1] (.nm 0) (itL (var 0)) zbP (zi zcq (za (var 0) (za (zb (.int (0))) (za (bin z6 (var 1) (zb (.int (1)))) ze))))))))) (zp (zb (.bl false))) zu)
   (zp (zgp (zbR [none,none] (.tp [0,1]) (itZ (var 0) (zM (zdX (var 0) (zcE (zb (.int (1)))) noP))) zbP (bin ltV (var 0) (var 1))))))
noncomputable def zfX:MF:=zP 4 5
   (zh (zm (.nm 4) (zia (zbR [none] (.nm 0) (itL (var 0)) zbP (zJ (za (var 0) (za (zb (.bl true)) ze))))))
   (zh (ifS (orT (tst (bin zbL (var 2) (var 4))) (tst (bin inV (var 3) (var 4)))) (zp (zb (.bl false))) zu)
   (zp (zgp (zbR [none,some 4] (.nm 0) (itL (var 1)) zbP (bin eqV (bin inV (bin zj (var 0) (zb (.int (0)))) (var 1)) (bin inV (bin zj (var 0) (zb (.int (1)))) (var 1))))))))
noncomputable def zhJ:MF:=zP 2 2
   (zeP zek 4 (var 0) (zM (zdl (var 1))))
noncomputable def zgK:MF:=zP 4 4
   (zp (zcl (zi zch (za (fld 0 (var 1)) (za (var 3) ze))) (zi zfQ (za (var 1) (za (var 2) (za (var 3) (za (fld 4 (var 0)) ze)))))))
noncomputable def zhK:MF:=zP 2 2
   (zeP zek 0 (var 0) (zM (zdl (var 1))))
noncomputable def zgL:MF:=zP 4 4
   (zh (ifS (orT (zS (tru (zi zch (za (fld 0 (var 1)) (za (var 2) ze))))) (zS (tru (zi zch (za (fld 0 (var 1)) (za (var 3) ze)))))) (zp (zb (.bl false))) zu)
   (zp (zcl (zi zfW (za (fld 0 (var 0)) (za (fld 0 (var 1)) ze))) (zi zfX (za (fld 0 (var 0)) (za (zbh zcM (var 1) ze) (za (var 2) (za (var 3) ze))))))))
noncomputable def zdJ:MF:=zP 2 2
   (ifS (zS (tru (zi zch (za (fld 0 (var 0)) (za (var 1) ze))))) ze3 zu)
noncomputable def zdq:MF:=zP 3 4
   (zh (zY (zi zdJ (za (var 0) (za (var 1) ze))))
   (zh (zY (zi zdJ (za (var 0) (za (var 2) ze))))
   (zh (zm (.nm 3) (zi zfU (za (var 0) (za (zi zfR (za (var 0) ze)) (za (var 1) ze)))))
   (zh (ifS (tst (bin inV (var 2) (var 3))) (zp (zi (mkF 7 zhJ) (za (zi zfV (za (var 0) (za (var 3) (za (var 2) ze)))) ze))) zu)
   (zp (zi (mkF 8 zhK) (za (zM (ziF (var 3))) ze)))))))
noncomputable def zdf:MF:=zP 3 5
   (zh (zY (zi zdJ (za (var 0) (za (var 1) ze))))
   (zh (zm (.nm 3) (zi zer (za (var 0) (za (var 1) (za (var 2) ze)))))
   (zh (ifS (tst (bin isN (var 3) (zb .non))) ze3 zu)
   (zh (zm (.nm 4) (ifE (tru (var 3)) (bin zj (bin zj (var 3) (un zce (zb (.int (1))))) (zb (.int (1)))) (var 1)))
   (zp (zJ (za (var 4) (za (zir (zbR [none] (.nm 0) (itL (var 3)) zbP (bin zj (var 0) (zb (.int (2)))))) ze))))))))
noncomputable def zbm:MF:=zP 2 2
   (zh (ifS (tst (bin ltV (var 1) (zbJ (zbF (var 0))))) (zp (bin zj (var 0) (var 1))) zu)
   (zp (zb (.int (0)))))
noncomputable def zy:MF:=zP 3 4
   (zh (zm (.nm 3) (zJ (za (zb (.int (1000003))) (za (zb (.int (1000033))) (za (zb (.int (1000037))) (za (zb (.int (1000039))) (za (zb (.int (1000081))) (za (zb (.int (1000099))) (za (zb (.int (1000117))) (za (zb (.int (1000121))) (za (zb (.int (1000133))) (za (zb (.int (1000151))) (za (zb (.int (1000159))) (za (zb (.int (1000171))) (za (zb (.int (1000183))) (za (zb (.int (1000187))) (za (zb (.int (1000193))) (za (zb (.int (1000199))) ze))))))))))))))))))
   (zp (bin zbl (bin zbl (bin zI (bin zbD (var 0) (zb (.int (48271)))) (bin zbD (var 1) (zb (.int (69621))))) (bin zj (var 3) (bin zbl (var 1) (zb (.int (16)))))) (var 2))))
noncomputable def ze7:MF:=zP 1 15
   (zh (zm (.nm 1) (bin zcV (bin zbD (zbJ (zbF (var 0))) (bin zj (zJ (za (zb (.int (1))) (za (zb (.int (2))) (za (zb (.int (3))) ze)))) (zi zy (za (zi zbm (za (var 0) (za (zb (.int (1))) ze))) (za (zb (.int (2))) (za (zb (.int (3))) ze)))))) (zb (.int (3)))))
   (zh (zm (.nm 2) (bin zI (zb (.int (2))) (zi zy (za (zi zbm (za (var 0) (za (zb (.int (0))) ze))) (za (zb (.int (1))) (za (bin zI (zb (.int (2))) (var 1)) ze))))))
   (zh (zm (.nm 3) (bin zj (zJ (za (zb (.int (0))) (za (zb (.int (0))) (za (zb (.int (2))) (za (zb (.int (3))) (za (zb (.int (12))) (za (zb (.int (1))) (za (zb (.int (1000000))) ze)))))))) (zi zy (za (zi zbm (za (var 0) (za (zb (.int (2))) ze))) (za (zb (.int (3))) (za (zb (.int (7))) ze))))))
   (zh (zm (.nm 4) (bin zj (zJ (za (zb (.int (2))) (za (zb (.int (3))) (za (zb (.int (40))) (za (zb (.int (400000))) ze))))) (zi zy (za (zi zbm (za (var 0) (za (zb (.int (0))) ze))) (za (zb (.int (4))) (za (zb (.int (4))) ze))))))
   (zh (zm (.nm 5) (bin zj (zJ (za (zb (.int (0))) (za (zb (.int (0))) (za (zb (.int (5))) (za (zb (.int (30))) ze))))) (zi zy (za (zi zbm (za (var 0) (za (zb (.int (1))) ze))) (za (zb (.int (5))) (za (zb (.int (4))) ze))))))
   (zh (zm (.nm 6) (zcl (bin gtV (var 2) (zb (.int (3)))) (bin eqV (zi zy (za (zi zbm (za (var 0) (za (zb (.int (2))) ze))) (za (zb (.int (8))) (za (zb (.int (4))) ze)))) (zb (.int (0))))))
   (zh (zm (.nm 7) (zM (zbA ze)))
   (zh (zcY (.nm 8) (itR (zbJ (zbF (var 0))))
   (zh (zm (.nm 9) (zi zy (za (bin zj (var 0) (var 8)) (za (bin zI (bin zbl (var 8) (zb (.int (5)))) (zb (.int (1)))) (za (var 2) ze)))))
   (zh (zm (.nm 10) (bin zbl (bin zI (bin zI (var 9) (zb (.int (1)))) (zi zy (za (bin zj (var 0) (var 8)) (za (bin zI (bin zbl (var 8) (zb (.int (7)))) (zb (.int (2)))) (za (bin z6 (var 2) (zb (.int (1)))) ze))))) (var 2)))
   (zh (ifS (tru (var 6)) (zh (zm (.nm 11) (ifE (tst (bin ltV (var 9) (bin zcV (var 2) (zb (.int (2)))))) (zb (.int (0))) (bin zcV (var 2) (zb (.int (2))))))
   (zh (zm (.nm 12) (ifE (tst (bin eqV (var 11) (zb (.int (0))))) (bin zcV (var 2) (zb (.int (2)))) (bin z6 (var 2) (var 11))))
   (zh (zm (.nm 13) (bin zI (zb (.int (1))) (zi zy (za (bin zj (var 0) (var 8)) (za (bin zI (bin zbl (var 8) (zb (.int (7)))) (zb (.int (2)))) (za (bin z6 (var 12) (zb (.int (1)))) ze))))))
   (zm (.nm 10) (bin zI (var 11) (bin zbl (bin zI (bin z6 (var 9) (var 11)) (var 13)) (var 12))))))) zu)
   (zh (zm (.nm 14) (bin z6 (zi zy (za (bin zbD (var 10) (zb (.int (7919)))) (za (zb (.int (6))) (za (var 4) ze)))) (zi zy (za (bin zbD (var 9) (zb (.int (7919)))) (za (zb (.int (6))) (za (var 4) ze))))))
   (zh (ifS (zbt (tst (bin gtV (var 5) (zb (.int (0))))) (tst (bin eqV (zi zy (za (bin zj (var 0) (var 8)) (za (bin zI (bin zbl (var 8) (zb (.int (3)))) (zb (.int (9)))) (za (var 5) ze)))) (zb (.int (0)))))) (zm (.nm 14) (bin zI (var 14) (zb (.int (1))))) zu)
   (zh (ifS (zbt (tst (bin gtV (var 3) (zb (.int (0))))) (zbt (tst (bin eqV (zi zy (za (bin zj (var 0) (var 8)) (za (zb (.int (12))) (za (zb (.int (3))) ze)))) (zb (.int (0))))) (tst (bin ltV (bin zI (zdV (var 14)) (var 3)) (zb (.int (1000000))))))) (zm (.nm 14) (bin z6 (var 14) (var 3))) zu)
   (zY (zbf (var 7) (zJ (za (var 9) (za (var 10) (za (var 14) ze)))))))))))))
   (zp (zJ (za (var 2) (za (var 7) (za (var 3) ze)))))))))))))
noncomputable def zd5:MF:=zP 3 9
   (zh (zik [3,4] (za (zM (zbA (za (var 1) ze))) (za (zb (.int (0))) ze)))
   (zh (zcY (.nm 5) (itL (var 2))
   (zh (ifS (orT (zS (tru (zbG .tuple (var 5)))) (tst (bin neV (zbJ (zbF (var 5))) (zb (.int (2)))))) (zp (zJ (za (zM (zbA ze)) (za (zb (.int (0))) ze)))) zu)
   (zh (zm (.tp [6,7]) (var 5))
   (zh (ifS (orT (tru (zbG .bool (var 6))) (orT (zS (tru (zbG .int (var 6)))) (orT (zS (tst (zdA leV ltV (zb (.int (0))) (var 6) (zbJ (zbF (var 0)))))) (tst (bin zbL (var 7) (zJ (za (zb (.int (1))) (za (un zce (zb (.int (1)))) ze)))))))) (zp (zJ (za (zM (zbA ze)) (za (zb (.int (0))) ze)))) zu)
   (zh (zm (.nm 8) (ifE (tst (bin eqV (var 7) (zb (.int (1))))) (zeb (bin zj (var 0) (var 6)) noP (zcE (zb (.int (2))))) (zen (bin zj (var 0) (var 6)))))
   (zh (ifS (tst (bin neV (bin zj (var 3) (un zce (zb (.int (1))))) (bin zj (var 8) (zb (.int (0)))))) (zp (zJ (za (zM (zbA ze)) (za (zb (.int (0))) ze)))) zu)
   (zh (zY (zbf (var 3) (bin zj (var 8) (zb (.int (1))))))
   (zm (.nm 4) (bin zI (var 4) (bin zbD (var 7) (bin zj (bin zj (var 0) (var 6)) (zb (.int (2))))))))))))))
   (zp (zJ (za (var 3) (za (var 4) ze))))))
noncomputable def zet:MF:=zP 1 1
   (zh (ifS (zS (tru (zbG .list (var 0)))) (zp (zb (.bl false))) zu)
   (zp (un ze1 (zeX (zbR [none] (.nm 0) (itL (var 0)) zbP (orV (zbG .bool (var 0)) (un ze1 (zbG .int (var 0)))))))))
noncomputable def zd6:MF:=zP 4 5
   (zh (zm (.nm 4) (bin zj (zi zd5 (za (var 0) (za (var 1) (za (var 2) ze)))) (zb (.int (0)))))
   (zp (zcl (bin neV (var 4) (zM (zbA ze))) (zcl (bin eqV (bin zj (var 4) (un zce (zb (.int (1))))) (var 3)) (bin eqV (zhp (zdl (var 4))) (zbJ (zbF (var 4))))))))
noncomputable def zfY:MF:=zP 4 5
   (zh (ifS (orT (tst (bin neV (var 2) (zM (ziC (zdl (var 2)))))) (tru (zeX (zbR [none,some 0] (.nm 0) (itL (var 2)) zbP (un ze1 (zdA leV ltV (zb (.int (0))) (var 0) (var 1))))))) (zp (zb (.bl false))) zu)
   (zh (zcY (.nm 4) (itR (zbJ (zbF (var 1))))
   (ifS (zbt (tst (bin neV (var 4) (var 3))) (tst (bin neV (bin inV (bin zj (bin zj (var 1) (var 4)) (zb (.int (0)))) (var 2)) (bin inV (bin zj (bin zj (var 1) (var 4)) (zb (.int (1)))) (var 2))))) (zp (zb (.bl false))) zu))
   (zp (zb (.bl true)))))
noncomputable def zcw:MF:=zP 5 5
   (zh (ifS (tru (zZ zK 7 (var 4))) (zp (zi zd6 (za (var 1) (za (var 2) (za (fld 4 (var 4)) (za (var 3) ze)))))) zu)
   (zp (zcl (bin inV (var 2) (fld 0 (var 4))) (zcl (bin zbL (var 3) (fld 0 (var 4))) (zi zfY (za (var 0) (za (var 1) (za (fld 0 (var 4)) (za (un zce (zb (.int (1)))) ze)))))))))
noncomputable def zcs:List (Nat×MF):=[(7,zgK),(8,zgL)]
noncomputable def zdg:MF:=zP 5 9
   (zh (zm (.nm 5) (zi zdq (za (var 0) (za (var 3) (za (var 4) ze)))))
   (zh (ifS (orT (zS (tru (zZ zK 1 (var 5)))) (tst (bin eqV (zZ zK 7 (var 5)) (zZ zK 8 (var 5))))) (zp (zb (.bl false))) zu)
   (zh (zm (.nm 6) (zM (zbA (za (zZ zK 2 (var 5)) (za (zZ zK 3 (var 5)) (za (zZ zK 9 (var 5)) (za (zZ zK 10 (var 5)) ze)))))))
   (zh (ifS (orT (tru (zeX (zdl (var 6)))) (orT (tru (zZ zK 5 (var 5))) (orT (tru (zZ zK 4 (var 5))) (tru (zZ zK 6 (var 5)))))) (zp (zb (.bl false))) zu)
   (zh (ifS (orT (zS (tru (zi zcw (za (var 1) (za (var 2) (za (var 3) (za (var 4) (za (var 5) ze)))))))) (tst (bin zdP (zbh zcs (var 5) (za (var 0) (za (var 3) (za (var 4) ze)))) (zb (.bl true))))) (zp (zb (.bl false))) zu)
   (zh (ifS (tst (bin neV (zbh zcs (var 5) (za (var 0) (za (var 4) (za (var 3) ze)))) (zi zcw (za (var 1) (za (var 2) (za (var 4) (za (var 3) (za (var 5) ze)))))))) (zp (zb (.bl false))) zu)
   (zh (ifS (tru (zZ zK 8 (var 5))) (zh (ifS (zS (tru (zi zet (za (fld 0 (var 5)) ze)))) (zp (zb (.bl false))) zu)
   (zh (zY (zbf (fld 0 (var 5)) (var 1)))
   (zp (bin isN (zbh zcs (var 5) (za (var 0) (za (var 3) (za (var 4) ze)))) (zb (.bl false)))))) zu)
   (zh (zm (.tp [7,8]) (zi zd5 (za (var 2) (za (var 3) (za (fld 4 (var 5)) ze)))))
   (zh (ifS (orT (tst (bin neV (zi zdf (za (var 0) (za (var 3) (za (fld 4 (var 5)) ze)))) (zJ (za (var 4) (za (var 8) ze))))) (zS (tru (zbG .tuple (zi zdf (za (var 0) (za (var 3) (za (fld 4 (var 5)) ze)))))))) (zp (zb (.bl false))) zu)
   (zh (zY (zbf (fld 4 (var 5)) (zJ (za (zb (.int (0))) (za (zb (.int (1))) ze)))))
   (zp (bin eqV (zbh zcs (var 5) (za (var 0) (za (var 3) (za (var 4) ze)))) (zi zd6 (za (var 2) (za (var 3) (za (fld 4 (var 5)) (za (var 4) ze)))))))))))))))))
noncomputable def zhL:MF:=zP 1 9
   (zh (zm (.tp [1,2,3]) (zi ze7 (za (var 0) ze)))
   (zh (zm (.nm 4) (zi (mkF 0 zgJ) (za (var 1) (za (var 2) (za (var 3) ze)))))
   (zh (zm (.nm 5) (zM (zbA (za (zJ (za (zb (.int (0))) (za (bin z6 (var 1) (zb (.int (1)))) ze))) (za (zJ (za (zb (.int (0))) (za (zb (.int (0))) ze))) (za (zJ (za (bin z6 (var 1) (zb (.int (1)))) (za (zb (.int (0))) ze))) ze))))))
   (zh (zcY (.nm 6) (itR (zb (.int (4))))
   (zY (zbf (var 5) (zJ (za (zi zy (za (zi zbm (za (var 0) (za (var 6) ze))) (za (zb (.int (3))) (za (var 1) ze)))) (za (zi zy (za (zi zbm (za (var 0) (za (var 6) ze))) (za (zb (.int (4))) (za (var 1) ze)))) ze))))))
   (zh (zm (.nm 5) (zM (zdS (zM (zdS (var 5) (zbR [none] (.nm 0) (itL (zM (zdX (var 2) noP (zcE (zb (.int (3))))))) zbP (zeb (var 0) noP (zcE (zb (.int (2)))))))) (zbR [none] (.nm 0) (itL (zM (zdX (var 2) (zcE (un zce (zb (.int (2))))) noP))) zbP (zen (var 0))))))
   (zh (zcY (.tp [7,8]) (itL (var 5))
   (ifS (zS (tru (zi zdg (za (var 4) (za (var 1) (za (var 2) (za (var 7) (za (var 8) ze)))))))) (zp (zb (.bl false))) zu))
   (zp (zcl (bin eqV (zbh zcM (var 4) ze) (var 2)) (bin eqV (zi zdf (za (var 4) (za (zb (.int (0))) (za (zM (zbA ze)) ze)))) (zJ (za (zb (.int (0))) (za (zb (.int (0))) ze))))))))))))
end My
end
section
open PySem MI
namespace Mx
open My
structure T3 where
 a:Int
 b:Int
 n:Int
noncomputable def tD (t:T3):D := .tup [.int t.a,.int t.b,.int t.n]
@[simp] theorem zyv (t:T3) (e:zr) (h:MH):zj (tD t) (.int 0) e h = .ok (.int t.a) h:=rfl
@[simp] theorem zyN (t:T3) (e:zr) (h:MH):zj (tD t) (.int 1) e h = .ok (.int t.b) h:=rfl
@[simp] theorem zx9 (t:T3) (e:zr) (h:MH):zj (tD t) (.int 2) e h = .ok (.int t.n) h:=rfl
theorem zbs (n:Nat) (i:Int) (e:zr) (h:MH):zj (.obj n) (.int i) e h=match h[n]? with
   | some (.lst xs)=>(match MI.atI xs i with
     | some d=> .ok d h
     | none=> .bad)
   | some (.scr xs)=>(match MI.atI xs i with
     | some d=> .ok d h
     | none=> .bad)
   | some (.dic kvs)=>(match look i kvs with
     | some d=> .ok d h
     | none=> .bad)
   | _=> .bad:=rfl
theorem zsq (t:T3):(tD t).nr=true:=rfl
theorem zgw {α:Type} (f:α->D) (hf:∀ a,(f a).nr=true):∀ l:List α,nrs (l.map f)=true
 | []=>rfl
 | a :: l=>by simp [nrs,hf a,zgw f hf l]
theorem zhf (l:List T3):nrs (l.map tD)=true:=zgw _ zsq l
structure T3.Ok (P:Int) (t:T3):Prop where
 a0:0<=t.a
 a1:t.a < P
 b0:0<=t.b
 b1:t.b < P
 ne:t.a≠t.b
 n0:-1000000<=t.n
 n1:t.n<=1000000
@[simp] theorem zhM (i:Int) (h:MH):app zeq [.int i] h = .ok (.bl true) h:=by
 unfold app zeq;simp [zbQ]
@[simp] theorem zhN (i a b:Int) (h:MH):app zcq [.int i,.int a,.int b] h = .ok (.bl (decide (a<=i) && decide (i<=b))) h:=by
 unfold app zcq;simp
 by_cases h1:a<=i <;> simp [h1]
@[simp] theorem zhO (p i:Int) (h:MH):app zch [.int p,.int i] h = .ok (.bl (decide (0<=i) && decide (i < p))) h:=by
 have:(i<=p - 1)↔i < p:=by omega
 unfold app zch;simp [this]
@[simp] theorem zhP (p:Int) (t:T3) (ht:t.Ok p) (h:MH):app zfM [.int p,tD t] h = .ok (.bl true) h:=by
 unfold app zfM;simp [zbQ,tD,zj,ht.a0,ht.a1,ht.b0,ht.b1,ht.ne,ht.n0,ht.n1]
@[simp] theorem zgM (p:Int) (t:T3) (ht:t.Ok p) (h:MH):app ze5 [.int p,tD t] h = .ok (tD t) h:=by
 unfold app ze5;simp [ht]
 simp [tD,zj]
 exact zh9 h ϱ
theorem zmJ {α:Type}{t:Tg}{gs:List (Nat×O)}{cond:ME Bool}{elt:ME D}{h:MH} (f g:α->D) (c:α->Bool) (I:zr->Prop) (hg:guard gs h=true) :
   ∀ (xs:List α),(∀ x∈xs,∀ e,I e->∃ e1,zda t (f x) e=some e1∧I e1∧cond e1 h = .ok (c x) h∧(c x=true->elt e1 h = .ok (g x) h)) ->
   ∀ acc e,I e->zcm t gs cond elt (xs.map f) acc e h = .ok (acc++(xs.filter c).map g) h
 | [],_,acc,e,_=>by simp [zcm,hg]
 | x :: xs,st,acc,e,he=>by
   obtain ⟨e1,h1,h2,h3,h4⟩:=st x ς e he
   have ih:=zmJ f g c I hg xs (fun y hy=>st y (by simp [hy]))
   rw [List.map_cons,zcm,if_pos hg,h1]
   cases hc:c x with
   | true=>simp [h3,h4 hc,hc,ih _ _ h2]
   | false=>simp [h3,hc,ih _ _ h2]
theorem zdI {α:Type}{t:Tg}{gs:List (Nat×O)}{elt:ME D}{h:MH} (f g:α->D) (I:zr->Prop) (hg:guard gs h=true)
   (xs:List α) (st:∀ x∈xs,∀ e,I e->∃ e1,zda t (f x) e=some e1∧I e1∧elt e1 h = .ok (g x) h) (e:zr) (he:I e) :
   zcm t gs zbP elt (xs.map f) [] e h = .ok (xs.map g) h:=by
 have:=zmJ f g (fun _=>true) I hg xs (fun x hx e he=>by obtain ⟨e1,a,b,c⟩:=st x hx e he;exact ⟨e1,a,b,rfl,fun _=>c⟩) [] e he
 rw [List.filter_eq_self.2 (fun _ _=>rfl),List.nil_append]at this
 exact this
theorem zb0 {h:MH}{n:Nat}{o:O} (e:h[n]?=some o):guard [(n,o)] h=true:=by simp [MI.guard,e]
theorem zhr {α:Type}{t:Tg}{gs:List (Nat×O)}{body:MS} (f:α->D) (I:List α->zr->MH->Prop) (Q:D->MH->Prop) :
   ∀ (rest done:List α),(∀ d x r e h,d++x :: r=done++rest->I d e h->guard gs h=true∧∃ e1,zda t (f x) e=some e1 ∧
       ((∃ e2 h2,body e1 h = .nx e2 h2∧I (d++[x]) e2 h2)∨(∃ v h2,body e1 h = .rt v h2∧Q v h2))) ->
     (∀ e h,I (done++rest) e h->guard gs h=true)->∀ e h,I done e h ->
     (∃ e2 h2,zc2 t gs body (rest.map f) e h = .nx e2 h2∧I (done++rest) e2 h2)∨(∃ v h2,zc2 t gs body (rest.map f) e h = .rt v h2∧Q v h2)
 | [],done,_,hl,e,h,hi=>by
   refine .inl ⟨e,h,?_,by simpa using hi⟩
   simp only [List.map_nil,zc2]
   rw [if_pos (hl e h (by simpa using hi))]
 | x :: rest,done,st,hl,e,h,hi=>by
   obtain ⟨hg,e1,hb,hr⟩:=st done x rest e h rfl hi
   simp only [List.map_cons,zc2]
   rw [if_pos hg,hb]
   dsimp only
   rcases hr with ⟨e2,h2,hb2,hi2⟩ | ⟨v,h2,hb2,hq⟩
   . rw [hb2,zuK]
     have ih:=zhr f I Q rest (done++[x]) (fun d y r e h eq=>st d y r e h (by simpa using eq)) (fun e h hi=>hl e h (by simpa using hi)) e2 h2 hi2
     simpa using ih
   . rw [hb2]
     exact .inr ⟨v,h2,rfl,hq⟩
theorem zhu {α:Type}{t:Tg}{gs:List (Nat×O)}{body:MS} (f:α->D) (I:List α->zr->MH->Prop) (xs:List α)
   (st:∀ d x r e h,d++x :: r=xs->I d e h->guard gs h=true∧∃ e1,zda t (f x) e=some e1∧(∃ e2 h2,body e1 h = .nx e2 h2∧I (d++[x]) e2 h2))
   (hl:∀ e h,I xs e h->guard gs h=true) (e:zr) (h:MH) (hi:I [] e h):∃ e2 h2,zc2 t gs body (xs.map f) e h = .nx e2 h2∧I xs e2 h2:=by
 have:=zhr (t:=t) (gs:=gs) (body:=body) f I (fun _ _=>False) xs [] (fun d x r e h eq hi=>by
   obtain ⟨a,e1,b,c⟩:=st d x r e h (by simpa using eq) hi
   exact ⟨a,e1,b,.inl c⟩) (fun e h hi=>hl e h (by simpa using hi)) e h hi
 rcases this with h1 | ⟨_,_,_,h2⟩
 . simpa using h1
 . exact h2.elim
theorem znH {t:ME Bool}{body:MS} (I:Nat->zr->MH->Prop) (J:zr->MH->Prop)
   (st:∀ k e h,I k e h->(t e h = .ok false h∧J e h)∨(t e h = .ok true h∧∃ k' e2 h2,k' < k∧body e h = .nx e2 h2∧I k' e2 h2)) :
   ∀ n k e h,k < n->I k e h->∃ e2 h2,ze2 t body n e h = .nx e2 h2∧J e2 h2
 | 0,k,e,h,hk,_=>absurd hk ω
 | n+1,k,e,h,hk,hi=>by
   rw [ze2,zeg]
   rcases st k e h hi with ⟨ht,hj⟩ | ⟨ht,k',e2,h2,hk',hb,hi2⟩
   . exact ⟨e,h,by simp [ht],hj⟩
   . obtain ⟨e3,h3,hw,hj⟩:=znH I J st n k' e2 h2 ω hi2
     exact ⟨e3,h3,by simp [ht,hb,hw],hj⟩
@[simp] theorem lk1 (a b c:D):List.lookup 1 [(0,a),(1,b),(2,c)]=some b:=rfl
@[simp] theorem lk2 (a b c:D):List.lookup 2 [(0,a),(1,b),(2,c)]=some c:=rfl
theorem zrU (h g:MH) {xs:List D} (f:nrs xs=true):gc h (.ok (.obj h.length) (h ++ .lst xs :: g)) = .ok (.obj h.length) (h++[.lst xs]):=zmp (o := .lst xs) h g f
theorem zh8 (h g:MH) {k:Nat}{xs:List D} (e:g[k]?=some (.lst xs)) (f:nrs xs=true):gc h (.ok (.obj (h.length+k)) (h++g)) = .ok (.obj h.length) (h++[.lst xs]):=zmh (o := .lst xs) h g e f
structure zbu (h:MH) (w t:Nat) (P turn:Int) (ts:List T3):Prop where
 w:h[w]?=some (.ins 0 [(0,.int P),(1,.int turn),(2,.obj t)])
 t:h[t]?=some (.lst (ts.map tD))
theorem zbu.app {h:MH}{w t:Nat}{P turn:Int}{ts:List T3} (W:zbu h w t P turn ts) (g:MH):zbu (h++g) w t P turn ts:=⟨zH W.w g,zH W.t g⟩
theorem zbu.wA {h:MH}{w t:Nat}{P turn:Int}{ts:List T3} (W:zbu h w t P turn ts) (g:MH):(h++g)[w]?=some (.ins 0 [(0,.int P),(1,.int turn),(2,.obj t)]):=zH W.w g
theorem zbu.tA {h:MH}{w t:Nat}{P turn:Int}{ts:List T3} (W:zbu h w t P turn ts) (g:MH):(h++g)[t]?=some (.lst (ts.map tD)):=zH W.t g
theorem zte {h:MH}{n:Nat}{P turn:Int}{ts:List T3} (hn:h[n]?=some (.lst (ts.map tD))) (hP:1<=P) (hP':P<=1000000) (ht:0<=turn) (ht':turn<=1000000) (hl:ts.length<=1000000) (hts:∀ t∈ts,t.Ok P) :
   app (mkF 0 zgJ) [.int P,.obj n,.int turn] h = .ok (.obj h.length) (h++[.ins 0 [(0,.int P),(1,.int turn),(2,.obj (h.length+1))],.lst (ts.map tD)]):=by
 have c:∀ g e,(∃ d,e=[d,some (.int P)])->zcm (.nm 0) [(n,.lst (ts.map tD))] zbP (zi ze5 (za (var 1) (za (var 0) ze))) (ts.map tD) [] e (h++g) = .ok (ts.map tD) (h++g):=by
   intro g e he
   refine zdI tD tD (fun e=>∃ d,e=[d,some (.int P)]) (zb0 (zH hn g)) ts ?_ e he
   rintro t ht _ ⟨d,rfl⟩
   exact ⟨_,rfl,⟨_,rfl⟩,by simp [zgM P t (hts t ht)]⟩
 unfold app mkF zgJ
 simp [hP,hP',ht,ht',zbQ,zH hn,zek,zem,zbH,c,hl]
 simp only [gc]
 rw [if_pos (zd0 _ _)]
 have q:¬ h.length+1 < h.length:=by omega
 simp [gcV,nrs,zcc,O.flat,zhf,D.nr,q]
section
variable {h:MH}{w t:Nat}{P turn:Int}{ts:List T3}
theorem zdh (W:zbu h w t P turn ts):app zhI [.obj w] h = .ok (.obj h.length) (h++[.lst (ts.map tD)]):=by
 unfold app zhI
 simp [W.w,W.t]
 exact zrU h [] (zhf _)
@[simp] theorem zhQ (t:T3) (h:MH):app zfN [tD t] h = .ok (tD ⟨t.b,t.a,-t.n⟩) h:=by
 unfold app zfN
 simp [tD,zj]
 exact zh9 h ϱ
noncomputable def tn (t:T3):T3:=⟨t.b,t.a,-t.n⟩
theorem ztU {t:T3} (ht:t.Ok P):(tn t).Ok P:=⟨ht.b0,ht.b1,ht.a0,ht.a1,fun e=>ht.ne e.symm,by have:=ht.n1;simp [tn];omega,by have:=ht.n0;simp [tn];omega⟩
end
end Mx
end
section
open PySem MI
namespace Mx
open My
theorem zeL {α:Type} [DecidableEq α]:∀ (l m:List α),l.Nodup->(∀ x∈l,x∈m)->l.length<=m.length
 | [],m,_,_=>by simp
 | x :: l,m,hn,hs=>by
   have h1:=List.nodup_cons.1 hn
   have:=zeL l (m.erase x) h1.2 (fun y hy=>(List.mem_erase_of_ne (fun (e:y=x)=>h1.1 (e ▸ hy))).2 (hs y (by simp [hy])))
   rw [List.length_erase_of_mem (hs x ς)]at this
   have:0 < m.length:=List.length_pos_of_mem (hs x ς)
   simp;omega
theorem zix:∀ (l seen:List Int) (x:Int),x∈zbd seen l↔x∈l∧x∉seen
 | [],seen,x=>by simp [zbd]
 | y :: l,seen,x=>by
   unfold zbd
   by_cases hy:y∈seen
   . rw [if_pos hy,zix l seen x]
     constructor
     . rintro ⟨a,b⟩;exact ⟨by simp [a],b⟩
     . rintro ⟨a,b⟩
       rcases List.mem_cons.1 a with e | e
       . exact absurd (e ▸ hy) b
       . exact ⟨e,b⟩
   . rw [if_neg hy,List.mem_cons,zix l (y :: seen) x]
     constructor
     . rintro (e | ⟨a,b⟩)
       . exact ⟨by simp [e],e ▸ hy⟩
       . exact ⟨by simp [a],fun c=>b (by simp [c])⟩
     . rintro ⟨a,b⟩
       by_cases e:x=y
       . exact .inl e
       . refine .inr ⟨?_,?_⟩
         . rcases List.mem_cons.1 a with e' | e'
           . exact absurd e' e
           . exact e'
         . intro c
           rcases List.mem_cons.1 c with e' | e'
           . exact e e'
           . exact b e'
theorem ze4:∀ (l seen:List Int),(zbd seen l).Nodup
 | [],seen=>by simp [zbd]
 | y :: l,seen=>by
   unfold zbd
   by_cases hy:y∈seen
   . rw [if_pos hy];exact ze4 l seen
   . rw [if_neg hy]
     exact List.nodup_cons.2 ⟨fun c=>((zix l (y :: seen) y).1 c).2 ς,ze4 l (y :: seen)⟩
noncomputable def zc9 (l:List Int):Nat:=(zbd [] l).length
theorem zdF {l:List Int}{x:Int}:x∈zbd [] l↔x∈l:=by simp [zix]
theorem zs2 {l m:List Int} (h:∀ x,x∈l↔x∈m):zc9 l=zc9 m :=
 Nat.le_antisymm (zeL _ _ (ze4 _ _) fun x hx=>zdF.2 ((h x).1 (zdF.1 hx))) (zeL _ _ (ze4 _ _) fun x hx=>zdF.2 ((h x).2 (zdF.1 hx)))
theorem zru (l:List Int):zc9 l<=l.length:=zeL _ _ (ze4 _ _) fun x hx=>zdF.1 hx
theorem zrj {l:List Int}{x:Int} (h:x∈l):zc9 (x :: l)=zc9 l:=zs2 fun y=>by
 constructor
 . intro hy
   rcases List.mem_cons.1 hy with e | e
   . exact e ▸ h
   . exact e
 . intro hy;simp [hy]
theorem zvo {l:List Int}{x:Int} (h:x∉l):zc9 (x :: l)=zc9 l+1:=by
 apply Nat.le_antisymm
 . have:=zeL (zbd [] (x :: l)) (x :: zbd [] l) (ze4 _ _) (fun y hy=>by
     rcases List.mem_cons.1 (zdF.1 hy) with e | e
     . simp [e]
     . exact List.mem_cons_of_mem _ (zdF.2 e))
   simpa [zc9] using this
 . have:=zeL (x :: zbd [] l) (zbd [] (x :: l)) (List.nodup_cons.2 ⟨fun c=>h (zdF.1 c),ze4 _ _⟩) (fun y hy=>by
     rcases List.mem_cons.1 hy with e | e
     . exact zdF.2 (by simp [e])
     . exact zdF.2 (by simp [zdF.1 e]))
   simpa [zc9] using this
theorem zjX:∀ l:List Int,zc9 l=l.length↔l.Nodup
 | []=>by simp [zc9,zbd]
 | x :: l=>by
   rw [List.nodup_cons]
   by_cases h:x∈l
   . rw [zrj h]
     have:=zru l
     simp [h];omega
   . rw [zvo h,<- zjX l]
     simp [h]
theorem zhB:∀ l:List Int,zbO (l.map D.int)=some l
 | []=>rfl
 | x :: l=>by simp [zbO,zhB l]
theorem zgD:∀ l:List Bool,zca (l.map D.bl)=some l
 | []=>rfl
 | x :: l=>by simp [zca,zgD l]
structure St where
 k:Nat
 f:Bool
noncomputable def wy (b:Bool):Int:=if b=true then 1 else -1
noncomputable def sD (s:St):D := .tup [.int s.k,.int (wy s.f)]
@[simp] theorem zyZ (t:St) (e:zr) (h:MH):zj (sD t) (.int 0) e h = .ok (.int t.k) h:=rfl
@[simp] theorem zx8 (t:St) (e:zr) (h:MH):zj (sD t) (.int 1) e h = .ok (.int (wy t.f)) h:=rfl
theorem ztB (s:St):(sD s).nr=true:=rfl
theorem zj9 (l:List St):nrs (l.map sD)=true:=zgw _ ztB l
noncomputable def zbe (f:Bool) (t:T3):T3:=if f=true then t else tn t
noncomputable def zbc (ts:List T3) (s:St):Option T3:=(ts[s.k]?).map (zbe s.f)
theorem zuh {P:Int}{ts:List T3} (hts:∀ t∈ts,t.Ok P) {s:St}{t:T3} (e:zbc ts s=some t):t.Ok P:=by
 unfold zbc at e
 cases h:ts[s.k]? with
 | none=>rw [h]at e;cases e
 | some t0 =>
   rw [h]at e
   have:=hts t0 (List.mem_of_getElem? h)
   simp at e
   subst e
   unfold zbe
   split
   . exact this
   . exact ztU this
theorem zfZ {h:MH}{l:Nat}{xs:List D} (hl:h[l]?=some (.lst xs)) (i:Int):app zfO [.obj l,.int i] h = .ok (.bl (decide (0<=i) && decide (i < xs.length))) h:=by
 unfold app zfO
 have:(i<=(xs.length:Int) - 1)↔i < xs.length:=by omega
 simp [hl,this]
theorem zfs (a b:Int):peq (.int a) (.int b)=(a == b):=by rw [peq]
theorem zmA (f:Bool) (e:zr) (h:MH):inV (.int (wy f)) (.tup [.int 1,.int (-1)]) e h = .ok (.bl true) h:=by
 simp only [inV,inB,List.any_cons,List.any_nil,zfs]
 cases f <;> rfl
theorem zgN {h:MH}{l:Nat}{xs:List D} (hl:h[l]?=some (.lst xs)) (s:St):app ze6 [.obj l,sD s] h = .ok (.bl (decide (s.k < xs.length))) h:=by
 unfold app ze6
 have e1:(0:Int)<=s.k:=by omega
 have e2:((s.k:Int) < xs.length)↔s.k < xs.length:=by omega
 by_cases hk:s.k < xs.length
 . simp [sD,zbQ,zj,zfZ hl,e1,e2,hk,zmA]
 . simp [sD,zbQ,zj,zfZ hl,e1,e2,hk]
theorem ze8 {h:MH}{l:Nat}{ts:List T3} (hl:h[l]?=some (.lst (ts.map tD))) {s:St}{t:T3} (ht:zbc ts s=some t):app zcR [.obj l,sD s] h = .ok (tD t) h:=by
 unfold app zcR
 unfold zbc at ht
 cases hk:ts[s.k]? with
 | none=>rw [hk]at ht;cases ht
 | some t0 =>
   have hlt:=(List.getElem?_eq_some_iff.1 hk).1
   rw [hk]at ht
   simp at ht
   subst ht
   have e1:MI.atI (ts.map tD) (s.k:Int)=some (tD t0):=by
     rw [zfu (by simpa using hlt)]
     have:=(List.getElem?_eq_some_iff.1 hk).2
     simp [this]
   cases hf:s.f
   . simp [sD,zj,hl,e1,wy,hf,zbe]
     exact zh9 h ϱ
   . simp [sD,zj,hl,e1,wy,hf,zbe]
     exact zh9 h ϱ
noncomputable def zbg (ts:List T3):Int->List St->Option (List T3)
 | _,[]=>some []
 | here,s :: r=>match zbc ts s with
   | none=>none
   | some t=>if t.a=here then (zbg ts t.b r).map (t :: ·) else none
theorem zeV {ts:List T3}:∀ (S:List St) (here:Int) (g:List T3),zbg ts here S=some g->g.length=S.length
 | [],_,g,e=>by simp [zbg]at e;subst e;simp
 | s :: r,here,g,e=>by
   unfold zbg at e
   cases hl:zbc ts s with
   | none=>simp [hl]at e
   | some t =>
     simp only [hl]at e
     by_cases ha:t.a=here
     . rw [if_pos ha]at e
       cases hr:zbg ts t.b r with
       | none=>simp [hr]at e
       | some g' =>
         simp [hr]at e
         subst e
         simp [zeV r _ _ hr]
     . simp [ha]at e
noncomputable def fin (a:Int) (g:List T3):Int:=match g.getLast? with
 | none=>a
 | some t=>t.b
@[simp] theorem zxv (a:Int):fin a []=a:=rfl
@[simp] theorem zxs (a:Int) (g:List T3) (t:T3):fin a (g++[t])=t.b:=by simp [fin]
@[simp] theorem zwY (a:Int) (t:T3) (g:List T3):fin a (t :: g)=fin t.b g:=by
 unfold fin
 cases g with
 | nil=>rfl
 | cons x g=>simp [List.getLast?_cons_cons,List.getLast?_cons]
theorem zkm {ts:List T3}:∀ (S R:List St) (a:Int),zbg ts a (S++R)=match zbg ts a S with
   | none=>none
   | some g=>(zbg ts (fin a g) R).map (g++·)
 | [],R,a=>by simp [zbg]
 | s :: S,R,a=>by
   simp only [List.cons_append,zbg]
   cases zbc ts s with
   | none=>rfl
   | some t =>
     simp only
     by_cases ha:t.a=a
     . simp only [if_pos ha]
       rw [zkm S R t.b]
       cases zbg ts t.b S with
       | none=>rfl
       | some g=>simp [Function.comp_def]
     . simp [if_neg ha]
theorem zjE {ts:List T3}{S:List St}{a:Int}{g:List T3} (e:zbg ts a S=some g) {s:St}{t:T3} (hl:zbc ts s=some t) (ha:t.a=fin a g):zbg ts a (S++[s])=some (g++[t]):=by
 rw [zkm,e]
 simp [zbg,hl,ha]
theorem ziw {ts:List T3}{S R:List St}{a:Int}{g:List T3} (e:zbg ts a S=some g) {s:St} (hl:∀ t,zbc ts s=some t->t.a≠fin a g):zbg ts a (S++s :: R)=none:=by
 rw [zkm,e]
 simp only [zbg]
 cases h:zbc ts s with
 | none=>rfl
 | some t=>simp [hl t h]
theorem zf0 {h:MH}{w t l:Nat}{P turn:Int}{ts:List T3} (W:zbu h w t P turn ts) {S:List St} (hl:h[l]?=some (.lst (S.map sD))) (hS:S.length<=900000) {a:Int} (h0:0<=a) (h1:a < P) :
   app zer [.obj w,.int a,.obj l] h=match zbg ts a S with
     | none=> .ok .non h
     | some g=> .ok (.obj h.length) (h++[.lst (g.map tD)]):=by
 unfold app zer
 have loop:=zhr (t := .nm 6) (gs:=[(l,.lst (S.map sD))]) (body:=(zh (ifS (zS (tru (zi ze6 (za (var 3) (za (var 6) ze))))) (zp (zb .non)) zu)
   (zh (zY (zbf (var 4) (zi zcR (za (var 3) (za (var 6) ze)))))
   (zh (ifS (tst (bin neV (bin zj (bin zj (var 4) (un zce (zb (.int (1))))) (zb (.int (0)))) (var 5))) (zp (zb .non)) zu)
   (zm (.nm 5) (bin zj (bin zj (var 4) (un zce (zb (.int (1))))) (zb (.int (1))))))))) sD
   (fun d e h'=>∃ g x,e=[some (.obj w),some (.int a),some (.obj l),some (.obj h.length),some (.obj (h.length+1)),some (.int (fin a g)),x]∧h'=h++[.lst (ts.map tD),.lst (g.map tD)]∧zbg ts a d=some g)
   (fun v h'=>v = .non∧zbg ts a S=none∧∃ g,h'=h++g) S [] (by
   rintro d s r e h' eq ⟨g,x,rfl,rfl,hg⟩
   simp only [List.nil_append]at eq
   refine ⟨zb0 (zH hl _),_,rfl,?_⟩
   have hst:=zgN (h:=h++[.lst (ts.map tD),.lst (g.map tD)]) (l:=h.length) (xs:=ts.map tD) ς s
   by_cases hk:s.k < ts.length
   . simp only [List.length_map,hk,decide_true]at hst
     have hleg:zbc ts s=some (zbe s.f ts[s.k]):=by simp [zbc,hk]
     generalize zbe s.f ts[s.k]=t at hleg
     have hlg:=ze8 (h:=h++[.lst (ts.map tD),.lst (g.map tD)]) (l:=h.length) ς hleg
     have hla:MI.atI (g.map tD++[tD t]) (-1)=some (tD t):=zhl _ _
     have hlt:g.length < 1000000:=by
       have:=zeV _ _ _ hg
       have:=congrArg List.length eq
       simp at this;omega
     by_cases ha:t.a=fin a g
     . refine .inl ⟨_,h++[.lst (ts.map tD),.lst ((g++[t]).map tD)],?_,g++[t],some (sD s),rfl,rfl,zjE hg hleg ha⟩
       simp [hst,hlg,zcC,hlt,zbs,hla,ha]
     . refine .inr ⟨.non,h++[.lst (ts.map tD),.lst ((g++[t]).map tD)],?_,rfl,?_,_,rfl⟩
       . simp [hst,hlg,zcC,hlt,zbs,hla,ha]
       . rw [<- eq]
         exact ziw hg (fun t' e=>by rw [hleg]at e;cases e;exact ha)
   . simp only [List.length_map,hk,decide_false]at hst
     refine .inr ⟨.non,h++[.lst (ts.map tD),.lst (g.map tD)],?_,rfl,?_,_,rfl⟩
     . simp [hst]
     . rw [<- eq]
       exact ziw hg (fun t' e=>by simp [zbc,List.getElem?_eq_none (Nat.not_lt.1 hk)]at e))
   (by rintro e h' ⟨g,x,rfl,rfl,hg⟩;exact zb0 (zH hl _)) [some (.obj w),some (.int a),some (.obj l),some (.obj h.length),some (.obj (h.length+1)),some (.int a),none] (h++[.lst (ts.map tD),.lst []]) ⟨[],none,rfl,rfl,rfl⟩
 rcases loop with ⟨e2,h2,hr,g,x,rfl,rfl,hg⟩ | ⟨v,h2,hr,rfl,hg,g,rfl⟩
 . simp at hg
   simp [W.w,h0,h1,zbQ,hl,zcM,zdh W,zH hl,hr,hg]
   exact zh8 h _ (k:=1) rfl (zhf _)
 . simp [W.w,h0,h1,zbQ,hl,zcM,zdh W,zH hl,hr,hg]
   exact znL _ _
end Mx
end
section
open PySem MI
namespace Mx
open My
open Classical in
noncomputable def dcd (p:Prop):Bool:=decide p
theorem zfy {p:Prop} (h:p):dcd p=true:=by simp [dcd,h]
theorem zc8 {p:Prop} (h:¬ p):dcd p=false:=by simp [dcd,h]
noncomputable def hAt (hs:List Int) (i:Int):Int:=hs.getD i.toNat 0
theorem zgq {hs:List Int}{i:Int} (h0:0<=i) (h1:i < hs.length):MI.atI (hs.map D.int) i=some (.int (hAt hs i)):=by
 obtain ⟨k,rfl⟩:∃ k:Nat,i=k:=⟨i.toNat,ω⟩
 have hl:k < hs.length:=by omega
 rw [zfu (by simpa using hl)]
 simp [hAt,hl]
theorem ziL (l:List Int):nrs (l.map D.int)=true:=zgw _ (fun _=>rfl) l
end Mx
end
section
open PySem MI
namespace Mx
open My
theorem zl3 (h g:MH) {k:Nat}{o:O} (i:Int) (e:g[k]?=some o) (f:o.flat=true):gc h (.ok (.tup [.obj (h.length+k),.int i]) (h++g)) = .ok (.tup [.obj h.length,.int i]) (h++[o]):=by
 have hlt:¬ h.length+k < h.length:=by omega
 simp [gc,zd0,gcV,zcc,hlt,e,f,D.nr]
theorem zrs (f:Bool) (e:zr) (h:MH):zbL (.int (wy f)) (.tup [.int 1,.int (-1)]) e h = .ok (.bl false) h:=by
 unfold zbL
 rw [zO,zmA];rfl
@[simp] theorem zw5 (x y z:D):MI.cut [x,y,z] none (some 2)=[x,y]:=rfl
theorem zmn {h:MH}{n l:Nat}{ts:List T3} (hn:h[n]?=some (.lst (ts.map tD))) {S:List St} (hl:h[l]?=some (.lst (S.map sD))) (hS:S.length<=900000) (hts:∀ t∈ts,-1000000<=t.n∧t.n<=1000000) (a:Int) :
   app zd5 [.obj n,.int a,.obj l] h=match zbg ts a S with
     | none=> .ok (.tup [.obj h.length,.int 0]) (h++[.lst []])
     | some g=> .ok (.tup [.obj h.length,.int (g.map (·.n)).sum]) (h++[.lst ((a :: g.map (·.b)).map .int)]):=by
 unfold app zd5
 have loop:=zhr (t := .nm 5) (gs:=[(l,.lst (S.map sD))]) (body:=(zh (ifS (orT (zS (tru (zbG .tuple (var 5)))) (tst (bin neV (zbJ (zbF (var 5))) (zb (.int (2)))))) (zp (zJ (za (zM (zbA ze)) (za (zb (.int (0))) ze)))) zu)
   (zh (zm (.tp [6,7]) (var 5))
   (zh (ifS (orT (tru (zbG .bool (var 6))) (orT (zS (tru (zbG .int (var 6)))) (orT (zS (tst (zdA leV ltV (zb (.int (0))) (var 6) (zbJ (zbF (var 0)))))) (tst (bin zbL (var 7) (zJ (za (zb (.int (1))) (za (un zce (zb (.int (1)))) ze)))))))) (zp (zJ (za (zM (zbA ze)) (za (zb (.int (0))) ze)))) zu)
   (zh (zm (.nm 8) (ifE (tst (bin eqV (var 7) (zb (.int (1))))) (zeb (bin zj (var 0) (var 6)) noP (zcE (zb (.int (2))))) (zen (bin zj (var 0) (var 6)))))
   (zh (ifS (tst (bin neV (bin zj (var 3) (un zce (zb (.int (1))))) (bin zj (var 8) (zb (.int (0)))))) (zp (zJ (za (zM (zbA ze)) (za (zb (.int (0))) ze)))) zu)
   (zh (zY (zbf (var 3) (bin zj (var 8) (zb (.int (1))))))
   (zm (.nm 4) (bin zI (var 4) (bin zbD (var 7) (bin zj (bin zj (var 0) (var 6)) (zb (.int (2)))))))))))))) sD
   (fun d e h'=>∃ g x y z u,e=[some (.obj n),some (.int a),some (.obj l),some (.obj h.length),some (.int (g.map (·.n)).sum),x,y,z,u]∧h'=h++[.lst ((a :: g.map (·.b)).map .int)]∧zbg ts a d=some g)
   (fun v h'=>zbg ts a S=none∧∃ o,v = .tup [.obj (h.length+1),.int 0]∧h'=h++[o,.lst []]) S [] (by
   rintro d s r e h' eq ⟨g,x,y,z,u,rfl,rfl,hg⟩
   simp only [List.nil_append]at eq
   refine ⟨zb0 (zH hl _),_,rfl,?_⟩
   have hkk:((s.k:Int) < (ts.length:Int))↔s.k < ts.length:=by omega
   have hk0:(0:Int)<=s.k:=by omega
   have hlast:∃ p,(a :: g.map (·.b)).map D.int=p++[.int (fin a g)]:=by
     rcases List.eq_nil_or_concat g with rfl | ⟨g0,t,rfl⟩
     . exact ⟨[],rfl⟩
     . exact ⟨(a :: g0.map (·.b)).map D.int,ς⟩
   obtain ⟨p,hp⟩:=hlast
   have hla:MI.atI ((a :: g.map (·.b)).map D.int) (-1)=some (.int (fin a g)):=by rw [hp];exact zhl _ _
   have hpl:(a :: g.map (·.b)).map D.int = .int a :: (g.map (·.b)).map .int:=rfl
   generalize hpp:(a :: g.map (·.b)).map D.int=pp at *
   have hplen:pp.length < 1000000:=by
     have h1:=zeV _ _ _ hg
     have h2:=congrArg List.length eq
     rw [hpl];simp at h2 ⊢;omega
   have hin:=zrs s.f
   by_cases hk:s.k < ts.length
   . have hleg:zbc ts s=some (zbe s.f ts[s.k]):=by simp [zbc,hk]
     have hat:MI.atI (ts.map tD) (s.k:Int)=some (tD ts[s.k]):=by rw [zfu (by simpa using hk)];simp
     have hsm:=hts ts[s.k] (List.getElem_mem hk)
     generalize ts[s.k]=t0 at hleg hat hsm
     have hsmall:zb8 t0.n=true:=by simp [zb8];omega
     by_cases ha:(zbe s.f t0).a=fin a g
     . refine .inl ⟨_,h++[.lst ((a :: (g++[zbe s.f t0]).map (·.b)).map .int)],?_,g++[zbe s.f t0],some (sD s),some (.int s.k),some (.int (wy s.f)),some (.tup [.int (zbe s.f t0).a,.int (zbe s.f t0).b]),rfl,rfl,zjE hg hleg ha⟩
       have e1:(a :: (g++[zbe s.f t0]).map (·.b)).map D.int=pp++[.int (zbe s.f t0).b]:=by rw [<- hpp];simp
       rw [e1]
       cases hf:s.f
       . simp [hf,zbe,tn]at ha
         simp [sD,zbQ,hk0,hkk,hk,hf,wy,inV,zby,inB,zfs,zbs,zH hn,hat,tD,hla,zbL,zbe,tn,ha,zcC,hplen,zj,hsmall]
       . simp [hf,zbe]at ha
         simp [sD,zbQ,hk0,hkk,hk,hf,wy,inV,zby,inB,zfs,zbs,zH hn,hat,tD,hla,zbL,zbe,tn,ha,zcC,hplen,zj,hsmall]
     . refine .inr ⟨_,h++[.lst pp,.lst []],?_,?_,_,rfl,rfl⟩
       . cases hf:s.f
         . simp [hf,zbe,tn]at ha
           simp [sD,zbQ,hk0,hkk,hk,hf,wy,inV,zby,inB,zfs,zbs,zH hn,hat,tD,hla,zbL,zbe,tn,ha,Ne.symm ha,zj]
         . simp [hf,zbe]at ha
           simp [sD,zbQ,hk0,hkk,hk,hf,wy,inV,zby,inB,zfs,zbs,zH hn,hat,tD,hla,zbL,zbe,tn,ha,Ne.symm ha,zj]
       . rw [<- eq]
         exact ziw hg (fun t' e=>by rw [hleg]at e;cases e;exact ha)
   . refine .inr ⟨_,h++[.lst pp,.lst []],?_,?_,_,rfl,rfl⟩
     . simp [sD,zbQ,hk0,hkk,hk,zbs,zH hn]
     . rw [<- eq]
       exact ziw hg (fun t' e=>by simp [zbc,List.getElem?_eq_none (Nat.not_lt.1 hk)]at e))
   (by rintro e h' ⟨g,x,y,z,u,rfl,rfl,hg⟩;exact zb0 (zH hl _)) [some (.obj n),some (.int a),some (.obj l),some (.obj h.length),some (.int 0),none,none,none,none] (h++[.lst [.int a]]) ⟨[],none,none,none,none,rfl,rfl,rfl⟩
 rcases loop with ⟨e2,h2,hr,g,x,y,z,u,rfl,rfl,hg⟩ | ⟨v,h2,hr,hg,o,rfl,rfl⟩
 . simp at hg
   simp [zH hl,hr,hg]
   have hf:=ziL (a :: g.map (·.b))
   rw [List.map_cons,List.map_map]at hf
   exact zl3 h _ (k:=0) _ rfl hf
 . simp [zH hl,hr,hg]
   exact zl3 h _ (k:=1) (o := .lst []) _ rfl rfl
theorem zya (l:List Int):(l.map D.int).all (D.pl 5)=true:=by simp [D.pl]
end Mx
end
section
open PySem MI
namespace Mx
open My
theorem zgO {h:MH}{w t:Nat}{P turn:Int}{ts:List T3} (W:zbu h w t P turn ts) (hl:ts.length<=1000000):app zfR [.obj w] h = .ok (.obj h.length) (h++[.lst ((List.range ts.length).map fun k=> .int (k:Nat))]):=by
 unfold app zfR
 have q:(-1000000:Int)<=ts.length∧(ts.length:Int)<=1000000:=by omega
 simp [W.w,zcM,zdh W,q]
 exact zh8 h _ (k:=1) rfl (zgw _ (fun _=>rfl) _)
theorem zmg {h:MH}{gs:List (Nat×O)} (hg:∀ g,guard gs (h++g)=true):∀ (xs:List Nat) (m:Nat) (acc:List D) (d:Option D),
   zcm (.nm 0) gs zbP (zM (zbA ze)) (xs.map fun (k:Nat)=>D.int k) acc [d] (h++List.replicate m (.lst [])) =
     .ok (acc++(List.range xs.length).map fun k=> .obj (h.length+m+k)) (h++List.replicate (m+xs.length) (.lst []))
 | [],m,acc,d=>by simp [zcm,hg]
 | x :: xs,m,acc,d=>by
   have ih:=zmg hg xs (m+1) (acc++[.obj (h.length+m)]) (some (.int x))
   rw [List.map_cons,zcm,if_pos (hg _)]
   simp only [zrn]
   simp
   have e:List.replicate m (O.lst [])++[O.lst []]=List.replicate (m+1) (O.lst []):=by rw [List.replicate_succ']
   rw [e]
   rw [ih]
   simp only [List.append_assoc,List.length_cons]
   congr 1
   . congr 1
     rw [List.range_succ_eq_map]
     simp [Function.comp_def,Nat.add_assoc,Nat.add_comm,Nat.add_left_comm]
   . congr 2;omega
noncomputable def zd4 (L:List (List St)):MH:=L.map fun ss=> .lst (ss.map sD)
noncomputable def Onw (ts:List T3) (cs:List Nat) (p:Nat) (ss:List St):Prop:=∀ s:St,s∈ss↔s.k∈cs∧∃ t,zbc ts s=some t∧t.a=p
noncomputable def zds (n P:Nat):List D:=(List.range P).map fun k=> .obj (n+k)
structure Tbl (h:MH) (m n P:Nat) (L:List (List St)):Prop where
 tb:h[m]?=some (.lst (zds n P))
 len:L.length=P
 at':∀ p (hp:p < P),h[n+p]?=some (.lst ((L[p]' ω).map sD))
noncomputable def stH (h:MH) (ts:List T3) (P:Nat) (L:List (List St)):MH:=h++(.lst (ts.map tD) :: (zd4 L++[.lst (zds (h.length+1) P)]))
theorem zj1 {h:MH}{ts:List T3}{P:Nat}{L:List (List St)}{p:Nat} (hp:p < L.length):(stH h ts P L)[h.length+1+p]?=some (.lst (L[p].map sD)):=by
 unfold stH
 rw [Nat.add_assoc,zcB,Nat.add_comm 1 p,List.getElem?_cons_succ,List.getElem?_append_left (by simpa [zd4] using hp)]
 simp [zd4,hp]
theorem zm0 {h:MH}{ts:List T3}{P:Nat}{L:List (List St)}{p:Nat} (hp:p < L.length) (ss:List St):(stH h ts P L).set (h.length+1+p) (.lst (ss.map sD))=stH h ts P (L.set p ss):=by
 unfold stH
 rw [Nat.add_assoc,znN,Nat.add_comm 1 p,List.set_cons_succ,List.set_append_left _ _ (by simpa [zd4] using hp)]
 simp [zd4,List.map_set]
theorem zie {h:MH}{ts:List T3}{P:Nat}{L:List (List St)} (hL:L.length=P):(stH h ts P L)[h.length+1+P]?=some (.lst (zds (h.length+1) P)):=by
 unfold stH
 rw [Nat.add_assoc,zcB,Nat.add_comm 1 P,List.getElem?_cons_succ,List.getElem?_append_right (by simp [zd4,hL])]
 simp [zd4,hL]
theorem zuv {h:MH}{ts:List T3}{P:Nat}{L:List (List St)}:(stH h ts P L)[h.length]?=some (.lst (ts.map tD)):=by simp [stH]
theorem zjP {n P:Nat}{i:Int} (h0:0<=i) (h1:i < P):MI.atI (zds n P) i=some (.obj (n+i.toNat)):=by
 obtain ⟨k,rfl⟩:∃ k:Nat,i=k:=⟨i.toNat,ω⟩
 have hk:k < P:=by omega
 rw [zfu (by simpa [zds] using hk)]
 simp [zds]
theorem zuG {ts:List T3}{d:List Nat}{k:Nat}{L:List (List St)}{t0:T3}{P:Nat} (ok:t0.Ok P) (hL:L.length=P) (hleg:∀ f,zbc ts ⟨k,f⟩=some (zbe f t0))
   (hO:∀ p (hp:p < L.length),Onw ts d p L[p]) {L2:List (List St)} (e:L2=(L.set t0.a.toNat (L[t0.a.toNat]'(by have:=ok.a0;have:=ok.a1;omega)++[⟨k,true⟩])).set t0.b.toNat (L[t0.b.toNat]'(by have:=ok.b0;have:=ok.b1;omega)++[⟨k,false⟩])) :
   ∀ p (hp:p < L2.length),Onw ts (d++[k]) p L2[p]:=by
 have hne:t0.a.toNat≠t0.b.toNat:=by have:=ok.a0;have:=ok.b0;have:=ok.ne;omega
 have ha0:=ok.a0
 have hb0:=ok.b0
 intro p hp s
 have hp':p < L.length:=by rw [e]at hp;simpa using hp
 have hOp:=hO p hp' s
 have leg_s:s.k=k->∃ f,s=⟨k,f⟩:=by rcases s with ⟨a,f⟩;rintro rfl;exact ⟨f,rfl⟩
 have e2:L2[p]=if t0.b.toNat=p then L[p]++[⟨k,false⟩] else if t0.a.toNat=p then L[p]++[⟨k,true⟩] else L[p]:=by
   subst e
   simp only [List.getElem_set]
   split
   . rename_i h1;subst h1;rfl
   . split
     . rename_i h1;subst h1;rfl
     . rfl
 rw [e2]
 constructor
 . intro hs
   split at hs
   . rename_i h1
     rcases List.mem_append.1 hs with hs | hs
     . have:=hOp.1 hs;exact ⟨by simp [this.1],this.2⟩
     . simp at hs;subst hs
       refine ⟨ς,zbe false t0,hleg false,?_⟩
       clear hOp
       simp [zbe,tn];omega
   . split at hs
     . rename_i h1
       rcases List.mem_append.1 hs with hs | hs
       . have:=hOp.1 hs;exact ⟨by simp [this.1],this.2⟩
       . simp at hs;subst hs
         refine ⟨ς,zbe true t0,hleg true,?_⟩
         clear hOp
         simp [zbe];omega
     . have:=hOp.1 hs;exact ⟨by simp [this.1],this.2⟩
 . rintro ⟨h1,t,h2,h3⟩
   by_cases hd:s.k∈d
   . have:=hOp.2 ⟨hd,t,h2,h3⟩
     split
     . simp [this]
     . split
       . simp [this]
       . exact this
   . have hk:s.k=k:=by simpa [hd] using h1
     obtain ⟨f,rfl⟩:=leg_s hk
     rw [hleg f]at h2
     cases h2
     clear hOp
     cases f
     . simp [zbe,tn]at h3
       rw [if_pos ω];simp
     . simp [zbe]at h3
       rw [if_neg ω,if_pos ω];simp
theorem zf1 {h:MH}{w t c:Nat}{P:Nat}{turn:Int}{ts:List T3} (W:zbu h w t P turn ts) (hts:∀ t∈ts,t.Ok P) (hP0:1<=P) (hP:P<=1000000) {cs:List Nat} (hc:h[c]?=some (.lst (cs.map fun k=> .int (k:Nat)))) (hcs:∀ k∈cs,k < ts.length) (hcl:cs.length<=100000) :
   ∃ g L,app zfS [.obj w,.obj c] h = .ok (.obj (h.length+1+P)) (h++g)∧Tbl (h++g) (h.length+1+P) (h.length+1) P L∧∀ p (hp:p < L.length),Onw ts cs p L[p]:=by
 unfold app zfS
 have loop:=zhu (t := .nm 4) (gs:=[(c,.lst (cs.map fun k=> .int (k:Nat)))]) (body:=(zh (zY (zbf (bin zj (var 3) (bin zj (bin zj (var 2) (var 4)) (zb (.int (0))))) (zJ (za (var 4) (za (zb (.int (1))) ze)))))
   (zY (zbf (bin zj (var 3) (bin zj (bin zj (var 2) (var 4)) (zb (.int (1))))) (zJ (za (var 4) (za (zb (.int (-1))) ze))))))) (fun k:Nat=>D.int k)
   (fun d e h'=>∃ L x,e=[some (.obj w),some (.obj c),some (.obj h.length),some (.obj (h.length+1+P)),x]∧h'=stH h ts P L∧L.length=P∧(∀ p (hp:p < L.length),Onw ts d p L[p])∧∀ p (hp:p < L.length),L[p].length<=2 * d.length) cs (by
   rintro d k r e h' eq ⟨L,x,rfl,rfl,hL,hO,hN⟩
   refine ⟨zb0 (zH hc _),_,rfl,?_⟩
   have hk:=hcs k (by rw [<- eq];simp)
   have hat:MI.atI (ts.map tD) (k:Int)=some (tD ts[k]):=by rw [zfu (by simpa using hk)];simp
   have ok:=hts ts[k] (List.getElem_mem hk)
   have hleg1:∀ f,zbc ts ⟨k,f⟩=some (zbe f ts[k]):=fun f=>by simp [zbc,hk]
   generalize ts[k]=t0 at hat ok hleg1
   have hdl:d.length < 100000:=by have:=congrArg List.length eq;simp at this;omega
   have ha0:=ok.a0
   have ha1:=ok.a1
   have hb0:=ok.b0
   have hb1:=ok.b1
   have hne:t0.a.toNat≠t0.b.toNat:=by have:=ok.ne;omega
   have hA:t0.a.toNat < L.length:=by omega
   have hB:t0.b.toNat < L.length:=by omega
   have hB2:t0.b.toNat < (L.set t0.a.toNat (L[t0.a.toNat]++[⟨k,true⟩])).length:=by simpa using hB
   have r1:=zjP (n:=h.length+1) (P:=P) ha0 ha1
   have r2:=zjP (n:=h.length+1) (P:=P) hb0 hb1
   have l1:=hN _ hA
   have l2:=hN _ hB
   have s1:(L[t0.a.toNat].map sD)++[.tup [.int k,.int 1]]=(L[t0.a.toNat]++[(⟨k,true⟩:St)]).map sD:=by simp [sD,wy]
   have s2:(L[t0.b.toNat].map sD)++[.tup [.int k,.int (-1)]]=(L[t0.b.toNat]++[(⟨k,false⟩:St)]).map sD:=by simp [sD,wy]
   refine ⟨[some (.obj w),some (.obj c),some (.obj h.length),some (.obj (h.length+1+P)),some (.int k)],stH h ts P ((L.set t0.a.toNat (L[t0.a.toNat]++[⟨k,true⟩])).set t0.b.toNat (L[t0.b.toNat]++[⟨k,false⟩])),?_,_,_,rfl,rfl,by simpa using hL,zuG ok hL hleg1 hO rfl,?_⟩
   . have g1:=zj1 (h:=h) (ts:=ts) (P:=P) hA
     have g2:=zj1 (h:=h) (ts:=ts) (P:=P) hB2
     rw [List.getElem_set_ne hne]at g2
     have t1:=zie (h:=h) (ts:=ts) hL
     have t2:=zie (h:=h) (ts:=ts) (L:=L.set t0.a.toNat (L[t0.a.toNat]++[⟨k,true⟩])) (P:=P) (by simpa using hL)
     have u1:=zm0 (h:=h) (ts:=ts) (P:=P) hA (L[t0.a.toNat]++[⟨k,true⟩])
     have u2:=zm0 (h:=h) (ts:=ts) (P:=P) hB2 (L[t0.b.toNat]++[⟨k,false⟩])
     have m1:L[t0.a.toNat].length < 1000000:=by omega
     have m2:L[t0.b.toNat].length < 1000000:=by omega
     rw [<- s1]at u1
     rw [<- s2]at u2
     simp [zbs,zuv,hat,r1,r2,g1,g2,t1,t2,zcC,m1,m2,u1,u2]
   . intro p hp
     have hp':p < L.length:=by simpa using hp
     have:=hN p hp'
     simp only [List.getElem_set]
     split
     . rename_i e;subst e;simp;omega
     . split
       . rename_i e;subst e;simp;omega
       . simp;omega)
   (by rintro e h' ⟨L,x,rfl,rfl,_⟩;exact zb0 (zH hc _)) [some (.obj w),some (.obj c),some (.obj h.length),some (.obj (h.length+1+P)),none] (stH h ts P (List.replicate P [])) ⟨_,none,rfl,rfl,ς,by
     intro p hp s
     simp [Onw],ς⟩
 obtain ⟨e2,h2,hr,L,x,rfl,rfl,hL,hO,_⟩:=loop
 refine ⟨.lst (ts.map tD) :: (zd4 L++[.lst (zds (h.length+1) P)]),L,?_,⟨?_,hL,?_⟩,hO⟩
 . have cn:=zmg (h:=h++[.lst (ts.map tD)]) (gs:=[]) (fun _=>rfl) (List.range P) 0 [] none
   have q:(-1000000:Int)<=P∧(P:Int)<=1000000:=by omega
   simp at cn
   simp [W.w,zcM,zdh W,W.wA,q,zbH,hP]
   have eL:(h++O.lst (ts.map tD) :: List.replicate P (O.lst [])).length=h.length+1+P:=by simp;omega
   have eH:(h++O.lst (ts.map tD) :: List.replicate P (O.lst []))++[O.lst ((List.range P).map fun k=>D.obj (h.length+1+k))]=stH h ts P (List.replicate P []):=by simp [stH,zd4,zds]
   have hc2:∀ L,(stH h ts P L)[c]?=some (.lst (cs.map fun k=> .int (k:Nat))):=fun L=>zH hc _
   rw [cn]
   simp only [zu3,znd,zbv,eL,eH]
   simp [hc2,hr]
   have hlt:¬ h.length+1+P < h.length:=by omega
   have hfl:(O.lst (zds (h.length+1) P)).flat=false:=by
     obtain ⟨m,rfl⟩:∃ m,P=m+1:=⟨P - 1,ω⟩
     simp [O.flat,zds,List.range_succ_eq_map,nrs,D.nr]
   simp only [gc]
   rw [show stH h ts P L=h++(.lst (ts.map tD) :: (zd4 L++[.lst (zds (h.length+1) P)])) from rfl,if_pos (zd0 _ _)]
   have tb:=zie (h:=h) (ts:=ts) hL
   unfold stH at tb
   simp [gcV,hlt,tb,hfl]
 . exact zie hL
 . intro p hp
   exact zj1 ω
end Mx
end
section
open PySem MI
namespace Mx
open My
noncomputable abbrev En:=Int×Option St
noncomputable def oD:Option St->D
 | none=> .non
 | some s=>sD s
noncomputable def eD (e:En):Int×D:=(e.1,oD e.2)
noncomputable def keys (A:List En):List Int:=A.map (·.1)
@[simp] theorem zgE (A B:List En):keys (A++B)=keys A++keys B:=by simp [keys]
@[simp] theorem zig (e:En):keys [e]=[e.1]:=rfl
@[simp] theorem zy8 (e:En) (A:List En):keys (e :: A)=e.1 :: keys A:=rfl
@[simp] theorem zw2:keys []=[]:=rfl
theorem zhe:∀ (A:List En) (k:Int),(look k (A.map eD)).isSome=decide (k∈keys A)
 | [],k=>rfl
 | e :: A,k=>by
   simp only [List.map_cons,look]
   by_cases h:e.1=k
   . simp [eD,h]
   . have h':¬ k=e.1:=fun c=>h c.symm
     have:=zhe A k
     have hh:¬ (eD e).1=k:=h
     rw [if_neg hh,this]
     simp [h']
theorem zmo:∀ (A:List En) (k:Int),((A.map eD).any fun p=>decide (p.1=k))=decide (k∈keys A)
 | [],k=>rfl
 | e :: A,k=>by
   have:=zmo A k
   simp only [List.map_cons,List.any_cons,this]
   by_cases h:e.1=k
   . simp [eD,h]
   . have h':¬ k=e.1:=fun c=>h c.symm
     simp [eD,h,h']
theorem zk3 {A:List En}{k:Int} (h:k∉keys A) (o:Option St):zcr k (oD o) (A.map eD)=(A++[(k,o)]).map eD:=by
 unfold zcr
 rw [if_neg (by rw [zmo];simp [h])]
 simp [eD]
theorem zrL (o:Option St):(oD o).nr=true:=by cases o <;> rfl
theorem zla (A:List En):(O.dic (A.map eD)).flat=true:=by
 simp only [O.flat,List.map_map]
 exact zgw _ (fun e=>zrL e.2) A
inductive zbN (ts:List T3) (cs:List Nat) (A:List En) (start:Int):List En->Prop
 | root:zbN ts cs A start [(start,none)]
 | step {N:List En} {s:St} {t:T3}:zbN ts cs A start N->zbc ts s=some t->s.k∈cs->t.a∈keys N->t.b∉keys (A++N)->zbN ts cs A start (N++[(t.b,some s)])
theorem zbN.nodup {ts:List T3}{cs:List Nat}{A N:List En}{start:Int} (G:zbN ts cs A start N):(keys N).Nodup:=by
 induction G with
 | root=>simp
 | step G hl hk ha hb ih =>
   simp only [zgE,zig]
   rw [List.nodup_append]
   refine ⟨ih,ς,?_⟩
   intro x hx y hy e
   simp at hy
   subst hy;subst e
   exact hb (by simp [hx])
theorem zbN.range {ts:List T3}{cs:List Nat}{A N:List En}{start:Int}{P:Nat} (hts:∀ t∈ts,t.Ok P) (h0:0<=start) (h1:start < P) (G:zbN ts cs A start N):∀ x∈keys N,0<=x∧x < (P:Int):=by
 induction G with
 | root=>simp;exact ⟨h0,h1⟩
 | step G hl hk ha hb ih =>
   intro x hx
   simp at hx
   rcases hx with hx | rfl
   . exact ih x hx
   . have:=zuh hts hl;exact ⟨this.b0,this.b1⟩
theorem znt {l:List Int}{P:Nat} (hn:l.Nodup) (hr:∀ x∈l,0<=x∧x < (P:Int)):l.length<=P:=by
 have:=zeL l ((List.range P).map fun (k:Nat)=>(k:Int)) hn (fun x hx=>by
   have:=hr x hx
   exact List.mem_map.2 ⟨x.toNat,List.mem_range.2 ω,ω⟩)
 simpa using this
noncomputable def spH (h:MH) (q:Nat) (A:List En) (W:List Int):MH:=h.set q (.dic (A.map eD))++[.lst (W.map .int)]
section
variable {h:MH}{q:Nat}{A:List En}{W:List Int}
theorem znf (hq:q < h.length):(spH h q A W)[q]?=some (.dic (A.map eD)):=by
 unfold spH
 rw [List.getElem?_append_left (by simpa using hq),List.getElem?_set_self hq]
theorem zg7 {n:Nat}{o:O} (hn:h[n]?=some o) (hnq:n≠q):(spH h q A W)[n]?=some o:=by
 unfold spH
 rw [List.getElem?_append_left (by simpa using (List.getElem?_eq_some_iff.1 hn).1),List.getElem?_set_ne (fun e=>hnq e.symm)]
 exact hn
theorem zki:(spH h q A W)[h.length]?=some (.lst (W.map .int)):=by
 unfold spH
 rw [List.getElem?_append_right ς]
 simp
theorem zvi (W2:List Int):(spH h q A W).set h.length (.lst (W2.map .int))=spH h q A W2:=by
 unfold spH
 rw [List.set_append_right _ _ ς]
 simp
theorem zt0 (hq:q < h.length) (A2:List En):(spH h q A W).set q (.dic (A2.map eD))=spH h q A2 W:=by
 unfold spH
 rw [List.set_append_left _ _ (by simpa using hq)]
 simp
end
theorem zsC {h:MH}{q:Nat}{o:O} (f:o.flat=true) (g:MH):gc h (.ok .non (h.set q o++g)) = .ok .non (h.set q o):=by
 have ok:zdZ h (h.set q o++g)=true:=by
   unfold zdZ
   rw [List.all_eq_true]
   intro i hi
   rw [List.mem_range]at hi
   rw [List.getElem?_append_left (by simpa using hi)]
   by_cases e:q=i
   . subst e
     rw [List.getElem?_set_self hi];simp [f]
   . rw [List.getElem?_set_ne e];simp
 simp [gc,ok,gcV]
noncomputable def Clo (ts:List T3) (cs:List Nat) (ps K:List Int):Prop:=∀ s t,s.k∈cs->zbc ts s=some t->t.a∈ps->t.b∈K
theorem zgP {h:MH}{n m b q P:Nat}{ts:List T3}{cs:List Nat} (hn:h[n]?=some (.lst (ts.map tD))) (hts:∀ t∈ts,t.Ok P) (hP:P<=900000) {L:List (List St)} (TB:Tbl h m b P L) (hO:∀ p (hp:p < L.length),Onw ts cs p L[p])
   {A:List En} (hA:h[q]?=some (.dic (A.map eD))) (hAl:A.length+P<=900000) {start:Int} (h0:0<=start) (h1:start < P) (hs:start∉keys A) :
   ∃ N,app zfT [.obj n,.obj m,.int start,.obj q] h = .ok .non (h.set q (.dic ((A++N).map eD)))∧zbN ts cs A start N∧Clo ts cs (keys N) (keys (A++N)):=by
 have hq:q < h.length:=(List.getElem?_eq_some_iff.1 hA).1
 have hnq:n≠q:=fun e=>by rw [e,hA]at hn;cases hn
 have hmq:m≠q:=fun e=>by have:=TB.tb;rw [e,hA]at this;cases this
 have hbq:∀ p,p < P->b+p≠q:=fun p hp e=>by have:=TB.at' p hp;rw [e,hA]at this;cases this
 unfold app zfT
 have loop:=znH (t:=(tst (bin ltV (var 5) (zbJ (zbF (var 4)))))) (body:=(zh (zm (.nm 6) (bin zj (var 4) (var 5)))
   (zh (zcY (.nm 7) (itL (bin zj (var 1) (var 6)))
   (zh (zm (.nm 8) (bin zj (zi zcR (za (var 0) (za (var 7) ze))) (zb (.int (1)))))
   (ifS (tst (bin zbL (var 8) (var 3))) (zh (zfq (var 3) (var 8) (var 7))
   (zY (zbf (var 4) (var 8)))) zu)))
   (zgF zI 5 (zb (.int (1)))))))
   (fun k e h'=>∃ N x y z place,e=[some (.obj n),some (.obj m),some (.int start),some (.obj q),some (.obj h.length),some (.int (place:Nat)),x,y,z]∧h'=spH h q (A++N) (keys N)∧zbN ts cs A start N∧place<=N.length∧k=P - place∧Clo ts cs ((keys N).take place) (keys (A++N)))
   (fun e h'=>∃ N,h'=spH h q (A++N) (keys N)∧zbN ts cs A start N∧Clo ts cs (keys N) (keys (A++N))) (by
   rintro k e h' ⟨N,x,y,z,place,rfl,rfl,G,hpl,rfl,hC⟩
   have hNl:N.length<=P:=by have:=znt G.nodup (G.range hts h0 h1);simpa [keys] using this
   have ltest:(((tst (bin ltV (var 5) (zbJ (zbF (var 4)))))):ME Bool) [some (.obj n),some (.obj m),some (.int start),some (.obj q),some (.obj h.length),some (.int (place:Nat)),x,y,z] (spH h q (A++N) (keys N)) = .ok (decide (place < N.length)) (spH h q (A++N) (keys N)):=by
     simp [zki,keys]
   by_cases hlt:place < N.length
   . right
     refine ⟨by rw [ltest];simp [hlt],?_⟩
     have hpk:place < (keys N).length:=by simpa [keys] using hlt
     have hhere:=G.range hts h0 h1 _ (List.getElem_mem hpk)
     have hat:MI.atI ((keys N).map D.int) (place:Int)=some (.int (keys N)[place]):=by rw [zfu (by simpa using hpk)];simp
     generalize hhp:(keys N)[place]=here at hhere hat
     have hhm:here∈keys N:=by rw [<- hhp];exact List.getElem_mem hpk
     have htk:(keys N).take (place+1)=(keys N).take place++[here]:=by rw [<- hhp,List.take_append_getElem hpk]
     have hpt:here.toNat < P:=by omega
     have hLl:here.toNat < L.length:=by rw [TB.len];exact hpt
     have hr:=zjP (n:=b) (P:=P) hhere.1 hhere.2
     have hss:=TB.at' here.toNat hpt
     have hon:=hO here.toNat hLl
     have hbq':=hbq here.toNat hpt
     generalize hsd:L[here.toNat]=ss at hss hon
     have hcast:((here.toNat:Nat):Int)=here:=by omega
     have inner:=zhu (t := .nm 7) (gs:=[(b+here.toNat,.lst (ss.map sD))]) (body:=(zh (zm (.nm 8) (bin zj (zi zcR (za (var 0) (za (var 7) ze))) (zb (.int (1)))))
   (ifS (tst (bin zbL (var 8) (var 3))) (zh (zfq (var 3) (var 8) (var 7))
   (zY (zbf (var 4) (var 8)))) zu))) sD
       (fun d e h'=>∃ M y z,e=[some (.obj n),some (.obj m),some (.int start),some (.obj q),some (.obj h.length),some (.int (place:Nat)),some (.int here),y,z]∧h'=spH h q (A++(N++M)) (keys (N++M))∧zbN ts cs A start (N++M)∧∀ s∈d,∀ t,zbc ts s=some t->t.b∈keys (A++(N++M))) ss (by
       rintro d s r e h' eq ⟨M,y,z,rfl,rfl,G2,hD⟩
       refine ⟨zb0 (zg7 hss hbq'),_,rfl,?_⟩
       obtain ⟨hk,t,hl,ha⟩:=(hon s).1 (by rw [<- eq];simp)
       rw [hcast]at ha
       have hlg:=ze8 (h:=spH h q (A++(N++M)) (keys (N++M))) (zg7 hn hnq) hl
       have hNMl:(keys (N++M)).length<=P:=znt G2.nodup (G2.range hts h0 h1)
       by_cases hb:t.b∈keys (A++(N++M))
       . refine ⟨_,_,?_,M,some (sD s),some (.int t.b),rfl,rfl,G2,?_⟩
         . have hl1:=zhe (A++(N++M)) t.b
           rw [decide_eq_true hb]at hl1
           simp only [List.map_append,zgE]at hl1 hlg
           simp [hlg,zbL,inV,znf hq,hl1]
         . intro s' hs' t' hl'
           rcases List.mem_append.1 hs' with h2 | h2
           . exact hD s' h2 t' hl'
           . simp at h2;subst h2;rw [hl]at hl';cases hl';exact hb
       . have G3:zbN ts cs A start (N++M++[(t.b,some s)]) := .step G2 hl hk (by rw [ha];simp [hhm]) hb
         rw [List.append_assoc]at G3
         have hkk:keys (N++(M++[(t.b,some s)]))=keys (N++M)++[t.b]:=by simp
         have haa:A++(N++(M++[(t.b,some s)]))=(A++(N++M))++[(t.b,some s)]:=by simp
         refine ⟨_,spH h q (A++(N++(M++[(t.b,some s)]))) (keys (N++(M++[(t.b,some s)]))),?_,M++[(t.b,some s)],some (sD s),some (.int t.b),rfl,rfl,G3,?_⟩
         . have hl1:=zhe (A++(N++M)) t.b
           rw [decide_eq_false hb]at hl1
           have hp1:=zk3 hb (some s)
           rw [hkk,haa]
           have w1:=zvi (h:=h) (q:=q) (A:=(A++(N++M))++[(t.b,some s)]) (W:=keys (N++M)) (keys (N++M)++[t.b])
           have q1:=zt0 (h:=h) (q:=q) (A:=A++(N++M)) (W:=keys (N++M)) hq ((A++(N++M))++[(t.b,some s)])
           have hlen:(A++(N++M)).length < 1000000:=by
             have e1:(keys (N++M)).length=(N++M).length:=by simp [keys]
             rw [List.length_append];omega
           have hlen2:(keys (N++M)).length < 1000000:=by omega
           have hpe:zcr t.b (sD s) ((A++(N++M)).map eD)=((A++(N++M))++[(t.b,some s)]).map eD:=hp1
           rw [List.map_append]at w1
           generalize keys (N++M)=KN at *
           generalize A++(N++M)=AN at *
           simp only [List.map_cons,List.map_nil]at w1
           simp [hlg,zbL,inV,znf hq,hl1]
           rw [if_pos hlen,hpe,q1]
           simp [zki,zcC,hlen2,w1]
         . intro s' hs' t' hl'
           rw [haa]
           rcases List.mem_append.1 hs' with h2 | h2
           . have:=hD s' h2 t' hl';rw [zgE];simp only [List.mem_append];exact .inl this
           . simp at h2;subst h2;rw [hl]at hl';cases hl';simp) (by
       rintro e h' ⟨M,y,z,rfl,rfl,G2,hD⟩;exact zb0 (zg7 hss hbq')) [some (.obj n),some (.obj m),some (.int start),some (.obj q),some (.obj h.length),some (.int (place:Nat)),some (.int here),y,z] (spH h q (A++N) (keys N)) ⟨[],y,z,rfl,ς,by simpa using G,ς⟩
     obtain ⟨e2,h2,hr2,M,y2,z2,rfl,rfl,G2,hD⟩:=inner
     refine ⟨P - (place+1),[some (.obj n),some (.obj m),some (.int start),some (.obj q),some (.obj h.length),some (.int ((place+1:Nat):Int)),some (.int here),y2,z2],spH h q (A++(N++M)) (keys (N++M)),ω,?_,N++M,_,_,_,place+1,rfl,rfl,G2,by simp;omega,rfl,?_⟩
     . simp [zbs,zki,hat,zg7 TB.tb hmq,hr,zg7 hss hbq',hr2]
     . intro s t hk hl ha
       rw [zgE N M,List.take_append_of_le_length ω,htk]at ha
       rcases List.mem_append.1 ha with h2 | h2
       . have:=hC s t hk hl h2
         simp at this ⊢
         rcases this with h3 | h3
         . exact .inl h3
         . exact .inr (.inl h3)
       . simp at h2
         exact hD s ((hon s).2 ⟨hk,t,hl,by rw [hcast];exact h2⟩) t hl
   . left
     refine ⟨by rw [ltest];simp [hlt],N,rfl,G,?_⟩
     intro s t hk hl ha
     refine hC s t hk hl ?_
     rw [List.take_of_length_le (by simp [keys];omega)]
     exact ha) 1000000 P [some (.obj n),some (.obj m),some (.int start),some (.obj q),some (.obj h.length),some (.int ((0:Nat):Int)),none,none,none] (spH h q (A++[(start,none)]) [start]) ω
   ⟨[(start,none)],none,none,none,0,rfl,rfl,.root,ς,ω,fun s t _ _ ha=>by simp at ha⟩
 obtain ⟨e2,h2,hr,N,rfl,G,hC⟩:=loop
 refine ⟨N,?_,G,hC⟩
 have hp1:=zk3 hs none
 have hal:A.length < 1000000:=by omega
 have e1:(h.set q (.dic ((A++[(start,none)]).map eD))).length=h.length:=by simp
 simp only [oD]at hp1
 unfold spH at hr
 simp only [zig,List.map_cons,List.map_nil]at hr
 simp [hA,hal,hp1]
 unfold zhs
 simp only [List.map_append,List.map_cons,List.map_nil,show ((0:Nat):Int)=0 from rfl]at hr
 rw [hr]
 have hf:=zla (A++N)
 rw [List.map_append]at hf
 exact zsC hf _
end Mx
end
section
open PySem MI
namespace Mx
open My
theorem Tbl.app {h:MH}{m n P:Nat}{L:List (List St)} (T:Tbl h m n P L) (g:MH):Tbl (h++g) m n P L:=⟨zH T.tb g,T.len,fun p hp=>zH (T.at' p hp) g⟩
theorem zgQ {h:MH}{w t c P:Nat}{turn:Int}{ts:List T3} (W:zbu h w t P turn ts) (hts:∀ t∈ts,t.Ok P) (hP0:1<=P) (hP:P<=900000) {cs:List Nat} (hc:h[c]?=some (.lst (cs.map fun k=> .int (k:Nat)))) (hcs:∀ k∈cs,k < ts.length) (hcl:cs.length<=100000)
   {start:Int} (h0:0<=start) (h1:start < P) :
   ∃ N,app zfU [.obj w,.obj c,.int start] h = .ok (.obj h.length) (h++[.dic (N.map eD)])∧zbN ts cs [] start N∧Clo ts cs (keys N) (keys N):=by
 unfold app zfU
 obtain ⟨g,L,hsf,TB,hO⟩:=zf1 (W.app [.dic [],.lst (ts.map tD)]) hts hP0 ω (zH hc _) hcs hcl
 have hti:=zdh (W.app [.dic []])
 obtain ⟨N,hsp,G,hC⟩:=zgP (h:=(h++[.dic [],.lst (ts.map tD)])++g) (n:=h.length+1) (q:=h.length) (A:=[]) ς hts hP TB hO ς (by simp;omega) h0 h1 ς
 refine ⟨N,?_,G,by simpa using hC⟩
 simp at hti hsf hsp
 simp [W.wA,zcM,hti,hsf,hsp]
 exact zmp (o := .dic (N.map eD)) h _ (zla N)
inductive zcH (ts:List T3) (cs:List Nat):List En->Prop
 | nil:zcH ts cs []
 | root {A:List En} {p:Int}:zcH ts cs A->p∉keys A->zcH ts cs (A++[(p,none)])
 | step {A:List En} {s:St} {t:T3}:zcH ts cs A->zbc ts s=some t->s.k∈cs->t.a∈keys A->t.b∉keys A->zcH ts cs (A++[(t.b,some s)])
theorem zcH.grow {ts:List T3}{cs:List Nat}{A N:List En}{start:Int} (B:zcH ts cs A) (hs:start∉keys A) (G:zbN ts cs A start N):zcH ts cs (A++N):=by
 induction G with
 | root=>exact .root B hs
 | step G hl hk ha hb ih =>
   rw [<- List.append_assoc]
   exact .step ih hl hk (by simp [ha]) hb
theorem zcH.nodup {ts:List T3}{cs:List Nat}{A:List En} (G:zcH ts cs A):(keys A).Nodup:=by
 induction G with
 | nil=>simp
 | root G hb ih =>
   simp only [zgE,zig]
   rw [List.nodup_append]
   refine ⟨ih,ς,?_⟩
   intro x hx y hy e
   simp at hy
   subst hy;subst e
   exact hb (by simp [hx])
 | step G hl hk ha hb ih =>
   simp only [zgE,zig]
   rw [List.nodup_append]
   refine ⟨ih,ς,?_⟩
   intro x hx y hy e
   simp at hy
   subst hy;subst e
   exact hb (by simp [hx])
noncomputable def rv (s:St):St:=⟨s.k,!s.f⟩
noncomputable def zfA (A:List En):List Int:=A.filterMap fun e=>match e.2 with
 | none=>some e.1
 | some _=>none
@[simp] theorem zyx (A B:List En):zfA (A++B)=zfA A++zfA B:=by simp [zfA]
@[simp] theorem zx1:zfA []=[]:=rfl
theorem zxx {A:List En}{x:Int} (h:x∈zfA A):x∈keys A:=by
 unfold zfA at h
 obtain ⟨e,he,h2⟩:=List.mem_filterMap.1 h
 cases h3:e.2 with
 | none=>simp [h3]at h2;subst h2;exact List.mem_map.2 ⟨e,he,rfl⟩
 | some s=>simp [h3]at h2
theorem zbN.head {ts:List T3}{cs:List Nat}{A N:List En}{start:Int} (G:zbN ts cs A start N):∃ M,N=(start,none) :: M∧∀ e∈M,e.2≠none:=by
 induction G with
 | root=>exact ⟨[],rfl,ς⟩
 | @step N s t G hl hk ha hb ih =>
   obtain ⟨M,rfl,h⟩:=ih
   refine ⟨M++[(t.b,some s)],rfl,?_⟩
   intro e he
   rcases List.mem_append.1 he with he | he
   . exact h e he
   . simp at he;subst he;simp
theorem zbN.mem {ts:List T3}{cs:List Nat}{A N:List En}{start:Int} (G:zbN ts cs A start N):start∈keys N:=by
 induction G with
 | root=>simp
 | step G _ _ _ _ ih=>simp [ih]
end Mx
end
section
open PySem MI
namespace Mx
open My
inductive TrP (ts:List T3) (N:List En):Int->List St->Prop
 | root {p:Int}:look p (N.map eD)=some .non->TrP ts N p []
 | step {p:Int} {s:St} {t:T3} {S:List St}:look p (N.map eD)=some (sD s)->zbc ts s=some t->TrP ts N t.a S->TrP ts N p (S++[s])
theorem zmx {A B:List (Int×D)}{p:Int}{d:D} (h:look p A=some d):look p (A++B)=some d:=by
 induction A with
 | nil=>cases h
 | cons x A ih =>
   simp only [List.cons_append,look]at h ⊢
   split
   . rename_i e;rw [if_pos e]at h;exact h
   . rename_i e;rw [if_neg e]at h;exact ih h
theorem zqS {A:List En}{p:Int}{o:Option St} (h:p∉keys A):look p ((A++[(p,o)]).map eD)=some (oD o):=by
 induction A with
 | nil=>simp [look,eD]
 | cons x A ih =>
   simp at h
   simp only [List.cons_append,List.map_cons,look]
   rw [if_neg (fun e=>h.1 e.symm)]
   exact ih h.2
theorem TrP.app {ts:List T3}{N M:List En}{p:Int}{S:List St} (T:TrP ts N p S):TrP ts (N++M) p S:=by
 induction T with
 | root h=>exact .root (by rw [List.map_append];exact zmx h)
 | step h hl T ih=>exact .step (by rw [List.map_append];exact zmx h) hl ih
theorem zbN.trace {ts:List T3}{cs:List Nat}{N:List En}{start:Int} (G:zbN ts cs [] start N):∀ p∈keys N,∃ S g,TrP ts N p S∧zbg ts start S=some g∧fin start g=p∧(start :: g.map (·.b)).Nodup∧(∀ x∈start :: g.map (·.b),x∈keys N)∧(∀ s∈S,s.k∈cs)∧S.length<=N.length:=by
 induction G with
 | root =>
   intro p hp
   simp at hp
   subst hp
   exact ⟨[],[],.root (by simp [look,eD,oD]),rfl,rfl,ς,ς,ς,ς⟩
 | @step N s t G hl hk ha hb ih =>
   intro p hp
   simp at hp hb
   rcases hp with hp | rfl
   . obtain ⟨S,g,h1,h2,h3,h4,h5,h6,h7⟩:=ih p hp
     exact ⟨S,g,h1.app,h2,h3,h4,fun x hx=>by simp [h5 x hx],h6,by simp;omega⟩
   . obtain ⟨S,g,h1,h2,h3,h4,h5,h6,h7⟩:=ih t.a ha
     refine ⟨S++[s],g++[t],.step (zqS hb) hl h1.app,zjE h2 hl h3.symm,ς,?_,?_,?_,by simp;omega⟩
     . have:start :: (g++[t]).map (·.b)=(start :: g.map (·.b))++[t.b]:=by simp
       rw [this,List.nodup_append]
       refine ⟨h4,ς,?_⟩
       intro x hx y hy e
       simp at hy;subst hy;subst e
       exact hb (h5 _ hx)
     . intro x hx
       have:start :: (g++[t]).map (·.b)=(start :: g.map (·.b))++[t.b]:=by simp
       rw [this]at hx
       rcases List.mem_append.1 hx with hx | hx
       . simp [h5 x hx]
       . simp at hx;simp [hx]
     . intro x hx
       rcases List.mem_append.1 hx with hx | hx
       . exact h6 x hx
       . simp at hx;subst hx;exact hk
theorem zs5 {h:MH}{ts:List T3}{N:List En}{w goal:D}{q:Nat} (hq:h[q]?=some (.dic (N.map eD))) {p:Int}{S:List St} (T:TrP ts N p S) :
   ∀ (acc:List St) (fuel:Nat),S.length < fuel->acc.length+S.length<=900000->∃ p',ze2 (tst (bin zdP (bin zj (var 1) (var 5)) (zb .non))) (zh (zY (zbf (var 4) (bin zj (var 1) (var 5))))
   (zm (.nm 5) (bin zj (zi zcR (za (var 3) (za (bin zj (var 1) (var 5)) ze))) (zb (.int (0)))))) fuel
     [some w,some (.obj q),some goal,some (.obj h.length),some (.obj (h.length+1)),some (.int p)] (h++[.lst (ts.map tD),.lst (acc.map sD)]) =
     .nx [some w,some (.obj q),some goal,some (.obj h.length),some (.obj (h.length+1)),some (.int p')] (h++[.lst (ts.map tD),.lst ((acc++S.reverse).map sD)]):=by
 induction T with
 | @root p hl =>
   intro acc fuel hf _
   obtain ⟨f,rfl⟩:∃ f,fuel=f+1:=⟨fuel - 1,by simp at hf;omega⟩
   refine ⟨p,?_⟩
   rw [ze2]
   simp [zbs,zH hq,hl]
 | @step p s t S hl hleg T ih =>
   intro acc fuel hf hal
   obtain ⟨f,rfl⟩:∃ f,fuel=f+1:=⟨fuel - 1,ω⟩
   simp at hf hal
   obtain ⟨p',ih⟩:=ih (acc++[s]) f ω (by simp;omega)
   refine ⟨p',?_⟩
   have hlg:=ze8 (h:=h++[.lst (ts.map tD),.lst ((acc++[s]).map sD)]) (l:=h.length) ς hleg
   have hac:acc.length < 1000000:=by omega
   have hne:¬ sD s = .non:=by simp [sD]
   simp at ih hlg
   rw [ze2]
   simp [zbs,zH hq,hl,hne,zcC,hac,hlg]
   exact ih
theorem zgR {h:MH}{w t q P:Nat}{turn:Int}{ts:List T3} (W:zbu h w t P turn ts) {N:List En} (hq:h[q]?=some (.dic (N.map eD))) {p:Int}{S:List St} (T:TrP ts N p S) (hS:S.length<=900000) :
   app zfV [.obj w,.obj q,.int p] h = .ok (.obj h.length) (h++[.lst (S.map sD)]):=by
 unfold app zfV
 obtain ⟨p',hl⟩:=zs5 (w := .obj w) (goal := .int p) hq T [] 1000000 ω (by simp;omega)
 simp at hl
 simp [W.w,zcM,zdh W,zhs,hl]
 exact zh8 h _ (k:=1) rfl (zj9 S)
noncomputable def zdx (A:List En):List Nat:=A.filterMap fun e=>e.2.map (·.k)
theorem zlJ {A:List En}{k:Nat}:k∈zdx A↔∃ e∈A,∃ s,e.2=some s∧s.k=k:=by
 unfold zdx
 simp only [List.mem_filterMap,Option.map_eq_some_iff]
theorem zcH.ends {ts:List T3}{cs:List Nat}{A:List En} (B:zcH ts cs A):∀ e∈A,∀ s,e.2=some s->s.k∈cs∧∃ t,zbc ts s=some t∧t.a∈keys A∧t.b∈keys A:=by
 induction B with
 | nil=>simp
 | root B hb ih =>
   intro e he s hs
   rcases List.mem_append.1 he with he | he
   . obtain ⟨h1,t,h2,h3,h4⟩:=ih e he s hs
     exact ⟨h1,t,h2,by simp [h3],by simp [h4]⟩
   . simp at he;subst he;cases hs
 | step B hl hk ha hb ih =>
   intro e he s hs
   rcases List.mem_append.1 he with he | he
   . obtain ⟨h1,t,h2,h3,h4⟩:=ih e he s hs
     exact ⟨h1,t,h2,by simp [h3],by simp [h4]⟩
   . simp at he;subst he;cases hs
     exact ⟨hk,_,hl,by simp [ha],ς⟩
theorem zu5 {ts:List T3}{s s':St}{t t':T3} (h:zbc ts s=some t) (h':zbc ts s'=some t') (e:s.k=s'.k):t'=t∨t'=tn t:=by
 unfold zbc at *
 rw [<- e]at h'
 cases hk:ts[s.k]? with
 | none=>rw [hk]at h;cases h
 | some t0 =>
   rw [hk]at h h'
   simp at h h'
   subst h;subst h'
   cases s.f <;> cases s'.f <;> simp [zbe,tn]
theorem zcH.ks_nodup {ts:List T3}{cs:List Nat}{A:List En} (B:zcH ts cs A):(zdx A).Nodup:=by
 induction B with
 | nil=>simp [zdx]
 | root B hb ih=>simpa [zdx] using ih
 | @step A s t B hl hk ha hb ih =>
   have e1:zdx (A++[(t.b,some s)])=zdx A++[s.k]:=by simp [zdx]
   rw [e1,List.nodup_append]
   refine ⟨ih,ς,?_⟩
   intro x hx y hy e
   simp at hy
   obtain ⟨en,he,s',h1,h2⟩:=zlJ.1 hx
   obtain ⟨_,t',h3,h4,h5⟩:=B.ends en he s' h1
   rcases zu5 h3 hl ω with h6 | h6
   . subst h6;exact hb h5
   . subst h6;exact hb h4
theorem zko {x y:Int}:∀ {l:List Int},x∈zbV y l↔x=y∨x∈l
 | []=>by simp [zbV]
 | z :: l=>by
   unfold zbV
   split
   . simp
   . simp only [List.mem_cons,zko (l:=l)]
     constructor
     . rintro (h | h | h)
       . exact .inr (.inl h)
       . exact .inl h
       . exact .inr (.inr h)
     . rintro (h | h | h)
       . exact .inr (.inl h)
       . exact .inl h
       . exact .inr (.inr h)
theorem zfC {x:Int}:∀ {l:List Int},x∈sortI l↔x∈l
 | []=>by simp [sortI]
 | z :: l=>by
   have:=zfC (x:=x) (l:=l)
   unfold sortI at *
   rw [List.foldr_cons,zko,this,List.mem_cons]
theorem zm2 {y:Int}:∀ {l:List Int},(zbV y l).length=l.length+1
 | []=>rfl
 | z :: l=>by
   unfold zbV
   split
   . simp
   . simp [zm2 (l:=l)]
theorem zlF:∀ {l:List Int},(sortI l).length=l.length
 | []=>rfl
 | z :: l=>by
   have:=zlF (l:=l)
   unfold sortI at *
   rw [List.foldr_cons,zm2,this,List.length_cons]
end Mx
end
section
open PySem MI
namespace Mx
open My
noncomputable def zd3:List Int:=[1000003,1000033,1000037,1000039,1000081,1000099,1000117,1000121,1000133,1000151,1000159,1000171,1000183,1000187,1000193,1000199]
@[irreducible] noncomputable def zbY (a b m:Int):Int:=(a * 48271+b * 69621) % hAt zd3 (b % 16) % m
theorem zed (a b:Int) {m:Int} (hm:0 < m):0<=zbY a b m:=by unfold zbY;exact Int.emod_nonneg _ ω
theorem zef (a b:Int) {m:Int} (hm:0 < m):zbY a b m < m:=by unfold zbY;exact Int.emod_lt_of_pos _ hm
theorem zk8 {l:List Int}{i:Int} (h0:0<=i) (h1:i < l.length):hAt l i∈l:=by
 have:i.toNat < l.length:=by omega
 simp [hAt,this]
theorem zsJ {i:Int} (h0:0<=i) (h1:i < 16):0 < hAt zd3 i:=by
 have h:=zk8 (l:=zd3) h0 (by simpa [zd3] using h1)
 revert h
 generalize hAt zd3 i=x
 have:∀ x∈zd3,0 < x:=by decide
 exact this x
theorem zcQ {a b m:Int} (hm:0 < m) (h:MH):app zy [.int a,.int b,.int m] h = .ok (.int (zbY a b m)) h:=by
 unfold app zy
 have h0:0<=b % 16:=Int.emod_nonneg _ ω
 have h1:b % 16 < 16:=Int.emod_lt_of_pos _ ω
 have at16:=zgq (hs:=zd3) h0 (by simpa [zd3] using h1)
 have hp:=zsJ h0 h1
 have s1:zb8 48271=true:=by decide
 have s2:zb8 69621=true:=by decide
 unfold zbY
 generalize hAt zd3 (b % 16)=p at *
 simp only [zd3,List.map_cons,List.map_nil]at at16
 simp [s1,s2,zj,at16,hp,hm]
noncomputable def zdy (ns:List Int) (i:Int):Int:=if i < ns.length then hAt ns i else 0
theorem zmy {ns:List Int}{n:Nat}{h:MH} (hn:h[n]?=some (.scr (ns.map .int))) {i:Int} (h0:0<=i):app zbm [.obj n,.int i] h = .ok (.int (zdy ns i)) h:=by
 unfold app zbm zdy
 by_cases hl:i < ns.length
 . simp [hn,hl,zbs,zgq h0 hl]
 . simp [hn,hl]
theorem zjN {v c m:Int} (h0:0<=v) (h1:v < m) (c0:0 < c) (c1:c < m):0<=(v+c) % m∧(v+c) % m < m∧(v+c) % m≠v:=by
 refine ⟨Int.emod_nonneg _ ω,Int.emod_lt_of_pos _ ω,?_⟩
 by_cases h:v+c < m
 . rw [Int.emod_eq_of_lt ω h];omega
 . have:(v+c) % m=v+c - m:=by
     rw [<- Int.sub_emod_right,Int.emod_eq_of_lt ω ω]
   omega
theorem zsO {ns:List Int}{n:Nat}{h:MH} (hn:h[n]?=some (.scr (ns.map .int))) {c P turn v4 v5:Int}{b6:Bool}{k:Nat} (hk:k < ns.length) {v9 v10 v14:Int}{x y z:Option D}{ts:List T3} (hl:ts.length<=1000) (ht:0<=turn) (hv:-400000<=v14∧v14<=400000) :
   ∃ n14,-1000000<=n14∧n14<=1000000∧(zh (ifS (zbt (tst (bin gtV (var 3) (zb (.int (0))))) (zbt (tst (bin eqV (zi zy (za (bin zj (var 0) (var 8)) (za (zb (.int (12))) (za (zb (.int (3))) ze)))) (zb (.int (0))))) (tst (bin ltV (bin zI (zdV (var 14)) (var 3)) (zb (.int (1000000))))))) (zm (.nm 14) (bin z6 (var 14) (var 3))) zu)
   (zY (zbf (var 7) (zJ (za (var 9) (za (var 10) (za (var 14) ze))))))) [some (.obj n),some (.int c),some (.int P),some (.int turn),some (.int v4),some (.int v5),some (.bl b6),some (.obj h.length),some (.int k),some (.int v9),some (.int v10),x,y,z,some (.int v14)] (h++[.lst (ts.map tD)]) =
     .nx [some (.obj n),some (.int c),some (.int P),some (.int turn),some (.int v4),some (.int v5),some (.bl b6),some (.obj h.length),some (.int k),some (.int v9),some (.int v10),x,y,z,some (.int n14)] (h++[.lst ((ts++[(⟨v9,v10,n14⟩:T3)]).map tD)]):=by
 have hat:=zgq (hs:=ns) (i:=(k:Int)) ω ω
 have hl':ts.length < 1000000:=by omega
 by_cases c1:0 < turn
 . by_cases c2:zbY (hAt ns k) 12 3=0
   . by_cases c3:(if v14 < 0 then -v14 else v14)+turn < 1000000
     . refine ⟨v14 - turn,by split at c3 <;> omega,by split at c3 <;> omega,?_⟩
       simp [c1,c2,c3,zbs,zH hn,hat,zcQ,zcC,hl',tD]
     . refine ⟨v14,ω,ω,?_⟩
       simp [c1,c2,c3,zbs,zH hn,hat,zcQ,zcC,hl',tD]
   . refine ⟨v14,ω,ω,?_⟩
     simp [c1,c2,zbs,zH hn,hat,zcQ,zcC,hl',tD]
 . refine ⟨v14,ω,ω,?_⟩
   simp [c1,zbs,zH hn,hat,zcQ,zcC,hl',tD]
theorem zwg {ns:List Int}{n:Nat}{h:MH} (hn:h[n]?=some (.scr (ns.map .int))) {c P turn v4 v5:Int}{b6:Bool}{k:Nat} (hk:k < ns.length) {v9 v10:Int}{x y z u:Option D}{ts:List T3} (hl:ts.length<=1000) (ht:0<=turn) (h4:0 < v4) (h4':v4<=400000) (h5:0<=v5) :
   ∃ n14,-1000000<=n14∧n14<=1000000∧(zh (zm (.nm 14) (bin z6 (zi zy (za (bin zbD (var 10) (zb (.int (7919)))) (za (zb (.int (6))) (za (var 4) ze)))) (zi zy (za (bin zbD (var 9) (zb (.int (7919)))) (za (zb (.int (6))) (za (var 4) ze))))))
   (zh (ifS (zbt (tst (bin gtV (var 5) (zb (.int (0))))) (tst (bin eqV (zi zy (za (bin zj (var 0) (var 8)) (za (bin zI (bin zbl (var 8) (zb (.int (3)))) (zb (.int (9)))) (za (var 5) ze)))) (zb (.int (0)))))) (zm (.nm 14) (bin zI (var 14) (zb (.int (1))))) zu)
   (zh (ifS (zbt (tst (bin gtV (var 3) (zb (.int (0))))) (zbt (tst (bin eqV (zi zy (za (bin zj (var 0) (var 8)) (za (zb (.int (12))) (za (zb (.int (3))) ze)))) (zb (.int (0))))) (tst (bin ltV (bin zI (zdV (var 14)) (var 3)) (zb (.int (1000000))))))) (zm (.nm 14) (bin z6 (var 14) (var 3))) zu)
   (zY (zbf (var 7) (zJ (za (var 9) (za (var 10) (za (var 14) ze))))))))) [some (.obj n),some (.int c),some (.int P),some (.int turn),some (.int v4),some (.int v5),some (.bl b6),some (.obj h.length),some (.int k),some (.int v9),some (.int v10),x,y,z,u] (h++[.lst (ts.map tD)]) =
     .nx [some (.obj n),some (.int c),some (.int P),some (.int turn),some (.int v4),some (.int v5),some (.bl b6),some (.obj h.length),some (.int k),some (.int v9),some (.int v10),x,y,z,some (.int n14)] (h++[.lst ((ts++[(⟨v9,v10,n14⟩:T3)]).map tD)]):=by
 have hat:=zgq (hs:=ns) (i:=(k:Int)) ω ω
 have s1:zb8 7919=true:=by decide
 have a0:=zed (v10 * 7919) 6 h4
 have a1:=zef (v10 * 7919) 6 h4
 have b0:=zed (v9 * 7919) 6 h4
 have b1:=zef (v9 * 7919) 6 h4
 have hdr:=zcQ (a:=v10 * 7919) (b:=6) h4
 have hdr2:=zcQ (a:=v9 * 7919) (b:=6) h4
 generalize zbY (v10 * 7919) 6 v4=d1 at *
 generalize zbY (v9 * 7919) 6 v4=d2 at *
 have key:∃ v14,-400000<=v14∧v14<=400000∧(ifS (zbt (tst (bin gtV (var 5) (zb (.int (0))))) (tst (bin eqV (zi zy (za (bin zj (var 0) (var 8)) (za (bin zI (bin zbl (var 8) (zb (.int (3)))) (zb (.int (9)))) (za (var 5) ze)))) (zb (.int (0)))))) (zm (.nm 14) (bin zI (var 14) (zb (.int (1))))) zu) [some (.obj n),some (.int c),some (.int P),some (.int turn),some (.int v4),some (.int v5),some (.bl b6),some (.obj h.length),some (.int k),some (.int v9),some (.int v10),x,y,z,some (.int (d1 - d2))] (h++[.lst (ts.map tD)]) =
     .nx [some (.obj n),some (.int c),some (.int P),some (.int turn),some (.int v4),some (.int v5),some (.bl b6),some (.obj h.length),some (.int k),some (.int v9),some (.int v10),x,y,z,some (.int v14)] (h++[.lst (ts.map tD)]):=by
   by_cases c1:0 < v5
   . by_cases c2:zbY (hAt ns k) ((k:Int) % 3+9) v5=0
     . exact ⟨d1 - d2+1,ω,ω,by simp [c1,c2,zbs,zH hn,hat,zcQ]⟩
     . exact ⟨d1 - d2,ω,ω,by simp [c1,c2,zbs,zH hn,hat,zcQ]⟩
   . exact ⟨d1 - d2,ω,ω,by simp [c1]⟩
 obtain ⟨v14,k0,k1,hkey⟩:=key
 obtain ⟨n14,m0,m1,htl⟩:=zsO hn (c:=c) (P:=P) (turn:=turn) (v4:=v4) (v5:=v5) (b6:=b6) hk (v9:=v9) (v10:=v10) (x:=x) (y:=y) (z:=z) hl ht ⟨k0,k1⟩
 refine ⟨n14,m0,m1,?_⟩
 have st:(zm (.nm 14) (bin z6 (zi zy (za (bin zbD (var 10) (zb (.int (7919)))) (za (zb (.int (6))) (za (var 4) ze)))) (zi zy (za (bin zbD (var 9) (zb (.int (7919)))) (za (zb (.int (6))) (za (var 4) ze)))))) [some (.obj n),some (.int c),some (.int P),some (.int turn),some (.int v4),some (.int v5),some (.bl b6),some (.obj h.length),some (.int k),some (.int v9),some (.int v10),x,y,z,u] (h++[.lst (ts.map tD)]) =
     .nx [some (.obj n),some (.int c),some (.int P),some (.int turn),some (.int v4),some (.int v5),some (.bl b6),some (.obj h.length),some (.int k),some (.int v9),some (.int v10),x,y,z,some (.int (d1 - d2))] (h++[.lst (ts.map tD)]):=by
   simp [s1,hdr,hdr2]
 rw [zbx,st,zbv,zbx,hkey,zbv]
 exact htl
theorem zvu {ns:List Int}{n:Nat}{h:MH} (hn:h[n]?=some (.scr (ns.map .int))) {c P turn v4 v5:Int}{b6:Bool} (h6:b6=true->3 < P) (hP:2<=P) (hP':P<=1000) {k:Nat} (hk:k < ns.length) {x9 x10 x y z u:Option D}{ts:List T3} (hl:ts.length<=1000) (ht:0<=turn) (h4:0 < v4) (h4':v4<=400000) (h5:0<=v5) :
   ∃ t3:T3,t3.Ok P∧∃ x9' x10' x' y' z' u',(zh (zm (.nm 9) (zi zy (za (bin zj (var 0) (var 8)) (za (bin zI (bin zbl (var 8) (zb (.int (5)))) (zb (.int (1)))) (za (var 2) ze)))))
   (zh (zm (.nm 10) (bin zbl (bin zI (bin zI (var 9) (zb (.int (1)))) (zi zy (za (bin zj (var 0) (var 8)) (za (bin zI (bin zbl (var 8) (zb (.int (7)))) (zb (.int (2)))) (za (bin z6 (var 2) (zb (.int (1)))) ze))))) (var 2)))
   (zh (ifS (tru (var 6)) (zh (zm (.nm 11) (ifE (tst (bin ltV (var 9) (bin zcV (var 2) (zb (.int (2)))))) (zb (.int (0))) (bin zcV (var 2) (zb (.int (2))))))
   (zh (zm (.nm 12) (ifE (tst (bin eqV (var 11) (zb (.int (0))))) (bin zcV (var 2) (zb (.int (2)))) (bin z6 (var 2) (var 11))))
   (zh (zm (.nm 13) (bin zI (zb (.int (1))) (zi zy (za (bin zj (var 0) (var 8)) (za (bin zI (bin zbl (var 8) (zb (.int (7)))) (zb (.int (2)))) (za (bin z6 (var 12) (zb (.int (1)))) ze))))))
   (zm (.nm 10) (bin zI (var 11) (bin zbl (bin zI (bin z6 (var 9) (var 11)) (var 13)) (var 12))))))) zu)
   (zh (zm (.nm 14) (bin z6 (zi zy (za (bin zbD (var 10) (zb (.int (7919)))) (za (zb (.int (6))) (za (var 4) ze)))) (zi zy (za (bin zbD (var 9) (zb (.int (7919)))) (za (zb (.int (6))) (za (var 4) ze))))))
   (zh (ifS (zbt (tst (bin gtV (var 5) (zb (.int (0))))) (tst (bin eqV (zi zy (za (bin zj (var 0) (var 8)) (za (bin zI (bin zbl (var 8) (zb (.int (3)))) (zb (.int (9)))) (za (var 5) ze)))) (zb (.int (0)))))) (zm (.nm 14) (bin zI (var 14) (zb (.int (1))))) zu)
   (zh (ifS (zbt (tst (bin gtV (var 3) (zb (.int (0))))) (zbt (tst (bin eqV (zi zy (za (bin zj (var 0) (var 8)) (za (zb (.int (12))) (za (zb (.int (3))) ze)))) (zb (.int (0))))) (tst (bin ltV (bin zI (zdV (var 14)) (var 3)) (zb (.int (1000000))))))) (zm (.nm 14) (bin z6 (var 14) (var 3))) zu)
   (zY (zbf (var 7) (zJ (za (var 9) (za (var 10) (za (var 14) ze)))))))))))) [some (.obj n),some (.int c),some (.int P),some (.int turn),some (.int v4),some (.int v5),some (.bl b6),some (.obj h.length),some (.int k),x9,x10,x,y,z,u] (h++[.lst (ts.map tD)]) =
     .nx [some (.obj n),some (.int c),some (.int P),some (.int turn),some (.int v4),some (.int v5),some (.bl b6),some (.obj h.length),some (.int k),x9',x10',x',y',z',u'] (h++[.lst ((ts++[t3]).map tD)]):=by
 have hat:=zgq (hs:=ns) (i:=(k:Int)) ω ω
 have hP1:0 < P:=by omega
 have hP2:0 < P - 1:=by omega
 have v90:=zed (hAt ns k) ((k:Int) % 5+1) hP1
 have v91:=zef (hAt ns k) ((k:Int) % 5+1) hP1
 have hd9:=zcQ (a:=hAt ns k) (b:=(k:Int) % 5+1) hP1
 have e0:=zed (hAt ns k) ((k:Int) % 7+2) hP2
 have e1:=zef (hAt ns k) ((k:Int) % 7+2) hP2
 have hd10:=zcQ (a:=hAt ns k) (b:=(k:Int) % 7+2) hP2
 generalize zbY (hAt ns k) ((k:Int) % 5+1) P=v9 at *
 generalize zbY (hAt ns k) ((k:Int) % 7+2) (P - 1)=d at *
 have first:∀ v10,0<=v10->v10 < P->v10≠v9->∀ x y z,(∃ t3:T3,t3.Ok P∧∃ x9' x10' x' y' z' u',(zh (zm (.nm 14) (bin z6 (zi zy (za (bin zbD (var 10) (zb (.int (7919)))) (za (zb (.int (6))) (za (var 4) ze)))) (zi zy (za (bin zbD (var 9) (zb (.int (7919)))) (za (zb (.int (6))) (za (var 4) ze))))))
   (zh (ifS (zbt (tst (bin gtV (var 5) (zb (.int (0))))) (tst (bin eqV (zi zy (za (bin zj (var 0) (var 8)) (za (bin zI (bin zbl (var 8) (zb (.int (3)))) (zb (.int (9)))) (za (var 5) ze)))) (zb (.int (0)))))) (zm (.nm 14) (bin zI (var 14) (zb (.int (1))))) zu)
   (zh (ifS (zbt (tst (bin gtV (var 3) (zb (.int (0))))) (zbt (tst (bin eqV (zi zy (za (bin zj (var 0) (var 8)) (za (zb (.int (12))) (za (zb (.int (3))) ze)))) (zb (.int (0))))) (tst (bin ltV (bin zI (zdV (var 14)) (var 3)) (zb (.int (1000000))))))) (zm (.nm 14) (bin z6 (var 14) (var 3))) zu)
   (zY (zbf (var 7) (zJ (za (var 9) (za (var 10) (za (var 14) ze))))))))) [some (.obj n),some (.int c),some (.int P),some (.int turn),some (.int v4),some (.int v5),some (.bl b6),some (.obj h.length),some (.int k),some (.int v9),some (.int v10),x,y,z,u] (h++[.lst (ts.map tD)]) =
     .nx [some (.obj n),some (.int c),some (.int P),some (.int turn),some (.int v4),some (.int v5),some (.bl b6),some (.obj h.length),some (.int k),x9',x10',x',y',z',u'] (h++[.lst ((ts++[t3]).map tD)])):=by
   intro v10 a0 a1 a2 x y z
   obtain ⟨n14,m0,m1,he⟩:=zwg hn (c:=c) (P:=P) (turn:=turn) (v4:=v4) (v5:=v5) (b6:=b6) hk (v9:=v9) (v10:=v10) (x:=x) (y:=y) (z:=z) (u:=u) hl ht h4 h4' h5
   exact ⟨⟨v9,v10,n14⟩,⟨v90,v91,a0,a1,fun e=>a2 e.symm,m0,m1⟩,_,_,_,_,_,_,he⟩
 generalize hT:(zh (zm (.nm 14) (bin z6 (zi zy (za (bin zbD (var 10) (zb (.int (7919)))) (za (zb (.int (6))) (za (var 4) ze)))) (zi zy (za (bin zbD (var 9) (zb (.int (7919)))) (za (zb (.int (6))) (za (var 4) ze))))))
   (zh (ifS (zbt (tst (bin gtV (var 5) (zb (.int (0))))) (tst (bin eqV (zi zy (za (bin zj (var 0) (var 8)) (za (bin zI (bin zbl (var 8) (zb (.int (3)))) (zb (.int (9)))) (za (var 5) ze)))) (zb (.int (0)))))) (zm (.nm 14) (bin zI (var 14) (zb (.int (1))))) zu)
   (zh (ifS (zbt (tst (bin gtV (var 3) (zb (.int (0))))) (zbt (tst (bin eqV (zi zy (za (bin zj (var 0) (var 8)) (za (zb (.int (12))) (za (zb (.int (3))) ze)))) (zb (.int (0))))) (tst (bin ltV (bin zI (zdV (var 14)) (var 3)) (zb (.int (1000000))))))) (zm (.nm 14) (bin z6 (var 14) (var 3))) zu)
   (zY (zbf (var 7) (zJ (za (var 9) (za (var 10) (za (var 14) ze)))))))))=tl at *
 cases b6 with
 | false =>
   have hm:=zjN v90 v91 (c:=1+d) ω ω
   rw [<- Int.add_assoc]at hm
   obtain ⟨t3,ok,x9',x10',x',y',z',u',he⟩:=first ((v9+1+d) % P) hm.1 hm.2.1 hm.2.2 x y z
   refine ⟨t3,ok,x9',x10',x',y',z',u',?_⟩
   rw [<- he]
   simp [zbs,zH hn,hat,hd9,hd10,hP1]
 | true =>
   have hP3:=h6 rfl
   by_cases hh:v9 < P / 2
   . have q0:0 < P / 2 - 1:=by omega
     have q00:0 < P / 2:=by omega
     have f0:=zed (hAt ns k) ((k:Int) % 7+2) q0
     have f1:=zef (hAt ns k) ((k:Int) % 7+2) q0
     have hd11:=zcQ (a:=hAt ns k) (b:=(k:Int) % 7+2) q0
     generalize zbY (hAt ns k) ((k:Int) % 7+2) (P / 2 - 1)=d2 at *
     have hm:=zjN v90 hh (c:=1+d2) ω ω
     obtain ⟨t3,ok,x9',x10',x',y',z',u',he⟩:=first ((v9+(1+d2)) % (P / 2)) hm.1 ω hm.2.2 (some (.int 0)) (some (.int (P / 2))) (some (.int (1+d2)))
     refine ⟨t3,ok,x9',x10',x',y',z',u',?_⟩
     rw [<- he]
     simp [zbs,zH hn,hat,hd9,hd10,hP1,hh,hd11,q00]
   . have q0:0 < P - P / 2 - 1:=by omega
     have q00:0 < P - P / 2:=by omega
     have q1:¬ P / 2=0:=by omega
     have q2:P / 2 < P:=by omega
     have f0:=zed (hAt ns k) ((k:Int) % 7+2) q0
     have f1:=zef (hAt ns k) ((k:Int) % 7+2) q0
     have hd11:=zcQ (a:=hAt ns k) (b:=(k:Int) % 7+2) q0
     generalize zbY (hAt ns k) ((k:Int) % 7+2) (P - P / 2 - 1)=d2 at *
     have hm:=zjN (v:=v9 - P / 2) (m:=P - P / 2) ω ω (c:=1+d2) ω ω
     obtain ⟨t3,ok,x9',x10',x',y',z',u',he⟩:=first (P / 2+(v9 - P / 2+(1+d2)) % (P - P / 2)) ω ω ω (some (.int (P / 2))) (some (.int (P - P / 2))) (some (.int (1+d2)))
     refine ⟨t3,ok,x9',x10',x',y',z',u',?_⟩
     rw [<- he]
     simp [zbs,zH hn,hat,hd9,hd10,hP1,hh,hd11,q00,q1,q2]
theorem zny (ds:List D) (i:Int) (e:zr) (h:MH):zj (.tup ds) (.int i) e h=match MI.atI ds i with
   | some d=> .ok d h
   | none=> .bad:=rfl
theorem zmE {j:Int} (hj:zb8 j=true) (i:Int) (e:zr) (h:MH):zbD (.int i) (.int j) e h = .ok (.int (i * j)) h:=by simp [hj]
theorem zm8 (h g:MH) {k:Nat}{o:O} (i j:Int) (e:g[k]?=some o) (f:o.flat=true):gc h (.ok (.tup [.int i,.obj (h.length+k),.int j]) (h++g)) = .ok (.tup [.int i,.obj h.length,.int j]) (h++[o]):=by
 have hlt:¬ h.length+k < h.length:=by omega
 simp [gc,zd0,gcV,zcc,hlt,e,f,D.nr]
theorem zkB (a b:Int) {m:Int} (hm:0 < m):∃ v,(∀ h,app zy [.int a,.int b,.int m] h = .ok (.int v) h)∧0<=v∧v < m:=⟨_,zcQ hm,zed a b hm,zef a b hm⟩
theorem zks {ns:List Int}{n:Nat}{h:MH} (hn:h[n]?=some (.scr (ns.map .int))) {i:Int} (h0:0<=i):∃ v,app zbm [.obj n,.int i] h = .ok (.int v) h:=⟨_,zmy hn h0⟩
theorem ziz (l:List Int) (a b:Int) {m:Int} (hm:(l.length:Int)=m) (h0:0 < m):∃ x v,(∀ h,app zy [.int a,.int b,.int m] h = .ok (.int x) h)∧v∈l∧MI.atI (l.map D.int) x=some (.int v):=by
 obtain ⟨x,h1,h2,h3⟩:=zkB a b h0
 exact ⟨x,hAt l x,h1,zk8 h2 ω,zgq h2 ω⟩
theorem zt7 {ns:List Int} (hns:ns.length<=63) {n:Nat}{h:MH} (hn:h[n]?=some (.scr (ns.map .int))) :
   ∃ (P:Nat) (turn:Int) (ts:List T3),app ze7 [.obj n] h = .ok (.tup [.int P,.obj h.length,.int turn]) (h++[.lst (ts.map tD)])∧1<=P∧P<=100∧0<=turn∧turn<=1000000∧ts.length=ns.length∧∀ t∈ts,t.Ok P:=by
 obtain ⟨y0,c0⟩:=zks hn (i:=0) ω
 obtain ⟨y1,c1⟩:=zks hn (i:=1) ω
 obtain ⟨y2,c2⟩:=zks hn (i:=2) ω
 obtain ⟨x1,a1,d1,p1,g1⟩:=ziz [1,2,3] y1 2 (m:=3) ς ω
 obtain ⟨x3,turn,d3,p3,g3⟩:=ziz [0,0,2,3,12,1,1000000] y2 3 (m:=7) ς ω
 obtain ⟨x4,v4,d4,p4,g4⟩:=ziz [2,3,40,400000] y0 4 (m:=4) ς ω
 obtain ⟨x5,v5,d5,p5,g5⟩:=ziz [0,0,5,30] y1 5 (m:=4) ς ω
 obtain ⟨x6,d6,_,_⟩:=zkB y2 8 (m:=4) ω
 simp only [List.map_cons,List.map_nil]at g1 g3 g4 g5
 have a10:1<=a1∧a1<=3:=by simp at p1;omega
 have ht:0<=turn∧turn<=1000000:=by simp at p3;omega
 have h4:0 < v4∧v4<=400000:=by simp at p4;omega
 have h5:0<=v5:=by simp at p5;omega
 have sm:zb8 a1=true:=by simp [zb8];omega
 obtain ⟨l,hl0⟩:∃ l:Int,l=(ns.length:Int):=⟨_,rfl⟩
 have hlen:∀ (e':zr) (h':MH),e'[0]?=some (some (.obj n))->h'[n]?=some (.scr (ns.map .int))->zbJ (zbF (var 0)) e' h' = .ok (.int l) h':=by
   intro e' h' h1 h2
   rw [hl0]
   simp [h1,h2]
 have hlt:l.toNat=ns.length:=by omega
 obtain ⟨c,hc⟩:∃ c,l * a1 / 3=c:=⟨_,rfl⟩
 have hc0:0<=c∧c<=63:=by
   have e1:(0:Int)<=l * a1:=Int.mul_nonneg ω ω
   have e2:l * a1<=63 * 3:=Int.mul_le_mul ω ω ω ω
   omega
 obtain ⟨x2,d2,b0,b1⟩:=zkB y0 1 (m:=2+c) ω
 obtain ⟨P,hP⟩:∃ P:Nat,2+x2=(P:Int):=⟨(2+x2).toNat,ω⟩
 have hPb:2<=P∧P<=100:=by omega
 obtain ⟨b6,hb6⟩:∃ b6:Bool,b6=(decide (3 < (P:Int)) && decide (x6=0)):=⟨_,rfl⟩
 have h6:b6=true->3 < (P:Int):=by intro e;rw [e]at hb6;have:=hb6.symm;simp at this;omega
 have loop:=zhu (t := .nm 8) (gs:=[]) (body:=(zh (zm (.nm 9) (zi zy (za (bin zj (var 0) (var 8)) (za (bin zI (bin zbl (var 8) (zb (.int (5)))) (zb (.int (1)))) (za (var 2) ze)))))
   (zh (zm (.nm 10) (bin zbl (bin zI (bin zI (var 9) (zb (.int (1)))) (zi zy (za (bin zj (var 0) (var 8)) (za (bin zI (bin zbl (var 8) (zb (.int (7)))) (zb (.int (2)))) (za (bin z6 (var 2) (zb (.int (1)))) ze))))) (var 2)))
   (zh (ifS (tru (var 6)) (zh (zm (.nm 11) (ifE (tst (bin ltV (var 9) (bin zcV (var 2) (zb (.int (2)))))) (zb (.int (0))) (bin zcV (var 2) (zb (.int (2))))))
   (zh (zm (.nm 12) (ifE (tst (bin eqV (var 11) (zb (.int (0))))) (bin zcV (var 2) (zb (.int (2)))) (bin z6 (var 2) (var 11))))
   (zh (zm (.nm 13) (bin zI (zb (.int (1))) (zi zy (za (bin zj (var 0) (var 8)) (za (bin zI (bin zbl (var 8) (zb (.int (7)))) (zb (.int (2)))) (za (bin z6 (var 12) (zb (.int (1)))) ze))))))
   (zm (.nm 10) (bin zI (var 11) (bin zbl (bin zI (bin z6 (var 9) (var 11)) (var 13)) (var 12))))))) zu)
   (zh (zm (.nm 14) (bin z6 (zi zy (za (bin zbD (var 10) (zb (.int (7919)))) (za (zb (.int (6))) (za (var 4) ze)))) (zi zy (za (bin zbD (var 9) (zb (.int (7919)))) (za (zb (.int (6))) (za (var 4) ze))))))
   (zh (ifS (zbt (tst (bin gtV (var 5) (zb (.int (0))))) (tst (bin eqV (zi zy (za (bin zj (var 0) (var 8)) (za (bin zI (bin zbl (var 8) (zb (.int (3)))) (zb (.int (9)))) (za (var 5) ze)))) (zb (.int (0)))))) (zm (.nm 14) (bin zI (var 14) (zb (.int (1))))) zu)
   (zh (ifS (zbt (tst (bin gtV (var 3) (zb (.int (0))))) (zbt (tst (bin eqV (zi zy (za (bin zj (var 0) (var 8)) (za (zb (.int (12))) (za (zb (.int (3))) ze)))) (zb (.int (0))))) (tst (bin ltV (bin zI (zdV (var 14)) (var 3)) (zb (.int (1000000))))))) (zm (.nm 14) (bin z6 (var 14) (var 3))) zu)
   (zY (zbf (var 7) (zJ (za (var 9) (za (var 10) (za (var 14) ze))))))))))))) (fun k:Nat=>D.int k)
   (fun d e h'=>∃ ts x8 x9 x10 x y z u,e=[some (.obj n),some (.int c),some (.int P),some (.int turn),some (.int v4),some (.int v5),some (.bl b6),some (.obj h.length),x8,x9,x10,x,y,z,u]∧h'=h++[.lst (ts.map tD)]∧ts.length=d.length∧∀ t∈ts,t.Ok P) (List.range ns.length) (by
   rintro d k r e h' eq ⟨ts,x8,x9,x10,x,y,z,u,rfl,rfl,hl,hok⟩
   refine ⟨rfl,_,rfl,?_⟩
   have hk:k < ns.length:=by
     have:k∈List.range ns.length:=by rw [<- eq];simp
     exact List.mem_range.1 this
   have hdl:d.length<=63:=by
     have:=congrArg List.length eq
     simp at this;omega
   obtain ⟨t3,ok,x9',x10',x',y',z',u',he⟩:=zvu hn (c:=c) (P:=(P:Int)) (turn:=turn) (v4:=v4) (v5:=v5) (b6:=b6) h6 ω ω hk (x9:=x9) (x10:=x10) (x:=x) (y:=y) (z:=z) (u:=u) (ts:=ts) ω ht.1 h4.1 h4.2 h5
   refine ⟨_,_,he,ts++[t3],_,_,_,_,_,_,_,rfl,rfl,by simp [hl],?_⟩
   intro t htm
   rcases List.mem_append.1 htm with h1 | h1
   . exact hok t h1
   . simp at h1;subst h1;exact ok) (fun _ _ _=>rfl) [some (.obj n),some (.int c),some (.int P),some (.int turn),some (.int v4),some (.int v5),some (.bl b6),some (.obj h.length),none,none,none,none,none,none,none] (h++[.lst []])
     ⟨[],_,_,_,_,_,_,_,rfl,rfl,rfl,ς⟩
 obtain ⟨e2,h2,hr,ts,x8,x9,x10,x,y,z,u,rfl,rfl,hl,hok⟩:=loop
 refine ⟨P,turn,ts,?_,ω,ω,ht.1,ht.2,by rw [hl];simp,hok⟩
 unfold app ze7
 have q:(-1000000:Int)<=ns.length∧(ns.length:Int)<=1000000:=by omega
 have q1:l<=1000000:=by omega
 have q2:(-1000000:Int)<=l:=by omega
 by_cases hb:3 < (P:Int)
 . simp [hb]at hb6
   subst hb6
   simp [-zmv,hlen,hlt,-zk2,zmE sm,c0,c1,c2,hn,d1,d3,d4,d5,d6,zny,g1,g3,g4,g5,hc,d2,hP,hb,q1,q2,zH hn,hr]
   exact zm8 h _ (k:=0) _ _ rfl (zhf ts)
 . simp [hb]at hb6
   subst hb6
   simp [-zmv,hlen,hlt,-zk2,zmE sm,c0,c1,c2,hn,d1,d3,d4,d5,d6,zny,g1,g3,g4,g5,hc,d2,hP,hb,q1,q2,zH hn,hr]
   exact zm8 h _ (k:=0) _ _ rfl (zhf ts)
end Mx
end
section
open PySem MI
namespace Mx
open My
theorem zrV {h:MH}{n:Nat}{g:List T3} (hn:h[n]?=some (.lst (g.map tD))) (d:Option D):zcm (.nm 0) [(n,.lst (g.map tD))] zbP (bin zj (var 0) (zb (.int (1)))) (g.map tD) [] [d] h = .ok ((g.map (·.b)).map .int) h:=by
 rw [List.map_map]
 exact zdI (t := .nm 0) tD (fun t=> .int t.b) (fun e=>∃ d,e=[d]) (zb0 hn) g (by
   rintro x hx _ ⟨d,rfl⟩
   exact ⟨_,rfl,⟨_,rfl⟩,ς⟩) [d] ⟨_,rfl⟩
theorem ze9 {h:MH}{w t l:Nat}{P turn:Int}{ts:List T3} (W:zbu h w t P turn ts) {S:List St} (hl:h[l]?=some (.lst (S.map sD))) (hS:S.length<=3000) {a:Int} (h0:0<=a) (h1:a < P) :
   app zes [.obj w,.int a,.obj l] h=match zbg ts a S with
     | none=> .ok .non h
     | some g=> .ok (.obj h.length) (h++[.lst ((a :: g.map (·.b)).map .int)]):=by
 unfold app zes
 have hle:=zf0 W hl ω h0 h1
 cases hg:zbg ts a S with
 | none =>
   simp only [hg]at hle
   simp [hle]
 | some g =>
   simp only [hg]at hle
   have hgl:=zeV _ _ _ hg
   have cb:=zrV (h:=h++[.lst (g.map tD),.lst [.int a]]) (n:=h.length) (g:=g) ς none
   have hgs:g.length<=1000000:=by omega
   have hgs2:1+g.length<=1000000:=by omega
   simp only [List.map_map]at cb
   simp [hle,zbH,hgs,cb,hgs2]
   have hf:=ziL (a :: g.map (·.b))
   rw [List.map_cons,List.map_map]at hf
   exact zh8 h _ (k:=2) rfl hf
noncomputable def zdG (ts:List T3) (a b:Int) (S:List St):Prop:=∃ g,zbg ts a S=some g∧(a :: g.map (·.b)).Nodup∧fin a g=b
theorem zmt (a:Int) (g:List T3):∃ p,(a :: g.map (·.b)).map D.int=p++[.int (fin a g)]:=by
 rcases List.eq_nil_or_concat g with rfl | ⟨g0,t,rfl⟩
 . exact ⟨[],rfl⟩
 . exact ⟨(a :: g0.map (·.b)).map D.int,ς⟩
theorem zgS {h:MH}{w t l:Nat}{P turn:Int}{ts:List T3} (W:zbu h w t P turn ts) {S:List St} (hl:h[l]?=some (.lst (S.map sD))) (hS:S.length<=3000) {a:Int} (h0:0<=a) (h1:a < P) :
   app zfP [.obj w,.int a,.obj l] h = .ok (.bl (match zbg ts a S with
     | none=>false
     | some g=>decide (a :: g.map (·.b)).Nodup)) h:=by
 unfold app zfP
 have hst:=ze9 W hl hS h0 h1
 cases hg:zbg ts a S with
 | none =>
   simp only [hg]at hst
   simp [hst]
 | some g =>
   simp only [hg]at hst
   have hgl:=zeV _ _ _ hg
   have in1:=zhB (a :: g.map (·.b))
   have hc1:(a :: g.map (·.b)).length < 4000:=by simp [hgl];omega
   have hc2:((a :: g.map (·.b)).map D.int).length=(a :: g.map (·.b)).length:=by simp
   have cn:=zjX (a :: g.map (·.b))
   unfold zc9 at cn
   show _=R.ok (D.bl (decide (a :: g.map (·.b)).Nodup)) h
   generalize (a :: g.map (·.b)).map D.int=pp at *
   generalize a :: g.map (·.b)=pn at *
   simp [hst,in1,hc1,hc2]
   rw [zb6]
   congr 2
   rw [decide_eq_decide,<- cn]
   omega
theorem zgT {h:MH}{w t l:Nat}{P turn:Int}{ts:List T3} (W:zbu h w t P turn ts) {S:List St} (hl:h[l]?=some (.lst (S.map sD))) (hS:S.length<=3000) {a:Int} (h0:0<=a) (h1:a < P) (b:Int) :
   app zfQ [.obj w,.int a,.int b,.obj l] h = .ok (.bl (dcd (zdG ts a b S))) h:=by
 unfold app zfQ
 have hst:=ze9 W hl hS h0 h1
 have hsg:=zgS W hl hS h0 h1
 cases hg:zbg ts a S with
 | none =>
   rw [zc8 (by rintro ⟨g,h2,_⟩;rw [hg]at h2;cases h2)]
   simp only [hg]at hst hsg
   simp [hsg]
 | some g =>
   simp only [hg]at hst hsg
   obtain ⟨p,hp⟩:=zmt a g
   have hla:MI.atI ((a :: g.map (·.b)).map D.int) (-1)=some (.int (fin a g)):=by rw [hp];exact zhl _ _
   by_cases hn:(a :: g.map (·.b)).Nodup
   . by_cases hf:fin a g=b
     . rw [zfy ⟨g,hg,hn,hf⟩]
       generalize (a :: g.map (·.b)).map D.int=pp at *
       generalize a :: g.map (·.b)=pn at *
       simp [hsg,hn,hst,zbs,hla,hf]
       exact zb6 _ _ _
     . rw [zc8 (by rintro ⟨g',h2,_,h4⟩;rw [hg]at h2;cases h2;exact hf h4)]
       generalize (a :: g.map (·.b)).map D.int=pp at *
       generalize a :: g.map (·.b)=pn at *
       simp [hsg,hn,hst,zbs,hla,hf]
       exact zb6 _ _ _
   . rw [zc8 (by rintro ⟨g',h2,h3,_⟩;rw [hg]at h2;cases h2;exact hn h3)]
     generalize a :: g.map (·.b)=pn at *
     simp [hsg,hn]
end Mx
end
section
open PySem MI
namespace Mx
open My
@[simp] theorem lkQ (a b:D):List.lookup 8 [(8,a),(4,b)]=some a:=rfl
@[simp] theorem zxS (a b:D):List.lookup 4 [(8,a),(4,b)]=some b:=rfl
theorem zv1 {ts:List T3}{k:Nat}{t:T3} (h:ts[k]?=some t):MI.atI (ts.map tD) (k:Int)=some (tD t):=by
 have hk:=(List.getElem?_eq_some_iff.1 h).1
 rw [zfu (by simpa using hk)]
 have:=(List.getElem?_eq_some_iff.1 h).2
 simp [this]
theorem zmz {h:MH}{n m:Nat}{xs:List Int} (hn:h[n]?=some (.lst (xs.map .int))) (hm:h[m]?=some (.lst [])) (e:zr):neV (.obj n) (.obj m) e h = .ok (.bl (!decide (xs=[]))) h:=by
 unfold neV zbE
 have pl:(xs.map D.int).all (D.pl 5)=true:=by simp [D.pl]
 simp only [hn,hm,pl,if_pos]
 cases xs with
 | nil=>simp [Cmp.eq,zbC]
 | cons x xs=>simp [Cmp.eq,zbC]
theorem zmc {h:MH}{n l:Nat}{ts:List T3} (hn:h[n]?=some (.lst (ts.map tD))) {S:List St} (hl:h[l]?=some (.lst (S.map sD))) (hS:S.length<=3000) (hts:∀ t∈ts,-1000000<=t.n∧t.n<=1000000) (a b:Int) :
   app zd6 [.obj n,.int a,.obj l,.int b] h = .ok (.bl (dcd (zdG ts a b S))) h:=by
 unfold app zd6
 have hw:=zmn hn hl ω hts a
 cases hg:zbg ts a S with
 | none =>
   rw [zc8 (by rintro ⟨g,h2,_⟩;rw [hg]at h2;cases h2)]
   simp only [hg]at hw
   have en:=zmz (h:=h++[.lst [],.lst []]) (n:=h.length) (m:=h.length+1) (xs:=[]) ς ς
   simp at en
   simp [hw,zj,en]
   exact zb6 _ _ _
 | some g =>
   simp only [hg]at hw
   have hgl:=zeV _ _ _ hg
   obtain ⟨p,hp⟩:=zmt a g
   have hla:MI.atI ((a :: g.map (·.b)).map D.int) (-1)=some (.int (fin a g)):=by rw [hp];exact zhl _ _
   have en:=zmz (h:=h++[.lst ((a :: g.map (·.b)).map D.int),.lst []]) (n:=h.length) (m:=h.length+1) (xs:=a :: g.map (·.b)) ς ς
   have in1:=zhB (a :: g.map (·.b))
   have hc1:(a :: g.map (·.b)).length < 4000:=by simp [hgl];omega
   have hc2:((a :: g.map (·.b)).map D.int).length=(a :: g.map (·.b)).length:=by simp
   have cn:=zjX (a :: g.map (·.b))
   have hpn:a :: g.map (·.b)≠[]:=by simp
   have key:dcd (zdG ts a b S)=(decide (fin a g=b) && decide (a :: g.map (·.b)).Nodup):=by
     by_cases h1:fin a g=b
     . by_cases h2:(a :: g.map (·.b)).Nodup
       . rw [zfy ⟨g,hg,h2,h1⟩,decide_eq_true h1,decide_eq_true h2];rfl
       . rw [zc8 (by rintro ⟨g',h3,h4,_⟩;rw [hg]at h3;cases h3;exact h2 h4),decide_eq_false h2,Bool.and_false]
     . rw [zc8 (by rintro ⟨g',h3,_,h4⟩;rw [hg]at h3;cases h3;exact h1 h4),decide_eq_false h1,Bool.false_and]
   rw [key]
   unfold zc9 at cn
   generalize (a :: g.map (·.b)).map D.int=pp at *
   generalize a :: g.map (·.b)=pn at *
   have cn':((zbd [] pn).length:Int)=(pn.length:Int)↔pn.Nodup:=by rw [<- cn];omega
   by_cases h1:fin a g=b
   . by_cases h2:pn.Nodup
     . have:=cn'.2 h2
       simp [hw,zj,en,hpn,hla,h1,in1,hc1,hc2,this,h2]
       exact zb6 _ _ _
     . have:¬ ((zbd [] pn).length:Int)=(pn.length:Int):=fun c=>h2 (cn'.1 c)
       simp [hw,zj,en,hpn,hla,h1,in1,hc1,hc2,this,h2]
       exact zb6 _ _ _
   . simp [hw,zj,en,hpn,hla,h1]
     exact zb6 _ _ _
end Mx
end
section
namespace Mx
open MI My
theorem znm:∀ (xs ys:List Int),zbC (xs.map .int) (ys.map .int)=decide (xs=ys)
 | [],[]=>by simp [zbC]
 | [],_ :: _=>by simp [zbC]
 | _ :: _,[]=>by simp [zbC]
 | x :: xs,y :: ys=>by
   simp only [List.map_cons,zbC,znm xs ys,zfs]
   by_cases c:x=y
   . subst c;simp
   . simp [c]
theorem zlk {h:MH}{n:Nat}{xs:List Int} (hn:h[n]?=some (.lst (xs.map .int))):zbE h (.obj n)=some (.l (xs.map .int)):=by
 unfold zbE
 have pl:(xs.map D.int).all (D.pl 5)=true:=by simp [D.pl]
 simp only [hn,pl,if_pos]
theorem zsT {h:MH}{n m:Nat}{xs ys:List Int} (hn:h[n]?=some (.lst (xs.map .int))) (hm:h[m]?=some (.lst (ys.map .int))) (e:zr):neV (.obj n) (.obj m) e h = .ok (.bl (!decide (xs=ys))) h:=by
 unfold neV
 rw [zlk hn,zlk hm]
 simp [Cmp.eq,znm]
noncomputable def zdT (K:List Int):Bool:=(K.zip (K.drop 1)).all fun p=>decide (p.1 < p.2)
theorem zkF:∀ K:List Int,zdT K=true↔K.Pairwise (· < ·)
 | []=>by simp [zdT]
 | [x]=>by simp [zdT]
 | x :: y :: K=>by
   have ih:=zkF (y :: K)
   have e:zdT (x :: y :: K)=(decide (x < y) && zdT (y :: K)):=by simp [zdT]
   rw [e,Bool.and_eq_true,decide_eq_true_eq,ih]
   constructor
   . rintro ⟨h1,h2⟩
     refine List.pairwise_cons.2 ⟨fun z hz=>?_,h2⟩
     rcases List.mem_cons.1 hz with rfl | hz
     . exact h1
     . have:=(List.pairwise_cons.1 h2).1 z hz;omega
   . intro h
     exact ⟨(List.pairwise_cons.1 h).1 y ς,(List.pairwise_cons.1 h).2⟩
theorem zsk {x:Int}:∀ {l:List Int},(∀ y∈l,x<=y)->zbV x l=x :: l
 | [],_=>rfl
 | y :: l,h=>by unfold zbV;rw [if_pos (h y ς)]
theorem zlW:∀ {l:List Int},l.Pairwise (· < ·)->sortI l=l
 | [],_=>rfl
 | x :: l,h=>by
   obtain ⟨h1,h2⟩:=List.pairwise_cons.1 h
   have ih:=zlW h2
   unfold sortI at ih ⊢
   rw [List.foldr_cons,ih]
   exact zsk fun y hy=>by have:=h1 y hy;omega
theorem znF {x:Int}:∀ {l:List Int},l.Pairwise (· < ·)->x∉l->(zbV x l).Pairwise (· < ·)
 | [],_,_=>by simp [zbV]
 | y :: l,h,hx=>by
   obtain ⟨h1,h2⟩:=List.pairwise_cons.1 h
   unfold zbV
   by_cases c:x<=y
   . rw [if_pos c]
     have:x≠y:=fun z=>hx (by simp [z])
     refine List.pairwise_cons.2 ⟨fun z hz=>?_,h⟩
     rcases List.mem_cons.1 hz with rfl | hz
     . omega
     . have:=h1 z hz;omega
   . rw [if_neg c]
     refine List.pairwise_cons.2 ⟨fun z hz=>?_,znF h2 fun z=>hx (by simp [z])⟩
     rcases zko.1 hz with rfl | hz
     . omega
     . exact h1 z hz
theorem zj3:∀ {l:List Int},l.Nodup->(sortI l).Pairwise (· < ·)
 | [],_=>by simp [sortI]
 | x :: l,h=>by
   obtain ⟨h1,h2⟩:=List.nodup_cons.1 h
   have ih:=zj3 h2
   have e:sortI (x :: l)=zbV x (sortI l):=rfl
   rw [e]
   exact znF ih fun z=>h1 (zfC.1 z)
theorem znI:∀ (l seen:List Int),l.Nodup->(∀ x∈l,x∉seen)->zbd seen l=l
 | [],_,_,_=>rfl
 | x :: l,seen,h,hs=>by
   obtain ⟨h1,h2⟩:=List.nodup_cons.1 h
   unfold zbd
   rw [if_neg (hs x ς),znI l (x :: seen) h2 fun y hy z=>?_]
   rcases List.mem_cons.1 z with rfl | z
   . exact h1 hy
   . exact hs y (by simp [hy]) z
theorem zwo {l:List Int} (h:l.Pairwise (· < ·)):l.Nodup:=h.imp fun h=>by omega
theorem zlo (K:List Int):K=sortI (zbd [] K)↔K.Pairwise (· < ·):=by
 constructor
 . intro h;rw [h];exact zj3 (ze4 _ _)
 . intro h
   rw [znI K [] (zwo h) ς,zlW h]
theorem ztC (l:List Int):MI.cut (l.map D.int) (some 1) none=(l.drop 1).map D.int:=by
 unfold MI.cut sIx
 simp
 cases l with
 | nil=>rfl
 | cons a l =>
   have e:min (1:Int) (↑l.length+1)=1:=by omega
   simp [e,List.take_of_length_le]
@[simp] theorem zyG (a b:ME D) (e:zr) (h:MH):itZ a b e h=zD (a e h) fun x h1=>zD (b e h1) fun y h2=>match x,y with
 | .obj n,.obj m=>(match h2[n]?,h2[m]? with
   | some (.lst xs),some (.lst ys)=> .ok (zcD xs ys,[(n,.lst xs),(m,.lst ys)]) h2
   | _,_=> .bad)
 | _,_=> .bad:=by
 unfold itZ;simp only [zO];congr 1;funext x h1;congr 1;funext y h2
 cases x <;> cases y <;> rfl
theorem zj8:∀ (xs ys:List Int),zcD (xs.map .int) (ys.map .int)=(xs.zip ys).map fun p=> .tup [.int p.1,.int p.2]
 | [],ys=>by cases ys <;> rfl
 | _ :: _,[]=>rfl
 | x :: xs,y :: ys=>by simp [zcD,zj8 xs ys]
theorem zfa {h:MH}{l:Nat}{K:List Int} (hl:h[l]?=some (.lst (K.map .int))) (hK:K.length<=1000) (c:Int):app zfW [.obj l,.int c] h = .ok (.bl (K.all (fun x=>decide (0<=x) && decide (x<=c - 1)) && zdT K)) h:=by
 unfold app zfW
 have c1:=zdI (t := .nm 0) (gs:=[(l,.lst (K.map .int))]) (elt:=(zi zcq (za (var 0) (za (zb (.int (0))) (za (bin z6 (var 1) (zb (.int (1)))) ze))))) (h:=h) D.int (fun x:Int=>D.bl (decide (0<=x) && decide (x<=c - 1))) (fun e=>∃ d,e=[d,some (.int c)]) (zb0 hl) K (by
   rintro x _ _ ⟨d,rfl⟩
   exact ⟨_,rfl,⟨_,rfl⟩,ς⟩) [none,some (.int c)] ⟨_,rfl⟩
 have c2:=zdI (t := .tp [0,1]) (gs:=[(l,.lst (K.map .int)),(h.length,.lst ((K.drop 1).map .int))]) (elt:=(bin ltV (var 0) (var 1))) (h:=h++[.lst ((K.drop 1).map .int)]) (fun p:Int×Int=>D.tup [.int p.1,.int p.2]) (fun p:Int×Int=>D.bl (decide (p.1 < p.2))) (fun e=>∃ d d',e=[d,d']) (by simp [MI.guard,zH hl]) (K.zip (K.drop 1)) (by
   rintro ⟨x,y⟩ _ _ ⟨d,d',rfl⟩
   exact ⟨_,rfl,⟨_,_,rfl⟩,ς⟩) [none,none] ⟨_,_,rfl⟩
 have b1:=zgD (K.map fun x=>decide (0<=x) && decide (x<=c - 1))
 have b2:=zgD ((K.zip (K.drop 1)).map fun p=>decide (p.1 < p.2))
 rw [List.map_map]at b1 b2
 have q:K.length<=1000000:=by omega
 have q2:(K.drop 1).length<=1000000:=by simp;omega
 have q3:(zcD (K.map .int) ((K.drop 1).map .int)).length<=1000000:=by rw [zj8];simp;omega
 have f1:(fun x:Int=>D.bl (decide (0<=x) && decide (x<=c - 1)))=D.bl ∘ fun x=>decide (0<=x) && decide (x<=c - 1):=rfl
 have f2:(fun p:Int×Int=>D.bl (decide (p.1 < p.2)))=D.bl ∘ fun p=>decide (p.1 < p.2):=rfl
 rw [f1]at c1
 rw [f2,<- zj8]at c2
 have ea:(K.map fun x=>decide (0<=x) && decide (x<=c - 1)).all id=K.all fun x=>decide (0<=x) && decide (x<=c - 1):=by simp [List.all_map,Function.comp_def]
 have eb:((K.zip (K.drop 1)).map fun p=>decide (p.1 < p.2)).all id=zdT K:=by simp [zdT,List.all_map,Function.comp_def]
 rw [<- ea,<- eb]
 generalize hb1:(K.map fun x=>decide (0<=x) && decide (x<=c - 1))=B1 at *
 generalize hb2:((K.zip (K.drop 1)).map fun p=>decide (p.1 < p.2))=B2 at *
 have g1:(h++[O.lst ((K.drop 1).map .int)])[l]?=some (.lst (K.map .int)):=zH hl _
 have z:=ztC K
 cases hb:B1.all id with
 | false=>simp [hl,zbQ,zbH,q,c1,b1,hb]
 | true =>
   have et:(K.drop 1).map D.int=(K.map D.int).tail:=by simp
   rw [et]at g1 q3 c2 z
   simp [hl,zbQ,zbH,q,c1,b1,hb,zbZ,z]
   rw [g1]
   have ed:K.drop 1=K.tail:=by simp
   rw [ed]at c2 b2
   simp [q3,c2,b2]
   exact zb6 h _ _
end Mx
end
section
namespace Mx
open MI My
@[simp] theorem zyk (l:ME (List D)) (e:zr) (h:MH):zia l e h=zD (l e h) fun xs h1=>match pairsOf xs with
 | some ps=>if ps.length<=1000000 then .ok (.obj h1.length) (h1++[.dic (ps.foldl (fun a p=>zcr p.1 p.2 a) [])]) else .bad
 | none=> .bad:=by
 unfold zia;rw [zO];congr 1;funext x h1
 cases hh:pairsOf x <;> simp [hh]
 split <;> rfl
theorem znw (j k:Int) (v:D):∀ kvs:List (Int×D),(look j (kvs.map fun p=>if p.1=k then (p.1,v) else p)).isSome=(look j kvs).isSome
 | []=>rfl
 | p :: kvs=>by
   have ih:=znw j k v kvs
   rw [List.map_cons]
   unfold look
   by_cases c:p.1=k
   . rw [if_pos c]
     by_cases d:p.1=j
     . simp [d]
     . simp [d,ih]
   . rw [if_neg c]
     by_cases d:p.1=j
     . simp [d]
     . simp [d,ih]
theorem zl6 (j k:Int) (v:D):∀ kvs:List (Int×D),(look j (kvs++[(k,v)])).isSome=((look j kvs).isSome || decide (k=j))
 | []=>by
   by_cases c:k=j
   . simp [look,c]
   . simp [look,c]
 | p :: kvs=>by
   have ih:=zl6 j k v kvs
   rw [List.cons_append]
   unfold look
   by_cases d:p.1=j
   . simp [d]
   . simp [d,ih]
theorem zme (k:Int):∀ kvs:List (Int×D),(kvs.any fun p=>decide (p.1=k))=(look k kvs).isSome
 | []=>rfl
 | p :: kvs=>by
   rw [List.any_cons,zme k kvs]
   show (decide (p.1=k) || (look k kvs).isSome)=(if p.1=k then some p.2 else look k kvs).isSome
   by_cases d:p.1=k
   . simp [d]
   . simp [d]
theorem zwi (j k:Int) (v:D) (kvs:List (Int×D)):(look j (zcr k v kvs)).isSome=((look j kvs).isSome || decide (k=j)):=by
 unfold zcr
 by_cases c:(kvs.any fun p=>decide (p.1=k))=true
 . rw [if_pos c,znw]
   rw [zme]at c
   by_cases d:k=j
   . subst d;simp [c]
   . simp [d]
 . rw [if_neg c,zl6]
noncomputable def ptD (pts:List Int):List (Int×D):=(pts.map fun x=>(x,D.bl true)).foldl (fun a p=>zcr p.1 p.2 a) []
theorem zk5 (j:Int):∀ (pts:List Int) (m:List (Int×D)),(look j ((pts.map fun x=>(x,D.bl true)).foldl (fun a p=>zcr p.1 p.2 a) m)).isSome=((look j m).isSome || decide (j∈pts))
 | [],m=>by simp
 | x :: pts,m=>by
   rw [List.map_cons,List.foldl_cons,zk5 j pts,zwi]
   by_cases c:x=j
   . simp [c]
   . have:¬ j=x:=fun z=>c z.symm
     simp [c,this]
theorem ziS (j:Int) (pts:List Int):(look j (ptD pts)).isSome=decide (j∈pts):=by
 unfold ptD;rw [zk5];simp [look]
theorem zmF:∀ pts:List Int,pairsOf (pts.map fun x=>D.tup [.int x,.bl true])=some (pts.map fun x=>(x,D.bl true))
 | []=>rfl
 | x :: pts=>by simp [pairsOf,zmF pts]
noncomputable def zcW (pts:List Int) (t:T3):Bool:=decide (t.a∈pts) == decide (t.b∈pts)
theorem zi0 (a b:Bool) (e:zr) (h:MH):eqV (.bl a) (.bl b) e h = .ok (.bl (a == b)) h:=by simp [eqV,zbE,D.pl,Cmp.eq,peq]
theorem zfb {h:MH}{n m:Nat}{pts:List Int}{us:List T3} (hn:h[n]?=some (.lst (pts.map .int))) (hm:h[m]?=some (.lst (us.map tD))) (hp:pts.length<=1000) (hu:us.length<=1000) (a b:Int) :
   app zfX [.obj n,.obj m,.int a,.int b] h = .ok (.bl (decide (a∈pts) && !decide (b∈pts) && us.all (zcW pts))) h:=by
 unfold app zfX
 have c1:=zdI (t := .nm 0) (gs:=[(n,.lst (pts.map .int))]) (elt:=(zJ (za (var 0) (za (zb (.bl true)) ze)))) (h:=h) D.int (fun x:Int=>D.tup [.int x,.bl true]) (fun e=>∃ d,e=[d]) (zb0 hn) pts (by
   rintro x _ _ ⟨d,rfl⟩
   exact ⟨_,rfl,⟨_,rfl⟩,ς⟩) [none] ⟨_,rfl⟩
 have q1:pts.length<=1000000:=by omega
 have q2:us.length<=1000000:=by omega
 have pm:=zmF pts
 have pe:(pts.map fun x=>(x,D.bl true)).foldl (fun a p=>zcr p.1 p.2 a) []=ptD pts:=rfl
 have hd:∀ g,(h ++ .dic (ptD pts) :: g)[h.length]?=some (.dic (ptD pts)):=fun g=>by simp
 have c2:=zdI (t := .nm 0) (gs:=[(m,.lst (us.map tD))]) (elt:=(bin eqV (bin inV (bin zj (var 0) (zb (.int (0)))) (var 1)) (bin inV (bin zj (var 0) (zb (.int (1)))) (var 1)))) (h:=h++[.dic (ptD pts)]) tD (fun t=>D.bl (zcW pts t)) (fun e=>∃ d,e=[d,some (.obj h.length)]) (zb0 (zH hm _)) us (by
   rintro t _ _ ⟨d,rfl⟩
   refine ⟨_,rfl,⟨_,rfl⟩,?_⟩
   simp [inV,hd,ziS,zi0,zcW]) [none,some (.obj h.length)] ⟨_,rfl⟩
 have b2:zca (us.map fun t=>D.bl (zcW pts t))=some (us.map (zcW pts)):=by have:=zgD (us.map (zcW pts));rwa [List.map_map]at this
 have ea:(us.map (zcW pts)).all id=us.all (zcW pts):=by simp [List.all_map,Function.comp_def]
 rw [<- ea]
 generalize hB:us.map (zcW pts)=B at b2
 by_cases ca:a∈pts
 . by_cases cb:b∈pts
   . simp [hn,zbH,q1,c1,pm,pe,zbL,inV,hd,ziS,ca,cb]
     exact zb6 h _ _
   . simp [hn,zbH,q1,c1,pm,pe,zbL,inV,hd,ziS,ca,cb,zH hm,q2,c2,b2]
     exact zb6 h _ _
 . simp [hn,zbH,q1,c1,pm,pe,zbL,inV,hd,ziS,ca]
   exact zb6 h _ _
end Mx
end
section
namespace Mx
open MI My
theorem zt9 {p:Prop}:dcd p=true↔p:=by
 constructor
 . intro h;exact Classical.byContradiction fun n=>by rw [zc8 n]at h;cases h
 . exact zfy
theorem zlT {p:Prop}{b:Bool} (h:b=true↔p):dcd p=b:=by
 cases b with
 | true=>exact zfy (h.1 rfl)
 | false=>exact zc8 fun z=>by have:=h.2 z;cases this
theorem zmR {pts:List Int} (t:T3):zcW pts t=true↔(t.a∈pts↔t.b∈pts):=by
 unfold zcW
 by_cases x:t.a∈pts <;> by_cases y:t.b∈pts <;> simp [x,y]
noncomputable def ClA (ts:List T3) (pts:List Int):Prop:=∀ u∈ts,(u.a∈pts↔u.b∈pts)
theorem zrz {ts:List T3}{pts:List Int}:ts.all (zcW pts)=true↔ClA ts pts:=by
 rw [List.all_eq_true]
 exact ⟨fun h u hu=>(zmR u).1 (h u hu),fun h u hu=>(zmR u).2 (h u hu)⟩
noncomputable def zdH (ts:List T3) (P:Nat) (a b:Int) (pts:List Int):Prop:=pts.Pairwise (· < ·)∧(∀ x∈pts,0<=x∧x < (P:Int))∧a∈pts∧b∉pts∧ClA ts pts
theorem zgU {h:MH}{w t r q P:Nat}{turn:Int}{ts:List T3} (W:zbu h w t P turn ts) {S:List St} (hr:h[r]?=some (.ins 7 [(4,.obj q)])) (hq:h[q]?=some (.lst (S.map sD))) (hS:S.length<=2000) {a b:Int} (a0:0<=a) (a1:a < P) (b0:0<=b) (b1:b < P) :
   app zgK [.obj r,.obj w,.int a,.int b] h = .ok (.bl (dcd (zdG ts a b S))) h:=by
 unfold app zgK
 have ld:=zgT W hq ω a0 a1 b
 simp [hr,W.w,b0,b1,ld]
theorem zgV {h:MH}{w t r q P:Nat}{turn:Int}{ts:List T3} (W:zbu h w t P turn ts) (hl:ts.length<=100) {pts:List Int} (hr:h[r]?=some (.ins 8 [(0,.obj q)])) (hq:h[q]?=some (.lst (pts.map .int))) (hp:pts.length<=200) {a b:Int} (a0:0<=a) (a1:a < P) (b0:0<=b) (b1:b < P) :
   app zgL [.obj r,.obj w,.int a,.int b] h = .ok (.bl (dcd (zdH ts P a b pts))) h:=by
 unfold app zgL
 have hti:=zdh W
 have ar:=zfa hq ω (P:Int)
 have allr:(pts.all fun x=>decide (0<=x) && decide (x<=(P:Int) - 1))=true↔∀ x∈pts,0<=x∧x < (P:Int):=by
   simp only [List.all_eq_true,Bool.and_eq_true,decide_eq_true_eq]
   constructor
   . intro z x hx;have:=z x hx;omega
   . intro z x hx;have:=z x hx;omega
 have dv:=zfb (h:=h++[.lst (ts.map tD)]) (n:=q) (m:=h.length) (pts:=pts) (us:=ts) (zH hq _) ς ω ω a b
 have hrA:∀ g,(h++g)[r]?=some (.ins 8 [(0,.obj q)]):=zH hr
 by_cases c0:((pts.all fun x=>decide (0<=x) && decide (x<=(P:Int) - 1)) && zdT pts)=true
 . rw [c0]at ar
   rw [Bool.and_eq_true,allr,zkF]at c0
   have ef:dcd (zdH ts P a b pts)=(decide (a∈pts) && !decide (b∈pts) && ts.all (zcW pts)):=by
     apply zlT
     rw [Bool.and_eq_true,Bool.and_eq_true,zrz]
     simp only [decide_eq_true_eq,Bool.not_eq_true',decide_eq_false_iff_not]
     exact ⟨fun ⟨⟨x,y⟩,z⟩=>⟨c0.2,c0.1,x,y,z⟩,fun ⟨_,_,x,y,z⟩=>⟨⟨x,y⟩,z⟩⟩
   rw [ef]
   generalize (decide (a∈pts) && !decide (b∈pts) && ts.all (zcW pts))=V at dv
   simp [hr,W.w,a0,a1,b0,b1,ar,zcM,hti,dv]
   exact zb6 h _ _
 . have nf:¬ zdH ts P a b pts:=fun ⟨x,y,_⟩=>c0 (by rw [Bool.and_eq_true,allr,zkF];exact ⟨y,x⟩)
   rw [Bool.not_eq_true]at c0
   rw [c0]at ar
   rw [zc8 nf]
   simp [hr,W.w,a0,a1,b0,b1,ar]
end Mx
end
section
namespace Mx
open MI My
@[simp] theorem zw4 (l:ME (List D)) (e:zr) (h:MH):ziC l e h=zD (l e h) fun xs h1=>match zbO xs with
 | some ns=>if ns.length < 65 then .ok ((sortI (zbd [] ns)).map .int) h1 else .bad
 | none=> .bad:=by unfold ziC;rw [zO];congr 1;funext x h1;cases hh:zbO x <;> simp [hh];split <;> rfl
theorem zlK (a:Int):∀ pts:List Int,inB (.int a) (pts.map .int)=decide (a∈pts)
 | []=>rfl
 | x :: pts=>by
   have ih:=zlK a pts
   unfold inB at ih ⊢
   rw [List.map_cons,List.any_cons,ih,zfs]
   by_cases c:x=a
   . simp [c]
   . have:¬ a=x:=fun z=>c z.symm
     simp [c,this]
theorem zgA {h:MH}{q:Nat}{pts:List Int} (hq:h[q]?=some (.lst (pts.map .int))) (a:Int) (e:zr):inV (.int a) (.obj q) e h = .ok (.bl (decide (a∈pts))) h:=by
 have f:(pts.map D.int).all zby=true:=by simp [zby]
 simp only [inV,hq]
 rw [if_pos (by rw [f];rfl),zlK]
theorem zjC {h:MH}{q:Nat}{pts:List Int} (hq:h[q]?=some (.lst (pts.map .int))) (a:Int) (e:zr):zbL (.int a) (.obj q) e h = .ok (.bl (!decide (a∈pts))) h:=by
 unfold zbL;rw [zO,zgA hq];rfl
theorem ziH (a b:Bool) (e:zr) (h:MH):neV (.bl a) (.bl b) e h = .ok (.bl (!(a == b))) h:=by simp [neV,zbE,D.pl,Cmp.eq,peq]
noncomputable def zeO (n x:Int):Bool:=!(decide (0<=x) && decide (x < n))
noncomputable def zfF (ts:List T3) (P:Nat) (pts:List Int):Prop:=pts.Pairwise (· < ·)∧(∀ x∈pts,0<=x∧x < (P:Int))∧ClA ts pts
theorem zu1 {h:MH}{n q P:Nat}{ts:List T3} (hn:h[n]?=some (.lst (ts.map tD))) (hl:ts.length<=100) {pts:List Int} (hq:h[q]?=some (.lst (pts.map .int))) (hp:pts.length < 65) :
   app zfY [.int P,.obj n,.obj q,.int (-1)] h = .ok (.bl (dcd (zfF ts P pts))) h:=by
 unfold app zfY
 have n2:=zsT (m:=h.length) (ys:=sortI (zbd [] pts)) (h:=h++[.lst ((sortI (zbd [] pts)).map .int)]) (zH hq _) ς
 have iK:=zhB pts
 simp [hq,zH hq,zbZ,iK,hp]
 by_cases d2:pts=sortI (zbd [] pts)
 . rw [decide_eq_true d2]at n2
   have hasc:=(zlo pts).1 d2
   generalize (sortI (zbd [] pts)).map D.int=Z at n2 ⊢
   rw [n2]
   have hqA:∀ g,(h++g)[q]?=some (.lst (pts.map .int)):=zH hq
   have hnA:∀ g,(h++g)[n]?=some (.lst (ts.map tD)):=zH hn
   have c1:=zdI (t := .nm 0) (gs:=[(q,.lst (pts.map .int))]) (elt:=(un ze1 (zdA leV ltV (zb (.int (0))) (var 0) (var 1)))) (h:=h++[.lst Z]) D.int (D.bl ∘ zeO P) (fun e=>∃ d,e=[d,some (.int P)]) (zb0 (hqA _)) pts (by
     rintro x _ _ ⟨d,rfl⟩
     refine ⟨_,rfl,⟨_,rfl⟩,?_⟩
     by_cases q:0<=x
     . simp [q,zeO]
     . simp [q,zeO]) [none,some (.int P)] ⟨_,rfl⟩
   have b1:=zgD (pts.map (zeO P))
   rw [List.map_map]at b1
   have q1:pts.length<=1000000:=by omega
   generalize hB:pts.map (zeO P)=B at b1
   by_cases hin:∀ x∈pts,0<=x∧x < (P:Int)
   . have bf:B.any id=false:=by
       rw [<- hB]
       simp only [List.any_map,List.any_eq_false]
       intro x hx
       have:=hin x hx
       simp [zeO,this]
     have loop:=zhr (t := .nm 4) (gs:=[]) (body:=(ifS (zbt (tst (bin neV (var 4) (var 3))) (tst (bin neV (bin inV (bin zj (bin zj (var 1) (var 4)) (zb (.int (0)))) (var 2)) (bin inV (bin zj (bin zj (var 1) (var 4)) (zb (.int (1)))) (var 2))))) (zp (zb (.bl false))) zu)) (fun j:Nat=>D.int j)
       (fun d e h'=>∃ x,e=[some (.int P),some (.obj n),some (.obj q),some (.int (-1)),x]∧h'=h++[.lst Z]∧∀ j∈d,∀ u,ts[j]?=some u->(u.a∈pts↔u.b∈pts))
       (fun v h'=>v = .bl false∧h'=h++[.lst Z]∧¬ ClA ts pts) (List.range ts.length) [] (by
       rintro d j r e h' eq ⟨x,rfl,rfl,ih⟩
       refine ⟨rfl,_,rfl,?_⟩
       have hj:j < ts.length:=List.mem_range.1 (by rw [List.nil_append]at eq;rw [<- eq];simp)
       have et:ts[j]?=some ts[j]:=List.getElem?_eq_getElem hj
       have hat:=zv1 et
       . have ck':¬ ((j:Int)=-1):=by omega
         by_cases cc:(ts[j].a∈pts↔ts[j].b∈pts)
         . have eb:(decide (ts[j].a∈pts) == decide (ts[j].b∈pts))=true:=by
             by_cases z:ts[j].b∈pts
             . simp [z,cc]
             . simp [z,cc]
           refine .inl ⟨[some (.int P),some (.obj n),some (.obj q),some (.int (-1)),some (.int j)],_,?_,_,rfl,rfl,?_⟩
           . generalize ts[j]=t0 at *
             simp [ck',zbs,hnA,hat,zgA (hqA _),ziH,cc]
           . intro i hi u hu
             rcases List.mem_append.1 hi with hi | hi
             . exact ih i hi u hu
             . simp at hi;subst hi;rw [et]at hu;cases hu;exact cc
         . have eb:(decide (ts[j].a∈pts) == decide (ts[j].b∈pts))=false:=by
             by_cases z:ts[j].b∈pts <;> by_cases y:ts[j].a∈pts <;> simp [z,y]at cc ⊢
           refine .inr ⟨.bl false,_,?_,rfl,rfl,fun z=>cc (z _ (List.getElem_mem hj))⟩
           generalize ts[j]=t0 at *
           simp [ck',zbs,hnA,hat,zgA (hqA _),ziH,eb]) (fun _ _ _=>rfl) [some (.int P),some (.obj n),some (.obj q),some (.int (-1)),none] (h++[.lst Z]) ⟨_,rfl,rfl,ς⟩
     have r1:(-1000000:Int)<=ts.length:=by omega
     have r2:(ts.length:Int)<=1000000:=by omega
     rcases loop with ⟨e2,h2,hr,x,rfl,rfl,ih⟩ | ⟨v,h2,hr,rfl,rfl,nc⟩
     . have cp:ClA ts pts:=fun u hu=>by
         obtain ⟨j,hj,e⟩:=List.mem_iff_getElem.1 hu
         exact ih j (by simpa using hj) u (by rw [<- e];exact List.getElem?_eq_getElem hj)
       rw [zfy (show zfF ts P pts from ⟨hasc,hin,cp⟩)]
       simp [hq,hqA,hnA,zbZ,zbH,q1,c1,b1,bf,r1,r2,hr]
       exact zb6 h _ _
     . rw [zc8 (fun z:zfF ts P pts=>nc z.2.2)]
       simp [hq,hqA,hnA,zbZ,zbH,q1,c1,b1,bf,r1,r2,hr]
       exact zb6 h _ _
   . rw [zc8 (fun z:zfF ts P pts=>hin z.2.1)]
     have bt:B.any id=true:=by
       rw [<- hB,List.any_map,List.any_eq_true]
       obtain ⟨x,hx⟩:∃ x,¬ (x∈pts->0<=x∧x < (P:Int)):=Classical.byContradiction fun z=>hin fun x=>Classical.byContradiction fun y=>z ⟨x,y⟩
       have hx1:x∈pts:=Classical.byContradiction fun y=>hx fun w=>absurd w y
       refine ⟨x,hx1,?_⟩
       have hx2:¬ (0<=x∧x < (P:Int)):=fun y=>hx fun _=>y
       show zeO P x=true
       unfold zeO
       rw [Bool.not_eq_true',Bool.and_eq_false_iff]
       by_cases y:0<=x
       . exact .inr (decide_eq_false fun w=>hx2 ⟨y,w⟩)
       . exact .inl (decide_eq_false y)
     simp [hq,hqA,zbZ,zbH,q1,c1,b1,bt]
     exact zb6 h _ _
 . rw [decide_eq_false d2]at n2
   rw [zc8 (fun z:zfF ts P pts=>d2 ((zlo pts).2 z.1))]
   rw [n2]
   simp
   exact zb6 h _ _
theorem zug {h:MH}{n r q P:Nat}{ts:List T3} (hn:h[n]?=some (.lst (ts.map tD))) (hl:ts.length<=100) {pts:List Int} (hr:h[r]?=some (.ins 8 [(0,.obj q)])) (hq:h[q]?=some (.lst (pts.map .int))) (hp:pts.length < 65) (a b:Int) :
   app zcw [.int P,.obj n,.int a,.int b,.obj r] h = .ok (.bl (dcd (zdH ts P a b pts))) h:=by
 unfold app zcw
 have cl:=zu1 (P:=P) hn hl hq hp
 have ef:dcd (zdH ts P a b pts)=(decide (a∈pts) && (!decide (b∈pts) && dcd (zfF ts P pts))):=by
   apply zlT
   rw [Bool.and_eq_true,Bool.and_eq_true,zt9]
   simp only [decide_eq_true_eq,Bool.not_eq_true',decide_eq_false_iff_not]
   exact ⟨fun ⟨x,y,z⟩=>⟨z.1,z.2.1,x,y,z.2.2⟩,fun ⟨u,v,x,y,z⟩=>⟨x,y,u,v,z⟩⟩
 rw [ef]
 generalize dcd (zfF ts P pts)=V at cl
 by_cases ca:a∈pts
 . by_cases cb:b∈pts
   . simp [hr,zK,zgA hq,zjC hq,ca,cb]
   . simp [hr,zK,zgA hq,zjC hq,ca,cb,cl]
 . simp [hr,zK,zgA hq,zjC hq,ca]
theorem zsP {h:MH}{n r q P:Nat}{ts:List T3} (hn:h[n]?=some (.lst (ts.map tD))) (hts:∀ t∈ts,t.Ok P) {S:List St} (hr:h[r]?=some (.ins 7 [(4,.obj q)])) (hq:h[q]?=some (.lst (S.map sD))) (hS:S.length<=2000) (a b:Int) :
   app zcw [.int P,.obj n,.int a,.int b,.obj r] h = .ok (.bl (dcd (zdG ts a b S))) h:=by
 unfold app zcw
 have ld:=zmc hn hq ω (fun t ht=>⟨(hts t ht).n0,(hts t ht).n1⟩) a b
 simp [hr,zK,ld]
end Mx
end
section
namespace Mx
open MI My
theorem zh5 (h g:MH) {c a j:Nat}{xs:List D} (e:g[j]?=some (.ins c [(a,.obj (h.length+j+1))])) (e1:g[j+1]?=some (.lst xs)) (f:nrs xs=true):gc h (.ok (.obj (h.length+j)) (h++g)) = .ok (.obj h.length) (h++[.ins c [(a,.obj (h.length+1))],.lst xs]):=by
 simp only [gc]
 rw [if_pos (zd0 _ _)]
 have q:¬ h.length+j < h.length:=by omega
 have q1:¬ h.length+j+1 < h.length:=by omega
 have e2:(h++g)[h.length+j+1]?=some (.lst xs):=by rw [Nat.add_assoc,zcB];exact e1
 simp [gcV,q,e,zcc,q1,e2,D.nr,O.flat,f]
@[simp] theorem zyy (a:ME D) (e:zr) (h:MH):ziF a e h=zD (a e h) fun x h1=>match x with
 | .obj n=>(match h1[n]? with
   | some (.dic kvs)=>if kvs.length < 65 then .ok ((sortI (kvs.map (·.1))).map .int) h1 else .bad
   | _=> .bad)
 | _=> .bad:=by unfold ziF;rw [zO] <;> rfl
theorem zrC {h:MH}{n:Nat}{xs:List D} (hn:h[n]?=some (.lst xs)) (f:nrs xs=true):app (mkF 7 zhJ) [.obj n] h = .ok (.obj h.length) (h++[.ins 7 [(4,.obj (h.length+1))],.lst xs]):=by
 unfold app mkF zhJ
 simp [zH hn,zek,zem]
 exact zh5 h _ (j:=0) rfl rfl f
theorem zsM {h:MH}{n:Nat}{xs:List D} (hn:h[n]?=some (.lst xs)) (f:nrs xs=true):app (mkF 8 zhK) [.obj n] h = .ok (.obj h.length) (h++[.ins 8 [(0,.obj (h.length+1))],.lst xs]):=by
 unfold app mkF zhK
 simp [zH hn,zek,zem]
 exact zh5 h _ (j:=0) rfl rfl f
theorem zbN.len {ts:List T3}{cs:List Nat}{A N:List En}{start:Int} (G:zbN ts cs A start N):N.length=(zdx N).length+1:=by
 induction G with
 | root=>rfl
 | step G hl hk ha hb ih=>simp [zdx]at ih ⊢;omega
theorem zwt (N:List En):(N.map eD).map (·.1)=keys N:=by simp [keys,eD]
theorem zvf (h g:MH) (x y:Int):gc h (.ok (.tup [.int x,.int y]) (h++g)) = .ok (.tup [.int x,.int y]) h:=zmK h g rfl
theorem ziA {h:MH}{w t P:Nat}{turn:Int}{ts:List T3} (W:zbu h w t P turn ts) {a:Int} (a0:0<=a) (a1:a < P):app zdJ [.obj w,.int a] h = .ok .non h:=by
 unfold app zdJ
 simp [W.w,a0,a1]
theorem zgW {h:MH}{w t P:Nat}{turn:Int}{ts:List T3} (W:zbu h w t P turn ts) (hts:∀ t∈ts,t.Ok P) (hP0:1<=P) (hP:P<=1000) (hl:ts.length<=63) {a b:Int} (a0:0<=a) (a1:a < P) (b0:0<=b) (b1:b < P) :
   (∃ S,app zdq [.obj w,.int a,.int b] h = .ok (.obj h.length) (h++[.ins 7 [(4,.obj (h.length+1))],.lst (S.map sD)])∧zdG ts a b S∧S.length<=64)
   ∨ (∃ pts,app zdq [.obj w,.int a,.int b] h = .ok (.obj h.length) (h++[.ins 8 [(0,.obj (h.length+1))],.lst (pts.map .int)])∧zdH ts P a b pts∧pts.length<=64):=by
 unfold app zdq
 have rf:=fun h=>ziA (h:=h) (w:=w) (t:=t) (P:=P) (turn:=turn) (ts:=ts)
 have r1:=ziA W a0 a1
 have r2:=ziA W b0 b1
 have hev:=zgO W ω
 obtain ⟨N,hre,G,C⟩:=zgQ (h:=h++[.lst ((List.range ts.length).map fun k=> .int (k:Nat))]) (c:=h.length) (cs:=List.range ts.length) (W.app _) hts hP0 ω ς (fun j hj=>List.mem_range.1 hj) (by simp;omega) (start:=a) a0 a1
 have hNl:N.length<=64:=by
   have B:=zcH.grow (ts:=ts) (cs:=List.range ts.length) .nil ς G
   rw [List.nil_append]at B
   have:=zeL (zdx N) (List.range ts.length) B.ks_nodup (fun x hx=>by
     obtain ⟨e,he,s,es,rfl⟩:=zlJ.1 hx
     exact (B.ends e he s es).1)
   rw [List.length_range]at this
   have:=G.len
   omega
 by_cases cb:b∈keys N
 . obtain ⟨S,g,T,hg,hf,hnd,_,hks,hSl⟩:=G.trace b cb
   refine .inl ⟨S,?_,⟨g,hg,hnd,hf⟩,ω⟩
   have htr:=zgR (h:=h++[.lst ((List.range ts.length).map fun k=> .int (k:Nat)),.dic (N.map eD)]) (q:=h.length+1) (W.app _) (by rw [zcB];rfl) T ω
   have hin:=zrC (h:=h++[.lst ((List.range ts.length).map fun k=> .int (k:Nat)),.dic (N.map eD),.lst (S.map sD)]) (n:=h.length+2) (by rw [zcB];rfl) (zj9 S)
   have hd:∀ g,(h ++ .lst ((List.range ts.length).map fun k=> .int (k:Nat)) :: .dic (N.map eD) :: g)[h.length+1]?=some (.dic (N.map eD)):=fun g=>by rw [zcB];rfl
   generalize (List.range ts.length).map (fun k:Nat=>D.int k)=Z1 at *
   simp at hre htr hin hev
   simp [r1,r2,hev,hre,inV,hd,zhe,cb,htr,hin]
   exact zh5 h _ (j:=3) rfl rfl (zj9 S)
 . refine .inr ⟨sortI (keys N),?_,⟨zj3 G.nodup,fun x hx=>G.range hts a0 a1 x (zfC.1 hx),zfC.2 G.mem,fun z=>cb (zfC.1 z),?_⟩,?_⟩
   . have hin:=zsM (h:=h++[.lst ((List.range ts.length).map fun k=> .int (k:Nat)),.dic (N.map eD),.lst ((sortI (keys N)).map .int)]) (n:=h.length+2) (by rw [zcB];rfl) (ziL _)
     have hd:∀ g,(h ++ .lst ((List.range ts.length).map fun k=> .int (k:Nat)) :: .dic (N.map eD) :: g)[h.length+1]?=some (.dic (N.map eD)):=fun g=>by rw [zcB];rfl
     have ke:=zwt N
     have kl:(N.map eD).length < 65:=by simp;omega
     have ls:=zhe N b
     rw [decide_eq_false cb]at ls
     generalize (List.range ts.length).map (fun k:Nat=>D.int k)=Z1 at *
     generalize N.map eD=Z3 at *
     simp at hre hin hev
     simp [r1,r2,hev,hre,inV,hd,ls,kl,ke,hin]
     exact zh5 h _ (j:=3) rfl rfl (ziL _)
   . intro u hu
     obtain ⟨j,hjl,e⟩:=List.mem_iff_getElem.1 hu
     have e:ts[j]?=some u:=by rw [<- e];exact List.getElem?_eq_getElem hjl
     have l1:zbc ts ⟨j,true⟩=some u:=by simp [zbc,e,zbe]
     have l2:zbc ts ⟨j,false⟩=some (tn u):=by simp [zbc,e,zbe]
     rw [zfC,zfC]
     exact ⟨fun z=>C ⟨j,true⟩ u (List.mem_range.2 hjl) l1 z,fun z=>C ⟨j,false⟩ (tn u) (List.mem_range.2 hjl) l2 z⟩
   . rw [zlF];simp [keys];omega
theorem zrS (g:List T3):zbO (g.map fun t=>D.int t.n)=some (g.map (·.n)):=by
 have:=zhB (g.map (·.n));rwa [List.map_map]at this
theorem zfc {h:MH}{w t l P:Nat}{turn:Int}{ts:List T3} (W:zbu h w t P turn ts) {S:List St} (hl:h[l]?=some (.lst (S.map sD))) (hS:S.length<=2000) {a:Int} (a0:0<=a) (a1:a < P) {g:List T3} (hg:zbg ts a S=some g) :
   app zdf [.obj w,.int a,.obj l] h = .ok (.tup [.int (fin a g),.int (g.map (·.n)).sum]) h:=by
 unfold app zdf
 have r1:=ziA W a0 a1
 have lg:=zf0 W hl ω a0 a1
 rw [hg]at lg
 dsimp only at lg
 have hgl:=zeV _ _ _ hg
 have c1:=zdI (t := .nm 0) (gs:=[(h.length,.lst (g.map tD))]) (elt:=(bin zj (var 0) (zb (.int (2))))) (h:=h++[.lst (g.map tD)]) tD (fun t=>D.int t.n) (fun e=>∃ d,e=[d]) (zb0 ς) g (by
   rintro x _ _ ⟨d,rfl⟩
   exact ⟨_,rfl,⟨_,rfl⟩,ς⟩) [none] ⟨_,rfl⟩
 have q:g.length<=1000000:=by omega
 have i1:=zrS g
 have gt:∀ x y:Int,gc h (.ok (.tup [.int x,.int y]) (h++[.lst (g.map tD)])) = .ok (.tup [.int x,.int y]) h:=fun x y=>zvf h _ x y
 rcases List.eq_nil_or_concat g with e | ⟨g0,z,e⟩
 . subst e
   simp at c1 i1
   simp [r1,lg,zeS,zbH,c1,i1,fin]
   exact gt _ _
 . rw [List.concat_eq_append]at e
   have ef:fin a g=z.b:=by rw [e];simp [fin]
   have la:MI.atI (g.map tD) (-1)=some (tD z):=by rw [e,List.map_append];exact zhl _ _
   have ne:(g.map tD).isEmpty=false:=by rw [e];simp
   have ne2:¬ g=[]:=by rw [e];simp
   rw [ef]
   simp [r1,lg,zeS,ne,ne2,zbs,la,zbH,q,c1,i1]
   exact gt _ _
end Mx
end
section
namespace Mx
open MI My
theorem ztP {h:MH}{l:Nat}{hs:List Int} (hl:h[l]?=some (.lst (hs.map .int))) (hn:hs.length<=1000000):app zet [.obj l] h = .ok (.bl true) h:=by
 unfold app zet
 have c:=zdI (t := .nm 0) (gs:=[(l,.lst (hs.map D.int))]) (elt:=(orV (zbG .bool (var 0)) (un ze1 (zbG .int (var 0))))) (h:=h) D.int (fun _=>D.bl false) (fun e=>∃ d,e=[d]) (zb0 hl) hs (by
   rintro x hx _ ⟨d,rfl⟩
   exact ⟨_,rfl,⟨_,rfl⟩,by simp [zbQ]⟩) [none] ⟨_,rfl⟩
 have b:zca (hs.map fun _=>D.bl false)=some (hs.map fun _=>false):=by have:=zgD (hs.map fun _=>false);rwa [List.map_map]at this
 simp [hl,zbQ,zbH,hn,c,b]
@[simp] theorem lkS (a b:MF):List.lookup 8 [(7,a),(8,b)]=some b:=rfl
noncomputable def FX (h:MH) (c f:Nat) (xs:List D) (rest:MH):MH:=h++(.ins c [(f,.obj (h.length+1))] :: .lst xs :: rest)
section
variable {h:MH}{c f:Nat}{xs:List D}{rest:MH}
theorem zgz:(FX h c f xs rest)[h.length]?=some (.ins c [(f,.obj (h.length+1))]):=by simp [FX]
theorem zfz:(FX h c f xs rest)[h.length+1]?=some (.lst xs):=by unfold FX;rw [zcB];rfl
theorem znx (X:List D):(FX h c f xs rest).set (h.length+1) (.lst X)=FX h c f X rest:=by unfold FX;rw [znN];rfl
end
theorem zrG (x y:Int) (e:zr) (h:MH):neV (.tup [.int x,.int y]) (.tup [.int x,.int y]) e h = .ok (.bl false) h:=by
 simp [neV,zbE,D.pl,Cmp.eq,peq,zbC]
theorem zuc {H:MH}{w t n P:Nat}{turn:Int}{ts:List T3} (W:zbu H w t P turn ts) (hn:H[n]?=some (.lst (ts.map tD))) (hts:∀ t∈ts,t.Ok P) (hl:ts.length<=63) {a b:Int} (a0:0<=a) (a1:a < P) (b0:0<=b) (b1:b < P) {S:List Int}
   (hf:app zdq [.obj w,.int a,.int b] H = .ok (.obj H.length) (H++[.ins 8 [(0,.obj (H.length+1))],.lst (S.map D.int)])) (F:zdH ts P a b S) (hS:S.length<=64) :
   app zdg [.obj w,.int P,.obj n,.int a,.int b] H = .ok (.bl true) H:=by
 let l4:O := .lst [.bl false,.bl false,.bl false,.bl false]
 have f0:∀ xs g,(FX H 8 0 xs g)[H.length]?=some (.ins 8 [(0,.obj (H.length+1))]):=fun xs g=>zgz
 have f1:∀ xs g,(FX H 8 0 xs g)[H.length+1]?=some (.lst xs):=fun xs g=>zfz
 have sh:∀ (S':List Int) g (a b:Int),0<=a->a < P->0<=b->b < P->S'.length<=100->app zgL [.obj H.length,.obj w,.int a,.int b] (FX H 8 0 (S'.map D.int) g) = .ok (.bl (dcd (zdH ts P a b S'))) (FX H 8 0 (S'.map D.int) g):=fun S' g a b a0 a1 b0 b1 hS'=>zgV (t:=t) (W.app _) ω zgz zfz ω a0 a1 b0 b1
 have du:∀ g (a b:Int),app zcw [.int P,.obj n,.int a,.int b,.obj H.length] (FX H 8 0 (S.map D.int) g) = .ok (.bl (dcd (zdH ts P a b S))) (FX H 8 0 (S.map D.int) g):=fun g a b=>zug (zH hn _) ω zgz zfz ω a b
 have w2:∀ xs g,(FX H 8 0 xs g)[w]?=some (.ins 0 [(0,.int P),(1,.int turn),(2,.obj t)]):=fun xs g=>zH W.w _
 have s1:(zm (.nm 5) (zi zdq (za (var 0) (za (var 3) (za (var 4) ze))))) [some (.obj w),some (.int P),some (.obj n),some (.int a),some (.int b),none,none,none,none] H = .nx [some (.obj w),some (.int P),some (.obj n),some (.int a),some (.int b),some (.obj H.length),none,none,none] (FX H 8 0 (S.map D.int) []):=by
   simp [hf];rfl
 have s2:(ifS (orT (zS (tru (zZ zK 1 (var 5)))) (tst (bin eqV (zZ zK 7 (var 5)) (zZ zK 8 (var 5))))) (zp (zb (.bl false))) zu) [some (.obj w),some (.int P),some (.obj n),some (.int a),some (.int b),some (.obj H.length),none,none,none] (FX H 8 0 (S.map D.int) []) = .nx [some (.obj w),some (.int P),some (.obj n),some (.int a),some (.int b),some (.obj H.length),none,none,none] (FX H 8 0 (S.map D.int) []):=by
   simp [f0,zK,zi0]
 have s3:(zm (.nm 6) (zM (zbA (za (zZ zK 2 (var 5)) (za (zZ zK 3 (var 5)) (za (zZ zK 9 (var 5)) (za (zZ zK 10 (var 5)) ze))))))) [some (.obj w),some (.int P),some (.obj n),some (.int a),some (.int b),some (.obj H.length),none,none,none] (FX H 8 0 (S.map D.int) []) = .nx [some (.obj w),some (.int P),some (.obj n),some (.int a),some (.int b),some (.obj H.length),some (.obj (H.length+2)),none,none] (FX H 8 0 (S.map D.int) [l4]):=by
   have e1:(FX H 8 0 (S.map D.int) []).length=H.length+2:=by simp [FX]
   have e2:FX H 8 0 (S.map D.int) []++[l4]=FX H 8 0 (S.map D.int) [l4]:=by simp [FX]
   simp [l4]at e2 ⊢
   simp [f0,zK]
   exact ⟨e1,e2⟩
 have e3:(FX H 8 0 (S.map D.int) [l4])[H.length+2]?=some l4:=by unfold FX;rw [zcB];rfl
 have s4:(ifS (orT (tru (zeX (zdl (var 6)))) (orT (tru (zZ zK 5 (var 5))) (orT (tru (zZ zK 4 (var 5))) (tru (zZ zK 6 (var 5)))))) (zp (zb (.bl false))) zu) [some (.obj w),some (.int P),some (.obj n),some (.int a),some (.int b),some (.obj H.length),some (.obj (H.length+2)),none,none] (FX H 8 0 (S.map D.int) [l4]) = .nx [some (.obj w),some (.int P),some (.obj n),some (.int a),some (.int b),some (.obj H.length),some (.obj (H.length+2)),none,none] (FX H 8 0 (S.map D.int) [l4]):=by
   have b4:zca [D.bl false,.bl false,.bl false,.bl false]=some [false,false,false,false]:=rfl
   have e3':(FX H 8 0 (S.map D.int) [l4])[H.length+2]?=some (.lst [.bl false,.bl false,.bl false,.bl false]):=e3
   clear_value l4
   simp [f0,e3',zbZ,b4,zK]
 clear_value l4
 have s5:(ifS (orT (zS (tru (zi zcw (za (var 1) (za (var 2) (za (var 3) (za (var 4) (za (var 5) ze)))))))) (tst (bin zdP (zbh zcs (var 5) (za (var 0) (za (var 3) (za (var 4) ze)))) (zb (.bl true))))) (zp (zb (.bl false))) zu) [some (.obj w),some (.int P),some (.obj n),some (.int a),some (.int b),some (.obj H.length),some (.obj (H.length+2)),none,none] (FX H 8 0 (S.map D.int) [l4]) = .nx [some (.obj w),some (.int P),some (.obj n),some (.int a),some (.int b),some (.obj H.length),some (.obj (H.length+2)),none,none] (FX H 8 0 (S.map D.int) [l4]):=by
   have d1:=du [l4] a b
   have h1:=sh S [l4] a b a0 a1 b0 b1 ω
   rw [zfy F]at d1 h1
   simp [d1,f0,zcs,h1]
 have s6:(ifS (tst (bin neV (zbh zcs (var 5) (za (var 0) (za (var 4) (za (var 3) ze)))) (zi zcw (za (var 1) (za (var 2) (za (var 4) (za (var 3) (za (var 5) ze)))))))) (zp (zb (.bl false))) zu) [some (.obj w),some (.int P),some (.obj n),some (.int a),some (.int b),some (.obj H.length),some (.obj (H.length+2)),none,none] (FX H 8 0 (S.map D.int) [l4]) = .nx [some (.obj w),some (.int P),some (.obj n),some (.int a),some (.int b),some (.obj H.length),some (.obj (H.length+2)),none,none] (FX H 8 0 (S.map D.int) [l4]):=by
   have d1:=du [l4] b a
   have h1:=sh S [l4] b a b0 b1 a0 a1 ω
   generalize dcd (zdH ts P b a S)=V at d1 h1
   simp [d1,f0,zcs,h1,ziH]
 have s7:(ifS (tru (zZ zK 8 (var 5))) (zh (ifS (zS (tru (zi zet (za (fld 0 (var 5)) ze)))) (zp (zb (.bl false))) zu)
   (zh (zY (zbf (fld 0 (var 5)) (var 1)))
   (zp (bin isN (zbh zcs (var 5) (za (var 0) (za (var 3) (za (var 4) ze)))) (zb (.bl false)))))) zu) [some (.obj w),some (.int P),some (.obj n),some (.int a),some (.int b),some (.obj H.length),some (.obj (H.length+2)),none,none] (FX H 8 0 (S.map D.int) [l4]) = .rt (.bl true) (FX H 8 0 ((S++[(P:Int)]).map D.int) [l4]):=by
   have lt:S.length < 1000000:=by omega
   have u:=znx (h:=H) (c:=8) (f:=0) (xs:=S.map D.int) (rest:=[l4]) ((S++[(P:Int)]).map D.int)
   have ek:(S++[(P:Int)]).map D.int=S.map D.int++[.int P]:=by simp
   have sn:=ztP (h:=FX H 8 0 (S.map D.int) [l4]) (l:=H.length+1) (hs:=S) zfz ω
   have h1:=sh (S++[(P:Int)]) [l4] a b a0 a1 b0 b1 (by simp;omega)
   have nf:¬ zdH ts P a b (S++[(P:Int)]):=fun ⟨_,z,_⟩=>by have:=(z P ς).2;omega
   rw [zc8 nf]at h1
   rw [ek]at u h1 ⊢
   simp [f0,f1,zK,zcC,lt,u,sn,zcs,h1]
 unfold app zdg
 have e00:([D.obj w,.int P,.obj n,.int a,.int b].map some++List.replicate (9 - 5) none:zr)=[some (.obj w),some (.int P),some (.obj n),some (.int a),some (.int b),none,none,none,none]:=rfl
 rw [zkf,if_pos (show [D.obj w,.int P,.obj n,.int a,.int b].length=5 from rfl),e00,zbx,s1,zbv,zbx,s2,zbv,zbx,s3,zbv,zbx,s4,zbv,zbx,s5,zbv,zbx,s6,zbv,zbx,s7]
 exact zb6 H _ _
theorem zvR {H:MH}{w t n P:Nat}{turn:Int}{ts:List T3} (W:zbu H w t P turn ts) (hn:H[n]?=some (.lst (ts.map tD))) (hts:∀ t∈ts,t.Ok P) (hl:ts.length<=63) {a b:Int} (a0:0<=a) (a1:a < P) (b0:0<=b) (b1:b < P) {S:List St}
   (hf:app zdq [.obj w,.int a,.int b] H = .ok (.obj H.length) (H++[.ins 7 [(4,.obj (H.length+1))],.lst (S.map sD)])) (F:zdG ts a b S) (hS:S.length<=64) :
   app zdg [.obj w,.int P,.obj n,.int a,.int b] H = .ok (.bl true) H:=by
 let l4:O := .lst [.bl false,.bl false,.bl false,.bl false]
 have f0:∀ xs g,(FX H 7 4 xs g)[H.length]?=some (.ins 7 [(4,.obj (H.length+1))]):=fun xs g=>zgz
 have f1:∀ xs g,(FX H 7 4 xs g)[H.length+1]?=some (.lst xs):=fun xs g=>zfz
 have sh:∀ (S':List St) g (a b:Int),0<=a->a < P->0<=b->b < P->S'.length<=100->app zgK [.obj H.length,.obj w,.int a,.int b] (FX H 7 4 (S'.map sD) g) = .ok (.bl (dcd (zdG ts a b S'))) (FX H 7 4 (S'.map sD) g):=fun S' g a b a0 a1 b0 b1 hS'=>zgU (t:=t) (W.app _) zgz zfz ω a0 a1 b0 b1
 have du:∀ g (a b:Int),app zcw [.int P,.obj n,.int a,.int b,.obj H.length] (FX H 7 4 (S.map sD) g) = .ok (.bl (dcd (zdG ts a b S))) (FX H 7 4 (S.map sD) g):=fun g a b=>zsP (zH hn _) hts zgz zfz ω a b
 have w2:∀ xs g,(FX H 7 4 xs g)[w]?=some (.ins 0 [(0,.int P),(1,.int turn),(2,.obj t)]):=fun xs g=>zH W.w _
 have s1:(zm (.nm 5) (zi zdq (za (var 0) (za (var 3) (za (var 4) ze))))) [some (.obj w),some (.int P),some (.obj n),some (.int a),some (.int b),none,none,none,none] H = .nx [some (.obj w),some (.int P),some (.obj n),some (.int a),some (.int b),some (.obj H.length),none,none,none] (FX H 7 4 (S.map sD) []):=by
   simp [hf];rfl
 have s2:(ifS (orT (zS (tru (zZ zK 1 (var 5)))) (tst (bin eqV (zZ zK 7 (var 5)) (zZ zK 8 (var 5))))) (zp (zb (.bl false))) zu) [some (.obj w),some (.int P),some (.obj n),some (.int a),some (.int b),some (.obj H.length),none,none,none] (FX H 7 4 (S.map sD) []) = .nx [some (.obj w),some (.int P),some (.obj n),some (.int a),some (.int b),some (.obj H.length),none,none,none] (FX H 7 4 (S.map sD) []):=by
   simp [f0,zK,zi0]
 have s3:(zm (.nm 6) (zM (zbA (za (zZ zK 2 (var 5)) (za (zZ zK 3 (var 5)) (za (zZ zK 9 (var 5)) (za (zZ zK 10 (var 5)) ze))))))) [some (.obj w),some (.int P),some (.obj n),some (.int a),some (.int b),some (.obj H.length),none,none,none] (FX H 7 4 (S.map sD) []) = .nx [some (.obj w),some (.int P),some (.obj n),some (.int a),some (.int b),some (.obj H.length),some (.obj (H.length+2)),none,none] (FX H 7 4 (S.map sD) [l4]):=by
   have e1:(FX H 7 4 (S.map sD) []).length=H.length+2:=by simp [FX]
   have e2:FX H 7 4 (S.map sD) []++[l4]=FX H 7 4 (S.map sD) [l4]:=by simp [FX]
   simp [l4]at e2 ⊢
   simp [f0,zK]
   exact ⟨e1,e2⟩
 have e3:(FX H 7 4 (S.map sD) [l4])[H.length+2]?=some l4:=by unfold FX;rw [zcB];rfl
 have s4:(ifS (orT (tru (zeX (zdl (var 6)))) (orT (tru (zZ zK 5 (var 5))) (orT (tru (zZ zK 4 (var 5))) (tru (zZ zK 6 (var 5)))))) (zp (zb (.bl false))) zu) [some (.obj w),some (.int P),some (.obj n),some (.int a),some (.int b),some (.obj H.length),some (.obj (H.length+2)),none,none] (FX H 7 4 (S.map sD) [l4]) = .nx [some (.obj w),some (.int P),some (.obj n),some (.int a),some (.int b),some (.obj H.length),some (.obj (H.length+2)),none,none] (FX H 7 4 (S.map sD) [l4]):=by
   have b4:zca [D.bl false,.bl false,.bl false,.bl false]=some [false,false,false,false]:=rfl
   have e3':(FX H 7 4 (S.map sD) [l4])[H.length+2]?=some (.lst [.bl false,.bl false,.bl false,.bl false]):=e3
   clear_value l4
   simp [f0,e3',zbZ,b4,zK]
 clear_value l4
 have s5:(ifS (orT (zS (tru (zi zcw (za (var 1) (za (var 2) (za (var 3) (za (var 4) (za (var 5) ze)))))))) (tst (bin zdP (zbh zcs (var 5) (za (var 0) (za (var 3) (za (var 4) ze)))) (zb (.bl true))))) (zp (zb (.bl false))) zu) [some (.obj w),some (.int P),some (.obj n),some (.int a),some (.int b),some (.obj H.length),some (.obj (H.length+2)),none,none] (FX H 7 4 (S.map sD) [l4]) = .nx [some (.obj w),some (.int P),some (.obj n),some (.int a),some (.int b),some (.obj H.length),some (.obj (H.length+2)),none,none] (FX H 7 4 (S.map sD) [l4]):=by
   have d1:=du [l4] a b
   have h1:=sh S [l4] a b a0 a1 b0 b1 ω
   rw [zfy F]at d1 h1
   simp [d1,f0,zcs,h1]
 have s6:(ifS (tst (bin neV (zbh zcs (var 5) (za (var 0) (za (var 4) (za (var 3) ze)))) (zi zcw (za (var 1) (za (var 2) (za (var 4) (za (var 3) (za (var 5) ze)))))))) (zp (zb (.bl false))) zu) [some (.obj w),some (.int P),some (.obj n),some (.int a),some (.int b),some (.obj H.length),some (.obj (H.length+2)),none,none] (FX H 7 4 (S.map sD) [l4]) = .nx [some (.obj w),some (.int P),some (.obj n),some (.int a),some (.int b),some (.obj H.length),some (.obj (H.length+2)),none,none] (FX H 7 4 (S.map sD) [l4]):=by
   have d1:=du [l4] b a
   have h1:=sh S [l4] b a b0 b1 a0 a1 ω
   generalize dcd (zdG ts b a S)=V at d1 h1
   simp [d1,f0,zcs,h1,ziH]
 have s7:(ifS (tru (zZ zK 8 (var 5))) (zh (ifS (zS (tru (zi zet (za (fld 0 (var 5)) ze)))) (zp (zb (.bl false))) zu)
   (zh (zY (zbf (fld 0 (var 5)) (var 1)))
   (zp (bin isN (zbh zcs (var 5) (za (var 0) (za (var 3) (za (var 4) ze)))) (zb (.bl false)))))) zu) [some (.obj w),some (.int P),some (.obj n),some (.int a),some (.int b),some (.obj H.length),some (.obj (H.length+2)),none,none] (FX H 7 4 (S.map sD) [l4]) = .nx [some (.obj w),some (.int P),some (.obj n),some (.int a),some (.int b),some (.obj H.length),some (.obj (H.length+2)),none,none] (FX H 7 4 (S.map sD) [l4]):=by
   simp [f0,zK]
 obtain ⟨g,hg,hnd,hfin⟩:=F
 have hgl:=zeV _ _ _ hg
 have nA:∀ xs g,(FX H 7 4 xs g)[n]?=some (.lst (ts.map tD)):=fun xs g=>zH hn _
 have WA:∀ xs g,zbu (FX H 7 4 xs g) w t P turn ts:=fun xs g=>W.app _
 have s8:(zm (.tp [7,8]) (zi zd5 (za (var 2) (za (var 3) (za (fld 4 (var 5)) ze))))) [some (.obj w),some (.int P),some (.obj n),some (.int a),some (.int b),some (.obj H.length),some (.obj (H.length+2)),none,none] (FX H 7 4 (S.map sD) [l4]) = .nx [some (.obj w),some (.int P),some (.obj n),some (.int a),some (.int b),some (.obj H.length),some (.obj (H.length+2)),some (.obj (H.length+3)),some (.int (g.map (·.n)).sum)] (FX H 7 4 (S.map sD) [l4,.lst ((a :: g.map (·.b)).map .int)]):=by
   have wk:=zmn (nA (S.map sD) [l4]) (f1 (S.map sD) [l4]) ω (fun t ht=>⟨(hts t ht).n0,(hts t ht).n1⟩) a
   rw [hg]at wk
   dsimp only at wk
   have e1:(FX H 7 4 (S.map sD) [l4]).length=H.length+3:=by simp [FX]
   have e2:FX H 7 4 (S.map sD) [l4]++[.lst ((a :: g.map (·.b)).map .int)]=FX H 7 4 (S.map sD) [l4,.lst ((a :: g.map (·.b)).map .int)]:=by simp [FX]
   rw [e1,e2]at wk
   generalize FX H 7 4 (S.map sD) [l4,.lst ((a :: g.map (·.b)).map .int)]=Q2 at *
   simp [f0,wk]
 generalize O.lst ((a :: g.map (·.b)).map .int)=l5 at *
 have s9:(ifS (orT (tst (bin neV (zi zdf (za (var 0) (za (var 3) (za (fld 4 (var 5)) ze)))) (zJ (za (var 4) (za (var 8) ze))))) (zS (tru (zbG .tuple (zi zdf (za (var 0) (za (var 3) (za (fld 4 (var 5)) ze)))))))) (zp (zb (.bl false))) zu) [some (.obj w),some (.int P),some (.obj n),some (.int a),some (.int b),some (.obj H.length),some (.obj (H.length+2)),some (.obj (H.length+3)),some (.int (g.map (·.n)).sum)] (FX H 7 4 (S.map sD) [l4,l5]) = .nx [some (.obj w),some (.int P),some (.obj n),some (.int a),some (.int b),some (.obj H.length),some (.obj (H.length+2)),some (.obj (H.length+3)),some (.int (g.map (·.n)).sum)] (FX H 7 4 (S.map sD) [l4,l5]):=by
   have cl:=zfc (WA (S.map sD) [l4,l5]) (f1 (S.map sD) [l4,l5]) ω a0 a1 hg
   rw [hfin]at cl
   generalize (g.map (·.n)).sum=Y at *
   simp [f0,cl,zrG,zbQ]
 have s10:(zY (zbf (fld 4 (var 5)) (zJ (za (zb (.int (0))) (za (zb (.int (1))) ze))))) [some (.obj w),some (.int P),some (.obj n),some (.int a),some (.int b),some (.obj H.length),some (.obj (H.length+2)),some (.obj (H.length+3)),some (.int (g.map (·.n)).sum)] (FX H 7 4 (S.map sD) [l4,l5]) = .nx [some (.obj w),some (.int P),some (.obj n),some (.int a),some (.int b),some (.obj H.length),some (.obj (H.length+2)),some (.obj (H.length+3)),some (.int (g.map (·.n)).sum)] (FX H 7 4 ((S++[(⟨0,true⟩:St)]).map sD) [l4,l5]):=by
   have lt:S.length < 1000000:=by omega
   have u:=znx (h:=H) (c:=7) (f:=4) (xs:=S.map sD) (rest:=[l4,l5]) ((S++[(⟨0,true⟩:St)]).map sD)
   have ek:(S++[(⟨0,true⟩:St)]).map sD=S.map sD++[.tup [.int 0,.int 1]]:=by simp;rfl
   rw [ek]at u ⊢
   simp [f0,f1,zcC,lt,u]
 have s11:(zp (bin eqV (zbh zcs (var 5) (za (var 0) (za (var 3) (za (var 4) ze)))) (zi zd6 (za (var 2) (za (var 3) (za (fld 4 (var 5)) (za (var 4) ze))))))) [some (.obj w),some (.int P),some (.obj n),some (.int a),some (.int b),some (.obj H.length),some (.obj (H.length+2)),some (.obj (H.length+3)),some (.int (g.map (·.n)).sum)] (FX H 7 4 ((S++[(⟨0,true⟩:St)]).map sD) [l4,l5]) = .rt (.bl true) (FX H 7 4 ((S++[(⟨0,true⟩:St)]).map sD) [l4,l5]):=by
   have h1:=sh (S++[(⟨0,true⟩:St)]) [l4,l5] a b a0 a1 b0 b1 (by simp;omega)
   have h2:=zmc (nA ((S++[(⟨0,true⟩:St)]).map sD) [l4,l5]) (f1 _ [l4,l5]) (by simp;omega) (fun t ht=>⟨(hts t ht).n0,(hts t ht).n1⟩) a b
   generalize dcd (zdG ts a b (S++[(⟨0,true⟩:St)]))=V at h1 h2
   generalize (S++[(⟨0,true⟩:St)]).map sD=Z at *
   simp [f0,zcs,h1,h2,zi0]
 unfold app zdg
 have e00:([D.obj w,.int P,.obj n,.int a,.int b].map some++List.replicate (9 - 5) none:zr)=[some (.obj w),some (.int P),some (.obj n),some (.int a),some (.int b),none,none,none,none]:=rfl
 rw [zkf,if_pos (show [D.obj w,.int P,.obj n,.int a,.int b].length=5 from rfl),e00,zbx,s1,zbv,zbx,s2,zbv,zbx,s3,zbv,zbx,s4,zbv,zbx,s5,zbv,zbx,s6,zbv,zbx,s7,zbv,zbx,s8,zbv,zbx,s9,zbv,zbx,s10,zbv,s11]
 exact zb6 H _ _
end Mx
end
section
open PySem MI
namespace Mx
open My
theorem zm6:∀ l:List T3,zbC (l.map tD) (l.map tD)=true
 | []=>rfl
 | t :: l=>by
   rw [List.map_cons,zbC,zm6 l]
   simp [tD,peq,zbC]
theorem zsw (l:List T3):(l.map tD).all (D.pl 5)=true:=by simp [tD,D.pl]
theorem zul {h:MH}{n m:Nat}{ts:List T3} (hn:h[n]?=some (.lst (ts.map tD))) (hm:h[m]?=some (.lst (ts.map tD))) (e:zr):eqV (.obj n) (.obj m) e h = .ok (.bl true) h:=by
 unfold eqV zbE
 simp only [hn,hm,zsw,if_pos,Cmp.eq,zm6]
theorem ztl (x y:Int) (e:zr) (h:MH):eqV (.tup [.int x,.int y]) (.tup [.int x,.int y]) e h = .ok (.bl true) h:=by
 simp [eqV,zbE,D.pl,Cmp.eq,peq,zbC]
noncomputable def pD (p:Int×Int):D := .tup [.int p.1,.int p.2]
theorem zvv (l:List T3):MI.cut (l.map tD) none (some 3)=(l.take 3).map tD:=by
 have e:((min (3:Int) (l.length:Int))).toNat=min 3 l.length:=by omega
 simp [MI.cut,sIx,e]
theorem zrv (l:List T3):MI.cut (l.map tD) (some (-2)) none=(l.drop (l.length - 2)).map tD:=by
 have e:(max (-2+(l.length:Int)) 0).toNat=l.length - 2:=by omega
 simp [MI.cut,sIx,e]
 exact List.take_of_length_le ς
theorem zwz {Q:MH}{n m:Nat}{ts:List T3}{p1:List (Int×Int)} (g1:Q[n]?=some (.lst (ts.map tD))) (g4:Q[m]?=some (.lst (p1.map pD))) (p1l:p1.length=7) (hl:ts.length<=63) {x0 x1 x3 x4 x6 x7 x8:Option D} :
   (zm (.nm 5) (zM (zdS (zM (zdS (var 5) (zbR [none] (.nm 0) (itL (zM (zdX (var 2) noP (zcE (zb (.int (3))))))) zbP (zeb (var 0) noP (zcE (zb (.int (2)))))))) (zbR [none] (.nm 0) (itL (zM (zdX (var 2) (zcE (un zce (zb (.int (2))))) noP))) zbP (zen (var 0)))))) [x0,x1,some (.obj n),x3,x4,some (.obj m),x6,x7,x8] Q = .nx [x0,x1,some (.obj n),x3,x4,some (.obj (Q.length+3)),x6,x7,x8]
     (Q++[.lst ((ts.take 3).map tD),.lst (p1.map pD++(ts.take 3).map fun t=>pD (t.a,t.b)),.lst ((ts.drop (ts.length - 2)).map tD),.lst (p1.map pD++((ts.take 3).map fun t=>pD (t.a,t.b))++(ts.drop (ts.length - 2)).map fun t=>pD (t.b,t.a))]):=by
 have cA:=zvv ts
 have cB:=zrv ts
 have c1:=zdI (t := .nm 0) (gs:=[(Q.length,.lst ((ts.take 3).map tD))]) (elt:=(zeb (var 0) noP (zcE (zb (.int (2)))))) (h:=Q++[.lst ((ts.take 3).map tD)]) tD (fun t=>pD (t.a,t.b)) (fun e=>∃ d,e=[d]) (zb0 ς) (ts.take 3) (by
   rintro x _ _ ⟨d,rfl⟩
   exact ⟨_,rfl,⟨_,rfl⟩,by simp [tD,pD]⟩) [none] ⟨_,rfl⟩
 have l1:((ts.take 3).map tD).length<=1000000:=by simp;omega
 have l2:((ts.drop (ts.length - 2)).map tD).length<=1000000:=by simp;omega
 have l3:(p1.map pD).length+((ts.take 3).map fun t=>pD (t.a,t.b)).length<=1000000:=by simp [p1l];omega
 have l4:(p1.map pD++(ts.take 3).map fun t=>pD (t.a,t.b)).length+((ts.drop (ts.length - 2)).map fun t=>pD (t.b,t.a)).length<=1000000:=by simp [p1l];omega
 have c2:=zdI (t := .nm 0) (gs:=[(Q.length+2,.lst ((ts.drop (ts.length - 2)).map tD))]) (elt:=(zen (var 0))) (h:=Q++[.lst ((ts.take 3).map tD),.lst (p1.map pD++(ts.take 3).map fun t=>pD (t.a,t.b)),.lst ((ts.drop (ts.length - 2)).map tD)]) tD (fun t=>pD (t.b,t.a)) (fun e=>∃ d,e=[d]) (zb0 (by rw [zcB];rfl)) (ts.drop (ts.length - 2)) (by
   rintro x _ _ ⟨d,rfl⟩
   exact ⟨_,rfl,⟨_,rfl⟩,by simp [tD,pD]⟩) [none] ⟨_,rfl⟩
 generalize (ts.take 3).map (fun t=>pD (t.a,t.b))=Y1 at *
 generalize (ts.drop (ts.length - 2)).map (fun t=>pD (t.b,t.a))=Y2 at *
 generalize (ts.take 3).map tD=Z1 at *
 generalize (ts.drop (ts.length - 2)).map tD=Z2 at *
 generalize p1.map pD=Z0 at *
 have h1:∀ X,(Q++X)[n]?=some (.lst (ts.map tD)):=fun X=>zH g1 X
 have h4:∀ X,(Q++X)[m]?=some (.lst Z0):=fun X=>zH g4 X
 have h6:∀ X Y,(Q ++ .lst Z1 :: .lst Y :: X)[Q.length+1]?=some (.lst Y):=fun X Y=>by rw [zcB];rfl
 have h7:∀ X Y,(Q ++ .lst Z1 :: .lst Y :: .lst Z2 :: X)[Q.length+2]?=some (.lst Z2):=fun X Y=>by rw [zcB];rfl
 simp at l4
 simp [g1,g4,h1,h4,h6,h7,cA,cB,zbZ,zbH,l1,l2,c1,c2,l3,l4]
theorem law_true (ns:List Int) (h63:ns.length<=63):∃ h',zhL [.obj 0] [.scr (ns.map .int)] = .ok (.bl true) h':=by
 obtain ⟨P,turn,ts,hw,hP0,hP,ht,ht',hl,hts⟩:=zt7 h63 (n:=0) (h:=[.scr (ns.map .int)]) rfl
 have hl63:ts.length<=63:=by omega
 have hPp:(0:Int) < (P:Int):=by omega
 let B0:MH:=[.scr (ns.map .int),.lst (ts.map tD),.ins 0 [(0,.int P),(1,.int turn),(2,.obj 3)],.lst (ts.map tD)]
 let en:Option D->Option D->Option D->Option D->zr:=fun x5 x6 x7 x8=>[some (.obj 0),some (.int P),some (.obj 1),some (.int turn),some (.obj 2),x5,x6,x7,x8]
 have st1:(zm (.tp [1,2,3]) (zi ze7 (za (var 0) ze))) [some (.obj 0),none,none,none,none,none,none,none,none] [.scr (ns.map .int)] = .nx [some (.obj 0),some (.int P),some (.obj 1),some (.int turn),none,none,none,none,none] [.scr (ns.map .int),.lst (ts.map tD)]:=by
   simp [hw]
 have st2:(zm (.nm 4) (zi (mkF 0 zgJ) (za (var 1) (za (var 2) (za (var 3) ze))))) [some (.obj 0),some (.int P),some (.obj 1),some (.int turn),none,none,none,none,none] [.scr (ns.map .int),.lst (ts.map tD)] = .nx (en none none none none) B0:=by
   have hi:=zte (h:=[.scr (ns.map .int),.lst (ts.map tD)]) (n:=1) (P:=P) (turn:=turn) (ts:=ts) rfl ω ω ht ht' ω hts
   simp [hi,B0,en]
 let p0:List (Int×Int):=[(0,(P:Int) - 1),(0,0),((P:Int) - 1,0)]
 have st3:(zm (.nm 5) (zM (zbA (za (zJ (za (zb (.int (0))) (za (bin z6 (var 1) (zb (.int (1)))) ze))) (za (zJ (za (zb (.int (0))) (za (zb (.int (0))) ze))) (za (zJ (za (bin z6 (var 1) (zb (.int (1)))) (za (zb (.int (0))) ze))) ze)))))) (en none none none none) B0 = .nx (en (some (.obj 4)) none none none) (B0++[.lst (p0.map pD)]):=by
   have hle:B0.length=4:=rfl
   clear_value B0
   simp [en,p0,pD,hle]
 let f4:Nat->Int×Int:=fun k=>(zbY (zdy ns k) 3 P,zbY (zdy ns k) 4 P)
 have loop4:=zhu (t := .nm 6) (gs:=[]) (body:=(zY (zbf (var 5) (zJ (za (zi zy (za (zi zbm (za (var 0) (za (var 6) ze))) (za (zb (.int (3))) (za (var 1) ze)))) (za (zi zy (za (zi zbm (za (var 0) (za (var 6) ze))) (za (zb (.int (4))) (za (var 1) ze)))) ze)))))) (fun k:Nat=>D.int k)
   (fun d e h'=>∃ x,e=en (some (.obj 4)) x none none∧h'=B0++[.lst ((p0++d.map f4).map pD)]∧d.length<=4) (List.range 4) (by
   rintro d k r e h' eq ⟨x,rfl,rfl,hd⟩
   refine ⟨rfl,_,rfl,?_⟩
   have hd4:d.length+1<=4:=by have:=congrArg List.length eq;simp at this;omega
   refine ⟨en (some (.obj 4)) (some (.int k)) none none,_,?_,_,rfl,rfl,by simp;omega⟩
   have hc:∀ X,app zbm [.obj 0,.int k] (B0++X) = .ok (.int (zdy ns k)) (B0++X):=fun X=>zmy (ns:=ns) (n:=0) (h:=B0++X) rfl (i:=(k:Int)) ω
   have hd3:=zcQ (a:=zdy ns k) (b:=3) hPp
   have hd4':=zcQ (a:=zdy ns k) (b:=4) hPp
   have e5:(p0++(d++[k]).map f4).map pD=(p0++d.map f4).map pD++[.tup [.int (zbY (zdy ns k) 3 P),.int (zbY (zdy ns k) 4 P)]]:=by simp [pD,f4]
   rw [e5]
   have lt:((p0++d.map f4).map pD).length < 1000000:=by simp [p0];omega
   have g4:(B0++[.lst ((p0++d.map f4).map pD)])[4]?=some (.lst ((p0++d.map f4).map pD)):=rfl
   have sset:∀ o,(B0++[O.lst ((p0++d.map f4).map pD)]).set 4 o=B0++[o]:=fun o=>rfl
   have hcv:=hc [.lst ((p0++d.map f4).map pD)]
   generalize zbY (zdy ns k) 3 P=v3 at *
   generalize zbY (zdy ns k) 4 P=v4 at *
   generalize (p0++d.map f4).map pD=Z at *
   have hz:∀ o,B0++[o]=B0++[o]:=fun _=>rfl
   clear_value B0
   show (zY (zbf (var 5) (zJ (za (zi zy (za (zi zbm (za (var 0) (za (var 6) ze))) (za (zb (.int (3))) (za (var 1) ze)))) (za (zi zy (za (zi zbm (za (var 0) (za (var 6) ze))) (za (zb (.int (4))) (za (var 1) ze)))) ze))))) [some (.obj 0),some (.int P),some (.obj 1),some (.int turn),some (.obj 2),some (.obj 4),some (.int k),none,none] _ = .nx [some (.obj 0),some (.int P),some (.obj 1),some (.int turn),some (.obj 2),some (.obj 4),some (.int k),none,none] _
   have sz:=sset (.lst (Z++[.tup [.int v3,.int v4]]))
   generalize B0++[.lst (Z++[.tup [.int v3,.int v4]])]=Q2 at *
   subst sz
   generalize B0++[O.lst Z]=Q at *
   simp [hcv,hd3,hd4',g4,zcC,lt]) (fun _ _ _=>rfl) (en (some (.obj 4)) none none none) (B0++[.lst (p0.map pD)]) ⟨none,rfl,ς,ς⟩
 obtain ⟨e4,h4,hr4,x6,rfl,rfl,_⟩:=loop4
 have st4:(zcY (.nm 6) (itR (zb (.int (4))))
   (zY (zbf (var 5) (zJ (za (zi zy (za (zi zbm (za (var 0) (za (var 6) ze))) (za (zb (.int (3))) (za (var 1) ze)))) (za (zi zy (za (zi zbm (za (var 0) (za (var 6) ze))) (za (zb (.int (4))) (za (var 1) ze)))) ze)))))) (en (some (.obj 4)) none none none) (B0++[.lst (p0.map pD)]) = .nx (en (some (.obj 4)) x6 none none) (B0++[.lst ((p0++(List.range 4).map f4).map pD)]):=by
   rw [zl4]
   exact hr4
 let p1:List (Int×Int):=p0++(List.range 4).map f4
 let p2:List (Int×Int):=p1++(ts.take 3).map fun t=>(t.a,t.b)
 let p3:List (Int×Int):=p2++(ts.drop (ts.length - 2)).map fun t=>(t.b,t.a)
 let B:MH:=B0++[.lst (p1.map pD),.lst ((ts.take 3).map tD),.lst (p2.map pD),.lst ((ts.drop (ts.length - 2)).map tD),.lst (p3.map pD)]
 have p1l:p1.length=7:=by simp [p1,p0]
 have p1r:∀ p∈p1,(0<=p.1∧p.1 < (P:Int))∧0<=p.2∧p.2 < (P:Int):=fun p hp=>by
   rcases List.mem_append.1 hp with hp | hp
   . simp [p0]at hp
     rcases hp with rfl | rfl | rfl <;> refine ⟨⟨?_,?_⟩,?_,?_⟩ <;> dsimp only <;> omega
   . obtain ⟨k,_,rfl⟩:=List.mem_map.1 hp
     exact ⟨⟨zed _ _ hPp,zef _ _ hPp⟩,zed _ _ hPp,zef _ _ hPp⟩
 have p3r:∀ p∈p3,(0<=p.1∧p.1 < (P:Int))∧0<=p.2∧p.2 < (P:Int):=fun p hp=>by
   rcases List.mem_append.1 hp with hp | hp
   . rcases List.mem_append.1 hp with hp | hp
     . exact p1r p hp
     . obtain ⟨t,hm,rfl⟩:=List.mem_map.1 hp
       have o:=hts t (List.mem_of_mem_take hm)
       exact ⟨⟨o.a0,o.a1⟩,o.b0,o.b1⟩
   . obtain ⟨t,hm,rfl⟩:=List.mem_map.1 hp
     have o:=hts t (List.mem_of_mem_drop hm)
     exact ⟨⟨o.b0,o.b1⟩,o.a0,o.a1⟩
 have st5:(zm (.nm 5) (zM (zdS (zM (zdS (var 5) (zbR [none] (.nm 0) (itL (zM (zdX (var 2) noP (zcE (zb (.int (3))))))) zbP (zeb (var 0) noP (zcE (zb (.int (2)))))))) (zbR [none] (.nm 0) (itL (zM (zdX (var 2) (zcE (un zce (zb (.int (2))))) noP))) zbP (zen (var 0)))))) (en (some (.obj 4)) x6 none none) (B0++[.lst (p1.map pD)]) = .nx (en (some (.obj 8)) x6 none none) B:=by
   have e2:p2.map pD=p1.map pD++(ts.take 3).map fun t=>pD (t.a,t.b):=by simp [p2];rfl
   have e3:p3.map pD=p2.map pD++(ts.drop (ts.length - 2)).map fun t=>pD (t.b,t.a):=by simp [p3];rfl
   have:=zwz (n:=1) (m:=4) (Q:=B0++[.lst (p1.map pD)]) (ts:=ts) (p1:=p1) rfl rfl p1l hl63 (x0:=some (.obj 0)) (x1:=some (.int P)) (x3:=some (.int turn)) (x4:=some (.obj 2)) (x6:=x6) (x7:=none) (x8:=none)
   rw [<- e2,<- e3]at this
   exact this
 have WB:zbu B 2 3 P turn ts:=⟨rfl,rfl⟩
 have nB:B[1]?=some (.lst (ts.map tD)):=rfl
 have g8:B[8]?=some (.lst (p3.map pD)):=rfl
 clear_value B p3
 have loop:=zhu (t := .tp [7,8]) (gs:=[(8,.lst (p3.map pD))]) (body:=(ifS (zS (tru (zi zdg (za (var 4) (za (var 1) (za (var 2) (za (var 7) (za (var 8) ze)))))))) (zp (zb (.bl false))) zu)) pD
   (fun d e h'=>∃ x7 x8,e=en (some (.obj 8)) x6 x7 x8∧h'=B) p3 (by
   rintro d ⟨a,b⟩ r e h' eq ⟨x7,x8,rfl,rfl⟩
   obtain ⟨⟨a0,a1⟩,b0,b1⟩:=p3r (a,b) (by rw [<- eq];simp)
   refine ⟨zb0 g8,_,rfl,?_⟩
   refine ⟨en (some (.obj 8)) x6 (some (.int a)) (some (.int b)),h',?_,_,_,rfl,rfl⟩
   have hrt:app zdg [.obj 2,.int P,.obj 1,.int a,.int b] h' = .ok (.bl true) h':=by
     rcases zgW WB hts ω ω hl63 a0 a1 b0 b1 with ⟨S,hf,F,hS⟩ | ⟨S,hf,F,hS⟩
     . exact zvR WB nB hts hl63 a0 a1 b0 b1 hf F hS
     . exact zuc WB nB hts hl63 a0 a1 b0 b1 hf F hS
   show (ifS (zS (tru (zi zdg (za (var 4) (za (var 1) (za (var 2) (za (var 7) (za (var 8) ze)))))))) (zp (zb (.bl false))) zu) [some (.obj 0),some (.int P),some (.obj 1),some (.int turn),some (.obj 2),some (.obj 8),x6,some (.int a),some (.int b)] h' = .nx [some (.obj 0),some (.int P),some (.obj 1),some (.int turn),some (.obj 2),some (.obj 8),x6,some (.int a),some (.int b)] h'
   simp [hrt]) (by rintro e h' ⟨_,_,rfl,rfl⟩;exact zb0 g8) (en (some (.obj 8)) x6 none none) B ⟨none,none,rfl,rfl⟩
 obtain ⟨e6,h6,hr6,x7,x8,rfl,rfl⟩:=loop
 have st6:(zcY (.tp [7,8]) (itL (var 5))
   (ifS (zS (tru (zi zdg (za (var 4) (za (var 1) (za (var 2) (za (var 7) (za (var 8) ze)))))))) (zp (zb (.bl false))) zu)) (en (some (.obj 8)) x6 none none) h6 = .nx (en (some (.obj 8)) x6 x7 x8) h6:=by
   have hit:itL (var 5) (en (some (.obj 8)) x6 none none) h6 = .ok (p3.map pD,[(8,.lst (p3.map pD))]) h6:=by
     simp [en,g8]
   rw [zl4,hit,znd]
   exact hr6
 have hti:=zdh WB
 have eq1:=zul (h:=h6++[.lst (ts.map tD)]) (n:=h6.length) (m:=1) (ts:=ts) ς (zH nB _)
 have cl:=zfc (h:=h6++[.lst (ts.map tD),.lst []]) (l:=h6.length+1) (S:=[]) (WB.app _) (by rw [zcB];rfl) ς (a:=0) ω ω (g:=[]) rfl
 have wA:∀ X,(h6++X)[2]?=some (.ins 0 [(0,.int P),(1,.int turn),(2,.obj 3)]):=fun X=>(WB.app X).w
 refine ⟨h6++[.lst (ts.map tD),.lst []],?_⟩
 unfold zhL
 have e00:([D.obj 0].map some++List.replicate (9 - 1) none:zr)=[some (.obj 0),none,none,none,none,none,none,none,none]:=rfl
 rw [zkf,if_pos (show [D.obj 0].length=1 from rfl),e00,zbx,st1,zbv,zbx,st2,zbv,zbx,st3,zbv,zbx,st4,zbv,zbx,st5,zbv,zbx,st6,zbv]
 simp at cl
 simp [en,WB.w,zcM,hti,eq1,cl,ztl]
end Mx
end
section
namespace L2
open PySem PySem.Spec PyProof.Rows
noncomputable abbrev Key:=Sum Int Str
noncomputable def zgI:Key->Value->Bool
 | .inl k,v=>Value.isInt k v
 | .inr x,v=>Value.isStrOf x v
noncomputable def zuj (w:World):Key->Int
 | .inl k=>hashInt k
 | .inr x=>hashStr w x
theorem zdY:∀ {k:Key}{v:Value},zgI k v=true->(∃ i t,k=Sum.inl i∧v=Value.int i t)∨(∃ x t,k=Sum.inr x∧v=Value.str x t)
 | .inl i,v,h=>by
   obtain ⟨t,e⟩:=Value.isInt_shape (k:=i) (v:=v) h
   exact .inl ⟨i,t,rfl,e⟩
 | .inr x,v,h=>by
   obtain ⟨t,e⟩:=Value.isStrOf_shape (x:=x) (v:=v) h
   exact .inr ⟨x,t,rfl,e⟩
theorem zsQ (i:Int) (t:Tok):zgI (.inl i) (.int i t)=true:=by simp [zgI,Value.isInt]
theorem ztT (x:Str) (t:Tok):zgI (.inr x) (.str x t)=true:=by simp [zgI,Value.isStrOf]
theorem zu6 (a b:Int):decide ((Sum.inl a:Key)=Sum.inl b)=(a == b):=by
 by_cases e:a=b
 . subst e;simp
 . have h:¬ (Sum.inl a:Key)=Sum.inl b:=fun q=>e (Sum.inl.inj q)
   rw [decide_eq_false h]
   exact (beq_eq_false_iff_ne.mpr e).symm
theorem zwQ (a b:Str):decide ((Sum.inr a:Key)=Sum.inr b)=decide (a=b):=by
 by_cases e:a=b
 . subst e;simp
 . have h:¬ (Sum.inr a:Key)=Sum.inr b:=fun q=>e (Sum.inr.inj q)
   rw [decide_eq_false h,decide_eq_false e]
theorem zws (a:Int) (b:Str):decide ((Sum.inl a:Key)=Sum.inr b)=false:=decide_eq_false (fun q=>nomatch q)
theorem zsh (a:Str) (b:Int):decide ((Sum.inr a:Key)=Sum.inl b)=false:=decide_eq_false (fun q=>nomatch q)
noncomputable def zbj (prog:Program) (w:World):PySem.KeyKind prog w Key where
 is:=zgI
 hash:=zuj w
 inj:=fun v a b ha hb=>by
   rcases zdY ha with ⟨i,t,rfl,rfl⟩ | ⟨x,t,rfl,rfl⟩
   . rcases zdY hb with ⟨j,u,rfl,e⟩ | ⟨y,u,rfl,e⟩
     . injection e with e1 _;rw [e1]
     . exact nomatch e
   . rcases zdY hb with ⟨j,u,rfl,e⟩ | ⟨y,u,rfl,e⟩
     . exact nomatch e
     . injection e with e1 _;rw [e1]
 byValue:=fun k v h=>by
   rcases zdY h with ⟨i,t,rfl,rfl⟩ | ⟨x,t,rfl,rfl⟩ <;> rfl
 pyHash:=fun hv h=>by
   rcases zdY hv with ⟨i,t,rfl,rfl⟩ | ⟨x,t,rfl,rfl⟩
   . exact wpAny_pyHash_int h
   . exact wpAny_pyHash_str h
 eqBool:=fun hu hv h=>by
   rcases zdY hu with ⟨i,t,rfl,rfl⟩ | ⟨x,t,rfl,rfl⟩
   . rcases zdY hv with ⟨j,u,rfl,rfl⟩ | ⟨y,u,rfl,rfl⟩
     . rw [zu6]at h;exact wpAny_eqBool_int h
     . rw [zws]at h;exact SeqAt.EqAt.int_str i t y u _ _ _ _ h
   . rcases zdY hv with ⟨j,u,rfl,rfl⟩ | ⟨y,u,rfl,rfl⟩
     . rw [zsh]at h;exact SeqAt.EqAt.str_int x t j u _ _ _ _ h
     . rw [zwQ]at h;exact wpAny_eqBool_str h
 «strs»:=fun k x t v h=>by
   rcases zdY h with ⟨i,u,rfl,e⟩ | ⟨y,u,rfl,e⟩
   . exact nomatch e
   . injection e with e1 _
     subst e1
     cases v <;> rfl
theorem ztg (prog:Program) (w:World) (i:Int) (t:Tok):(zbj prog w).is (.inl i) (.int i t)=true:=zsQ i t
theorem zvS (prog:Program) (w:World) (x:Str) (t:Tok):(zbj prog w).is (.inr x) (.str x t)=true:=ztT x t
end L2
namespace L2
open PySem PySem.Spec PyProof.Rows
inductive V where
 | non | bl (b:Bool) | int (i:Int) | str (x:Str) | byt (b:Array UInt8) | flt (b:UInt64) | ref (a:Addr) | ty (n:String)
 deriving DecidableEq
noncomputable def zo:V->Value->Prop
 | .non,u=>u=Value.none
 | .bl b,u=>u=Value.bool b
 | .int i,u=>∃ t,u=Value.int i t
 | .str x,u=>∃ t,u=Value.str x t
 | .byt b,u=>∃ t,u=Value.bytes b t
 | .flt b,u=>∃ t,u=Value.float b t
 | .ref a,u=>u=Value.ref a
 | .ty n,u=>u=Value.type n
noncomputable abbrev zt:List V->List Value->Prop:=Paired zo
theorem zt.length {xs:List V}{us:List Value} (r:zt xs us):xs.length=us.length:=Paired.length r
theorem zt.get:∀ {xs:List V}{us:List Value}{i:Nat}{x:V},zt xs us->xs[i]?=some x->∃ u,us[i]?=some u∧zo x u
 | _,_,_,_,.nil,e=>by simp at e
 | _,_,0,_,.cons r _,e=>by simp at e;subst e;exact ⟨_,rfl,r⟩
 | _,_,i+1,x,.cons _ t,e=>by
   obtain ⟨u,h1,h2⟩:=zt.get (i:=i) (x:=x) t (by simpa using e)
   exact ⟨u,by simpa using h1,h2⟩
theorem zt.set {x:V}{u:Value} (r:zo x u):∀ {xs:List V}{us:List Value} (i:Nat),zt xs us->zt (xs.set i x) (us.set i u)
 | _,_,_,.nil=> .nil
 | _,_,0,.cons _ t=> .cons r t
 | _,_,i+1,.cons q t=> .cons q (zt.set r i t)
theorem zt.append:∀ {xs ys:List V}{us ws:List Value},zt xs us->zt ys ws->zt (xs++ys) (us++ws)
 | _,_,_,_,.nil,s=>s
 | _,_,_,_,.cons r t,s=> .cons r (zt.append t s)
theorem zt.take:∀ {xs:List V}{us:List Value} (n:Nat),zt xs us->zt (xs.take n) (us.take n)
 | _,_,0,_=> .nil
 | _,_,_+1,.nil=> .nil
 | _,_,n+1,.cons r t=> .cons r (zt.take n t)
theorem zt.drop:∀ {xs:List V}{us:List Value} (n:Nat),zt xs us->zt (xs.drop n) (us.drop n)
 | _,_,0,r=>r
 | _,_,_+1,.nil=> .nil
 | _,_,n+1,.cons _ t=>zt.drop n t
noncomputable def zcF:Option V->Option Value->Prop
 | some v,some u=>zo v u
 | none,none=>True
 | _,_=>False
noncomputable def KV {κ:Type}:List (κ×V)->List (κ×Value)->Prop:=Paired fun (p:κ×V) (q:κ×Value)=>p.1=q.1∧zo p.2 q.2
noncomputable def kV:Key->V
 | .inl i=> .int i
 | .inr x=> .str x
inductive HO where
 | lst (xs:List V)
 | tup (xs:List V)
 | dK (kvs:List (Key×V)) | dT (kvs:List (List Key×V))
 | set (S:Int->Bool) (n:Nat)
 | ins (C dx:Addr) (fs:List (Str×V))
 | own (x:Addr)
 | xd (fs:List (Str×V))
 | met (f x:Addr)
 | rng (lo hi:Int)
 | frz (o:Obj) (u:HO)
 | tbl (ps:Array Value)
 | ext (φ:Heap->Prop)
noncomputable abbrev Hp:=Addr->Option HO
noncomputable def upd (H:Hp) (a:Addr) (o:HO):Hp:=fun b=>if b=a then some o else H b
theorem zb4 {H:Hp}{a:Addr}{o:HO}:upd H a o a=some o:=by unfold upd;rw [if_pos rfl]
theorem zU {H:Hp}{a b:Addr}{o:HO} (h:b≠a):upd H a o b=H b:=by unfold upd;rw [if_neg h]
theorem zrY {H:Hp}{a b:Addr}{o u:HO} (h:H a=some o) (h':H b=some u) (d:o≠u):a≠b:=by
 intro e;subst e;rw [h]at h';exact d (Option.some.inj h')
theorem zde {H:Hp}{a b:Addr}{o:HO} (h:H a=some o) (h':H b=none):a≠b:=by
 intro e;subst e;rw [h]at h';cases h'
section
variable (P:Program) (w:World)
noncomputable def zbp (H:Hp) (h:Heap) (a:Addr):HO->Prop
 | .lst xs=>xs.length<=sizeLine∧∃ (its:List Value) (n:Nat),zt xs its∧h.get? a=some { cls := .type "list",data := .seq its.toArray n }
 | .tup xs=>xs.length<=sizeLine∧∃ its:List Value,zt xs its∧IsTup h a its.toArray
 | .dK kvs=>kvs.length<=sizeLine∧(a == sysModules)=false∧∃ vs,KV kvs vs∧h.DictOf (zbj P w) a vs
 | .dT kvs=>kvs.length<=sizeLine∧(a == sysModules)=false∧∃ xs:List (List Key×Addr×Value),
     Paired (fun (p:List Key×V) (q:List Key×Addr×Value)=>p.1=q.1∧H q.2.1=some (.tup (p.1.map kV))∧zo p.2 q.2.2) kvs xs ∧
     ∃ o es ep,h.get? a=some o∧o.ExactDict∧o.data = .dict es ep∧es.toList=xs.map (entryOfKey (tupleKind (zbj P w)))∧(xs.map (·.1)).Nodup
 | .set S n=>h.SetOf (intKind P w) a S n
 | .ins C dx fs=>H dx=some (.own a)∧fs.length<=1000∧dx≠a∧h.get? a=some (PySem.W.instObj C dx) ∧
     ∃ mA,h.Ns1 dx mA∧(∀ f,zcF (fs.lookup f) (mA f))∧PySem.Within mA (fs.map (·.1))
 | .own _=>∃ o,h.get? a=some o
 | .xd fs=>∃ mA,h.Ns1 a mA∧∀ f,zcF (fs.lookup f) (mA f)
 | .rng lo hi=>∃ t u v,h.get? a=some { cls := .type "range",data := .fields #[.int lo t,.int hi u,.int 1 v] }
 | .frz o u=>h.get? a=some o∧zbp H h a u
 | .tbl ps=>h.get? a=some { cls := .none,data := .fields ps }
 | .met f x=>h.get? a=some (PySem.W.methodObj (.ref f) (.ref x))
 | .ext φ=>φ h∧(∃ o,h.get? a=some o)∧∀ h1 h2:Heap,φ h1->(∀ o,h1.get? a=some o->h2.get? a=some o)->φ h2
noncomputable def HOk (H:Hp) (h:Heap):Prop:=∀ a o,H a=some o->zbp P w H h a o
end
section
variable {P:Program}{w:World}{H H':Hp}{h h':Heap}{a:Addr}{o:HO}
theorem zbp.lt (x:zbp P w H h a o):a < h.objs.size:=by
 cases o with
 | lst xs=>obtain ⟨_,_,_,_,e⟩:=x;exact Heap.lt_size e
 | tup xs=>obtain ⟨_,_,_,p⟩:=x;exact p.lt
 | dK kvs=>obtain ⟨_,_,_,_,o,_,_,e,_⟩:=x;exact Heap.lt_size e
 | dT kvs=>obtain ⟨_,_,_,_,o,_,_,e,_⟩:=x;exact Heap.lt_size e
 | set S n=>obtain ⟨o,_,_,_,e,_⟩:=x;exact Heap.lt_size e
 | ins C dx fs=>obtain ⟨_,_,_,e,_⟩:=x;exact Heap.lt_size e
 | own y=>obtain ⟨_,e⟩:=x;exact Heap.lt_size e
 | xd fs=>obtain ⟨_,⟨_,_,_,e,_⟩,_⟩:=x;exact Heap.lt_size e
 | rng lo hi=>obtain ⟨_,_,_,e⟩:=x;exact Heap.lt_size e
 | frz ob u=>obtain ⟨e,_⟩:=x;exact Heap.lt_size e
 | tbl ps=>exact Heap.lt_size (show h.get? a=some _ from x)
 | met f y=>exact Heap.lt_size (show h.get? a=some _ from x)
 | ext φ=>obtain ⟨_,⟨_,e⟩,_⟩:=x;exact Heap.lt_size e
theorem Paired.mapP {α β:Type}{F G:α->β->Prop}:∀ {l₁:List α}{l₂:List β},Paired F l₁ l₂->(∀ a b,F a b->G a b)->Paired G l₁ l₂
 | _,_,.nil,_=> .nil
 | _,_,.cons r t,f=> .cons (f _ _ r) (Paired.mapP t f)
theorem zbp.stay (x:zbp P w H h a o) (k:∀ b u,(b=a∨H b=some (.own a))->h.get? b=some u->h'.get? b=some u)
   (ho:∀ b,H b=some (.own a)->H' b=some (.own a)) (ht:∀ b xs,H b=some (.tup xs)->H' b=some (.tup xs)):zbp P w H' h' a o:=by
 induction o with
 | lst xs=>obtain ⟨z,its,n,r,e⟩:=x;exact ⟨z,its,n,r,k _ _ (.inl rfl) e⟩
 | tup xs=>obtain ⟨z,its,r,ob,e,c⟩:=x;exact ⟨z,its,r,ob,k _ _ (.inl rfl) e,c⟩
 | dK kvs=>obtain ⟨z,y,vs,r,ob,es,ep,e,c⟩:=x;exact ⟨z,y,vs,r,ob,es,ep,k _ _ (.inl rfl) e,c⟩
 | dT kvs =>
   obtain ⟨z,y,xs,r,ob,es,ep,e,c⟩:=x
   exact ⟨z,y,xs,Paired.mapP r fun p q z=>⟨z.1,ht _ _ z.2.1,z.2.2⟩,ob,es,ep,k _ _ (.inl rfl) e,c⟩
 | set S n=>obtain ⟨ob,es,ep,t,e,c⟩:=x;exact ⟨ob,es,ep,t,k _ _ (.inl rfl) e,c⟩
 | ins C dx fs =>
   obtain ⟨d,z,ne,e,mA,⟨od,es,ep,e2,c⟩,r⟩:=x
   exact ⟨ho _ d,z,ne,k _ _ (.inl rfl) e,mA,⟨od,es,ep,k _ _ (.inr d) e2,c⟩,r⟩
 | own y=>obtain ⟨ob,e⟩:=x;exact ⟨ob,k _ _ (.inl rfl) e⟩
 | xd fs=>obtain ⟨mA,⟨od,es,ep,e,c⟩,r⟩:=x;exact ⟨mA,⟨od,es,ep,k _ _ (.inl rfl) e,c⟩,r⟩
 | rng lo hi=>obtain ⟨t,u,v,e⟩:=x;exact ⟨t,u,v,k _ _ (.inl rfl) e⟩
 | frz ob u ih=>obtain ⟨e,q⟩:=x;exact ⟨k _ _ (.inl rfl) e,ih q⟩
 | tbl ps =>
   have e:h.get? a=some { cls := .none,data := .fields ps }:=x
   show h'.get? a=some { cls := .none,data := .fields ps }
   exact k a _ (.inl rfl) e
 | met f y =>
   have e:h.get? a=some (PySem.W.methodObj (.ref f) (.ref y)):=x
   show h'.get? a=some (PySem.W.methodObj (.ref f) (.ref y))
   exact k a _ (.inl rfl) e
 | ext φ=>obtain ⟨p,⟨o,e⟩,st⟩:=x;exact ⟨st _ _ p fun o q=>k _ _ (.inl rfl) q,⟨o,k _ _ (.inl rfl) e⟩,st⟩
theorem HOk.lt (x:HOk P w H h) (e:H a=some o):a < h.objs.size:=(x a o e).lt
theorem HOk.fresh (x:HOk P w H h) (e:h.objs.size<=a):H a=none:=by
 cases q:H a with
 | none=>rfl
 | some u=>exact absurd (Nat.lt_of_lt_of_le (x.lt q) e) (Nat.lt_irrefl _)
theorem HOk.kept (x:HOk P w H h) (k:∀ b u,h.get? b=some u->h'.get? b=some u):HOk P w H h':=fun a o e =>
 (x a o e).stay (fun b u _ q=>k b u q) (fun _ q=>q) fun _ _ q=>q
theorem HOk.laid (x:HOk P w H h) (k:∀ b u,h.get? b=some u->h'.get? b=some u) (hp:h.objs.size<=a) (new:zbp P w (upd H a o) h' a o):HOk P w (upd H a o) h':=fun b u e=>by
 have hn:=x.fresh hp
 by_cases hb:b=a
 . subst hb;rw [zb4]at e;cases e;exact new
 . rw [zU hb]at e
   exact (x b u e).stay (fun c v _ q=>k c v q) (fun c q=>by rw [zU (zde q hn)];exact q) fun c xs q=>by rw [zU (zde q hn)];exact q
end
noncomputable def Rd (H:Hp) (a:Addr) (u:HO):Prop:=H a=some u∨∃ o,H a=some (.frz o u)
theorem Rd.ok {P:Program}{w:World}{H:Hp}{h:Heap}{a:Addr}{u:HO} (r:Rd H a u) (x:HOk P w H h):zbp P w H h a u:=by
 rcases r with r | ⟨o,r⟩
 . exact x a u r
 . obtain ⟨_,q⟩:=x a _ r
   exact q
noncomputable def Mut:Option HO->Prop
 | some (.lst _)=>True
 | some (.dK _)=>True
 | some (.dT _)=>True
 | some (.set _ _)=>True
 | some (.ins _ _ _)=>True
 | some (.ext _)=>True
 | _=>False
section
variable {P:Program}{w:World}{H:Hp}{h h':Heap}{x e:Addr}{o':HO}
theorem HOk.write (ok:HOk P w H h) (mu:Mut (H x)) (he:e=x∨H e=some (.own x)) (k:∀ b u,b≠e->h.get? b=some u->h'.get? b=some u) (heo:∃ u,h'.get? e=some u)
   (new:zbp P w (upd H x o') h' x o'):HOk P w (upd H x o') h':=fun b u q=>by
 have nown:∀ c y,H c=some (.own y)->c≠x:=fun c y r z=>by subst z;rw [r]at mu;exact mu
 have ntup:∀ c xs,H c=some (.tup xs)->c≠x:=fun c xs r z=>by subst z;rw [r]at mu;exact mu
 by_cases hb:b=x
 . subst hb;rw [zb4]at q;cases q;exact new
 . rw [zU hb]at q
   by_cases hbe:b=e
   . have q':H b=some (.own x):=by
       rcases he with z | z
       . exact absurd (hbe.trans z) hb
       . rw [hbe];exact z
     rw [q]at q';cases q'
     obtain ⟨v,hv⟩:=heo
     exact ⟨v,by rw [hbe];exact hv⟩
   . refine (ok b u q).stay (fun c v hc r=>k c v ?_ r) (fun c r=>by rw [zU (nown c b r)];exact r) fun c xs r=>by rw [zU (ntup c xs r)];exact r
     rcases hc with rfl | hc
     . exact hbe
     . rintro rfl
       rcases he with z | z
       . exact nown c b hc z
       . rw [hc]at z;cases z;exact hb rfl
end
structure Un (fs ex:List Addr) (H H':Hp) (h h':Heap):Prop where
 keep:∀ b o,h.get? b=some o->H b=none->b∉fs->b∉ex->h'.get? b=some o
 slot:∀ b o,h.get? b=some o->H b=none->b∈fs->b∉ex->∃ sl,h'.get? b=some { o with slots:=sl }
 free:∀ b o,h.get? b=some o->H b=none->b∉ex->H' b=none
 there:∀ b o,h.get? b=some o->b∉ex->∃ o',h'.get? b=some o'
 tups:∀ b xs,H b=some (.tup xs)->H' b=some (.tup xs)
 frzs:∀ b o u,H b=some (.frz o u)->H' b=some (.frz o u)
 tbls:∀ b ps,H b=some (.tbl ps)->∃ more,H' b=some (.tbl (ps++more))
section
variable {fs fs' ex ex':List Addr}{H H1 H2:Hp}{h h1 h2 h':Heap}{a x e:Addr}{o:HO}
theorem Un.any (u:Un fs ex H H1 h h1) {b:Addr}{ob:Obj} (q:h.get? b=some ob) (n:H b=none) (hx:b∉ex):∃ sl,h1.get? b=some { ob with slots:=sl }:=by
 by_cases hb:b∈fs
 . exact u.slot b ob q n hb hx
 . exact ⟨ob.slots,u.keep b ob q n hb hx⟩
theorem Un.kept (k:∀ b u,h.get? b=some u->h'.get? b=some u):Un fs ex H H h h' :=
 ⟨fun b ob q _ _ _=>k b ob q,fun b ob q _ _ _=>⟨ob.slots,k b ob q⟩,fun _ _ _ n _=>n,fun b ob q _=>⟨ob,k b ob q⟩,fun _ _ q=>q,fun _ _ _ q=>q,fun _ ps q=>⟨#[],by rw [q];simp⟩⟩
theorem Un.refl:Un fs ex H H h h:=Un.kept fun _ _ q=>q
theorem Un.laid (k:∀ b u,h.get? b=some u->h'.get? b=some u) (hp:h.objs.size<=a) (hn:H a=none):Un fs ex H (upd H a o) h h' where
 keep:=fun b u q _ _ _=>k b u q
 slot:=fun b u q _ _ _=>⟨u.slots,k b u q⟩
 free:=fun b u q n _=>by rw [zU (Nat.ne_of_lt (Nat.lt_of_lt_of_le (Heap.lt_size q) hp))];exact n
 there:=fun b u q _=>⟨u,k b u q⟩
 tups:=fun b xs q=>by rw [zU (zde q hn)];exact q
 frzs:=fun b u xs q=>by rw [zU (zde q hn)];exact q
 tbls:=fun b ps q=>⟨#[],by rw [zU (zde q hn),q];simp⟩
theorem Un.write (mu:Mut (H x)) (he:e=x∨H e=some (.own x)) (k:∀ b u,b≠e->h.get? b=some u->h'.get? b=some u) (heo:∃ u,h'.get? e=some u):Un fs ex H (upd H x o) h h':=by
 have hx:∀ b,H b=none->b≠x:=fun b n z=>by subst z;rw [n]at mu;exact mu
 have hb:∀ b,H b=none->b≠e:=fun b n z=>by
   subst z
   rcases he with r | r
   . exact hx b n r
   . rw [n]at r;cases r
 have hm:∀ b u,H b=some u->¬ Mut (some u)->b≠x:=fun b u q nm z=>by subst z;rw [q]at mu;exact nm mu
 refine ⟨fun b u q n _ _=>k b u (hb b n) q,fun b u q n _ _=>⟨u.slots,k b u (hb b n) q⟩,fun b u q n _=>by rw [zU (hx b n)];exact n,fun b u q _=>?_,
   fun b xs q=>by rw [zU (hm b _ q fun z=>z)];exact q,fun b u xs q=>by rw [zU (hm b _ q fun z=>z)];exact q,fun b ps q=>⟨#[],by rw [zU (hm b _ q fun z=>z),q];simp⟩⟩
 by_cases hbe:b=e
 . subst hbe;exact heo
 . exact ⟨u,k b u hbe q⟩
end
noncomputable def trk (h:Heap) (H:Hp):List Addr:=(List.range h.objs.size).filter fun a=>(H a).isSome
noncomputable def zee (h:Heap) (H:Hp):Heap:=PySem.W.hideAll h (trk h H)
theorem zwe (h:Heap) (H:Hp):(zee h H).objs.size=h.objs.size:=PySem.W.hideAll_size _ _
theorem zr9 {h:Heap}{H:Hp}{b:Addr}{o:Obj} (e:h.get? b=some o) (n:H b=none):(zee h H).get? b=some o :=
 PySem.W.hideAll_get _ e fun hm=>by
   have q:(H b).isSome=true:=(List.mem_filter.mp hm).2
   rw [n]at q;simp at q
theorem ztm {h:Heap}{H:Hp}{b:Addr}{o:Obj} (e:(zee h H).get? b=some o):h.get? b=some o∧H b=none:=by
 have e':h.get? b=some o:=PySem.W.of_hideAll (trk h H) e
 refine ⟨e',?_⟩
 cases q:H b with
 | none=>rfl
 | some x =>
   have hm:b∈trk h H:=List.mem_filter.mpr ⟨List.mem_range.mpr (Heap.lt_size e'),by simp [q]⟩
   have z:(zee h H).get? b=none:=PySem.W.hideAll_none (trk h H) hm
   rw [z]at e;cases e
end L2
namespace L2
open PySem PySem.Spec PyProof.Rows
structure Mod (K:PySem.W.Frag) (mg:Str->Option Value) (base:Heap):Prop where
 kin:K.In base
 glob:base.Ns mainGlobals mg
 blt:∃ mb,base.Ns builtinsNs mb∧∀ x:Str,x ≠ "__name__" -> mb x=bootBuiltins x
 nolimit:base.NoLimit
structure Cx where
 prog:Program
 w:World
 K:PySem.W.Frag
 mg:Str->Option Value
 base:Heap
 A:Around
 N:List Str
 s₀:Shared
 H₀:Hp
 env:Env
 outer:List Env
 stack:List Env
 ex:List Addr
 fn:Str->Bool
 calm:Bool
 pn:List (Addr×Obj)
 xe:Value->Shared->Prop
noncomputable def frs (l:List Env):List Addr:=l.filterMap (·.frame)
noncomputable abbrev Cx.fs (X:Cx):List Addr:=frs X.outer
noncomputable def Vis (sc:Scope) (x:Str):Prop:=sc.names.lookup x=some .local∨sc.names.lookup x=some .cell∨sc.names.lookup x=some .free
noncomputable def Loc (sc:Scope) (x:Str):Prop:=sc.names.lookup x=some .local∨sc.names.lookup x=some .cell
noncomputable def zwR (env:Env) (h:Heap) (m:Str->Option Value) (x:Str) (u:Value):Prop :=
 (env.kindOf x=some .local∧m x=some u)∨((env.kindOf x=some .cell∨env.kindOf x=some .free)∧∃ c,env.cells.lookup x=some c∧h.IsCell c (some u))
structure Cx.Ok (X:Cx):Prop where
 mod:Mod X.K X.mg X.base
 kind:X.env.scope.kind = .function
 glob:X.env.globals=mainGlobals
 blt:X.env.builtins=builtinsNs
 above:X.s₀.heap.objs.size<=X.env.locals
 inj:∀ x y c,X.env.cells.lookup x=some c->X.env.cells.lookup y=some c->x=y
 has:∀ x,(X.env.kindOf x=some .cell∨X.env.kindOf x=some .free)->∃ c,X.env.cells.lookup x=some c
 cab:∀ x c,X.fn x=true->X.env.cells.lookup x=some c->X.s₀.heap.objs.size<=c
 hd:X.calm=true->X.A.handled=none
 frames:X.A.frames=some X.stack
 stk:X.stack=X.outer∨(X.stack=X.env :: X.outer∧X.env.frame=some X.env.locals)
 exf:∀ b∈X.ex,b≠X.env.locals∧∀ x c,X.env.cells.lookup x=some c->c≠b
 bs:∀ b o,X.base.get? b=some o->X.s₀.heap.get? b=some o∧X.H₀ b=none
 bsz:X.base.objs.size<=X.s₀.heap.objs.size
 noex:∀ b o,X.base.get? b=some o->b∉X.ex
 exfs:∀ b∈X.ex,b∉X.fs
 funs:X.s₀.heap.FunFrames X.base X.outer
 frf:∀ b∈X.fs,X.H₀ b=none
structure Inv (X:Cx) (pins:List (Addr×Obj)) (σ:List (Option V)) (H:Hp) (s:Shared):Prop where
 ok:X.Ok
 os:s.os=X.s₀.os
 bare:AllBare s.gens
 base:Un X.fs X.ex X.H₀ H X.s₀.heap s.heap
 loc:∃ m,s.heap.Ns X.env.locals m∧∀ (i:Nat) (x:Str) (v:V),X.N[i]?=some x->σ[i]?=some (some v)->Vis X.env.scope x->∃ u,zo v u∧zwR X.env s.heap m x u
 cell:∀ x c,X.env.cells.lookup x=some c->∃ v,s.heap.IsCell c v
 free:H X.env.locals=none
 freeC:∀ x c,X.env.cells.lookup x=some c->H c=none
 pin:∀ p∈X.pn++pins,s.heap.get? p.1=some p.2∧H p.1=none∧p.1≠X.env.locals∧p.1∉X.fs∧∀ v,p.2.data ≠ .cell v
 hok:HOk X.prog X.w H s.heap
 len:σ.length=X.N.length
section
variable {X:Cx}{pins:List (Addr×Obj)}{σ:List (Option V)}{H H':Hp}{s:Shared}{h':Heap}
theorem Cx.Ok.nofr (ok:X.Ok) {b:Addr}{o:Obj} (e:X.base.get? b=some o):b∉X.fs:=fun hb=>by
 have:=(ok.funs.mem hb).1
 rw [e]at this;cases this
theorem Inv.bs (I:Inv X pins σ H s):∀ b o,X.base.get? b=some o->s.heap.get? b=some o∧H b=none:=fun b o e =>
 ⟨I.base.keep b o (I.ok.bs b o e).1 (I.ok.bs b o e).2 (I.ok.nofr e) (I.ok.noex b o e),I.base.free b o (I.ok.bs b o e).1 (I.ok.bs b o e).2 (I.ok.noex b o e)⟩
theorem Inv.bk (I:Inv X pins σ H s):∀ b o,X.base.get? b=some o->s.heap.get? b=some o:=fun b o e=>(I.bs b o e).1
theorem Inv.mod (I:Inv X pins σ H s):Mod X.K X.mg X.base:=I.ok.mod
theorem Inv.kIn (I:Inv X pins σ H s):X.K.In s.heap:=I.ok.mod.kin.keeps I.bk
theorem Inv.lt (I:Inv X pins σ H s):X.env.locals < s.heap.objs.size:=let ⟨_,hn,_⟩:=I.loc;hn.lt
theorem Inv.sz (I:Inv X pins σ H s):X.s₀.heap.objs.size<=s.heap.objs.size:=Nat.le_trans I.ok.above (Nat.le_of_lt I.lt)
theorem Inv.nofs (I:Inv X pins σ H s) {a:Addr} (h:s.heap.objs.size<=a):a∉X.fs:=fun hb=>by
 obtain ⟨_,o,ho,_⟩:=I.ok.funs.mem hb
 exact absurd (Nat.lt_of_lt_of_le (Heap.lt_size ho) (Nat.le_trans I.sz h)) (Nat.lt_irrefl _)
theorem Inv.cne (I:Inv X pins σ H s):∀ x c,X.env.cells.lookup x=some c->c≠X.env.locals:=fun x c e z=>by
 obtain ⟨v,o,ho,hd⟩:=I.cell x c e
 obtain ⟨m,⟨o',es,ep,ho',hd',_⟩,_⟩:=I.loc
 rw [z,ho']at ho;cases ho;rw [hd']at hd;cases hd
theorem Inv.funs (I:Inv X pins σ H s):s.heap.FunFrames X.base X.outer:=by
 have all:∀ (l:List Env),(∀ b∈frs l,b∈X.fs)->X.s₀.heap.FunFrames X.base l->s.heap.FunFrames X.base l:=by
   intro l
   induction l with
   | nil=>intro _ _;trivial
   | cons env r ih =>
     intro hs hl
     obtain ⟨hk,⟨L,o,hf,hn,ho,hd⟩,hr⟩:=hl
     have hL:L∈X.fs:=hs L (by unfold frs;rw [List.filterMap_cons,hf];exact List.mem_cons_self)
     obtain ⟨sl,e⟩:=I.base.slot L o ho (I.ok.frf L hL) hL fun z=>I.ok.exfs L z hL
     exact ⟨hk,⟨L,_,hf,hn,e,hd⟩,ih (fun b hb=>hs b (by unfold frs;rw [List.filterMap_cons,hf];exact List.mem_cons_of_mem _ hb)) hr⟩
 exact all X.outer (fun _ hb=>hb) I.ok.funs
theorem Inv.stack (I:Inv X pins σ H s):s.heap.FunFrames X.base X.stack:=by
 rcases I.ok.stk with e | ⟨e,hf⟩
 . rw [e];exact I.funs
 . rw [e]
   obtain ⟨m,hn,_⟩:=I.loc
   refine .cons (by rw [I.ok.kind];decide) hf hn ?_ I.funs
   exact Heap.get?_none_of_le (Nat.le_trans I.ok.bsz I.ok.above)
theorem Inv.stkSub (I:Inv X pins σ H s):∀ b∈frs X.stack,b∈X.env.locals :: X.fs:=fun b hb=>by
 rcases I.ok.stk with e | ⟨e,hf⟩
 . rw [e]at hb;exact List.mem_cons_of_mem _ hb
 . rw [e]at hb
   unfold frs at hb
   rw [List.filterMap_cons,hf]at hb
   exact hb
theorem Inv.stkFree (I:Inv X pins σ H s):∀ b∈frs X.stack,H b=none:=fun b hb=>by
 rcases List.mem_cons.mp (I.stkSub b hb) with e | hb
 . rw [e];exact I.free
 . obtain ⟨_,o,ho,_⟩:=I.ok.funs.mem hb
   exact I.base.free b o ho (I.ok.frf b hb) fun z=>I.ok.exfs b z hb
theorem Inv.step {g':Array GenState}{t':Nat}{d':Drawn}{ch:List Addr} (I:Inv X pins σ H s)
   (hch:∀ b∈ch,(b∈X.ex∨X.s₀.heap.objs.size<=b)∧b≠X.env.locals∧(∀ x c,X.env.cells.lookup x=some c->c≠b)∧∀ p∈X.pn++pins,p.1≠b)
   (keep:∀ b o,b≠X.env.locals->b∉X.fs->b∉ch->s.heap.get? b=some o->H b=none->h'.get? b=some o)
   (slot:∀ b o,b≠X.env.locals->b∈X.fs->b∉ch->s.heap.get? b=some o->H b=none->∃ sl,h'.get? b=some { o with slots:=sl }) (free:∀ b o,b∉ch->s.heap.get? b=some o->H b=none->H' b=none)
   (there:∀ b o,b∉ch->s.heap.get? b=some o->∃ o',h'.get? b=some o')
   (tups:∀ b xs,H b=some (.tup xs)->H' b=some (.tup xs)) (frzs:∀ b o u,H b=some (.frz o u)->H' b=some (.frz o u)) (tbls:∀ b ps,H b=some (.tbl ps)->∃ more,H' b=some (.tbl (ps++more)))
   (ns:∀ m,s.heap.Ns X.env.locals m->h'.Ns X.env.locals m) (hok:HOk X.prog X.w H' h') (hg:AllBare g') :
   Inv X pins σ H' { s with heap:=h',gens:=g',drawn:=d',toks:=t' }:=by
 have neL:∀ b o,X.s₀.heap.get? b=some o->b≠X.env.locals:=fun b o e=>Nat.ne_of_lt (Nat.lt_of_lt_of_le (Heap.lt_size e) I.ok.above)
 have neC:∀ b o,X.s₀.heap.get? b=some o->b∉X.ex->b∉ch:=fun b o e hx hb=>by
   rcases (hch b hb).1 with z | z
   . exact hx z
   . exact absurd (Nat.lt_of_lt_of_le (Heap.lt_size e) z) (Nat.lt_irrefl _)
 have cellK:∀ x c,X.env.cells.lookup x=some c->∀ v,s.heap.IsCell c v->h'.IsCell c v:=fun x c e v ⟨o,ho,hd⟩=>by
   have nch:c∉ch:=fun z=>(hch c z).2.2.1 x c e rfl
   by_cases hc:c∈X.fs
   . obtain ⟨sl,q⟩:=slot c o (I.cne x c e) hc nch ho (I.freeC x c e)
     exact ⟨_,q,hd⟩
   . exact ⟨o,keep c o (I.cne x c e) hc nch ho (I.freeC x c e),hd⟩
 refine ⟨I.ok,I.os,hg,⟨fun b o e n hb hx=>?_,fun b o e n hb hx=>?_,fun b o e n hx=>?_,fun b o e hx=>?_,fun b xs e=>tups b xs (I.base.tups b xs e),fun b o xs e=>frzs b o xs (I.base.frzs b o xs e),fun b ps e=>?_⟩,?_,fun x c e=>?_,?_,fun x c e=>?_,fun p hp=>?_,hok,I.len⟩
 . exact keep b o (neL b o e) hb (neC b o e hx) (I.base.keep b o e n hb hx) (I.base.free b o e n hx)
 . obtain ⟨sl,e1⟩:=I.base.slot b o e n hb hx
   obtain ⟨sl',e2⟩:=slot b _ (neL b o e) hb (neC b o e hx) e1 (I.base.free b o e n hx)
   exact ⟨sl',e2⟩
 . obtain ⟨o',e1⟩:=I.base.there b o e hx
   exact free b o' (neC b o e hx) e1 (I.base.free b o e n hx)
 . obtain ⟨o',e1⟩:=I.base.there b o e hx
   exact there b o' (neC b o e hx) e1
 . obtain ⟨m1,e1⟩:=I.base.tbls b ps e
   obtain ⟨m2,e2⟩:=tbls b _ e1
   exact ⟨m1++m2,by rw [e2,Array.append_assoc]⟩
 . obtain ⟨m,hn,hl⟩:=I.loc
   refine ⟨m,ns m hn,fun i x v e1 e2 e3=>?_⟩
   obtain ⟨u,r,l⟩:=hl i x v e1 e2 e3
   refine ⟨u,r,?_⟩
   rcases l with l | ⟨k,c,e,z⟩
   . exact .inl l
   . exact .inr ⟨k,c,e,cellK x c e _ z⟩
 . obtain ⟨v,z⟩:=I.cell x c e
   exact ⟨v,cellK x c e v z⟩
 . obtain ⟨m,⟨o,_,_,ho,_⟩,_⟩:=I.loc
   exact free _ o (fun z=>(hch _ z).2.1 rfl) ho I.free
 . obtain ⟨v,o,ho,hd⟩:=I.cell x c e
   exact free c o (fun z=>(hch c z).2.2.1 x c e rfl) ho (I.freeC x c e)
 . obtain ⟨e,n,ne,nf,d⟩:=I.pin p hp
   have nch:p.1∉ch:=fun z=>(hch p.1 z).2.2.2 p hp rfl
   exact ⟨keep p.1 p.2 ne nf nch e n,free p.1 p.2 nch e n,ne,nf,d⟩
theorem Inv.un {t':Nat} (I:Inv X pins σ H s) (u:Un X.fs [] H H' s.heap h') (hok:HOk X.prog X.w H' h'):Inv X pins σ H' { s with heap:=h',toks:=t' }:=by
 obtain ⟨m,⟨o,es,ep,ho,r⟩,_⟩:=id I.loc
 obtain ⟨sl,hL⟩:=u.any ho I.free ς
 exact I.step (g':=s.gens) (d':=s.drawn) (ch:=[]) (fun _ z=>nomatch z) (fun b o _ hb _ e n=>u.keep b o e n hb ς) (fun b o _ hb _ e n=>u.slot b o e n hb ς) (fun b o _ e n=>u.free b o e n ς) (fun b o _ e=>u.there b o e ς) u.tups u.frzs u.tbls (fun m' hm=>by
   obtain ⟨o',es',ep',ho',r'⟩:=hm
   rw [ho]at ho';cases ho'
   exact ⟨_,es',ep',hL,r'⟩) hok I.bare
theorem Inv.call {g':Array GenState}{t':Nat}{d':Drawn}{ch:List Addr} (I:Inv X pins σ H s) (u:Un (frs X.stack) ch H H' s.heap h') (hok:HOk X.prog X.w H' h') (hg:AllBare g')
   (hch:∀ b∈ch,(b∈X.ex∨X.s₀.heap.objs.size<=b)∧b≠X.env.locals∧(∀ x c,X.env.cells.lookup x=some c->c≠b)∧∀ p∈X.pn++pins,p.1≠b) :
   Inv X pins σ H' { s with heap:=h',gens:=g',drawn:=d',toks:=t' }:=by
 obtain ⟨m,⟨o,es,ep,ho,r⟩,_⟩:=id I.loc
 obtain ⟨sl,hL⟩:=u.any ho I.free fun z=>(hch _ z).2.1 rfl
 exact I.step (ch:=ch) hch (fun b o hL hb hc e n=>u.keep b o e n (fun z=>(List.mem_cons.mp (I.stkSub b z)).elim hL hb) hc) (fun b o _ _ hc e n=>u.any e n hc) (fun b o hc e n=>u.free b o e n hc) (fun b o hc e=>u.there b o e hc) u.tups u.frzs u.tbls (fun m' hm=>by
   obtain ⟨o',es',ep',ho',r'⟩:=hm
   rw [ho]at ho';cases ho'
   exact ⟨_,es',ep',hL,r'⟩) hok hg
theorem Inv.turned {t':Nat}{it:Addr} (I:Inv X pins σ H s) (k:∀ b o,b≠it->s.heap.get? b=some o->h'.get? b=some o) (hn:H it=none) (hL:it≠X.env.locals)
   (h1:it∈X.ex∨X.s₀.heap.objs.size<=it) (h2:∀ x c,X.env.cells.lookup x=some c->c≠it) (h3:∀ p∈X.pn++pins,p.1≠it):Inv X pins σ H { s with heap:=h',toks:=t' }:=by
 have nit:∀ b u,H b=some u->b≠it:=fun b u e z=>by rw [z,hn]at e;cases e
 refine I.step (g':=s.gens) (d':=s.drawn) (ch:=[it]) (fun b hb=>?_) (fun b o _ _ hc e _=>k b o (fun z=>hc (by simp [z])) e) (fun b o _ _ hc e _=>⟨o.slots,k b o (fun z=>hc (by simp [z])) e⟩) (fun _ _ _ _ n=>n)
   (fun b o hc e=>⟨o,k b o (fun z=>hc (by simp [z])) e⟩) (fun _ _ e=>e) (fun _ _ _ e=>e) (fun b ps e=>⟨#[],by rw [e];simp⟩) (fun m hm=>?_) (fun b u e=>?_) I.bare
 . have e:b=it:=by simpa using hb
   subst e
   exact ⟨h1,hL,h2,h3⟩
 . obtain ⟨o,es,ep,ho,r⟩:=hm
   exact ⟨o,es,ep,k _ o (Ne.symm hL) ho,r⟩
 . refine (I.hok b u e).stay (fun c v hc q=>k c v ?_ q) (fun _ q=>q) fun _ _ q=>q
   rcases hc with z | z
   . rw [z];exact nit b u e
   . exact nit c _ z
theorem Inv.tok (I:Inv X pins σ H s) (t:Nat):Inv X pins σ H { s with toks:=t }:=I.un (h':=s.heap) (t':=t) Un.refl I.hok
theorem Inv.kept {t':Nat} (I:Inv X pins σ H s) (k:∀ b u,s.heap.get? b=some u->h'.get? b=some u):Inv X pins σ H { s with heap:=h',toks:=t' }:=I.un (Un.kept k) (I.hok.kept k)
theorem Inv.laid {a:Addr}{o:HO}{t':Nat} (I:Inv X pins σ H s) (k:∀ b u,s.heap.get? b=some u->h'.get? b=some u) (hp:s.heap.objs.size<=a) (new:zbp X.prog X.w (upd H a o) h' a o) :
   Inv X pins σ (upd H a o) { s with heap:=h',toks:=t' }:=I.un (Un.laid k hp (I.hok.fresh hp)) (I.hok.laid k hp new)
theorem Inv.write {x e:Addr}{o:HO}{t':Nat} (I:Inv X pins σ H s) (mu:Mut (H x)) (he:e=x∨H e=some (.own x)) (k:∀ b u,b≠e->s.heap.get? b=some u->h'.get? b=some u) (heo:∃ u,h'.get? e=some u)
   (new:zbp X.prog X.w (upd H x o) h' x o):Inv X pins σ (upd H x o) { s with heap:=h',toks:=t' }:=I.un (Un.write mu he k heo) (I.hok.write mu he k heo new)
theorem Inv.pins_of {pins':List (Addr×Obj)} (I:Inv X pins σ H s) (h:∀ p∈pins',s.heap.get? p.1=some p.2∧H p.1=none∧p.1≠X.env.locals∧p.1∉X.fs∧∀ v,p.2.data ≠ .cell v):Inv X pins' σ H s :=
 ⟨I.ok,I.os,I.bare,I.base,I.loc,I.cell,I.free,I.freeC,fun p hp=>(List.mem_append.mp hp).elim (fun z=>I.pin p (List.mem_append_left _ z)) (h p),I.hok,I.len⟩
theorem zkg {N:List Str} (hN:N.Nodup) {i j:Nat}{x:Str} (a:N[i]?=some x) (b:N[j]?=some x):i=j:=by
 obtain ⟨h1,e1⟩:=List.getElem?_eq_some_iff.mp a
 obtain ⟨h2,e2⟩:=List.getElem?_eq_some_iff.mp b
 exact (List.getElem_inj hN).mp (e1.trans e2.symm)
theorem zmG {M:Model}{A:Around}{E:Value->Shared->Prop}{i:Nat}{x:Str}{v:V}{u:Value}{Q:Unit->Shared->Prop} (I:Inv X pins σ H s) (hN:X.N.Nodup) (hi:X.N[i]?=some x) (hx:Loc X.env.scope x) (r:zo v u)
   (h:∀ s',Inv X pins (σ.set i (some v)) H s'->(∃ a,Heap.SameBut a s.heap s'.heap∧(a=X.env.locals∨X.env.cells.lookup x=some a))->Q () s') (hf:X.fn x=true∨X.env.scope.names.lookup x=some .local:=by first | exact .inl rfl | exact .inr rfl | assumption):wpAny M A (storeName X.env x u) Q E s:=by
 obtain ⟨m,hn,hl⟩:=id I.loc
 have hcls:(X.env.scope.kind == .class || (X.env.scope.kind == .module && X.env.locals != X.env.globals))=false:=by rw [I.ok.kind];rfl
 have hiσ:i < σ.length:=by rw [I.len];exact (List.getElem?_eq_some_iff.mp hi).1
 have cne:=I.cne
 have tracked:∀ {a:Addr} {h':Heap},(∃ o,s.heap.get? a=some o∧H a=none)->Heap.SameBut a s.heap h'->HOk X.prog X.w H h':=fun {a h'} ha hs b ob e=>by
   obtain ⟨_,_,hfree⟩:=ha
   refine (I.hok b ob e).stay (fun c w' hc q=>(hs.2 c ?_).trans q) (fun _ q=>q) fun _ _ q=>q
   rintro rfl
   rcases hc with rfl | hc
   . rw [hfree]at e;cases e
   . rw [hfree]at hc;cases hc
 rcases hx with hk | hk
 . refine wpAny_storeName_local hk hn (fun h' hn' hs=>?_) hcls
   obtain ⟨oL,_,_,hoL,_⟩:=id hn
   refine h _ ⟨I.ok,I.os,I.bare,⟨fun b o e n hb hx=>?_,fun b o e n hb hx=>?_,I.base.free,fun b o e hx=>?_,I.base.tups,I.base.frzs,I.base.tbls⟩,⟨_,hn',fun j y v' e1 e2 e3=>?_⟩,fun y c e=>?_,I.free,I.freeC,fun p hp=>?_,tracked ⟨oL,hoL,I.free⟩ hs,by simpa using I.len⟩ ⟨_,hs,.inl rfl⟩
   . exact (hs.2 b (Nat.ne_of_lt (Nat.lt_of_lt_of_le (Heap.lt_size e) I.ok.above))).trans (I.base.keep b o e n hb hx)
   . obtain ⟨sl,e1⟩:=I.base.slot b o e n hb hx
     exact ⟨sl,(hs.2 b (Nat.ne_of_lt (Nat.lt_of_lt_of_le (Heap.lt_size e) I.ok.above))).trans e1⟩
   . obtain ⟨o',e1⟩:=I.base.there b o e hx
     exact ⟨o',(hs.2 b (Nat.ne_of_lt (Nat.lt_of_lt_of_le (Heap.lt_size e) I.ok.above))).trans e1⟩
   . by_cases hj:j=i
     . subst hj
       rw [hi]at e1;cases e1
       rw [List.getElem?_set_self hiσ]at e2
       cases e2
       exact ⟨u,r,.inl ⟨hk,ς⟩⟩
     . rw [List.getElem?_set_ne (Ne.symm hj)]at e2
       obtain ⟨u',r',q⟩:=hl j y v' e1 e2 e3
       refine ⟨u',r',?_⟩
       rcases q with ⟨k,e⟩ | ⟨k,c,e,z⟩
       . refine .inl ⟨k,?_⟩
         have:y≠x:=fun e=>hj (zkg hN e1 (e ▸ hi))
         simp [this,e]
       . exact .inr ⟨k,c,e,z.sameBut hs (cne y c e)⟩
   . obtain ⟨w',z⟩:=I.cell y c e
     exact ⟨w',z.sameBut hs (cne y c e)⟩
   . obtain ⟨e,n,ne,nf,d⟩:=I.pin p hp
     exact ⟨(hs.2 p.1 ne).trans e,n,ne,nf,d⟩
 . have hfn:X.fn x=true:=by
     rcases hf with z | z
     . exact z
     . rw [z]at hk;cases hk
   obtain ⟨c,hc⟩:=I.ok.has x (.inl hk)
   obtain ⟨w',z⟩:=I.cell x c hc
   refine wpAny_storeName_cell I.ok.kind hk hc z (fun h' hc' hs=>?_)
   obtain ⟨oc,hoc,hocd⟩:=id z
   refine h { s with heap:=h' } ⟨I.ok,I.os,I.bare,⟨fun b o e n hb hx=>?_,fun b o e n hb hx=>?_,I.base.free,fun b o e hx=>?_,I.base.tups,I.base.frzs,I.base.tbls⟩,⟨m,hn.sameBut hs (Ne.symm (cne x c hc)),fun j y v' e1 e2 e3=>?_⟩,fun y c' e=>?_,I.free,I.freeC,fun p hp=>?_,tracked ⟨oc,hoc,I.freeC x c hc⟩ hs,by simpa using I.len⟩ ⟨c,hs,.inr hc⟩
   . exact (hs.2 b (Nat.ne_of_lt (Nat.lt_of_lt_of_le (Heap.lt_size e) (I.ok.cab x c hfn hc)))).trans (I.base.keep b o e n hb hx)
   . obtain ⟨sl,e1⟩:=I.base.slot b o e n hb hx
     exact ⟨sl,(hs.2 b (Nat.ne_of_lt (Nat.lt_of_lt_of_le (Heap.lt_size e) (I.ok.cab x c hfn hc)))).trans e1⟩
   . obtain ⟨o',e1⟩:=I.base.there b o e hx
     exact ⟨o',(hs.2 b (Nat.ne_of_lt (Nat.lt_of_lt_of_le (Heap.lt_size e) (I.ok.cab x c hfn hc)))).trans e1⟩
   . by_cases hj:j=i
     . subst hj
       rw [hi]at e1;cases e1
       rw [List.getElem?_set_self hiσ]at e2
       cases e2
       exact ⟨u,r,.inr ⟨.inl hk,c,hc,hc'⟩⟩
     . rw [List.getElem?_set_ne (Ne.symm hj)]at e2
       obtain ⟨u',r',q⟩:=hl j y v' e1 e2 e3
       refine ⟨u',r',?_⟩
       rcases q with q | ⟨k,c',e,z'⟩
       . exact .inl q
       . refine .inr ⟨k,c',e,z'.sameBut hs ?_⟩
         rintro rfl
         exact hj (zkg hN e1 (I.ok.inj _ _ _ e hc ▸ hi))
   . by_cases hcc:c'=c
     . subst hcc;exact ⟨_,hc'⟩
     . obtain ⟨w2,z2⟩:=I.cell y c' e
       exact ⟨w2,z2.sameBut hs hcc⟩
   . obtain ⟨e,n,ne,nf,d⟩:=I.pin p hp
     refine ⟨(hs.2 p.1 ?_).trans e,n,ne,nf,d⟩
     intro q
     rw [q,hoc]at e
     have q':oc=p.2:=Option.some.inj e
     exact d w' (by rw [<- q'];exact hocd)
theorem zhn {M:Model}{A:Around}{E:Value->Shared->Prop}{i:Nat}{x:Str}{v:V}{u:Value}{Q:Unit->Shared->Prop} (I:Inv X pins σ H s) (hN:X.N.Nodup) (hi:X.N[i]?=some x) (hx:Loc X.env.scope x) (r:zo v u)
   (h:∀ s',Inv X pins (σ.set i (some v)) H s'->Q () s') (hf:X.fn x=true∨X.env.scope.names.lookup x=some .local:=by first | exact .inl rfl | exact .inr rfl | assumption):wpAny M A (storeName X.env x u) Q E s :=
 zmG I hN hi hx r (fun s' I' _=>h s' I') hf
theorem Inv.call' {s':Shared}{ch:List Addr} (I:Inv X pins σ H s) (ho:s'.os=s.os) (u:Un (frs X.stack) ch H H' s.heap s'.heap) (hok:HOk X.prog X.w H' s'.heap) (hg:AllBare s'.gens)
   (hch:∀ b∈ch,(b∈X.ex∨X.s₀.heap.objs.size<=b)∧b≠X.env.locals∧(∀ x c,X.env.cells.lookup x=some c->c≠b)∧∀ p∈X.pn++pins,p.1≠b):Inv X pins σ H' s':=by
 obtain ⟨h',g',d',t',o'⟩:=s'
 have e:o'=s.os:=ho
 subst e
 exact I.call (g':=g') (t':=t') (d':=d') u hok hg hch
end
noncomputable abbrev XK:=Value->Option Addr->Hp->Prop
noncomputable abbrev St:=List (Option V)
noncomputable abbrev VK:=V->Hp->Prop
noncomputable abbrev TE:=St->Hp->VK->Prop
noncomputable abbrev TT:=St->Hp->(Bool->Hp->Prop)->Prop
noncomputable abbrev TA:=St->Hp->(List V->Hp->Prop)->Prop
structure ze0 where
 nx:St->Hp->Prop
 rt:VK
 bk:St->Hp->Prop:=fun _ _=>False
 ct:St->Hp->Prop:=fun _ _=>False
noncomputable abbrev TS:=ze0->St->Hp->Prop
noncomputable def EP (X:Cx) (pins:List (Addr×Obj)) (σ:St) (Q:VK) (u:Value) (s':Shared):Prop:=∃ v H',Inv X pins σ H' s'∧zo v u∧Q v H'
noncomputable def TP (X:Cx) (pins:List (Addr×Obj)) (σ:St) (Q:Bool->Hp->Prop) (b:Bool) (s':Shared):Prop:=∃ H',Inv X pins σ H' s'∧Q b H'
noncomputable def AP (X:Cx) (pins:List (Addr×Obj)) (σ:St) (Q:List V->Hp->Prop) (us:List Value) (s':Shared):Prop:=∃ vs H',Inv X pins σ H' s'∧zt vs us∧Q vs H'
noncomputable def SP (X:Cx) (pins:List (Addr×Obj)) (D:ze0) (f:Flow) (s':Shared):Prop :=
 match f with
 | .next=>∃ σ' H',Inv X pins σ' H' s'∧D.nx σ' H'
 | .brk=>∃ σ' H',Inv X pins σ' H' s'∧D.bk σ' H'
 | .cont=>∃ σ' H',Inv X pins σ' H' s'∧D.ct σ' H'
 | .ret u=>∃ v σ' H',Inv X pins σ' H' s'∧zo v u∧D.rt v H'
noncomputable def PE (X:Cx) (e:Expr) (t:TE):Prop :=
 ∀ (pins:List (Addr×Obj)) (s:Shared) (σ:St) (H:Hp) (Q:VK),Inv X pins σ H s->t σ H Q->wpAny (model X.prog X.w) X.A (eval e X.env) (EP X pins σ Q) X.xe s
noncomputable def PT (X:Cx) (e:Expr) (t:TT):Prop :=
 ∀ (pins:List (Addr×Obj)) (s:Shared) (σ:St) (H:Hp) (Q:Bool->Hp->Prop),Inv X pins σ H s->t σ H Q->wpAny (model X.prog X.w) X.A (isTrue e X.env (eval e X.env)) (TP X pins σ Q) X.xe s
noncomputable def PW (X:Cx) (e:Expr) (t:TT):Prop :=
 ∀ (whole:Sem Value) (pins:List (Addr×Obj)) (s:Shared) (σ:St) (H:Hp) (Q:Bool->Hp->Prop),Inv X pins σ H s->t σ H Q->wpAny (model X.prog X.w) X.A (isTrue e X.env whole) (TP X pins σ Q) X.xe s
theorem PW.pt {X:Cx}{e:Expr}{t:TT} (h:PW X e t):PT X e t:=h _
noncomputable def PA (X:Cx) (es:List Expr) (t:TA):Prop :=
 ∀ (pos:Pos) (pins:List (Addr×Obj)) (s:Shared) (σ:St) (H:Hp) (Q:List V->Hp->Prop),Inv X pins σ H s->t σ H Q->wpAny (model X.prog X.w) X.A (spliced (backTo pos (starEach es X.env))) (AP X pins σ Q) X.xe s
noncomputable def PS (X:Cx) (st:Stmt) (t:TS):Prop :=
 ∀ (pins:List (Addr×Obj)) (s:Shared) (σ:St) (H:Hp) (D:ze0),Inv X pins σ H s->t D σ H->wpAny (model X.prog X.w) X.A (exec st X.env) (SP X pins D) X.xe s
noncomputable def PSs (X:Cx) (st:List Stmt) (t:TS):Prop :=
 ∀ (pins:List (Addr×Obj)) (s:Shared) (σ:St) (H:Hp) (D:ze0),Inv X pins σ H s->t D σ H->wpAny (model X.prog X.w) X.A (execs st X.env) (SP X pins D) X.xe s
theorem thn {α:Type}{t:Sem α}{Q Q':α->Shared->Prop}{M:Model}{A:Around}{E:Value->Shared->Prop}{s:Shared} (h:wpAny M A t Q E s) (hQ:∀ a s,Q a s->Q' a s):wpAny M A t Q' E s:=wpAny_mono h hQ fun _ _ x=>x
end L2
namespace L2
open PySem PySem.Spec PyProof.Rows
section
variable {X:Cx}
noncomputable def zry (i:Nat):TE:=fun σ H Q=>∃ v,σ[i]?=some (some v)∧Q v H
noncomputable def tC (v:V):TE:=fun _ H Q=>Q v H
theorem zv8 {i:Nat}{x:Str}{pos:Pos} (hN:X.N[i]?=some x) (hv:Vis X.env.scope x) (hd:(x == ("__debug__":Str))=false:=by decide) (hcd:(x == ("__classdict__":Str))=false:=by decide):PE X (.Name x pos) (zry i):=by
 intro pins s σ H Q I h
 obtain ⟨v,e,h⟩:=h
 obtain ⟨m,hn,hl⟩:=I.loc
 obtain ⟨u,r,l⟩:=hl i x v hN e hv
 have fin:EP X pins σ Q u s:=⟨v,H,I,r,h⟩
 rcases l with ⟨hk,hm⟩ | ⟨hk,c,hc,hcell⟩
 . exact wpAny_Name (wpAny_loadName_local I.ok.kind hk hn hm fin) hd
 . rcases hk with hk | hk
   . exact wpAny_Name (wpAny_loadName_cell I.ok.kind hk hc hcell fin) hd
   . exact wpAny_Name (wpAny_loadName_free I.ok.kind hk hc hcell fin hcd) hd
theorem zj5 {i j pos}:PE X (.Constant (.int i) j pos) (tC (.int i)):=fun _ _ _ H _ I h=>wpAny_Constant_int ⟨.int i,H,I.tok _,⟨_,rfl⟩,h⟩
theorem zs1 {b j pos}:PE X (.Constant (.bool b) j pos) (tC (.bl b)):=fun _ _ _ H _ I h=>Constant_bool ⟨.bl b,H,I,rfl,h⟩
theorem zq2 {j pos}:PE X (.Constant .none j pos) (tC .non):=fun _ _ _ H _ I h=>Constant_none ⟨.non,H,I,rfl,h⟩
noncomputable def Gl (X:Cx) (x:Str):Prop:=X.env.kindOf x=some .globalImplicit
theorem zjI {E:Value->Shared->Prop}{pins:List (Addr×Obj)}{s:Shared}{σ:St}{H:Hp}{x:Str}{u:Value}{pos:Pos}{Q:Value->Shared->Prop} (I:Inv X pins σ H s) (hg:Gl X x) (hm:X.mg x=some u) (h:Q u s)
   (hd:(x == ("__debug__":Str))=false:=by decide):wpAny (model X.prog X.w) X.A (eval (.Name x pos) X.env) Q E s :=
 Calls.Name_function_global I.ok.kind hg (Calls.loadGlobal_global (by rw [I.ok.glob];exact I.mod.glob.keeps I.bk) hm h) hd
theorem zfv {E:Value->Shared->Prop}{pins:List (Addr×Obj)}{s:Shared}{σ:St}{H:Hp}{x:Str}{u:Value}{pos:Pos}{Q:Value->Shared->Prop} (I:Inv X pins σ H s) (hg:Gl X x) (hm:X.mg x=none) (hv:bootBuiltins x=some u) (h:Q u s)
   (hn:x ≠ "__name__":=by decide) (hd:(x == ("__debug__":Str))=false:=by decide):wpAny (model X.prog X.w) X.A (eval (.Name x pos) X.env) Q E s:=by
 obtain ⟨mb,h1,h2⟩:=I.mod.blt
 exact Calls.Name_function_global I.ok.kind hg (Calls.loadGlobal_builtin (by rw [I.ok.glob];exact I.mod.glob.keeps I.bk) hm (by rw [I.ok.blt];exact h1.keeps I.bk) ((h2 x hn).trans hv) h) hd
theorem znk {x:Str}{v:V}{u:Value}{pos:Pos} (hg:Gl X x) (hm:X.mg x=some u) (r:zo v u) (hd:(x == ("__debug__":Str))=false:=by decide):PE X (.Name x pos) (tC v) :=
 fun _ _ _ H _ I h=>zjI I hg hm ⟨v,H,I,r,h⟩ hd
theorem zsa {x:Str}{v:V}{u:Value}{pos:Pos} (hg:Gl X x) (hm:X.mg x=none) (hv:bootBuiltins x=some u) (r:zo v u) (hn:x ≠ "__name__":=by decide) (hd:(x == ("__debug__":Str))=false:=by decide):PE X (.Name x pos) (tC v) :=
 fun _ _ _ H _ I h=>zfv I hg hm hv ⟨v,H,I,r,h⟩ hn hd
variable {a b:Expr}{ta tb:TE}{pos:Pos}
variable {tA tB':TT}{rest:List Expr}
noncomputable def zrq (t u:TT):TT:=fun σ H Q=>t σ H fun c H1=>if c=true then u σ H1 Q else Q false H1
noncomputable def tOr (t u:TT):TT:=fun σ H Q=>t σ H fun c H1=>if c=true then Q true H1 else u σ H1 Q
noncomputable def zsD (t:TT):TT:=fun σ H Q=>t σ H fun c H1=>Q (!c) H1
theorem zss (ha:PT X a tA):PW X (.BoolOp .And [a] pos) tA:=by
 intro wh pins s σ H Q I h
 refine isTrue_and (thn (ha pins s σ H Q I h) fun c s1 e=>?_)
 cases c with
 | true=>exact isTrue_and_nil e
 | false=>exact e
theorem zwI (ha:PT X a tA):PW X (.BoolOp .Or [a] pos) tA:=by
 intro wh pins s σ H Q I h
 refine isTrue_or (thn (ha pins s σ H Q I h) fun c s1 e=>?_)
 cases c with
 | false=>exact isTrue_or_nil e
 | true=>exact e
theorem zvQ (ha:PT X a tA) (hb:PW X (.BoolOp .And (b :: rest) pos) tB'):PW X (.BoolOp .And (a :: b :: rest) pos) (zrq tA tB'):=by
 intro wh pins s σ H Q I h
 refine isTrue_and (thn (ha pins s σ H _ I h) fun c s1 ⟨H1,I1,q1⟩=>?_)
 cases c with
 | true=>exact hb wh pins s1 σ H1 Q I1 q1
 | false=>exact ⟨H1,I1,q1⟩
theorem zso (ha:PT X a tA) (hb:PW X (.BoolOp .Or (b :: rest) pos) tB'):PW X (.BoolOp .Or (a :: b :: rest) pos) (tOr tA tB'):=by
 intro wh pins s σ H Q I h
 refine isTrue_or (thn (ha pins s σ H _ I h) fun c s1 ⟨H1,I1,q1⟩=>?_)
 cases c with
 | true=>exact ⟨H1,I1,q1⟩
 | false=>exact hb wh pins s1 σ H1 Q I1 q1
theorem zu7 (ha:PT X a tA):PT X (.UnaryOp .Not a pos) (zsD tA):=by
 intro pins s σ H Q I h
 exact isTrue_not (ha pins s σ H (fun c H1=>Q (!c) H1) I h)
noncomputable def zuS (ta tb:TE):TE:=fun σ H Q=>ta σ H fun x H1=>∃ c,x = .bl c∧if c=true then tb σ H1 Q else Q (.bl false) H1
noncomputable def ztZ (ta tb:TE):TE:=fun σ H Q=>ta σ H fun x H1=>∃ c,x = .bl c∧if c=true then Q (.bl true) H1 else tb σ H1 Q
noncomputable def zu8 (ta:TE):TE:=fun σ H Q=>ta σ H fun x H1=>∃ c,x = .bl c∧Q (.bl (!c)) H1
theorem zrk {op}{t:TE} (h:PE X a t):PE X (.BoolOp op [a] pos) t:=fun pins s σ H Q I hw=>BoolOp_one (h pins s σ H Q I hw)
theorem zsL (ha:PE X a ta) (hb:PE X (.BoolOp .And (b :: rest) pos) tb):PE X (.BoolOp .And (a :: b :: rest) pos) (zuS ta tb):=by
 intro pins s σ H Q I h
 refine BoolOp_and (thn (ha pins s σ H _ I h) fun v s1 ⟨x,H1,I1,r1,q1⟩=>?_)
 obtain ⟨c,rfl,q1⟩:=q1
 cases r1
 refine wpAny_truthy_bool ?_
 cases c with
 | true=>exact hb pins s1 σ H1 Q I1 q1
 | false=>exact ⟨.bl false,H1,I1,rfl,q1⟩
theorem zuY (ha:PE X a ta) (hb:PE X (.BoolOp .Or (b :: rest) pos) tb):PE X (.BoolOp .Or (a :: b :: rest) pos) (ztZ ta tb):=by
 intro pins s σ H Q I h
 refine BoolOp_or (thn (ha pins s σ H _ I h) fun v s1 ⟨x,H1,I1,r1,q1⟩=>?_)
 obtain ⟨c,rfl,q1⟩:=q1
 cases r1
 refine wpAny_truthy_bool ?_
 cases c with
 | false=>exact hb pins s1 σ H1 Q I1 q1
 | true=>exact ⟨.bl true,H1,I1,rfl,q1⟩
theorem ztW (ha:PE X a ta):PE X (.UnaryOp .Not a pos) (zu8 ta):=by
 intro pins s σ H Q I h
 refine UnaryOp_ (thn (ha pins s σ H _ I h) fun v s1 ⟨x,H1,I1,r1,q1⟩=>?_)
 obtain ⟨c,rfl,q1⟩:=q1
 cases r1
 exact not_of (wpAny_truthy_bool ⟨.bl (!c),H1,I1,rfl,q1⟩)
noncomputable def tIf (t:TT) (ta tb:TE):TE:=fun σ H Q=>t σ H fun c H1=>if c=true then ta σ H1 Q else tb σ H1 Q
theorem zvw {c:Expr} (hc:PT X c tA) (ha:PE X a ta) (hb:PE X b tb):PE X (.IfExp c a b pos) (tIf tA ta tb):=by
 intro pins s σ H Q I h
 refine wpAny_IfExp (thn (hc pins s σ H _ I h) fun d s1 ⟨H1,I1,q1⟩=>?_)
 cases d with
 | true=>exact ha pins s1 σ H1 Q I1 q1
 | false=>exact hb pins s1 σ H1 Q I1 q1
end
end L2
namespace L2
open PySem PySem.Spec PyProof.Rows
noncomputable def SqL (K:PySem.W.Frag) (H:Hp) (a:Addr) (xs:List V):Prop :=
 Rd H a (.lst xs) ∨
   ∃ (o:Obj) (its:Array Value) (n:Nat),K.lookup a=some o∧o.cls = .type "list" ∧ o.dict=none∧o.data = .seq its n∧its.size<=sizeLine∧zt xs its.toList
noncomputable def SqT (K:PySem.W.Frag) (H:Hp) (a:Addr) (xs:List V):Prop :=
 Rd H a (.tup xs) ∨
   ∃ (o:Obj) (its:Array Value) (n:Nat),K.lookup a=some o∧o.cls = .type "tuple" ∧ o.data = .seq its n∧its.size<=sizeLine∧zt xs its.toList
noncomputable def zrD:Value->Option V
 | .none=>some .non
 | .bool b=>some (.bl b)
 | .int i _=>some (.int i)
 | .str x _=>some (.str x)
 | .bytes b _=>some (.byt b)
 | .float b _=>some (.flt b)
 | .ref a=>some (.ref a)
 | .type n=>some (.ty n)
 | _=>none
theorem zo.abs {x:V}{u:Value} (r:zo x u):zrD u=some x:=by
 cases x with
 | non=>cases r;rfl
 | bl _=>cases r;rfl
 | int _=>obtain ⟨t,rfl⟩:=r;rfl
 | str _=>obtain ⟨t,rfl⟩:=r;rfl
 | byt _=>obtain ⟨t,rfl⟩:=r;rfl
 | flt _=>obtain ⟨t,rfl⟩:=r;rfl
 | ref _=>cases r;rfl
 | ty _=>cases r;rfl
theorem zo.inj {x y:V}{u:Value} (r:zo x u) (q:zo y u):x=y:=Option.some.inj (r.abs.symm.trans q.abs)
theorem zt.inj:∀ {xs ys:List V}{us:List Value},zt xs us->zt ys us->xs=ys
 | _,_,_,.nil,.nil=>rfl
 | _,_,_,.cons r t,.cons r' t'=>by rw [r.inj r',zt.inj t t']
section
variable {X:Cx}{pins:List (Addr×Obj)}{σ:St}{H:Hp}{s:Shared}{a:Addr}{xs ys:List V}
theorem SqL.of {K:PySem.W.Frag} (h:H a=some (.lst xs)):SqL K H a xs := .inl (.inl h)
theorem SqT.of {K:PySem.W.Frag} (h:H a=some (.tup xs)):SqT K H a xs := .inl (.inl h)
theorem Inv.list (I:Inv X pins σ H s) (h:SqL X.K H a xs):∃ its:List Value,zt xs its∧PlainL s.heap a its.toArray∧xs.length<=sizeLine:=by
 rcases h with h | ⟨o,its,n,hk,hc,hd,hs,hz,r⟩
 . obtain ⟨z,its,n,r,e⟩:=h.ok I.hok
   exact ⟨its,r,⟨_,n,e,rfl,rfl,rfl⟩,z⟩
 . refine ⟨its.toList,r,⟨o,n,I.kIn a o hk,hc,hd,by simpa using hs⟩,?_⟩
   have e:=r.length
   simp only [Array.length_toList]at e
   omega
theorem Inv.tuple (I:Inv X pins σ H s) (h:SqT X.K H a xs):∃ its:List Value,zt xs its∧IsTup s.heap a its.toArray∧xs.length<=sizeLine:=by
 rcases h with h | ⟨o,its,n,hk,hc,hs,hz,r⟩
 . obtain ⟨z,its,r,p⟩:=h.ok I.hok
   exact ⟨its,r,p,z⟩
 . refine ⟨its.toList,r,⟨o,I.kIn a o hk,hc,n,by simpa using hs⟩,?_⟩
   have e:=r.length
   simp only [Array.length_toList]at e
   omega
theorem Inv.list_inj (I:Inv X pins σ H s) (h:SqL X.K H a xs) (h':SqL X.K H a ys):xs=ys:=by
 obtain ⟨its,r,⟨o,n,e,_,_,d⟩,_⟩:=I.list h
 obtain ⟨its',r',⟨o',n',e',_,_,d'⟩,_⟩:=I.list h'
 rw [e]at e';cases e'
 rw [d]at d'
 injection d' with d1 _
 have:its=its':=by simpa using congrArg Array.toList d1
 subst this
 exact r.inj r'
theorem Inv.tuple_inj (I:Inv X pins σ H s) (h:SqT X.K H a xs) (h':SqT X.K H a ys):xs=ys:=by
 obtain ⟨its,r,⟨o,e,_,n,d⟩,_⟩:=I.tuple h
 obtain ⟨its',r',⟨o',e',_,n',d'⟩,_⟩:=I.tuple h'
 rw [e]at e';cases e'
 rw [d]at d'
 injection d' with d1 _
 have:its=its':=by simpa using congrArg Array.toList d1
 subst this
 exact r.inj r'
end
noncomputable abbrev Cx.wish (X:Cx) (E:Value->Shared->Prop):Cx:={ X with xe:=E }
noncomputable abbrev Cx.nox (X:Cx):Cx:=X.wish fun _ _=>False
theorem Cx.Ok.wish {X:Cx} (ok:X.Ok) (E:Value->Shared->Prop):(X.wish E).Ok :=
 ⟨ok.mod,ok.kind,ok.glob,ok.blt,ok.above,ok.inj,ok.has,ok.cab,ok.hd,ok.frames,ok.stk,ok.exf,ok.bs,ok.bsz,ok.noex,ok.exfs,ok.funs,ok.frf⟩
theorem Cx.Ok.unwish {X:Cx}{E:Value->Shared->Prop} (ok:(X.wish E).Ok):X.Ok :=
 ⟨ok.mod,ok.kind,ok.glob,ok.blt,ok.above,ok.inj,ok.has,ok.cab,ok.hd,ok.frames,ok.stk,ok.exf,ok.bs,ok.bsz,ok.noex,ok.exfs,ok.funs,ok.frf⟩
section
variable {X:Cx}{pins:List (Addr×Obj)}{σ:St}{H:Hp}{s:Shared}{E:Value->Shared->Prop}
theorem Inv.wish (I:Inv X pins σ H s) (E:Value->Shared->Prop):Inv (X.wish E) pins σ H s:=⟨I.ok.wish E,I.os,I.bare,I.base,I.loc,I.cell,I.free,I.freeC,I.pin,I.hok,I.len⟩
theorem Inv.unwish (I:Inv (X.wish E) pins σ H s):Inv X pins σ H s:=⟨I.ok.unwish,I.os,I.bare,I.base,I.loc,I.cell,I.free,I.freeC,I.pin,I.hok,I.len⟩
theorem SP.unwish {D:ze0}{f:Flow}{s':Shared} (h:SP (X.wish E) pins D f s'):SP X pins D f s':=by
 cases f with
 | next=>obtain ⟨σ',H',I,q⟩:=h;exact ⟨σ',H',I.unwish,q⟩
 | brk=>obtain ⟨σ',H',I,q⟩:=h;exact ⟨σ',H',I.unwish,q⟩
 | cont=>obtain ⟨σ',H',I,q⟩:=h;exact ⟨σ',H',I.unwish,q⟩
 | ret u=>obtain ⟨v,σ',H',I,r,q⟩:=h;exact ⟨v,σ',H',I.unwish,r,q⟩
theorem PSs.nox {st:List Stmt}{t:TS} (h:PSs X.nox st t):PSs X st t:=fun pins s σ H D I hw =>
 wpAny_mono (h pins s σ H D (I.wish _) hw) (fun _ _ q=>q.unwish) fun _ _ z=>False.elim z
end
section
variable {X:Cx}{st:Stmt}{rest:List Stmt}{t u:TS}{e:Expr}{te:TE}{pos:Pos}
noncomputable def zv9:TS:=fun D σ H=>D.nx σ H
noncomputable def zrx (t u:TS):TS:=fun D σ H=>t { D with nx:=u D } σ H
theorem zue:PSs X [] zv9:=fun _ _ σ H _ I h=>wpAny_execs_nil ⟨σ,H,I,h⟩
theorem zst (h1:PS X st t) (h2:PSs X rest u):PSs X (st :: rest) (zrx t u):=by
 intro pins s σ H D I h
 refine wpAny_execs_cons (thn (h1 pins s σ H { D with nx:=u D } I h) fun f s1 q=>?_)
 cases f with
 | next =>
   obtain ⟨σ',H',I',q⟩:=q
   exact h2 pins s1 σ' H' D I' q
 | ret v=>exact q
 | brk=>exact q
 | cont=>exact q
theorem zqY (h1:PS X st t):PSs X [st] t:=by
 intro pins s σ H D I h
 refine wpAny_execs_cons (thn (h1 pins s σ H D I h) fun f s1 q=>?_)
 cases f with
 | next=>exact wpAny_execs_nil q
 | ret v=>exact q
 | brk=>exact q
 | cont=>exact q
theorem Inv.quiet {pins:List (Addr×Obj)}{σ:St}{H:Hp}{s:Shared} (I:Inv X pins σ H s):interactive X.env=false:=by simp [interactive,I.ok.kind]
noncomputable def ztw (te:TE):TS:=fun D σ H=>te σ H fun _ H1=>D.nx σ H1
theorem zwB (he:PE X e te) (hs:swapsWith e none pos.line X.env=pure false:=by rfl):PS X (.Expr e pos) (ztw te):=by
 intro pins s σ H D I h
 exact wpAny_Expr_any (thn (he pins s σ H _ I h) fun v s1 ⟨x,H1,I1,r1,q1⟩=>⟨σ,H1,I1,q1⟩) I.quiet hs
noncomputable def zse (te:TE):TS:=fun D σ H=>te σ H D.rt
theorem zsZ (he:PE X e te):PS X (.Return (some e) pos) (zse te):=by
 intro pins s σ H D I h
 exact wpAny_Return_some (thn (he pins s σ H _ I h) fun v s1 ⟨x,H1,I1,r1,q1⟩=>⟨x,σ,H1,I1,r1,q1⟩)
noncomputable def zqZ (c:TT) (t u:TS):TS:=fun D σ H=>c σ H fun b H1=>if b=true then t D σ H1 else u D σ H1
theorem zuo {c:Expr}{a b:List Stmt}{tc:TT} (hc:PT X c tc) (ha:PSs X a t) (hb:PSs X b u):PS X (.If c a b pos) (zqZ tc t u):=by
 intro pins s σ H D I h
 refine wpAny_If (thn (hc pins s σ H _ I h) fun d s1 ⟨H1,I1,q1⟩=>?_)
 cases d with
 | true=>exact ha pins s1 σ H1 D I1 q1
 | false=>exact hb pins s1 σ H1 D I1 q1
noncomputable def zvW:TS:=fun _ _ _=>False
theorem zvP:PS X st zvW:=fun _ _ _ _ _ _ h=>h.elim
end
noncomputable abbrev TG:=V->St->Hp->(St->Hp->Prop)->Prop
noncomputable abbrev TGs:=List V->St->Hp->(St->Hp->Prop)->Prop
noncomputable def PG (X:Cx) (target:Expr) (t:TG):Prop :=
 ∀ (pins:List (Addr×Obj)) (s:Shared) (σ:St) (H:Hp) (v:V) (u:Value) (Q:St->Hp->Prop),Inv X pins σ H s->zo v u->t v σ H Q ->
   wpAny (model X.prog X.w) X.A (assign target X.env u) (fun _ s'=>∃ σ' H',Inv X pins σ' H' s'∧Q σ' H') X.xe s
noncomputable def PGs (X:Cx) (ts:List Expr) (t:TGs):Prop :=
 ∀ (pins:List (Addr×Obj)) (s:Shared) (σ:St) (H:Hp) (vs:List V) (us:List Value) (Q:St->Hp->Prop),Inv X pins σ H s->zt vs us->t vs σ H Q ->
   wpAny (model X.prog X.w) X.A (assignInOrder ((assignEach ts X.env).map (·.2)) us) (fun _ s'=>∃ σ' H',Inv X pins σ' H' s'∧Q σ' H') X.xe s
noncomputable abbrev zhD:=V->V->V->Hp->(Hp->Prop)->Prop
noncomputable def zgx (X:Cx) (t:zhD):Prop :=
 ∀ (pins:List (Addr×Obj)) (s:Shared) (σ:St) (H:Hp) (o i v:V) (ov iv u:Value) (Q:Hp->Prop),Inv X pins σ H s->zo o ov->zo i iv->zo v u->t o i v H Q ->
   wpAny (model X.prog X.w) X.A (setItem ov iv u) (fun _ s'=>∃ H',Inv X pins σ H' s'∧Q H') X.xe s
noncomputable abbrev TIp:=V->V->Hp->VK->Prop
noncomputable def PIp (X:Cx) (op:Operator) (t:TIp):Prop :=
 ∀ (pins:List (Addr×Obj)) (s:Shared) (σ:St) (H:Hp) (x y:V) (v u:Value) (Q:VK),Inv X pins σ H s->zo x v->zo y u->t x y H Q ->
   wpAny (model X.prog X.w) X.A (inplaceOp op v u) (EP X pins σ Q) X.xe s
section
variable {X:Cx}{pos:Pos}
noncomputable def ziy (i:Nat):TG:=fun v σ H Q=>Q (σ.set i (some v)) H
theorem zml {i:Nat}{x:Str} (hN:X.N.Nodup) (hi:X.N[i]?=some x) (hx:Loc X.env.scope x) (hf:X.fn x=true∨X.env.scope.names.lookup x=some .local:=by first | exact .inl rfl | exact .inr rfl | assumption):PG X (.Name x pos) (ziy i):=by
 intro pins s σ H v u Q I r h
 exact wpAny_assign_Name (zhn I hN hi hx r (fun s' I'=>⟨_,H,I',h⟩) hf)
noncomputable def zwc:TGs:=fun vs σ H Q=>vs=[]∧Q σ H
noncomputable def zuP (t:TG) (u:TGs):TGs:=fun vs σ H Q=>∃ v r,vs=v :: r∧t v σ H fun σ' H'=>u r σ' H' Q
theorem zrI:PGs X [] zwc:=by
 intro pins s σ H vs us Q I r h
 obtain ⟨e,h⟩:=h
 subst e
 cases r
 exact assignInOrder_nil ⟨σ,H,I,h⟩
theorem zt6 {e:Expr}{es:List Expr}{t:TG}{u:TGs} (h1:PG X e t) (h2:PGs X es u)
   (hs:(assignEach (e :: es) X.env).map (·.2)=assign e X.env :: (assignEach es X.env).map (·.2):=by rfl):PGs X (e :: es) (zuP t u):=by
 intro pins s σ H vs us Q I r h
 obtain ⟨v,vr,e1,h⟩:=h
 subst e1
 cases r with
 | cons r rr =>
   rw [hs]
   refine assignInOrder_cons (thn (h1 pins s σ H _ _ _ I r h) fun _ s1 ⟨σ1,H1,I1,q1⟩=>?_)
   exact h2 pins s1 σ1 H1 _ _ Q I1 rr q1
noncomputable def zsK (K:PySem.W.Frag) (n:Nat) (t:TGs):TG:=fun v σ H Q=>∃ a xs,v = .ref a∧SqT K H a xs∧xs.length=n∧t xs σ H Q
theorem ztM {es:List Expr}{k:Nat}{t:TGs}{n:Nat} (hc:X.calm=true) (h:PGs X es t)
   (hn:(assignEach es X.env).length=n:=by rfl) (hst:(assignEach es X.env).findIdx? (·.1)=none:=by rfl):PG X (.Tuple es k pos) (zsK X.K n t):=by
 intro pins s σ H v u Q I r hw
 obtain ⟨a,xs,e1,hq,hl,hw⟩:=hw
 subst e1
 cases r
 obtain ⟨its,rv,ht,hz⟩:=I.tuple hq
 refine assign_Tuple_tuple (I.ok.hd hc) ht (by simp [hn,<- hl,rv.length]) hst fun h' hx=>?_
 have I1:Inv X pins σ H { s with heap:=h' }:=I.kept (t':=s.toks) fun b o e=>hx b o (Nat.ne_of_lt (Heap.lt_size e)) e
 exact h pins _ σ H xs _ Q I1 (by simpa using rv) hw
noncomputable def ztJ (to ti:TE) (t:zhD):TG:=fun v σ H Q=>to σ H fun o H1=>ti σ H1 fun i H2=>t o i v H2 fun H3=>Q σ H3
theorem zwE {o i:Expr}{to ti:TE}{t:zhD} (ho:PE X o to) (hi:PE X i ti) (hs:zgx X t)
   (ha:∀ v,assign (.Subscript o i pos) X.env v=(do
     let ov <- holding [v] (eval o X.env)
     let iv <- holding [v,ov] (eval i X.env)
     standAt pos
     holding [v,ov,iv] (setItem ov iv v)
     release [v,ov,iv] []):=by intro _;rfl):PG X (.Subscript o i pos) (ztJ to ti t):=by
 intro pins s σ H v u Q I r h
 rw [ha]
 refine wpAny_bind (wpAny_holding (thn (ho pins s σ H _ I h) fun ov s1 ⟨x,H1,I1,r1,q1⟩=>?_))
 refine wpAny_bind (wpAny_holding (thn (hi pins s1 σ H1 _ I1 q1) fun iv s2 ⟨y,H2,I2,r2,q2⟩=>?_))
 refine wpAny_bind (wpAny_standAt (wpAny_bind (wpAny_holding (thn (hs pins s2 σ H2 x y v ov iv u _ I2 r1 r2 r q2) fun _ s3 ⟨H3,I3,q3⟩=>?_))))
 exact wpAny_release ⟨σ,H3,I3,q3⟩
noncomputable def zjz (te:TE) (g:TG):TS:=fun D σ H=>te σ H fun x H1=>g x σ H1 D.nx
theorem znc {tg e:Expr}{te:TE}{g:TG} (he:PE X e te) (hg:PG X tg g) (hs:swapsWithSole [tg] e pos.line X.env=pure false:=by rfl) (hw:swappedStores [tg] e X.env=pure none:=by rfl)
   (h1:(assignEach [tg] X.env).map (·.2)=[assign tg X.env]:=by rfl):PS X (.Assign [tg] e pos) (zjz te g):=by
 intro pins s σ H D I h
 refine wpAny_Assign_stores (thn (he pins s σ H _ I h) fun v s1 ⟨x,H1,I1,r1,q1⟩=>?_) hs hw
 rw [h1]
 exact thn (hg pins s1 σ H1 x v _ I1 r1 q1) fun _ s2 q=>q
theorem zqV {i:Nat}{x:Str}{e:Expr}{te:TE}{pos':Pos} (hN:X.N.Nodup) (hi:X.N[i]?=some x) (hx:Loc X.env.scope x) (he:PE X e te) (hs:swapsWith e (some (.Name x pos')) pos.line X.env=pure false:=by rfl) (hf:X.fn x=true∨X.env.scope.names.lookup x=some .local:=by first | exact .inl rfl | exact .inr rfl | assumption) :
   PS X (.Assign [.Name x pos'] e pos) (zjz te (ziy i)):=by
 intro pins s σ H D I h
 refine wpAny_Assign_Name (thn (he pins s σ H _ I h) fun v s1 ⟨y,H1,I1,r1,q1⟩=>?_) hs
 exact zhn I1 hN hi hx r1 (fun s2 I2=>⟨_,H1,I2,q1⟩) hf
noncomputable def zr8 (i j:Nat) (ta:TA):TS:=fun D σ H=>ta σ H fun vs H1=>∃ v w,vs=[v,w]∧D.nx ((σ.set i (some v)).set j (some w)) H1
theorem zrZ {i j:Nat}{x y:Str}{a b:Expr}{ta:TA}{px py pt:Pos}{kt k2 pt2} (hc:X.calm=true) (hN:X.N.Nodup) (hi:X.N[i]?=some x) (hj:X.N[j]?=some y) (hij:i≠j)
   (hx:X.env.scope.names.lookup x=some .local) (hy:X.env.scope.names.lookup y=some .local) (ha:PA X [a,b] ta)
   (hw:swappedStores [.Tuple [.Name x px,.Name y py] kt pt] (.Tuple [a,b] k2 pt2) X.env=pure (some [x,y]))
   (hs:swapsWithSole [.Tuple [.Name x px,.Name y py] kt pt] (.Tuple [a,b] k2 pt2) pos.line X.env=pure false:=by rfl) :
   PS X (.Assign [.Tuple [.Name x px,.Name y py] kt pt] (.Tuple [a,b] k2 pt2) pos) (zr8 i j ta):=by
 intro pins s σ H D I h
 rw [exec_Assign_arm]
 refine wpAny_bind (wpAny_standAt ?_)
 rw [hs]
 refine wpAny_bind (wpAny_pure ?_)
 rw [if_neg ϑ]
 refine wpAny_bind (Tuple_ (thn (ha _ pins s σ H _ I h) fun us s1 ⟨vs,H1,I1,r1,q1⟩=>?_))
 obtain ⟨v,w,e1,q1⟩:=q1
 subst e1
 obtain ⟨u1,u2,rfl,rv,rw'⟩:∃ u1 u2,us=[u1,u2]∧zo v u1∧zo w u2:=by
   cases r1 with
   | cons p q =>
     cases q with
     | cons p' q' =>
       cases q'
       exact ⟨_,_,rfl,p,p'⟩
 refine wpAny_newObj_type ?_ (by show 2<=sizeLine;decide)
 have I2:Inv X pins σ H1 { s1 with heap:=s1.heap.push { cls := .type "tuple",data := .seq [u1,u2].toArray } }:=I1.kept (t':=s1.toks) fun b o e=>Heap.get?_push_of_some _ e
 rw [hw]
 refine wpAny_bind (wpAny_pure ?_)
 show wpAny (model X.prog X.w) X.A (do rule "assign.swapped-stores";let items <- unpackItems (.ref s1.heap.objs.size) 2 none;assignInOrder [fun v=>bindName X.env y v,fun v=>bindName X.env x v] items.reverse;pure Flow.next) _ _ _
 refine wpAny_bind (wpAny_rule (wpAny_bind (unpackItems_tuple (items:=#[u1,u2]) (I.ok.hd hc) (IsTup.new s1.heap _) fun h' hx'=>?_)))
 have I3:=I2.kept (h':=h') (t':=s1.toks) fun b o e=>hx' b o (Nat.ne_of_lt (Heap.lt_size e)) e
 show wpAny _ _ (assignInOrder [fun v=>bindName X.env y v,fun v=>bindName X.env x v] [u2,u1] >>= fun _=>pure Flow.next) _ _ _
 refine wpAny_bind (assignInOrder_cons (wpAny_bindName (zhn I3 hN hj (.inl hy) rw' (fun s2 I4=>?_) (.inr hy))))
 refine assignInOrder_cons (wpAny_bindName (zhn I4 hN hi (.inl hx) rv (fun s3 I5=>assignInOrder_nil (wpAny_pure ?_)) (.inr hx)))
 rw [List.set_comm _ _ (Ne.symm hij)]at I5
 exact ⟨_,H1,I5,q1⟩
noncomputable def zs8 (i:Nat) (te:TE) (ti:TIp):TS:=fun D σ H=>∃ x,σ[i]?=some (some x)∧te σ H fun y H1=>ti x y H1 fun z H2=>D.nx (σ.set i (some z)) H2
theorem zuD {i:Nat}{x:Str}{e:Expr}{te:TE}{op:Operator}{ti:TIp}{pos':Pos} (hN:X.N.Nodup) (hi:X.N[i]?=some x) (hx:Loc X.env.scope x) (he:PE X e te) (ho:PIp X op ti) (hf:X.fn x=true∨X.env.scope.names.lookup x=some .local:=by first | exact .inl rfl | exact .inr rfl | assumption) :
   PS X (.AugAssign (.Name x pos') op e pos) (zs8 i te ti):=by
 intro pins s σ H D I h
 obtain ⟨v,e1,h⟩:=h
 obtain ⟨m,hn,hl⟩:=I.loc
 have vis:Vis X.env.scope x:=by rcases hx with k | k;exact .inl k;exact .inr (.inl k)
 obtain ⟨u,r,l⟩:=hl i x v hi e1 vis
 refine wpAny_AugAssign_Name ?_
 have go:wpAny (model X.prog X.w) X.A (eval e X.env) (fun w s₂=>wpAny (model X.prog X.w) X.A (inplaceOp op u w) (fun r s₃=>wpAny (model X.prog X.w) X.A (storeName X.env x r) (fun _=>SP X pins D .next) X.xe s₃) X.xe s₂) X.xe s:=by
   refine thn (he pins s σ H _ I h) fun w s1 ⟨y,H1,I1,r1,q1⟩=>?_
   refine thn (ho pins s1 σ H1 v y u w _ I1 r r1 q1) fun z s2 ⟨zv,H2,I2,r2,q2⟩=>?_
   exact zhn I2 hN hi hx r2 (fun s3 I3=>⟨_,H2,I3,q2⟩) hf
 rcases l with ⟨hk,hm⟩ | ⟨hk,c,hc,hcell⟩
 . exact wpAny_loadName_local I.ok.kind hk hn hm go
 . rcases hk with hk | hk
   . exact wpAny_loadName_cell I.ok.kind hk hc hcell go
   . rcases hx with k | k
     . have:X.env.scope.names.lookup x=some .free:=hk
       rw [k]at this;cases this
     . have:X.env.scope.names.lookup x=some .free:=hk
       rw [k]at this;cases this
end
section
variable {X:Cx}{pos:Pos}
noncomputable def zwy (c:TT) (tb:TS):TS:=fun D σ H=>∃ W:Nat->St->Hp->Prop,(∃ m,W m σ H)∧∀ m σ H,W m σ H ->
 c σ H fun b H1=>if b=true then ∃ N:St->Hp->Prop,(∀ σ' H',N σ' H'->∃ m',m' < m∧W m' σ' H')∧tb { D with nx:=N,ct:=N,bk:=D.nx } σ H1 else D.nx σ H1
theorem ztR {c:Expr}{body:List Stmt}{tc:TT}{tb:TS} (hp:PassesOwn (model X.prog X.w) X.A X.env X.xe) (hc:PT X c tc) (hb:PSs X body tb):PS X (.While c body [] pos) (zwy tc tb):=by
 intro pins s σ H D I h
 obtain ⟨W,⟨m0,w0⟩,turn⟩:=h
 refine wpAny_While (codeAny_whileLoop (fun n s'=>∃ σ' H',Inv X pins σ' H' s'∧W n σ' H') ?_ m0 ⟨σ,H,I,w0⟩)
 rintro n s1 ⟨σ1,H1,I1,w1⟩
 refine wpAny_passesOwn hp (thn (hc pins s1 σ1 H1 _ I1 (turn n σ1 H1 w1)) fun b s2 ⟨H2,I2,q2⟩=>?_)
 cases b with
 | true =>
   obtain ⟨N,hN,q2⟩:=q2
   rw [if_pos rfl]
   refine wpAny_passesOwn hp (thn (hb pins s2 σ1 H2 _ I2 q2) fun f s3 q3=>?_)
   cases f with
   | next =>
     obtain ⟨σ3,H3,I3,n3⟩:=q3
     obtain ⟨m',hm,w3⟩:=hN σ3 H3 n3
     exact ⟨m',hm,σ3,H3,I3,w3⟩
   | cont =>
     obtain ⟨σ3,H3,I3,n3⟩:=q3
     obtain ⟨m',hm,w3⟩:=hN σ3 H3 n3
     exact ⟨m',hm,σ3,H3,I3,w3⟩
   | brk=>exact q3
   | ret v=>exact q3
 | false =>
   rw [if_neg Bool.false_ne_true]
   exact wpAny_execs_nil ⟨σ1,H2,I2,q2⟩
end
structure It where
 go:Nat->Hp->Prop
 yld:Nat->Hp->V->Hp->Prop
 stop:Nat->Hp->Prop
noncomputable def zcT (X:Cx) (pins:List (Addr×Obj)) (H:Hp) (b:Addr):Prop :=
 H b=none∧b≠X.env.locals∧b∉X.fs∧(b∈X.ex∨X.s₀.heap.objs.size<=b)∧(∀ x c,X.env.cells.lookup x=some c->c≠b)∧∀ p∈X.pn++pins,p.1≠b
theorem Inv.fpOk {X:Cx}{pins:List (Addr×Obj)}{σ:St}{H H':Hp}{s:Shared}{b:Addr} (I:Inv X pins σ H s) (hb:s.heap.objs.size<=b) (hn:H' b=none):zcT X pins H' b:=by
 refine ⟨hn,Nat.ne_of_gt (Nat.lt_of_lt_of_le I.lt hb),I.nofs hb,.inr (Nat.le_trans I.sz hb),fun x c e z=>?_,fun p hp z=>?_⟩
 . obtain ⟨v,q⟩:=I.cell x c e
   exact absurd (Nat.lt_of_lt_of_le q.lt (by rw [z];exact hb)) (Nat.lt_irrefl _)
 . exact absurd (Nat.lt_of_lt_of_le (Heap.lt_size (I.pin p hp).1) (by rw [z];exact hb)) (Nat.lt_irrefl _)
structure zhC (P:Program) (w:World) (K:PySem.W.Frag) (tg:Expr) (J:It) (fp:List Addr) (it:Addr) (tn:Nat->Heap->Prop):Prop where
 mem:it∈fp
 obj:∀ i h,tn i h->∀ b∈fp,∃ o,h.get? b=some o∧∀ v,o.data ≠ .cell v
 keep:∀ i h h',tn i h->(∀ b∈fp,∀ o,h.get? b=some o->h'.get? b=some o)->tn i h'
 item:∀ (X:Cx),X.prog=P->X.w=w->X.K=K->X.calm=true->∀ (i:Nat) (pins:List (Addr×Obj)) (s:Shared) (σ:St) (H:Hp) (E:Value->Shared->Prop),Inv X pins σ H s->(∀ b∈fp,zcT X pins H b)->tn i s.heap->J.go i H ->
   wpAny (model P w) X.A (pyNext (.ref it)) (fun r s1=>∃ u,r=some u ∧
     wpAny (model P w) X.A (letOwnedTupleGo tg (.ref it) u) (fun _ s2=>∃ x H',Inv X pins σ H' s2∧zo x u∧J.yld i H x H'∧tn (i+1) s2.heap∧∀ b∈fp,H' b=none) E s1) E s
 done:∀ (X:Cx),X.prog=P->X.w=w->X.K=K->X.calm=true->∀ (i:Nat) (pins:List (Addr×Obj)) (s:Shared) (σ:St) (H:Hp) (E:Value->Shared->Prop),Inv X pins σ H s->(∀ b∈fp,zcT X pins H b)->tn i s.heap->J.stop i H ->
   wpAny (model P w) X.A (pyNext (.ref it)) (fun r s1=>r=none∧Inv X pins σ H s1) E s
 self:∀ (A:Around) (i:Nat) (s:Shared) (Q:Value->Shared->Prop) (E:Value->Shared->Prop),tn i s.heap->Q (.ref it) s->wpAny (model P w) A (pyIter (.ref it)) Q E s
noncomputable abbrev TI:=St->Hp->(It->Hp->Prop)->Prop
noncomputable def PIE (X:Cx) (pins:List (Addr×Obj)) (σ:St) (tg:Expr) (R:It->Hp->Prop) (itv:Value) (s2:Shared):Prop :=
 ∃ (it:Addr) (fp:List Addr) (tn:Nat->Heap->Prop) (J:It) (H':Hp),itv = .ref it∧Inv X pins σ H' s2∧zhC X.prog X.w X.K tg J fp it tn∧tn 0 s2.heap∧(∀ b∈fp,zcT X pins H' b)∧R J H'
noncomputable def PI (X:Cx) (tg iter:Expr) (wi:TI):Prop :=
 ∀ (pins:List (Addr×Obj)) (s:Shared) (σ:St) (H:Hp) (R:It->Hp->Prop),Inv X pins σ H s->wi σ H R ->
   wpAny (model X.prog X.w) X.A (eval iter X.env) (fun v s1=>wpAny (model X.prog X.w) X.A (pyIter v) (PIE X pins σ tg R) X.xe s1) X.xe s
theorem znB {M:Model}{A:Around}{E:Value->Shared->Prop}{s:Shared}{tg:Expr}{it:Addr}{u:Value}{o:Obj}{n:String}{vs:Array Value}{Q:Unit->Shared->Prop} (ho:s.heap.get? it=some o) (hc:o.cls = .type n) (hd:o.data = .fields vs)
   (hn:["enumerate", "zip", "dict_itemiterator", "dict_reverseitemiterator", "odict_iterator", "itertools.zip_longest", "itertools.pairwise"].contains n=false) (hQ:Q () s):wpAny M A (letOwnedTupleGo tg (.ref it) u) Q E s:=by
 unfold letOwnedTupleGo
 cases tg <;> first
   | exact wpAny_pure hQ
   | (cases u <;> first
       | exact wpAny_pure hQ
       | (refine wpAny_bind (wpAny_load ho ?_)
          rw [hc,hd]
          show wpAny M A (if (["enumerate", "zip", "dict_itemiterator", "dict_reverseitemiterator", "odict_iterator", "itertools.zip_longest", "itertools.pairwise"].contains n && vs[0]? == some (rawInt _))=true then _ else _) Q E s
          rw [if_neg (by intro h;rw [hn,Bool.false_and]at h;cases h)]
          exact wpAny_pure hQ))
noncomputable def Itl (K:PySem.W.Frag) (a:Addr):It :=
 ⟨fun i H=>∃ xs x,SqL K H a xs∧xs[i]?=some x,fun i H x H'=>H'=H∧∀ xs,SqL K H a xs->xs[i]?=some x,fun i H=>∃ xs,SqL K H a xs∧xs.length<=i⟩
noncomputable def Itr (lo:Int) (n:Nat):It:=⟨fun i _=>i < n,fun i H x H'=>H'=H∧x = .int (lo+i),fun i _=>n<=i⟩
theorem zsv {P:Program}{w:World}{K:PySem.W.Frag}{tg:Expr} (a it:Addr):zhC P w K tg (Itl K a) [it] it (fun i h=>h.IsListIter it a i) where
 mem:=by simp
 obj:=fun i h st b hb=>by
   have e:b=it:=by simpa using hb
   subst e
   obtain ⟨o,e,c,d⟩:=st
   exact ⟨o,e,fun v z=>by rw [d]at z;cases z⟩
 keep:=fun i h h' st k=>st.at fun o e=>k it ς o e
 item:=by
   intro X hP hw hK hc i pins s σ H E I hf st hg
   subst hP hw hK
   obtain ⟨xs,x,hq,hx⟩:=hg
   obtain ⟨its,rv,p,hz⟩:=I.list hq
   obtain ⟨u,hu,ru⟩:=rv.get hx
   obtain ⟨f0,f1,f2,f3,f4,f5⟩:=hf it ς
   refine wpAny_pyNext_list_item st p.isList (x:=u) (by simpa using hu) fun h' st' sb=>?_
   have I1:Inv X pins σ H { s with heap:=h' }:=I.turned (t':=s.toks) (fun b o hb e=>(sb.2 b hb).trans e) f0 f1 f3 f4 f5
   obtain ⟨o,e,c,d⟩:=id st'
   exact ⟨u,rfl,znB (s:={ s with heap:=h' }) e c d ϑ ⟨x,H,I1,ru,⟨rfl,fun ys hy=>by rw [I.list_inj hy hq];exact hx⟩,st',fun b hb=>(hf b hb).1⟩⟩
 done:=by
   intro X hP hw hK hc i pins s σ H E I hf st hg
   subst hP hw hK
   obtain ⟨xs,hq,hx⟩:=hg
   obtain ⟨its,rv,p,hz⟩:=I.list hq
   obtain ⟨f0,f1,f2,f3,f4,f5⟩:=hf it ς
   have hl:=rv.length
   exact wpAny_pyNext_list_end (I.ok.hd hc) st p.isList (by simp;omega) fun h' eb=>⟨rfl,I.turned (t':=s.toks) (fun b o hb e=>eb b o hb e) f0 f1 f3 f4 f5⟩
 self:=fun _ _ _ _ _ st h=>wpAny_pyIter_listiter st h
theorem zsu {P:Program}{w:World}{K:PySem.W.Frag}{tg:Expr} (it:Addr) (lo:Int) (n:Nat):zhC P w K tg (Itr lo n) [it] it (fun i h=>IsRangeIter h it (lo+(i:Nat) * 1) ((n:Int) - (i:Nat)) 1) where
 mem:=by simp
 obj:=fun i h st b hb=>by
   have e:b=it:=by simpa using hb
   subst e
   exact ⟨_,st,fun v z=>by
     have z':Data.fields _=Data.cell v:=z
     cases z'⟩
 keep:=fun i h h' st k=>k it ς _ st
 item:=by
   intro X hP hw hK hc i pins s σ H E I hf st hg
   subst hP hw hK
   obtain ⟨f0,f1,f2,f3,f4,f5⟩:=hf it ς
   have W:=Walks.range (prog:=X.prog) (w:=X.w) (I.ok.hd hc) it lo 1 n
   refine W.item i s _ _ hg st fun v h' tk hv st' kk=>?_
   obtain ⟨t,rfl⟩:=hv
   have I1:Inv X pins σ H { s with heap:=h',toks:=tk }:=I.turned (fun b o hb e=>kk b o (by simpa using hb) e) f0 f1 f3 f4 f5
   refine ⟨_,rfl,znB (s:={ s with heap:=h',toks:=tk }) (n :="range_iterator") st' rfl rfl ϑ ⟨.int (lo+i),H,I1,⟨t,?_⟩,⟨rfl,rfl⟩,st',fun b hb=>(hf b hb).1⟩⟩
   rw [Int.mul_one]
 done:=by
   intro X hP hw hK hc i pins s σ H E I hf st hg
   subst hP hw hK
   obtain ⟨f0,f1,f2,f3,f4,f5⟩:=hf it ς
   exact wpAny_pyNext_range_end (I.ok.hd hc) st (by have:n<=i:=hg;omega) fun h' eb=>⟨rfl,I.turned (t':=s.toks) (fun b o hb e=>eb b o hb e) f0 f1 f3 f4 f5⟩
 self:=fun _ _ _ _ _ st h=>wpAny_pyIter_rangeiter st h
end L2
namespace L2
open PySem PySem.Spec PyProof.Rows
section
variable {X:Cx}{tg:Expr}
noncomputable def zsS (K:PySem.W.Frag) (tl:TE):TI:=fun σ H R=>tl σ H fun x H1=>∃ a,x = .ref a∧(∃ xs,SqL K H1 a xs)∧R (Itl K a) H1
theorem zut {l:Expr}{tl:TE} (hl:PE X l tl):PI X tg l (zsS X.K tl):=by
 intro pins s σ H R I h
 refine thn (hl pins s σ H _ I h) fun v s1 ⟨x,H1,I1,r1,q1⟩=>?_
 obtain ⟨a,e,⟨xs,hq⟩,q⟩:=q1
 subst e
 cases r1
 obtain ⟨its,rv,p,hz⟩:=I1.list hq
 refine wpAny_pyIter_list p.isList ?_
 refine ⟨s1.heap.objs.size,[s1.heap.objs.size],_,_,H1,rfl,I1.kept (t':=s1.toks) fun b o e=>Heap.get?_push_of_some _ e,zsv a _,⟨_,Heap.get?_push_size _ rfl,rfl,rfl⟩,fun b hb=>?_,q⟩
 have e:b=s1.heap.objs.size:=by simpa using hb
 subst e
 exact I1.fpOk (Nat.le_refl _) (I1.hok.fresh (Nat.le_refl _))
theorem zum {pins:List (Addr×Obj)}{σ:St}{H:Hp}{s:Shared}{R:It->Hp->Prop}{E:Value->Shared->Prop}{lo hi:Int}{t u v:Tok}{tk:Nat} (I:Inv X pins σ H s) (h1:-(2 ^ 62)<=lo) (h2:lo < 2 ^ 62) (h3:-(2 ^ 62)<=hi) (h4:hi < 2 ^ 62)
   (q:R (Itr lo (hi - lo).toNat) H):wpAny (model X.prog X.w) X.A (pyIter (.ref s.heap.objs.size)) (PIE X pins σ tg R) E { s with heap:=s.heap.push { cls := .type "range",data := .fields #[.int lo t,.int hi u,.int 1 v] },toks:=tk }:=by
 refine wpAny_pyIter_range (IsRange.new ..) (small_one h1 h2 h3 h4) ?_
 have I1:Inv X pins σ H { s with heap:=s.heap.push { cls := .type "range",data := .fields #[.int lo t,.int hi u,.int 1 v] },toks:=tk }:=I.kept fun b o e=>Heap.get?_push_of_some _ e
 refine ⟨(s.heap.push { cls := .type "range",data := .fields #[.int lo t,.int hi u,.int 1 v] }).objs.size,[(s.heap.push { cls := .type "range",data := .fields #[.int lo t,.int hi u,.int 1 v] }).objs.size],_,_,H,rfl,
   I1.kept (t':=tk) fun b o e=>Heap.get?_push_of_some _ e,zsu _ lo (hi - lo).toNat,?_,fun b hb=>?_,q⟩
 . have e1:lo+((0:Nat):Int) * 1=lo:=by simp
   have e2:(((hi - lo).toNat:Nat):Int) - ((0:Nat):Int)=Builtin.Range.rangeSize lo hi 1:=by rw [rangeSize_one];split <;> omega
   show IsRangeIter _ _ (lo+((0:Nat):Int) * 1) ((((hi - lo).toNat:Nat):Int) - ((0:Nat):Int)) 1
   rw [e1,e2]
   exact Heap.get?_push_size _ rfl
 . have e:b=(s.heap.push { cls := .type "range",data := .fields #[.int lo t,.int hi u,.int 1 v] }).objs.size:=by simpa using hb
   subst e
   exact I1.fpOk (Nat.le_refl _) (I1.hok.fresh (Nat.le_refl _))
noncomputable def zvV (ta:TA):TI:=fun σ H R=>ta σ H fun vs H1=>∃ j:Int,vs=[.int j]∧-(2 ^ 62)<=j∧j < 2 ^ 62∧R (Itr 0 j.toNat) H1
theorem zvt {a:Expr}{ta:TA}{p pos:Pos} (hg:Gl X "range") (hm:X.mg "range" = none) (ha:PA X [a] ta) (hs:starEach [a] X.env=[(false,eval a X.env)]:=by rfl):PI X tg (.Call (.Name "range" p) [a] [] pos) (zvV ta):=by
 intro pins s σ H R I h
 refine Call_ (zfv I hg hm boot_range (PyProof.Rows.callWith_type1 (thn (ha pos pins s σ H _ I h) fun us s1 ⟨vs,H1,I1,r1,q1⟩=>?_) hs rfl))
 obtain ⟨j,e,q1,q2,q⟩:=q1
 subst e
 cases r1 with
 | cons r rr =>
   cases rr
   obtain ⟨t,rfl⟩:=r
   exact call_range_1 (zum I1 ω ω q1 q2 (by simpa using q))
noncomputable def zsj (wi:TI) (g:TG) (tb:TS):TS:=fun D σ H=>wi σ H fun J H1=>∃ W:Nat->Nat->St->Hp->Prop,(∃ m,W 0 m σ H1)∧∀ i m σ H,W i m σ H ->
 (J.stop i H∧D.nx σ H)∨(J.go i H∧∃ N:St->Hp->Prop,(∀ σ' H',N σ' H'->∃ m',m' < m∧W (i+1) m' σ' H')∧∀ x H',J.yld i H x H'->g x σ H' fun σ2 H2=>tb { D with nx:=N,ct:=N,bk:=D.nx } σ2 H2)
noncomputable def zhv (fp:List Addr) (h:Heap):List (Addr×Obj):=fp.filterMap fun b=>(h.get? b).map fun o=>(b,o)
theorem zio {fp:List Addr}{h:Heap}{b:Addr}{o:Obj} (hb:b∈fp) (e:h.get? b=some o):(b,o)∈zhv fp h:=List.mem_filterMap.mpr ⟨b,hb,by rw [e];rfl⟩
theorem zu9 {fp:List Addr}{h:Heap}{p:Addr×Obj} (hp:p∈zhv fp h):p.1∈fp∧h.get? p.1=some p.2:=by
 obtain ⟨b,hb,e⟩:=List.mem_filterMap.mp hp
 cases q:h.get? b with
 | none=>rw [q]at e;cases e
 | some o =>
   rw [q]at e
   have e':(b,o)=p:=Option.some.inj e
   subst e'
   exact ⟨hb,q⟩
theorem Inv.pinned {pins:List (Addr×Obj)}{σ:St}{H:Hp}{s:Shared}{fp:List Addr} (I:Inv X pins σ H s) (hf:∀ b∈fp,zcT X pins H b) (ho:∀ b∈fp,∃ o,s.heap.get? b=some o∧∀ v,o.data ≠ .cell v):Inv X (pins++zhv fp s.heap) σ H s :=
 I.pins_of fun p hp=>(List.mem_append.mp hp).elim (fun z=>I.pin p (List.mem_append_right _ z)) fun z=>by
   obtain ⟨hb,e⟩:=zu9 z
   obtain ⟨f0,f1,f2,_⟩:=hf p.1 hb
   obtain ⟨o,e',d⟩:=ho p.1 hb
   rw [e]at e';cases e'
   exact ⟨e,f0,f1,f2,d⟩
theorem Inv.unpinned {pins pl:List (Addr×Obj)}{σ:St}{H:Hp}{s:Shared} (I:Inv X (pins++pl) σ H s):Inv X pins σ H s:=I.pins_of fun p hp=>I.pin p (List.mem_append_right _ (List.mem_append_left _ hp))
theorem zv7 {iter:Expr}{body:List Stmt}{wi:TI}{g:TG}{tb:TS}{pos:Pos} (hp:PassesOwn (model X.prog X.w) X.A X.env X.xe) (hc:X.calm=true) (hi:PI X tg iter wi) (hg:PG X tg g) (hb:PSs X body tb)
   (hs:∀ x,foldedSetIterable iter X.env x=pure x:=by intro _;rfl):PS X (.For tg iter body [] pos) (zsj wi g tb):=by
 intro pins s σ H D I h
 refine wpAny_For (thn (hi pins s σ H _ I h) fun v s1 h1=>thn h1 fun itv s2 h2=>?_) hs
 obtain ⟨it,fp,tn,J,H2,e,I2,T,st2,f2,W,⟨m0,w0⟩,turn⟩:=h2
 subst e
 have stat:∀ {H':Hp},(∀ b∈fp,H' b=none)->∀ b∈fp,zcT X pins H' b:=fun hn b hb=>⟨hn b hb,(f2 b hb).2⟩
 refine codeAny_forLoop_any (fun n s'=>∃ i σ' H',Inv X pins σ' H' s'∧tn i s'.heap∧(∀ b∈fp,H' b=none)∧W i n σ' H') ?_ m0 ⟨0,σ,H2,I2,st2,fun b hb=>(f2 b hb).1,w0⟩
 rintro n s3 ⟨i,σ3,H3,I3,st3,fr3,w3⟩
 rcases turn i n σ3 H3 w3 with ⟨stop,qn⟩ | ⟨go,N,hN,step⟩
 . refine wpAny_passesOwn hp (thn (T.done X rfl rfl rfl hc i pins s3 σ3 H3 X.xe I3 (stat fr3) st3 stop) fun r s4 ⟨hr,I4⟩=>?_)
   subst hr
   exact wpAny_execs_nil ⟨σ3,H3,I4,qn⟩
 . refine wpAny_passesOwn hp (thn (T.item X rfl rfl rfl hc i pins s3 σ3 H3 X.xe I3 (stat fr3) st3 go) fun r s4 ⟨u,hr,h4⟩=>?_)
   subst hr
   refine wpAny_passesOwn hp (thn h4 fun _ s5 ⟨x,H5,I5,r5,y5,st5,fr5⟩=>?_)
   have I5':=I5.pinned (stat fr5) (T.obj _ _ st5)
   refine wpAny_passesOwn hp (thn (hg _ s5 σ3 H5 x u _ I5' r5 (step x H5 y5)) fun _ s6 ⟨σ6,H6,I6,q6⟩=>?_)
   refine wpAny_passesOwn hp (thn (hb _ s6 σ6 H6 _ I6 q6) fun f s7 q7=>?_)
   have again:∀ {σ7:St} {H7:Hp},Inv X (pins++zhv fp s5.heap) σ7 H7 s7->N σ7 H7->∃ m,m < n∧∃ i σ' H',Inv X pins σ' H' s7∧tn i s7.heap∧(∀ b∈fp,H' b=none)∧W i m σ' H':=fun {σ7 H7} I7 n7=>by
     obtain ⟨m',hm,w7⟩:=hN σ7 H7 n7
     refine ⟨m',hm,i+1,σ7,H7,I7.unpinned,T.keep _ _ _ st5 fun b hb o e=>(I7.pin (b,o) (List.mem_append_right _ (List.mem_append_right _ (zio hb e)))).1,fun b hb=>?_,w7⟩
     obtain ⟨o,e,d⟩:=T.obj _ _ st5 b hb
     exact (I7.pin (b,o) (List.mem_append_right _ (List.mem_append_right _ (zio hb e)))).2.1
   cases f with
   | next=>obtain ⟨σ7,H7,I7,n7⟩:=q7;exact again I7 n7
   | cont=>obtain ⟨σ7,H7,I7,n7⟩:=q7;exact again I7 n7
   | brk=>obtain ⟨σ7,H7,I7,q7⟩:=q7;exact ⟨σ7,H7,I7.unpinned,q7⟩
   | ret v=>obtain ⟨x7,σ7,H7,I7,r7,q7⟩:=q7;exact ⟨x7,σ7,H7,I7.unpinned,r7,q7⟩
end
end L2
namespace L2
open PySem PySem.Spec PyProof.Rows
noncomputable abbrev R2:=V->V->Hp->VK->Prop
noncomputable def OpR (X:Cx) (f:Value->Value->Sem Value) (r:R2):Prop :=
 ∀ (pins:List (Addr×Obj)) (s:Shared) (σ:St) (H:Hp) (x y:V) (v u:Value) (Q:VK),Inv X pins σ H s->zo x v->zo y u->r x y H Q ->
   wpAny (model X.prog X.w) X.A (f v u) (EP X pins σ Q) X.xe s
noncomputable def UnR (X:Cx) (f:Value->Sem Value) (r:V->Hp->VK->Prop):Prop :=
 ∀ (pins:List (Addr×Obj)) (s:Shared) (σ:St) (H:Hp) (x:V) (v:Value) (Q:VK),Inv X pins σ H s->zo x v->r x H Q ->
   wpAny (model X.prog X.w) X.A (f v) (EP X pins σ Q) X.xe s
noncomputable def zcK (X:Cx) (f:Value) (r:List V->Hp->VK->Prop):Prop :=
 ∀ (pins:List (Addr×Obj)) (s:Shared) (σ:St) (H:Hp) (xs:List V) (us:List Value) (Q:VK),Inv X pins σ H s->zt xs us->r xs H Q ->
   wpAny (model X.prog X.w) X.A (call f us) (EP X pins σ Q) X.xe s
noncomputable def zsi (X:Cx) (r:V->Hp->(Bool->Hp->Prop)->Prop):Prop :=
 ∀ (pins:List (Addr×Obj)) (s:Shared) (σ:St) (H:Hp) (x:V) (v:Value) (Q:Bool->Hp->Prop),Inv X pins σ H s->zo x v->r x H Q ->
   wpAny (model X.prog X.w) X.A (truthy v) (TP X pins σ Q) X.xe s
noncomputable def tOp (r:R2) (ta tb:TE):TE:=fun σ H Q=>ta σ H fun x H1=>tb σ H1 fun y H2=>r x y H2 Q
noncomputable def tUn (r:V->Hp->VK->Prop) (ta:TE):TE:=fun σ H Q=>ta σ H fun x H1=>r x H1 Q
noncomputable def rI (C:Int->Int->Prop) (g:Int->Int->V):R2:=fun x y H Q=>∃ i j,x = .int i∧y = .int j∧C i j∧Q (g i j) H
noncomputable def rI0 (g:Int->Int->V):R2:=fun x y H Q=>∃ i j,x = .int i∧y = .int j∧Q (g i j) H
noncomputable def rU (g:Int->V):V->Hp->VK->Prop:=fun x H Q=>∃ i,x = .int i∧Q (g i) H
section
variable {X:Cx}{a b c:Expr}{ta tb tc:TE}{pos:Pos}
theorem zkG (ha:PE X a ta) (hb:PE X b tb) {pins:List (Addr×Obj)}{s:Shared}{σ:St}{H:Hp}{R:V->V->Hp->Prop} (I:Inv X pins σ H s)
   (h:ta σ H fun x H1=>tb σ H1 fun y H2=>R x y H2) {Q:Value->Shared->Prop} {f:Value->Value->Sem Value}
   (hf:∀ v u s2 x y H2,Inv X pins σ H2 s2->zo x v->zo y u->R x y H2->wpAny (model X.prog X.w) X.A (f v u) Q X.xe s2) :
   wpAny (model X.prog X.w) X.A (eval a X.env) (fun v s₁=>wpAny (model X.prog X.w) X.A (eval b X.env) (fun u s₂=>wpAny (model X.prog X.w) X.A (f v u) Q X.xe s₂) X.xe s₁) X.xe s:=by
 refine thn (ha pins s σ H _ I h) fun v s1 ⟨x,H1,I1,r1,q1⟩=>?_
 refine thn (hb pins s1 σ H1 _ I1 q1) fun u s2 ⟨y,H2,I2,r2,q2⟩=>?_
 exact hf v u s2 x y H2 I2 r1 r2 q2
theorem zna {op:Operator}{r:R2} (ho:OpR X (binaryOp op) r) (ha:PE X a ta) (hb:PE X b tb):PE X (.BinOp a op b pos) (tOp r ta tb):=by
 intro pins s σ H Q I h
 exact wpAny_BinOp (zkG ha hb I h fun v u s2 x y H2 I2 rx ry q=>ho pins s2 σ H2 x y v u Q I2 rx ry q)
theorem zmW {op:UnaryOp}{r:V->Hp->VK->Prop} (ho:UnR X (unaryOp op) r) (ha:PE X a ta):PE X (.UnaryOp op a pos) (tUn r ta):=by
 intro pins s σ H Q I h
 exact UnaryOp_ (thn (ha pins s σ H _ I h) fun v s1 ⟨x,H1,I1,r1,q1⟩=>ho pins s1 σ H1 x v Q I1 r1 q1)
theorem opI {f:Value->Value->Sem Value}{C:Int->Int->Prop}{g:Int->Int->Int}
   (rule:∀ (i j:Int) (t u:Tok) (s:Shared) (Q:Value->Shared->Prop) (E:Value->Shared->Prop),C i j->Q (.int (g i j) s.toks) { s with toks:=s.toks+1 }->wpAny (model X.prog X.w) X.A (f (.int i t) (.int j u)) Q E s) :
   OpR X f (rI C fun i j=> .int (g i j)):=by
 intro pins s σ H x y v u Q I rx ry h
 obtain ⟨i,j,rfl,rfl,hc,q⟩:=h
 obtain ⟨t,rfl⟩:=rx
 obtain ⟨t',rfl⟩:=ry
 exact rule i j t t' s _ _ hc ⟨.int (g i j),H,I.tok _,⟨_,rfl⟩,q⟩
theorem zjJ {f:Value->Value->Sem Value}{g:Int->Int->Int}
   (rule:∀ (i j:Int) (t u:Tok) (s:Shared) (Q:Value->Shared->Prop) (E:Value->Shared->Prop),Q (.int (g i j) s.toks) { s with toks:=s.toks+1 }->wpAny (model X.prog X.w) X.A (f (.int i t) (.int j u)) Q E s) :
   OpR X f (rI0 fun i j=> .int (g i j)):=by
 intro pins s σ H x y v u Q I rx ry h
 obtain ⟨i,j,rfl,rfl,q⟩:=h
 obtain ⟨t,rfl⟩:=rx
 obtain ⟨t',rfl⟩:=ry
 exact rule i j t t' s _ _ ⟨.int (g i j),H,I.tok _,⟨_,rfl⟩,q⟩
theorem zkn {f:Value->Value->Sem Value}{g:Int->Int->Bool}
   (rule:∀ (i j:Int) (t u:Tok) (s:Shared) (Q:Value->Shared->Prop) (E:Value->Shared->Prop),Q (.bool (g i j)) s->wpAny (model X.prog X.w) X.A (f (.int i t) (.int j u)) Q E s) :
   OpR X f (rI0 fun i j=> .bl (g i j)):=by
 intro pins s σ H x y v u Q I rx ry h
 obtain ⟨i,j,rfl,rfl,q⟩:=h
 obtain ⟨t,rfl⟩:=rx
 obtain ⟨t',rfl⟩:=ry
 exact rule i j t t' s _ _ ⟨.bl (g i j),H,I,rfl,q⟩
noncomputable def zmZ (i j:Int):Prop:=0 < j∧j < 1073741824
noncomputable def zhj (i j:Int):Prop:=(-(2 ^ 64) < i∧i < 2 ^ 64)∨(-(2 ^ 64) < j∧j < 2 ^ 64)
theorem zhj.ok {i j:Int} (h:zhj i j):IntMulOk i j:=by
 rcases h with ⟨h1,h2⟩ | ⟨h1,h2⟩
 . exact .of_left (intBits_le_64 h1 h2)
 . exact .of_right (intBits_le_64 h1 h2)
theorem zuk:OpR X (binaryOp .Add) (rI0 fun i j=> .int (i+j)):=zjJ fun _ _ _ _ _ _ _ q=>add_int q
theorem zsd:OpR X (binaryOp .Sub) (rI0 fun i j=> .int (i - j)):=zjJ fun _ _ _ _ _ _ _ q=>sub_int q
theorem zwq:OpR X (binaryOp .Mult) (rI zhj fun i j=> .int (i * j)):=opI fun _ _ _ _ _ _ _ hc q=>mul_int q hc.ok
theorem zwx:OpR X (binaryOp .FloorDiv) (rI zmZ fun i j=> .int (i / j)):=opI fun i j _ _ _ _ _ hc q=>by
 have h1:(0:Int) < j:=hc.1
 have h2:j < 1073741824:=hc.2
 exact floordiv_int ω (by rw [Int.fdiv_eq_ediv_of_nonneg i ω];exact q) (.inl (PyProof.noPylong_small ω))
theorem zuO:OpR X (binaryOp .Mod) (rI (fun _ j=>0 < j) fun i j=> .int (i % j)):=opI fun i j _ _ _ _ _ hc q=>by
 have h1:(0:Int) < j:=hc
 exact mod_int' ω (by rw [Int.fmod_eq_emod_of_nonneg i ω];exact q)
theorem zv3:OpR X (inplaceOp .Add) (rI0 fun i j=> .int (i+j)):=zjJ fun _ _ _ _ _ _ _ q=>iadd_int q
theorem unI {f:Value->Sem Value}{g:Int->Int}
   (rule:∀ (i:Int) (t:Tok) (s:Shared) (Q:Value->Shared->Prop) (E:Value->Shared->Prop),Q (.int (g i) s.toks) { s with toks:=s.toks+1 }->wpAny (model X.prog X.w) X.A (f (.int i t)) Q E s) :
   UnR X f (rU fun i=> .int (g i)):=by
 intro pins s σ H x v Q I rx h
 obtain ⟨i,rfl,q⟩:=h
 obtain ⟨t,rfl⟩:=rx
 exact rule i t s _ _ ⟨.int (g i),H,I.tok _,⟨_,rfl⟩,q⟩
theorem zlH:UnR X (unaryOp .USub) (rU fun i=> .int (-i)):=unI fun _ _ _ _ _ q=>neg_int q
end
section
variable {X:Cx}{a b c:Expr}{ta tb tc:TE}{pos:Pos}
theorem znO {pins:List (Addr×Obj)}{σ:St}{H:Hp}{s:Shared}{Q:VK}{k k':Bool} (I:Inv X pins σ H s) (q:Q (.bl k) H) (e:k=k'):EP X pins σ Q (.bool k') s:=by
 subst e
 exact ⟨.bl k,H,I,rfl,q⟩
theorem zq9:OpR X (compareOp .Lt) (rI0 fun i j=> .bl (decide (i < j))):=zkn fun _ _ _ _ _ _ _ q=>lt_int q
theorem zs7:OpR X (compareOp .LtE) (rI0 fun i j=> .bl (decide (i<=j))):=zkn fun _ _ _ _ _ _ _ q=>le_int q
theorem zwk:OpR X (compareOp .Gt) (rI0 fun i j=> .bl (decide (j < i))):=zkn fun _ _ _ _ _ _ _ q=>gt_int q
theorem ztF:OpR X (compareOp .Is) (fun x y H Q=>y = .non∧Q (.bl (decide (x = .non))) H):=by
 intro pins s σ H x y v u Q I rx ry h
 obtain ⟨rfl,q⟩:=h
 cases ry
 refine is_none_gen (znO I q ?_)
 cases x <;> first
   | (cases rx;rfl)
   | (obtain ⟨t,rfl⟩:=rx;rfl)
theorem zsn:OpR X (compareOp .IsNot) (fun x y H Q=>y = .non∧Q (.bl (!decide (x = .non))) H):=by
 intro pins s σ H x y v u Q I rx ry h
 obtain ⟨rfl,q⟩:=h
 cases ry
 refine isnot_none_gen (znO I q ?_)
 cases x <;> first
   | (cases rx;rfl)
   | (obtain ⟨t,rfl⟩:=rx;rfl)
noncomputable def zy2:HO->Bool
 | .lst _=>true
 | .ins _ _ _=>true
 | _=>false
theorem OpR.or {f:Value->Value->Sem Value}{r r':R2} (h:OpR X f r) (h':OpR X f r'):OpR X f (fun x y H Q=>r x y H Q∨r' x y H Q):=by
 intro pins s σ H x y v u Q I rx ry q
 rcases q with q | q
 . exact h pins s σ H x y v u Q I rx ry q
 . exact h' pins s σ H x y v u Q I rx ry q
theorem zW (b:Expr) {op:CmpOp} (h:op ≠ .In:=by decide) (h2:op ≠ .NotIn:=by decide):behindInMarks op b=false:=by
 have e1:(op == CmpOp.In)=false:=by cases op <;> first | rfl | exact absurd rfl h
 have e2:(op == CmpOp.NotIn)=false:=by cases op <;> first | rfl | exact absurd rfl h2
 cases b <;> simp [behindInMarks,e1,e2]
theorem zs0 {op:CmpOp}{r:R2} (ho:OpR X (compareOp op) r) (ha:PE X a ta) (hb:PE X b tb) (hm:behindInMarks op b=false):PE X (.Compare a [op] [b] pos) (tOp r ta tb):=by
 intro pins s σ H Q I h
 exact wpAny_Compare1 (zkG ha hb I h fun v u s2 x y H2 I2 rx ry q=>ho pins s2 σ H2 x y v u Q I2 rx ry q) hm
noncomputable def zl5 (t:TE):TT:=fun σ H Q=>t σ H fun x H'=>∃ k,x = .bl k∧Q k H'
theorem zuQ {op:CmpOp}{r:R2} (ho:OpR X (compareOp op) r) (ha:PE X a ta) (hb:PE X b tb) (hm:behindInMarks op b=false):PT X (.Compare a [op] [b] pos) (zl5 (tOp r ta tb)):=by
 intro pins s σ H Q I h
 refine wpAny_isTrue_Compare1 (thn (ha pins s σ H _ I h) fun v s1 ⟨x,H1,I1,r1,q1⟩=>thn (hb pins s1 σ H1 _ I1 q1) fun u s2 ⟨y,H2,I2,r2,q2⟩ =>
   thn (ho pins s2 σ H2 x y v u _ I2 r1 r2 q2) fun c s3 ⟨z,H3,I3,r3,k,e,q3⟩=>?_) hm
 subst e
 cases r3
 exact wpAny_truthy_bool ⟨H3,I3,q3⟩
noncomputable def zj2 (r r':R2) (ta tb tc:TE):TE:=fun σ H Q=>ta σ H fun x H1=>tb σ H1 fun y H2=>r x y H2 fun z H3=>∃ k,z = .bl k ∧
 (if k=true then tc σ H3 fun w' H4=>r' y w' H4 Q else Q (.bl false) H3)
theorem zve {op op':CmpOp}{r r':R2} (ho:OpR X (compareOp op) r) (ho':OpR X (compareOp op') r') (ha:PE X a ta) (hb:PE X b tb) (hc:PE X c tc)
   (hm:lastMarks [op,op'] [b,c]=false:=by with_unfolding_all rfl):PE X (.Compare a [op,op'] [b,c] pos) (zj2 r r' ta tb tc):=by
 intro pins s σ H Q I h
 refine Compare_chain (thn (ha pins s σ H _ I h) fun v s1 ⟨x,H1,I1,r1,q1⟩=>chain_link (thn (hb pins s1 σ H1 _ I1 q1) fun u s2 ⟨y,H2,I2,r2,q2⟩ =>
   thn (ho pins s2 σ H2 x y v u _ I2 r1 r2 q2) fun d s3 ⟨z,H3,I3,r3,k,e,q3⟩=>?_)) hm
 subst e
 cases r3
 refine wpAny_truthy_bool ?_
 cases k with
 | false=>exact ite_ff ⟨.bl false,H3,I3,rfl,q3⟩
 | true=>exact ite_tt (chain_last (thn (hc pins s3 σ H3 _ I3 q3) fun w' s4 ⟨z',H4,I4,r4,q4⟩=>ho' pins s4 σ H4 y z' u w' Q I4 r2 r4 q4))
theorem zvM {op op':CmpOp}{r r':R2} (ho:OpR X (compareOp op) r) (ho':OpR X (compareOp op') r') (ha:PE X a ta) (hb:PE X b tb) (hc:PE X c tc)
   (hm:lastMarks [op,op'] [b,c]=false:=by with_unfolding_all rfl):PT X (.Compare a [op,op'] [b,c] pos) (zl5 (zj2 r r' ta tb tc)):=by
 intro pins s σ H Q I h
 refine isTrue_chain (thn (ha pins s σ H _ I h) fun v s1 ⟨x,H1,I1,r1,q1⟩=>test_link (thn (hb pins s1 σ H1 _ I1 q1) fun u s2 ⟨y,H2,I2,r2,q2⟩ =>
   thn (ho pins s2 σ H2 x y v u _ I2 r1 r2 q2) fun d s3 ⟨z,H3,I3,r3,k,e,q3⟩=>?_)) hm
 subst e
 cases r3
 refine wpAny_truthy_bool ?_
 cases k with
 | false =>
   obtain ⟨k',e',q'⟩:=q3
   cases e'
   exact ite_ff ⟨H3,I3,q'⟩
 | true =>
   refine ite_tt (test_last (thn (hc pins s3 σ H3 _ I3 q3) fun w' s4 ⟨z',H4,I4,r4,q4⟩=>thn (ho' pins s4 σ H4 y z' u w' _ I4 r2 r4 q4) fun d' s5 ⟨z2,H5,I5,r5,k2,e2,q5⟩=>?_))
   subst e2
   cases r5
   exact wpAny_truthy_bool ⟨H5,I5,q5⟩
noncomputable def zlb (K:PySem.W.Frag) (x:V) (H:Hp) (k:Bool):Prop :=
 match x with
 | .non=>k=false
 | .bl b=>k=b
 | .int i=>k=(i != 0)
 | .str y=>y.length<=sizeLine∧k=((y.length:Int) != 0)
 | .byt y=>y.size<=sizeLine∧k=((y.size:Int) != 0)
 | .ref p=>(∃ xs,SqL K H p xs∧k=!xs.isEmpty)∨(∃ xs,SqT K H p xs∧k=!xs.isEmpty)∨∃ kvs,H p=some (.dK kvs)∧k=!kvs.isEmpty
 | _=>False
theorem ztj {κ:Type}{kvs:List (κ×V)}{vs:List (κ×Value)} (r:KV kvs vs):(!vs.isEmpty)=!kvs.isEmpty:=by
 cases r <;> rfl
theorem zm9 {xs:List V}{its:List Value} (r:zt xs its):(!its.toArray.isEmpty)=!xs.isEmpty:=by
 cases r <;> simp
theorem zhh:(sizeLine:Nat) < 2 ^ 63:=by rw [sizeLine_eq];decide
theorem zwC:zsi X (fun x H Q=>∃ k,zlb X.K x H k∧Q k H):=by
 intro pins s σ H x v Q I rx h
 obtain ⟨k,e,q⟩:=h
 have hl:=zhh
 have hs:sizeLine=16777216:=sizeLine_eq
 cases x with
 | non =>
   cases rx
   have e':k=false:=e
   subst e'
   exact truthy_none ⟨H,I,q⟩
 | bl b =>
   cases rx
   have e':k=b:=e
   subst e'
   exact wpAny_truthy_bool ⟨H,I,q⟩
 | int i =>
   obtain ⟨t,rfl⟩:=rx
   have e':k=(i != 0):=e
   subst e'
   exact PySem.P.truthy_int ⟨H,I,q⟩
 | str y =>
   obtain ⟨t,rfl⟩:=rx
   obtain ⟨hy,e'⟩:y.length<=sizeLine∧k=((y.length:Int) != 0):=e
   subst e'
   exact PySem.P.truthy_str ω ⟨H,I.tok _,q⟩
 | byt y =>
   obtain ⟨t,rfl⟩:=rx
   obtain ⟨hy,e'⟩:y.size<=sizeLine∧k=((y.size:Int) != 0):=e
   subst e'
   exact PySem.W.truthy_bytes ω ⟨H,I.tok _,q⟩
 | ref p =>
   cases rx
   have e':(∃ xs,SqL X.K H p xs∧k=!xs.isEmpty)∨(∃ xs,SqT X.K H p xs∧k=!xs.isEmpty)∨∃ kvs,H p=some (.dK kvs)∧k=!kvs.isEmpty:=e
   rcases e' with ⟨xs,hx,e'⟩ | ⟨xs,hx,e'⟩ | ⟨kvs,hx,e'⟩
   . subst e'
     obtain ⟨its,r,pl,hz⟩:=I.list hx
     have hlen:=r.length
     exact wpAny_truthy_list pl.isList (by simp only [List.size_toArray];omega) ⟨H,I.tok _,by rw [zm9 r];exact q⟩
   . subst e'
     obtain ⟨its,r,pl,hz⟩:=I.tuple hx
     have hlen:=r.length
     exact truthy_tuple pl (by simp only [List.size_toArray];omega) ⟨H,I.tok _,by rw [zm9 r];exact q⟩
   . subst e'
     obtain ⟨hz,hS,vs,r,m⟩:kvs.length<=sizeLine∧(p == sysModules)=false∧∃ vs,KV kvs vs∧s.heap.DictOf (zbj X.prog X.w) p vs:=I.hok p _ hx
     have hlen:kvs.length=vs.length:=Paired.length r
     exact wpAny_truthy_dict hS m ω ⟨H,I.tok _,by rw [ztj r];exact q⟩
 | _=>exact (show False from e).elim
theorem zvI (ha:PE X a ta) (he:∀ whole,isTrue a X.env whole=(do let v <- whole;standAt a.pos;holding [v] (truthy v))) :
   PT X a (fun σ H Q=>ta σ H fun x H'=>∃ k,zlb X.K x H' k∧Q k H'):=by
 intro pins s σ H Q I h
 exact isTrue_plain (thn (ha pins s σ H _ I h) fun v s1 ⟨x,H1,I1,r1,q1⟩=>zwC pins s1 σ H1 x v Q I1 r1 q1) (he _)
theorem zdm {x:V}{us:List Value} (r:zt [x] us):∃ u,us=[u]∧zo x u:=by
 cases r with
 | cons r1 r2=>cases r2;exact ⟨_,rfl,r1⟩
theorem zjV {x y:V}{us:List Value} (r:zt [x,y] us):∃ u w',us=[u,w']∧zo x u∧zo y w':=by
 cases r with
 | cons r1 r2 =>
   cases r2 with
   | cons r3 r4=>cases r4;exact ⟨_,_,rfl,r1,r3⟩
theorem zq1:zcK X (.builtin "abs") (fun xs H Q=>∃ i,xs=[.int i]∧Q (.int (if i < 0 then -i else i)) H):=by
 intro pins s σ H xs us Q I r h
 obtain ⟨i,rfl,q⟩:=h
 obtain ⟨u,rfl,t,rfl⟩:=zdm r
 exact call_abs_int fun u tk=>⟨.int (if i < 0 then -i else i),H,I.tok _,⟨_,rfl⟩,q⟩
end
end L2
namespace L2
open PySem PySem.Spec PyProof.Rows
structure zfw (h:Heap) (x dx C:Addr) (mA:Str->Option Value):Prop where
 obj:h.get? x=some (PySem.W.instObj C dx)
 ns:h.Ns1 dx mA
 ne:dx≠x
theorem ztb {h:Heap}{dx:Addr}{mA:Str->Option Value} (n:h.Ns1 dx mA):∃ od,h.get? dx=some od∧∀ name,PySem.W.lookIn name od=some (mA name):=by
 obtain ⟨o,es,ep,ho,hd,hk,_,hm⟩:=n
 refine ⟨o,ho,fun name=>?_⟩
 have e:=hm name
 unfold nsFind findBy at e
 rw [<- Array.find?_toList]at e
 unfold PySem.W.lookIn
 rw [hd]
 dsimp only
 split
 . rename_i y q
   rw [q]at e
   exact congrArg some e
 . rename_i q
   rw [q]at e
   have a:es.toList.any (·.refKey)=false:=by
     rw [List.any_eq_false]
     intro y hy
     obtain ⟨z,t,hkey⟩:=hk y (Array.mem_toList_iff.mp hy)
     simp [DictEntry.refKey,hkey]
   have a':¬ es.toList.any (·.refKey)=true:=by rw [a];exact Bool.false_ne_true
   rw [if_neg a']
   exact congrArg some e
theorem zfw.look {h:Heap}{x dx C:Addr}{mA:Str->Option Value} (I:zfw h x dx C mA):∃ od,PySem.W.InstAt h x (PySem.W.instObj C dx) C (some od)∧∀ name,PySem.W.lookIn name od=some (mA name) :=
 let ⟨od,ho,hl⟩:=ztb I.ns
 ⟨od,⟨I.obj,rfl,rfl,ho⟩,hl⟩
section
variable {prog:Program}{w:World}{A:Around}{E:Value->Shared->Prop}{s:Shared}{K:PySem.W.Frag}{x dx C f:Addr}{mA:Str->Option Value}{name:Str}{v:Value}
theorem zrh {expr:Bool}{Q:Value->Shared->Prop} (X:K.In s.heap) (I:zfw s.heap x dx C mA) (hg:PySem.W.plainGet K C name=true) (hh:PySem.W.hasDictIn K C=true)
   (ha:PySem.W.findIn K (.ref C) name=some none) (hv:mA name=some v) (hv':PySem.W.handedIn v=true) (h:Q v { s with toks:=s.toks+1 }) :
   wpAny (model prog w) A (getAttr (.ref x) name expr) Q E s:=by
 obtain ⟨od,J,hl⟩:=I.look
 exact PySem.W.get_value X J (PySem.W.plainGet_of hg).1 (PySem.W.findObj_own hh ha rfl (by rw [hl,hv])) hv' h
theorem zvy {pl:Sem Bool}{Q:Value×List Value->Shared->Prop} (X:K.In s.heap) (I:zfw s.heap x dx C mA) (hg:PySem.W.plainGet K C name=true)
   (hf:PySem.W.findIn K (.ref C) name=some (some (.ref f))) (ht:PySem.W.isFn K (.ref f)=true) (hv:mA name=none) (h:Q (.ref f,[.ref x]) s) :
   wpAny (model prog w) A (getMethod (.ref x) name pl) Q E s:=by
 obtain ⟨od,J,hl⟩:=I.look
 exact PySem.W.method_fn X J (PySem.W.plainGet_of hg).1 (PySem.W.plainGet_of hg).2 hf (beq_iff_eq.mp ht) (by show (PySem.W.lookIn name od).map (·.isSome)=some false;rw [hl,hv];rfl) h
theorem zwO {ns:List Str}{Q:Unit->Shared->Prop} (X:K.In s.heap) (I:zfw s.heap x dx C mA)
   (hs:PySem.W.findIn K (.ref C) "__setattr__" = some (some (.builtin "object.__setattr__"))) (hp:PySem.W.plainOver K C=true) (ht:PySem.W.takerIn K C name=some none) (hh:PySem.W.hasDictIn K C=true)
   (hw:PySem.Within mA ns) (hsz:ns.length<=sizeLine)
   (h:∀ h',zfw h' x dx C (fun y=>if y=name then some v else mA y)->Heap.SameBut dx s.heap h'->Q () { s with heap:=h',toks:=s.toks+2 }) :
   wpAny (model prog w) A (setAttr (.ref x) name v) Q E s:=by
 obtain ⟨od,J,hl⟩:=I.look
 refine PySem.W.set_plain X J hs (PySem.W.osa_open (s:={ s with toks:=s.toks+1 }) (r:=none) X J hp ht fun b=>?_)
 obtain ⟨cd,hc,hd'⟩:=PySem.W.any_some hh
 have hx:s.heap.get? x=some ⟨.ref C,some dx,.plain,#[]⟩:=I.obj
 refine wpAny_bind (wpAny_pure (wpAny_bind (wpAny_bind (wpAny_loadPart hx (wpAny_bind (PySem.W.Looks.here (s:={ s with toks:=s.toks+1 }) (PySem.W.looks_clsIn X hc) ?_))))))
 rw [hd']
 refine wpAny_pure (a:=some dx) (wpAny_bind (wpAny_pure (wpAny_bind ?_)))
 refine wpAny_nsSet1 (s:={ s with toks:=s.toks+1 }) I.ns fun h' hn2 hs2=>?_
 obtain ⟨oD,esD,epD,hoD,hdD,hcD⟩:=hn2.count (PySem.Within.cons name v hw)
 refine wpAny_bind (wpAny_lookBehind hoD (by rw [hdD];exact pastItsLine_dict (Nat.le_trans hcD (by rw [List.length_cons];omega))) ?_)
 exact wpAny_pure (h _ ⟨(hs2.2 _ (Ne.symm I.ne)).trans I.obj,hn2,I.ne⟩ hs2)
theorem ztX {R:Result->Shared->Prop}{vs:List Value}{kw:List (Str×Value)} (X:K.In s.heap) (hm:PySem.W.makesIn K C=true)
   (hi:PySem.W.findIn K (.ref C) "__init__" = some (some (.ref f))) (hf:PySem.W.typeIn K (.ref f)=some (.type "function"))
   (h:codeAny (model prog w) (A.under (.builtin "type.__call__" ⟨.ref C :: vs,kw⟩)) (.call (.ref f) ⟨.ref (s.heap.objs.size+1) :: vs,kw⟩) (PySem.W.InitBack (s.heap.objs.size+1) R)
     { s with heap:=(s.heap.push PySem.W.emptyDict).push (PySem.W.instObj C s.heap.objs.size) }) :
   codeAny (model prog w) A (.call (.ref C) ⟨vs,kw⟩) R s:=by
 obtain ⟨hh,g,d,t,os⟩:=s
 exact PySem.W.make_core (PySem.W.makes_of X hm) (PySem.W.looks_findIn X hi) (fun self=>PySem.W.bind_fn X self hf) (.inl rfl) h
end
noncomputable def zb3 (f:Str) (v:V):List (Str×V)->List (Str×V)
 | []=>[(f,v)]
 | (g,x) :: r=>if g=f then (g,v) :: r else (g,x) :: zb3 f v r
theorem zlm (f g:Str) (v:V):∀ fs:List (Str×V),(zb3 f v fs).lookup g=if g=f then some v else fs.lookup g
 | []=>by
   show List.lookup g [(f,v)]=_
   by_cases h:g=f
   . have hb:(g == f)=true:=beq_iff_eq.mpr h
     simp only [List.lookup,hb,if_pos h]
   . have hb:(g == f)=false:=beq_eq_false_iff_ne.mpr h
     simp only [List.lookup,hb,if_neg h]
 | (k,x) :: r=>by
   have ih:=zlm f g v r
   rw [show zb3 f v ((k,x) :: r)=(if k=f then (k,v) :: r else (k,x) :: zb3 f v r) from rfl]
   by_cases hk:k=f
   . rw [if_pos hk]
     by_cases h:g=k
     . have hb:(g == k)=true:=beq_iff_eq.mpr h
       simp only [List.lookup,hb,if_pos (h.trans hk)]
     . have hb:(g == k)=false:=beq_eq_false_iff_ne.mpr h
       simp only [List.lookup,hb,if_neg (fun e:g=f=>h (e.trans hk.symm))]
   . rw [if_neg hk]
     by_cases h:g=k
     . have hb:(g == k)=true:=beq_iff_eq.mpr h
       simp only [List.lookup,hb,if_neg (fun e:g=f=>hk (h.symm.trans e))]
     . have hb:(g == k)=false:=beq_eq_false_iff_ne.mpr h
       simp only [List.lookup,hb]
       exact ih
theorem zkh (f:Str) (v:V):∀ fs:List (Str×V),f∈(zb3 f v fs).map (·.1)∧∀ g,g∈fs.map (·.1)->g∈(zb3 f v fs).map (·.1)
 | []=>⟨by simp [zb3],fun g h=>by simp at h⟩
 | (k,x) :: r=>by
   obtain ⟨i1,i2⟩:=zkh f v r
   rw [show zb3 f v ((k,x) :: r)=(if k=f then (k,v) :: r else (k,x) :: zb3 f v r) from rfl]
   by_cases hk:k=f
   . rw [if_pos hk]
     subst hk
     exact ⟨ς,fun g h=>by simpa using h⟩
   . rw [if_neg hk]
     refine ⟨?_,fun g h=>?_⟩
     . rw [List.map_cons]
       exact List.mem_cons_of_mem _ i1
     . rw [List.map_cons]at h ⊢
       rcases List.mem_cons.mp h with e | e
       . exact List.mem_cons.mpr (.inl e)
       . exact List.mem_cons_of_mem _ (i2 g e)
theorem zlf (f:Str) (v:V):∀ fs:List (Str×V),(zb3 f v fs).length<=fs.length+1
 | []=>by simp [zb3]
 | (k,x) :: r=>by
   have ih:=zlf f v r
   rw [show zb3 f v ((k,x) :: r)=(if k=f then (k,v) :: r else (k,x) :: zb3 f v r) from rfl]
   by_cases hk:k=f
   . rw [if_pos hk,List.length_cons,List.length_cons];omega
   . rw [if_neg hk,List.length_cons,List.length_cons];omega
theorem zcF.some_of {v:V}{o:Option Value} (r:zcF (some v) o):∃ u,o=some u∧zo v u:=by
 cases o with
 | none=>exact (show False from r).elim
 | some u=>exact ⟨u,rfl,r⟩
theorem zcF.none_of {o:Option Value} (r:zcF none o):o=none:=by
 cases o with
 | none=>rfl
 | some u=>exact (show False from r).elim
theorem zs9 {v:V}{u:Value} (r:zo v u):PySem.W.handedIn u=true:=by
 cases v with
 | non=>cases (show u=Value.none from r);rfl
 | bl b=>cases (show u=Value.bool b from r);rfl
 | int i=>obtain ⟨t,e⟩:=(show ∃ t,u=Value.int i t from r);cases e;rfl
 | str x=>obtain ⟨t,e⟩:=(show ∃ t,u=Value.str x t from r);cases e;rfl
 | byt b=>obtain ⟨t,e⟩:=(show ∃ t,u=Value.bytes b t from r);cases e;rfl
 | flt b=>obtain ⟨t,e⟩:=(show ∃ t,u=Value.float b t from r);cases e;rfl
 | ref a=>cases (show u=Value.ref a from r);rfl
 | ty n=>cases (show u=Value.type n from r);rfl
section
variable {P:Program}{w:World}{H H':Hp}{h h':Heap}{a C dx:Addr}{fs fs':List (Str×V)}
theorem zim (hok:HOk P w H h) (e:H a=some (.ins C dx fs)):∃ mA,zfw h a dx C mA∧(∀ f,zcF (fs.lookup f) (mA f))∧PySem.Within mA (fs.map (·.1))∧fs.length<=1000∧H dx=some (.own a):=by
 obtain ⟨d,z,ne,ob,mA,n,r,q⟩:=(show zbp P w H h a (.ins C dx fs) from hok a _ e)
 exact ⟨mA,⟨ob,n,ne⟩,r,q,z,d⟩
end
structure Cls (K:PySem.W.Frag) (C:Addr):Prop where
 pg:PySem.W.plainGet K C Str.empty=true
 hd:PySem.W.hasDictIn K C=true
 po:PySem.W.plainOver K C=true
 sa:PySem.W.findIn K (.ref C) "__setattr__" = some (some (.builtin "object.__setattr__"))
theorem Cls.get {K:PySem.W.Frag}{C:Addr} (c:Cls K C) (f:Str):PySem.W.plainGet K C f=true:=c.pg
noncomputable def zbB (K:PySem.W.Frag) (C:Addr) (f:Str):Prop:=PySem.W.findIn K (.ref C) f=some none
theorem zbB.taker {K:PySem.W.Frag}{C:Addr}{f:Str} (n:zbB K C f):PySem.W.takerIn K C f=some none:=by
 unfold PySem.W.takerIn
 rw [show PySem.W.findIn K (.ref C) f=some none from n]
 rfl
structure zdR (K:PySem.W.Frag) (C:Addr) (m:Str) (f:Addr):Prop where
 at_:PySem.W.findIn K (.ref C) m=some (some (.ref f))
 fn:PySem.W.isFn K (.ref f)=true
 kp:PySem.W.keepIn K (.ref f)=true
section
variable {X:Cx}{pins:List (Addr×Obj)}{σ:St}{H:Hp}{s:Shared}{a C dx:Addr}{fs:List (Str×V)}{f:Str}{v:V}{A:Around}{E:Value->Shared->Prop}
theorem zrw {b:Bool}{Q:Value->Shared->Prop} (I:Inv X pins σ H s) (e:H a=some (.ins C dx fs)) (c:Cls X.K C) (n:zbB X.K C f) (l:fs.lookup f=some v)
   (h:∀ u s',Inv X pins σ H s'->zo v u->Q u s'):wpAny (model X.prog X.w) A (getAttr (.ref a) f b) Q E s:=by
 obtain ⟨mA,O,r,_,_,_⟩:=zim I.hok e
 obtain ⟨u,hu,ru⟩:=zcF.some_of (v:=v) (o:=mA f) (by rw [<- l];exact r f)
 exact zrh I.kIn O (c.get f) c.hd n hu (zs9 ru) (h u _ (I.tok _) ru)
theorem zkx {m:Str}{g:Addr}{pl:Sem Bool}{Q:Value×List Value->Shared->Prop} (I:Inv X pins σ H s) (e:H a=some (.ins C dx fs)) (c:Cls X.K C) (k:zdR X.K C m g) (l:fs.lookup m=none)
   (h:Q (.ref g,[.ref a]) s):wpAny (model X.prog X.w) A (getMethod (.ref a) m pl) Q E s:=by
 obtain ⟨mA,O,r,_,_,_⟩:=zim I.hok e
 have hn:mA m=none:=zcF.none_of (by rw [<- l];exact r m)
 exact zvy I.kIn O (c.get m) k.at_ k.fn hn h
theorem zvF {y:V}{u:Value}{Q:Unit->Shared->Prop} (I:Inv X pins σ H s) (e:H a=some (.ins C dx fs)) (c:Cls X.K C) (n:zbB X.K C f) (hl:fs.length < 1000) (ry:zo y u)
   (h:∀ s',Inv X pins σ (upd H a (.ins C dx (zb3 f y fs))) s'->Q () s'):wpAny (model X.prog X.w) A (setAttr (.ref a) f u) Q E s:=by
 obtain ⟨mA,O,r,wi,_,ho⟩:=zim I.hok e
 have hz:(fs.map (·.1)).length<=sizeLine:=by rw [List.length_map,sizeLine_eq];omega
 refine zwO I.kIn O c.sa c.po n.taker c.hd wi hz fun h' O' sb=>h _ ?_
 have hd:∃ o,h'.get? dx=some o:=let ⟨o,_,_,e',_⟩:=O'.ns;⟨o,e'⟩
 refine I.write (x:=a) (e:=dx) (by rw [e];exact True.intro) (.inr ho) (fun b q hb z=>(sb.2 b hb).trans z) hd ?_
 refine ⟨by rw [zU O.ne];exact ho,?_,O.ne,O'.obj,_,O'.ns,fun g=>?_,fun g hg=>?_⟩
 . have:=zlf f y fs;omega
 . show zcF ((zb3 f y fs).lookup g) (if g=f then some u else mA g)
   rw [zlm]
   by_cases q:g=f
   . rw [if_pos q,if_pos q];exact ry
   . rw [if_neg q,if_neg q];exact r g
 . by_cases q:g=f
   . rw [q];exact (zkh f y fs).1
   . refine (zkh f y fs).2 g (wi g fun z=>hg ?_)
     show (if g=f then some u else mA g)=none
     rw [if_neg q];exact z
theorem Inv.made (I:Inv X pins σ H s):Inv X pins σ (upd (upd H s.heap.objs.size (.own (s.heap.objs.size+1))) (s.heap.objs.size+1) (.ins C s.heap.objs.size []))
   { s with heap:=(s.heap.push PySem.W.emptyDict).push (PySem.W.instObj C s.heap.objs.size) }:=by
 have e1:(s.heap.push PySem.W.emptyDict).get? s.heap.objs.size=some PySem.W.emptyDict:=Heap.get?_push_size s.heap rfl
 have e2:((s.heap.push PySem.W.emptyDict).push (PySem.W.instObj C s.heap.objs.size)).get? (s.heap.objs.size+1)=some (PySem.W.instObj C s.heap.objs.size):=by
   have:=Heap.get?_push_size (s.heap.push PySem.W.emptyDict) (o:=PySem.W.instObj C s.heap.objs.size) rfl
   rwa [Heap.size_push]at this
 have e3:(s.heap.push PySem.W.emptyDict).Ns s.heap.objs.size (fun _=>none):=⟨PySem.W.emptyDict,#[],_,e1,rfl,(fun e he=>absurd he ς),fun _=>rfl⟩
 have I1:=I.laid (a:=s.heap.objs.size) (o := .own (s.heap.objs.size+1)) (h':=s.heap.push PySem.W.emptyDict) (t':=s.toks) (fun b u q=>Heap.get?_push_of_some _ q) (Nat.le_refl _) ⟨_,e1⟩
 refine I1.laid (a:=s.heap.objs.size+1) (o := .ins C s.heap.objs.size []) (t':=s.toks) (fun b u q=>Heap.get?_push_of_some _ q) (Nat.le_of_eq (Heap.size_push _ _)) ?_
 have ne:s.heap.objs.size≠s.heap.objs.size+1:=Nat.ne_of_lt (Nat.lt_succ_self _)
 refine ⟨by rw [zU ne,zb4],Nat.zero_le _,ne,e2,fun _=>none,(Heap.Ns1.of_empty e3).at fun o q=>Heap.get?_push_of_some _ q,fun _=>True.intro,fun y hy=>absurd rfl hy⟩
theorem zrO {prog:Program}{w:World}{env:Env}{e:Expr}{f:Str}{pos:Pos}{s:Shared}{Q:Value->Shared->Prop} (hb:attributeBase e f env (eval e env)=eval e env)
   (h:wpAny (model prog w) A (eval e env) (fun o s₁=>wpAny (model prog w) A (getAttr o f true) Q E s₁) E s):wpAny (model prog w) A (eval (.Attribute e f pos) env) Q E s :=
 Attribute_any_ h (by rw [arm_eval_Attribute,hb])
end
noncomputable def zr7 (K:PySem.W.Frag) (ta:TE) (f:Str):TE:=fun σ H Q=>ta σ H fun x H1=>∃ a C dx fs v,x = .ref a∧H1 a=some (.ins C dx fs)∧Cls K C∧zbB K C f∧fs.lookup f=some v∧Q v H1
noncomputable def zsy (K:PySem.W.Frag) (ta tv:TE) (f:Str):TS:=fun D σ H=>tv σ H fun y H1=>ta σ H1 fun x H2=>∃ a C dx fs,x = .ref a∧H2 a=some (.ins C dx fs)∧Cls K C∧zbB K C f∧fs.length < 1000 ∧
 D.nx σ (upd H2 a (.ins C dx (zb3 f y fs)))
section
variable {X:Cx}{o e value:Expr}{f:Str}{pos pos' tpos:Pos}{ta tv:TE}
theorem zrR (he:PE X e ta) (hb:attributeBase e f X.env (eval e X.env)=eval e X.env):PE X (.Attribute e f pos) (zr7 X.K ta f):=by
 intro pins s σ H Q I h
 refine zrO hb (thn (he pins s σ H _ I h) fun u s1 ⟨x,H1,I1,rx,a,C,dx,fs,v,ex,ea,c,n,l,q⟩=>?_)
 subst ex
 obtain rfl:u=Value.ref a:=rx
 exact zrw I1 ea c n l fun u' s2 I2 ru=>⟨v,H1,I2,ru,q⟩
theorem ztI (ha:PE X o ta) (hv:PE X value tv) (hs:swapsWith value (some (.Attribute o f pos')) pos.line X.env=pure false):PS X (.Assign [.Attribute o f pos'] value pos) (zsy X.K ta tv f):=by
 intro pins s σ H D I h
 refine plainObj_wpAny_Assign_Attribute (thn (hv pins s σ H _ I h) fun u s1 ⟨y,H1,I1,ry,q⟩=>thn (ha pins s1 σ H1 _ I1 q) fun ov s2 ⟨x,H2,I2,rx,a,C,dx,fs,ex,ea,c,n,l,q2⟩=>?_) hs
 subst ex
 obtain rfl:ov=Value.ref a:=rx
 exact zvF I2 ea c n l ry fun s3 I3=>⟨σ,_,I3,q2⟩
theorem zxL {pl:Sem Bool}{m:Str}{apos:Pos}{args:List Expr}{pins:List (Addr×Obj)}{s:Shared}{σ:St}{H:Hp}{Q:Value->Shared->Prop}{te:TE} (he:PE X e te) (I:Inv X pins σ H s)
   (h:te σ H fun x H1=>∃ a C dx fs g,x = .ref a∧H1 a=some (.ins C dx fs)∧Cls X.K C∧zdR X.K C m g∧fs.lookup m=none ∧
     ∀ s1,Inv X pins σ H1 s1->wpAny (model X.prog X.w) X.A (callWith pos (.ref g) [.ref a] (backTo pos (starEach args X.env)) (backToKw pos (keywordEach [] X.env))) Q X.xe s1)
   (ht:eval (.Call (.Attribute e m apos) args [] pos) X.env=(do
     let ov <- eval e X.env
     standAt apos.atName
     let (f,first) <- holding [ov] (getMethod ov m pl)
     callWith pos f first (backTo pos (starEach args X.env)) (backToKw pos (keywordEach [] X.env)))) :
   wpAny (model X.prog X.w) X.A (eval (.Call (.Attribute e m apos) args [] pos) X.env) Q X.xe s:=by
 refine PySem.W.methodCall_KW (pl:=pl) (thn (he pins s σ H _ I h) fun u s1 ⟨x,H1,I1,rx,a,C,dx,fs,g,ex,ea,c,k,l,q⟩=>?_) ht
 subst ex
 obtain rfl:u=Value.ref a:=rx
 exact zkx I1 ea c k l (q s1 I1)
end
section
variable {X:Cx}{pins:List (Addr×Obj)}{σ:St}{H:Hp}{s:Shared}{A:Around}{E:Value->Shared->Prop}{Q:Value->Shared->Prop}{c:Value}{b:Bool}
inductive zc5 (K:PySem.W.Frag) (H:Hp):V->Value->Prop where
 | non:zc5 K H .non (.type "NoneType")
 | bl (x:Bool):zc5 K H (.bl x) (.type "bool")
 | int (i:Int):zc5 K H (.int i) (.type "int")
 | str (x:Str):zc5 K H (.str x) (.type "str")
 | flt (x:UInt64):zc5 K H (.flt x) (.type "float")
 | lst {a:Addr} {xs:List V} (e:H a=some (.lst xs)):zc5 K H (.ref a) (.type "list")
 | frz {a:Addr} {o:Obj} {xs:List V} (e:H a=some (.frz o (.lst xs))):zc5 K H (.ref a) (.type "list")
 | tup {a:Addr} {xs:List V} (e:H a=some (.tup xs)):zc5 K H (.ref a) (.type "tuple")
 | dK {a:Addr} {kvs:List (Key×V)} (e:H a=some (.dK kvs)):zc5 K H (.ref a) (.type "dict")
 | dT {a:Addr} {kvs:List (List Key×V)} (e:H a=some (.dT kvs)):zc5 K H (.ref a) (.type "dict")
 | ins {a C dx:Addr} {fs:List (Str×V)} (e:H a=some (.ins C dx fs)) (cl:Cls K C) (ha:PySem.W.findIn K (.ref C) "__class__" = some (some (.builtin "object.__class__")))
     (hn:PySem.W.specialIn K (.builtin "object.__class__") "__get__" = some (some (.builtin "getset_descriptor.__get__"))) (htk:PySem.W.takesIn K (.builtin "object.__class__")=some true)
     (hm:PySem.W.mroIn K C (.type "object")=some true):zc5 K H (.ref a) (.ref C)
theorem znp {x:V}{u t:Value} (I:Inv X pins σ H s) (rx:zo x u) (ty:zc5 X.K H x t) (e:PySem.W.kitOne X.K t c=some b) (h:∀ tk,Q (.bool b) { s with toks:=tk }) :
   wpAny (model X.prog X.w) A (call (.builtin "isinstance") [u,c]) Q E s:=by
 cases ty with
 | non=>cases (show u=Value.none from rx);exact PySem.W.kia_one PySem.W.kitx_none I.kIn True.intro e (fun z=>nomatch z) h
 | bl y=>cases (show u=Value.bool y from rx);exact PySem.W.kia_one PySem.W.kitx_bool I.kIn True.intro e (fun z=>nomatch z) h
 | int i=>obtain ⟨t,q⟩:=(show ∃ t,u=Value.int i t from rx);cases q;exact PySem.W.kia_one PySem.W.kitx_int I.kIn True.intro e (fun z=>nomatch z) h
 | str y=>obtain ⟨t,q⟩:=(show ∃ t,u=Value.str y t from rx);cases q;exact PySem.W.kia_one PySem.W.kitx_str I.kIn True.intro e (fun z=>nomatch z) h
 | flt y=>obtain ⟨t,q⟩:=(show ∃ t,u=Value.float y t from rx);cases q;exact PySem.W.kia_one PySem.W.kitx_float I.kIn True.intro e (fun z=>nomatch z) h
 | @lst a xs ea =>
   cases (show u=Value.ref a from rx)
   obtain ⟨_,_,n,_,h1⟩:=(show zbp X.prog X.w H s.heap a (.lst xs) from I.hok a _ ea)
   exact PySem.W.kia_one PySem.W.kitx_list I.kIn ⟨_,h1,rfl⟩ e (fun z=>nomatch z) h
 | @frz a ob xs ea =>
   cases (show u=Value.ref a from rx)
   obtain ⟨_,_,_,n,_,h1⟩:=(show zbp X.prog X.w H s.heap a (.frz ob (.lst xs)) from I.hok a _ ea)
   exact PySem.W.kia_one PySem.W.kitx_list I.kIn ⟨_,h1,rfl⟩ e (fun z=>nomatch z) h
 | @tup a xs ea =>
   cases (show u=Value.ref a from rx)
   obtain ⟨_,_,_,p⟩:=(show zbp X.prog X.w H s.heap a (.tup xs) from I.hok a _ ea)
   obtain ⟨o,h1,h2,_⟩:=p
   exact PySem.W.kia_one PySem.W.kitx_tuple I.kIn ⟨o,h1,h2⟩ e (fun z=>nomatch z) h
 | @dK a kvs ea =>
   cases (show u=Value.ref a from rx)
   obtain ⟨_,_,vs,_,p⟩:=(show zbp X.prog X.w H s.heap a (.dK kvs) from I.hok a _ ea)
   obtain ⟨o,es,ep,h1,h2,_⟩:=p
   exact PySem.W.kia_one PySem.W.kitx_dict I.kIn ⟨o,h1,h2.1⟩ e (fun z=>nomatch z) h
 | @dT a kvs ea =>
   cases (show u=Value.ref a from rx)
   obtain ⟨_,_,xs,_,o,es,ep,h1,h2,_⟩:=(show zbp X.prog X.w H s.heap a (.dT kvs) from I.hok a _ ea)
   exact PySem.W.kia_one PySem.W.kitx_dict I.kIn ⟨o,h1,h2.1⟩ e (fun z=>nomatch z) h
 | @ins a C dx fs ea cl ha hn htk hm =>
   cases (show u=Value.ref a from rx)
   obtain ⟨mA,O,_⟩:=zim I.hok ea
   obtain ⟨od,J,_⟩:=O.look
   exact PySem.W.kia_one (PySem.W.kitx_own (cl.get _) cl.hd ha hn htk hm) I.kIn J e (fun z=>nomatch z) h
end
end L2
namespace L2
open PySem PySem.Spec PyProof.Rows
structure zL (k:Nat) (A:Around):Prop where
 hd:A.handled=none
 dp:A.depth+3 * k+5 < recursionLimit
 un:A.units+16 * k+200 < cLine
theorem zL.mono {j k:Nat}{A:Around} (r:zL k A) (h:j<=k):zL j A:=⟨r.hd,by have:=r.dp;omega,by have:=r.un;omega⟩
theorem zL.deeper {k:Nat}{A:Around} (r:zL (k+1) A) (env:Env):zL k (A.deeper env) :=
 ⟨r.hd,by have:=r.dp;show A.depth+1+3 * k+5 < _;omega,by have:=r.un;show A.units+3+16 * k+200 < _;omega⟩
theorem zwr {A:Around}{C:Addr}{us:List Value}{kw:List (Str×Value)}:(A.under (.builtin "type.__call__" ⟨.ref C :: us,kw⟩)).depth=A.depth+1:=by
 first | rfl | simp [Around.under,Code.weight,Code.isCreation,Code.isGuard,Code.isCaller,Code.frames,Code.isFrame,guardIds]
theorem zsb {A:Around}{C:Addr}{us:List Value}{kw:List (Str×Value)}:(A.under (.builtin "type.__call__" ⟨.ref C :: us,kw⟩)).units=A.units+1:=by
 first | rfl | simp [Around.under,Code.cUnits,Code.frames,Code.isFrame]
theorem zL.make {k:Nat}{A:Around} (r:zL (k+1) A) (C:Addr) (us:List Value) (kw:List (Str×Value)):zL k (A.under (.builtin "type.__call__" ⟨.ref C :: us,kw⟩)) :=
 ⟨r.hd,by have:=r.dp;rw [zwr];omega,by have:=r.un;rw [zsb];omega⟩
theorem zL.depth {k:Nat}{A:Around} (r:zL k A):A.depth < recursionLimit:=by have:=r.dp;omega
theorem zL.units {k:Nat}{A:Around} (r:zL k A):A.units+64 < cLine:=by have:=r.un;omega
noncomputable def zkl:TA:=fun _ H Q=>Q [] H
noncomputable def znq (ta:TE) (tr:TA):TA:=fun σ H Q=>ta σ H fun x H1=>tr σ H1 fun xs H2=>Q (x :: xs) H2
section
variable {X:Cx}{e:Expr}{es:List Expr}{te:TE}{t:TA}{pos:Pos}
theorem zcu:PA X [] zkl:=fun _ _ _ _ H Q I h=>Calls.spliced_nil ⟨[],H,I,.nil,h⟩
theorem zcd (ha:PE X e te) (hr:PA X es t) (hs:starEach (e :: es) X.env=(false,eval e X.env) :: starEach es X.env:=by rfl):PA X (e :: es) (znq te t):=by
 intro pos pins s σ H Q I h
 rw [hs]
 show wpAny _ _ (spliced ((false,eval e X.env) :: backTo pos (starEach es X.env))) _ _ s
 refine Calls.spliced_cons (thn (ha pins s σ H _ I h) fun u s1 ⟨x,H1,I1,r1,q1⟩=>?_)
 exact thn (hr pos pins s1 σ H1 _ I1 q1) fun us s2 ⟨xs,H2,I2,r2,q2⟩=>⟨x :: xs,H2,I2,.cons r1 r2,q2⟩
noncomputable def ztk (t:TA):TE:=fun σ H Q=>t σ H fun xs H1=>xs.length<=sizeLine∧∀ p,H1 p=none->Q (.ref p) (upd H1 p (.tup xs))
noncomputable def ztd (t:TA):TE:=fun σ H Q=>t σ H fun xs H1=>xs.length<=sizeLine∧∀ p,H1 p=none->Q (.ref p) (upd H1 p (.lst xs))
theorem ztQ {x1} (h:PA X es t):PE X (.Tuple es x1 pos) (ztk t):=by
 intro pins s σ H Q I hq
 refine wpAny_Tuple_spliced (thn (h pos pins s σ H _ I hq) fun us s1 ⟨xs,H1,I1,r,z,q⟩=>⟨by rw [<- r.length];exact z,?_⟩)
 have hf:H1 s1.heap.objs.size=none:=I1.hok.fresh (Nat.le_refl _)
 refine ⟨.ref s1.heap.objs.size,upd H1 s1.heap.objs.size (.tup xs),I1.laid (t':=s1.toks) (fun b u e=>Heap.get?_push_of_some _ e) (Nat.le_refl _) ?_,rfl,q _ hf⟩
 exact ⟨z,us,r,⟨_,Heap.get?_push_size _ rfl,rfl,_,rfl⟩⟩
theorem zuE (h:PA X es t):PE X (.List es pos) (ztd t):=by
 intro pins s σ H Q I hq
 refine wpAny_List_spliced (thn (h pos pins s σ H _ I hq) fun us s1 ⟨xs,H1,I1,r,z,q⟩=>⟨by rw [<- r.length];exact z,?_⟩)
 have hf:H1 s1.heap.objs.size=none:=I1.hok.fresh (Nat.le_refl _)
 refine ⟨.ref s1.heap.objs.size,upd H1 s1.heap.objs.size (.lst xs),I1.laid (t':=s1.toks) (fun b u e=>Heap.get?_push_of_some _ e) (Nat.le_refl _) ?_,rfl,q _ hf⟩
 exact ⟨z,us,0,r,Heap.get?_push_size _ rfl⟩
end
noncomputable abbrev Sp:=List V->Hp->VK->XK->Prop
noncomputable abbrev CXT:=List Env->Hp->Shared->XK->Value->Shared->Prop
structure zfE (P:Program) (w:World) (K:PySem.W.Frag) (mg:Str->Option Value) (base:Heap) (A:Around) (outer:List Env) (s:Shared) (H:Hp):Prop where
 frames:A.frames=some outer
 mod:Mod K mg base
 bs:∀ b o,base.get? b=some o->s.heap.get? b=some o∧H b=none
 bsz:base.objs.size<=s.heap.objs.size
 funs:s.heap.FunFrames base outer
 frf:∀ b∈frs outer,H b=none
 hok:HOk P w H s.heap
 bare:AllBare s.gens
noncomputable def CE (outer:List Env) (P:Program) (w:World) (H:Hp) (s:Shared) (Q:VK) (u:Value) (s':Shared):Prop :=
 ∃ v H',s'.os=s.os∧AllBare s'.gens∧Un (frs outer) [] H H' s.heap s'.heap∧HOk P w H' s'.heap∧zo v u∧Q v H'
noncomputable def CR (CX:CXT) (outer:List Env) (P:Program) (w:World) (H:Hp) (s:Shared) (Q:VK) (E:XK) (r:Result) (s':Shared):Prop :=
 match r with
 | .ok (.ret u)=>CE outer P w H s Q u s'
 | .ok _=>False
 | .error e=>CX outer H s E e s'
structure zF (P:Program) (w:World) (K:PySem.W.Frag) (mg:Str->Option Value) (base:Heap) (CX:CXT) (k:Nat) (f:Addr) (fd:FuncData) (ps:List Str) (sp:Sp):Prop where
 len:∀ vs H Q E,sp vs H Q E->vs.length=ps.length
 run:∀ (A:Around) (outer:List Env) (s:Shared) (H:Hp) (args:Args) (us:List Value) (vs:List V) (Q:VK) (E:XK),zL k A->zfE P w K mg base A outer s H->BindsTo s fd args (ps.zip us)->zt vs us->sp vs H Q E ->
   codeAny (model P w) A (.call (.ref f) args) (CR CX outer P w H s Q E) s
theorem zF.imp {P:Program}{w:World}{K:PySem.W.Frag}{mg:Str->Option Value}{base:Heap}{CX:CXT}{k:Nat}{f:Addr}{fd:FuncData}{ps:List Str}{sp sp':Sp} (F:zF P w K mg base CX k f fd ps sp)
   (h:∀ vs H Q E,sp' vs H Q E->sp vs H Q E):zF P w K mg base CX k f fd ps sp' :=
 ⟨fun vs H Q E q=>F.len vs H Q E (h _ _ _ _ q),fun A outer s H args us vs Q E hr he hb hv hs=>F.run A outer s H args us vs Q E hr he hb hv (h _ _ _ _ hs)⟩
theorem zfE.make {P:Program}{w:World}{K:PySem.W.Frag}{mg:Str->Option Value}{base:Heap}{A:Around}{outer:List Env}{s:Shared}{H:Hp} (e:zfE P w K mg base A outer s H) (C:Addr) (us:List Value) (kw:List (Str×Value)) :
   zfE P w K mg base (A.under (.builtin "type.__call__" ⟨.ref C :: us,kw⟩)) outer s H:=⟨by first | exact e.frames | (simpa [Around.under,Code.envs,Code.isFrame,pushEnvs] using e.frames),e.mod,e.bs,e.bsz,e.funs,e.frf,e.hok,e.bare⟩
section
variable {X:Cx}{pins:List (Addr×Obj)}{σ:St}{H:Hp}{s s':Shared}
theorem Inv.env0 (I:Inv X pins σ H s):zfE X.prog X.w X.K X.mg X.base X.A X.stack s H :=
 ⟨I.ok.frames,I.ok.mod,I.bs,Nat.le_trans I.ok.bsz I.sz,I.stack,I.stkFree,I.hok,I.bare⟩
theorem Inv.after {Q:VK}{u:Value} (I:Inv X pins σ H s) (h:CE X.stack X.prog X.w H s Q u s'):EP X pins σ Q u s':=by
 obtain ⟨v,H',os,bare,un,hok,r,q⟩:=h
 obtain ⟨hh,g,d,t,os'⟩:=s'
 obtain rfl:os'=s.os:=os
 exact ⟨v,H',I.call (h':=hh) (g':=g) (d':=d) (t':=t) (ch:=[]) un hok bare (fun b z=>absurd z ς),r,q⟩
end
noncomputable def zww (sp:Sp) (dvs:List V) (E:XK) (t:TA):TE:=fun σ H Q=>t σ H fun vs H1=>sp (vs++dvs) H1 Q E
noncomputable def zjQ (C:Addr) (m:Str) (sp:Sp) (dvs:List V) (E:XK) (ta:TE) (t:TA):TE:=fun σ H Q=>ta σ H fun x H1=>∃ a dx fs,x = .ref a∧H1 a=some (.ins C dx fs)∧fs.lookup m=none ∧
 t σ H1 fun vs H2=>sp (x :: (vs++dvs)) H2 Q E
noncomputable def zvx (C:Addr) (sp:Sp) (dvs:List V) (E:XK) (t:TA):TE:=fun σ H Q=>t σ H fun vs H1=>∀ x dx,H1 x=none->H1 dx=none->dx≠x ->
 sp (.ref x :: (vs++dvs)) (upd (upd H1 dx (.own x)) x (.ins C dx [])) (fun v H2=>v = .non∧Q (.ref x) H2) E
noncomputable def zc4 (K:PySem.W.Frag) (fd:FuncData) (ps:List Str) (ds:List Value):Prop :=
 ∀ (s:Shared) (us:List Value),K.In s.heap->(us++ds).length=ps.length->BindsTo s fd ⟨us,[]⟩ (ps.zip (us++ds))
theorem zc4.all {K:PySem.W.Frag}{fd:FuncData}{ps:List Str} (h:∀ us:List Value,us.length=ps.length->bindArgs fd ⟨us,[]⟩=pure (ps.zip us)):zc4 K fd ps []:=fun s us _ hl=>by
 rw [List.append_nil]at hl ⊢
 exact .of_eq (h us hl)
noncomputable def zfJ (CX:CXT) (X:Cx) (E:XK):Prop:=∀ (pins:List (Addr×Obj)) (σ:St) (H:Hp) (s:Shared) (e:Value) (s':Shared),Inv X pins σ H s->CX X.stack H s E e s'->X.xe e s'
section
variable {X:Cx}{CX:CXT}{k:Nat}{f C:Addr}{fd:FuncData}{ps:List Str}{sp:Sp}{dvs:List V}{ds:List Value}{E:XK}{x m:Str}{p pos apos:Pos}{e o:Expr}{es:List Expr}{ta:TE}{t:TA}
theorem zj7 {pins:List (Addr×Obj)}{σ:St}{H:Hp}{s:Shared}{Q:VK}{us:List Value}{vs:List V} (F:zF X.prog X.w X.K X.mg X.base CX k f fd ps sp) (hr:zL k X.A) (hb:zc4 X.K fd ps ds) (hd:zt dvs ds) (hx:zfJ CX X E)
   (I:Inv X pins σ H s) (r:zt vs us) (h:sp (vs++dvs) H Q E):wpAny (model X.prog X.w) X.A (call (.ref f) us) (EP X pins σ Q) X.xe s:=by
 have r2:zt (vs++dvs) (us++ds):=r.append hd
 have hl:(us++ds).length=ps.length:=by rw [<- r2.length];exact F.len _ _ _ _ h
 refine wpAny_call (codeAny_mono (F.run X.A X.stack s H ⟨us,[]⟩ (us++ds) (vs++dvs) Q E hr I.env0 (hb s us I.kIn hl) r2 h) fun r s' hq=>?_)
 cases r with
 | error e=>exact hx pins σ H s e s' I hq
 | ok fl =>
   cases fl with
   | ret u=>exact I.after hq
   | next=>exact False.elim hq
   | brk=>exact False.elim hq
   | cont=>exact False.elim hq
theorem zui (F:zF X.prog X.w X.K X.mg X.base CX k f fd ps sp) (hr:zL k X.A) (hg:Gl X x) (hm:X.mg x=some (.ref f)) (hk:PySem.W.keepIn X.K (.ref f)=true) (hb:zc4 X.K fd ps ds) (hd:zt dvs ds) (hx:zfJ CX X E)
   (ha:PA X (e :: es) t) (hdb:(x == ("__debug__":Str))=false:=by decide) (he:starEach (e :: es) X.env=(false,eval e X.env) :: starEach es X.env:=by rfl) (hpl:(backTo pos (starEach es X.env)).any (·.1)=false:=by rfl) :
   PE X (.Call (.Name x p) (e :: es) [] pos) (zww sp dvs E t):=by
 intro pins s σ H Q I h
 refine wpAny_Call_Name_kw (zjI I hg hm ?_ hdb)
 refine PySem.W.callWith_K (h₀:=X.base) I.ok.mod.kin hk (thn (ha pos pins s σ H _ I h) fun us s1 ⟨vs,H1,I1,r,q⟩=>⟨I1.kIn,?_⟩) he hpl
 exact zj7 F hr hb hd hx I1 r q
theorem zsp {pl:Sem Bool} (he:PE X o ta) (c:Cls X.K C) (hm:zdR X.K C m f) (F:zF X.prog X.w X.K X.mg X.base CX k f fd ps sp) (hr:zL k X.A) (hb:zc4 X.K fd ps ds) (hd:zt dvs ds) (hx:zfJ CX X E) (ha:PA X (e :: es) t)
   (hst:starEach (e :: es) X.env=(false,eval e X.env) :: starEach es X.env:=by rfl) (hpl:(backTo pos (starEach es X.env)).any (·.1)=false:=by rfl)
   (ht:eval (.Call (.Attribute o m apos) (e :: es) [] pos) X.env=(do
     let ov <- eval o X.env
     standAt apos.atName
     let (f,first) <- holding [ov] (getMethod ov m pl)
     callWith pos f first (backTo pos (starEach (e :: es) X.env)) (backToKw pos (keywordEach [] X.env))):=by rfl) :
   PE X (.Call (.Attribute o m apos) (e :: es) [] pos) (zjQ C m sp dvs E ta t):=by
 intro pins s σ H Q I h
 refine PySem.W.methodCall_KW (pl:=pl) (thn (he pins s σ H _ I h) fun u s1 ⟨x,H1,I1,rx,a,dx,fs,ex,ea,l,q⟩=>?_) ht
 subst ex
 obtain rfl:u=Value.ref a:=rx
 refine zkx I1 ea c hm l ?_
 refine PySem.W.callWith_K (first:=[.ref a]) (h₀:=X.base) I.ok.mod.kin hm.kp (thn (ha pos pins s1 σ H1 _ I1 q) fun us s2 ⟨vs,H2,I2,r,q2⟩=>⟨I2.kIn,?_⟩) hst hpl
 exact zj7 (us := .ref a :: us) (vs := .ref a :: vs) F hr hb hd hx I2 (.cons rfl r) q2
theorem ztG {pl:Sem Bool} (he:PE X o ta) (c:Cls X.K C) (hm:zdR X.K C m f) (F:zF X.prog X.w X.K X.mg X.base CX k f fd ps sp) (hr:zL k X.A) (hb:zc4 X.K fd ps ds) (hd:zt dvs ds) (hx:zfJ CX X E)
   (ht:eval (.Call (.Attribute o m apos) [] [] pos) X.env=(do
     let ov <- eval o X.env
     standAt apos.atName
     let (f,first) <- holding [ov] (getMethod ov m pl)
     callWith pos f first (backTo pos (starEach [] X.env)) (backToKw pos (keywordEach [] X.env))):=by rfl) :
   PE X (.Call (.Attribute o m apos) [] [] pos) (zjQ C m sp dvs E ta zkl):=by
 intro pins s σ H Q I h
 refine PySem.W.methodCall_KW (pl:=pl) (thn (he pins s σ H _ I h) fun u s1 ⟨x,H1,I1,rx,a,dx,fs,ex,ea,l,q⟩=>?_) ht
 subst ex
 obtain rfl:u=Value.ref a:=rx
 refine zkx I1 ea c hm l ?_
 exact PySem.W.callWith_K0 (first:=[.ref a]) I1.kIn hm.kp (zj7 (us:=[.ref a]) (vs:=[.ref a]) F hr hb hd hx I1 (.cons rfl .nil) q)
structure Mk (K:PySem.W.Frag) (C f:Addr):Prop where
 makes:PySem.W.makesIn K C=true
 init:PySem.W.findIn K (.ref C) "__init__" = some (some (.ref f))
 fn:PySem.W.isFn K (.ref f)=true
 kp:PySem.W.keepIn K (.ref C)=true
theorem ztY {pins:List (Addr×Obj)}{σ:St}{H:Hp}{s:Shared}{Q:VK}{us:List Value}{vs:List V} (M:Mk X.K C f) (F:zF X.prog X.w X.K X.mg X.base CX k f fd ps sp) (hr:zL (k+1) X.A) (hb:zc4 X.K fd ps ds) (hd:zt dvs ds)
   (hx:zfJ CX X E) (I:Inv X pins σ H s) (r:zt vs us)
   (h:∀ x dx,H x=none->H dx=none->dx≠x->sp (.ref x :: (vs++dvs)) (upd (upd H dx (.own x)) x (.ins C dx [])) (fun v H2=>v = .non∧Q (.ref x) H2) E) :
   wpAny (model X.prog X.w) X.A (call (.ref C) us) (EP X pins σ Q) X.xe s:=by
 have hq:=h (s.heap.objs.size+1) s.heap.objs.size (I.hok.fresh (Nat.le_succ _)) (I.hok.fresh (Nat.le_refl _)) (Nat.ne_of_lt (Nat.lt_succ_self _))
 have I2:=Inv.made (C:=C) I
 have r2:zt (V.ref (s.heap.objs.size+1) :: (vs++dvs)) (Value.ref (s.heap.objs.size+1) :: (us++ds)) := .cons rfl (r.append hd)
 have hl:(Value.ref (s.heap.objs.size+1) :: us++ds).length=ps.length:=by
   have e:=r2.length
   rw [F.len _ _ _ _ hq]at e
   exact e.symm
 refine wpAny_call (ztX (f:=f) I.kIn M.makes M.init (beq_iff_eq.mp M.fn) (codeAny_mono (F.run _ X.stack _ _ ⟨Value.ref (s.heap.objs.size+1) :: us,[]⟩ (Value.ref (s.heap.objs.size+1) :: (us++ds)) _ _ E (hr.make C us [])
   (I2.env0.make C us []) (hb _ (Value.ref (s.heap.objs.size+1) :: us) I2.kIn hl) r2 hq) fun r s' hq'=>?_))
 cases r with
 | error e=>exact hx pins σ _ _ e s' I2 hq'
 | ok fl =>
   cases fl with
   | ret u =>
     obtain ⟨v,H',I3,rv,ev,q3⟩:=I2.after hq'
     subst ev
     exact ⟨rv,⟨V.ref (s.heap.objs.size+1),H',I3,rfl,q3⟩⟩
   | next=>exact False.elim hq'
   | brk=>exact False.elim hq'
   | cont=>exact False.elim hq'
theorem zs4 (M:Mk X.K C f) (F:zF X.prog X.w X.K X.mg X.base CX k f fd ps sp) (hr:zL (k+1) X.A) (hg:Gl X x) (hm:X.mg x=some (.ref C)) (hb:zc4 X.K fd ps ds) (hd:zt dvs ds) (hx:zfJ CX X E)
   (ha:PA X (e :: es) t) (hdb:(x == ("__debug__":Str))=false:=by decide) (he:starEach (e :: es) X.env=(false,eval e X.env) :: starEach es X.env:=by rfl) (hpl:(backTo pos (starEach es X.env)).any (·.1)=false:=by rfl) :
   PE X (.Call (.Name x p) (e :: es) [] pos) (zvx C sp dvs E t):=by
 intro pins s σ H Q I h
 refine wpAny_Call_Name_kw (zjI I hg hm ?_ hdb)
 refine PySem.W.callWith_K (h₀:=X.base) I.ok.mod.kin M.kp (thn (ha pos pins s σ H _ I h) fun us s1 ⟨vs,H1,I1,r,q⟩=>⟨I1.kIn,?_⟩) he hpl
 exact ztY M F hr hb hd hx I1 r q
end
section
variable {X:Cx}{CX:CXT}{k:Nat}{f C:Addr}{fd:FuncData}{ps ks:List Str}{sp:Sp}{E:XK}{x m:Str}{p pos apos kpos:Pos}{e o:Expr}{es:List Expr}{kws:List Keyword}{te ta:TE}{t tk:TA}{nm:Option Str}
variable {g:List Value->List Value->List Value}{gV:List V->List V->List V}
end
structure zQ (N P:List Str) (sc:Scope):Prop where
 kind:sc.kind = .function
 co:sc.isCoroutine=false
 gen:sc.isGenerator=false
 nd:N.Nodup
 pre:N.take P.length=P
 par:∀ x∈P,sc.names.lookup x=some .local∨sc.names.lookup x=some .cell
 nofree:∀ y∈sc.names,y.2 ≠ .free
theorem zm5 {kindOf:Str->Option NameKind}{x:Str}:∀ {binds:List (Str×Value)}{m:Str->Option Value},(∀ v,(x,v)∉binds)->bindL kindOf binds m x=m x
 | [],_,_=>rfl
 | (n,v) :: r,m,h=>by
   unfold bindL
   rw [zm5 fun w hw=>h w (List.mem_cons_of_mem _ hw)]
   split
   . have:x≠n:=by rintro rfl;exact h v List.mem_cons_self
     simp [this]
   . rfl
theorem zlh {kindOf:Str->Option NameKind}{x:Str}:∀ {binds:List (Str×Value)}{m:Str->Option Value},(∀ v,(x,v)∉binds)->bindC kindOf binds m x=m x
 | [],_,_=>rfl
 | (n,v) :: r,m,h=>by
   unfold bindC
   rw [zlh fun w hw=>h w (List.mem_cons_of_mem _ hw)]
   split
   . rfl
   . have:x≠n:=by rintro rfl;exact h v List.mem_cons_self
     simp [this]
theorem znb {kindOf:Str->Option NameKind}{x:Str}{v:Value}:∀ {P:List Str}{vs:List Value}{i:Nat}{m:Str->Option Value},P.Nodup->P[i]?=some x->vs[i]?=some v->kindOf x=some .local ->
   bindL kindOf (P.zip vs) m x=some v
 | [],_,_,_,_,h,_,_=>by simp at h
 | _ :: _,[],_,_,_,_,h,_=>by simp at h
 | p :: P,w :: vs,0,m,nd,h1,h2,hk=>by
   simp at h1 h2;subst h1;subst h2
   show bindL kindOf ((p,w) :: P.zip vs) m p=_
   unfold bindL
   rw [zm5 fun v hv=>(List.nodup_cons.mp nd).1 (List.of_mem_zip hv).1,if_pos hk]
   simp
 | p :: P,w :: vs,i+1,m,nd,h1,h2,hk=>by
   show bindL kindOf ((p,w) :: P.zip vs) m x=_
   unfold bindL
   exact znb (i:=i) (List.nodup_cons.mp nd).2 (by simpa using h1) (by simpa using h2) hk
theorem zlY {kindOf:Str->Option NameKind}{x:Str}{v:Value}:∀ {P:List Str}{vs:List Value}{i:Nat}{m:Str->Option Value},P.Nodup->P[i]?=some x->vs[i]?=some v->kindOf x≠some .local ->
   bindC kindOf (P.zip vs) m x=some v
 | [],_,_,_,_,h,_,_=>by simp at h
 | _ :: _,[],_,_,_,_,h,_=>by simp at h
 | p :: P,w :: vs,0,m,nd,h1,h2,hk=>by
   simp at h1 h2;subst h1;subst h2
   show bindC kindOf ((p,w) :: P.zip vs) m p=_
   unfold bindC
   rw [zlh fun v hv=>(List.nodup_cons.mp nd).1 (List.of_mem_zip hv).1,if_neg hk]
   simp
 | p :: P,w :: vs,i+1,m,nd,h1,h2,hk=>by
   show bindC kindOf ((p,w) :: P.zip vs) m x=_
   unfold bindC
   exact zlY (i:=i) (List.nodup_cons.mp nd).2 (by simpa using h1) (by simpa using h2) hk
noncomputable def start (N:List Str) (vs:List V):St:=vs.map some++List.replicate (N.length - vs.length) none
noncomputable def zfH (CX:CXT) (P:Program) (w:World) (K:PySem.W.Frag) (mg:Str->Option Value) (base:Heap) (N:List Str) (qual:Str) (scope:Scope) (f:Addr) (cd:Value) (A:Around) (outer:List Env) (s:Shared) (H:Hp) (E:XK):Cx where
 prog:=P
 w:=w
 K:=K
 mg:=mg
 base:=base
 A:=A.deeper (envOfC qual scope s.heap.objs.size f cd)
 N:=N
 s₀:=s
 H₀:=H
 env:=envOfC qual scope s.heap.objs.size f cd
 outer:=outer
 stack:=envOfC qual scope s.heap.objs.size f cd :: outer
 ex:=[]
 calm:=true
 fn:=fun _=>true
 pn:=[]
 xe:=fun e s'=>wpAny (model P w) (A.deeper (envOfC qual scope s.heap.objs.size f cd)) (leaving (envOfC qual scope s.heap.objs.size f cd) e) (fun _ s''=>CX outer H s E e s'') (fun e' s''=>CX outer H s E e' s'') s'
theorem zlC {sc:Scope}{n:Nat}{x:Str} (h:sc.names.lookup x=some .cell):∃ c,(cellsFrom n sc.names []).lookup x=some c:=by
 have q:=PySem.W.cellsFrom_some sc.names n [] (.inl h)
 exact Option.isSome_iff_exists.mp q
theorem zti {CX:CXT}{P:Program}{w:World}{K:PySem.W.Frag}{mg:Str->Option Value}{base:Heap}{N ps:List Str}{qual:Str}{scope:Scope}{f:Addr}{cd:Value}{A:Around}{outer:List Env}{s s1:Shared}{H:Hp}{E:XK}{us:List Value}{vs:List V}
   (S:zQ N ps scope) (hd:A.handled=none) (e0:zfE P w K mg base A outer s H) (hl:vs.length=ps.length) (r:zt vs us)
   (x:InCallC s s.heap.objs.size (bindL (envOfC qual scope s.heap.objs.size f cd).kindOf (ps.zip us) fun _=>none) (cellsFrom (s.heap.objs.size+1) scope.names []) (bindC (envOfC qual scope s.heap.objs.size f cd).kindOf (ps.zip us) fun _=>none) s1) :
   Inv (zfH CX P w K mg base N qual scope f cd A outer s H E) [] (start N vs) H s1:=by
 have hpl:ps.length<=N.length:=by have:=congrArg List.length S.pre;rw [List.length_take]at this;omega
 obtain ⟨h1,tk,rfl,hk⟩:=x.done
 have noA:∀ b:Addr,b∉(zfH CX P w K mg base N qual scope f cd A outer s H E).ex:=fun b z=>absurd (show b∈([]:List Addr) from z) ς
 refine ⟨⟨e0.mod,S.kind,rfl,rfl,Nat.le_refl _,fun y z c h1 h2=>?_,fun y hy=>?_,fun y c _ h=>?_,fun _=>hd,Around.frames_deeper e0.frames,.inr ⟨rfl,rfl⟩,fun b z=>absurd z (noA b),e0.bs,e0.bsz,fun b _ _=>noA b,fun b z=>absurd z (noA b),e0.funs,e0.frf⟩,
   rfl,e0.bare,Un.kept hk,⟨_,x.toInCall.ns,fun i y v h1 h2 h3=>?_⟩,fun y c h=>⟨_,x.cell y c h⟩,e0.hok.fresh (Nat.le_refl _),fun y c h=>?_,fun p hp=>absurd (show p∈([]:List (Addr×Obj)) from hp) ς,e0.hok.kept hk,?_⟩
 . exact name_of_addr x.apart (PySem.mem_of_lookup h1) (PySem.mem_of_lookup h2)
 . have hy:scope.names.lookup y=some .cell∨scope.names.lookup y=some .free:=hy
   rcases hy with hy | hy
   . exact zlC hy
   . exact absurd rfl (S.nofree _ (PySem.mem_of_lookup hy))
 . exact Nat.le_of_lt (x.above y c (PySem.mem_of_lookup h))
 . have hi:i < vs.length:=by
     unfold start at h2
     by_cases hi:i < vs.length
     . exact hi
     . rw [List.getElem?_append_right (by simpa using hi)]at h2
       rw [List.getElem?_replicate]at h2
       split at h2 <;> cases h2
   have ha:vs[i]?=some v:=by
     unfold start at h2
     rw [List.getElem?_append_left (by simpa using hi),List.getElem?_map]at h2
     cases e:vs[i]? with
     | none=>rw [e]at h2;cases h2
     | some a=>rw [e]at h2;cases h2;rfl
   obtain ⟨u,hu,rv⟩:=r.get ha
   have hp:ps[i]?=some y:=by
     rw [<- S.pre,List.getElem?_take_of_lt ω];exact h1
   have ndP:ps.Nodup:=by rw [<- S.pre];exact S.nd.sublist (List.take_sublist _ _)
   refine ⟨u,rv,?_⟩
   rcases S.par y (List.mem_of_getElem? hp) with k | k
   . exact .inl ⟨k,znb ndP hp hu k⟩
   . obtain ⟨c,e⟩:=zlC (n:=s.heap.objs.size+1) k
     refine .inr ⟨.inl k,c,e,?_⟩
     have q:=x.cell y c e
     rw [zlY ndP hp hu (by show scope.names.lookup y≠_;rw [k];decide)]at q
     exact q
 . exact e0.hok.fresh (Nat.le_of_lt (x.above y c (PySem.mem_of_lookup h)))
 . unfold start
   show _=N.length
   rw [List.length_append,List.length_map,List.length_replicate]
   omega
theorem zuB {CX:CXT}{P:Program}{w:World}{K:PySem.W.Frag}{mg:Str->Option Value}{base:Heap}{k:Nat}{f:Addr}{name qual:Str}{params:Arguments}{body:List Stmt}{scope:Scope}{dV kV doc pm cdv ct oc:Value}{an od:Option Addr}
   {osl:Array (Option Value)} {N ps:List Str} {sp:Sp} (lk:K.lookup f=some ⟨oc,od,.func (PySem.W.fnOf name qual params body scope dV kV doc pm an cdv ct),osl⟩) (hcd:PySem.W.codeIn K cdv qual=true) (S:zQ N ps scope)
   (len:∀ vs H Q E,sp vs H Q E->vs.length=ps.length)
   (hbody:∀ (A:Around) (outer:List Env) (s:Shared) (H:Hp) (vs:List V) (Q:VK) (E:XK),zL k (A.deeper (envOfC qual scope s.heap.objs.size f cdv))->sp vs H Q E ->
     ∃ t,PSs (zfH CX P w K mg base N qual scope f cdv A outer s H E) body t∧t { nx:=fun _ H'=>Q .non H',rt:=Q } (start N vs) H) :
   zF P w K mg base CX (k+1) f (PySem.W.fnOf name qual params body scope dV kV doc pm an cdv ct) ps sp:=by
 refine ⟨len,fun A outer s H args us vs Q E hr e0 hb r hsp=>?_⟩
 have hl:=len _ _ _ _ hsp
 have KX:K.In s.heap:=e0.mod.kin.keeps fun b o e=>(e0.bs b o e).1
 have lim:s.heap.NoLimit:=e0.mod.nolimit.keeps fun b o e=>(e0.bs b o e).1
 have hkind:∀ y∈ps.zip us,scope.names.lookup y.1=some .local∨(scope.names.lookup y.1=some .cell∧((cellsFrom (s.heap.objs.size+1) scope.names []).lookup y.1).isSome=true):=fun ⟨n,v⟩ hy=>by
   rcases S.par n (List.of_mem_zip hy).1 with q | q
   . exact .inl q
   . exact .inr ⟨q,PySem.W.cellsFrom_some _ _ _ (.inl q)⟩
 refine codeAny_call_function hr.depth (KX _ _ lk) rfl S.co S.gen rfl (PySem.W.codeRec_of KX hcd) (hb _ _ _ _ ?_)
 refine wpAny_newFunctionEnv_cells S.kind hkind fun env he s1 x=>?_
 subst he
 refine ⟨lim.keeps x.toInCall.keep,codeAny_func ?_⟩
 obtain ⟨t,ht,hq⟩:=hbody A outer s H vs Q E (hr.deeper _) hsp
 have I:Inv (zfH CX P w K mg base N qual scope f cdv A outer s H E) [] (start N vs) H s1:=zti S hr.hd e0 hl r x
 refine wpAny_mono (ht [] s1 (start N vs) H _ I hq) (fun fl s' hs=>?_) fun e s' hs=>hs
 have fin:∀ {σ':St} {H':Hp} {v:V} {u:Value},Inv (zfH CX P w K mg base N qual scope f cdv A outer s H E) [] σ' H' s'->zo v u->Q v H'->CE outer P w H s Q u s' :=
   fun {σ' H' v u} J rv q=>⟨v,H',J.os,J.bare,J.base,J.hok,rv,q⟩
 cases fl with
 | ret u =>
   obtain ⟨v,σ',H',J,rv,q⟩:=hs
   exact fin J rv q
 | next =>
   obtain ⟨σ',H',J,q⟩:=hs
   exact fin (v:=V.non) (u:=Value.none) J rfl q
 | brk =>
   obtain ⟨_,_,_,q⟩:=hs
   exact False.elim q
 | cont =>
   obtain ⟨_,_,_,q⟩:=hs
   exact False.elim q
end L2
namespace L2
open PySem PySem.Spec PyProof.Rows
section
variable {X:Cx}{x:Str}{p pos:Pos}{e:Expr}{es:List Expr}{t:TA}{id T:String}{r:List V->Hp->VK->Prop}
noncomputable def tCB (r:List V->Hp->VK->Prop) (t:TA):TE:=fun σ H Q=>t σ H fun vs H1=>r vs H1 Q
theorem zdW (hc:zcK X (.builtin id) r) (hg:Gl X x) (hm:X.mg x=none) (hv:bootBuiltins x=some (.builtin id)) (ha:PA X (e :: es) t) (hn:x ≠ "__name__":=by decide) (hdb:(x == ("__debug__":Str))=false:=by decide)
   (he:starEach (e :: es) X.env=(false,eval e X.env) :: starEach es X.env:=by rfl) (hpl:(backTo pos (starEach es X.env)).any (·.1)=false:=by rfl):PE X (.Call (.Name x p) (e :: es) [] pos) (tCB r t):=by
 intro pins s σ H Q I h
 refine wpAny_Call_Name_kw (zfv I hg hm hv ?_ hn hdb)
 exact PyProof.Rows.callWith_builtin1 (thn (ha pos pins s σ H _ I h) fun us s1 ⟨vs,H1,I1,r1,q1⟩=>hc pins s1 σ H1 vs us Q I1 r1 q1) he hpl
theorem ziM (hc:zcK X (.type T) r) (hg:Gl X x) (hm:X.mg x=none) (hv:bootBuiltins x=some (.type T)) (ha:PA X (e :: es) t) (hn:x ≠ "__name__":=by decide) (hdb:(x == ("__debug__":Str))=false:=by decide)
   (he:starEach (e :: es) X.env=(false,eval e X.env) :: starEach es X.env:=by rfl) (hpl:(backTo pos (starEach es X.env)).any (·.1)=false:=by rfl):PE X (.Call (.Name x p) (e :: es) [] pos) (tCB r t):=by
 intro pins s σ H Q I h
 refine wpAny_Call_Name_kw (zfv I hg hm hv ?_ hn hdb)
 exact PyProof.Rows.callWith_type1 (thn (ha pos pins s σ H _ I h) fun us s1 ⟨vs,H1,I1,r1,q1⟩=>hc pins s1 σ H1 vs us Q I1 r1 q1) he hpl
end
end L2
namespace HT
open PySem PyProof.Rows
section
open PySem.SeqAt
open PySem.AutoSeq1 (wpAny_loadPart')
open PySem.MeetsSeq PySem.MeetsSeq2 PySem.MeetsSeq3
end
section
variable {prog:Program}{w:World}{A:Around}{E:Value->Shared->Prop}{s:Shared}
noncomputable def sIx (n d:Nat):Option Int->Nat
 | none=>d
 | some v=>if v < 0 then (v+(n:Int)).toNat else min v.toNat n
theorem zra (n d:Nat) (hd:d<=n) (o:Option Int):sIx n d o<=n:=by
 cases o with
 | none=>exact hd
 | some v =>
   show (if v < 0 then (v+(n:Int)).toNat else min v.toNat n)<=n
   by_cases hv:v < 0
   . rw [if_pos hv];omega
   . rw [if_neg hv];exact Nat.min_le_right _ _
theorem clip_eq (v:Int) (n d:Nat):(if v < 0 then max (v+(n:Int)) 0 else min v (n:Int))=((sIx n d (some v):Nat):Int):=by
 show (if v < 0 then max (v+(n:Int)) 0 else min v (n:Int))=(((if v < 0 then (v+(n:Int)).toNat else min v.toNat n):Nat):Int)
 by_cases hv:v < 0
 . simp only [if_pos hv];omega
 . simp only [if_neg hv];omega
theorem zsl (lo hi:Option Int) (n:Nat):Builtin.Slice.sliceAdjust lo hi 1 (n:Int)=(((sIx n 0 lo:Nat):Int),((sIx n n hi:Nat):Int)):=by
 have h1:¬ ((1:Int) < 0):=by omega
 unfold Builtin.Slice.sliceAdjust
 simp only [h1,if_false]
 refine Prod.ext ?_ ?_
 . cases lo with
   | none=>rfl
   | some v=>exact clip_eq v n 0
 . cases hi with
   | none=>rfl
   | some v=>exact clip_eq v n n
theorem zwp (i j:Nat):Builtin.Slice.slicePlaces (i:Int) (j:Int) 1=j - i:=by
 unfold Builtin.Slice.slicePlaces
 have h1:(1:Int) > 0:=by omega
 simp only [h1,if_true,Int.ediv_one]
 split <;> omega
theorem slicePart_ {v:Value}{o:Option Int}{Q:Option Int->Shared->Prop} (p:IsPart v o) (h:Q o s):wpAny (model prog w) A (Builtin.Slice.slicePartIndex v) Q E s:=by
 cases p with
 | none=>exact slicePart_none h
 | int i t=>exact slicePart_int h
theorem zth {sl:Addr}{vl vu:Value}{lo hi:Option Int}{n:Nat}{Q:Int×Int×Nat->Shared->Prop} (hs:s.heap.IsSliceOf sl vl vu .none) (pl:IsPart vl lo) (pu:IsPart vu hi)
   (h:Q (((sIx n 0 lo:Nat):Int),1,sIx n n hi - sIx n 0 lo) s):wpAny (model prog w) A (Builtin.Slice.sliceApplied (.ref sl) (pure (n:Int))) Q E s:=by
 obtain ⟨os,hos,hcs,hds⟩:=id hs
 unfold Builtin.Slice.sliceApplied Builtin.Slice.sliceFields
 refine wpAny_bind (wpAny_bind (wpAny_field hos hds (x:=vl) rfl (wpAny_bind (wpAny_field hos hds (x:=vu) rfl (wpAny_bind (wpAny_field hos hds (x := .none) rfl (wpAny_pure ?_)))))))
 refine wpAny_bind (slicePart_none ?_)
 show wpAny _ _ (if ((1:Int) == 0)=true then _ else _) _ _ s
 rw [if_neg ϑ]
 refine wpAny_bind (slicePart_ pl (wpAny_bind (slicePart_ pu (wpAny_bind (wpAny_pure ?_)))))
 show wpAny _ _ (match Builtin.Slice.sliceAdjust lo hi 1 (n:Int) with | (lo,hi)=>pure (lo,(1:Int),Builtin.Slice.slicePlaces lo hi 1)) _ _ s
 rw [zsl lo hi n]
 show wpAny _ _ (pure (((sIx n 0 lo:Nat):Int),(1:Int),Builtin.Slice.slicePlaces ((sIx n 0 lo:Nat):Int) ((sIx n n hi:Nat):Int) 1)) _ _ s
 rw [zwp]
 exact wpAny_pure h
theorem zuA (xs:Array Value) (i k:Nat):((List.range k).filterMap fun (m:Nat)=>xs[((i:Int)+(m:Int) * 1).toNat]?).toArray=((xs.toList.drop i).take k).toArray:=by
 have e:(fun (m:Nat)=>xs[((i:Int)+(m:Int) * 1).toNat]?)=fun m=>xs[i+m]?:=by
   funext m
   have:((i:Int)+(m:Int) * 1).toNat=i+m:=by omega
   rw [this]
 rw [e]
 have:=pick_run xs i k
 rw [List.filterMap_map]at this
 have e2:((fun x=>xs[x]?) ∘ fun x=>i+x)=fun m=>xs[i+m]?:=rfl
 rw [e2]at this
 rw [this]
theorem getItem_tuple_cut {t sl:Addr}{items:Array Value}{vl vu:Value}{lo hi:Option Int}{Q:Value->Shared->Prop} (ht:IsTup s.heap t items) (hs:s.heap.IsSliceOf sl vl vu .none) (pl:IsPart vl lo) (pu:IsPart vu hi)
   (hw:¬ (sIx items.size 0 lo=0∧sIx items.size items.size hi=items.size))
   (h:Q (.ref s.heap.objs.size) { s with heap:=s.heap.push { cls := .type "tuple",data := .seq ((items.toList.drop (sIx items.size 0 lo)).take (sIx items.size items.size hi - sIx items.size 0 lo)).toArray } })
   (hsz:items.size<=sizeLine):wpAny (model prog w) A (getItem (.ref t) (.ref sl)) Q E s:=by
 have htake:sizeOk (.seq ((items.toList.drop (sIx items.size 0 lo)).take (sIx items.size items.size hi - sIx items.size 0 lo)).toArray):=by
   show ((items.toList.drop (sIx items.size 0 lo)).take (sIx items.size items.size hi - sIx items.size 0 lo)).toArray.size<=sizeLine
   rw [List.size_toArray,List.length_take,List.length_drop,Array.length_toList]
   omega
 have hj:sIx items.size items.size hi<=items.size:=zra _ _ (Nat.le_refl _) hi
 obtain ⟨os,hos,hcs,hds⟩:=id hs
 have hTs:s.TypeIs (.ref sl) "slice":=⟨os,hos,hcs⟩
 unfold getItem
 try with_reducible refine wpAny_holding ?_
 first | refine wpAny_bind (wpAny_pure ?_) | skip
 refine wpAny_bind (wpAny_sequenceKey ht.typeIs ϑ ?_)
 refine wpAny_bind (wpAny_callSpecial?_slot (name:=Str.ofString "__getitem__") ht.typeIs PyProof.Rows.slot_tuple_getitem
   (wpAny_call_entry PyProof.Rows.slot_tuple_getitem ht.typeIs entry_tuple_getitem ?_ (args_tuple_getitem _ _)))
 show wpAny _ _ (Builtin.Tuple.tupleItemsOf (.ref t) >>= _) _ _ s
 refine wpAny_bind (tupleItemsOf_ ht ?_)
 refine wpAny_bind (wpAny_typeOf hTs ?_)
 rw [if_pos ϑ]
 refine wpAny_bind (zth hs pl pu ?_)
 have hno:¬ ((((sIx items.size 0 lo:Nat):Int) == 0 && (1:Int) == 1 && (sIx items.size items.size hi - sIx items.size 0 lo) == items.size)=true):=by
   intro q
   rw [Bool.and_eq_true,Bool.and_eq_true]at q
   have q1:((sIx items.size 0 lo:Nat):Int)=0:=eq_of_beq q.1.1
   have q2:sIx items.size items.size hi - sIx items.size 0 lo=items.size:=eq_of_beq q.2
   exact hw ⟨ω,ω⟩
 show wpAny _ _ (if (((sIx items.size 0 lo:Nat):Int) == 0 && (1:Int) == 1 && (sIx items.size items.size hi - sIx items.size 0 lo) == items.size)=true then _ else _) _ _ s
 rw [if_neg hno,zuA]
 first
   | exact wpAny_bind (m:=Builtin.Tuple.tupleExact _) (wpAny_newObj_type (wpAny_pure ⟨_,rfl,wpAny_pure h⟩) htake)
   | exact wpAny_bind (m:=Builtin.Tuple.tupleExact _) (wpAny_newObj_type (wpAny_bind (wpAny_pure (wpAny_pure ⟨_,rfl,wpAny_pure h⟩))) htake)
   | exact wpAny_bind (wpAny_bind (m:=Builtin.Tuple.tupleExact _) (wpAny_newObj_type (wpAny_pure (wpAny_pure ⟨_,rfl,wpAny_pure h⟩)) htake))
   | exact wpAny_bind (wpAny_bind (m:=Builtin.Tuple.tupleExact _) (wpAny_newObj_type (wpAny_pure ⟨_,rfl,wpAny_pure h⟩) htake))
end
end HT
namespace L2
open PySem PySem.Spec PyProof.Rows
noncomputable abbrev TO:=St->Hp->(Option Int->Hp->Prop)->Prop
noncomputable def PO (X:Cx) (e:Option Expr) (t:TO):Prop :=
 ∀ (pins:List (Addr×Obj)) (s:Shared) (σ:St) (H:Hp) (Q:Option Int->Hp->Prop),Inv X pins σ H s->t σ H Q ->
   wpAny (model X.prog X.w) X.A (evalPart e X.env) (fun u s'=>∃ o H',Inv X pins σ H' s'∧IsPart u o∧Q o H') X.xe s
noncomputable def zvs:TO:=fun _ H Q=>Q none H
noncomputable def zuU (t:TE):TO:=fun σ H Q=>t σ H fun x H1=>∃ i,x = .int i∧Q (some i) H1
theorem zmT {ns:List Int}:∀ {us:List Value},zt (ns.map V.int) us->IntsAre us ns:=by
 induction ns with
 | nil=>intro us r;rw [List.map_nil]at r;cases r;exact .nil
 | cons n ns ih =>
   intro us r
   rw [List.map_cons]at r
   cases r with
   | cons r1 r2 =>
     obtain ⟨t,e⟩:=r1
     subst e
     exact .cons n t (ih r2)
section
variable {X:Cx}{e:Expr}{te:TE}{lo hi:Option Expr}{tl th:TO}{pos p2:Pos}
theorem zmj:PO X none zvs:=by
 intro pins s σ H Q I h
 rw [evalPart_none]
 exact wpAny_pure ⟨none,H,I,.none,h⟩
theorem zju (h:PE X e te):PO X (some e) (zuU te):=by
 intro pins s σ H Q I hw
 rw [evalPart_some]
 refine thn (h pins s σ H _ I hw) fun u s1 ⟨x,H1,I1,r1,q1⟩=>?_
 obtain ⟨i,rfl,q⟩:=q1
 obtain ⟨t,rfl⟩:=r1
 exact ⟨some i,H1,I1,.int i t,q⟩
noncomputable def SlR (X:Cx) (r:V->Option Int->Option Int->Hp->VK->Prop):Prop :=
 ∀ (pins:List (Addr×Obj)) (s:Shared) (σ:St) (H:Hp) (x:V) (v vl vu:Value) (lo hi:Option Int) (sl:Addr) (Q:VK),Inv X pins σ H s->zo x v->s.heap.IsSliceOf sl vl vu .none->IsPart vl lo->IsPart vu hi->r x lo hi H Q ->
   ∃ T id,typeLookup (.type T) "__getitem__" = pure (some (.builtin id))∧s.TypeIs v T∧wpAny (model X.prog X.w) X.A (getItem v (.ref sl)) (EP X pins σ Q) X.xe s
noncomputable def tSl (r:V->Option Int->Option Int->Hp->VK->Prop) (te:TE) (tl th:TO):TE:=fun σ H Q=>te σ H fun x H1=>tl σ H1 fun l H2=>th σ H2 fun u H3=>r x l u H3 Q
theorem zmH {r:V->Option Int->Option Int->Hp->VK->Prop} (hr:SlR X r) (he:PE X e te) (hl:PO X lo tl) (hu:PO X hi th):PE X (.Subscript e (.Slice lo hi none p2) pos) (tSl r te tl th):=by
 intro pins s σ H Q I h
 refine Subscript_ (thn (he pins s σ H _ I h) fun v s1 ⟨x,H1,I1,r1,q1⟩=>?_)
 refine wpAny_Slice (thn (hl pins s1 σ H1 _ I1 q1) fun vl s2 ⟨l,H2,I2,pl,q2⟩=>thn (hu pins s2 σ H2 _ I2 q2) fun vu s3 ⟨u,H3,I3,pu,q3⟩=>?_)
 rw [evalPart_none]
 refine wpAny_pure ?_
 have I4:Inv X pins σ H3 { s3 with heap:=s3.heap.push { cls := .type "slice",data := .fields #[vl,vu,.none] } }:=I3.kept (t':=s3.toks) fun b ob q=>Heap.get?_push_of_some _ q
 obtain ⟨T,id,hT,ht,hg⟩:=hr pins { s3 with heap:=s3.heap.push { cls := .type "slice",data := .fields #[vl,vu,.none] } } σ H3 x v vl vu l u s3.heap.objs.size Q I4 r1 (Heap.IsSliceOf.new ..) pl pu q3
 show wpAny (model X.prog X.w) X.A (subscriptTail e (.Slice lo hi none p2) v (.ref s3.heap.objs.size)) (EP X pins σ Q) X.xe { s3 with heap:=s3.heap.push { cls := .type "slice",data := .fields #[vl,vu,.none] } }
 exact tail_any (ops:=[.ref s3.heap.objs.size,v]) ht hT hg (by with_unfolding_all rfl)
noncomputable def cutV (xs:List V) (lo hi:Option Int):List V:=(xs.drop (HT.sIx xs.length 0 lo)).take (HT.sIx xs.length xs.length hi - HT.sIx xs.length 0 lo)
theorem zmN (xs:List V) (lo hi:Option Int):(cutV xs lo hi).length<=xs.length:=by
 unfold cutV
 rw [List.length_take,List.length_drop]
 omega
noncomputable def zt3 (K:PySem.W.Frag):V->Option Int->Option Int->Hp->VK->Prop:=fun x lo hi H Q=>∃ a xs,x = .ref a∧SqT K H a xs ∧
 ¬ (HT.sIx xs.length 0 lo=0∧HT.sIx xs.length xs.length hi=xs.length)∧∀ p,H p=none->Q (.ref p) (upd H p (.tup (cutV xs lo hi)))
theorem zwH:SlR X (zt3 X.K):=by
 intro pins s σ H x v vl vu lo hi sl Q I rx hs pl pu h
 obtain ⟨a,xs,rfl,hx,hw,q⟩:=h
 cases rx
 obtain ⟨its,r,ht,hz⟩:=I.tuple hx
 have hlen:its.toArray.size=xs.length:=by rw [List.size_toArray];exact r.length.symm
 refine ⟨"tuple",_,PyProof.Rows.slot_tuple_getitem.lookup,ht.typeIs,?_⟩
 refine HT.getItem_tuple_cut ht hs pl pu (by rw [hlen];exact hw) ?_ (by rw [hlen];exact hz)
 rw [hlen]
 refine ⟨.ref s.heap.objs.size,_,I.laid (t':=s.toks) (o := .tup (cutV xs lo hi)) (fun b ob q=>Heap.get?_push_of_some _ q) (Nat.le_refl _) ?_,rfl,q _ (I.hok.fresh (Nat.le_refl _))⟩
 exact ⟨Nat.le_trans (zmN xs lo hi) hz,_,(r.drop (HT.sIx xs.length 0 lo)).take (HT.sIx xs.length xs.length hi - HT.sIx xs.length 0 lo),IsTup.new _ _⟩
end
end L2
namespace L2
open PySem PySem.Spec PyProof.Rows
noncomputable def ixN (n:Nat) (i:Int):Option Nat:=if 0<=i then (if i < n then some i.toNat else none) else if -(n:Int)<=i then some (i+n).toNat else none
noncomputable def atI {α:Type} (xs:List α) (i:Int):Option α:=(ixN xs.length i).bind fun j=>xs[j]?
theorem zmD {n:Nat}{i:Int}{j:Nat} (h:ixN n i=some j):seqIndex? i n=some j∧j < n∧-(n:Int)<=i∧i < n:=by
 unfold ixN at h
 by_cases h0:0<=i
 . rw [if_pos h0]at h
   by_cases h1:i < n
   . rw [if_pos h1]at h
     have e:i.toNat=j:=Option.some.inj h
     exact ⟨by rw [seqIndex_of h0 h1,e],ω,ω,h1⟩
   . rw [if_neg h1]at h;cases h
 . rw [if_neg h0]at h
   by_cases h1:-(n:Int)<=i
   . rw [if_pos h1]at h
     have e:(i+n).toNat=j:=Option.some.inj h
     exact ⟨by rw [seqIndex_neg ω h1,e],ω,h1,ω⟩
   . rw [if_neg h1]at h;cases h
theorem znD {α:Type}{xs:List α}{i:Int}{v:α} (h:atI xs i=some v):∃ j,seqIndex? i xs.length=some j∧xs[j]?=some v∧j < xs.length∧-(xs.length:Int)<=i∧i < xs.length:=by
 unfold atI at h
 cases e:ixN xs.length i with
 | none=>rw [e]at h;cases h
 | some j =>
   rw [e]at h
   obtain ⟨h1,h2,h3,h4⟩:=zmD e
   exact ⟨j,h1,h,h2,h3,h4⟩
noncomputable def znM (b:Expr):Prop:=∀ o i,subscripted b false o i=operate [o,i] (getItem o i)
noncomputable def IxR (X:Cx) (r:R2):Prop :=
 ∀ (value slice:Expr) (pins:List (Addr×Obj)) (s:Shared) (σ:St) (H:Hp) (x y:V) (v u:Value) (Q:VK),Inv X pins σ H s->zo x v->zo y u->r x y H Q ->
   subscripted slice false v u=operate [v,u] (getItem v u)->wpAny (model X.prog X.w) X.A (subscriptTail value slice v u) (EP X pins σ Q) X.xe s
noncomputable def MtR (X:Cx) (id:String) (r:V->List V->Hp->VK->Prop):Prop :=
 ∀ (pins:List (Addr×Obj)) (s:Shared) (σ:St) (H:Hp) (x:V) (xs:List V) (v:Value) (us:List Value) (Q:VK),Inv X pins σ H s->zo x v->zt xs us->r x xs H Q ->
   wpAny (model X.prog X.w) X.A (call (.builtin id) (v :: us)) (EP X pins σ Q) X.xe s
section
variable {X:Cx}{a b:Expr}{ta tb:TE}{pos:Pos}
theorem IxR.or {r r':R2} (h:IxR X r) (h':IxR X r'):IxR X (fun x y H Q=>r x y H Q∨r' x y H Q):=by
 intro value slice pins s σ H x y v u Q I rx ry q hs
 rcases q with q | q
 . exact h value slice pins s σ H x y v u Q I rx ry q hs
 . exact h' value slice pins s σ H x y v u Q I rx ry q hs
theorem ztO {r:R2} (hr:IxR X r) (ha:PE X a ta) (hb:PE X b tb) (hs:znM b):PE X (.Subscript a b pos) (tOp r ta tb):=by
 intro pins s σ H Q I h
 exact Subscript_ (zkG ha hb I h fun v u s2 x y H2 I2 rx ry q=>hr a b pins s2 σ H2 x y v u Q I2 rx ry q (hs _ _))
noncomputable def zt2 (K:PySem.W.Frag):R2:=fun x y H Q=>∃ p xs i v,x = .ref p∧y = .int i∧SqL K H p xs∧atI xs i=some v∧Q v H
noncomputable def zt5 (K:PySem.W.Frag):R2:=fun x y H Q=>∃ p xs i v,x = .ref p∧y = .int i∧SqT K H p xs∧atI xs i=some v∧Q v H
theorem zrg:IxR X (zt2 X.K):=by
 intro value slice pins s σ H x y v u Q I rx ry h hs
 obtain ⟨p,xs,i,z,rfl,rfl,hq,he,q⟩:=h
 cases rx
 obtain ⟨t,rfl⟩:=ry
 obtain ⟨its,r,pl,hz⟩:=I.list hq
 obtain ⟨j,h1,h2,h3,h4,h5⟩:=znD he
 obtain ⟨w,ew,rw'⟩:=r.get h2
 have hl:=r.length
 have hn:=zhh
 have fin:EP X pins σ Q w s:=⟨z,H,I,rw',q⟩
 by_cases h0:0<=i
 . have hj:i.toNat=j:=by
     rw [seqIndex_of h0 h5]at h1
     exact Option.some.inj h1
   exact item_listR pl.isList h0 ω (by rw [hj];simpa using ew) fin hs
 . have hj:(i+(its.toArray.size:Int)).toNat=j:=by
     rw [seqIndex_neg ω h4]at h1
     rw [List.size_toArray,<- hl]
     exact Option.some.inj h1
   exact subscriptTail_builtinR (x:=w) pl.isList.typeIs slot_list_getitem.lookup
     (wpAny_getItem_list_neg (Q:=fun r s'=>r=w∧EP X pins σ Q r s') pl.isList ω (by rw [List.size_toArray] <;> omega) ω (by rw [hj];simpa using ew) ⟨rfl,fin⟩) hs
theorem zwl:IxR X (zt5 X.K):=by
 intro value slice pins s σ H x y v u Q I rx ry h hs
 obtain ⟨p,xs,i,z,rfl,rfl,hq,he,q⟩:=h
 cases rx
 obtain ⟨t,rfl⟩:=ry
 obtain ⟨its,r,pl,hz⟩:=I.tuple hq
 obtain ⟨j,h1,h2,h3,h4,h5⟩:=znD he
 obtain ⟨w,ew,rw'⟩:=r.get h2
 have hl:=r.length
 have hn:=zhh
 have fin:EP X pins σ Q w s:=⟨z,H,I,rw',q⟩
 exact subscriptTail_builtinR (x:=w) pl.typeIs slot_tuple_getitem.lookup
   (getItem_tuple (j:=j) (Q:=fun r s'=>r=w∧EP X pins σ Q r s') pl ω ω (by rw [List.size_toArray,<- hl];exact h1) (by simpa using ew) ⟨rfl,fin⟩) hs
theorem ztV (its:List Value) (n j:Nat) (u:Value):Obj.mapSeq (·.setIfInBounds j u) { cls := .type "list",data := .seq its.toArray n }={ cls := .type "list",data := .seq (its.set j u).toArray n }:=by
 simp [Obj.mapSeq]
theorem Inv.lst {pins:List (Addr×Obj)}{σ:St}{H:Hp}{s:Shared}{p:Addr}{xs:List V} (I:Inv X pins σ H s) (h:H p=some (.lst xs)) :
   ∃ (its:List Value) (n:Nat),zt xs its∧s.heap.get? p=some { cls := .type "list",data := .seq its.toArray n }∧xs.length<=sizeLine:=by
 obtain ⟨z,its,n,r,e⟩:=I.hok p _ h
 exact ⟨its,n,r,e,z⟩
theorem Inv.lstUpd {pins:List (Addr×Obj)}{σ:St}{H:Hp}{s:Shared}{p:Addr}{xs ys:List V}{its its':List Value}{n n':Nat}{f:Obj->Obj} (I:Inv X pins σ H s) (h:H p=some (.lst xs))
   (ho:s.heap.get? p=some { cls := .type "list",data := .seq its.toArray n }) (hf:f { cls := .type "list",data := .seq its.toArray n }={ cls := .type "list",data := .seq its'.toArray n' }) (r:zt ys its') (hz:ys.length<=sizeLine) (t:Nat) :
   Inv X pins σ (upd H p (.lst ys)) { s with heap:=s.heap.update p f,toks:=t }:=by
 have e:(s.heap.update p f).get? p=some { cls := .type "list",data := .seq its'.toArray n' }:=by
   rw [Heap.get?_update_self f ho (by rw [hf] <;> rfl),hf]
 refine I.write (x:=p) (e:=p) (by rw [h];trivial) (.inl rfl) (fun b u hb q=>(Heap.get?_update_other _ _ (Ne.symm hb)).trans q) ⟨_,e⟩ ?_
 exact ⟨hz,its',n',r,e⟩
noncomputable def zvK:V->V->V->Hp->(Hp->Prop)->Prop:=fun o i v H Q=>∃ p xs k j,o = .ref p∧i = .int k∧H p=some (.lst xs)∧ixN xs.length k=some j∧Q (upd H p (.lst (xs.set j v)))
theorem zux:zgx X zvK:=by
 intro pins s σ H o i v ov iv u Q I ro ri rv h
 obtain ⟨p,xs,k,j,rfl,rfl,hp,hj,q⟩:=h
 cases ro
 obtain ⟨t,rfl⟩:=ri
 obtain ⟨its,n,r,ho,hz⟩:=I.lst hp
 obtain ⟨h1,h2,h3,h4⟩:=zmD hj
 have hl:=r.length
 have hn:=zhh
 have I':Inv X pins σ (upd H p (.lst (xs.set j v))) { s with heap:=s.heap.update p (Obj.mapSeq (·.setIfInBounds j u)) } :=
   I.lstUpd hp ho (ztV its n j u) (r.set rv j) (by rw [List.length_set];exact hz) s.toks
 by_cases h0:0<=k
 . have hk:k.toNat=j:=by
     rw [seqIndex_of h0 h4]at h1
     exact Option.some.inj h1
   exact PySem.W.ki_setAt ho h0 ω (by rw [List.size_toArray,<- hl];exact h4) (by rw [hk];exact ⟨_,I',q⟩)
 . have hk:(k+(its.toArray.size:Int)).toNat=j:=by
     rw [seqIndex_neg ω h3]at h1
     rw [List.size_toArray,<- hl]
     exact Option.some.inj h1
   exact PySem.W.ki_setBack ho ω (by rw [List.size_toArray,<- hl];exact h3) ω (by rw [hk];exact ⟨_,I',q⟩)
theorem ztf (lo hi:Option Int) (n:Nat):(sliceBounds lo hi none n).1=((HT.sIx n 0 lo:Nat):Int)∧(sliceBounds lo hi none n).2.1=((HT.sIx n n hi:Nat):Int)∧(sliceBounds lo hi none n).2.2=1:=by
 refine ⟨?_,?_,rfl⟩
 . cases lo with
   | none=>simp [sliceBounds,HT.sIx]
   | some i =>
     simp only [sliceBounds,HT.sIx,Option.getD_none,show (1:Int) > 0 by decide,if_true]
     by_cases h:i < 0
     . simp only [h,if_true] <;> omega
     . simp only [h,if_false] <;> omega
 . cases hi with
   | none=>simp [sliceBounds,HT.sIx]
   | some i =>
     simp only [sliceBounds,HT.sIx,Option.getD_none,show (1:Int) > 0 by decide,if_true]
     by_cases h:i < 0
     . simp only [h,if_true] <;> omega
     . simp only [h,if_false] <;> omega
theorem zrH (its:List Value) (lo hi:Option Int):slicePick its.toArray lo hi none=((its.drop (HT.sIx its.length 0 lo)).take (HT.sIx its.length its.length hi - HT.sIx its.length 0 lo)).toArray:=by
 obtain ⟨h1,h2,h3⟩:=ztf lo hi its.toArray.size
 unfold slicePick
 rw [h1,h2,h3]
 simp only [sliceRange_one,pick_run,List.size_toArray] <;> rfl
noncomputable def zuy (K:PySem.W.Frag):V->Option Int->Option Int->Hp->VK->Prop:=fun x lo hi H Q=>∃ a xs,x = .ref a∧SqL K H a xs∧∀ p,H p=none->Q (.ref p) (upd H p (.lst (cutV xs lo hi)))
theorem zuT:SlR X (zuy X.K):=by
 intro pins s σ H x v vl vu lo hi sl Q I rx hs pl pu h
 obtain ⟨a,xs,rfl,hx,q⟩:=h
 cases rx
 obtain ⟨its,r,ht,hz⟩:=I.list hx
 have hlen:=r.length
 refine ⟨"list",_,slot_list_getitem.lookup,ht.isList.typeIs,?_⟩
 refine wpAny_getItem_list_slice ht.isList hs pl pu .none ς ?_ (by rw [List.size_toArray] <;> omega)
 rw [zrH,<- hlen]
 refine ⟨.ref s.heap.objs.size,_,I.laid (t':=s.toks) (o := .lst (cutV xs lo hi)) (fun b ob q=>Heap.get?_push_of_some _ q) (Nat.le_refl _) ?_,rfl,q _ (I.hok.fresh (Nat.le_refl _))⟩
 exact ⟨Nat.le_trans (zmN xs lo hi) hz,_,0,(r.drop (HT.sIx xs.length 0 lo)).take (HT.sIx xs.length xs.length hi - HT.sIx xs.length 0 lo),Heap.get?_push_size _ rfl⟩
noncomputable def zbK:V->Bool
 | .non=>true
 | .bl _=>true
 | .int _=>true
 | .str _=>true
 | _=>false
noncomputable def eqV:V->V->Bool
 | .non,.non=>true
 | .bl a,.bl b=>a == b
 | .bl a,.int b=>(if a then 1 else 0) == b
 | .int a,.bl b=>a == (if b then 1 else 0)
 | .int a,.int b=>a == b
 | .str a,.str b=>a == b
 | _,_=>false
theorem zjW {A:Around}{s:Shared}{y x:V}{u v:Value} (ry:zo y u) (rx:zo x v) (fy:zbK y=true) (fx:zbK x=true):SeqAt.EqAt A s u v (eqV y x):=by
 cases y with
 | non =>
   cases ry
   cases x with
   | non=>cases rx;exact SeqAt.EqAt.same _
   | bl b=>cases rx;exact SeqAt.EqAt.none_bool b
   | int b=>obtain ⟨t,rfl⟩:=rx;exact SeqAt.EqAt.none_int b t
   | str b=>obtain ⟨t,rfl⟩:=rx;exact SeqAt.EqAt.none_str b t
   | _=>exact absurd (show false=true from fx) Bool.false_ne_true
 | bl a =>
   cases ry
   cases x with
   | non=>cases rx;exact SeqAt.EqAt.bool_none a
   | bl b=>cases rx;exact SeqAt.EqAt.bool_bool a b
   | int b=>obtain ⟨t,rfl⟩:=rx;exact SeqAt.EqAt.bool_int a b t
   | str b=>obtain ⟨t,rfl⟩:=rx;exact SeqAt.EqAt.bool_str a b t
   | _=>exact absurd (show false=true from fx) Bool.false_ne_true
 | int a =>
   obtain ⟨t',rfl⟩:=ry
   cases x with
   | non=>cases rx;exact SeqAt.EqAt.int_none a t'
   | bl b=>cases rx;exact SeqAt.EqAt.int_bool a t' b
   | int b=>obtain ⟨t,rfl⟩:=rx;exact SeqAt.EqAt.int_int a t' b t
   | str b=>obtain ⟨t,rfl⟩:=rx;exact SeqAt.EqAt.int_str a t' b t
   | _=>exact absurd (show false=true from fx) Bool.false_ne_true
 | str a =>
   obtain ⟨t',rfl⟩:=ry
   cases x with
   | non=>cases rx;exact SeqAt.EqAt.str_none a t'
   | bl b=>cases rx;exact SeqAt.EqAt.str_bool a t' b
   | int b=>obtain ⟨t,rfl⟩:=rx;exact SeqAt.EqAt.str_int a t' b t
   | str b=>obtain ⟨t,rfl⟩:=rx;exact SeqAt.EqAt.str_str a t' b t
   | _=>exact absurd (show false=true from fx) Bool.false_ne_true
 | _=>exact absurd (show false=true from fy) Bool.false_ne_true
noncomputable def eqU (x:V) (u:Value):Bool:=match u with
 | .none=>eqV .non x
 | .bool b=>eqV (.bl b) x
 | .int i _=>eqV (.int i) x
 | .str z _=>eqV (.str z) x
 | _=>false
theorem zmq {x y:V}{u:Value} (r:zo y u) (f:zbK y=true):eqU x u=eqV y x:=by
 cases y with
 | non=>cases r;rfl
 | bl b=>cases r;rfl
 | int i=>obtain ⟨t,rfl⟩:=r;rfl
 | str z=>obtain ⟨t,rfl⟩:=r;rfl
 | _=>exact absurd (show false=true from f) Bool.false_ne_true
theorem zhq {x:V}:∀ {xs:List V}{us:List Value},zt xs us->xs.all zbK=true->us.any (eqU x)=xs.any fun y=>eqV y x
 | _,_,.nil,_=>rfl
 | y :: xs,u :: us,.cons r t,f=>by
   rw [List.all_cons,Bool.and_eq_true]at f
   rw [List.any_cons,List.any_cons,zmq r f.1,zhq t f.2]
theorem zg8 {A:Around}{s:Shared}{x:V}{v:Value} (rx:zo x v) (fx:zbK x=true):∀ {xs:List V}{us:List Value},zt xs us->xs.all zbK=true->∀ u∈us,SeqAt.EqAt A s u v (eqU x u)
 | _,_,.nil,_=>fun u hu=>by cases hu
 | y :: xs,u :: us,.cons r t,f=>fun u' hu=>by
   rw [List.all_cons,Bool.and_eq_true]at f
   rcases List.mem_cons.mp hu with rfl | hu
   . rw [zmq r f.1];exact zjW r rx f.1 fx
   . exact zg8 rx fx t f.2 u' hu
noncomputable def inV (x:V) (xs:List V):Bool:=xs.any fun y=>eqV y x
noncomputable def rIn (K:PySem.W.Frag) (neg:Bool):R2:=fun x y H Q=>∃ p xs,y = .ref p∧(SqL K H p xs∨SqT K H p xs)∧zbK x=true∧xs.all zbK=true∧Q (.bl (if neg then !inV x xs else inV x xs)) H
theorem zwm:OpR X (compareOp .In) (rIn X.K false):=by
 intro pins s σ H x y v u Q I rx ry h
 obtain ⟨p,xs,rfl,hq,fx,fs,q⟩:=h
 cases ry
 rcases hq with hq | hq
 . obtain ⟨its,r,pl,hz⟩:=I.list hq
   refine SeqAt.in_listAt (eqU x) pl.isList (fun w hw=>zg8 rx fx r fs w (by simpa using hw)) ⟨.bl _,H,I,rfl,?_⟩
   rw [show its.toArray.any (eqU x)=its.any (eqU x) by simp,zhq r fs]
   exact q
 . obtain ⟨its,r,pl,hz⟩:=I.tuple hq
   refine SeqAt.in_tupleAt (eqU x) pl (fun w hw=>zg8 rx fx r fs w (by simpa using hw)) ⟨.bl _,H,I,rfl,?_⟩
   rw [show its.toArray.any (eqU x)=its.any (eqU x) by simp,zhq r fs]
   exact q
theorem zsX:OpR X (compareOp .NotIn) (rIn X.K true):=by
 intro pins s σ H x y v u Q I rx ry h
 obtain ⟨p,xs,rfl,hq,fx,fs,q⟩:=h
 cases ry
 rcases hq with hq | hq
 . obtain ⟨its,r,pl,hz⟩:=I.list hq
   refine SeqAt.notIn_listAt (eqU x) pl.isList (fun w hw=>zg8 rx fx r fs w (by simpa using hw)) ⟨.bl _,H,I,rfl,?_⟩
   rw [show its.toArray.any (eqU x)=its.any (eqU x) by simp,zhq r fs]
   exact q
 . obtain ⟨its,r,pl,hz⟩:=I.tuple hq
   refine SeqAt.notIn_tupleAt (eqU x) pl (fun w hw=>zg8 rx fx r fs w (by simpa using hw)) ⟨.bl _,H,I,rfl,?_⟩
   rw [show its.toArray.any (eqU x)=its.any (eqU x) by simp,zhq r fs]
   exact q
theorem zwL:zcK X (.builtin "len") (fun xs H Q=>∃ p ys,xs=[.ref p]∧(SqL X.K H p ys∨SqT X.K H p ys)∧Q (.int ys.length) H):=by
 intro pins s σ H xs us Q I r h
 obtain ⟨p,ys,rfl,hq,q⟩:=h
 obtain ⟨u,rfl,rx⟩:=zdm r
 cases rx
 have hn:=zhh
 rcases hq with hq | hq
 . obtain ⟨its,r',pl,hz⟩:=I.list hq
   have hlen:=r'.length
   exact Calls.call_len_list pl.isList (by simp only [List.size_toArray] <;> omega) ⟨.int ys.length,H,I.tok _,⟨s.toks+1,by rw [List.size_toArray,hlen]⟩,q⟩
 . obtain ⟨its,r',pl,hz⟩:=I.tuple hq
   have hlen:=r'.length
   exact len_tuple pl (by simp only [List.size_toArray] <;> omega) ⟨.int ys.length,H,I.tok _,⟨s.toks+1,by rw [List.size_toArray,hlen]⟩,q⟩
theorem zt1:zcK X (.type "list") (fun xs H Q=>∃ p ys,xs=[.ref p]∧(SqL X.K H p ys∨SqT X.K H p ys)∧∀ l,H l=none->Q (.ref l) (upd H l (.lst ys))):=by
 intro pins s σ H xs us Q I r h
 obtain ⟨p,ys,rfl,hq,q⟩:=h
 obtain ⟨u,rfl,rx⟩:=zdm r
 cases rx
 have fin:∀ (its:List Value),zt ys its->ys.length<=sizeLine->∀ (h':Heap) (c':Nat),(∀ b o',s.heap.get? b=some o'->h'.get? b=some o') ->
     h'.get? s.heap.objs.size=some { cls := .type "list",dict:=none,data := .seq its.toArray c',slots:=#[] }->EP X pins σ Q (.ref s.heap.objs.size) { s with heap:=h' }:=fun its r' hz h' c' kp e =>
   ⟨.ref s.heap.objs.size,_,I.laid (t':=s.toks) kp (Nat.le_refl _) (show zbp X.prog X.w _ h' _ (.lst ys) from ⟨hz,its,c',r',e⟩),rfl,q _ (I.hok.fresh (Nat.le_refl _))⟩
 rcases hq with hq | hq
 . obtain ⟨its,r',pl,hz⟩:=I.list hq
   have hlen:=r'.length
   obtain ⟨o,ho,hc,n,hd⟩:=pl.isList
   exact call_list_seq p (.inl rfl) ho hc hd (fun h' c' kp e=>fin its r' hz h' c' kp e) (by simp only [List.size_toArray] <;> omega)
 . obtain ⟨its,r',pl,hz⟩:=I.tuple hq
   have hlen:=r'.length
   obtain ⟨o,ho,hc,n,hd⟩:=pl
   exact call_list_seq p (.inr rfl) ho hc hd (fun h' c' kp e=>fin its r' hz h' c' kp e) (by simp only [List.size_toArray] <;> omega)
noncomputable def tyV (K:PySem.W.Frag) (T:String) (x:V) (H:Hp):Prop:=match x with
 | .str _=>T = "str"
 | .int _=>T = "int"
 | .ref p=>(T = "list" ∧ ∃ xs,SqL K H p xs)∨(T = "tuple" ∧ ∃ o,K.lookup p=some o∧o.cls = .type "tuple" ∧ o.dict=none) ∨
     (T = "dict" ∧ ((∃ kvs,H p=some (.dK kvs))∨∃ kvs,H p=some (.dT kvs)))∨(T = "set" ∧ ∃ S n,H p=some (.set S n))
 | _=>False
theorem zmm {pins:List (Addr×Obj)}{σ:St}{H:Hp}{s:Shared}{T:String}{x:V}{v:Value} (I:Inv X pins σ H s) (r:zo x v) (ty:tyV X.K T x H) :
   s.TypeIs v T∧∀ a,v = .ref a->∃ ob,s.heap.get? a=some ob∧ob.dict=none:=by
 cases x with
 | str z =>
   obtain ⟨t,rfl⟩:=r
   cases (show T = "str" from ty)
   exact ⟨typeIs_str s z t,fun _ e=>nomatch e⟩
 | int i =>
   obtain ⟨t,rfl⟩:=r
   cases (show T = "int" from ty)
   exact ⟨typeIs_int s i t,fun _ e=>nomatch e⟩
 | ref p =>
   cases r
   rcases ty with ⟨rfl,xs,hq⟩ | ⟨rfl,o,hk,hc,hd⟩ | ⟨rfl,hk⟩ | ⟨rfl,S,n,hk⟩
   . obtain ⟨its,_,pl,_⟩:=I.list hq
     refine ⟨pl.isList.typeIs,fun a e=>?_⟩
     cases e
     obtain ⟨o,n,e,c,hd,_⟩:=pl
     exact ⟨o,e,hd⟩
   . refine ⟨⟨o,I.kIn p o hk,hc⟩,fun a e=>?_⟩
     cases e
     exact ⟨o,I.kIn _ o hk,hd⟩
   . have z:∃ o,s.heap.get? p=some o∧o.ExactDict:=by
       rcases hk with ⟨kvs,hk⟩ | ⟨kvs,hk⟩
       . obtain ⟨_,_,_,_,o,_,_,e,ex,_⟩:=I.hok p _ hk
         exact ⟨o,e,ex⟩
       . obtain ⟨_,_,_,_,o,_,_,e,ex,_⟩:=I.hok p _ hk
         exact ⟨o,e,ex⟩
     obtain ⟨o,e,ex⟩:=z
     refine ⟨⟨o,e,ex.1⟩,fun a e2=>?_⟩
     cases e2
     exact ⟨o,e,ex.2.1⟩
   . obtain ⟨o,_,_,_,e,ex,_⟩:=I.hok p _ hk
     refine ⟨⟨o,e,ex.1⟩,fun a e2=>?_⟩
     cases e2
     exact ⟨o,e,ex.2.1⟩
 | _=>exact False.elim ty
noncomputable def zva (K:PySem.W.Frag) (T:String) (r:V->List V->Hp->VK->Prop) (to:TE):TE:=fun σ H Q=>to σ H fun x H1=>tyV K T x H1∧r x [] H1 Q
noncomputable def tBM (K:PySem.W.Frag) (T:String) (r:V->List V->Hp->VK->Prop) (to:TE) (t:TA):TE:=fun σ H Q=>to σ H fun x H1=>tyV K T x H1∧t σ H1 fun xs H2=>r x xs H2 Q
variable {o e:Expr}{es:List Expr}{to:TE}{t:TA}{name:Str}{apos cpos:Pos}{T id:String}{r:V->List V->Hp->VK->Prop}
theorem zsB (pa:PlainAttrs T) (slot:Slot T name id) (hty:typeOf (.builtin id)=pure (.type "method_descriptor")) (hm:MtR X id r) (ho:PE X o to)
   (hbase:attributeBase o name X.env (eval o X.env)=eval o X.env:=by rfl) (hline:(apos.endLine == cpos.line)=true:=by rfl):PE X (.Call (.Attribute o name apos) [] [] cpos) (zva X.K T r to):=by
 intro pins s σ H Q I h
 refine wpAny_Call_method0_late hbase hline (thn (ho pins s σ H _ I h) fun v s1 ⟨x,H1,I1,r1,ty,q1⟩=>?_)
 obtain ⟨h1,h2⟩:=zmm I1 r1 ty
 exact ⟨T,id,pa,slot,hty,h1,h2,Calls.callWith_builtin rfl (PySem.evalArgs_none (hm pins s1 σ H1 x [] v [] Q I1 r1 .nil q1))⟩
theorem zrQ (pa:PlainAttrs T) (slot:Slot T name id) (hty:typeOf (.builtin id)=pure (.type "method_descriptor")) (hm:MtR X id r) (ho:PE X o to) (ha:PA X (e :: es) t)
   (hbase:attributeBase o name X.env (eval o X.env)=eval o X.env:=by rfl)
   (hfew:((backTo cpos (starEach (e :: es) X.env)).all (fun x=>!x.1) && (backToKw cpos (keywordEach [] X.env)).all (fun x=>x.1.isSome)
     && decide ((e :: es).length+([]:List Keyword).length+(if ([]:List Keyword).isEmpty then 0 else 1) < 30))=true:=by rfl)
   (hline:(apos.endLine == cpos.line)=true:=by rfl) (hs:starEach (e :: es) X.env=(false,eval e X.env) :: starEach es X.env:=by rfl) (hplain:(backTo cpos (starEach es X.env)).any (·.1)=false:=by rfl) :
   PE X (.Call (.Attribute o name apos) (e :: es) [] cpos) (tBM X.K T r to t):=by
 intro pins s σ H Q I h
 refine wpAny_Call_method_late hbase hfew hline rfl (thn (ho pins s σ H _ I h) fun v s1 ⟨x,H1,I1,r1,ty,q1⟩=>?_)
 obtain ⟨h1,h2⟩:=zmm I1 r1 ty
 refine ⟨T,id,pa,slot,hty,h1,h2,?_⟩
 have hA:=ha cpos pins s1 σ H1 _ I1 q1
 rw [hs]at hA ⊢
 refine Calls.callWith_builtin (by show (false || (backTo cpos (starEach es X.env)).any (·.1))=false;rw [hplain] <;> rfl) (Calls.evalArgs_plain ?_)
 exact thn hA fun us s2 ⟨vs,H2,I2,r2,q2⟩=>hm pins s2 σ H2 x vs v us Q I2 r1 r2 q2
end
end L2
namespace L2
open PySem PySem.Spec PyProof.Rows
noncomputable def MtM (X:Cx) (id:String) (r:V->List V->Hp->VK->Prop):Prop :=
 ∀ (pins:List (Addr×Obj)) (s:Shared) (σ:St) (H:Hp) (x:V) (xs:List V) (v:Value) (us:List Value) (Q:VK),Inv X pins σ H s->zo x v->zt xs us->r x xs H Q ->
   wpAny (model X.prog X.w) X.A (call (.builtin id) (v :: us)) (EP X pins σ Q) X.xe s
theorem zt.one:∀ {x:V}{us:List Value},zt [x] us->∃ u,us=[u]∧zo x u
 | _,_,.cons r .nil=>⟨_,rfl,r⟩
theorem zt.zero:∀ {us:List Value},zt [] us->us=[]
 | _,.nil=>rfl
theorem zt.reverse {xs:List V}{us:List Value} (h:zt xs us):zt xs.reverse us.reverse:=by
 induction h with
 | nil=>exact .nil
 | cons r t ih=>rw [List.reverse_cons,List.reverse_cons];exact zt.append ih (.cons r .nil)
section
variable {X:Cx}{pins:List (Addr×Obj)}{σ:St}{H:Hp}{s:Shared}{l b:Addr}{xs ys zs:List V}
theorem Inv.lset {its its':List Value}{n:Nat}{f:Array Value->Array Value}{t':Nat} (I:Inv X pins σ H s) (hH:H l=some (.lst xs))
   (e:s.heap.get? l=some { cls := .type "list",data := .seq its.toArray n }) (hf:f its.toArray=its'.toArray) (hv:zt ys its') (hz:ys.length<=sizeLine) :
   Inv X pins σ (upd H l (.lst ys)) { s with heap:=s.heap.update l (Obj.mapSeq f),toks:=t' }:=by
 have q:=PySem.IsL.update e f
 rw [hf]at q
 refine I.write (x:=l) (e:=l) (by rw [hH];exact trivial) (.inl rfl) (fun b' u hb hu=>(Heap.get?_update_other s.heap (Obj.mapSeq f) (Ne.symm hb)).trans hu) ⟨_,q⟩ ?_
 exact ⟨hz,its',_,hv,q⟩
theorem Inv.lnew {its:List Value}{t':Nat} (I:Inv X pins σ H s) (hv:zt ys its) (hz:ys.length<=sizeLine) :
   Inv X pins σ (upd H s.heap.objs.size (.lst ys)) { s with heap:=s.heap.push { cls := .type "list",data := .seq its.toArray },toks:=t' } :=
 I.laid (fun _ _ q=>Heap.get?_push_of_some _ q) (Nat.le_refl _) ⟨hz,its,0,hv,Heap.get?_push_size _ rfl⟩
theorem Inv.fresh (I:Inv X pins σ H s):H s.heap.objs.size=none:=I.hok.fresh (Nat.le_refl _)
theorem Inv.lstM (I:Inv X pins σ H s) (hH:H l=some (.lst xs)):xs.length<=sizeLine∧∃ (its:List Value) (n:Nat),zt xs its∧xs.length=its.length∧s.heap.get? l=some { cls := .type "list",data := .seq its.toArray n }:=by
 obtain ⟨z,its,n,r,e⟩:=I.hok l _ hH
 exact ⟨z,its,n,r,r.length,e⟩
end
section
variable {X:Cx}
noncomputable def zv6:V->List V->Hp->VK->Prop:=fun x vs H Q=>∃ l xs y,x = .ref l∧vs=[y]∧H l=some (.lst xs)∧xs.length < sizeLine∧Q .non (upd H l (.lst (xs++[y])))
theorem zmd:MtM X "list.append" zv6:=by
 intro pins s σ H x vs v us Q I rx rv h
 obtain ⟨l,xs,y,rfl,rfl,hH,hz,q⟩:=h
 cases rx
 obtain ⟨u,rfl,ru⟩:=rv.one
 obtain ⟨z,its,n,r,hl,e⟩:=I.lstM hH
 refine call_meets F.slot_list_append ⟨_,e,rfl⟩ F.entry_list_append (F.args_list_append_2 _ _) (PySem.list_append l its.toArray n u (by rw [List.size_toArray];omega)) ⟨e,?_⟩
 refine ⟨.non,_,I.lset (its':=its++[u]) hH e ς (r.append (.cons ru .nil)) ?_,rfl,q⟩
 rw [List.length_append,List.length_singleton]
 omega
noncomputable def zwS:V->List V->Hp->VK->Prop:=fun x vs H Q=>∃ l xs,x = .ref l∧vs=[]∧H l=some (.lst xs)∧Q .non (upd H l (.lst xs.reverse))
theorem zup:MtM X "list.reverse" zwS:=by
 intro pins s σ H x vs v us Q I rx rv h
 obtain ⟨l,xs,rfl,rfl,hH,q⟩:=h
 cases rx
 have hus:=rv.zero
 subst hus
 obtain ⟨z,its,n,r,hl,e⟩:=I.lstM hH
 refine call_meets F.slot_list_reverse ⟨_,e,rfl⟩ F.entry_list_reverse (F.args_list_reverse_1 _) (AutoSeq1.list_reverse_list_0 l its.toArray n (by rw [List.size_toArray];omega)) ⟨e,?_⟩
 refine ⟨.non,_,I.lset (its':=its.reverse) hH e ς r.reverse ?_,rfl,q⟩
 rw [List.length_reverse]
 omega
noncomputable def ztv:R2:=fun x y H Q=>∃ l b xs zs,x = .ref l∧y = .ref b∧H l=some (.lst xs)∧H b=some (.lst zs)∧xs.length+zs.length<=sizeLine∧∀ p,H p=none->Q (.ref p) (upd H p (.lst (xs++zs)))
theorem ztq:OpR X (binaryOp .Add) ztv:=by
 intro pins s σ H x y v u Q I rx ry h
 obtain ⟨l,b,xs,zs,rfl,rfl,hH,hB,hz,q⟩:=h
 cases rx
 cases ry
 obtain ⟨z,its,n,r,hl,e⟩:=I.lstM hH
 obtain ⟨z2,its2,n2,r2,hl2,e2⟩:=I.lstM hB
 refine PySem.P.add_list e e2 ?_ (by rw [List.size_toArray,List.size_toArray];omega)
 have ea:its.toArray++its2.toArray=(its++its2).toArray:=by simp
 rw [ea]
 exact ⟨.ref _,_,I.lnew (t':=s.toks) (r.append r2) (by rw [List.length_append];omega),rfl,q _ I.fresh⟩
end
section
variable {prog:Program}{w:World}{A:Around}{E:Value->Shared->Prop}{s:Shared}
end
section
variable {X:Cx}
end
end L2
namespace Att
open PySem PySem.W PySem.Calls PyProof.Rows
theorem zrK {P:Params}{h:Heap}:∀ (ns:List Int) (vs:List Value),WellAll P h vs (ns.map WData.int)->IntsAre vs ns:=by
 intro ns
 induction ns with
 | nil =>
   intro vs w
   rw [List.map_nil]at w
   cases w
   exact .nil
 | cons n ns ih =>
   intro vs w
   rw [List.map_cons]at w
   cases w with
   | cons a b =>
     cases a
     exact .cons _ _ (ih _ b)
theorem zsG {l:OpenLaw}{n:Nat} (hn:l.most=some n) {P:Params}{h:Heap}{args:List WData}{vals:List Value}
   (hpre:l.row.toRowW.claim.pre args=true) (hwl:WellAll P h vals args) :
   ∃ a vs ns,vals=[Value.ref a]∧args=[WData.list (ns.map WData.int)]∧h.get? a=some { cls := .type "list",data := .seq vs.toArray }∧IntsAre vs ns∧ns.length<=n:=by
 have hsh:WShape.hasAll [] args [.list .int]=true:=(pre_splitW hpre).1
 have hc:l.pre.holds [] { args:=args }=true:=(pre_splitW hpre).2
 obtain ⟨d,r,rfl,h1,h2⟩:=hasAllW_cons hsh
 obtain rfl:=hasAllW_nil h2
 obtain ⟨xs,rfl,h3⟩:=hasW_list h1
 obtain ⟨ns,rfl⟩:=items_int h3
 have hlen:ns.length<=n:=by
   unfold OpenLaw.pre at hc
   have h4:(WTm.not (.lt (.lit (.int (n:Int))) (.len (.arg 0)))).holds [] { args:=[.list (ns.map .int)] }=true:=by
     have h4:=(holds_andW hc).1
     rw [hn]at h4
     exact h4
   have h5:=condW_of h4 (w_not (w_lt w_lit (w_len_list (w_arg rfl))))
   rw [List.length_map]at h5
   refine Nat.le_of_not_lt fun q=>?_
   have q':(n:Int) < ((ns.length:Nat):Int):=by omega
   first
     | (rw [decide_eq_true q']at h5;exact absurd h5 ϑ)
     | (simp at h5;omega)
 cases hwl with
 | cons w1 w2 =>
   cases w2
   cases w1 with
   | list ho hall=>exact ⟨_,_,ns,rfl,rfl,ho,zrK ns _ hall,hlen⟩
theorem zvr (l:OpenLaw) (args:List WData):l.row.toRowW.claim.post args (.bool true) args=true :=
 postW_of (r:=l.row.toRowW) (X:=(true == true))
   (show WShape.has [] (.bool true) .bool=true by first | rfl | decide | simp [WShape.has,WShape.arms,WShape.armsAll])
   (show (WTm.eq .res (.lit (.bool true))).value [] { args:=args,res:=some (.bool true),after:=args }=some (.bool (true == true)) from w_eq_bool (w_res rfl) w_lit) rfl
theorem attach_call {l:OpenLaw}{n:Nat}{q:Program}{loose:List Str}{XP:(Str->Option Value)->Heap->Prop}{YP:World->Heap->Prop}{d:DefRec}
   (hn:l.most=some n) (hdf:d.params.defaults=[])
   (call:∀ (w:World) (s₀ s₁:Shared) (mg mb:Str->Option Value) (fa:Addr) (o:Obj) (pm cd doc:Value) (a:Addr) (vs:List Value) (ns:List Int),
     Ground q loose [] XP w s₀ mg mb s₁.heap->YP w s₁.heap ->
     s₁.heap.get? fa=some o->o.data = .func (docDef d.name d.params d.body d.scope pm cd doc)->s₁.heap.CodeRec cd d.name->mg d.name=some (.ref fa) ->
     s₁.heap.get? a=some { cls := .type "list",data := .seq vs.toArray }->IntsAre vs ns->ns.length<=n->s₁.gens=#[] ->
     codeAny (model l.prog w) callerA (.call (.ref fa) ⟨[.ref a],[]⟩) (fun r s'=>r = .ok (.ret (.bool true))∧OldK s₁.heap s'.heap∧s'.os=s₁.os∧AllBare s'.gens) s₁) :
   WalkO q loose XP YP l.row.toRowW d [] (fun f vs=>PySem.call f vs):=by
 intro w s₀ s₁ mg mb G Y fa o pm cd doc dV kV ho hd hcd hD hmg hg args vals as hpre hlay hrd hwl hlo
 obtain rfl:dV = .none:=Dflts.none hD hdf
 obtain rfl:kV = .none:=Dflts.noKw hD
 obtain ⟨a,vs,ns,rfl,rfl,hobj,hints,hlen⟩:=zsG hn hpre hwl
 refine enter_call (codeAny_mono (call w s₀ s₁ mg mb fa o pm cd doc a vs ns G Y ho (fd_plain hd) hcd hmg hobj hints hlen hg) fun r s' hq=>?_)
 obtain ⟨rfl,h2,h3,h4⟩:=hq
 exact ⟨.inl ⟨.bool true,.bool true,[],rfl,fun _=>rfl,.bool true,zvr l _,fun _=>⟨List.Pairwise.nil,fun _ hm=>(nomatch hm)⟩⟩,h2,h3,h4⟩
section
variable {prog:Program}{w:World}{A:Around}{E:Value->Shared->Prop}{s:Shared}{K:Frag}
theorem zyP {R:Result->Shared->Prop}{C fI:Addr}{rest:List Value}{kw:List (Str×Value)}
   (X:K.In s.heap) (hm:makesIn K C=true) (hi:findIn K (.ref C) "__init__" = some (some (.ref fI))) (hf:isFn K (.ref fI)=true)
   (h:codeAny (model prog w) (A.under (.builtin "type.__call__" ⟨.ref C :: rest,kw⟩)) (.call (.ref fI) ⟨.ref (s.heap.objs.size+1) :: rest,kw⟩) (InitBack (s.heap.objs.size+1) R)
     { s with heap:=(s.heap.push emptyDict).push (instObj C s.heap.objs.size) }):codeAny (model prog w) A (.call (.ref C) ⟨rest,kw⟩) R s:=by
 obtain ⟨hh,g,d,t,os⟩:=s
 exact make_core (makes_of X hm) (looks_findIn X hi) (fun self=>bind_fn X self (beq_iff_eq.mp hf)) (.inl rfl) h
theorem zyj {x C:Addr}{ox:Obj}{es:List DictEntry}{n:Nat}{name:Str}{expr:Bool}{v:Value}{Q:Value->Shared->Prop}
   (X:K.In s.heap) (I:PySem.W.InstAt s.heap x ox C (some (dictOf es n))) (hg:plainGet K C name=true) (hh:hasDictIn K C=true) (ha:findIn K (.ref C) name=some none)
   (hl:getL name es=some (some v)) (hv:handedIn v=true) (h:Q v { s with toks:=s.toks+1 }):wpAny (model prog w) A (getAttr (.ref x) name expr) Q E s :=
 get_value X I (plainGet_of hg).1 (findObj_own hh ha rfl hl) hv h
end
end Att
namespace L2
open PySem PySem.Spec PyProof.Rows
theorem zic:∀ {vs:List Value}{ns:List Int},IntsAre vs ns->zt (ns.map V.int) vs
 | _,_,.nil=> .nil
 | _,_,.cons n t h=> .cons ⟨t,rfl⟩ (zic h)
noncomputable def zho (H:Hp):Prop:=∀ b,H b=none∨∃ o xs,H b=some (.frz o (.lst xs))
theorem ztS {P:Program}{w:World}{K:PySem.W.Frag}{mg mb:Str->Option Value}{CX:CXT}{k:Nat}{fa a:Addr}{fd:FuncData}{x:Str}{sp:Sp}{s₁:Shared}{vs:List Value}{ns:List Int}
   (KX:K.In s₁.heap) (hns:s₁.heap.Ns mainGlobals mg) (hb:s₁.heap.Ns builtinsNs mb) (hbb:∀ x:Str,x ≠ "__name__" -> mb x=bootBuiltins x) (hlim:s₁.heap.NoLimit) (hg:s₁.gens=#[])
   (ha:s₁.heap.get? a=some { cls := .type "list",data := .seq vs.toArray }) (hi:IntsAre vs ns) (hl:ns.length<=sizeLine) (hr:zL k callerA)
   (F:∀ base:Heap,K.In base->base.Ns mainGlobals mg->zF P w K mg base CX k fa fd [x] sp) (hbind:∀ (s:Shared) (u:Value),BindsTo s fd ⟨[u],[]⟩ [(x,u)])
   (hsp:∀ H:Hp,zho H->SqL K H a (ns.map V.int)->sp [.ref a] H (fun v _=>v = .bl true) fun _ _ _=>False)
   (hCX:∀ H e s',CX [] H s₁ (fun _ _ _=>False) e s'->False) :
   codeAny (model P w) callerA (.call (.ref fa) ⟨[.ref a],[]⟩) (fun r s'=>r = .ok (.ret (.bool true))∧OldK s₁.heap s'.heap∧s'.os=s₁.os∧AllBare s'.gens) s₁:=by
 have rv:=zic hi
 have lenV:=hi.length
 have core:∀ H:Hp,zho H->SqL K H a (ns.map V.int)->HOk P w H s₁.heap->(∀ b,H b≠none->b=a)->(H a≠none->K.lookup a=none) ->
     codeAny (model P w) callerA (.call (.ref fa) ⟨[.ref a],[]⟩) (fun r s'=>r = .ok (.ret (.bool true))∧OldK s₁.heap s'.heap∧s'.os=s₁.os∧AllBare s'.gens) s₁:=by
   intro H hO hS hok hA hK
   have base_of:∀ {b:Addr} {o:Obj},s₁.heap.get? b=some o->H b=none->(zee s₁.heap H).get? b=some o:=fun e n=>zr9 e n
   have noA:∀ {b:Addr} {o:Obj} {es:Array DictEntry} {ep:Nat},s₁.heap.get? b=some o->o.data = .dict es ep->H b=none:=fun {b o es ep} e d=>by
     cases q:H b with
     | none=>rfl
     | some u =>
       have e':b=a:=hA b (by rw [q];simp)
       subst e'
       rw [ha]at e;cases e
       have d':Data.seq vs.toArray _=Data.dict es ep:=d
       cases d'
   have nsK:∀ {b:Addr} {m:Str->Option Value},s₁.heap.Ns b m->(zee s₁.heap H).Ns b m:=fun {b m} ⟨o,es,ep,e,d,r⟩=>⟨o,es,ep,base_of e (noA e d),d,r⟩
   have hKb:K.In (zee s₁.heap H):=fun b o e=>base_of (KX b o e) (by
     cases q:H b with
     | none=>rfl
     | some u =>
       have e':b=a:=hA b (by rw [q];simp)
       subst e'
       rw [hK (by rw [q];simp)]at e;cases e)
   have hM:Mod K mg (zee s₁.heap H):=⟨hKb,nsK hns,⟨mb,nsK hb,hbb⟩,let ⟨mc,h1,h2⟩:=hlim;⟨mc,nsK h1,h2⟩⟩
   have e0:zfE P w K mg (zee s₁.heap H) callerA [] s₁ H:=⟨rfl,hM,fun b o e=>ztm e,Nat.le_of_eq (zwe _ _),trivial,fun b hb=>absurd (show b∈([]:List Addr) from hb) ς,hok,.of_eq hg⟩
   refine codeAny_mono ((F _ hKb (nsK hns)).run callerA [] s₁ H ⟨[.ref a],[]⟩ [.ref a] [.ref a] _ _ hr e0 (hbind s₁ (.ref a)) (.cons rfl .nil) (hsp H hO hS)) fun r s' h=>?_
   cases r with
   | error e=>exact (hCX H e s' h).elim
   | ok fl =>
     cases fl with
     | next=>exact False.elim h
     | brk=>exact False.elim h
     | cont=>exact False.elim h
     | ret u =>
       obtain ⟨v,H',os,bare,un,hok',r',q⟩:=h
       have q':v = .bl true:=q
       subst q'
       obtain rfl:u=Value.bool true:=r'
       refine ⟨rfl,OldK.of_keep fun b o e=>?_,os,bare⟩
       cases q:H b with
       | none=>exact un.keep b o e q (by intro z;exact absurd (show b∈([]:List Addr) from z) ς) ς
       | some u =>
         rcases hO b with z | ⟨ob,xs,z⟩
         . rw [q]at z;cases z
         . have z2:=un.frzs b ob _ z
           obtain ⟨e1,_⟩:=hok b _ z
           obtain ⟨e2,_⟩:=hok' b _ z2
           rw [e]at e1;cases e1
           exact e2
 cases hk:K.lookup a with
 | some o =>
   have e:=KX a o hk
   rw [ha]at e
   cases e
   refine core (fun _=>none) (fun _=> .inl rfl) (.inr ⟨_,vs.toArray,_,hk,rfl,rfl,rfl,by rw [List.size_toArray,lenV];exact hl,by simpa using rv⟩) (fun b u z=>by have z':(none:Option HO)=some u:=z;cases z') (fun b z=>absurd rfl z) fun z=>absurd rfl z
 | none =>
   refine core (fun b=>if b=a then some (.frz { cls := .type "list",data := .seq vs.toArray } (.lst (ns.map V.int))) else none) (fun b=>?_) (.inl (.inr ⟨{ cls := .type "list",data := .seq vs.toArray },if_pos rfl⟩)) (fun b u z=>?_) (fun b z=>?_) fun _=>hk
   . by_cases hb:b=a
     . exact .inr ⟨_,_,if_pos hb⟩
     . exact .inl (if_neg hb)
   . by_cases hb:b=a
     . have z':=(if_pos hb).symm.trans z
       cases z'
       subst hb
       exact ⟨ha,by rw [List.length_map];exact hl,vs,_,rv,ha⟩
     . have z':=(if_neg hb).symm.trans z
       cases z'
   . by_cases hb:b=a
     . exact hb
     . exact absurd (if_neg hb) z
end L2
namespace L2
open PySem PySem.Spec PyProof.Rows
theorem walk_of {l:PySem.W.OpenLaw}{n k:Nat}{q:Program}{loose:List Str}{XP:(Str->Option Value)->Heap->Prop}{YP:World->Heap->Prop}{d:DefRec}{K:Params->PySem.W.Frag}{CX:World->CXT}{sp:World->Sp}{x:Str}
   (hn:l.most=some n) (hn2:n<=sizeLine) (hdf:d.params.defaults=[]) (hr:zL k callerA)
   (hY:∀ (w:World) (h:Heap),YP w h->(K w.params).In h)
   (F:∀ (w:World) (mg:Str->Option Value) (fa:Addr) (h:Heap),(K w.params).In h->h.Ns mainGlobals mg->mg d.name=some (.ref fa) ->
     ∃ fd:FuncData,(∀ (s:Shared) (u:Value),BindsTo s fd ⟨[u],[]⟩ [(x,u)]) ∧
       ∀ base:Heap,(K w.params).In base->base.Ns mainGlobals mg->zF l.prog w (K w.params) mg base (CX w) k fa fd [x] (sp w))
   (hsp:∀ (w:World) (H:Hp) (a:Addr) (ns:List Int),ns.length<=n->zho H->SqL (K w.params) H a (ns.map V.int)->sp w [.ref a] H (fun v _=>v = .bl true) fun _ _ _=>False)
   (hCX:∀ (w:World) (H:Hp) (s:Shared) (e:Value) (s':Shared),CX w [] H s (fun _ _ _=>False) e s'->False) :
   PySem.W.WalkO q loose XP YP l.row.toRowW d [] (fun f vs=>PySem.call f vs):=by
 refine Att.attach_call hn hdf fun w s₀ s₁ mg mb fa o pm cd doc a vs ns G Y ho hd hcd hmg hobj hints hlen hg=>?_
 have KX:=hY w _ Y
 obtain ⟨fd,hb,hF⟩:=F w mg fa _ KX G.T.g hmg
 exact ztS KX G.T.g G.T.b G.T.builtins G.T.nolimit hg hobj hints (Nat.le_trans hlen hn2) hr hF hb (fun H hO hS=>hsp w H a ns hlen hO hS) fun H e s'=>hCX w H s₁ e s'
end L2
namespace L2
open PySem PySem.Spec PyProof.Rows
noncomputable def zgv (s:Stmt) (j:Nat):Stmt:=match s with
 | .ClassDef _ _ _ body _ _ _ _ _ _ _=>body.getD j (.Pass ⟨0,0,0,0⟩)
 | _=> .Pass ⟨0,0,0,0⟩
noncomputable def zdo (s:Stmt):Arguments:=match s with
 | .FunctionDef _ a _ _ _ _ _ _ _ _=>a
 | _=>{ posonlyargs:=[],args:=[],vararg:=none,kwonlyargs:=[],kw_defaults:=[],kwarg:=none,defaults:=[] }
noncomputable def zc6 (s:Stmt):List Stmt:=match s with
 | .FunctionDef _ _ b _ _ _ _ _ _ _=>b
 | _=>[]
noncomputable def zA (s:Stmt):Scope:=match s with
 | .FunctionDef _ _ _ _ _ _ sc _ _ _=>sc
 | _=>{ kind := .function,names:=[],isGenerator:=false,isCoroutine:=false }
noncomputable abbrev CX0:CXT:=fun _ _ _ _ _ _=>False
noncomputable abbrev E0:XK:=fun _ _ _=>False
theorem ziE {X:Cx}:zfJ CX0 X E0:=fun _ _ _ _ _ _ _ h=>h.elim
structure Fun (K:PySem.W.Frag) (x qual:Str) (st:Stmt) (f:Addr) (fd:FuncData):Prop where
 ex:∃ (oc:Value) (od:Option Addr) (kV doc pm:Value) (an:Option Addr) (cdv ct:Value) (osl:Array (Option Value)),
   fd=PySem.W.fnOf x qual (zdo st) (zc6 st) (zA st) .none kV doc pm an cdv ct∧K.lookup f=some ⟨oc,od,.func fd,osl⟩∧PySem.W.codeIn K cdv qual=true
 kp:PySem.W.keepIn K (.ref f)=true
section
variable {P:Program}{w:World}{K:PySem.W.Frag}{mg:Str->Option Value}{base:Heap}
theorem Fun.ok {x qual:Str}{st:Stmt}{f:Addr}{fd:FuncData}{N ps:List Str}{k:Nat}{sp:Sp} (F:Fun K x qual st f fd) (S:zQ N ps (zA st)) (len:∀ vs H Q E,sp vs H Q E->vs.length=ps.length)
   (hbody:∀ (cdv:Value) (A:Around) (outer:List Env) (s:Shared) (H:Hp) (vs:List V) (Q:VK) (E:XK),zL k (A.deeper (envOfC qual (zA st) s.heap.objs.size f cdv))->sp vs H Q E ->
     ∃ t,PSs (zfH CX0 P w K mg base N qual (zA st) f cdv A outer s H E).nox (zc6 st) t∧t { nx:=fun _ H'=>Q .non H',rt:=Q } (start N vs) H):zF P w K mg base CX0 (k+1) f fd ps sp:=by
 obtain ⟨oc,od,kV,doc,pm,an,cdv,ct,osl,rfl,lk,hcd⟩:=F.ex
 refine zuB lk hcd S len fun A outer s H vs Q E hr hsp=>?_
 obtain ⟨t,h,q⟩:=hbody cdv A outer s H vs Q E hr hsp
 exact ⟨t,h.nox,q⟩
theorem Fun.binds {x qual:Str}{st:Stmt}{f:Addr}{fd:FuncData}{ps:List Str} (F:Fun K x qual st f fd)
   (h:∀ (kV doc pm:Value) (an:Option Addr) (cdv ct:Value) (us:List Value),us.length=ps.length->bindArgs (PySem.W.fnOf x qual (zdo st) (zc6 st) (zA st) .none kV doc pm an cdv ct) ⟨us,[]⟩=pure (ps.zip us)):zc4 K fd ps []:=by
 obtain ⟨oc,od,kV,doc,pm,an,cdv,ct,osl,rfl,lk,hcd⟩:=F.ex
 exact .all (h kV doc pm an cdv ct)
theorem zgr {x qual:Str}{st:Stmt}{f:Addr}{oc:Value}{od an:Option Addr}{osl:Array (Option Value)}{kV doc pm cdv ct:Value} (l:K.lookup f=some ⟨oc,od,.func (PySem.W.fnOf x qual (zdo st) (zc6 st) (zA st) .none kV doc pm an cdv ct),osl⟩)
   (c:PySem.W.codeIn K cdv qual=true) (k:PySem.W.keepIn K (.ref f)=true):Fun K x qual st f (PySem.W.fnOf x qual (zdo st) (zc6 st) (zA st) .none kV doc pm an cdv ct):=⟨⟨oc,od,kV,doc,pm,an,cdv,ct,osl,rfl,l,c⟩,k⟩
end
theorem zit {A:Around}{k:Nat} (hr:zL k A):A.units+1 < cLine:=Nat.lt_of_le_of_lt (Nat.add_le_add_left (by decide:1<=64) _) hr.units
section
variable {X:Cx}
end
end L2
end
section
namespace L2
open PySem PySem.Spec PyProof.Rows
section
variable {κ:Type} [DecidableEq κ]
noncomputable def zcZ (kvs:List (κ×V)) (k:κ):Option V:=(kvs.find? fun kv=>decide (kv.1=k)).map (·.2)
noncomputable def zcg (kvs:List (κ×V)) (k:κ) (v:V):List (κ×V) :=
 if (kvs.any fun kv=>decide (kv.1=k))=true then kvs.map (fun kv=>if kv.1=k then (kv.1,v) else kv) else kvs++[(k,v)]
theorem ziZ {p:κ×V}{r:List (κ×V)}{k:κ} (e:p.1=k):zcZ (p :: r) k=some p.2:=by simp [zcZ,List.find?_cons,e]
theorem ziR {p:κ×V}{r:List (κ×V)}{k:κ} (e:¬ p.1=k):zcZ (p :: r) k=zcZ r k:=by simp [zcZ,List.find?_cons,e]
theorem zl1 (k:κ):∀ kvs:List (κ×V),(kvs.any fun kv=>decide (kv.1=k))=(zcZ kvs k).isSome
 | []=>rfl
 | p :: r=>by
   rw [List.any_cons]
   by_cases e:p.1=k
   . simp only [ziZ e,decide_eq_true e,Bool.true_or,Option.isSome_some]
   . rw [ziR e,decide_eq_false e,Bool.false_or];exact zl1 k r
theorem zjU (kvs:List (κ×V)) (k:κ) (v:V):(zcg kvs k v).length<=kvs.length+1:=by
 unfold zcg
 split
 . rw [List.length_map];omega
 . rw [List.length_append,List.length_cons,List.length_nil];omega
theorem zcF.isSome_eq {o:Option V}{u:Option Value} (r:zcF o u):o.isSome=u.isSome:=by
 cases o with
 | none=>cases u with
   | none=>rfl
   | some _=>exact (show False from r).elim
 | some _=>cases u with
   | none=>exact (show False from r).elim
   | some _=>rfl
theorem KV.val {kvs:List (κ×V)}{vs:List (κ×Value)} (r:KV kvs vs) (k:κ):zcF (zcZ kvs k) (valueAt vs k):=by
 unfold KV at r
 induction r with
 | nil=>exact True.intro
 | @cons p q ps qs h t ih =>
   obtain ⟨h1,h2⟩:=h
   by_cases e:p.1=k
   . have e':q.1=k:=h1.symm.trans e
     have b:valueAt (q :: qs) k=some q.2:=by simp [valueAt,List.find?_cons,e']
     rw [ziZ e,b];exact h2
   . have e':¬ q.1=k:=fun z=>e (h1.trans z)
     have b:valueAt (q :: qs) k=valueAt qs k:=by simp [valueAt,List.find?_cons,e']
     rw [ziR e,b];exact ih
theorem KV.any {kvs:List (κ×V)}{vs:List (κ×Value)} (r:KV kvs vs) (k:κ):(kvs.any fun kv=>decide (kv.1=k))=vs.any fun kv=>decide (kv.1=k):=by
 unfold KV at r
 induction r with
 | nil=>rfl
 | cons h t ih=>rw [List.any_cons,List.any_cons,ih,h.1]
theorem KV.repl {kvs:List (κ×V)}{vs:List (κ×Value)} (r:KV kvs vs) (k:κ) {y:V}{u:Value} (ry:zo y u) :
   KV (kvs.map fun kv=>if kv.1=k then (kv.1,y) else kv) (vs.map fun kv=>if kv.1=k then (kv.1,u) else kv):=by
 unfold KV at r ⊢
 induction r with
 | nil=>exact .nil
 | @cons p q ps qs h t ih =>
   rw [List.map_cons,List.map_cons]
   refine .cons ?_ ih
   obtain ⟨h1,h2⟩:=h
   by_cases e:p.1=k
   . rw [if_pos e,if_pos (h1.symm.trans e)];exact ⟨h1,ry⟩
   . rw [if_neg e,if_neg (fun z=>e (h1.trans z))];exact ⟨h1,h2⟩
theorem KV.put {kvs:List (κ×V)}{vs:List (κ×Value)} (r:KV kvs vs) (k:κ) {y:V}{u:Value} (ry:zo y u):KV (zcg kvs k y) (stored vs k u):=by
 unfold zcg stored
 rw [r.any k]
 by_cases e:(vs.any fun kv=>decide (kv.1=k))=true
 . rw [if_pos e,if_pos e];exact r.repl k ry
 . rw [if_neg e,if_neg e];exact Paired.snoc r ⟨rfl,ry⟩
theorem KV.keys {kvs:List (κ×V)}{vs:List (κ×Value)} (r:KV kvs vs):kvs.map (·.1)=vs.map (·.1):=by
 unfold KV at r
 induction r with
 | nil=>rfl
 | cons h t ih=>rw [List.map_cons,List.map_cons,ih,h.1]
theorem KV.length {kvs:List (κ×V)}{vs:List (κ×Value)} (r:KV kvs vs):kvs.length=vs.length:=Paired.length r
end
theorem zgB {P:Program}{w:World}{k:Key}{u:Value} (r:zo (kV k) u):(zbj P w).is k u=true:=by
 cases k with
 | inl i=>obtain ⟨t,e⟩:=(show ∃ t,u=Value.int i t from r);subst e;exact ztg P w i t
 | inr x=>obtain ⟨t,e⟩:=(show ∃ t,u=Value.str x t from r);subst e;exact zvS P w x t
theorem zno {P:Program}{w:World}:∀ {ks:List Key}{us:List Value},zt (ks.map kV) us->ItemsAre (zbj P w) ks us
 | [],_,r=>by rw [List.map_nil]at r;cases r;exact .nil
 | k :: ks,_,r=>by
   rw [List.map_cons]at r
   cases r with
   | cons h t=>exact .cons (zgB h) (zno t)
noncomputable abbrev KT (H:Hp):List (List Key×V)->List (List Key×Addr×Value)->Prop:=Paired fun p q=>p.1=q.1∧H q.2.1=some (.tup (p.1.map kV))∧zo p.2 q.2.2
theorem KT.val {H:Hp}{kvs:List (List Key×V)}{xs:List (List Key×Addr×Value)} (r:KT H kvs xs) (k:List Key):zcF (zcZ kvs k) ((atKey xs k).map (·.2)):=by
 induction r with
 | nil=>exact True.intro
 | @cons p q ps qs h t ih =>
   obtain ⟨h1,_,h2⟩:=h
   by_cases e:p.1=k
   . have e':q.1=k:=h1.symm.trans e
     have b:atKey (q :: qs) k=some q.2:=by simp [atKey,List.find?_cons,e']
     rw [ziZ e,b];exact h2
   . have e':¬ q.1=k:=fun z=>e (h1.trans z)
     have b:atKey (q :: qs) k=atKey qs k:=by simp [atKey,List.find?_cons,e']
     rw [ziR e,b];exact ih
theorem KT.repl {H:Hp}{kvs:List (List Key×V)}{xs:List (List Key×Addr×Value)} (r:KT H kvs xs) (k:List Key) {y:V}{u:Value} (ry:zo y u) :
   KT H (kvs.map fun kv=>if kv.1=k then (kv.1,y) else kv) (xs.map (putAt k u)):=by
 induction r with
 | nil=>exact .nil
 | @cons p q ps qs h t ih =>
   rw [List.map_cons,List.map_cons]
   refine .cons ?_ ih
   obtain ⟨h1,h2,h3⟩:=h
   unfold putAt
   by_cases e:p.1=k
   . rw [if_pos e,if_pos (h1.symm.trans e)];exact ⟨h1,h2,ry⟩
   . rw [if_neg e,if_neg (fun z=>e (h1.trans z))];exact ⟨h1,h2,h3⟩
theorem KT.put {H:Hp}{kvs:List (List Key×V)}{xs:List (List Key×Addr×Value)} (r:KT H kvs xs) (k:List Key) {b:Addr}{y:V}{u:Value} (hb:H b=some (.tup (k.map kV))) (ry:zo y u) :
   KT H (zcg kvs k y) (storedH xs k b u):=by
 have e:(kvs.any fun kv=>decide (kv.1=k))=(atKey xs k).isSome:=by
   rw [zl1,(r.val k).isSome_eq,Option.isSome_map]
 unfold zcg storedH
 rw [e]
 by_cases q:(atKey xs k).isSome=true
 . rw [if_pos q,if_pos q];exact r.repl k ry
 . rw [if_neg q,if_neg q];exact Paired.snoc r ⟨rfl,hb,ry⟩
theorem KT.keeps {H H':Hp}{kvs:List (List Key×V)}{xs:List (List Key×Addr×Value)} (r:KT H kvs xs) (ht:∀ b ys,H b=some (.tup ys)->H' b=some (.tup ys)):KT H' kvs xs :=
 Paired.mapP r fun _ _ z=>⟨z.1,ht _ _ z.2.1,z.2.2⟩
section
variable {P:Program}{w:World}{H:Hp}{h:Heap}{a:Addr}
theorem zm4 {u:HO} (ok:HOk P w H h) (e:Rd H a u):zbp P w H h a u:=e.ok ok
theorem zg5 {kvs:List (Key×V)} (ok:HOk P w H h) (e:Rd H a (.dK kvs)):kvs.length<=sizeLine∧(a == sysModules)=false∧∃ vs,KV kvs vs∧h.DictOf (zbj P w) a vs :=
 show zbp P w H h a (.dK kvs) from zm4 ok e
theorem zl0 {kvs:List (Key×V)} (ok:HOk P w H h) (e:H a=some (.dK kvs)):kvs.length<=sizeLine∧(a == sysModules)=false∧∃ vs,KV kvs vs∧h.DictOf (zbj P w) a vs:=zg5 ok (.inl e)
theorem zhy {ks:List Key} (ok:HOk P w H h) (e:H a=some (.tup (ks.map kV))):(tupleKind (zbj P w)).is h ks a:=by
 obtain ⟨_,its,r,o,h1,h2,n,h3⟩:=(show zbp P w H h a (.tup (ks.map kV)) from ok a _ e)
 exact ⟨o,its.toArray,n,h1,h2,h3,by simpa using zno r⟩
theorem zht {kvs:List (List Key×V)} (ok:HOk P w H h) (e:Rd H a (.dT kvs)):kvs.length<=sizeLine∧(a == sysModules)=false ∧
   ∃ xs,KT H kvs xs∧h.DictOfH (tupleKind (zbj P w)) a xs:=by
 obtain ⟨z,y,xs,r,o,es,ep,h1,h2,h3,h4,h5⟩:=(show zbp P w H h a (.dT kvs) from zm4 ok e)
 refine ⟨z,y,xs,r,o,es,ep,h1,h2,h3,h4,fun x hx=>?_,h5⟩
 have all:∀ {l:List (List Key×V)} {m:List (List Key×Addr×Value)},KT H l m->∀ x∈m,(tupleKind (zbj P w)).is h x.1 x.2.1:=by
   intro l m q
   induction q with
   | nil=>intro x hx;exact nomatch hx
   | @cons p q ps qs hq t ih =>
     intro x hx
     rcases List.mem_cons.mp hx with e | hx
     . subst e
       exact zhy ok (by rw [<- hq.1];exact hq.2.1)
     . exact ih x hx
 exact all r x hx
theorem zuF {kvs:List (List Key×V)} (ok:HOk P w H h) (e:H a=some (.dT kvs)):kvs.length<=sizeLine∧(a == sysModules)=false ∧
   ∃ xs,KT H kvs xs∧h.DictOfH (tupleKind (zbj P w)) a xs:=zht ok (.inl e)
end
noncomputable def zdQ (H:Hp) (a:Addr) (y:V) (r:Option V):Prop :=
 (∃ kvs k,Rd H a (.dK kvs)∧y=kV k∧r=zcZ kvs k)∨∃ kvs k b,Rd H a (.dT kvs)∧y = .ref b∧H b=some (.tup (k.map kV))∧r=zcZ kvs k
noncomputable def zhE (H:Hp) (a:Addr) (y v:V) (H':Hp):Prop :=
 (∃ kvs k,H a=some (.dK kvs)∧y=kV k∧kvs.length < sizeLine∧H'=upd H a (.dK (zcg kvs k v))) ∨
 ∃ kvs k b,H a=some (.dT kvs)∧y = .ref b∧H b=some (.tup (k.map kV))∧kvs.length < sizeLine∧H'=upd H a (.dT (zcg kvs k v))
theorem zdQ.k {H:Hp}{a:Addr}{kvs:List (Key×V)}{k:Key} (e:H a=some (.dK kvs)):zdQ H a (kV k) (zcZ kvs k) := .inl ⟨kvs,k,.inl e,rfl,rfl⟩
theorem zhE.k {H:Hp}{a:Addr}{kvs:List (Key×V)}{k:Key}{v:V} (e:H a=some (.dK kvs)) (hl:kvs.length < sizeLine):zhE H a (kV k) v (upd H a (.dK (zcg kvs k v))) := .inl ⟨kvs,k,e,rfl,hl,rfl⟩
section
variable {X:Cx}{pins:List (Addr×Obj)}{σ:St}{H:Hp}{s:Shared}{a:Addr}{y v:V}{u r:Value}{o:Option V}{A:Around}{E:Value->Shared->Prop}
theorem Inv.big (I:Inv X pins σ H s):sysModules < s.heap.objs.size:=by
 have h:mainGlobals < s.heap.objs.size:=(I.mod.glob.keeps I.bk).lt
 exact Nat.lt_trans ϑ h
theorem zvA {Q:Value->Shared->Prop} (hu:A.units+1 < cLine) (I:Inv X pins σ H s) (g:zdQ H a y (some v)) (ry:zo y u) (h:∀ w' s',Inv X pins σ H s'->zo v w'->Q w' s') :
   wpAny (model X.prog X.w) A (getItem (.ref a) u) Q E s:=by
 rcases g with ⟨kvs,k,e,ey,l⟩ | ⟨kvs,k,b,e,ey,eb,l⟩
 . subst ey
   obtain ⟨z,hd,vs,rel,dd⟩:=zg5 I.hok e
   obtain ⟨w',hw,rw'⟩:=zcF.some_of (v:=v) (o:=valueAt vs k) (by rw [l];exact rel.val k)
   exact wpAny_getItem_of (zgB ry) dd.mapOf hw (h w' _ (I.tok _) rw')
 . subst ey
   cases (show u=Value.ref b from ry)
   obtain ⟨z,hd,xs,rel,dd⟩:=zht I.hok e
   obtain ⟨w',hw,rw'⟩:=zcF.some_of (v:=v) (o:=(atKey xs k).map (·.2)) (by rw [l];exact rel.val k)
   obtain ⟨p,hp,hp2⟩:=Option.map_eq_some_iff.mp hw
   refine wpAny_getItem_heap (tupleKind_room_in1 hu) (zhy I.hok eb) dd hp ?_
   rw [hp2]
   exact h w' _ (I.tok _) rw'
theorem zts {Q:Value->Shared->Prop} (hu:A.units+1 < cLine) (I:Inv X pins σ H s) (g:zdQ H a y o) (ry:zo y u) (h:∀ s',Inv X pins σ H s'->Q (.bool o.isSome) s') :
   wpAny (model X.prog X.w) A (compareOp .In u (.ref a)) Q E s:=by
 rcases g with ⟨kvs,k,e,ey,l⟩ | ⟨kvs,k,b,e,ey,eb,l⟩
 . subst ey
   obtain ⟨z,hd,vs,rel,dd⟩:=zg5 I.hok e
   refine wpAny_in_of (zgB ry) hd dd.mapOf ?_
   rw [<- (rel.val k).isSome_eq,<- l]
   exact h _ (I.tok _)
 . subst ey
   cases (show u=Value.ref b from ry)
   obtain ⟨z,hd,xs,rel,dd⟩:=zht I.hok e
   refine wpAny_in_heap (tupleKind_room_in1 hu) (zhy I.hok eb) hd dd ?_
   have q:=(rel.val k).isSome_eq
   rw [Option.isSome_map]at q
   rw [<- q,<- l]
   exact h _ (I.tok _)
theorem zvm {Q:Value->Shared->Prop} (hu:A.units+1 < cLine) (I:Inv X pins σ H s) (g:zdQ H a y o) (ry:zo y u) (h:∀ s',Inv X pins σ H s'->Q (.bool (!o.isSome)) s') :
   wpAny (model X.prog X.w) A (compareOp .NotIn u (.ref a)) Q E s:=by
 rcases g with ⟨kvs,k,e,ey,l⟩ | ⟨kvs,k,b,e,ey,eb,l⟩
 . subst ey
   obtain ⟨z,hd,vs,rel,dd⟩:=zg5 I.hok e
   refine wpAny_notIn_of (zgB ry) hd dd.mapOf ?_
   rw [<- (rel.val k).isSome_eq,<- l]
   exact h _ (I.tok _)
 . subst ey
   cases (show u=Value.ref b from ry)
   obtain ⟨z,hd,xs,rel,dd⟩:=zht I.hok e
   refine wpAny_notIn_heap (tupleKind_room_in1 hu) (zhy I.hok eb) hd dd ?_
   have q:=(rel.val k).isSome_eq
   rw [Option.isSome_map]at q
   rw [<- q,<- l]
   exact h _ (I.tok _)
theorem zmX {h':Heap}{t':Nat}{ob:HO} (I:Inv X pins σ H s) (mu:Mut (H a)) (hs:Heap.SameBut a s.heap h') (he:∃ q,h'.get? a=some q) (new:zbp X.prog X.w (upd H a ob) h' a ob) :
   Inv X pins σ (upd H a ob) { s with heap:=h',toks:=t' } :=
 I.write (x:=a) (e:=a) mu (.inl rfl) (fun b q hb z=>(hs.2 b hb).trans z) he new
theorem zlv {P:Program}{w:World}{H':Hp}{h':Heap}{kvs:List (Key×V)}{vs:List (Key×Value)} (z:kvs.length<=sizeLine) (hd:(a == sysModules)=false) (rel:KV kvs vs) (dd:h'.DictOf (zbj P w) a vs) :
   zbp P w H' h' a (.dK kvs):=⟨z,hd,vs,rel,dd⟩
theorem zus {H':Hp}{Q:Unit->Shared->Prop} (hu:A.units+1 < cLine) (I:Inv X pins σ H s) (g:zhE H a y v H') (ry:zo y u) (rv:zo v r) (h:∀ s',Inv X pins σ H' s'->Q () s') :
   wpAny (model X.prog X.w) A (setItem (.ref a) u r) Q E s:=by
 rcases g with ⟨kvs,k,e,ey,l,eH⟩ | ⟨kvs,k,b,e,ey,eb,l,eH⟩
 . subst ey eH
   obtain ⟨z,hd,vs,rel,dd⟩:=zl0 I.hok e
   have hz:vs.length<=sizeLine:=by rw [<- rel.length];exact z
   have hl:(zcg kvs k v).length<=sizeLine:=by have:=zjU kvs k v;omega
   refine wpAny_setItem_pairs (hsz:=hz) (zgB ry) dd fun h' dd' hs=>h _ ?_
   have he:∃ q,h'.get? a=some q:=let ⟨q,_,_,hq,_⟩:=dd';⟨q,hq⟩
   exact zmX I (by rw [e];exact True.intro) hs he (zlv hl hd (rel.put k rv) dd')
 . subst ey eH
   cases (show u=Value.ref b from ry)
   obtain ⟨z,hd,xs,rel,dd⟩:=zuF I.hok e
   have hz:xs.length<=sizeLine:=by rw [<- Paired.length rel];exact z
   have hl:(zcg kvs k v).length<=sizeLine:=by have:=zjU kvs k v;omega
   refine wpAny_setItem_heap (hsz:=hz) (tupleKind_room_in1 hu) (zhy I.hok eb) dd fun h' dd' hs=>h _ ?_
   obtain ⟨q,es,ep,hq,h2,h3,h4,_,h5⟩:=dd'
   refine zmX I (by rw [e];exact True.intro) hs ⟨q,hq⟩ ⟨hl,hd,_,(rel.put k eb rv).keeps fun c ys ec=>?_,q,es,ep,hq,h2,h3,h4,h5⟩
   rw [zU (zrY ec e (fun z=>nomatch z))]
   exact ec
end
section
variable {X:Cx}{pins:List (Addr×Obj)}{σ:St}{H:Hp}{s:Shared}{a:Addr}{kvs:List (Key×V)}{k:Key}{u:Value}{A:Around}{E:Value->Shared->Prop}
end
theorem zsm {X:Cx}{pins:List (Addr×Obj)}{σ:St}{H:Hp}{s:Shared}{a:Addr}{y:V}{o:Option V} (I:Inv X pins σ H s) (g:zdQ H a y o):s.TypeIs (.ref a) "dict":=by
 rcases g with ⟨kvs,k,e,_,_⟩ | ⟨kvs,k,b,e,_,_,_⟩
 . obtain ⟨_,_,vs,_,dd⟩:=zg5 I.hok e
   exact dd.typeIs
 . obtain ⟨_,_,xs,_,dd⟩:=zht I.hok e
   exact dd.typeIs
section
variable {X:Cx}{o i e value:Expr}{pos pos' tpos:Pos}{td ty tv:TE}
end
theorem zvJ {P:Program}{w:World}{H:Hp} (h:Heap) (hb:sysModules < h.objs.size):zbp P w H (h.push { cls := .type "dict",data := .dict #[] }) h.objs.size (.dK []) :=
 ⟨Nat.zero_le _,beq_eq_false_iff_ne.mpr (Ne.symm (Nat.ne_of_lt hb)),[],.nil,Heap.DictOf.new h⟩
noncomputable def zuR:TE:=fun _ H Q=>∀ p,H p=none->Q (.ref p) (upd H p (.dK []))
section
variable {X:Cx}{pos:Pos}
theorem zwh:PE X (.Dict [] [] pos) zuR:=fun pins s σ H Q I h =>
 wpAny_Dict_empty ⟨.ref s.heap.objs.size,_,I.laid (a:=s.heap.objs.size) (o := .dK []) (t':=s.toks) (fun _ _ q=>Heap.get?_push_of_some _ q) (Nat.le_refl _) (zvJ s.heap I.big),rfl,h _ (I.hok.fresh (Nat.le_refl _))⟩
end
section
variable {X:Cx}{pins:List (Addr×Obj)}{σ:St}{H:Hp}{s:Shared}{a:Addr}{y d:V}{u r:Value}{o:Option V}{A:Around}{E:Value->Shared->Prop}
end
section
variable {X:Cx}{o e f:Expr}{apos cpos:Pos}{td ty tx:TE}
end
section
variable {X:Cx}{pins:List (Addr×Obj)}{σ:St}{H:Hp}{s:Shared}{a:Addr}{kvs:List (Key×V)}{A:Around}{E:Value->Shared->Prop}
end
section
variable {X:Cx}{pins:List (Addr×Obj)}{σ:St}{H:Hp}{s:Shared}{a:Addr}{y:V}{u:Value}{A:Around}{E:Value->Shared->Prop}
end
end L2
end
section
namespace L2
open PySem PySem.Spec PyProof.Rows
theorem zj0 {env:Env}:∀ (names:List (Str×NameKind)) (acc:List (Str×Addr)),(∀ x∈names,x.2 = .free->∃ c,env.cells.lookup x.1=some c) ->
   ∃ cl:List (Str×Addr),(forIn names acc fun (x:Str×NameKind) (cs:List (Str×Addr))=>if (x.2 == NameKind.free)=true then (do let a <- cellOf env x.1;pure (ForInStep.yield ((x.1,a) :: cs)):Sem _) else pure (ForInStep.yield cs))=pure cl ∧
     (∀ x c,(x,c)∈cl->(x,c)∈acc∨((x,NameKind.free)∈names∧env.cells.lookup x=some c)) ∧
     (∀ x c,(x,c)∈acc∨((x,NameKind.free)∈names∧env.cells.lookup x=some c)->(x,c)∈cl)
 | [],acc,_=>⟨acc,rfl,fun x c h=> .inl h,fun x c h=>h.elim id fun z=>nomatch z.1⟩
 | (n,k) :: r,acc,h=>by
   have hr:∀ x∈r,x.2=NameKind.free->∃ c,env.cells.lookup x.1=some c:=fun x hx=>h x (List.mem_cons_of_mem _ hx)
   by_cases hk:k=NameKind.free
   . subst hk
     obtain ⟨c,hc⟩:=h (n,NameKind.free) List.mem_cons_self rfl
     obtain ⟨cl,e,h1,h2⟩:=zj0 r ((n,c) :: acc) hr
     refine ⟨cl,?_,fun x d hx=>?_,fun x d hx=>?_⟩
     . rw [List.forIn_cons]
       have e1:cellOf env n=(pure c:Sem Addr):=by unfold cellOf;rw [hc]
       simp only [beq_self_eq_true,if_true,e1]
       exact e
     . rcases h1 x d hx with z | ⟨z,z'⟩
       . rcases List.mem_cons.mp z with z | z
         . cases z;exact .inr ⟨List.mem_cons_self,hc⟩
         . exact .inl z
       . exact .inr ⟨List.mem_cons_of_mem _ z,z'⟩
     . apply h2
       rcases hx with z | ⟨z,z'⟩
       . exact .inl (List.mem_cons_of_mem _ z)
       . rcases List.mem_cons.mp z with z | z
         . cases z
           rw [hc]at z';cases z'
           exact .inl List.mem_cons_self
         . exact .inr ⟨z,z'⟩
   . obtain ⟨cl,e,h1,h2⟩:=zj0 r acc hr
     have hb:(k == NameKind.free)=false:=by simpa using hk
     refine ⟨cl,?_,fun x d hx=>?_,fun x d hx=>?_⟩
     . rw [List.forIn_cons]
       simp only [hb,Bool.false_eq_true,if_false]
       exact e
     . rcases h1 x d hx with z | ⟨z,z'⟩
       . exact .inl z
       . exact .inr ⟨List.mem_cons_of_mem _ z,z'⟩
     . apply h2
       rcases hx with z | ⟨z,z'⟩
       . exact .inl z
       . rcases List.mem_cons.mp z with z | z
         . cases z;exact absurd rfl hk
         . exact .inr ⟨z,z'⟩
theorem zmb {α:Type}:∀ {l:List (Str×α)}{x:Str}{c:α},(x,c)∈l->∃ d,l.lookup x=some d∧(x,d)∈l
 | (n,k) :: r,x,c,h=>by
   cases e:x == n with
   | true =>
     have e':x=n:=by simpa using e
     subst e'
     exact ⟨k,by simp [List.lookup_cons],List.mem_cons_self⟩
   | false =>
     rcases List.mem_cons.mp h with z | z
     . cases z;simp at e
     . obtain ⟨d,h1,h2⟩:=zmb z
       exact ⟨d,by rw [List.lookup_cons,e];exact h1,List.mem_cons_of_mem _ h2⟩
theorem mem_of_lookup {α:Type}:∀ {l:List (Str×α)}{x:Str}{c:α},l.lookup x=some c->(x,c)∈l
 | (n,k) :: r,x,c,h=>by
   rw [List.lookup_cons]at h
   cases e:x == n with
   | true =>
     have e':x=n:=by simpa using e
     subst e'
     rw [e]at h;cases h
     exact List.mem_cons_self
   | false =>
     rw [e]at h
     exact List.mem_cons_of_mem _ (mem_of_lookup h)
theorem zuH {scope:Scope}{env:Env} (h:∀ x∈scope.names,x.2 = .free->∃ c,env.cells.lookup x.1=some c) :
   ∃ cl:List (Str×Addr),closureFor scope env=pure cl∧(∀ x c,cl.lookup x=some c->(x,NameKind.free)∈scope.names∧env.cells.lookup x=some c) ∧
     (∀ x c,(x,NameKind.free)∈scope.names->env.cells.lookup x=some c->cl.lookup x=some c):=by
 obtain ⟨cl,e,h1,h2⟩:=zj0 (env:=env) scope.names [] h
 have g1:∀ x c,cl.lookup x=some c->(x,NameKind.free)∈scope.names∧env.cells.lookup x=some c:=fun x c z=>by
   rcases h1 x c (mem_of_lookup z) with q | q
   . exact nomatch q
   . exact q
 refine ⟨cl,?_,g1,fun x c z z'=>?_⟩
 . unfold closureFor
   show (forIn scope.names [] _ >>= _)=_
   have e2:=congrArg (fun m:Sem (List (Str×Addr))=>m >>= fun cs=>pure cs) e
   refine Eq.trans ?_ (Eq.trans e2 ?_)
   . congr 1
   . rfl
 . obtain ⟨d,e1,_⟩:=zmb (h2 x c (.inr ⟨z,z'⟩))
   have:=(g1 x d e1).2
   rw [z']at this;cases this
   exact e1
theorem zmV {env:Env}:∀ {names:List (Str×NameKind)}{x:Str},names.lookup x=some .free ->
   (names.map fun (n,k)=>if (k == NameKind.free && env.scope.kind == .function && env.kindOf n == some .cell) then (n,NameKind.cell) else (n,k)).lookup x=some .cell ∨
   (names.map fun (n,k)=>if (k == NameKind.free && env.scope.kind == .function && env.kindOf n == some .cell) then (n,NameKind.cell) else (n,k)).lookup x=some .free
 | [],_,h=>by simp at h
 | (n,k) :: r,x,h=>by
   have ih:=@zmV env r x
   rw [List.map_cons]
   by_cases hc:(k == NameKind.free && env.scope.kind == .function && env.kindOf n == some .cell)=true
   . simp only [hc,if_true]
     cases hx:x == n with
     | true=>left;simp [List.lookup_cons,hx]
     | false =>
       simp only [List.lookup_cons,hx]at h ⊢
       exact ih h
   . simp only [hc,if_false,Bool.false_eq_true]
     cases hx:x == n with
     | true =>
       simp only [List.lookup_cons,hx]at h ⊢
       cases h
       right;rfl
     | false =>
       simp only [List.lookup_cons,hx]at h ⊢
       exact ih h
theorem zmS {env:Env}:∀ {names:List (Str×NameKind)}{x:Str},(∀ y∈names,y.2 ≠ .cell) ->
   ((names.map fun (n,k)=>if (k == NameKind.free && env.scope.kind == .function && env.kindOf n == some .cell) then (n,NameKind.cell) else (n,k)).lookup x=some .cell ∨
   (names.map fun (n,k)=>if (k == NameKind.free && env.scope.kind == .function && env.kindOf n == some .cell) then (n,NameKind.cell) else (n,k)).lookup x=some .free)->names.lookup x=some .free
 | [],_,_,h=>by simp at h
 | (n,k) :: r,x,hn,h=>by
   have ih:=@zmS env r x fun y hy=>hn y (List.mem_cons_of_mem _ hy)
   have hk:=hn (n,k) List.mem_cons_self
   rw [List.map_cons]at h
   by_cases hc:(k == NameKind.free && env.scope.kind == .function && env.kindOf n == some .cell)=true
   . simp only [hc,if_true]at h
     have hf:k = .free:=by
       simp only [Bool.and_eq_true,beq_iff_eq]at hc
       exact hc.1.1
     cases hx:x == n with
     | true=>simp [List.lookup_cons,hx,hf]
     | false =>
       simp only [List.lookup_cons,hx]at h ⊢
       exact ih h
   . simp only [hc,if_false,Bool.false_eq_true]at h
     cases hx:x == n with
     | true =>
       simp only [List.lookup_cons,hx]at h ⊢
       rcases h with h | h
       . cases h;exact absurd rfl hk
       . exact h
     | false =>
       simp only [List.lookup_cons,hx]at h ⊢
       exact ih h
noncomputable def zb7 (X:Cx) (scope:Scope) (N:List Str) (cl:List (Str×Addr)) (s₀:Shared) (H₀:Hp) (fp:List Addr):Cx :=
 { X with N:=N,s₀:=s₀,H₀:=H₀,env:=compEnvC scope cl s₀.heap.objs.size X.env,outer:=X.stack,ex:=fp,fn:=fun x=>scope.names.lookup x == some .local,pn:=[],xe:=fun _ _=>False }
noncomputable def zfn (js:List (Option Nat)) (σ:St):St:=js.map fun j=>j.bind fun k=>(σ[k]?).join
structure zbI (X:Cx) (scope:Scope) (N:List Str) (js:List (Option Nat)):Prop where
 kind:scope.kind = .function
 cell:∀ y∈scope.names,y.2 ≠ .cell
 names:∀ y∈scope.names,scope.names.lookup y.1=some y.2
 free:∀ y∈scope.names,y.2 = .free->X.env.kindOf y.1=some .cell∨X.env.kindOf y.1=some .free
 len:js.length=N.length
 slot:∀ (i k:Nat),js[i]?=some (some k)->∃ x,N[i]?=some x∧X.N[k]?=some x∧scope.names.lookup x=some .free
section
variable {X:Cx}{pins:List (Addr×Obj)}{σ:St}{H:Hp}{s:Shared}{scope:Scope}{N:List Str}{js:List (Option Nat)}{cl:List (Str×Addr)}{fp:List Addr}
theorem zuN (S:zbI X scope N js) (I:Inv X pins σ H s) (hf:∀ b∈fp,zcT X pins H b) (hlt:∀ b∈fp,b < s.heap.objs.size)
   (h1:∀ x c,cl.lookup x=some c->(x,NameKind.free)∈scope.names∧X.env.cells.lookup x=some c)
   (h2:∀ x c,(x,NameKind.free)∈scope.names->X.env.cells.lookup x=some c->cl.lookup x=some c):(zb7 X scope N cl s H fp).Ok where
 mod:=I.ok.mod
 kind:=S.kind
 glob:=I.ok.glob
 blt:=I.ok.blt
 above:=Nat.le_refl _
 inj:=fun x y c hx hy=>I.ok.inj x y c (h1 x c hx).2 (h1 y c hy).2
 has:=fun x hx=>by
   have e:scope.names.lookup x=some .free:=zmS S.cell hx
   have hm:=mem_of_lookup e
   obtain ⟨c,hc⟩:=I.ok.has x (S.free (x,.free) hm rfl)
   exact ⟨c,h2 x c hm hc⟩
 cab:=fun x c hx hc=>by
   have hm:=(h1 x c hc).1
   have e:=S.names (x,.free) hm
   have hx':(scope.names.lookup x == some NameKind.local)=true:=hx
   rw [e]at hx'
   have hx2:(some NameKind.free == some NameKind.local)=true:=hx'
   exact absurd hx2 ϑ
 hd:=I.ok.hd
 frames:=I.ok.frames
 stk := .inl rfl
 exf:=fun b hb=>⟨Nat.ne_of_lt (hlt b hb),fun x c hc=>(hf b hb).2.2.2.2.1 x c (h1 x c hc).2⟩
 bs:=I.bs
 bsz:=Nat.le_trans I.ok.bsz I.sz
 noex:=fun b o e hb=>by
   rcases (hf b hb).2.2.2.1 with z | z
   . exact I.ok.noex b o e z
   . exact absurd (Nat.lt_of_lt_of_le (Heap.lt_size e) (Nat.le_trans I.ok.bsz z)) (Nat.lt_irrefl _)
 exfs:=fun b hb z=>by
   rcases List.mem_cons.mp (I.stkSub b z) with e | e
   . exact (hf b hb).2.1 e
   . exact (hf b hb).2.2.1 e
 funs:=I.stack
 frf:=I.stkFree
theorem zv5 {h':Heap}{t':Nat}{m':Str->Option Value} (S:zbI X scope N js) (I:Inv X pins σ H s) (hf:∀ b∈fp,zcT X pins H b) (hlt:∀ b∈fp,b < s.heap.objs.size)
   (h1:∀ x c,cl.lookup x=some c->(x,NameKind.free)∈scope.names∧X.env.cells.lookup x=some c)
   (h2:∀ x c,(x,NameKind.free)∈scope.names->X.env.cells.lookup x=some c->cl.lookup x=some c)
   (hn:h'.Ns s.heap.objs.size m') (hk:∀ b o,s.heap.get? b=some o->h'.get? b=some o) :
   Inv (zb7 X scope N cl s H fp) [] (zfn js σ) H { s with heap:=h',toks:=t' }:=by
 refine ⟨zuN S I hf hlt h1 h2,rfl,I.bare,Un.kept hk,⟨m',hn,fun i x v e1 e2 e3=>?_⟩,fun x c e=>?_,I.hok.fresh (Nat.le_refl _),fun x c e=>I.freeC x c (h1 x c e).2,fun p hp=>(List.not_mem_nil (show p∈([]:List (Addr×Obj)) from hp)).elim,I.hok.kept hk,?_⟩
 . have e2':(js.map fun j=>j.bind fun k=>(σ[k]?).join)[i]?=some (some v):=e2
   rw [List.getElem?_map]at e2'
   cases ej:js[i]? with
   | none=>rw [ej]at e2';cases e2'
   | some j =>
     rw [ej]at e2'
     cases j with
     | none=>cases e2'
     | some k =>
       have e4:(σ[k]?).join=some v:=Option.some.inj e2'
       have e5:σ[k]?=some (some v):=by
         cases eσ:σ[k]? with
         | none=>rw [eσ]at e4;cases e4
         | some o=>rw [eσ]at e4;exact congrArg some e4
       obtain ⟨x',hx1,hx2,hx3⟩:=S.slot i k ej
       have e1':N[i]?=some x:=e1
       rw [hx1]at e1';cases e1'
       have hm:=mem_of_lookup hx3
       have hfr:=S.free (x,.free) hm rfl
       obtain ⟨m,hns,hl⟩:=I.loc
       obtain ⟨u,r,l⟩:=hl k x v hx2 e5 (hfr.elim (fun z=> .inr (.inl z)) fun z=> .inr (.inr z))
       refine ⟨u,r,.inr ⟨zmV hx3,?_⟩⟩
       rcases l with ⟨z,_⟩ | ⟨_,c,hc,o,ho,hd⟩
       . rcases hfr with y | y
         . have y':X.env.kindOf x=some .cell:=y
           rw [z]at y';cases y'
         . have y':X.env.kindOf x=some .free:=y
           rw [z]at y';cases y'
       . exact ⟨c,h2 x c hm hc,o,hk c o ho,hd⟩
 . obtain ⟨v,o,ho,hd⟩:=I.cell x c (h1 x c e).2
   exact ⟨v,o,hk c o ho,hd⟩
 . show (js.map _).length=N.length
   rw [List.length_map,S.len]
theorem zsx {H':Hp}{s':Shared}{σ':St} (I:Inv X pins σ H s) (hf:∀ b∈fp,zcT X pins H b) (J:Inv (zb7 X scope N cl s H fp) [] σ' H' s'):Inv X pins σ H' s' :=
 I.call' (ch:=fp) J.os J.base J.hok J.bare fun b hb=>by
   obtain ⟨f0,f1,f2,f3,f4,f5⟩:=hf b hb
   exact ⟨f3,f1,f4,f5⟩
theorem zmY {C:Addr}{H':Hp}{s':Shared}{σ':St}{h'':Heap} (I:Inv X pins σ H s) (hC:C=s.heap.objs.size) (hn:H' C=none) (J:Inv X pins σ' H' s') (hs:Heap.SameBut C s'.heap h''):Inv X pins σ' H' { s' with heap:=h'' }:=by
 have J1:=J.turned (h':=h'') (t':=s'.toks) (it:=C) (fun b o hb e=>(hs.2 b hb).trans e) hn (by rw [hC];exact Nat.ne_of_gt I.lt) (.inr (by rw [hC];exact I.sz))
   (fun x c e z=>by
     obtain ⟨v,o,ho,_⟩:=I.cell x c e
     have:=Heap.lt_size ho
     rw [z,hC]at this
     exact absurd this (Nat.lt_irrefl _))
   (fun p hp z=>by
     have:=Heap.lt_size (I.pin p hp).1
     rw [z,hC]at this
     exact absurd this (Nat.lt_irrefl _))
 exact J1
end
noncomputable def zha (Y:Cx) (ifs:List Expr) (t:TT):Prop :=
 ∀ (pins:List (Addr×Obj)) (s:Shared) (σ:St) (H:Hp) (Q:Bool->Hp->Prop) ,Inv Y pins σ H s->t σ H Q ->
   wpAny (model Y.prog Y.w) Y.A (forIn ifs true fun c r=>if r=true then do let ok <- isTrue c Y.env (eval c Y.env);pure (ForInStep.yield ok) else pure (ForInStep.yield r)) (TP Y pins σ Q) Y.xe s
noncomputable def zsF:TT:=fun _ H Q=>Q true H
theorem zt8 {Y:Cx}:zha Y [] zsF:=fun pins s σ H Q I h=>wpAny_tests_nil ⟨H,I,h⟩
noncomputable def zkk (J:It) (g:TG) (tc:TT) (te:TE) (D:Addr) (σ:St) (H1:Hp) (js:List (Option Nat)) (Q:VK):Prop :=
 ∃ W:Nat->Nat->St->Hp->Prop,(∃ m,W 0 m (zfn js σ) (upd H1 D (.lst [])))∧∀ i m σ' H',W i m σ' H' ->
   (J.stop i H'∧Q (.ref D) H')∨(J.go i H'∧∀ x H2,J.yld i H' x H2->g x σ' H2 fun σ2 H3=>tc σ2 H3 fun b H4 =>
     if b=true then te σ2 H4 fun y H5=>∃ xs,H5 D=some (.lst xs)∧xs.length < sizeLine∧∃ m',m' < m∧W (i+1) m' σ2 (upd H5 D (.lst (xs++[y])))
     else ∃ m',m' < m∧W (i+1) m' σ2 H4)
noncomputable def zjG (js:List (Option Nat)) (wi:TI) (g:TG) (tc:TT) (te:TE):TE:=fun σ H Q=>wi σ H fun J H1=>∀ D,H1 D=none->zkk J g tc te D σ H1 js Q
section
variable {X:Cx}{scope:Scope}{N:List Str}{js:List (Option Nat)}{tg iter elt:Expr}{ifs:List Expr}{wi:TI}{g:TG}{tc:TT}{te:TE}{pos:Pos}
structure zky (X:Cx) (scope:Scope) (N:List Str) (tg elt:Expr) (ifs:List Expr) (g:TG) (tc:TT) (te:TE):Prop where
 run:∀ (cl:List (Str×Addr)) (s₀:Shared) (H₀:Hp) (fp:List Addr),PG (zb7 X scope N cl s₀ H₀ fp) tg g∧zha (zb7 X scope N cl s₀ H₀ fp) ifs tc∧PE (zb7 X scope N cl s₀ H₀ fp) elt te
theorem zm3 {E:Value->Shared->Prop}{RR:Value->Addr->Result->Shared->Prop}{Q:VK}{pins:List (Addr×Obj)}{σ:St}{H1:Hp}{s2:Shared}{J:It}{it:Addr}{fp:List Addr}{tn:Nat->Heap->Prop}
   {cl:List (Str×Addr)} (hc:X.calm=true) (S:zbI X scope N js) (Pt:zky X scope N tg elt ifs g tc te) (hcl:closureFor scope X.env=pure cl)
   (h1:∀ x c,cl.lookup x=some c->(x,NameKind.free)∈scope.names∧X.env.cells.lookup x=some c)
   (h2:∀ x c,(x,NameKind.free)∈scope.names->X.env.cells.lookup x=some c->cl.lookup x=some c)
   (I2:Inv X pins σ H1 s2) (T:zhC X.prog X.w X.K tg J fp it tn) (st2:tn 0 s2.heap) (f2:∀ b∈fp,zcT X pins H1 b)
   (h:∀ D,H1 D=none->zkk J g tc te D σ H1 js Q)
   (hRR:∀ (D C:Addr) (s0 s':Shared) (H0 H':Hp) (m:Str->Option Value),Inv X pins σ H0 s0->C=s0.heap.objs.size->H' C=none->s'.heap.Ns C m->Inv X pins σ H' s'->Q (.ref D) H'->RR (.ref D) C (.ok .next) s') :
   wpAny (model X.prog X.w) X.A (newList []) (fun acc s₃=>wpAny (model X.prog X.w) X.A (newFunctionEnv scope X.env.globals cl [] X.env.qual none .none (some X.env)) (fun cenv s₄ =>
     codeAny (model X.prog X.w) X.A (.compStart (.ListComp elt [⟨tg,iter,ifs,0⟩] scope pos) 0 (.ref it) acc { cenv with scope:=relabel scope X.env }) (RR acc cenv.locals) s₄) E s₃) E s2:=by
 obtain ⟨W,⟨m0,w0⟩,turn⟩:=h s2.heap.objs.size (I2.hok.fresh (Nat.le_refl _))
 refine wpAny_newObj_type (wpAny_newFunctionEnv S.cell (by intro y hy;simp at hy) (fun h₁ hns₁ hsb₁=>?_) S.kind)
 dsimp only at hns₁ hsb₁ ⊢
 have I3:Inv X pins σ (upd H1 s2.heap.objs.size (.lst [])) { s2 with heap:=s2.heap.push { cls := .type "list",dict:=none,data := .seq ([]:List Value).toArray } } :=
   I2.lnew (its:=[]) (t':=s2.toks) .nil (Nat.zero_le _)
 generalize hH3:(upd H1 s2.heap.objs.size (.lst []))=H3 at I3 w0
 generalize hs3:({ s2 with heap:=s2.heap.push { cls := .type "list",dict:=none,data := .seq ([]:List Value).toArray } }:Shared)=s3 at I3
 have e3:s2.heap.push { cls := .type "list",dict:=none,data := .seq ([]:List Value).toArray }=s3.heap:=by rw [<- hs3]
 rw [e3]at hns₁ hsb₁ ⊢
 have hsz:s3.heap.objs.size=s2.heap.objs.size+1:=by rw [<- e3,Heap.size_push]
 have hlt2:∀ b∈fp,b < s2.heap.objs.size:=fun b hb=>by
   obtain ⟨o,ho,_⟩:=T.obj 0 _ st2 b hb
   exact Heap.lt_size ho
 have hlt3:∀ b∈fp,b < s3.heap.objs.size:=fun b hb=>by rw [hsz];exact Nat.lt_succ_of_lt (hlt2 b hb)
 have f3:∀ b∈fp,zcT X pins H3 b:=fun b hb=>⟨by rw [<- hH3,zU (Nat.ne_of_lt (hlt2 b hb))];exact (f2 b hb).1,(f2 b hb).2⟩
 have old:∀ b o,s3.heap.get? b=some o->h₁.get? b=some o:=fun b o e=>hsb₁.extBut b o (Nat.ne_of_lt (Heap.lt_size e)) (Heap.get?_push_of_some _ e)
 have old2:∀ b o,s2.heap.get? b=some o->h₁.get? b=some o:=fun b o e=>old b o (by rw [<- e3];exact Heap.get?_push_of_some _ e)
 have st4:tn 0 h₁:=T.keep 0 _ _ st2 fun b _ o e=>old2 b o e
 have I4:∀ t',Inv (zb7 X scope N cl s3 H3 fp) [] (zfn js σ) H3 { s3 with heap:=h₁,toks:=t' }:=fun t'=>zv5 S I3 f3 hlt3 h1 h2 hns₁ old
 obtain ⟨pg,pif,pe⟩:=Pt.run cl s3 H3 fp
 have stat:∀ {H':Hp} {pl:List (Addr×Obj)},(∀ b∈fp,H' b=none)->pl=[]->∀ b∈fp,zcT (zb7 X scope N cl s3 H3 fp) pl H' b:=fun hn e b hb=>by
   subst e
   refine ⟨hn b hb,Nat.ne_of_lt (hlt3 b hb),fun z=>?_,.inl hb,fun x c hc=>(f3 b hb).2.2.2.2.1 x c (h1 x c hc).2,fun p hp=>(List.not_mem_nil (show p∈([]:List (Addr×Obj)) from hp)).elim⟩
   rcases List.mem_cons.mp (I3.stkSub b z) with e | e
   . exact (f3 b hb).2.1 e
   . exact (f3 b hb).2.2.1 e
 have loop:∀ s₄:Shared,s₄={ s3 with heap:=h₁,toks:=s2.toks+([]:List (Str×Value)).length } ->
     codeAny (model X.prog X.w) X.A (.compLoop (.ListComp elt [⟨tg,iter,ifs,0⟩] scope pos) 0 (.ref it) (.ref s2.heap.objs.size) (compEnvC scope cl s3.heap.objs.size X.env)) (RR (.ref s2.heap.objs.size) s3.heap.objs.size) s₄:=by
   rintro s₄ rfl
   refine codeAny_loop rfl (fun n s'=>∃ i σ' H',Inv (zb7 X scope N cl s3 H3 fp) [] σ' H' s'∧tn i s'.heap∧(∀ b∈fp,H' b=none)∧W i n σ' H') ?_ m0 ⟨0,zfn js σ,H3,I4 _,st4,fun b hb=>(f3 b hb).1,w0⟩
   rintro n s5 ⟨i,σ5,H5,I5,st5,fr5,w5⟩
   show wpAny _ X.A ((compTurn (.ListComp elt [⟨tg,iter,ifs,0⟩] scope pos) 0 (.ref it) (.ref s2.heap.objs.size) (compEnvC scope cl s3.heap.objs.size X.env)).onRaise (fun x=>do noteFrame x (compEnvC scope cl s3.heap.objs.size X.env);theTreesLotGoes x)) _ _ s5
   refine wpAny_noted ?_
   rw [compTurn_list]
   have nox:∀ {α:Type} {t:Sem α} {Q:α->Shared->Prop} {E':Value->Shared->Prop} {s':Shared},wpAny (model X.prog X.w) X.A t Q (fun _ _=>False) s'->wpAny (model X.prog X.w) X.A t Q E' s':=fun h=>wpAny_mono h (fun _ _ x=>x) fun _ _ x=>x.elim
   refine wpAny_bind (wpAny_standAt (wpAny_bind ?_))
   rcases turn i n σ5 H5 w5 with ⟨stop,qn⟩ | ⟨go,step⟩
   . refine nox (thn (T.done (zb7 X scope N cl s3 H3 fp) rfl rfl rfl hc i [] s5 σ5 H5 _ I5 (stat fr5 rfl) st5 stop) fun r s6 ⟨hr,I6⟩=>?_)
     subst hr
     obtain ⟨m6,hn6,_⟩:=id I6.loc
     exact wpAny_pure (hRR _ _ s3 s6 H3 H5 m6 I3 rfl I6.free hn6 (zsx I3 f3 I6) qn)
   . refine nox (thn (T.item (zb7 X scope N cl s3 H3 fp) rfl rfl rfl hc i [] s5 σ5 H5 _ I5 (stat fr5 rfl) st5 go) fun r s6 ⟨u,hr,h6⟩=>?_)
     subst hr
     refine wpAny_bind (nox (thn h6 fun _ s7 ⟨x,H7,I7,r7,y7,st7,fr7⟩=>?_))
     have I7':=I7.pinned (stat fr7 rfl) (T.obj _ _ st7)
     refine wpAny_bind (nox (thn (pg _ s7 σ5 H7 x u _ I7' r7 (step x H7 y7)) fun _ s8 ⟨σ8,H8,I8,q8⟩=>?_))
     refine wpAny_bind (nox (thn (pif _ s8 σ8 H8 _ I8 q8) fun ok s9 ⟨H9,I9,q9⟩=>?_))
     have again:∀ {σa:St} {Ha:Hp} {sa:Shared} {m':Nat},Inv (zb7 X scope N cl s3 H3 fp) ([]++zhv fp s7.heap) σa Ha sa->m' < n->W (i+1) m' σa Ha->∃ m,m < n∧∃ i σ' H',Inv (zb7 X scope N cl s3 H3 fp) [] σ' H' sa∧tn i sa.heap∧(∀ b∈fp,H' b=none)∧W i m σ' H':=fun {σa Ha sa m'} Ia hm wa=>by
       refine ⟨m',hm,i+1,σa,Ha,Ia.unpinned,T.keep _ _ _ st7 fun b hb o e=>(Ia.pin (b,o) (List.mem_append_right _ (List.mem_append_right _ (zio hb e)))).1,fun b hb=>?_,wa⟩
       obtain ⟨o,e,d⟩:=T.obj _ _ st7 b hb
       exact (Ia.pin (b,o) (List.mem_append_right _ (List.mem_append_right _ (zio hb e)))).2.1
     cases ok with
     | false =>
       obtain ⟨m',hm,wa⟩:=q9
       exact wpAny_pure ⟨rfl,again I9 hm wa⟩
     | true =>
       refine wpAny_bind (wpAny_bind (nox (thn (pe _ s9 σ8 H9 _ I9 q9) fun y sa ⟨vy,Ha,Ia,ra,xs,hD,hz,m',hm,wa⟩=>?_)))
       refine wpAny_bind (nox (thn (zmd _ sa σ8 Ha (.ref s2.heap.objs.size) [vy] (.ref s2.heap.objs.size) [y] (fun _ H'=>H'=upd Ha s2.heap.objs.size (.lst (xs++[vy]))) Ia rfl (.cons ra .nil) ⟨_,_,_,rfl,rfl,hD,hz,rfl⟩) fun z sb ⟨vz,Hb,Ib,rb,eb⟩=>?_))
       subst eb
       exact wpAny_pure (wpAny_pure ⟨rfl,again Ib hm wa⟩)
 exact codeAny_compStart_list (loop _ (by rw [<- hs3])) (T.self _ 0 _ _ _ st4 (loop _ (by rw [<- hs3])))
end
end L2
end
section
namespace L2
open PySem PySem.Spec PyProof.Rows
section
variable {X:Cx}{scope:Scope}{N:List Str}{js:List (Option Nat)}{tg iter elt:Expr}{ifs:List Expr}{wi:TI}{g:TG}{tc:TT}{te:TE}{pos:Pos}
theorem zbI.clos (S:zbI X scope N js) {pins:List (Addr×Obj)}{σ:St}{H:Hp}{s:Shared} (I:Inv X pins σ H s) :
   ∃ cl:List (Str×Addr),closureFor scope X.env=pure cl∧(∀ x c,cl.lookup x=some c->(x,NameKind.free)∈scope.names∧X.env.cells.lookup x=some c) ∧
     (∀ x c,(x,NameKind.free)∈scope.names->X.env.cells.lookup x=some c->cl.lookup x=some c) :=
 zuH fun x hx hf=>I.ok.has x.1 (S.free x hx hf)
theorem zr4 (hc:X.calm=true) (S:zbI X scope N js) (hi:PI X tg iter wi) (Pt:zky X scope N tg elt ifs g tc te) (hs:∀ x,foldedSetIterable iter X.env x=pure x:=by intro _;rfl) :
   PE X (.ListComp elt [⟨tg,iter,ifs,0⟩] scope pos) (zjG js wi g tc te):=by
 intro pins s σ H Q I h
 obtain ⟨cl,hcl,h1,h2⟩:=S.clos I
 rw [eval_ListComp]
 refine wpAny_comprehension_free (use:=none) (cl:=cl) rfl hs hcl S.kind (fun x hx hl=>by rw [S.names x hx,hl]) ?_
 refine wpAny_mono (hi pins s σ H _ I h) (fun v s1 p1=>wpAny_mono p1 (fun itv s2 p2=>?_) fun _ _ e=>e) fun _ _ e=>e
 obtain ⟨it,fp,tn,J,H2,e,I2,T,st2,f2,r2⟩:=p2
 subst e
 refine zm3 (RR:=fun acc C=>compPost (model X.prog X.w) X.A X.xe none (EP X pins σ Q) acc C) hc S Pt hcl h1 h2 I2 T st2 f2 r2 ?_
 intro D C s0 s' H0 H' m I0 hC hn hns I' q
 exact ⟨m,hns,fun h' hs'=>⟨.ref D,H',zmY I0 hC hn I' hs',rfl,q⟩⟩
theorem zrJ {j:Nat}{y:Str}{py spos:Pos} (hc:X.calm=true) (hN:X.N.Nodup) (hj:X.N[j]?=some y) (hy:X.env.scope.names.lookup y=some .local) (S:zbI X scope N js) (hi:PI X tg iter wi) (Pt:zky X scope N tg elt ifs g tc te)
   (hsw:swapsWith (.ListComp elt [⟨tg,iter,ifs,0⟩] scope pos) (some (.Name y py)) spos.line X.env=pure true:=by rfl) (hs:∀ x,foldedSetIterable iter X.env x=pure x:=by intro _;rfl) :
   PS X (.Assign [.Name y py] (.ListComp elt [⟨tg,iter,ifs,0⟩] scope pos) spos) (zjz (zjG js wi g tc te) (ziy j)):=by
 intro pins s σ H D I h
 obtain ⟨cl,hcl,h1,h2⟩:=S.clos I
 rw [exec_Assign_Name_used _ _ _ _ hsw]
 refine wpAny_bind (wpAny_standAt (wpAny_bind ?_))
 show wpAny _ X.A (do let _ <- comprehension (.ListComp elt [⟨tg,iter,ifs,0⟩] scope pos) scope X.env _ (newList []) false (eval iter X.env) (some (assign (.Name y py) X.env))) _ _ s
 refine wpAny_bind (wpAny_mono (wpAny_comprehension_free (use:=some (assign (.Name y py) X.env)) (Q:=fun _ s'=>SP X pins D .next s') (cl:=cl) rfl hs hcl S.kind (fun x hx hl=>by rw [S.names x hx,hl]) ?_) (fun _ s' hq=>wpAny_pure (wpAny_pure hq)) fun _ _ e=>e)
 refine wpAny_mono (hi pins s σ H _ I h) (fun v s1 p1=>wpAny_mono p1 (fun itv s2 p2=>?_) fun _ _ e=>e) fun _ _ e=>e
 obtain ⟨it,fp,tn,J,H2,e,I2,T,st2,f2,r2⟩:=p2
 subst e
 refine zm3 (Q:=fun x H1=>ziy j x σ H1 D.nx) (RR:=fun acc C=>compPost (model X.prog X.w) X.A X.xe (some (assign (.Name y py) X.env)) (fun _ s'=>SP X pins D .next s') acc C) hc S Pt hcl h1 h2 I2 T st2 f2 r2 ?_
 intro D' C s0 s' H0 H' m I0 hC hn hns I' q
 show wpAny _ X.A (assign (.Name y py) X.env (.ref D')) _ _ _
 refine wpAny_assign_Name (zmG I' hN hj (.inl hy) (v := .ref D') rfl (fun s'' I'' ⟨a,sb,ha⟩=>?_) (.inr hy))
 have hCa:C≠a:=by
   rcases ha with ha | ha
   . rw [ha,hC];exact Nat.ne_of_gt I0.lt
   . obtain ⟨v,o,ho,_⟩:=I0.cell y a ha
     rw [hC];exact Nat.ne_of_gt (Heap.lt_size ho)
 exact ⟨m,hns.sameBut sb hCa,fun h' hs'=>⟨_,_,zmY I0 hC hn I'' hs',q⟩⟩
end
end L2
end
section
namespace L2
open PySem PySem.Spec PyProof.Rows
inductive D where
 | non | bl (b:Bool) | int (i:Int) | str (x:Str) | lst (ds:List D) | tup (ds:List D)
mutual
noncomputable def Dat (H:Hp):D->V->Prop
 | .non,v=>v = .non
 | .bl b,v=>v = .bl b
 | .int i,v=>v = .int i
 | .str x,v=>v = .str x
 | .lst ds,v=>∃ a xs,v = .ref a∧Rd H a (.lst xs)∧zbk H ds xs
 | .tup ds,v=>∃ a xs,v = .ref a∧H a=some (.tup xs)∧zbk H ds xs
noncomputable def zbk (H:Hp):List D->List V->Prop
 | [],xs=>xs=[]
 | d :: ds,xs=>∃ x r,xs=x :: r∧Dat H d x∧zbk H ds r
end
mutual
noncomputable def dpt:D->Nat
 | .lst ds=>zb2 ds+1
 | .tup ds=>zb2 ds+1
 | _=>0
noncomputable def zb2:List D->Nat
 | []=>0
 | d :: r=>max (dpt d) (zb2 r)
end
mutual
noncomputable def eqD:D->D->Bool
 | .lst a,.lst b=>zbT a b
 | .tup a,.tup b=>zbT a b
 | .non,.non=>true
 | .bl a,.bl b=>a == b
 | .bl a,.int b=>(if a then 1 else 0) == b
 | .int a,.bl b=>a == (if b then 1 else 0)
 | .int a,.int b=>a == b
 | .str a,.str b=>a == b
 | _,_=>false
noncomputable def zbT:List D->List D->Bool
 | [],[]=>true
 | a :: r,b :: q=>eqD a b && zbT r q
 | _,_=>false
end
theorem zbk.length {H:Hp}:∀ {ds:List D}{xs:List V},zbk H ds xs->ds.length=xs.length
 | [],xs,h=>by unfold zbk at h;subst h;rfl
 | d :: ds,xs,h=>by
   unfold zbk at h
   obtain ⟨x,r,h1,h2,h3⟩:=h
   subst h1
   simp [zbk.length h3]
theorem zbk.get {H:Hp}:∀ {ds:List D}{xs:List V}{i:Nat}{x:V},zbk H ds xs->xs[i]?=some x->∃ d,ds[i]?=some d∧Dat H d x
 | [],xs,i,x,h,e=>by unfold zbk at h;subst h;simp at e
 | d :: ds,xs,i,x,h,e=>by
   unfold zbk at h
   obtain ⟨y,r,h1,h2,h3⟩:=h
   subst h1
   cases i with
   | zero=>simp at e;subst e;exact ⟨d,rfl,h2⟩
   | succ i =>
     obtain ⟨d',e1,e2⟩:=zbk.get (i:=i) h3 (by simpa using e)
     exact ⟨d',by simpa using e1,e2⟩
theorem zlE:∀ {ds:List D}{i:Nat}{d:D},ds[i]?=some d->dpt d<=zb2 ds
 | [],_,_,e=>by simp at e
 | d' :: ds,0,d,e=>by simp at e;subst e;unfold zb2;omega
 | d' :: ds,i+1,d,e=>by
   have:=zlE (ds:=ds) (i:=i) (d:=d) (by simpa using e)
   unfold zb2;omega
theorem zfp:∀ (a b:List D),a.length=b.length->((List.range a.length).all fun j=>eqD (a.getD j .non) (b.getD j .non))=zbT a b
 | [],[],_=>by simp [zbT]
 | x :: a,y :: b,h=>by
   have ih:=zfp a b (by simpa using h)
   rw [List.length_cons,List.range_succ_eq_map,List.all_cons,List.all_map]
   show (eqD x y && (List.range a.length).all fun j=>eqD (a.getD j .non) (b.getD j .non))=zbT (x :: a) (y :: b)
   rw [ih,zbT]
theorem zfL:∀ (a b:List D),a.length≠b.length->zbT a b=false
 | [],[],h=>absurd rfl h
 | [],_ :: _,_=>by unfold zbT;rfl
 | _ :: _,[],_=>by unfold zbT;rfl
 | x :: a,y :: b,h=>by
   rw [zbT,zfL a b (by simpa using h),Bool.and_false]
end L2
end
section
namespace L2
open PySem PySem.Spec PyProof.Rows
section
variable {X:Cx}{pins:List (Addr×Obj)}{σ:St}{H:Hp}{s:Shared}
theorem Inv.noboth (I:Inv X pins σ H s) {a:Addr}{xs ys:List V} (h:Rd H a (.lst xs)) (h':H a=some (.tup ys)):False:=by
 rcases h with h | ⟨o,h⟩
 . rw [h]at h';cases h'
 . rw [h]at h';cases h'
mutual
theorem zkp (I:Inv X pins σ H s):∀ (d d':D) (v:V),Dat H d v->Dat H d' v->eqD d d'=true
 | .non,d',v,h,h'=>by
   unfold Dat at h;subst h
   cases d' <;> simp [Dat]at h' <;> simp [eqD]
 | .bl b,d',v,h,h'=>by
   unfold Dat at h;subst h
   cases d' <;> simp [Dat]at h' <;> simp [eqD,h']
 | .int b,d',v,h,h'=>by
   unfold Dat at h;subst h
   cases d' <;> simp [Dat]at h' <;> simp [eqD,h']
 | .str b,d',v,h,h'=>by
   unfold Dat at h;subst h
   cases d' <;> simp [Dat]at h' <;> simp [eqD,h']
 | .lst ds,d',v,h,h'=>by
   unfold Dat at h
   obtain ⟨a,xs,rfl,h1,h2⟩:=h
   cases d' with
   | lst ds' =>
     unfold Dat at h'
     obtain ⟨b,ys,e,h3,h4⟩:=h'
     cases e
     have e:=I.list_inj (.inl h1) (.inl h3)
     subst e
     unfold eqD
     exact zjY I ds ds' xs h2 h4
   | tup ds' =>
     unfold Dat at h'
     obtain ⟨b,ys,e,h3,h4⟩:=h'
     cases e
     exact (I.noboth h1 h3).elim
   | _=>simp [Dat]at h'
 | .tup ds,d',v,h,h'=>by
   unfold Dat at h
   obtain ⟨a,xs,rfl,h1,h2⟩:=h
   cases d' with
   | tup ds' =>
     unfold Dat at h'
     obtain ⟨b,ys,e,h3,h4⟩:=h'
     cases e
     have e:=I.tuple_inj (SqT.of h1) (SqT.of h3)
     subst e
     unfold eqD
     exact zjY I ds ds' xs h2 h4
   | lst ds' =>
     unfold Dat at h'
     obtain ⟨b,ys,e,h3,h4⟩:=h'
     cases e
     exact (I.noboth h3 h1).elim
   | _=>simp [Dat]at h'
theorem zjY (I:Inv X pins σ H s):∀ (ds ds':List D) (vs:List V),zbk H ds vs->zbk H ds' vs->zbT ds ds'=true
 | [],ds',vs,h,h'=>by
   unfold zbk at h;subst h
   cases ds' with
   | nil=>simp [zbT]
   | cons d r=>simp [zbk]at h'
 | d :: ds,ds',vs,h,h'=>by
   unfold zbk at h
   obtain ⟨x,r,rfl,h1,h2⟩:=h
   cases ds' with
   | nil=>simp [zbk]at h'
   | cons d' r' =>
     unfold zbk at h'
     obtain ⟨y,q,e,h3,h4⟩:=h'
     cases e
     unfold zbT
     rw [zkp I d d' x h1 h3,zjY I ds r' r h2 h4]
     rfl
end
theorem Dat.flat {d:D}{v:V} (h:Dat H d v):(zbK v=true∧∀ d' v',Dat H d' v'->zbK v'=true->eqD d d'=eqV v v')∨(∃ ds a xs,d = .lst ds∧v = .ref a∧Rd H a (.lst xs)∧zbk H ds xs)∨(∃ ds a xs,d = .tup ds∧v = .ref a∧H a=some (.tup xs)∧zbk H ds xs):=by
 cases d with
 | lst ds=>unfold Dat at h;obtain ⟨a,xs,e,h1,h2⟩:=h;exact .inr (.inl ⟨ds,a,xs,rfl,e,h1,h2⟩)
 | tup ds=>unfold Dat at h;obtain ⟨a,xs,e,h1,h2⟩:=h;exact .inr (.inr ⟨ds,a,xs,rfl,e,h1,h2⟩)
 | _ =>
   unfold Dat at h;subst h
   refine .inl ⟨rfl,fun d' v' h' f=>?_⟩
   cases d' with
   | lst ds=>unfold Dat at h';obtain ⟨a,xs,rfl,_⟩:=h';cases f
   | tup ds=>unfold Dat at h';obtain ⟨a,xs,rfl,_⟩:=h';cases f
   | _=>unfold Dat at h';subst h';simp [eqD,eqV]
theorem zgs {A:Around}{ds ds':List D}{xs ys:List V}{us ws:List Value}
   (ih:∀ (d d':D) (x y:V) (u v:Value),dpt d<=zb2 ds->Dat H d x->Dat H d' y->zo x u->zo y v->SeqAt.EqAt A s u v (eqD d d'))
   (h:zbk H ds xs) (h':zbk H ds' ys) (r:zt xs us) (r':zt ys ws) (j:Nat) (h1:j < us.toArray.size) (h2:j < ws.toArray.size) :
   SeqAt.EqAt A s us.toArray[j] ws.toArray[j] (eqD (ds.getD j .non) (ds'.getD j .non)):=by
 have l1:=r.length
 have l2:=r'.length
 have k1:=h.length
 have k2:=h'.length
 have h1':j < us.length:=by simpa using h1
 have h2':j < ws.length:=by simpa using h2
 have e1:xs[j]?=some xs[j]:=List.getElem?_eq_getElem ω
 have e2:ys[j]?=some ys[j]:=List.getElem?_eq_getElem ω
 obtain ⟨d,ed,hd⟩:=h.get e1
 obtain ⟨d',ed',hd'⟩:=h'.get e2
 obtain ⟨u,eu,ru⟩:=r.get e1
 obtain ⟨w,ew,rw'⟩:=r'.get e2
 have g1:ds.getD j .non=d:=by rw [List.getD_eq_getElem?_getD,ed];rfl
 have g2:ds'.getD j .non=d':=by rw [List.getD_eq_getElem?_getD,ed'];rfl
 have g3:us.toArray[j]=u:=by
   have:us[j]?=some us[j]:=List.getElem?_eq_getElem h1'
   rw [eu]at this;simpa using (Option.some.inj this).symm
 have g4:ws.toArray[j]=w:=by
   have:ws[j]?=some ws[j]:=List.getElem?_eq_getElem h2'
   rw [ew]at this;simpa using (Option.some.inj this).symm
 rw [g1,g2,g3,g4]
 exact ih d d' _ _ u w (zlE ed) hd hd' ru rw'
theorem ztn {A:Around}{y x:V}{u v:Value} (ry:zo y u) (rx:zo x v) (fy:zbK y=true) (fx:zbK x=true):SeqAt.RcAt A s u v (eqV y x):=by
 cases y with
 | non =>
   cases ry
   cases x with
   | non =>
     cases rx
     exact SeqAt.RcAt.none_none
   | bl b =>
     cases rx
     exact SeqAt.RcAt.none_bool _
   | int b =>
     obtain ⟨_,rfl⟩:=rx
     exact SeqAt.RcAt.none_int _ _
   | str b =>
     obtain ⟨_,rfl⟩:=rx
     exact SeqAt.RcAt.none_str _ _
   | _=>exact absurd (show false=true from fx) Bool.false_ne_true
 | bl a =>
   cases ry
   cases x with
   | non =>
     cases rx
     exact SeqAt.RcAt.bool_none _
   | bl b =>
     cases rx
     exact SeqAt.RcAt.bool_bool _ _
   | int b =>
     obtain ⟨_,rfl⟩:=rx
     exact SeqAt.RcAt.bool_int _ _ _
   | str b =>
     obtain ⟨_,rfl⟩:=rx
     exact SeqAt.RcAt.bool_str _ _ _
   | _=>exact absurd (show false=true from fx) Bool.false_ne_true
 | int a =>
   obtain ⟨_,rfl⟩:=ry
   cases x with
   | non =>
     cases rx
     exact SeqAt.RcAt.int_none _ _
   | bl b =>
     cases rx
     exact SeqAt.RcAt.int_bool _ _ _
   | int b =>
     obtain ⟨_,rfl⟩:=rx
     exact SeqAt.RcAt.int_int _ _ _ _
   | str b =>
     obtain ⟨_,rfl⟩:=rx
     exact SeqAt.RcAt.int_str _ _ _ _
   | _=>exact absurd (show false=true from fx) Bool.false_ne_true
 | str a =>
   obtain ⟨_,rfl⟩:=ry
   cases x with
   | non =>
     cases rx
     exact SeqAt.RcAt.str_none _ _
   | bl b =>
     cases rx
     exact SeqAt.RcAt.str_bool _ _ _
   | int b =>
     obtain ⟨_,rfl⟩:=rx
     exact SeqAt.RcAt.str_int _ _ _ _
   | str b =>
     obtain ⟨_,rfl⟩:=rx
     exact SeqAt.RcAt.str_str _ _ _ _
   | _=>exact absurd (show false=true from fx) Bool.false_ne_true
 | _=>exact absurd (show false=true from fy) Bool.false_ne_true
theorem zrb {A:Around}{y x:V}{u v:Value} (ry:zo y u) (rx:zo x v) (fy:zbK y=true) (fx:zbK x=true):SeqAt.RcNeAt A s u v (!eqV y x):=by
 cases y with
 | non =>
   cases ry
   cases x with
   | non =>
     cases rx
     exact SeqAt.RcNeAt.none_none
   | bl b =>
     cases rx
     exact SeqAt.RcNeAt.none_bool _
   | int b =>
     obtain ⟨_,rfl⟩:=rx
     exact SeqAt.RcNeAt.none_int _ _
   | str b =>
     obtain ⟨_,rfl⟩:=rx
     exact SeqAt.RcNeAt.none_str _ _
   | _=>exact absurd (show false=true from fx) Bool.false_ne_true
 | bl a =>
   cases ry
   cases x with
   | non =>
     cases rx
     exact SeqAt.RcNeAt.bool_none _
   | bl b =>
     cases rx
     exact SeqAt.RcNeAt.bool_bool _ _
   | int b =>
     obtain ⟨_,rfl⟩:=rx
     exact SeqAt.RcNeAt.bool_int _ _ _
   | str b =>
     obtain ⟨_,rfl⟩:=rx
     exact SeqAt.RcNeAt.bool_str _ _ _
   | _=>exact absurd (show false=true from fx) Bool.false_ne_true
 | int a =>
   obtain ⟨_,rfl⟩:=ry
   cases x with
   | non =>
     cases rx
     exact SeqAt.RcNeAt.int_none _ _
   | bl b =>
     cases rx
     exact SeqAt.RcNeAt.int_bool _ _ _
   | int b =>
     obtain ⟨_,rfl⟩:=rx
     exact SeqAt.RcNeAt.int_int _ _ _ _
   | str b =>
     obtain ⟨_,rfl⟩:=rx
     exact SeqAt.RcNeAt.int_str _ _ _ _
   | _=>exact absurd (show false=true from fx) Bool.false_ne_true
 | str a =>
   obtain ⟨_,rfl⟩:=ry
   cases x with
   | non =>
     cases rx
     exact SeqAt.RcNeAt.str_none _ _
   | bl b =>
     cases rx
     exact SeqAt.RcNeAt.str_bool _ _ _
   | int b =>
     obtain ⟨_,rfl⟩:=rx
     exact SeqAt.RcNeAt.str_int _ _ _ _
   | str b =>
     obtain ⟨_,rfl⟩:=rx
     exact SeqAt.RcNeAt.str_str _ _ _ _
   | _=>exact absurd (show false=true from fx) Bool.false_ne_true
 | _=>exact absurd (show false=true from fy) Bool.false_ne_true
theorem zkz {A:Around}{y:V}{u:Value}{a:Addr}{its:Array Value} (hu:A.units < cLine) (ry:zo y u) (fy:zbK y=true) (p:s.heap.IsList a its):SeqAt.EqAt A s u (.ref a) false∧SeqAt.EqAt A s (.ref a) u false:=by
 cases y with
 | non =>
   cases ry
   exact ⟨SeqAt.EqAt.none_list p hu,SeqAt.EqAt.list_none p hu⟩
 | bl a =>
   cases ry
   exact ⟨SeqAt.EqAt.bool_list _ p hu,SeqAt.EqAt.list_bool _ p hu⟩
 | int a =>
   obtain ⟨_,rfl⟩:=ry
   exact ⟨SeqAt.EqAt.int_list _ _ p hu,SeqAt.EqAt.list_int _ _ p hu⟩
 | str a =>
   obtain ⟨_,rfl⟩:=ry
   exact ⟨SeqAt.EqAt.str_list _ _ p hu,SeqAt.EqAt.list_str _ _ p hu⟩
 | _=>exact absurd (show false=true from fy) Bool.false_ne_true
theorem zjR {A:Around}{y:V}{u:Value}{a:Addr}{its:Array Value} (hu:A.units < cLine) (ry:zo y u) (fy:zbK y=true) (p:s.heap.IsTuple a its):SeqAt.EqAt A s u (.ref a) false∧SeqAt.EqAt A s (.ref a) u false:=by
 cases y with
 | non =>
   cases ry
   exact ⟨SeqAt.EqAt.none_tuple p hu,SeqAt.EqAt.tuple_none p hu⟩
 | bl a =>
   cases ry
   exact ⟨SeqAt.EqAt.bool_tuple _ p hu,SeqAt.EqAt.tuple_bool _ p hu⟩
 | int a =>
   obtain ⟨_,rfl⟩:=ry
   exact ⟨SeqAt.EqAt.int_tuple _ _ p hu,SeqAt.EqAt.tuple_int _ _ p hu⟩
 | str a =>
   obtain ⟨_,rfl⟩:=ry
   exact ⟨SeqAt.EqAt.str_tuple _ _ p hu,SeqAt.EqAt.tuple_str _ _ p hu⟩
 | _=>exact absurd (show false=true from fy) Bool.false_ne_true
theorem znn {A:Around}{y:V}{u:Value}{a:Addr}{its:Array Value} (hu:A.units < cLine) (ry:zo y u) (fy:zbK y=true) (p:s.heap.IsList a its):SeqAt.RcAt A s u (.ref a) false∧SeqAt.RcAt A s (.ref a) u false:=by
 cases y with
 | non =>
   cases ry
   exact ⟨SeqAt.RcAt.none_list p hu,SeqAt.RcAt.list_none p hu⟩
 | bl a =>
   cases ry
   exact ⟨SeqAt.RcAt.bool_list _ p hu,SeqAt.RcAt.list_bool _ p hu⟩
 | int a =>
   obtain ⟨_,rfl⟩:=ry
   exact ⟨SeqAt.RcAt.int_list _ _ p hu,SeqAt.RcAt.list_int _ _ p hu⟩
 | str a =>
   obtain ⟨_,rfl⟩:=ry
   exact ⟨SeqAt.RcAt.str_list _ _ p hu,SeqAt.RcAt.list_str _ _ p hu⟩
 | _=>exact absurd (show false=true from fy) Bool.false_ne_true
theorem znj {A:Around}{y:V}{u:Value}{a:Addr}{its:Array Value} (hu:A.units < cLine) (ry:zo y u) (fy:zbK y=true) (p:s.heap.IsTuple a its):SeqAt.RcAt A s u (.ref a) false∧SeqAt.RcAt A s (.ref a) u false:=by
 cases y with
 | non =>
   cases ry
   exact ⟨SeqAt.RcAt.none_tuple p hu,SeqAt.RcAt.tuple_none p hu⟩
 | bl a =>
   cases ry
   exact ⟨SeqAt.RcAt.bool_tuple _ p hu,SeqAt.RcAt.tuple_bool _ p hu⟩
 | int a =>
   obtain ⟨_,rfl⟩:=ry
   exact ⟨SeqAt.RcAt.int_tuple _ _ p hu,SeqAt.RcAt.tuple_int _ _ p hu⟩
 | str a =>
   obtain ⟨_,rfl⟩:=ry
   exact ⟨SeqAt.RcAt.str_tuple _ _ p hu,SeqAt.RcAt.tuple_str _ _ p hu⟩
 | _=>exact absurd (show false=true from fy) Bool.false_ne_true
theorem zmw {A:Around}{y:V}{u:Value}{a:Addr}{its:Array Value} (hu:A.units < cLine) (ry:zo y u) (fy:zbK y=true) (p:s.heap.IsList a its):SeqAt.RcNeAt A s u (.ref a) true∧SeqAt.RcNeAt A s (.ref a) u true:=by
 cases y with
 | non =>
   cases ry
   exact ⟨SeqAt.RcNeAt.none_list p hu,SeqAt.RcNeAt.list_none p hu⟩
 | bl a =>
   cases ry
   exact ⟨SeqAt.RcNeAt.bool_list _ p hu,SeqAt.RcNeAt.list_bool _ p hu⟩
 | int a =>
   obtain ⟨_,rfl⟩:=ry
   exact ⟨SeqAt.RcNeAt.int_list _ _ p hu,SeqAt.RcNeAt.list_int _ _ p hu⟩
 | str a =>
   obtain ⟨_,rfl⟩:=ry
   exact ⟨SeqAt.RcNeAt.str_list _ _ p hu,SeqAt.RcNeAt.list_str _ _ p hu⟩
 | _=>exact absurd (show false=true from fy) Bool.false_ne_true
theorem zlP {A:Around}{y:V}{u:Value}{a:Addr}{its:Array Value} (hu:A.units < cLine) (ry:zo y u) (fy:zbK y=true) (p:s.heap.IsTuple a its):SeqAt.RcNeAt A s u (.ref a) true∧SeqAt.RcNeAt A s (.ref a) u true:=by
 cases y with
 | non =>
   cases ry
   exact ⟨SeqAt.RcNeAt.none_tuple p hu,SeqAt.RcNeAt.tuple_none p hu⟩
 | bl a =>
   cases ry
   exact ⟨SeqAt.RcNeAt.bool_tuple _ p hu,SeqAt.RcNeAt.tuple_bool _ p hu⟩
 | int a =>
   obtain ⟨_,rfl⟩:=ry
   exact ⟨SeqAt.RcNeAt.int_tuple _ _ p hu,SeqAt.RcNeAt.tuple_int _ _ p hu⟩
 | str a =>
   obtain ⟨_,rfl⟩:=ry
   exact ⟨SeqAt.RcNeAt.str_tuple _ _ p hu,SeqAt.RcNeAt.tuple_str _ _ p hu⟩
 | _=>exact absurd (show false=true from fy) Bool.false_ne_true
theorem zcS {d:D}{v:V} (h:Dat H d v) (f:zbK v=true) (ds:List D):eqD d (.lst ds)=false∧eqD d (.tup ds)=false∧eqD (.lst ds) d=false∧eqD (.tup ds) d=false:=by
 cases d with
 | lst e=>unfold Dat at h;obtain ⟨_,_,rfl,_⟩:=h;cases f
 | tup e=>unfold Dat at h;obtain ⟨_,_,rfl,_⟩:=h;cases f
 | _=>simp [eqD]
theorem ziX (I:Inv X pins σ H s):∀ (n:Nat) (A:Around) (d d':D) (x y:V) (u v:Value),A.units+n < cLine->dpt d<=n->Dat H d x->Dat H d' y->zo x u->zo y v->SeqAt.EqAt A s u v (eqD d d'):=by
 intro n
 induction n with
 | zero =>
   intro A d d' x y u v hu hn h h' r r'
   rcases h.flat with ⟨f,q⟩ | ⟨ds,a,xs,rfl,rfl,h1,h2⟩ | ⟨ds,a,xs,rfl,rfl,h1,h2⟩
   . rcases h'.flat with ⟨f',q'⟩ | ⟨ds,a,xs,rfl,rfl,h1,h2⟩ | ⟨ds,a,xs,rfl,rfl,h1,h2⟩
     . rw [q d' y h' f'];exact zjW r r' f f'
     . cases r'
       obtain ⟨its,_,p,_⟩:=I.list (.inl h1)
       rw [(zcS h f ds).1];exact (zkz ω r f p.isList).1
     . cases r'
       obtain ⟨its,_,p,_⟩:=I.tuple (SqT.of h1)
       rw [(zcS h f ds).2.1];exact (zjR ω r f (show s.heap.IsTuple a its.toArray from p)).1
   . unfold dpt at hn;omega
   . unfold dpt at hn;omega
 | succ n ih =>
   intro A d d' x y u v hu hn h h' r r'
   rcases h.flat with ⟨f,q⟩ | ⟨ds,a,xs,rfl,rfl,h1,h2⟩ | ⟨ds,a,xs,rfl,rfl,h1,h2⟩
   . rcases h'.flat with ⟨f',q'⟩ | ⟨ds,a,xs,rfl,rfl,h1,h2⟩ | ⟨ds,a,xs,rfl,rfl,h1,h2⟩
     . rw [q d' y h' f'];exact zjW r r' f f'
     . cases r'
       obtain ⟨its,_,p,_⟩:=I.list (.inl h1)
       rw [(zcS h f ds).1];exact (zkz ω r f p.isList).1
     . cases r'
       obtain ⟨its,_,p,_⟩:=I.tuple (SqT.of h1)
       rw [(zcS h f ds).2.1];exact (zjR ω r f (show s.heap.IsTuple a its.toArray from p)).1
   . cases r
     obtain ⟨its,rv,p,_⟩:=I.list (.inl h1)
     rcases h'.flat with ⟨f',q'⟩ | ⟨ds',b,ys,rfl,rfl,h3,h4⟩ | ⟨ds',b,ys,rfl,rfl,h3,h4⟩
     . rw [(zcS h' f' ds).2.2.1];exact (zkz ω r' f' p.isList).2
     . cases r'
       obtain ⟨its',rv',p',_⟩:=I.list (.inl h3)
       by_cases hab:a=b
       . subst hab
         rw [zkp I _ _ _ h h'];exact SeqAt.EqAt.same _
       . refine SeqAt.EqAt.of_refs hab ?_
         by_cases hl:ds.length=ds'.length
         . have e:=SeqAt.RcAt.lists (A:=A) p.isList p'.isList (by simp [<- rv.length,<- rv'.length,<- h2.length,<- h4.length,hl]) ω
             (fun j j1 j2=>zgs (fun d d' x y u v hd a1 a2 a3 a4=>ih A.in1 d d' x y u v (by show A.units+1+n < cLine;omega) (by unfold dpt at hn;omega) a1 a2 a3 a4) h2 h4 rv rv' j j1 j2)
           have e2:its.toArray.size=ds.length:=by simp [<- rv.length,<- h2.length]
           rw [e2,zfp ds ds' hl]at e
           unfold eqD;exact e
         . unfold eqD
           rw [zfL _ _ hl]
           exact SeqAt.RcAt.lists_lengths p.isList p'.isList (by simpa [<- rv.length,<- rv'.length,<- h2.length,<- h4.length] using hl) ω
     . cases r'
       obtain ⟨its',rv',p',_⟩:=I.tuple (SqT.of h3)
       unfold eqD
       exact SeqAt.EqAt.list_tuple p.isList (show s.heap.IsTuple b its'.toArray from p') ω
   . cases r
     obtain ⟨its,rv,p0,_⟩:=I.tuple (SqT.of h1)
     have p:s.heap.IsTuple a its.toArray:=p0
     rcases h'.flat with ⟨f',q'⟩ | ⟨ds',b,ys,rfl,rfl,h3,h4⟩ | ⟨ds',b,ys,rfl,rfl,h3,h4⟩
     . rw [(zcS h' f' ds).2.2.2];exact (zjR ω r' f' p).2
     . cases r'
       obtain ⟨its',rv',p',_⟩:=I.list (.inl h3)
       unfold eqD
       exact SeqAt.EqAt.tuple_list p p'.isList ω
     . cases r'
       obtain ⟨its',rv',p0',_⟩:=I.tuple (SqT.of h3)
       have p':s.heap.IsTuple b its'.toArray:=p0'
       by_cases hab:a=b
       . subst hab
         rw [zkp I _ _ _ h h'];exact SeqAt.EqAt.same _
       . refine SeqAt.EqAt.of_refs hab ?_
         have e:=SeqAt.RcAt.tuples (A:=A) p p' ω
           (fun j j1 j2=>zgs (fun d d' x y u v hd a1 a2 a3 a4=>ih A.in1 d d' x y u v (by show A.units+1+n < cLine;omega) (by unfold dpt at hn;omega) a1 a2 a3 a4) h2 h4 rv rv' j j1 j2)
         have e2:its.toArray.size=ds.length:=by simp [<- rv.length,<- h2.length]
         have e3:its'.toArray.size=ds'.length:=by simp [<- rv'.length,<- h4.length]
         rw [e2,e3]at e
         unfold eqD
         by_cases hl:ds.length=ds'.length
         . rw [show min ds.length ds'.length=ds.length by omega,zfp ds ds' hl,beq_iff_eq.mpr hl,Bool.and_true]at e
           exact e
         . rw [beq_eq_false_iff_ne.mpr hl,Bool.and_false]at e
           rw [zfL _ _ hl];exact e
theorem zr2 (I:Inv X pins σ H s) {A:Around}{d d':D}{x y:V}{u v:Value} (hu:A.units+dpt d < cLine) (h:Dat H d x) (h':Dat H d' y) (r:zo x u) (r':zo y v):SeqAt.RcAt A s u v (eqD d d'):=by
 rcases h.flat with ⟨f,q⟩ | ⟨ds,a,xs,rfl,rfl,h1,h2⟩ | ⟨ds,a,xs,rfl,rfl,h1,h2⟩
 . rcases h'.flat with ⟨f',q'⟩ | ⟨ds,a,xs,rfl,rfl,h1,h2⟩ | ⟨ds,a,xs,rfl,rfl,h1,h2⟩
   . rw [q d' y h' f'];exact ztn r r' f f'
   . cases r'
     obtain ⟨its,_,p,_⟩:=I.list (.inl h1)
     rw [(zcS h f ds).1];exact (znn ω r f p.isList).1
   . cases r'
     obtain ⟨its,_,p,_⟩:=I.tuple (SqT.of h1)
     rw [(zcS h f ds).2.1];exact (znj ω r f (show s.heap.IsTuple a its.toArray from p)).1
 . cases r
   obtain ⟨its,rv,p,_⟩:=I.list (.inl h1)
   rcases h'.flat with ⟨f',q'⟩ | ⟨ds',b,ys,rfl,rfl,h3,h4⟩ | ⟨ds',b,ys,rfl,rfl,h3,h4⟩
   . rw [(zcS h' f' ds).2.2.1];exact (znn ω r' f' p.isList).2
   . cases r'
     obtain ⟨its',rv',p',_⟩:=I.list (.inl h3)
     by_cases hl:ds.length=ds'.length
     . have e:=SeqAt.RcAt.lists (A:=A) p.isList p'.isList (by simp [<- rv.length,<- rv'.length,<- h2.length,<- h4.length,hl]) ω
         (fun j j1 j2=>zgs (fun d d' x y u v hd a1 a2 a3 a4=>ziX I (zb2 ds) A.in1 d d' x y u v (by unfold dpt at hu;show A.units+1+zb2 ds < cLine;omega) hd a1 a2 a3 a4) h2 h4 rv rv' j j1 j2)
       have e2:its.toArray.size=ds.length:=by simp [<- rv.length,<- h2.length]
       rw [e2,zfp ds ds' hl]at e
       unfold eqD;exact e
     . unfold eqD
       rw [zfL _ _ hl]
       exact SeqAt.RcAt.lists_lengths p.isList p'.isList (by simpa [<- rv.length,<- rv'.length,<- h2.length,<- h4.length] using hl) ω
   . cases r'
     obtain ⟨its',rv',p',_⟩:=I.tuple (SqT.of h3)
     unfold eqD
     exact SeqAt.RcAt.list_tuple p.isList (show s.heap.IsTuple b its'.toArray from p') ω
 . cases r
   obtain ⟨its,rv,p0,_⟩:=I.tuple (SqT.of h1)
   have p:s.heap.IsTuple a its.toArray:=p0
   rcases h'.flat with ⟨f',q'⟩ | ⟨ds',b,ys,rfl,rfl,h3,h4⟩ | ⟨ds',b,ys,rfl,rfl,h3,h4⟩
   . rw [(zcS h' f' ds).2.2.2];exact (znj ω r' f' p).2
   . cases r'
     obtain ⟨its',rv',p',_⟩:=I.list (.inl h3)
     unfold eqD
     exact SeqAt.RcAt.tuple_list p p'.isList ω
   . cases r'
     obtain ⟨its',rv',p0',_⟩:=I.tuple (SqT.of h3)
     have p':s.heap.IsTuple b its'.toArray:=p0'
     have e:=SeqAt.RcAt.tuples (A:=A) p p' ω
       (fun j j1 j2=>zgs (fun d d' x y u v hd a1 a2 a3 a4=>ziX I (zb2 ds) A.in1 d d' x y u v (by unfold dpt at hu;show A.units+1+zb2 ds < cLine;omega) hd a1 a2 a3 a4) h2 h4 rv rv' j j1 j2)
     have e2:its.toArray.size=ds.length:=by simp [<- rv.length,<- h2.length]
     have e3:its'.toArray.size=ds'.length:=by simp [<- rv'.length,<- h4.length]
     rw [e2,e3]at e
     unfold eqD
     by_cases hl:ds.length=ds'.length
     . rw [show min ds.length ds'.length=ds.length by omega,zfp ds ds' hl,beq_iff_eq.mpr hl,Bool.and_true]at e
       exact e
     . rw [beq_eq_false_iff_ne.mpr hl,Bool.and_false]at e
       rw [zfL _ _ hl];exact e
theorem zre (I:Inv X pins σ H s) {A:Around}{d d':D}{x y:V}{u v:Value} (hu:A.units+dpt d < cLine) (h:Dat H d x) (h':Dat H d' y) (r:zo x u) (r':zo y v):SeqAt.RcNeAt A s u v (!eqD d d'):=by
 rcases h.flat with ⟨f,q⟩ | ⟨ds,a,xs,rfl,rfl,h1,h2⟩ | ⟨ds,a,xs,rfl,rfl,h1,h2⟩
 . rcases h'.flat with ⟨f',q'⟩ | ⟨ds,a,xs,rfl,rfl,h1,h2⟩ | ⟨ds,a,xs,rfl,rfl,h1,h2⟩
   . rw [q d' y h' f'];exact zrb r r' f f'
   . cases r'
     obtain ⟨its,_,p,_⟩:=I.list (.inl h1)
     rw [(zcS h f ds).1];exact (zmw ω r f p.isList).1
   . cases r'
     obtain ⟨its,_,p,_⟩:=I.tuple (SqT.of h1)
     rw [(zcS h f ds).2.1];exact (zlP ω r f (show s.heap.IsTuple a its.toArray from p)).1
 . cases r
   obtain ⟨its,rv,p,_⟩:=I.list (.inl h1)
   rcases h'.flat with ⟨f',q'⟩ | ⟨ds',b,ys,rfl,rfl,h3,h4⟩ | ⟨ds',b,ys,rfl,rfl,h3,h4⟩
   . rw [(zcS h' f' ds).2.2.1];exact (zmw ω r' f' p.isList).2
   . cases r'
     obtain ⟨its',rv',p',_⟩:=I.list (.inl h3)
     by_cases hl:ds.length=ds'.length
     . have e:=SeqAt.RcNeAt.lists (A:=A) p.isList p'.isList (by simp [<- rv.length,<- rv'.length,<- h2.length,<- h4.length,hl]) ω
         (fun j j1 j2=>zgs (fun d d' x y u v hd a1 a2 a3 a4=>ziX I (zb2 ds) A.in1 d d' x y u v (by unfold dpt at hu;show A.units+1+zb2 ds < cLine;omega) hd a1 a2 a3 a4) h2 h4 rv rv' j j1 j2)
       have e2:its.toArray.size=ds.length:=by simp [<- rv.length,<- h2.length]
       rw [e2,zfp ds ds' hl]at e
       unfold eqD;exact e
     . unfold eqD
       rw [zfL _ _ hl]
       exact SeqAt.RcNeAt.lists_lengths p.isList p'.isList (by simpa [<- rv.length,<- rv'.length,<- h2.length,<- h4.length] using hl) ω
   . cases r'
     obtain ⟨its',rv',p',_⟩:=I.tuple (SqT.of h3)
     unfold eqD
     exact SeqAt.RcNeAt.list_tuple p.isList (show s.heap.IsTuple b its'.toArray from p') ω
 . cases r
   obtain ⟨its,rv,p0,_⟩:=I.tuple (SqT.of h1)
   have p:s.heap.IsTuple a its.toArray:=p0
   rcases h'.flat with ⟨f',q'⟩ | ⟨ds',b,ys,rfl,rfl,h3,h4⟩ | ⟨ds',b,ys,rfl,rfl,h3,h4⟩
   . rw [(zcS h' f' ds).2.2.2];exact (zlP ω r' f' p).2
   . cases r'
     obtain ⟨its',rv',p',_⟩:=I.list (.inl h3)
     unfold eqD
     exact SeqAt.RcNeAt.tuple_list p p'.isList ω
   . cases r'
     obtain ⟨its',rv',p0',_⟩:=I.tuple (SqT.of h3)
     have p':s.heap.IsTuple b its'.toArray:=p0'
     have e:=SeqAt.RcNeAt.tuples (A:=A) p p' ω
       (fun j j1 j2=>zgs (fun d d' x y u v hd a1 a2 a3 a4=>ziX I (zb2 ds) A.in1 d d' x y u v (by unfold dpt at hu;show A.units+1+zb2 ds < cLine;omega) hd a1 a2 a3 a4) h2 h4 rv rv' j j1 j2)
     have e2:its.toArray.size=ds.length:=by simp [<- rv.length,<- h2.length]
     have e3:its'.toArray.size=ds'.length:=by simp [<- rv'.length,<- h4.length]
     rw [e2,e3]at e
     unfold eqD
     by_cases hl:ds.length=ds'.length
     . rw [show min ds.length ds'.length=ds.length by omega,zfp ds ds' hl,beq_iff_eq.mpr hl,Bool.and_true]at e
       exact e
     . rw [beq_eq_false_iff_ne.mpr hl,Bool.and_false]at e
       rw [zfL _ _ hl];exact e
end
section
variable {X:Cx}
noncomputable def ziv:R2:=fun x y H Q=>∃ d d',Dat H d x∧Dat H d' y∧dpt d<=100∧Q (.bl (eqD d d')) H
noncomputable def zil:R2:=fun x y H Q=>∃ d d',Dat H d x∧Dat H d' y∧dpt d<=100∧Q (.bl (!eqD d d')) H
theorem zvz {k:Nat} (hr:zL k X.A):OpR X (compareOp .Eq) ziv:=by
 intro pins s σ H x y v u Q I r r' h
 obtain ⟨d,d',h1,h2,h3,q⟩:=h
 exact zr2 I (by have:=hr.un;omega) h1 h2 r r' _ _ _ _ ⟨.bl _,H,I,rfl,q⟩
theorem zub {k:Nat} (hr:zL k X.A):OpR X (compareOp .NotEq) zil:=by
 intro pins s σ H x y v u Q I r r' h
 obtain ⟨d,d',h1,h2,h3,q⟩:=h
 exact zre I (by have:=hr.un;omega) h1 h2 r r' _ _ _ _ ⟨.bl _,H,I,rfl,q⟩
end
end L2
end
section
namespace L2
open PySem PySem.Spec PyProof.Rows
section
variable {X:Cx}
noncomputable def zvX (K:PySem.W.Frag):List V->Hp->VK->Prop:=fun xs H Q=>∃ x t b,zc5 K H x t∧((∃ n,xs=[x,.ty n]∧PySem.W.kitOne K t (.type n)=some b)∨(∃ C,xs=[x,.ref C]∧PySem.W.kitOne K t (.ref C)=some b))∧Q (.bl b) H
theorem znC:zcK X (.builtin "isinstance") (zvX X.K):=by
 intro pins s σ H xs us Q I r h
 obtain ⟨x,t,b,ty,h | h,q⟩:=h
 . obtain ⟨n,rfl,hk⟩:=h
   obtain ⟨u,c,rfl,ru,rc⟩:=zjV r
   cases rc
   exact znp I ru ty hk fun tk=>⟨.bl b,H,I.tok _,rfl,q⟩
 . obtain ⟨C,rfl,hk⟩:=h
   obtain ⟨u,c,rfl,ru,rc⟩:=zjV r
   cases rc
   exact znp I ru ty hk fun tk=>⟨.bl b,H,I.tok _,rfl,q⟩
theorem zuL:OpR X (compareOp .Is) (fun x y H Q=>∃ b c,x = .bl b∧y = .bl c∧Q (.bl (b == c)) H):=by
 intro pins s σ H x y v u Q I r r' h
 obtain ⟨b,c,rfl,rfl,q⟩:=h
 cases r;cases r'
 refine wpAny_is_plain rfl ⟨.bl (b == c),H,I,?_,q⟩
 cases b <;> cases c <;> rfl
theorem zqT:OpR X (compareOp .IsNot) (fun x y H Q=>∃ b c,x = .bl b∧y = .bl c∧Q (.bl (!(b == c))) H):=by
 intro pins s σ H x y v u Q I r r' h
 obtain ⟨b,c,rfl,rfl,q⟩:=h
 cases r;cases r'
 refine wpAny_isNot_plain rfl ⟨.bl (!(b == c)),H,I,?_,q⟩
 cases b <;> cases c <;> rfl
theorem zlq {xs:List V}{us:List Value} (r:zt xs us) {i:Nat}{v:Value} (e:us.toArray[i]?=some v):∃ x,xs[i]?=some x∧zo x v:=by
 have e':us[i]?=some v:=by simpa using e
 have hi:i < us.length:=(List.getElem?_eq_some_iff.mp e').1
 have l:=r.length
 have ex:xs[i]?=some xs[i]:=List.getElem?_eq_getElem ω
 obtain ⟨u,eu,ru⟩:=r.get ex
 rw [e']at eu;cases eu
 exact ⟨_,ex,ru⟩
theorem zvp (bs:List Bool):((List.range bs.length).all fun i=>bs.getD i false)=bs.all id:=by
 rw [Bool.eq_iff_iff,List.all_eq_true,List.all_eq_true]
 constructor
 . intro q b hb
   obtain ⟨i,hi,e⟩:=List.getElem_of_mem hb
   have:=q i (List.mem_range.mpr hi)
   rw [List.getD_eq_getElem?_getD,List.getElem?_eq_getElem hi,e]at this
   exact this
 . intro q i hi
   have hi':=List.mem_range.mp hi
   rw [List.getD_eq_getElem?_getD,List.getElem?_eq_getElem hi']
   exact q _ (List.getElem_mem hi')
theorem zvn (bs:List Bool):((List.range bs.length).any fun i=>bs.getD i false)=bs.any id:=by
 rw [Bool.eq_iff_iff,List.any_eq_true,List.any_eq_true]
 constructor
 . rintro ⟨i,hi,q⟩
   have hi':=List.mem_range.mp hi
   rw [List.getD_eq_getElem?_getD,List.getElem?_eq_getElem hi']at q
   exact ⟨_,List.getElem_mem hi',q⟩
 . rintro ⟨b,hb,q⟩
   obtain ⟨i,hi,e⟩:=List.getElem_of_mem hb
   refine ⟨i,List.mem_range.mpr hi,?_⟩
   rw [List.getD_eq_getElem?_getD,List.getElem?_eq_getElem hi,e]
   exact q
theorem zkj {pins:List (Addr×Obj)}{σ:St}{H:Hp}{s:Shared}{a:Addr}{its:Array Value} (I:Inv X pins σ H s) {h':Heap}{tk:Nat}
   (hk:∀ b o,b∉[s.heap.objs.size]->(s.heap.push { cls := .type "list_iterator",data := .fields #[.ref a,.int 0 0] }).get? b=some o->h'.get? b=some o):Inv X pins σ H { s with heap:=h',toks:=tk } :=
 I.kept fun b o e=>hk b o (by simpa using Nat.ne_of_lt (Heap.lt_size e)) (Heap.get?_push_of_some _ e)
theorem zmC {A:Around}{bs:List Bool}{its:List Value} (rv:zt (bs.map V.bl) its):TruthOf X.prog X.w A (fun i v=>its.toArray[i]?=some v) (fun i=>bs.getD i false):=by
 intro i v s Q E hp hq
 obtain ⟨x,ex,rx⟩:=zlq rv hp
 rw [List.getElem?_map]at ex
 cases eb:bs[i]? with
 | none=>rw [eb]at ex;cases ex
 | some b =>
   rw [eb]at ex
   cases ex
   cases rx
   have hq':Q (bs.getD i false) s:=hq
   rw [List.getD_eq_getElem?_getD,eb]at hq'
   exact wpAny_truthy_bool hq'
theorem zu4 (hc:X.calm=true):zcK X (.builtin "all") (fun xs H Q=>∃ (a:Addr) (bs:List Bool),xs=[.ref a]∧SqL X.K H a (bs.map V.bl)∧Q (.bl (bs.all id)) H):=by
 intro pins s σ H xs us Q I r h
 obtain ⟨a,bs,rfl,hq,q⟩:=h
 obtain ⟨u,rfl,ru⟩:=zdm r
 cases ru
 obtain ⟨its,rv,p,_⟩:=I.list hq
 refine call_all_walk (wpAny_pyIter_list p.isList ?_)
 obtain ⟨o,ho,_⟩:=id p.isList
 refine ⟨s.heap.objs.size,_,_,_,_,_,_,rfl,Walks.list (A:=X.A.in1) (I.ok.hd hc) _ a (Nat.ne_of_lt (Heap.lt_size ho)) its.toArray,⟨⟨_,Heap.get?_push_size _ rfl,rfl,rfl⟩,p.isList.at fun o e=>Heap.get?_push_of_some _ e⟩,zmC (A:=X.A.in1) rv,fun h' tk hk=>?_⟩
 refine ⟨.bl (bs.all id),H,zkj (a:=a) (its:=its.toArray) I hk,?_,q⟩
 have e:its.toArray.size=bs.length:=by simp [<- rv.length]
 rw [e,zvp];rfl
theorem zwP (hc:X.calm=true):zcK X (.builtin "any") (fun xs H Q=>∃ (a:Addr) (bs:List Bool),xs=[.ref a]∧SqL X.K H a (bs.map V.bl)∧Q (.bl (bs.any id)) H):=by
 intro pins s σ H xs us Q I r h
 obtain ⟨a,bs,rfl,hq,q⟩:=h
 obtain ⟨u,rfl,ru⟩:=zdm r
 cases ru
 obtain ⟨its,rv,p,_⟩:=I.list hq
 refine call_any_walk (wpAny_pyIter_list p.isList ?_)
 obtain ⟨o,ho,_⟩:=id p.isList
 refine ⟨s.heap.objs.size,_,_,_,_,_,_,rfl,Walks.list (A:=X.A.in1) (I.ok.hd hc) _ a (Nat.ne_of_lt (Heap.lt_size ho)) its.toArray,⟨⟨_,Heap.get?_push_size _ rfl,rfl,rfl⟩,p.isList.at fun o e=>Heap.get?_push_of_some _ e⟩,zmC (A:=X.A.in1) rv,fun h' tk hk=>?_⟩
 refine ⟨.bl (bs.any id),H,zkj (a:=a) (its:=its.toArray) I hk,?_,q⟩
 have e:its.toArray.size=bs.length:=by simp [<- rv.length]
 rw [e,zvn];rfl
theorem zrN:∀ (ns:List Int) (k:Nat),k<=ns.length->preSum (fun i=>ns.getD i 0) k=(ns.take k).sum:=by
 intro ns k
 induction k with
 | zero=>intro _;simp [preSum]
 | succ k ih =>
   intro hk
   have e:ns[k]?=some ns[k]:=List.getElem?_eq_getElem ω
   rw [List.take_add_one,e,List.sum_append]
   show preSum (fun i=>ns.getD i 0) k+ns.getD k 0=_
   rw [ih ω,List.getD_eq_getElem?_getD,e]
   simp
theorem zt4 (hc:X.calm=true):zcK X (.builtin "sum") (fun xs H Q=>∃ (a:Addr) (ns:List Int),xs=[.ref a]∧SqL X.K H a (ns.map V.int)∧Q (.int ns.sum) H):=by
 intro pins s σ H xs us Q I r h
 obtain ⟨a,ns,rfl,hq,q⟩:=h
 obtain ⟨u,rfl,ru⟩:=zdm r
 cases ru
 obtain ⟨its,rv,p,_⟩:=I.list hq
 refine call_sum_walkG (wpAny_pyIter_list p.isList ?_)
 obtain ⟨o,ho,_⟩:=id p.isList
 refine ⟨s.heap.objs.size,_,_,_,_,_,fun i=>ns.getD i 0,rfl,Walks.list (A:=X.A.in1) (I.ok.hd hc) _ a (Nat.ne_of_lt (Heap.lt_size ho)) its.toArray,⟨⟨_,Heap.get?_push_size _ rfl,rfl,rfl⟩,p.isList.at fun o e=>Heap.get?_push_of_some _ e⟩,?_,?_,fun h' tk t' hk=>?_⟩
 . intro b hb
   rw [Heap.size_push]
   rcases List.mem_cons.mp hb with e | e
   . rw [e];exact Nat.lt_succ_self _
   . have e':b=a:=by simpa using e
     rw [e'];exact Nat.lt_succ_of_lt (Heap.lt_size ho)
 . intro i v hp
   obtain ⟨x,ex,rx⟩:=zlq rv hp
   rw [List.getElem?_map]at ex
   cases eb:ns[i]? with
   | none=>rw [eb]at ex;cases ex
   | some b =>
     rw [eb]at ex
     cases ex
     obtain ⟨t,rfl⟩:=rx
     exact ⟨t,by show Value.int b t=Value.int (ns.getD i 0) t;rw [List.getD_eq_getElem?_getD,eb];rfl⟩
 . refine ⟨.int ns.sum,H,zkj (a:=a) (its:=its.toArray) I hk,⟨t',?_⟩,q⟩
   have e:its.toArray.size=ns.length:=by simp [<- rv.length]
   rw [e,zrN ns ns.length (Nat.le_refl _),List.take_length]
noncomputable def zb9 (ns:List Int):List Int:=firstMet (fun i=>ns.getD i 0) ns.length
theorem zvO (hc:X.calm=true):zcK X (.type "set") (fun xs H Q=>∃ (a:Addr) (ns:List Int),xs=[.ref a]∧SqL X.K H a (ns.map V.int)∧ns.length < 4000∧∀ p,H p=none->Q (.ref p) (upd H p (.set (fun k=>(zb9 ns).any (· == k)) (zb9 ns).length))):=by
 intro pins s σ H xs us Q I r h
 obtain ⟨a,ns,rfl,hq,hn,q⟩:=h
 obtain ⟨u,rfl,ru⟩:=zdm r
 cases ru
 obtain ⟨its,rv,p,_⟩:=I.list hq
 have e:its.toArray.size=ns.length:=by simp [<- rv.length]
 refine call_set_list (items:=its.toArray) (ns:=ns) (I.ok.hd hc) p.isList (by simpa using zmT rv) (by rw [e];unfold scanBound;omega) fun h' tk hS hk=>?_
 rw [e]at hS
 exact ⟨.ref s.heap.objs.size,_,I.laid (a:=s.heap.objs.size) (o := .set (fun k=>(zb9 ns).any (· == k)) (zb9 ns).length) (fun b o eb=>hk b o (Heap.lt_size eb) eb) (Nat.le_refl _) hS,rfl,q _ (I.hok.fresh (Nat.le_refl _))⟩
theorem zvT:zcK X (.builtin "len") (fun xs H Q=>∃ p S n,xs=[.ref p]∧H p=some (.set S n)∧Q (.int n) H):=by
 intro pins s σ H xs us Q I r h
 obtain ⟨p,S,n,rfl,hp,q⟩:=h
 obtain ⟨u,rfl,ru⟩:=zdm r
 cases ru
 obtain ⟨o,es,ep,t,ho,hex,hd,_,_,hb,hf,hn⟩:=I.hok p _ hp
 refine call_len_set ho hex hd hf (by unfold scanBound at hb;omega) ⟨.int n,H,I.tok _,⟨_,by rw [hn]⟩,q⟩
end
end L2
end
section
namespace L2
open PySem PySem.Spec PyProof.Rows
noncomputable def znh (osc scope:Scope) (N0 N:List Str) (js:List (Option Nat)):Bool :=
 decide (scope.kind = .function) && scope.names.all (fun y=>decide (y.2 ≠ .cell) && decide (scope.names.lookup y.1=some y.2) && (decide (y.2 ≠ .free) || decide (osc.names.lookup y.1=some .cell) || decide (osc.names.lookup y.1=some .free))) &&
   decide (js.length=N.length) && (List.range js.length).all fun i=>match js[i]? with
     | some (some k)=>match N[i]?,N0[k]? with
       | some x,some y=>decide (x=y) && decide (scope.names.lookup x=some .free)
       | _,_=>false
     | _=>true
theorem zbI.of {X:Cx}{osc scope:Scope}{N0 N:List Str}{js:List (Option Nat)} (hs:X.env.scope=osc) (hN:X.N=N0) (hc:znh osc scope N0 N js=true):zbI X scope N js:=by
 unfold znh at hc
 rw [Bool.and_eq_true,Bool.and_eq_true,Bool.and_eq_true]at hc
 obtain ⟨⟨⟨h1,h2⟩,h3⟩,h4⟩:=hc
 rw [List.all_eq_true]at h2 h4
 have g:∀ y∈scope.names,y.2 ≠ .cell∧scope.names.lookup y.1=some y.2∧(y.2 ≠ .free∨osc.names.lookup y.1=some .cell∨osc.names.lookup y.1=some .free):=fun y hy=>by
   have:=h2 y hy
   simp only [Bool.and_eq_true,Bool.or_eq_true,decide_eq_true_eq]at this
   exact ⟨this.1.1,this.1.2,by rcases this.2 with (z | z) | z <;> simp [z]⟩
 refine ⟨of_decide_eq_true h1,fun y hy=>(g y hy).1,fun y hy=>(g y hy).2.1,fun y hy hf=>?_,of_decide_eq_true h3,fun i k e=>?_⟩
 . rcases (g y hy).2.2 with z | z | z
   . exact absurd hf z
   . left;show X.env.scope.names.lookup y.1=_;rw [hs];exact z
   . right;show X.env.scope.names.lookup y.1=_;rw [hs];exact z
 . have hi:i < js.length:=(List.getElem?_eq_some_iff.mp e).1
   have q:=h4 i (List.mem_range.mpr hi)
   rw [e]at q
   cases e1:N[i]? with
   | none=>rw [e1]at q;cases q
   | some x =>
     cases e2:N0[k]? with
     | none =>
       rw [e1]at q
       dsimp only at q
       rw [e2]at q
       cases q
     | some y =>
       rw [e1]at q
       dsimp only at q
       rw [e2]at q
       simp only [Bool.and_eq_true,decide_eq_true_eq]at q
       exact ⟨x,rfl,by rw [hN,e2,q.1],q.2⟩
section
variable {K:PySem.W.Frag}{a D:Addr}{xs:List V}{g:TG}{tc:TT}{te:TE}{σ:St}{H1:Hp}{js:List (Option Nat)}{Q:VK}
end
section
variable {prog:Program}{w:World}{A:Around}{E:Value->Shared->Prop}{s:Shared}
theorem zsg {sl:Addr}{vu:Value}{t1 t2:Tok}{Q:Int×Int×Nat->Shared->Prop} (hs:s.heap.IsSliceOf sl (.int 1 t1) .none (.int (-1) t2))
   (h:Q (1,-1,2) s):wpAny (model prog w) A (Builtin.Slice.sliceApplied (.ref sl) (pure (3:Int))) Q E s:=by
 obtain ⟨os,hos,hcs,hds⟩:=id hs
 unfold Builtin.Slice.sliceApplied Builtin.Slice.sliceFields
 refine wpAny_bind (wpAny_bind (wpAny_field hos hds (x := .int 1 t1) rfl (wpAny_bind (wpAny_field hos hds (x := .none) rfl (wpAny_bind (wpAny_field hos hds (x := .int (-1) t2) rfl (wpAny_pure ?_)))))))
 refine wpAny_bind (HT.slicePart_ (.int (-1) t2) ?_)
 show wpAny _ _ (if ((-1:Int) == 0)=true then _ else _) _ _ s
 rw [if_neg ϑ]
 exact wpAny_bind (HT.slicePart_ (.int 1 t1) (wpAny_bind (HT.slicePart_ .none (wpAny_bind (wpAny_pure (wpAny_pure h))))))
theorem zvY {t sl:Addr}{v0 v1 v2:Value}{t1 t2:Tok}{Q:Value->Shared->Prop} (ht:IsTup s.heap t #[v0,v1,v2]) (hs:s.heap.IsSliceOf sl (.int 1 t1) .none (.int (-1) t2))
   (h:Q (.ref s.heap.objs.size) { s with heap:=s.heap.push { cls := .type "tuple",data := .seq #[v1,v0] } }):wpAny (model prog w) A (getItem (.ref t) (.ref sl)) Q E s:=by
 obtain ⟨os,hos,hcs,hds⟩:=id hs
 have hTs:s.TypeIs (.ref sl) "slice":=⟨os,hos,hcs⟩
 unfold getItem
 try with_reducible refine wpAny_holding ?_
 first | refine wpAny_bind (wpAny_pure ?_) | skip
 refine wpAny_bind (wpAny_sequenceKey ht.typeIs ϑ ?_)
 refine wpAny_bind (wpAny_callSpecial?_slot (name:=Str.ofString "__getitem__") ht.typeIs PyProof.Rows.slot_tuple_getitem
   (wpAny_call_entry PyProof.Rows.slot_tuple_getitem ht.typeIs entry_tuple_getitem ?_ (args_tuple_getitem _ _)))
 show wpAny _ _ (Builtin.Tuple.tupleItemsOf (.ref t) >>= _) _ _ s
 refine wpAny_bind (tupleItemsOf_ ht ?_)
 refine wpAny_bind (wpAny_typeOf hTs ?_)
 rw [if_pos ϑ]
 refine wpAny_bind (zsg (vu := .none) hs ?_)
 have hz:sizeOk (.seq #[v1,v0]):=by show 2<=sizeLine;decide
 first
   | exact wpAny_bind (m:=Builtin.Tuple.tupleExact _) (wpAny_newObj_type (wpAny_pure ⟨_,rfl,wpAny_pure h⟩) hz)
   | exact wpAny_bind (m:=Builtin.Tuple.tupleExact _) (wpAny_newObj_type (wpAny_bind (wpAny_pure (wpAny_pure ⟨_,rfl,wpAny_pure h⟩))) hz)
   | exact wpAny_bind (wpAny_bind (m:=Builtin.Tuple.tupleExact _) (wpAny_newObj_type (wpAny_pure (wpAny_pure ⟨_,rfl,wpAny_pure h⟩)) hz))
   | exact wpAny_bind (wpAny_bind (m:=Builtin.Tuple.tupleExact _) (wpAny_newObj_type (wpAny_pure ⟨_,rfl,wpAny_pure h⟩) hz))
end
section
variable {X:Cx}{e st:Expr}{te:TE}{lo hi:Option Expr}{tl th ts:TO}{pos p2:Pos}
noncomputable def zu0 (te:TE) (tl th ts:TO):TE:=fun σ H Q=>te σ H fun x H1=>tl σ H1 fun l H2=>th σ H2 fun u H3=>ts σ H3 fun k H4=>l=some 1∧u=none∧k=some (-1)∧∃ a p q r,x = .ref a∧H4 a=some (.tup [p,q,r]) ∧
 ∀ b,H4 b=none->Q (.ref b) (upd H4 b (.tup [q,p]))
theorem zrW (he:PE X e te) (hl:PO X lo tl) (hu:PO X hi th) (hst:PO X (some st) ts):PE X (.Subscript e (.Slice lo hi (some st) p2) pos) (zu0 te tl th ts):=by
 intro pins s σ H Q I h
 refine Subscript_ (thn (he pins s σ H _ I h) fun v s1 ⟨x,H1,I1,r1,q1⟩=>?_)
 refine wpAny_Slice (thn (hl pins s1 σ H1 _ I1 q1) fun vl s2 ⟨l,H2,I2,pl,q2⟩=>thn (hu pins s2 σ H2 _ I2 q2) fun vu s3 ⟨u,H3,I3,pu,q3⟩=>thn (hst pins s3 σ H3 _ I3 q3) fun vs s4 ⟨k,H4,I4,ps,q4⟩=>?_)
 obtain ⟨rfl,rfl,rfl,a,p,q,r,rfl,ha,q5⟩:=q4
 obtain ⟨t1,rfl⟩:∃ t,vl = .int 1 t:=by cases pl;exact ⟨_,rfl⟩
 obtain rfl:vu = .none:=by cases pu;rfl
 obtain ⟨t2,rfl⟩:∃ t,vs = .int (-1) t:=by cases ps;exact ⟨_,rfl⟩
 cases r1
 have I5:Inv X pins σ H4 { s4 with heap:=s4.heap.push { cls := .type "slice",data := .fields #[.int 1 t1,.none,.int (-1) t2] } }:=I4.kept (t':=s4.toks) fun b ob q=>Heap.get?_push_of_some _ q
 show wpAny (model X.prog X.w) X.A (subscriptTail e (.Slice lo hi (some st) p2) (.ref a) (.ref s4.heap.objs.size)) (EP X pins σ Q) X.xe { s4 with heap:=s4.heap.push { cls := .type "slice",data := .fields #[.int 1 t1,.none,.int (-1) t2] } }
 obtain ⟨its,rv,ht,hz⟩:=I5.tuple (SqT.of ha)
 obtain ⟨u0,r0,rfl,rv0,rv'⟩:∃ u r0,its=u :: r0∧zo p u∧zt [q,r] r0:=by cases rv with | cons a b=>exact ⟨_,_,rfl,a,b⟩
 obtain ⟨u1,u2,rfl,rv1,rv2⟩:=zjV rv'
 refine tail_any (ops:=[.ref a,.ref s4.heap.objs.size]) ht.typeIs slot_tuple_getitem.lookup (zvY ht (Heap.IsSliceOf.new ..) ?_) (by with_unfolding_all rfl)
 refine ⟨.ref _,_,I5.laid (t':=s4.toks) (o := .tup [q,p]) (fun b ob q=>Heap.get?_push_of_some _ q) (Nat.le_refl _) ?_,rfl,q5 _ (I5.hok.fresh (Nat.le_refl _))⟩
 exact ⟨by show 2<=sizeLine;decide,[u1,u0],.cons rv1 (.cons rv0 .nil),IsTup.new _ _⟩
end
end L2
namespace L2
open PySem PySem.Spec PyProof.Rows
structure zlM (K:PySem.W.Frag) (C:Addr):Prop where
 ha:PySem.W.findIn K (.ref C) "__class__" = some (some (.builtin "object.__class__"))
 hn:PySem.W.specialIn K (.builtin "object.__class__") "__get__" = some (some (.builtin "getset_descriptor.__get__"))
 htk:PySem.W.takesIn K (.builtin "object.__class__")=some true
 hm:PySem.W.mroIn K C (.type "object")=some true
structure DF (K:PySem.W.Frag) (x q:Str) (st:Stmt) (ps:List Str) where
 a:Addr
 d:FuncData
 F:Fun K x q st a d
 b:zc4 K d ps []
structure CF (K:PySem.W.Frag) (mg:Str->Option Value) (x:Str) where
 c:Addr
 m:mg x=some (.ref c)
 cl:Cls K c
 ic:zlM K c
structure VF (mg:Str->Option Value) (x:Str) (v:V) where
 u:Value
 m:mg x=some u
 r:zo v u
noncomputable def Isa (K:PySem.W.Frag) (C C':Addr) (b:Bool):Prop:=PySem.W.kitOne K (.ref C) (.ref C')=some b
end L2
namespace L2
open PySem
section
variable {env:Env}{es:List Expr}
theorem zw {c j p}:starEach (.Constant c j p :: es) env=(false,eval (.Constant c j p) env) :: starEach es env:=rfl
theorem zf {x p}:starEach (.Name x p :: es) env=(false,eval (.Name x p) env) :: starEach es env:=rfl
theorem zcU {a o b p}:starEach (.BinOp a o b p :: es) env=(false,eval (.BinOp a o b p) env) :: starEach es env:=rfl
theorem ziO {o a p}:starEach (.UnaryOp o a p :: es) env=(false,eval (.UnaryOp o a p) env) :: starEach es env:=rfl
theorem zbb {f a k p}:starEach (.Call f a k p :: es) env=(false,eval (.Call f a k p) env) :: starEach es env:=rfl
theorem zco {o a p}:starEach (.Attribute o a p :: es) env=(false,eval (.Attribute o a p) env) :: starEach es env:=rfl
theorem zcb {o a p}:starEach (.Subscript o a p :: es) env=(false,eval (.Subscript o a p) env) :: starEach es env:=rfl
theorem zhm {a p}:starEach (.List a p :: es) env=(false,eval (.List a p) env) :: starEach es env:=rfl
theorem zeT {a k p}:starEach (.Tuple a k p :: es) env=(false,eval (.Tuple a k p) env) :: starEach es env:=rfl
theorem zfD {a g sc p}:starEach (.ListComp a g sc p :: es) env=(false,eval (.ListComp a g sc p) env) :: starEach es env:=rfl
end
end L2
namespace L2
open PySem
end L2
namespace L2
open PySem
end L2
namespace L2
open PySem
end L2
end
section
namespace L2
open PySem
section
variable {K:PySem.W.Frag}{mg:Str->Option Value}{h:Heap}{x q:Str}{st:Stmt}{ps:List Str}{C:Addr}
inductive GB (K:PySem.W.Frag) (x:Str) (st:Stmt) (ps:List Str):Prop
 | mk {f:Addr} {oc kV doc pm cdv ct:Value} {od an:Option Addr} {sl:Array (Option Value)} (a:PySem.W.nsIn K mainGlobals x=some (some (.ref f)))
   (l:K.lookup f=some ⟨oc,od,.func (PySem.W.fnOf x x (zdo st) (zc6 st) (zA st) .none kV doc pm an cdv ct),sl⟩) (c:PySem.W.codeIn K cdv x=true) (k:PySem.W.keepIn K (.ref f)=true):GB K x st ps
inductive MB (K:PySem.W.Frag) (C:Addr) (x q:Str) (st:Stmt) (ps:List Str):Prop
 | mk {f:Addr} {oc kV doc pm cdv ct:Value} {od an:Option Addr} {sl:Array (Option Value)} (a:PySem.W.findIn K (.ref C) x=some (some (.ref f))) (i:PySem.W.isFn K (.ref f)=true)
   (l:K.lookup f=some ⟨oc,od,.func (PySem.W.fnOf x q (zdo st) (zc6 st) (zA st) .none kV doc pm an cdv ct),sl⟩) (c:PySem.W.codeIn K cdv q=true) (k:PySem.W.keepIn K (.ref f)=true):MB K C x q st ps
structure CB (K:PySem.W.Frag) (x:Str) (C:Addr):Prop where
 a:PySem.W.nsIn K mainGlobals x=some (some (.ref C))
 pg:PySem.W.plainGet K C Str.empty=true
 hd:PySem.W.hasDictIn K C=true
 po:PySem.W.plainOver K C=true
 sa:PySem.W.findIn K (.ref C) "__setattr__" = some (some (.builtin "object.__setattr__"))
 ha:PySem.W.findIn K (.ref C) "__class__" = some (some (.builtin "object.__class__"))
 hm:PySem.W.mroIn K C (.type "object")=some true
 hn:PySem.W.specialIn K (.builtin "object.__class__") "__get__" = some (some (.builtin "getset_descriptor.__get__"))
 htk:PySem.W.takesIn K (.builtin "object.__class__")=some true
noncomputable def CB.cf (X:K.In h) (G:h.Ns mainGlobals mg) (b:CB K x C):CF K mg x:=⟨C,PySem.W.mg_of X G b.a,⟨b.pg,b.hd,b.po,b.sa⟩,⟨b.ha,b.hn,b.htk,b.hm⟩⟩
noncomputable abbrev zbn (x q:Str) (st:Stmt) (ps:List Str):Prop:=∀ (kV doc pm:Value) (an:Option Addr) (cdv ct:Value) (us:List Value),us.length=ps.length->bindArgs (PySem.W.fnOf x q (zdo st) (zc6 st) (zA st) .none kV doc pm an cdv ct) ⟨us,[]⟩=pure (ps.zip us)
theorem zbn.mk1 {st:Stmt}{x q a:Str} (h:∀ kV doc pm an cdv ct u,bindArgs (PySem.W.fnOf x q (zdo st) (zc6 st) (zA st) .none kV doc pm an cdv ct) ⟨[u],[]⟩=pure [(a,u)]):zbn x q st [a]:=by
 intro _ _ _ _ _ _ us hl;rcases us with _ | ⟨u1,_ | ⟨x0,us⟩⟩ <;> first | exact h _ _ _ _ _ _ _ | cases hl | (simp at hl)
theorem zbn.mk2 {st:Stmt}{x q a b:Str} (h:∀ kV doc pm an cdv ct u v,bindArgs (PySem.W.fnOf x q (zdo st) (zc6 st) (zA st) .none kV doc pm an cdv ct) ⟨[u,v],[]⟩=pure [(a,u),(b,v)]):zbn x q st [a,b]:=by
 intro _ _ _ _ _ _ us hl;rcases us with _ | ⟨u1,_ | ⟨u2,_ | ⟨x0,us⟩⟩⟩ <;> first | exact h _ _ _ _ _ _ _ _ | cases hl | (simp at hl)
theorem zbn.mk3 {st:Stmt}{x q a b c:Str} (h:∀ kV doc pm an cdv ct u v w,bindArgs (PySem.W.fnOf x q (zdo st) (zc6 st) (zA st) .none kV doc pm an cdv ct) ⟨[u,v,w],[]⟩=pure [(a,u),(b,v),(c,w)]):zbn x q st [a,b,c]:=by
 intro _ _ _ _ _ _ us hl;rcases us with _ | ⟨u1,_ | ⟨u2,_ | ⟨u3,_ | ⟨x0,us⟩⟩⟩⟩ <;> first | exact h _ _ _ _ _ _ _ _ _ | cases hl | (simp at hl)
theorem zbn.mk4 {st:Stmt}{x q a b c d:Str} (h:∀ kV doc pm an cdv ct u v w y,bindArgs (PySem.W.fnOf x q (zdo st) (zc6 st) (zA st) .none kV doc pm an cdv ct) ⟨[u,v,w,y],[]⟩=pure [(a,u),(b,v),(c,w),(d,y)]):zbn x q st [a,b,c,d]:=by
 intro _ _ _ _ _ _ us hl;rcases us with _ | ⟨u1,_ | ⟨u2,_ | ⟨u3,_ | ⟨u4,_ | ⟨x0,us⟩⟩⟩⟩⟩ <;> first | exact h _ _ _ _ _ _ _ _ _ _ | cases hl | (simp at hl)
theorem zbn.mk5 {st:Stmt}{x q a b c d e:Str} (h:∀ kV doc pm an cdv ct u v w y z,bindArgs (PySem.W.fnOf x q (zdo st) (zc6 st) (zA st) .none kV doc pm an cdv ct) ⟨[u,v,w,y,z],[]⟩=pure [(a,u),(b,v),(c,w),(d,y),(e,z)]):zbn x q st [a,b,c,d,e]:=by
 intro _ _ _ _ _ _ us hl;rcases us with _ | ⟨u1,_ | ⟨u2,_ | ⟨u3,_ | ⟨u4,_ | ⟨u5,_ | ⟨x0,us⟩⟩⟩⟩⟩⟩ <;> first | exact h _ _ _ _ _ _ _ _ _ _ _ | cases hl | (simp at hl)
theorem GB.df (X:K.In h) (G:h.Ns mainGlobals mg) (b:GB K x st ps) (hb:zbn x x st ps:=by first | exact zbn.mk1 fun _ _ _ _ _ _ _=>rfl | exact zbn.mk2 fun _ _ _ _ _ _ _ _=>rfl | exact zbn.mk3 fun _ _ _ _ _ _ _ _ _=>rfl | exact zbn.mk4 fun _ _ _ _ _ _ _ _ _ _=>rfl | exact zbn.mk5 fun _ _ _ _ _ _ _ _ _ _ _=>rfl):∃ D:DF K x x st ps,mg x=some (.ref D.a)∧∀ us:List Value,us.length=ps.length->bindArgs D.d ⟨us,[]⟩=pure (ps.zip us):=by
 obtain ⟨a,l,c,k⟩:=b
 exact ⟨⟨_,_,zgr l c k,(zgr l c k).binds hb⟩,PySem.W.mg_of X G a,hb _ _ _ _ _ _⟩
theorem MB.df (b:MB K C x q st ps) (hb:zbn x q st ps:=by first | exact zbn.mk1 fun _ _ _ _ _ _ _=>rfl | exact zbn.mk2 fun _ _ _ _ _ _ _ _=>rfl | exact zbn.mk3 fun _ _ _ _ _ _ _ _ _=>rfl | exact zbn.mk4 fun _ _ _ _ _ _ _ _ _ _=>rfl | exact zbn.mk5 fun _ _ _ _ _ _ _ _ _ _ _=>rfl):∃ D:DF K x q st ps,zdR K C x D.a:=by
 obtain ⟨a,i,l,c,k⟩:=b
 exact ⟨⟨_,_,zgr l c k,(zgr l c k).binds hb⟩,⟨a,i,k⟩⟩
theorem MB.mk' (m:PySem.W.makesIn K C=true) (kc:PySem.W.keepIn K (.ref C)=true) (b:MB K C "__init__" q st ps) (hb:zbn "__init__" q st ps:=by first | exact zbn.mk1 fun _ _ _ _ _ _ _=>rfl | exact zbn.mk2 fun _ _ _ _ _ _ _ _=>rfl | exact zbn.mk3 fun _ _ _ _ _ _ _ _ _=>rfl | exact zbn.mk4 fun _ _ _ _ _ _ _ _ _ _=>rfl | exact zbn.mk5 fun _ _ _ _ _ _ _ _ _ _ _=>rfl):∃ D:DF K "__init__" q st ps,Mk K C D.a:=by
 obtain ⟨a,i,l,c,k⟩:=b
 exact ⟨⟨_,_,zgr l c k,(zgr l c k).binds hb⟩,⟨m,a,i,kc⟩⟩
noncomputable def zgy (K:PySem.W.Frag) (sub:Nat->Nat->Bool) (a:Addr) (i:Nat):Nat->List Addr->Prop
 | _,[]=>True
 | j,b :: bs=>PySem.W.kitOne K (.ref a) (.ref b)=some (sub i j)∧zgy K sub a i (j+1) bs
noncomputable def zgo (K:PySem.W.Frag) (sub:Nat->Nat->Bool) (cs:List Addr):Nat->List Addr->Prop
 | _,[]=>True
 | i,a :: as=>zgy K sub a i 0 cs∧zgo K sub cs (i+1) as
theorem zgy.get {sub:Nat->Nat->Bool}{a b:Addr}{i:Nat}:∀ {bs:List Addr}{k j:Nat},zgy K sub a i k bs->bs[j]?=some b->Isa K a b (sub i (k+j))
 | [],_,_,_,h=>by simp at h
 | c :: cs,k,0,r,h=>by
   simp at h;subst h;exact r.1
 | c :: cs,k,j+1,r,h=>by
   rw [show k+(j+1)=(k+1)+j by omega]
   exact zgy.get r.2 (by simpa using h)
theorem zgo.get {sub:Nat->Nat->Bool}{a b:Addr}{cs:List Addr}:∀ {as:List Addr}{k i j:Nat},zgo K sub cs k as->as[i]?=some a->cs[j]?=some b->Isa K a b (sub (k+i) j)
 | [],_,_,_,_,h,_=>by simp at h
 | c :: as,k,0,j,r,h,g=>by
   simp at h;subst h
   have:=zgy.get r.1 g
   rwa [Nat.zero_add]at this
 | c :: as,k,i+1,j,r,h,g=>by
   rw [show k+(i+1)=(k+1)+i by omega]
   exact zgo.get r.2 (by simpa using h) g
end
end L2
end
section
namespace L2
open PySem PySem.Spec PyProof.Rows
section
variable {X:Cx}{pins:List (Addr×Obj)}{σ:St}{H:Hp}{s:Shared}{h':Heap}
theorem Inv.turnedL {t':Nat}{fp:List Addr} (I:Inv X pins σ H s) (hf:∀ b∈fp,zcT X pins H b) (k:∀ b o,b∉fp->s.heap.get? b=some o->h'.get? b=some o):Inv X pins σ H { s with heap:=h',toks:=t' }:=by
 have nit:∀ b u,H b=some u->b∉fp:=fun b u e z=>by rw [(hf b z).1]at e;cases e
 refine I.step (g':=s.gens) (d':=s.drawn) (ch:=fp) (fun b hb=>?_) (fun b o _ _ hc e _=>k b o hc e) (fun b o _ _ hc e _=>⟨o.slots,k b o hc e⟩) (fun _ _ _ _ n=>n)
   (fun b o hc e=>⟨o,k b o hc e⟩) (fun _ _ e=>e) (fun _ _ _ e=>e) (fun b ps e=>⟨#[],by rw [e];simp⟩) (fun m hm=>?_) (fun b u e=>?_) I.bare
 . obtain ⟨f0,f1,f2,f3,f4,f5⟩:=hf b hb
   exact ⟨f3,f1,f4,f5⟩
 . obtain ⟨o,es,ep,ho,r⟩:=hm
   exact ⟨o,es,ep,k _ o (fun z=>(hf _ z).2.1 rfl) ho,r⟩
 . refine (I.hok b u e).stay (fun c v hc q=>k c v ?_ q) (fun _ q=>q) fun _ _ q=>q
   rcases hc with z | z
   . rw [z];exact nit b u e
   . exact nit c _ z
theorem Inv.turnNew {t':Nat}{fp:List Addr}{T:Addr}{u:HO} (I:Inv X pins σ H s) (hf:∀ b∈fp,zcT X pins H b) (k:∀ b o,b∉fp->s.heap.get? b=some o->h'.get? b=some o) (hT:s.heap.objs.size<=T)
   (new:zbp X.prog X.w (upd H T u) h' T u):Inv X pins σ (upd H T u) { s with heap:=h',toks:=t' }:=by
 have nit:∀ b u,H b=some u->b∉fp:=fun b u e z=>by rw [(hf b z).1]at e;cases e
 have hn:H T=none:=I.hok.fresh hT
 refine I.step (g':=s.gens) (d':=s.drawn) (ch:=fp) (fun b hb=>?_) (fun b o _ _ hc e _=>k b o hc e) (fun b o _ _ hc e _=>⟨o.slots,k b o hc e⟩) (fun b o _ e n=>by rw [zU (Nat.ne_of_lt (Nat.lt_of_lt_of_le (Heap.lt_size e) hT))];exact n)
   (fun b o hc e=>⟨o,k b o hc e⟩) (fun b xs e=>by rw [zU (zde e hn)];exact e) (fun b o xs e=>by rw [zU (zde e hn)];exact e) (fun b ps e=>⟨#[],by rw [zU (zde e hn),e];simp⟩) (fun m hm=>?_) (fun b v e=>?_) I.bare
 . obtain ⟨f0,f1,f2,f3,f4,f5⟩:=hf b hb
   exact ⟨f3,f1,f4,f5⟩
 . obtain ⟨o,es,ep,ho,r⟩:=hm
   exact ⟨o,es,ep,k _ o (fun z=>(hf _ z).2.1 rfl) ho,r⟩
 . by_cases hb:b=T
   . subst hb;rw [zb4]at e;cases e;exact new
   . rw [zU hb]at e
     refine (I.hok b v e).stay (fun c v hc q=>k c v ?_ q) (fun c q=>by rw [zU (zde q hn)];exact q) fun c xs q=>by rw [zU (zde q hn)];exact q
     rcases hc with z | z
     . rw [z];exact nit b _ e
     . exact nit c _ z
end
section
variable {X:Cx}{es:List Expr}{k:Nat}{tp p pos:Pos}{l l2 o:Expr}{tl tl2 to:TE}
end
noncomputable def Itz (K:PySem.W.Frag) (a b:Addr):It :=
 ⟨fun i H=>∃ xs ys x y,SqL K H a xs∧SqL K H b ys∧xs[i]?=some x∧ys[i]?=some y,
  fun i H x H'=>∃ T v u,x = .ref T∧H T=none∧H'=upd H T (.tup [v,u])∧(∀ xs,SqL K H a xs->xs[i]?=some v)∧∀ ys,SqL K H b ys->ys[i]?=some u,
  fun i H=>∃ xs ys,SqL K H a xs∧SqL K H b ys∧min xs.length ys.length<=i⟩
noncomputable def zwj (z TI TO i1 i2 l1 l2:Addr) (i:Nat) (h:Heap):Prop:=IsZip h z TI TO .none∧IsPair h TI (.ref i1) (.ref i2)∧(∃ a b,IsPair h TO a b)∧h.IsListIter i1 l1 i∧h.IsListIter i2 l2 i
theorem zvL {P:Program}{w:World}{K:PySem.W.Frag}{es:List Expr}{k:Nat}{tp:Pos} (z TI TO i1 i2 l1 l2:Addr) (TIz:TI≠z) (TOz:TO≠z) (i1z:i1≠z) (i2z:i2≠z) (TITO:TI≠TO) (TIi1:TI≠i1) (TIi2:TI≠i2) (TOi1:TO≠i1) (TOi2:TO≠i2) (i12:i1≠i2) :
   zhC P w K (.Tuple es k tp) (Itz K l1 l2) [z,TI,TO,i1,i2] z (zwj z TI TO i1 i2 l1 l2) where
 mem:=by simp
 obj:=fun i h ⟨h1,h2,⟨a,b,h3⟩,h4,h5⟩ c hc=>by
   simp only [List.mem_cons,List.not_mem_nil,or_false]at hc
   rcases hc with rfl | rfl | rfl | rfl | rfl
   . exact ⟨_,h1,fun v z=>nomatch z⟩
   . exact ⟨_,h2,fun v z=>nomatch z⟩
   . exact ⟨_,h3,fun v z=>nomatch z⟩
   . obtain ⟨o,e,_,d⟩:=h4;exact ⟨o,e,fun v z=>by rw [d]at z;cases z⟩
   . obtain ⟨o,e,_,d⟩:=h5;exact ⟨o,e,fun v z=>by rw [d]at z;cases z⟩
 keep:=fun i h h' ⟨h1,h2,⟨a,b,h3⟩,h4,h5⟩ kk=>⟨kk z ς _ h1,kk TI ς _ h2,⟨a,b,kk TO ς _ h3⟩,h4.at fun o x=>kk i1 ς o x,h5.at fun o x=>kk i2 ς o x⟩
 item:=by
   intro X hP hw hK hc i pins s σ H E I hf ⟨h1,h2,⟨a,b,h3⟩,h4,h5⟩ ⟨xs,ys,x,y,hq,hq2,hx,hy⟩
   subst hP hw hK
   obtain ⟨its,rv,p,hz⟩:=I.list hq
   obtain ⟨its2,rv2,p2,hz2⟩:=I.list hq2
   obtain ⟨u,hu,ru⟩:=rv.get hx
   obtain ⟨u2,hu2,ru2⟩:=rv2.get hy
   have nl:∀ {l:Addr} {xs:List V} {c:Addr},SqL X.K H l xs->c∈[z,TI,TO,i1,i2]->(∃ o,s.heap.get? c=some o∧o.cls ≠ .type "list")->l≠c:=fun {l xs c} hl hc hn e=>by
     subst e
     obtain ⟨_,_,pp,_⟩:=I.list hl
     obtain ⟨o,ho,hcl⟩:=hn
     obtain ⟨o2,_,e2,c2,_⟩:=pp
     rw [ho]at e2;cases e2
     exact hcl c2
   have cz:∃ o,s.heap.get? z=some o∧o.cls ≠ .type "list":=⟨_,h1,by show Value.type "zip" ≠ .type "list";decide +kernel⟩
   have cO:∃ o,s.heap.get? TO=some o∧o.cls ≠ .type "list":=⟨_,h3,by show Value.type "tuple" ≠ .type "list";decide +kernel⟩
   have c1:∃ o,s.heap.get? i1=some o∧o.cls ≠ .type "list":=by obtain ⟨o,e,c,_⟩:=h4;exact ⟨o,e,by rw [c];decide +kernel⟩
   have c2:∃ o,s.heap.get? i2=some o∧o.cls ≠ .type "list":=by obtain ⟨o,e,c,_⟩:=h5;exact ⟨o,e,by rw [c];decide +kernel⟩
   have D:ZipApart z TI TO i1 i2 l1 l2:=⟨TIz,TOz,i1z,i2z,TITO,TIi1,TIi2,TOi1,TOi2,i12,nl hq ς cz,nl hq ς cO,nl hq ς c1,nl hq ς c2,nl hq2 ς cz,nl hq2 ς cO,nl hq2 ς c1,nl hq2 ς c2⟩
   refine wpAny_pyNext_zip_item D h1 h2 h3 h4 h5 p.isList p2.isList (x:=u) (y:=u2) (by simpa using hu) (by simpa using hu2) fun h' a1 a2 a3 a4 a5 a6 hk=>⟨_,rfl,?_⟩
   refine wpAny_letOwnedTupleGo_zip a1 fun h2' hz' hs2=>?_
   have hlt:∀ {c o},s.heap.get? c=some o->c < s.heap.objs.size:=fun e=>Heap.lt_size e
   have kk:∀ b o,b∉[z,TI,TO,i1,i2]->s.heap.get? b=some o->h2'.get? b=some o:=fun b o hb eb=>(hs2.2 b (fun q=>hb (by simp [q]))).trans (hk b o (fun q=>hb (by simp [q])) (fun q=>hb (by simp [q])) (fun q=>hb (by simp [q])) (fun q=>hb (by simp [q])) eb)
   have hT2:h2'.get? s.heap.objs.size=some { cls := .type "tuple",data := .seq #[u,u2] }:=(hs2.2 _ (Nat.ne_of_gt (hlt h1))).trans a5
   have I2:Inv X pins σ (upd H s.heap.objs.size (.tup [x,y])) { s with heap:=h2',toks:=s.toks }:=I.turnNew hf kk (Nat.le_refl _) ⟨by show 2<=sizeLine;decide,[u,u2],.cons ru (.cons ru2 .nil),⟨_,hT2,rfl,_,rfl⟩⟩
   refine ⟨.ref s.heap.objs.size,_,I2,rfl,⟨s.heap.objs.size,x,y,rfl,I.hok.fresh (Nat.le_refl _),rfl,fun zs hzs=>by rw [I.list_inj hzs hq];exact hx,fun zs hzs=>by rw [I.list_inj hzs hq2];exact hy⟩,
     ⟨hz',hs2.extBut _ _ TIz (hk _ _ TIz TITO TIi1 TIi2 h2),⟨_,_,hs2.extBut _ _ TOz a2⟩,a3.extBut hs2.extBut i1z,a4.extBut hs2.extBut i2z⟩,fun b hb=>?_⟩
   rw [zU]
   . exact (hf b hb).1
   . simp only [List.mem_cons,List.not_mem_nil,or_false]at hb
     rcases hb with rfl | rfl | rfl | rfl | rfl
     . exact Nat.ne_of_lt (hlt h1)
     . exact Nat.ne_of_lt (hlt h2)
     . exact Nat.ne_of_lt (hlt h3)
     . obtain ⟨_,e,_⟩:=h4;exact Nat.ne_of_lt (hlt e)
     . obtain ⟨_,e,_⟩:=h5;exact Nat.ne_of_lt (hlt e)
 done:=by
   intro X hP hw hK hc i pins s σ H E I hf ⟨h1,h2,⟨a,b,h3⟩,h4,h5⟩ ⟨xs,ys,hq,hq2,hl⟩
   subst hP hw hK
   obtain ⟨its,rv,p,hz⟩:=I.list hq
   obtain ⟨its2,rv2,p2,hz2⟩:=I.list hq2
   have hlen:=rv.length
   have hlen2:=rv2.length
   have nl:∀ {l:Addr} {xs:List V} {c:Addr},SqL X.K H l xs->(∃ o,s.heap.get? c=some o∧o.cls ≠ .type "list")->l≠c:=fun {l xs c} hl hn e=>by
     subst e
     obtain ⟨_,_,pp,_⟩:=I.list hl
     obtain ⟨o,ho,hcl⟩:=hn
     obtain ⟨o2,_,e2,c2,_⟩:=pp
     rw [ho]at e2;cases e2
     exact hcl c2
   have cz:∃ o,s.heap.get? z=some o∧o.cls ≠ .type "list":=⟨_,h1,by show Value.type "zip" ≠ .type "list";decide +kernel⟩
   have cO:∃ o,s.heap.get? TO=some o∧o.cls ≠ .type "list":=⟨_,h3,by show Value.type "tuple" ≠ .type "list";decide +kernel⟩
   have c1:∃ o,s.heap.get? i1=some o∧o.cls ≠ .type "list":=by obtain ⟨o,e,c,_⟩:=h4;exact ⟨o,e,by rw [c];decide +kernel⟩
   have c2:∃ o,s.heap.get? i2=some o∧o.cls ≠ .type "list":=by obtain ⟨o,e,c,_⟩:=h5;exact ⟨o,e,by rw [c];decide +kernel⟩
   have D:ZipApart z TI TO i1 i2 l1 l2:=⟨TIz,TOz,i1z,i2z,TITO,TIi1,TIi2,TOi1,TOi2,i12,nl hq cz,nl hq cO,nl hq c1,nl hq c2,nl hq2 cz,nl hq2 cO,nl hq2 c1,nl hq2 c2⟩
   have hend:its.toArray[i]?=none∨its2.toArray[i]?=none:=by
     rcases Nat.le_total xs.length ys.length with q | q
     . exact .inl (Array.getElem?_eq_none (by simp;omega))
     . exact .inr (Array.getElem?_eq_none (by simp;omega))
   exact wpAny_pyNext_zip_end (I.ok.hd hc) D h1 h2 h3 h4 h5 p.isList p2.isList hend fun h' hk=>⟨rfl,I.turnedL (t':=s.toks) hf fun b o hb y=>hk b o (fun q=>hb (by simp [q])) (fun q=>hb (by simp [q])) (fun q=>hb (by simp [q])) (fun q=>hb (by simp [q])) y⟩
 self:=fun _ _ _ _ _ ⟨h1,_⟩ h=>wpAny_pyIter_zip h1 h
noncomputable def zq4 (K:PySem.W.Frag) (tl tl2:TE):TI:=fun σ H R=>tl σ H fun x H1=>tl2 σ H1 fun y H2=>∃ a b,x = .ref a∧y = .ref b∧(∃ xs,SqL K H2 a xs)∧(∃ ys,SqL K H2 b ys)∧R (Itz K a b) H2
section
variable {X:Cx}{es:List Expr}{k:Nat}{tp p pos apos:Pos}{l l2 o:Expr}{tl tl2 to:TE}
theorem zty (hg:Gl X "zip") (hm:X.mg "zip" = none) (hl:PE X l tl) (hl2:PE X l2 tl2) (hs:starEach [l,l2] X.env=(false,eval l X.env) :: starEach [l2] X.env) (hs2:starEach [l2] X.env=(false,eval l2 X.env) :: starEach [] X.env) :
   PI X (.Tuple es k tp) (.Call (.Name "zip" p) [l,l2] [] pos) (zq4 X.K tl tl2):=by
 intro pins s σ H R I h
 have hb:bootBuiltins ("zip":Str)=some (.type "zip"):=by decide +kernel
 refine Call_ (zfv I hg hm hb (callWith_type1 ?_ hs (by rw [hs2];rfl)))
 rw [hs]
 show wpAny _ _ (spliced ((false,eval l X.env) :: backTo pos (starEach [l2] X.env))) _ _ s
 refine Calls.spliced_cons (thn (hl pins s σ H _ I h) fun u s1 ⟨x,H1,I1,r1,q1⟩=>?_)
 rw [hs2]
 show wpAny _ _ (spliced ((false,eval l2 X.env) :: backTo pos (starEach [] X.env))) _ _ s1
 refine Calls.spliced_cons (thn (hl2 pins s1 σ H1 _ I1 q1) fun u2 s2 ⟨y,H2,I2,r2,q2⟩=>Calls.spliced_nil ?_)
 obtain ⟨a,b,rfl,rfl,⟨xs,hq⟩,⟨ys,hq2⟩,q⟩:=q2
 cases r1;cases r2
 obtain ⟨its,rv,pl,hz⟩:=I2.list hq
 obtain ⟨its2,rv2,pl2,hz2⟩:=I2.list hq2
 refine call_zip_2 pl.isList pl2.isList fun h' g1 g2 g3 g4 g5 hsz hk=>?_
 refine wpAny_pyIter_zip g1 ?_
 refine ⟨s2.heap.objs.size+4,[s2.heap.objs.size+4,s2.heap.objs.size+2,s2.heap.objs.size+3,s2.heap.objs.size,s2.heap.objs.size+1],_,_,H2,rfl,I2.kept (t':=s2.toks) hk,
   zvL (s2.heap.objs.size+4) (s2.heap.objs.size+2) (s2.heap.objs.size+3) s2.heap.objs.size (s2.heap.objs.size+1) a b (show (s2.heap.objs.size+2:Nat)≠(s2.heap.objs.size+4:Nat) by omega) (show (s2.heap.objs.size+3:Nat)≠(s2.heap.objs.size+4:Nat) by omega) (show (s2.heap.objs.size:Nat)≠(s2.heap.objs.size+4:Nat) by omega) (show (s2.heap.objs.size+1:Nat)≠(s2.heap.objs.size+4:Nat) by omega) (show (s2.heap.objs.size+2:Nat)≠(s2.heap.objs.size+3:Nat) by omega) (show (s2.heap.objs.size+2:Nat)≠(s2.heap.objs.size:Nat) by omega) (show (s2.heap.objs.size+2:Nat)≠(s2.heap.objs.size+1:Nat) by omega) (show (s2.heap.objs.size+3:Nat)≠(s2.heap.objs.size:Nat) by omega) (show (s2.heap.objs.size+3:Nat)≠(s2.heap.objs.size+1:Nat) by omega) (show (s2.heap.objs.size:Nat)≠(s2.heap.objs.size+1:Nat) by omega),⟨g1,g2,⟨_,_,g3⟩,g4,g5⟩,fun c hc=>?_,q⟩
 have hle:s2.heap.objs.size<=c:=by
   simp only [List.mem_cons,List.not_mem_nil,or_false]at hc
   rcases hc with rfl | rfl | rfl | rfl | rfl
   . exact Nat.le_add_right _ 4
   . exact Nat.le_add_right _ 2
   . exact Nat.le_add_right _ 3
   . exact Nat.le_refl _
   . exact Nat.le_add_right _ 1
 exact I2.fpOk hle (I2.hok.fresh hle)
theorem zsY {P:Program}{w:World}{kk:Key}{u:Value} (h:(zbj P w).is kk u=true):zo (kV kk) u:=by
 rcases zdY (k:=kk) (v:=u) h with ⟨i,t,rfl,rfl⟩ | ⟨x,t,rfl,rfl⟩
 . exact ⟨t,rfl⟩
 . exact ⟨t,rfl⟩
end
end L2
end
section
namespace L2
open PySem PySem.Spec PyProof.Rows
noncomputable def zbW (xs:Array Nat):Prop:=xs.toList.Pairwise (· < ·)
theorem zbW.lt {xs:Array Nat} (h:zbW xs) {i j:Nat}{a b:Nat} (hi:xs[i]?=some a) (hj:xs[j]?=some b) (q:i < j):a < b:=by
 unfold zbW at h
 rw [List.pairwise_iff_getElem]at h
 rw [<- Array.getElem?_toList]at hi hj
 obtain ⟨h1,e1⟩:=List.getElem?_eq_some_iff.mp hi
 obtain ⟨h2,e2⟩:=List.getElem?_eq_some_iff.mp hj
 have:=h i j h1 h2 q
 rw [e1,e2]at this
 exact this
theorem zkc {xs:Array Nat}{j:Nat} (h:zbW xs):∀ (fuel lo hi:Nat),hi<=xs.size->lo<=hi->hi - lo<=fuel->(∀ i a,i < lo->xs[i]?=some a->a < j)->(∀ i a,hi<=i->xs[i]?=some a->j<=a) ->
   let r:=SetTable.below.go xs j fuel lo hi
   r<=xs.size∧(∀ i a,i < r->xs[i]?=some a->a < j)∧(∀ i a,r<=i->xs[i]?=some a->j<=a)
 | 0,lo,hi,h1,h2,h3,h4,h5=>by
   unfold SetTable.below.go
   have e:lo=hi:=by omega
   subst e
   exact ⟨h1,h4,h5⟩
 | fuel+1,lo,hi,h1,h2,h3,h4,h5=>by
   unfold SetTable.below.go
   dsimp only
   by_cases c:lo < hi
   . rw [if_pos c]
     have hm:(lo+hi) / 2 < xs.size:=by omega
     have em:xs[(lo+hi) / 2]?=some xs[(lo+hi) / 2]:=Array.getElem?_eq_getElem hm
     have ed:xs.getD ((lo+hi) / 2) j=xs[(lo+hi) / 2]:=by simp [Array.getD,hm]
     by_cases d:xs.getD ((lo+hi) / 2) j < j
     . rw [if_pos d]
       refine zkc h fuel _ _ h1 ω ω (fun i a q e=>?_) h5
       by_cases z:i=(lo+hi) / 2
       . subst z;rw [em]at e;cases e;rw [ed]at d;exact d
       . have:=h.lt e em ω
         rw [ed]at d;omega
     . rw [if_neg d]
       refine zkc h fuel _ _ ω ω ω h4 (fun i a q e=>?_)
       by_cases z:i=(lo+hi) / 2
       . subst z;rw [em]at e;cases e;rw [ed]at d;omega
       . have:=h.lt em e ω
         rw [ed]at d;omega
   . rw [if_neg c]
     have e:lo=hi:=by omega
     subst e
     exact ⟨h1,h4,h5⟩
theorem zkv {xs:Array Nat}{j:Nat} (h:zbW xs):SetTable.below xs j<=xs.size∧(∀ i a,i < SetTable.below xs j->xs[i]?=some a->a < j)∧(∀ i a,SetTable.below xs j<=i->xs[i]?=some a->j<=a) :=
 zkc h _ _ _ (Nat.le_refl _) (Nat.zero_le _) ω (fun i a q=>by omega) (fun i a q e=>by have:=(Array.getElem?_eq_some_iff.mp e).1;omega)
theorem zr0 {xs:Array Nat}{j:Nat} (h:zbW xs) (n:xs[SetTable.below xs j]?≠some j):∀ i:Nat,xs[i]?≠some j:=fun i e=>by
 obtain ⟨h1,h2,h3⟩:=zkv (j:=j) h
 by_cases c:i < SetTable.below xs j
 . have:=h2 i j c e;omega
 . by_cases d:i=SetTable.below xs j
   . subst d;exact n e
   . have hb:SetTable.below xs j < xs.size:=by have:=(Array.getElem?_eq_some_iff.mp e).1;omega
     have eb:xs[SetTable.below xs j]?=some xs[SetTable.below xs j]:=Array.getElem?_eq_getElem hb
     have q1:=h3 _ _ (Nat.le_refl _) eb
     have q2:=h.lt eb e ω
     omega
theorem zbW.insert {xs:Array Nat}{j:Nat} (h:zbW xs) (n:∀ i:Nat,xs[i]?≠some j):zbW (SetTable.insertAt xs (SetTable.below xs j) j):=by
 obtain ⟨h1,h2,h3⟩:=zkv (j:=j) h
 generalize SetTable.below xs j=b at h1 h2 h3
 have h':=h
 unfold zbW at h ⊢
 rw [SetTable.toList_insertAt]
 rw [<- List.take_append_drop b xs.toList,List.pairwise_append]at h
 obtain ⟨p1,p2,p3⟩:=h
 have lo:∀ a∈xs.toList.take b,a < j:=fun a ha=>by
   obtain ⟨i,hi,e⟩:=List.mem_iff_getElem.mp ha
   rw [List.length_take]at hi
   rw [List.getElem_take]at e
   exact h2 i a ω (by rw [<- Array.getElem?_toList,<- e];exact List.getElem?_eq_getElem _)
 have hi:∀ a∈xs.toList.drop b,j < a:=fun a ha=>by
   obtain ⟨i,hi,e⟩:=List.mem_iff_getElem.mp ha
   rw [List.getElem_drop]at e
   rw [List.length_drop]at hi
   have e':xs[b+i]?=some a:=by rw [<- Array.getElem?_toList,<- e];exact List.getElem?_eq_getElem _
   have:=h3 (b+i) a ω e'
   have:=n (b+i)
   have:a≠j:=fun z=>this (z ▸ e')
   omega
 rw [List.pairwise_append]
 refine ⟨p1,List.pairwise_cons.mpr ⟨hi,p2⟩,fun a ha c hc=>?_⟩
 rcases List.mem_cons.mp hc with rfl | hc
 . exact lo a ha
 . exact p3 a ha c hc
theorem zbW.range (n:Nat):zbW (Array.range n):=by
 unfold zbW
 simpa using List.pairwise_lt_range
theorem zmk {t:SetTable}{j:Nat} (h:zbW t.place) (e:∀ i,t.slot j ≠ .live i):∀ i:Nat,t.place[i]?≠some j:=by
 refine zr0 h fun q=>e (SetTable.below t.place j) ?_
 unfold SetTable.slot
 dsimp only
 rw [q]
 simp
theorem zkr {t:SetTable}{f:Nat->Int}{h:Int} (r:zbW t.place):∀ (fuel:Nat) (p:SetTable.Probe) (j:Nat) (d:Option Nat),(∀ x,p.dummy=some x->∀ i:Nat,t.place[i]?≠some x) ->
   SetTable.probe.go t f h fuel p=some (.empty j d)->(∀ i:Nat,t.place[i]?≠some j)∧∀ x,d=some x->∀ i:Nat,t.place[i]?≠some x
 | 0,p,j,d,hd,e=>by unfold SetTable.probe.go at e;cases e
 | fuel+1,p,j,d,hd,e=>by
   have adv:∀ q:SetTable.Probe,(t.advance q).dummy=q.dummy:=fun q=>by unfold SetTable.advance;split <;> rfl
   unfold SetTable.probe.go at e
   cases es:t.slot p.j with
   | empty =>
     rw [es]at e
     cases e
     exact ⟨zmk r fun i=>by rw [es];simp,hd⟩
   | dummy =>
     rw [es]at e
     refine zkr r fuel _ j d (fun x hx=>?_) e
     rw [adv]at hx
     cases hx
     exact zmk r fun i=>by rw [es];simp
   | live i =>
     rw [es]at e
     dsimp only at e
     split at e
     . cases e
     . exact zkr r fuel _ j d (fun x hx=>by rw [adv]at hx;exact hd x hx) e
theorem zun {t:SetTable}{h:Int}{j:Nat}{b:Bool} (r:zbW t.place) (e:t.freeSlot h=some (j,b)):∀ i:Nat,t.place[i]?≠some j:=by
 unfold SetTable.freeSlot at e
 cases ep:t.probe (fun _=>h+1) h (t.probeStart h) with
 | none=>rw [ep]at e;cases e
 | some m =>
   rw [ep]at e
   cases m with
   | candidate=>cases e
   | empty k d =>
     unfold SetTable.probe at ep
     have:=zkr r _ _ _ _ (fun x hx=>by cases hx) ep
     cases d with
     | none=>cases e;exact this.1
     | some x=>cases e;exact this.2 x rfl
structure zcf (L:Bool) (t:SetTable):Prop where
 led:L=true->t.led=true
 rise:zbW t.place
theorem zcf.stand {L:Bool}{t:SetTable} (h:zcf L t) (n:Nat):zcf L (t.standIn n):=⟨h.led,zbW.range n⟩
theorem zcf.orStand {L:Bool}{t:SetTable} (h:zcf L t) (n:Nat):zcf L (t.orStandIn n):=by unfold SetTable.orStandIn;split;exact h;exact h.stand n
theorem zcf.off {L:Bool}{t:SetTable} (h:zcf L t):zcf L { t with plain:=false }:=⟨h.led,h.rise⟩
theorem zcf.new {L:Bool}{t:SetTable} (k:zcf L t) (es:Array (Int×Value)) (h:Int) (x:Value):zcf L (layNew t es h x).2.1:=by
 unfold layNew
 split
 . rename_i j b e
   refine zcf.orStand (t:=(t.put j).1) ⟨k.led,?_⟩ _
   exact k.rise.insert (zun k.rise e)
 . exact k.stand _
theorem zng (f:Nat->Option Nat):∀ (l:List Nat),l.Pairwise (· < ·)->(((l.filterMap fun j=>(f j).map (j,·)).map (·.1)).Pairwise (· < ·))∧∀ a∈(l.filterMap fun j=>(f j).map (j,·)).map (·.1),a∈l
 | [],_=>by simp
 | x :: l,h=>by
   obtain ⟨h1,h2⟩:=List.pairwise_cons.mp h
   obtain ⟨i1,i2⟩:=zng f l h2
   cases e:f x with
   | none =>
     rw [List.filterMap_cons_none (by rw [e];rfl)]
     exact ⟨i1,fun a ha=>List.mem_cons_of_mem _ (i2 a ha)⟩
   | some y =>
     rw [List.filterMap_cons_some (b:=(x,y)) (by rw [e];rfl),List.map_cons]
     refine ⟨List.pairwise_cons.mpr ⟨fun a ha=>h1 a (i2 a ha),i1⟩,fun a ha=>?_⟩
     rcases List.mem_cons.mp ha with rfl | ha
     . exact List.mem_cons_self
     . exact List.mem_cons_of_mem _ (i2 a ha)
theorem zcf.relay {L:Bool}{t:SetTable} (k:zcf L t) (es:Array (Int×Value)) (n:Nat):zcf L (relayAll t es n).2.1:=by
 unfold relayAll
 split
 . rename_i t' order e
   dsimp only
   split
   . unfold SetTable.relaid SetTable.laid at e
     cases ec:SetTable.layClean (SetTable.sizeAbove n - 1) (es.map (·.1)) with
     | none=>rw [ec]at e;cases e
     | some ow =>
       rw [ec]at e
       cases e
       refine ⟨k.led,?_⟩
       unfold zbW
       exact (zng _ _ List.pairwise_lt_range).1
   . exact k.stand _
 . exact k.stand _
end L2
end
section
namespace L2
open PySem PySem.Spec PyProof.Rows
noncomputable def zct (P:Program) (w:World) (L:Bool) (h:Heap) (a:Addr) (ns:List Int):Prop :=
 ∃ o es ep t,h.get? a=some o∧o.ExactSet∧o.data = .set es ep t∧ElemsOf (intKind P w) es.toList∧es.size < scanBound∧t.fits es.size=true∧zcf L t∧∃ ms,IntsAre (es.toList.map (·.2)) ms∧ms.Perm ns
section
variable {P:Program}{w:World}{A:Around}{E:Value->Shared->Prop}{s:Shared}{L:Bool}{a:Addr}{ns:List Int}
theorem zct.keep {h h':Heap} (S:zct P w L h a ns) (k:∀ o,h.get? a=some o->h'.get? a=some o):zct P w L h' a ns:=by
 obtain ⟨o,es,ep,t,ho,r⟩:=S
 exact ⟨o,es,ep,t,k o ho,r⟩
theorem zjM {vs us:List Value} (p:vs.Perm us):∀ {ms:List Int},IntsAre us ms->∃ ks,IntsAre vs ks∧ks.Perm ms:=by
 induction p with
 | nil=>intro ms h;cases h;exact ⟨[],.nil,.nil⟩
 | cons x p ih =>
   intro ms h
   cases h with
   | cons n t hr=>obtain ⟨ks,h1,h2⟩:=ih hr;exact ⟨n :: ks,.cons n t h1,h2.cons n⟩
 | swap x y l =>
   intro ms h
   cases h with
   | cons n t hr=>cases hr with
     | cons m u hq=>exact ⟨m :: n :: _,.cons m u (.cons n t hq),.swap _ _ _⟩
 | trans p q ip iq =>
   intro ms h
   obtain ⟨ks,h1,h2⟩:=iq h
   obtain ⟨js,h3,h4⟩:=ip h1
   exact ⟨js,h3,h4.trans h2⟩
theorem zmf:∀ {vs:List Value}{ms:List Int}{k:Int}{t:Tok},IntsAre vs ms->IntsAre (vs++[.int k t]) (ms++[k])
 | _,_,k,t,.nil=> .cons k t .nil
 | _,_,k,t,.cons n u hr=> .cons n u (zmf hr)
theorem zlA {k m:Int}{t:Tok}:(intKind P w).is k (.int m t)=decide (k=m):=KeyKind.is_eq_decide (intKind_is _ _ _ _) k
theorem zk4 {es:List (Int×Value)}{ms:List Int} (h:IntsAre (es.map (·.2)) ms) (k:Int):(∃ e∈es,(intKind P w).is k e.2=true)↔k∈ms:=by
 induction es generalizing ms with
 | nil=>cases h;simp
 | cons x es ih =>
   obtain ⟨hx,v⟩:=x
   cases h with
   | cons n t hr =>
     have:=ih hr
     constructor
     . rintro ⟨e,he,q⟩
       rcases List.mem_cons.mp he with rfl | he
       . rw [zlA]at q
         rw [of_decide_eq_true q];exact List.mem_cons_self
       . exact List.mem_cons_of_mem _ (this.mp ⟨e,he,q⟩)
     . intro q
       rcases List.mem_cons.mp q with rfl | q
       . exact ⟨_,List.mem_cons_self,by rw [zlA];simp⟩
       . obtain ⟨e,he,q⟩:=this.mpr q
         exact ⟨e,List.mem_cons_of_mem _ he,q⟩
theorem zjD (b:Bool) {s₁:Shared}{R:Unit->Shared->Prop} (hq:R () s₁):wpAny (model P w) A (match b with | true=>rule "set.scan.the-table-gave-way" | false=>pure ()) R E s₁:=by
 cases b
 . exact wpAny_pure hq
 . exact wpAny_rule hq
theorem znK {h:Heap}{o:Obj}{es:Array (Int×Value)}{ep:Nat}{t:SetTable} (fs:Array (Int×Value)) (u:SetTable) (ho:h.get? a=some o) (hd:o.data = .set es ep t) :
   (h.update a (Obj.putSet fs u)).get? a=some { o with data := .set fs (ep+1) u }:=by
 have g:=Heap.get?_update_self (Obj.putSet fs u) ho (by rw [putSet_of fs u hd];rfl)
 rw [putSet_of fs u hd]at g
 exact g
theorem zma {g:Bool->Sem Unit} (hg:∀ (b:Bool) (s₁:Shared) (R:Unit->Shared->Prop),R () s₁->wpAny (model P w) A (g b) R E s₁) {o:Obj}{es fs:Array (Int×Value)}{ep:Nat}{t u:SetTable}{c:Bool}{R:Option Bool->Shared->Prop}{ms:List Int}
   (ho:s.heap.get? a=some o) (hex:o.ExactSet) (hd:o.data = .set es ep t) (hel:ElemsOf (intKind P w) fs.toList) (hb:fs.size < scanBound) (hf:u.fits fs.size=true) (hu:zcf L u) (hI:IntsAre (fs.toList.map (·.2)) ms) (hp:ms.Perm ns)
   (h:∀ h',Heap.SameBut a s.heap h'->zct P w L h' a ns->R (some true) { s with heap:=h' }) :
   wpAny (model P w) A (do
       storeSet a fs u
       if (!c && u.tooFull)=true then do
           g (relayAll u fs (SetTable.grown fs.size)).2.2
           storeSet a (relayAll u fs (SetTable.grown fs.size)).1 (relayAll u fs (SetTable.grown fs.size)).2.1
           pure (some true)
         else pure (some true)) R E s:=by
 refine wpAny_bind (wpAny_storeSet_of ho hd ?_ (fits_of_scanBound hb))
 have h1:=znK fs u ho hd
 have sb:=Heap.SameBut.update s.heap a (Obj.putSet fs u)
 split
 . have pm:=relayAll_perm u fs (SetTable.grown fs.size)
   have fr:=relayAll_fits u fs (SetTable.grown fs.size)
   have tk:=hu.relay fs (SetTable.grown fs.size)
   generalize relayAll u fs (SetTable.grown fs.size)=Z at pm fr tk ⊢
   obtain ⟨gs,v,b⟩:=Z
   dsimp only at pm fr tk ⊢
   have hz:gs.size=fs.size:=by rw [<- Array.length_toList,pm.length_eq,Array.length_toList]
   refine wpAny_bind (hg _ _ _ ?_)
   refine wpAny_bind (wpAny_storeSet_of h1 rfl ?_ (fits_of_scanBound (by rw [hz];exact hb)))
   have h2:=znK gs v h1 rfl
   obtain ⟨ks,k1,k2⟩:=zjM (pm.map (·.2)) hI
   exact wpAny_pure (h _ (sb.trans (Heap.SameBut.update _ a _)) ⟨_,gs,_,v,h2,hex,rfl,hel.perm pm,by rw [hz];exact hb,fr,tk,ks,k1,k2.trans hp⟩)
 . exact wpAny_pure (h _ sb ⟨_,fs,_,u,h1,hex,rfl,hel,hb,hf,hu,ms,hI,hp⟩)
theorem ztc {k:Int}{tk:Tok}{Q:Bool->Shared->Prop} (S:zct P w L s.heap a ns) (room:ns.length+1 < scanBound) (h:∀ b h',Heap.SameBut a s.heap h'->zct P w L h' a (step_dedup ns k)->Q b { s with heap:=h' }) :
   wpAny (model P w) A (setAddHashed a (.int k tk) ((intKind P w).hash k)) Q E s:=by
 obtain ⟨o,es,ep,t,ho,hex,hd,hel,hb,hf,hT,ms,hI,hp⟩:=S
 have hsz:es.size=ns.length:=by rw [<- hp.length_eq,<- hI.length,List.length_map,Array.length_toList]
 have hk:(intKind P w).is k (Value.int k tk)=true:=intKind_is _ _ _ _
 have hs:(Value.int k tk).scannable=true:=rfl
 have hany:(ns.any (· == k))=decide (k∈ms):=by
   rw [Bool.eq_iff_iff,decide_eq_true_eq,hp.mem_iff];simp
 unfold setAddHashed setAddHashedIn
 refine wpAny_holding (wpAny_bind (wpAny_setState_of ho hd hf ?_))
 dsimp only
 rw [byScan_of hs hb hel]
 simp only [↓reduceIte]
 unfold setAddByScan
 refine wpAny_bind (wpAny_bind (wpAny_rule ?_))
 refine wpAny_bind (wpAny_setScan_of hk ho hd hf hel ?_)
 cases hr:List.findIdx? (fun e=>(intKind P w).is k e.2) es.toList with
 | some j =>
   dsimp only
   obtain ⟨hj,hpj,_⟩:=List.findIdx?_eq_some_iff_getElem.mp hr
   have hin:k∈ms:=(zk4 (P:=P) (w:=w) hI k).mp ⟨es.toList[j],List.getElem_mem hj,hpj⟩
   refine wpAny_pure (wpAny_pure ?_)
   have e:s={ s with heap:=s.heap }:=by cases s;rfl
   rw [e]
   refine h _ _ (Heap.SameBut.refl a s.heap) ?_
   unfold step_dedup
   rw [hany,if_pos (by simpa using hin)]
   exact ⟨o,es,ep,t,ho,hex,hd,hel,hb,hf,hT,ms,hI,hp⟩
 | none =>
   dsimp only
   have hout:k∉ms:=fun q=>by
     obtain ⟨e,he,z⟩:=(zk4 (P:=P) (w:=w) hI k).mpr q
     have:=List.findIdx?_eq_none_iff.mp hr e he
     rw [z]at this;cases this
   have pm:=layNew_perm t es ((intKind P w).hash k) (.int k tk)
   have fr:=layNew_fits t es ((intKind P w).hash k) (.int k tk)
   have hN:=hT.new es ((intKind P w).hash k) (.int k tk)
   generalize layNew t es ((intKind P w).hash k) (.int k tk)=Z at pm fr hN ⊢
   obtain ⟨fs,u,c,b⟩:=Z
   dsimp only at pm fr hN ⊢
   rw [Array.toList_push]at pm
   have hz:fs.size=es.size+1:=by rw [<- Array.length_toList,pm.length_eq,List.length_append,Array.length_toList];rfl
   have el:ElemsOf (intKind P w) fs.toList:=(hel.push hk hs).perm pm
   have hI1:IntsAre ((es.toList++[((intKind P w).hash k,Value.int k tk)]).map (·.2)) (ms++[k]):=by rw [List.map_append];exact zmf hI
   obtain ⟨ks,k1,k2⟩:=zjM (pm.map (·.2)) hI1
   have hperm:ks.Perm (step_dedup ns k):=by
     unfold step_dedup
     rw [hany,if_neg (by simpa using hout)]
     exact k2.trans (hp.append_right _)
   have hb1:fs.size < scanBound:=by omega
   refine wpAny_bind (zjD _ ?_)
   split
   . refine wpAny_bind ?_
     rw [hashByValue_scannable 8 hs]
     refine wpAny_pure ?_
     refine zma (L:=L) (ns:=step_dedup ns k) ?_ ho hex hd el hb1 ?_ ?_ k1 hperm ?_
     . intro b s₁ R hq;exact zjD b hq
     . split
       . exact fr
       . exact SetTable.fits_plain_off fr
     . split
       . exact hN
       . exact hN.off
     . intro h' hsb hS;dsimp only;exact wpAny_pure (h _ h' hsb hS)
   . refine wpAny_bind (wpAny_pure ?_)
     simp only [↓reduceIte]
     refine zma (L:=L) (ns:=step_dedup ns k) ?_ ho hex hd el hb1 fr hN k1 hperm ?_
     . intro b s₁ R hq;exact zjD b hq
     . intro h' hsb hS;dsimp only;exact wpAny_pure (h _ h' hsb hS)
end
end L2
end
section
namespace L2
open PySem PySem.Spec PyProof.Rows
section
variable {P:Program}{w:World}{A:Around}{R:Result->Shared->Prop}{I:Addr}{fp wr:List Addr}{G:Array GenState->Array GenState->Prop}{n:Nat}{V:Nat->Value->Prop}{St:Nat->Shared->Prop}{L:Bool}
theorem zuZ (W:WalksS P w A.in1 I fp wr G n V St) (a:Addr) (ha:a∉fp) (val:Nat->Int) (hval:∀ i v,V i v->∃ t,v = .int (val i) t) (hb:n+1 < scanBound) :
   ∀ (k i:Nat) (s:Shared),n - i=k->i<=n->St i s->zct P w L s.heap a (firstMet val i) ->
     (∀ s',Moved (a :: wr) G s s'->zct P w L s'.heap a (firstMet val n)->R (.ok (.ret .none)) s') ->
     codeAny (model P w) A (.builtin "set.update.loop" ⟨[.ref a,.ref I],[]⟩) R s:=by
 have haw:a∉wr:=fun z=>ha (W.sub _ z)
 have up:∀ b∈wr,b∈a :: wr:=fun b z=>List.mem_cons_of_mem _ z
 intro k
 induction k with
 | zero =>
   intro i s hk hi st S fin
   obtain rfl:i=n:=by omega
   refine codeAny_builtin PyProof.Rows.F.entry_set_update_loop ?_
   rw [Around.under_plainId PyProof.Rows.F.plain_set_update_loop _]
   refine wpAny_bind (m:=pyNext (.ref I)) (W.done s _ _ st fun s1 m=>?_)
   exact wpAny_pure (fin s1 (m.mono up) (S.keep fun o e=>m.heap a o haw e))
 | succ k ih =>
   intro i s hk hi st S fin
   have lt:i < n:=by omega
   refine codeAny_builtin PyProof.Rows.F.entry_set_update_loop ?_
   rw [Around.under_plainId PyProof.Rows.F.plain_set_update_loop _]
   refine wpAny_bind (m:=pyNext (.ref I)) (W.item i s _ _ lt st fun v s1 hv st1 m=>?_)
   obtain ⟨t,rfl⟩:=hval i v hv
   have S1:zct P w L s1.heap a (firstMet val i):=S.keep fun o e=>m.heap a o haw e
   refine wpAny_bind (m:=holding [Value.int (val i) t] (setAdd a (.int (val i) t))) (wpAny_holding ?_)
   unfold setAdd
   refine wpAny_holding (wpAny_bind ((intKind P w).pyHash (k:=val i) (intKind_is _ _ _ _) ?_))
   have room:(firstMet val i).length+1 < scanBound:=by have:=firstMet_length_le val i;omega
   refine ztc (s:={ s1 with toks:=s1.toks+1 }) S1 room fun b h' sb S2=>?_
   rw [<- firstMet_succ]at S2
   refine wpAny_pure ⟨plainId_quiet PyProof.Rows.F.plain_set_update_loop _,ih (i+1) _ ω lt (W.frame _ s1 _ _ st1 (Nat.le_succ _) fun c hc o e=>?_) S2 fun s2 m2 S3=>?_⟩
   . rw [sb.2 c (fun z:c=a=>ha (by rw [<- z];exact hc))];exact e
   . refine fin s2 (Moved.trans W.gtrans ((m.mono up).then_heap (Nat.le_succ _) fun c o hc e=>?_) m2) S3
     rw [sb.2 c (fun z:c=a=>hc (by rw [z];exact List.mem_cons_self))];exact e
end
section
variable {P:Program}{w:World}{A:Around}{E:Value->Shared->Prop}{s:Shared}
noncomputable def zcp (w:World):Bool:=!(w.params.followText "set-order")
theorem ztr (a:Value) {Q:Value->Shared->Prop} (h:Q (.ref s.heap.objs.size) { s with heap:=s.heap.push { cls := .type "set",dict:=none,data := .set #[] 0 (.fresh 0 0 (zcp w)) } }) :
   codeAny (model P w) A (.call (.builtin "set.__new__") ⟨[.type "set",a],[]⟩) (wants Q E) s:=by
 refine codeAny_of_tree ?_
 refine wpAny_bind (m:=checkBuiltinCall "set.__new__" ⟨[.type "set",a],[]⟩) (wpAny_of_eq (PySem.F.newCall_set_1 a) ?_)
 refine wpAny_pure ⟨plainId_quiet PySem.F.plain_set_new _,codeAny_builtin PySem.F.entry_set_new ?_⟩
 rw [Around.under_plainId PySem.F.plain_set_new _]
 unfold Builtin.«set.__new__» Builtin.Frozenset.newClass
 have hsub:=sub_set_self
 obtain ⟨hp,g,d,tk,os⟩:=s
 dsimp only
 wp_walk
 refine wpAny_askSetting (wpAny_pure ?_)
 dsimp only
 simp only [newObj]
 exact wpAny_bind (wpAny_alloc (wpAny_pure (wpAny_pure h)))
theorem zvC {h:Heap}{a:Addr}{L b:Bool} (hb:L=true->b=true) (e:h.get? a=some { cls := .type "set",dict:=none,data := .set #[] 0 (.fresh 0 0 b) }):zct P w L h a [] :=
 ⟨_,#[],0,_,e,⟨rfl,rfl,rfl⟩,rfl,fun x hx=>by simp at hx,ϑ,ϱ,⟨hb,.nil⟩,[],.nil,.nil⟩
theorem zvj {l:Addr}{items:Array Value}{ns:List Int}{Q:Value->Shared->Prop} (hh:A.handled=none) (hl:s.heap.IsList l items) (hi:IntsAre items.toList ns) (hb:items.size+1 < scanBound)
   (h:∀ (h':Heap) (tk:Nat),zct P w (zcp w) h' s.heap.objs.size (firstMet (fun i=>ns.getD i 0) items.size)->(∀ b o,b < s.heap.objs.size->s.heap.get? b=some o->h'.get? b=some o)->Q (.ref s.heap.objs.size) { s with heap:=h',toks:=tk }) :
   wpAny (model P w) A (call (.type "set") [.ref l]) Q E s:=by
 obtain ⟨c,tl,hmro⟩:=PySem.F.called_set.mro
 have z1:=PySem.F.called_set.made
 have z2:=PySem.F.called_set.sub
 refine wpAny_call (codeAny_of_tree ?_)
 show wpAny (model P w) _ (callAny (.type "set") _) _ _ s
 refine wpAny_pure ⟨Code.quiet_builtin _ ϰ,codeAny_builtin PySem.F.entry_type_call ?_⟩
 rw [Around.under_plain (weight_type_call_type "set" [.ref l] []) rfl]
 have z3:=PySem.F.called_set.notType
 have z4:=PySem.F.called_set.canCreate
 have z5:=PySem.F.typeCall_set_1 (.ref l)
 repeat (any_goals (first | assumption | wp_step))
 refine codeAny_mono (ztr (.ref l) (E:=E) (Q:=fun v s1=>v = .ref s.heap.objs.size∧s1={ s with heap:=s.heap.push { cls := .type "set",dict:=none,data := .set #[] 0 (.fresh 0 0 (zcp w)) } }) ⟨rfl,rfl⟩) fun r s1 hr=>?_
 cases r with
 | error e=>exact hr
 | ok fl =>
   cases fl with
   | ret v =>
     obtain ⟨rfl,rfl⟩:=hr
     have hS:(s.heap.push { cls := .type "set",dict:=none,data := .set #[] 0 (.fresh 0 0 (zcp w)) }).get? s.heap.objs.size=some { cls := .type "set",dict:=none,data := .set #[] 0 (.fresh 0 0 (zcp w)) }:=Heap.get?_push_size _ rfl
     have hT:Shared.TypeIs { s with heap:=s.heap.push { cls := .type "set",dict:=none,data := .set #[] 0 (.fresh 0 0 (zcp w)) } } (.ref s.heap.objs.size) "set":=⟨_,hS,rfl⟩
     have y1:=PySem.F.called_set.init.lookup
     have y2:=PySem.F.called_set.init.bind (.ref s.heap.objs.size)
     repeat (any_goals (first | assumption | wp_step))
     refine codeAny_mono (codeAny_call_builtin (R:=wants (fun r s2=>r = .none∧∃ h' tk,s2={ s with heap:=h',toks:=tk }∧zct P w (zcp w) h' s.heap.objs.size (firstMet (fun i=>ns.getD i 0) items.size) ∧
         (∀ b o,b < s.heap.objs.size->s.heap.get? b=some o->h'.get? b=some o)) E) PySem.F.called_set.init.plain PySem.F.entry_set_init (check_set_init_1 hT ?_)) fun r2 s2 hr2=>?_
     . obtain ⟨ol,hol,hcl,nl,hdl⟩:=hl
       obtain ⟨oc,od,oa,osl⟩:=ol
       simp only at hcl hdl
       subst hcl;subst hdl
       have x1:(s.heap.push { cls := .type "set",dict:=none,data := .set #[] 0 (.fresh 0 0 (zcp w)) }).get? l=some { cls := .type "list",dict:=od,data := .seq items nl,slots:=osl }:=Heap.get?_push_of_some _ hol
       have x2:=PySem.F.sub_list_set
       have x3:=PySem.F.sub_list_frozenset
       have x4:(Value.type "list" == Value.type "dict")=false:=by decide
       have x5:(s.heap.push { cls := .type "set",dict:=none,data := .set #[] 0 (.fresh 0 0 (zcp w)) }).IsList l items:=⟨_,x1,rfl,nl,rfl⟩
       unfold Builtin.«set.__init__» noKeywords Builtin.Frozenset.updateFrom
       generalize hPI:pyIter=PI
       wp_walk
       subst hPI
       refine wpAny_pyIter_list x5 (wpAny_bind (wpAny_runValue ?_))
       have x6:l < s.heap.objs.size:=Heap.lt_size hol
       have x7:A.in1.in1.in1.handled=none:=by simp [hh]
       have x8:l≠(s.heap.push { cls := .type "set",dict:=none,data := .set #[] 0 (.fresh 0 0 (zcp w)) }).objs.size:=by
         rw [Heap.size_push];exact Nat.ne_of_lt (Nat.lt_succ_of_lt x6)
       have x9:s.heap.objs.size∉[(s.heap.push { cls := .type "set",dict:=none,data := .set #[] 0 (.fresh 0 0 (zcp w)) }).objs.size,l]:=by
         rw [Heap.size_push]
         intro z
         rcases List.mem_cons.mp z with z | z
         . omega
         . exact Nat.ne_of_gt x6 (List.mem_singleton.mp z)
       refine zuZ (L:=zcp w) ((Walks.list x7 _ l x8 items).toS) s.heap.objs.size x9 (fun i=>ns.getD i 0) (fun i v hv=>IntsAre.int_at hi i v (by rw [Array.getElem?_toList];exact hv)) hb (items.size - 0) 0 _ ω (Nat.zero_le _)
         ⟨⟨_,Heap.get?_push_size _ rfl,rfl,rfl⟩,(x5.push _)⟩ (zvC (fun q=>q) (Heap.get?_push_of_some _ hS)) ?_
       intro s3 m S3
       obtain ⟨h3,g3,d3,t3,o3⟩:=s3
       obtain rfl:g3=s.gens:=m.gens
       obtain rfl:d3=s.drawn:=m.drawn
       obtain rfl:o3=s.os:=m.os
       refine wpAny_pure (wpAny_pure ⟨rfl,h3,t3,rfl,S3,fun b o hb e=>?_⟩)
       refine m.heap b o (fun z=>?_) (Heap.get?_push_of_some _ (Heap.get?_push_of_some _ e))
       rw [Heap.size_push]at z
       rcases List.mem_cons.mp z with z | z
       . exact Nat.ne_of_lt hb z
       . exact Nat.ne_of_lt (Nat.lt_succ_of_lt hb) (List.mem_singleton.mp z)
     . cases r2 with
       | error e=>exact hr2
       | ok f2 =>
         cases f2 with
         | ret r =>
           obtain ⟨rfl,h',tk,rfl,S',k'⟩:=hr2
           repeat (any_goals (first | assumption | wp_step))
           exact h _ _ S' k'
         | _=>exact hr2.elim
   | _=>exact hr.elim
end
end L2
end
section
namespace L2
open PySem PySem.Spec PyProof.Rows
theorem zdw:Slot "set_iterator" "__next__" "set_iterator.__next__" :=
 .of (owner :="set_iterator") (n :="__next__") (by rw [typeLookup_type,builtinLookup_eq_fast];kernel_rfl) ϰ ϰ ϰ (by first | exact .inl ϰ | exact .inr ϰ) (by rw [isSubtype_type];kernel_rfl)
theorem ziY:entryFor table "set_iterator.__next__" = some Builtin.«set_iterator.__next__»:=entryFor_of_tree (by kernel_rfl)
theorem zif (a:Value):argsOk "set_iterator.__next__" ⟨[a],[]⟩:=by unfold argsOk;kernel_rfl
theorem zsI:entryFor table "set.__iter__" = some Builtin.«frozenset.__iter__» :=
 entryFor_alias (id' :="frozenset.__iter__") (by kernel_rfl) rfl ϰ (by kernel_rfl)
theorem zmP {α:Type} (l:List α) (i:Nat) (hi:i < l.length):(l[i] :: l.eraseIdx i).Perm l:=by
 rw [List.eraseIdx_eq_take_drop_succ]
 have e:l=l.take i++l[i] :: l.drop (i+1):=by rw [<- List.drop_eq_getElem_cons hi,List.take_append_drop]
 exact (List.perm_middle.symm).trans (by rw [<- e])
section
variable {M:Model}{A:Around}{E:Value->Shared->Prop}{s:Shared}
theorem zrc {src:Source}{n:Nat}{Q:Nat->Shared->Prop} (h0:0 < n) (h:∀ i,i < n->Q i { s with drawn:=s.drawn.bump src }):wpAny M A (choose src n) Q E s:=fun Γ p hΓ=>by
 unfold choose
 rw [Sem.wp_choose]
 exact ⟨ω,h _ (Nat.mod_lt _ h0)⟩
theorem zrP {α:Type} (n:Nat):∀ (xs:List α) {s:Shared}{Q:List α->Shared->Prop},xs.length=n->(∀ ys d,ys.Perm xs->Q ys { s with drawn:=d })->wpAny M A (drawOrder n xs) Q E s:=by
 induction n with
 | zero =>
   intro xs s Q hl h
   cases xs with
   | nil=>unfold drawOrder;exact wpAny_pure (h [] s.drawn .nil)
   | cons x xs=>cases hl
 | succ n ih =>
   intro xs s Q hl h
   cases xs with
   | nil=>cases hl
   | cons x xs =>
     unfold drawOrder
     refine wpAny_bind (zrc ς fun i hi=>?_)
     have ei:(x :: xs)[i]?=some ((x :: xs)[i]):=List.getElem?_eq_getElem hi
     rw [ei]
     dsimp only
     refine wpAny_bind (ih _ (by rw [List.length_eraseIdx_of_lt hi];omega) fun ys d hp=>?_)
     refine wpAny_pure (h _ d ?_)
     exact (hp.cons _).trans (zmP _ i hi)
end
end L2
end
section
namespace L2
open PySem PySem.Spec PyProof.Rows
noncomputable def zcX (h:Heap) (it a:Addr) (first:Value) (i n ep:Nat):Prop:=∃ o,h.get? it=some o∧o.cls = .type "set_iterator" ∧ o.data = .fields #[first,.int i 0,.ref a,.int n 0,.int ep 0]
noncomputable def zbz (h:Heap) (a:Addr) (es:Array (Int×Value)) (ep:Nat) (t:SetTable):Prop:=∃ o,h.get? a=some o∧o.cls = .type "set" ∧ o.data = .set es ep t∧t.fits es.size=true
theorem zcX.keep {h h':Heap}{it a:Addr}{first:Value}{i n ep:Nat} (x:zcX h it a first i n ep) (k:∀ o,h.get? it=some o->h'.get? it=some o):zcX h' it a first i n ep:=let ⟨o,e,r⟩:=x;⟨o,k o e,r⟩
theorem zbz.keep {h h':Heap}{a:Addr}{es:Array (Int×Value)}{ep:Nat}{t:SetTable} (x:zbz h a es ep t) (k:∀ o,h.get? a=some o->h'.get? a=some o):zbz h' a es ep t:=let ⟨o,e,r⟩:=x;⟨o,k o e,r⟩
section
variable {P:Program}{w:World}{A:Around}{E:Value->Shared->Prop}{s:Shared}{it a T:Addr}{es:Array (Int×Value)}{ep i slot nx:Nat}{t:SetTable}{x:Value}{Q:Option Value->Shared->Prop}
theorem zcX.typeIs {first:Value}{n:Nat} (h:zcX s.heap it a first i n ep):s.TypeIs (.ref it) "set_iterator":=let ⟨o,e,c,_⟩:=h;⟨o,e,c⟩
theorem ztK (hit:zcX s.heap it a (.int slot 0) i es.size ep) (hs:zbz s.heap a es ep t) (hn:∀ (R:Option (Value×Nat)->Shared->Prop) E,R (some (x,nx)) s->wpAny (model P w) A.in1 (setNext a slot i ep) R E s)
   (hQ:∀ h',zcX h' it a (.int nx 0) (i+1) es.size ep->Heap.SameBut it s.heap h'->Q (some x) { s with heap:=h' }):wpAny (model P w) A (pyNext (.ref it)) Q E s:=by
 obtain ⟨o,ho,hc,hd⟩:=id hit
 obtain ⟨oa,hoa,hca,hda,hf⟩:=id hs
 unfold pyNext
 refine wpAny_bind (wpAny_attempt (wpAny_callSpecial?_slot (name:=Str.ofString "__next__") hit.typeIs zdw (wpAny_call_entry zdw hit.typeIs ziY ?_ (zif _))))
 unfold Builtin.«set_iterator.__next__»
 refine wpAny_bind (m:=slotArgs "__next__" 0 _) (wpAny_pure ?_)
 refine wpAny_bind (wpAny_fieldsOf ho hd ?_)
 try dsimp only
 refine wpAny_bind (wpAny_setEntries_of hoa hda hf ?_)
 rw [if_neg ς]
 try dsimp only
 refine wpAny_bind (hn _ _ ?_)
 try dsimp only
 refine wpAny_bind (wpAny_setField ho hd ς ?_)
 have g1:=Heap.get?_update_self (Obj.mapFields (·.setIfInBounds 0 (rawInt nx))) ho (Obj.isFreed_of_fields (Obj.data_mapFields hd _))
 have d1:=Obj.data_mapFields hd (·.setIfInBounds 0 (rawInt nx))
 refine wpAny_bind (wpAny_setField g1 d1 ς ?_)
 have g2:=Heap.get?_update_self (Obj.mapFields (·.setIfInBounds 1 (rawInt ((i:Int)+1)))) g1 (Obj.isFreed_of_fields (Obj.data_mapFields d1 _))
 have d2:=Obj.data_mapFields d1 (·.setIfInBounds 1 (rawInt ((i:Int)+1)))
 refine wpAny_pure ⟨x,rfl,wpAny_pure (hQ _ ⟨_,g2,?_,?_⟩ ((Heap.SameBut.update ..).trans (Heap.SameBut.update ..)))⟩
 . rw [Obj.cls_mapFields,Obj.cls_mapFields];exact hc
 . rw [d2];simp [rawInt]
theorem znz (hh:A.handled=none) {first:Value}{o:Obj}{vs:Array Value} (ho:s.heap.get? it=some o) (hd:o.data = .fields vs) (hv:vs.size=5) {R:Value->Shared->Prop}{h1:Heap} (h1e:Heap.ExtBut it s.heap h1)
   (hR:∀ e h',Shared.TypeIs { s with heap:=h' } e "StopIteration" -> Heap.ExtBut it s.heap h'->R e { s with heap:=h' }) :
   wpAny (model P w) A.in1 (do raiseNew (<- newExc (.type "StopIteration") []):Sem Fin) (fun _ _=>False) R { s with heap:=h1 }:=by
 refine wpAny_bind ?_
 simp only [newExc,newTuple]
 refine wpAny_bind (wpAny_newObj_type ?_ (by size_fits))
 refine wpAny_bind (m:=firstArgMember _ _) (wpAny_of_eq (a:=Value.none) (by first | rfl | (simp only [firstArgMember];rfl)) ?_)
 refine wpAny_newObj_type ?_ (by size_fits)
 simp only [raiseNew]
 refine wpAny_bind (wpAny_handled ?_)
 rw [show A.in1.handled=none by exact hh]
 refine wpAny_bind (wpAny_pure (wpAny_throw ?_))
 exact hR _ _ ⟨_,Heap.get?_push_size _ rfl,rfl⟩ ((h1e.push _).push _)
theorem zrm (hh:A.handled=none) (hit:zcX s.heap it a (.int slot 0) i es.size ep) (hs:zbz s.heap a es ep t) (hn:∀ (R:Option (Value×Nat)->Shared->Prop) E,R none s->wpAny (model P w) A.in1 (setNext a slot i ep) R E s)
   (hQ:∀ h',Heap.ExtBut it s.heap h'->Q none { s with heap:=h' }):wpAny (model P w) A (pyNext (.ref it)) Q E s:=by
 obtain ⟨o,ho,hc,hd⟩:=id hit
 obtain ⟨oa,hoa,hca,hda,hf⟩:=id hs
 unfold pyNext
 refine wpAny_bind (wpAny_attempt (wpAny_callSpecial?_slot (name:=Str.ofString "__next__") hit.typeIs zdw (wpAny_call_entry zdw hit.typeIs ziY ?_ (zif _))))
 unfold Builtin.«set_iterator.__next__»
 refine wpAny_bind (m:=slotArgs "__next__" 0 _) (wpAny_pure ?_)
 refine wpAny_bind (wpAny_fieldsOf ho hd ?_)
 try dsimp only
 refine wpAny_bind (wpAny_setEntries_of hoa hda hf ?_)
 rw [if_neg ς]
 try dsimp only
 refine wpAny_bind (hn _ _ ?_)
 try dsimp only
 refine wpAny_bind (wpAny_setField ho hd ς ?_)
 refine wpAny_mono (znz hh (first := .none) ho hd rfl (Heap.SameBut.update ..).extBut (R:=_) fun e h' te ex=>?_) (fun _ _ z=>z.elim) fun _ _ z=>z
 exact wpAny_bind (wpAny_isInstance te isSubtype_stop (wpAny_pure (hQ h' ex)))
end
end L2
end
section
namespace L2
open PySem PySem.Spec PyProof.Rows
theorem zlx {α:Type} (next:Nat->Nat):∀ (fuel k:Nat) (left:List α) (out:Array α),left.length=fuel->∃ l,l.Perm left∧(pickOrder.go next fuel k left out).toList=out.toList++l
 | 0,k,[],out,h=>⟨[],.nil,by unfold pickOrder.go;simp⟩
 | 0,k,_ :: _,out,h=>by cases h
 | fuel+1,k,left,out,h=>by
   unfold pickOrder.go
   have hi:next k % left.length < left.length:=Nat.mod_lt _ ω
   rw [List.getElem?_eq_getElem hi]
   dsimp only
   obtain ⟨l,h1,h2⟩:=zlx next fuel (k+1) (left.eraseIdx (next k % left.length)) (out.push left[next k % left.length]) (by rw [List.length_eraseIdx_of_lt hi];omega)
   refine ⟨left[next k % left.length] :: l,(h1.cons _).trans (zmP _ _ hi),?_⟩
   rw [h2,Array.toList_push,List.append_assoc]
   rfl
theorem zsV {α:Type} (next:Nat->Nat) (xs:Array α):(pickOrder next xs).toList.Perm xs.toList:=by
 obtain ⟨l,h1,h2⟩:=zlx next xs.size 0 xs.toList #[] ς
 unfold pickOrder
 rw [h2]
 simpa using h1
section
variable {P:Program}{w:World}{A:Around}{s:Shared}{a:Addr}{es:Array (Int×Value)}{ep i slot:Nat}{t:SetTable}
theorem ziB {E:Value->Shared->Prop}{R:Bool->Shared->Prop} (h:R (w.params.followText "set-order") s):wpAny (model P w) A setsByText R E s:=by
 unfold setsByText
 exact wpAny_bind (wpAny_askSetting (wpAny_pure h))
theorem ztD (ht:w.params.followText "set-order" = true) (hs:zbz s.heap a es ep t):∀ (R:Option (Value×Nat)->Shared->Prop) E,R (((pickOrder (w.params.setOrder a ep) es)[i]?).map fun e=>(e.2,slot)) s->wpAny (model P w) A (setNext a slot i ep) R E s:=by
 intro R E h
 obtain ⟨oa,hoa,hca,hda,hf⟩:=hs
 unfold setNext
 refine wpAny_bind (wpAny_setState_of hoa hda hf ?_)
 dsimp only
 refine wpAny_bind (ziB ?_)
 rw [ht,if_pos rfl,if_neg ς]
 refine wpAny_bind ?_
 unfold setWalk
 refine wpAny_bind (wpAny_setState_of hoa hda hf ?_)
 dsimp only
 refine wpAny_bind (ziB ?_)
 rw [ht,if_pos rfl]
 exact wpAny_bind (wpAny_askSetting (wpAny_pure (wpAny_pure h)))
theorem zuw (ht:w.params.followText "set-order" = false) (hp:t.plain=true∨es.size<=1) (hl:t.led=true) (hs:zbz s.heap a es ep t):∀ (R:Option (Value×Nat)->Shared->Prop) E,
   R (match es[SetTable.below t.place slot]?,t.place[SetTable.below t.place slot]? with | some (_,x),some j=>some (x,j+1) | _,_=>none) s->wpAny (model P w) A (setNext a slot i ep) R E s:=by
 intro R E h
 obtain ⟨oa,hoa,hca,hda,hf⟩:=hs
 unfold setNext
 refine wpAny_bind (wpAny_setState_of hoa hda hf ?_)
 dsimp only
 refine wpAny_bind (ziB ?_)
 rw [ht,if_neg ς]
 split
 . rename_i hc
   have hc:(!t.plain && decide (es.size > 1))=true:=hc
   rcases hp with q | q
   . rw [q]at hc;cases hc
   . rw [decide_eq_false ω]at hc;simp at hc
 . refine wpAny_bind ?_
   show wpAny _ _ (if (!t.led && !es.isEmpty)=true then unsupported "set:maker-not-led" else pure ()) _ _ _
   rw [hl,if_neg ς]
   exact wpAny_pure (wpAny_pure h)
noncomputable def zeY (t:SetTable) (i:Nat):Nat:=if i=0 then 0 else t.place.getD (i - 1) 0+1
theorem zrB (h:zbW t.place) (hi:i<=t.place.size):SetTable.below t.place (zeY t i)=i:=by
 obtain ⟨h1,h2,h3⟩:=zkv (j:=zeY t i) h
 unfold zeY at *
 by_cases c:i=0
 . subst c
   rw [if_pos rfl]at *
   by_cases d:SetTable.below t.place 0=0
   . exact d
   . have hz:0 < t.place.size:=by omega
     have:=h2 0 _ ω (Array.getElem?_eq_getElem hz)
     omega
 . rw [if_neg c]at *
   have hz:i - 1 < t.place.size:=by omega
   have e1:t.place[i - 1]?=some t.place[i - 1]:=Array.getElem?_eq_getElem hz
   have e2:t.place.getD (i - 1) 0=t.place[i - 1]:=by simp [Array.getD,hz]
   rw [e2]at h1 h2 h3 ⊢
   rcases Nat.lt_trichotomy (SetTable.below t.place (t.place[i - 1]+1)) i with q | q | q
   . exfalso
     have hb:SetTable.below t.place (t.place[i - 1]+1) < t.place.size:=by omega
     have e3:=Array.getElem?_eq_getElem hb
     have z:=h3 _ _ (Nat.le_refl _) e3
     by_cases d:SetTable.below t.place (t.place[i - 1]+1)=i - 1
     . simp only [d]at z;omega
     . have:=h.lt e3 e1 ω
       omega
   . exact q
   . exfalso
     have hb:i < t.place.size:=by omega
     have e3:t.place[i]?=some t.place[i]:=Array.getElem?_eq_getElem hb
     have z:=h2 _ _ q e3
     have:=h.lt e1 e3 ω
     omega
theorem zvk (ht:w.params.followText "set-order" = false) (hp:t.plain=true∨es.size<=1) (k:zcf (zcp w) t) (hs:zbz s.heap a es ep t) (hi:i<=es.size):∀ (R:Option (Value×Nat)->Shared->Prop) E,
   R (es[i]?.map fun e=>(e.2,zeY t (i+1))) s->wpAny (model P w) A (setNext a (zeY t i) i ep) R E s:=by
 intro R E h
 have hl:t.led=true:=k.led (by unfold zcp;rw [ht];rfl)
 have hsz:t.place.size=es.size:=by
   obtain ⟨_,_,_,_,hf⟩:=hs
   simp only [SetTable.fits,Bool.and_eq_true,beq_iff_eq]at hf
   exact hf.1
 refine zuw ht hp hl hs R E ?_
 rw [zrB k.rise ω]
 by_cases c:i < es.size
 . have c2:i < t.place.size:=by omega
   rw [Array.getElem?_eq_getElem c]at h ⊢
   rw [Array.getElem?_eq_getElem c2]
   have e:zeY t (i+1)=t.place[i]+1:=by unfold zeY;simp [Array.getD,c2]
   rw [e]at h
   exact h
 . rw [Array.getElem?_eq_none ω]at h ⊢
   exact h
end
end L2
end
section
namespace L2
open PySem PySem.Spec PyProof.Rows
theorem zlD:Slot "set_iterator" "__iter__" "set_iterator.__iter__" :=
 .of (owner :="set_iterator") (n :="__iter__") (by rw [typeLookup_type,builtinLookup_eq_fast];kernel_rfl) ϰ ϰ ϰ (by first | exact .inl ϰ | exact .inr ϰ) (by rw [isSubtype_type];kernel_rfl)
theorem zsH:entryFor table "set_iterator.__iter__" = some Builtin.«dict_keyiterator.__iter__» :=
 entryFor_alias (id' :="dict_keyiterator.__iter__") (by kernel_rfl) rfl ϰ (by kernel_rfl)
theorem zq6 (a:Value):argsOk "set_iterator.__iter__" ⟨[a],[]⟩:=by unfold argsOk;kernel_rfl
noncomputable def zkt (h:Heap) (T:Addr) (ys:List Nat):Prop:=∃ o n,h.get? T=some o∧o.data = .seq (ys.map fun (k:Nat)=>Value.int k 0).toArray n
section
variable {P:Program}{w:World}{A:Around}{E:Value->Shared->Prop}{s:Shared}{it a T:Addr}{es:Array (Int×Value)}{ep i k:Nat}{t:SetTable}{x:Int×Value}{ys:List Nat}{Q:Option Value->Shared->Prop}
theorem zta (hit:zcX s.heap it a (.ref T) i es.size ep) (hs:zbz s.heap a es ep t) (hT:zkt s.heap T ys) (hy:ys[i]?=some k) (hx:es[k]?=some x)
   (hQ:∀ h',zcX h' it a (.ref T) (i+1) es.size ep->Heap.SameBut it s.heap h'->Q (some x.2) { s with heap:=h' }):wpAny (model P w) A (pyNext (.ref it)) Q E s:=by
 obtain ⟨o,ho,hc,hd⟩:=id hit
 obtain ⟨oa,hoa,hca,hda,hf⟩:=id hs
 obtain ⟨oT,nT,hoT,hdT⟩:=hT
 unfold pyNext
 refine wpAny_bind (wpAny_attempt (wpAny_callSpecial?_slot (name:=Str.ofString "__next__") hit.typeIs zdw (wpAny_call_entry zdw hit.typeIs ziY ?_ (zif _))))
 unfold Builtin.«set_iterator.__next__»
 refine wpAny_bind (m:=slotArgs "__next__" 0 _) (wpAny_pure ?_)
 refine wpAny_bind (wpAny_fieldsOf ho hd ?_)
 dsimp only
 refine wpAny_bind (wpAny_setEntries_of hoa hda hf ?_)
 rw [if_neg ς]
 try dsimp only
 refine wpAny_bind (wpAny_seqItems hoT hdT ?_)
 dsimp only
 have e1:((ys.map fun (k:Nat)=>Value.int k 0).toArray)[(i:Int).toNat]?=some (.int k 0):=by simp [hy]
 rw [e1]
 dsimp only
 refine wpAny_bind ?_
 unfold setNextDrawn
 refine wpAny_bind (wpAny_setState_of hoa hda hf ?_)
 dsimp only
 rw [if_neg ς]
 have e2:es[(k:Int).toNat]?=some x:=by simpa using hx
 rw [e2]
 refine wpAny_pure ?_
 refine wpAny_bind (wpAny_setField ho hd ς ?_)
 have g1:=Heap.get?_update_self (Obj.mapFields (·.setIfInBounds 1 (rawInt ((i:Int)+1)))) ho (Obj.isFreed_of_fields (Obj.data_mapFields hd _))
 have d1:=Obj.data_mapFields hd (·.setIfInBounds 1 (rawInt ((i:Int)+1)))
 refine wpAny_pure ⟨x.2,rfl,wpAny_pure (hQ _ ⟨_,g1,?_,?_⟩ (Heap.SameBut.update ..))⟩
 . rw [Obj.cls_mapFields];exact hc
 . rw [d1];simp [rawInt]
theorem ztN (hh:A.handled=none) (hit:zcX s.heap it a (.ref T) i es.size ep) (hs:zbz s.heap a es ep t) (hT:zkt s.heap T ys) (hy:ys[i]?=none)
   (hQ:∀ h',Heap.ExtBut it s.heap h'->Q none { s with heap:=h' }):wpAny (model P w) A (pyNext (.ref it)) Q E s:=by
 obtain ⟨o,ho,hc,hd⟩:=id hit
 obtain ⟨oa,hoa,hca,hda,hf⟩:=id hs
 obtain ⟨oT,nT,hoT,hdT⟩:=hT
 unfold pyNext
 refine wpAny_bind (wpAny_attempt (wpAny_callSpecial?_slot (name:=Str.ofString "__next__") hit.typeIs zdw (wpAny_call_entry zdw hit.typeIs ziY ?_ (zif _))))
 unfold Builtin.«set_iterator.__next__»
 refine wpAny_bind (m:=slotArgs "__next__" 0 _) (wpAny_pure ?_)
 refine wpAny_bind (wpAny_fieldsOf ho hd ?_)
 dsimp only
 refine wpAny_bind (wpAny_setEntries_of hoa hda hf ?_)
 rw [if_neg ς]
 try dsimp only
 refine wpAny_bind (wpAny_seqItems hoT hdT ?_)
 dsimp only
 have e1:((ys.map fun (k:Nat)=>Value.int k 0).toArray)[(i:Int).toNat]?=none:=by simpa using hy
 rw [e1]
 dsimp only
 refine wpAny_bind (wpAny_setField ho hd ς ?_)
 have g1:=Heap.get?_update_self (Obj.mapFields (·.setIfInBounds 0 (rawInt 0))) ho (Obj.isFreed_of_fields (Obj.data_mapFields hd _))
 have d1:=Obj.data_mapFields hd (·.setIfInBounds 0 (rawInt 0))
 refine wpAny_bind (wpAny_setField g1 d1 ς ?_)
 refine wpAny_mono (znz hh (first := .none) ho hd rfl ((Heap.SameBut.update ..).trans (Heap.SameBut.update ..)).extBut (R:=_) fun e h' te ex=>?_) (fun _ _ z=>z.elim) fun _ _ z=>z
 exact wpAny_bind (wpAny_isInstance te isSubtype_stop (wpAny_pure (hQ h' ex)))
end
theorem znr {P:Program}{w:World}{A:Around}{E:Value->Shared->Prop}{s:Shared}{it a:Addr}{first:Value}{i n ep:Nat}{Q:Value->Shared->Prop} (hit:zcX s.heap it a first i n ep) (h:Q (.ref it) s):wpAny (model P w) A (pyIter (.ref it)) Q E s:=by
 refine wpAny_pyIter_slot hit.typeIs zlD (wpAny_call_entry zlD hit.typeIs zsH ?_ (zq6 _))
 show wpAny (model P w) _ (ret (.ref it)) _ _ s
 exact wpAny_pure ⟨_,rfl, "set_iterator",_,hit.typeIs,zdw.lookup,h⟩
noncomputable abbrev Gq:Array GenState->Array GenState->Prop:=fun g g'=>g'=g
theorem zis {it:Addr}{s:Shared}{h':Heap} (k:Heap.ExtBut it s.heap h'):Moved [it] Gq s { s with heap:=h' } :=
 ⟨fun b o hb e=>k b o (fun z=>hb (by simp [z])) e,rfl,rfl,rfl,Nat.le_refl _⟩
theorem zvc {P:Program}{w:World}{A:Around} (hh:A.handled=none) {it a:Addr} (ne:a≠it) {es:Array (Int×Value)}{ep:Nat}{t:SetTable}{ord:List (Int×Value)} (hl:ord.length=es.size) (sl:Nat->Nat)
   (hn:∀ (B:Around) (s:Shared) (i:Nat),i<=es.size->zbz s.heap a es ep t->∀ (R:Option (Value×Nat)->Shared->Prop) E,R (ord[i]?.map fun e=>(e.2,sl (i+1))) s->wpAny (model P w) B (setNext a (sl i) i ep) R E s) :
   WalksS P w A it [it,a] [it] Gq es.size (fun i v=>∃ e,ord[i]?=some e∧v=e.2) (fun i s=>zcX s.heap it a (.int (sl i) 0) i es.size ep∧zbz s.heap a es ep t) where
 sub:=fun b hb=>by simp at hb;simp [hb]
 grefl:=fun _=>rfl
 gtrans:=fun _ _ _ x y=>y.trans x
 frame:=fun i s h' tk st _ hk=>⟨st.1.keep fun o e=>hk it ς o e,st.2.keep fun o e=>hk a ς o e⟩
 item:=fun i s Q E hi st hQ=>by
   have e:ord[i]?=some ord[i]:=List.getElem?_eq_getElem ω
   refine ztK (x:=ord[i].2) (nx:=sl (i+1)) st.1 st.2 (fun R E h=>hn _ s i ω st.2 R E (by rw [e];exact h)) fun h' k1 k2=>?_
   exact hQ _ _ ⟨_,e,rfl⟩ ⟨k1,st.2.keep fun o z=>k2.extBut a o ne z⟩ (zis k2.extBut)
 done:=fun s Q E st hQ=>zrm hh st.1 st.2 (fun R E h=>hn _ s _ (Nat.le_refl _) st.2 R E (by rw [List.getElem?_eq_none ω];exact h)) fun h' k=>hQ _ (zis k)
 self:=fun i s Q E st h=>znr st.1 h
theorem zmr {es:Array (Int×Value)}:∀ (ys:List Nat) (i:Nat),(∀ k∈ys,k < es.size)->(ys.filterMap (es[·]?))[i]?=(ys[i]?).bind (es[·]?)
 | [],i,_=>by simp
 | y :: ys,i,h=>by
   have hy:=h y List.mem_cons_self
   rw [List.filterMap_cons_some (b:=es[y]) (Array.getElem?_eq_getElem hy)]
   cases i with
   | zero=>simp [hy]
   | succ i=>simpa using zmr ys i fun k hk=>h k (List.mem_cons_of_mem _ hk)
theorem zuf {P:Program}{w:World}{A:Around} (hh:A.handled=none) {it a T:Addr} (ne:a≠it) (nT:T≠it) {es:Array (Int×Value)}{ep:Nat}{t:SetTable}{ys:List Nat} (hp:ys.Perm (List.range es.size)) :
   WalksS P w A it [it,a,T] [it] Gq es.size (fun i v=>∃ e,(ys.filterMap (es[·]?))[i]?=some e∧v=e.2) (fun i s=>zcX s.heap it a (.ref T) i es.size ep∧zbz s.heap a es ep t∧zkt s.heap T ys) where
 sub:=fun b hb=>by simp at hb;simp [hb]
 grefl:=fun _=>rfl
 gtrans:=fun _ _ _ x y=>y.trans x
 frame:=fun i s h' tk st _ hk=>⟨st.1.keep fun o e=>hk it ς o e,st.2.1.keep fun o e=>hk a ς o e,by
   obtain ⟨o,n,e,d⟩:=st.2.2
   exact ⟨o,n,hk T ς o e,d⟩⟩
 item:=fun i s Q E hi st hQ=>by
   have hl:ys.length=es.size:=by rw [hp.length_eq,List.length_range]
   have e:ys[i]?=some ys[i]:=List.getElem?_eq_getElem ω
   have hm:ys[i] < es.size:=List.mem_range.mp (hp.mem_iff.mp (List.getElem_mem _))
   have e2:es[ys[i]]?=some es[ys[i]]:=Array.getElem?_eq_getElem hm
   have e3:(ys.filterMap (es[·]?))[i]?=some es[ys[i]]:=by
     rw [zmr ys i fun k hk=>List.mem_range.mp (hp.mem_iff.mp hk),e]
     exact e2
   refine zta st.1 st.2.1 st.2.2 e e2 fun h' k1 k2=>?_
   refine hQ _ _ ⟨_,e3,rfl⟩ ⟨k1,st.2.1.keep fun o z=>k2.extBut a o ne z,?_⟩ (zis k2.extBut)
   obtain ⟨o,n,q,d⟩:=st.2.2
   exact ⟨o,n,k2.extBut T o nT q,d⟩
 done:=fun s Q E st hQ=>ztN hh st.1 st.2.1 st.2.2 (List.getElem?_eq_none (by rw [hp.length_eq,List.length_range];exact Nat.le_refl _)) fun h' k=>hQ _ (zis k)
 self:=fun i s Q E st h=>znr st.1 h
end L2
end
section
namespace L2
open PySem PySem.Spec PyProof.Rows
section
variable {P:Program}{w:World}{A:Around}{E:Value->Shared->Prop}{s:Shared}{a:Addr}{es:Array (Int×Value)}{ep:Nat}{t:SetTable}
theorem zbz.typeIs (hs:zbz s.heap a es ep t):s.TypeIs (.ref a) "set":=let ⟨o,e,c,_⟩:=hs;⟨o,e,c⟩
noncomputable def zeR (first:Value) (a:Addr) (n ep:Nat):Obj:={ cls := .type "set_iterator",data := .fields #[first,.int 0 0,.ref a,.int n 0,.int ep 0] }
noncomputable def zea (ys:List Nat):Obj:={ cls := .type "tuple",data := .seq (ys.map fun (k:Nat)=>Value.int k 0).toArray }
theorem ztL {Q:Value->Shared->Prop} (hs:zbz s.heap a es ep t) (hz:es.size<=sizeLine)
   (hP:(w.params.followText "set-order" = true∨(w.params.followText "set-order" = false∧(t.plain=true∨es.size<=1)))->Q (.ref s.heap.objs.size) { s with heap:=s.heap.push (zeR (.int 0 0) a es.size ep) })
   (hD:∀ ys d,ys.Perm (List.range es.size)->Q (.ref (s.heap.objs.size+1)) { s with heap:=(s.heap.push (zea ys)).push (zeR (.ref s.heap.objs.size) a es.size ep),drawn:=d }) :
   wpAny (model P w) A (pyIter (.ref a)) Q E s:=by
 obtain ⟨o,ho,hc,hd,hf⟩:=id hs
 refine wpAny_pyIter_slot hs.typeIs PySem.F.slot_set_iter (wpAny_call_entry PySem.F.slot_set_iter hs.typeIs zsI ?_ (PySem.F.args_set_iter_1 _))
 unfold Builtin.«frozenset.__iter__»
 refine wpAny_bind (m:=Builtin.Frozenset.slot0 "__iter__" _) (wpAny_pure ?_)
 unfold Builtin.Frozenset.sizeOf
 refine wpAny_bind (wpAny_bind (wpAny_setEntries_of ho hd hf (wpAny_pure ?_)))
 unfold setDrawn
 refine wpAny_bind (wpAny_bind (wpAny_setState_of ho hd hf ?_))
 dsimp only
 refine wpAny_bind (ziB (wpAny_pure ?_))
 split
 . refine wpAny_bind (zrP es.size _ ς fun ys d hp=>?_)
   have hl:ys.length=es.size:=by rw [hp.length_eq,List.length_range]
   refine wpAny_bind (wpAny_newObj_type (T :="tuple") ?_ (by show (ys.map fun (k:Nat)=>rawInt k).toArray.size<=sizeLine;simp [hl];exact hz))
   have ho1:(s.heap.push (zea ys)).get? a=some o:=Heap.get?_push_of_some _ ho
   refine wpAny_bind (wpAny_setEpoch_of (s:={ s with heap:=s.heap.push (zea ys),drawn:=d }) ho1 hd hf ?_)
   refine wpAny_bind (wpAny_newObj_type (T :="set_iterator") (wpAny_pure ⟨_,rfl, "set_iterator",_,⟨_,Heap.get?_push_size _ rfl,rfl⟩,zdw.lookup,?_⟩))
   have:=hD ys d hp
   have e:(s.heap.push (zea ys)).objs.size=s.heap.objs.size+1:=size_push' _ _
   rw [<- e]at this
   exact this
 . rename_i hc
   have hc:¬ ((!(w.params.followText "set-order") && (!t.plain && decide (es.size > 1)))=true):=hc
   refine wpAny_bind (wpAny_pure ?_)
   refine wpAny_bind (wpAny_setEpoch_of ho hd hf ?_)
   refine wpAny_bind (wpAny_newObj_type (T :="set_iterator") (wpAny_pure ⟨_,rfl, "set_iterator",_,⟨_,Heap.get?_push_size _ rfl,rfl⟩,zdw.lookup,?_⟩))
   refine hP ?_
   cases hw:w.params.followText "set-order" with
   | true=>exact .inl rfl
   | false =>
     rw [hw]at hc
     refine .inr ⟨rfl,?_⟩
     cases hp:t.plain with
     | true=>exact .inl rfl
     | false =>
       rw [hp]at hc
       simp at hc
       exact .inr hc
end
end L2
end
section
namespace L2
open PySem PySem.Spec PyProof.Rows
section
variable {P:Program}{w:World}{A:Around}{E:Value->Shared->Prop}{s:Shared}{a:Addr}
theorem zl7 {R:Bool->Shared->Prop} (hT:s.TypeIs (.ref a) "set") (h:R false s):wpAny (model P w) A (Builtin.List.listLengthHint (.ref a)) R E s:=by
 unfold Builtin.List.listLengthHint
 refine wpAny_bind (wpAny_specialOf hT PySem.F.slot_set_len.lookup ?_)
 have e1:splitId "set.__len__" = some ("set", "__len__"):=by decide +kernel
 dsimp only
 rw [e1]
 dsimp only
 refine wpAny_bind (wpAny_isInstance hT sub_set_self ?_)
 rw [if_neg (show ¬ ((!true)=true) by decide)]
 refine iteInduction (motive:=fun m=>wpAny (model P w) A m R E s) (fun _=>?_) (fun hc=>absurd ϰ hc)
 refine wpAny_bind (wpAny_typeOf hT ?_)
 exact wpAny_pure h
noncomputable def zR (xs:Array Value) (c:Nat):Obj:={ cls := .type "list",dict:=none,data := .seq xs c,slots:=#[] }
theorem zjB {I L:Addr}{fp wr:List Addr}{n:Nat}{V:Nat->Value->Prop}{St:Nat->Shared->Prop}{R:Result->Shared->Prop} (W:WalksS P w A.in1 I fp wr Gq n V St) (hst:St 0 s) (hL:s.heap.get? L=some (zR #[] 0)) (hf:L∉fp) (hn:n<=sizeLine)
   (hR:∀ s' acc c,Moved (L :: wr) Gq s s'->s'.heap.get? L=some (zR acc c)->ItemsOf V acc n->R (.ok (.ret (.ref L))) s') (b:Bool) (hb:b=true) {Q:Fin->Shared->Prop}
   (hQ:∀ s',codeAny (model P w) A (.builtin "list.extend.loop" ⟨[.ref L,.ref I,.ref L],[]⟩) R s'->Q (.again (.builtin "list.extend.loop" ⟨[.ref L,.ref I,.ref L],[]⟩)) s') :
   wpAny (model P w) A.in1 (do
     if b=true then do rule "list.extend.makes-room";Builtin.List.listTouch (.ref L)
     again (.builtin "list.extend.loop" ⟨[.ref L,.ref I,.ref L],[]⟩)) Q E s:=by
 subst hb
 rw [if_pos rfl]
 refine wpAny_bind (wpAny_rule ?_)
 refine wpAny_bind ?_
 show wpAny _ A.in1 (updateSeq L (·.push .none) >>= fun _=>updateSeq L (·.pop)) _ _ _
 refine wpAny_bind (wpAny_updateSeq hL rfl ?_)
 have h2:=Heap.get?_update_self (Obj.mapSeq (·.push Value.none)) hL rfl
 refine wpAny_updateSeq h2 rfl ?_
 have h3:=Heap.get?_update_self (Obj.mapSeq (·.pop)) h2 rfl
 have oth:∀ b o,b≠L->s.heap.get? b=some o->((s.heap.update L (Obj.mapSeq (·.push Value.none))).update L (Obj.mapSeq (·.pop))).get? b=some o :=
   fun b o hb e=>(Heap.get?_update_other _ _ (Ne.symm hb)).trans ((Heap.get?_update_other _ _ (Ne.symm hb)).trans e)
 refine wpAny_pure (hQ _ ?_)
 refine codeAny_extend_loopS W hn L hf _ n 0 _ _ _ rfl (Nat.zero_le _) (W.frame 0 s _ s.toks hst (Nat.le_refl _) fun b hb o e=>oth b o (fun z=>hf (z ▸ hb)) e) h3 (ItemsOf.nil V) fun s' acc c m e i=>?_
 exact hR s' acc c (Moved.trans W.gtrans ((Moved.refl W.grefl).then_heap (Nat.le_refl _) fun b o hb e=>oth b o (fun z=>hb (z ▸ List.mem_cons_self)) e) m) e i
end
end L2
end
section
namespace L2
open PySem PySem.Spec PyProof.Rows
theorem zsc {ord:List (Int×Value)}{acc:Array Value}{n:Nat} (hl:ord.length=n) (h:ItemsOf (fun i v=>∃ e,ord[i]?=some e∧v=e.2) acc n):acc.toList=ord.map (·.2):=by
 apply List.ext_getElem?
 intro i
 rw [Array.getElem?_toList,List.getElem?_map]
 by_cases c:i < n
 . have hi:i < acc.size:=by rw [h.1];exact c
   have e:=Array.getElem?_eq_getElem hi
   obtain ⟨x,h1,h2⟩:=h.2 i _ e
   rw [e,h1,h2];rfl
 . rw [Array.getElem?_eq_none (by rw [h.1];omega),List.getElem?_eq_none ω];rfl
section
variable {P:Program}{w:World}{A:Around}{E:Value->Shared->Prop}{s:Shared}{a:Addr}{ns:List Int}
theorem zrA {Q:List Value->Shared->Prop} (hh:A.handled=none) (S:zct P w (zcp w) s.heap a ns) (hb:ns.length < 4000)
   (hQ:∀ s' vs ms,(∀ b o,s.heap.get? b=some o->s'.heap.get? b=some o)->s.heap.objs.size<=s'.heap.objs.size->s'.gens=s.gens->s'.os=s.os->IntsAre vs ms->ms.Perm ns->Q vs s') :
   wpAny (model P w) A (collect (.ref a)) Q E s:=by
 obtain ⟨o,es,ep,t,ho,hex,hd,hel,hsb,hf,hT,ms,hI,hp⟩:=S
 have hsz:es.size=ns.length:=by rw [<- hp.length_eq,<- hI.length,List.length_map,Array.length_toList]
 have hln:es.size<=sizeLine:=by rw [sizeLine_eq];omega
 have hs:zbz s.heap a es ep t:=⟨o,ho,hex.1,hd,hf⟩
 have ha:a < s.heap.objs.size:=Heap.lt_size ho
 have hh1:A.in1.handled=none:=hh
 unfold collect
 refine wpAny_bind (wpAny_runValue (codeAny_builtin PySem.F.entry_proto_collect ?_))
 rw [Around.under_plainId PySem.F.plain_proto_collect _]
 show wpAny _ A.in1 (newList [] >>= fun l=>again (.builtin "list.__iadd__" ⟨[l,.ref a],[]⟩)) _ _ s
 refine wpAny_bind (wpAny_newObj_type ?_)
 refine wpAny_pure ⟨plainId_quiet PySem.F.plain_list_iadd _,codeAny_builtin PySem.F.entry_list_iadd ?_⟩
 rw [Around.under_plainId PySem.F.plain_list_iadd _]
 have hs1:zbz (s.heap.push (zR #[] 0)) a es ep t:=hs.keep fun o e=>Heap.get?_push_of_some _ e
 have hz1:(s.heap.push (zR #[] 0)).objs.size=s.heap.objs.size+1:=size_push' _ _
 have hL1:(s.heap.push (zR #[] 0)).get? s.heap.objs.size=some (zR #[] 0):=Heap.get?_push_size _ rfl
 show wpAny _ A.in1 (Builtin.List.listExtendWith (.ref s.heap.objs.size) (.ref a) (.ref s.heap.objs.size)) _ _ { s with heap:=s.heap.push (zR #[] 0) }
 unfold Builtin.List.listExtendWith
 refine wpAny_bind (wpAny_typeOf (T :="set") (s:={ s with heap:=s.heap.push (zR #[] 0) }) (zbz.typeIs hs1) ?_)
 have q1:Builtin.List.listSameRef (.ref s.heap.objs.size) (.ref a)=false:=by simp [Builtin.List.listSameRef];exact Nat.ne_of_gt ha
 have q2:(Value.type "set" == Value.type "list")=false:=by decide
 have q3:(Value.type "set" == Value.type "tuple")=false:=by decide
 rw [q1,q2,q3,if_neg ϑ]
 have tail:∀ (s':Shared) (acc:Array Value) (c:Nat) (ord:List (Int×Value)),ord.Perm es.toList->(∀ b o,s.heap.get? b=some o->s'.heap.get? b=some o)->s'.gens=s.gens->s'.os=s.os ->
     s'.heap.get? s.heap.objs.size=some (zR acc c)->ItemsOf (fun i v=>∃ e,ord[i]?=some e∧v=e.2) acc es.size->Q acc.toList s':=fun s' acc c ord pm k g os e i=>by
   have hlo:ord.length=es.size:=by rw [pm.length_eq,Array.length_toList]
   have em:=zsc hlo i
   obtain ⟨ks,k1,k2⟩:=zjM (pm.map (·.2)) hI
   rw [em]
   exact hQ s' _ ks k (Nat.le_of_lt (Heap.lt_size e)) g os k1 (k2.trans hp)
 have mvk:∀ {I:Addr} {s1 s2:Shared} (h1:Heap),s1.heap=h1->(∀ b o,s.heap.get? b=some o->h1.get? b=some o)->s.heap.objs.size < I->Moved [s.heap.objs.size,I] Gq s1 s2->∀ b o,s.heap.get? b=some o->s2.heap.get? b=some o:=fun {I s1 s2} h1 e k hI m b o eb=>by
   have hlt:b < s.heap.objs.size:=Heap.lt_size eb
   refine m.heap b o (fun z=>?_) (by rw [e];exact k b o eb)
   rcases List.mem_cons.mp z with z | z
   . exact Nat.ne_of_lt hlt z
   . exact Nat.ne_of_lt (Nat.lt_trans hlt hI) (List.mem_singleton.mp z)
 refine wpAny_bind (ztL (s:={ s with heap:=s.heap.push (zR #[] 0) }) hs1 hln (fun hm=>?_) (fun ys d hy=>?_))
 . obtain ⟨ord,sl,pm,h0,hn⟩:∃ (ord:List (Int×Value)) (sl:Nat->Nat),ord.Perm es.toList∧sl 0=0 ∧
       (∀ (B:Around) (s:Shared) (i:Nat),i<=es.size->zbz s.heap a es ep t->∀ (R:Option (Value×Nat)->Shared->Prop) E,R (ord[i]?.map fun e=>(e.2,sl (i+1))) s->wpAny (model P w) B (setNext a (sl i) i ep) R E s):=by
     rcases hm with ht | ⟨ht,hpl⟩
     . exact ⟨_,(fun _=>0),zsV (w.params.setOrder a ep) es,rfl,fun B s i hi hs R E h=>ztD ht hs R E (by rw [<- Array.getElem?_toList];exact h)⟩
     . exact ⟨es.toList,zeY t,.refl _,rfl,fun B s i hi hs R E h=>zvk ht hpl hT hs hi R E (by rw [<- Array.getElem?_toList];exact h)⟩
   have hlo:ord.length=es.size:=by rw [pm.length_eq,Array.length_toList]
   have hI:a≠(s.heap.push (zR #[] 0)).objs.size:=by rw [hz1];exact Nat.ne_of_lt (Nat.lt_succ_of_lt ha)
   have hs2:zbz ((s.heap.push (zR #[] 0)).push (zeR (.int 0 0) a es.size ep)) a es ep t:=hs1.keep fun o e=>Heap.get?_push_of_some _ e
   refine wpAny_bind (wpAny_holding (zl7 (zbz.typeIs (s:={ s with heap:=(s.heap.push (zR #[] 0)).push (zeR (.int 0 0) a es.size ep) }) hs2) ?_))
   refine zjB (L:=s.heap.objs.size) (zvc hh1 hI hlo sl hn) ⟨⟨_,Heap.get?_push_size _ rfl,rfl,by rw [h0];rfl⟩,hs2⟩ (Heap.get?_push_of_some _ hL1) ?_ hln (fun s' acc c m e i=>?_) _ ϰ (fun s' h=>⟨plainId_quiet PySem.F.plain_extend_loop _,h⟩)
   . intro z
     rw [hz1]at z
     rcases List.mem_cons.mp z with z | z
     . exact absurd z (Nat.ne_of_lt (Nat.lt_succ_self _))
     . exact Nat.ne_of_gt ha (List.mem_singleton.mp z)
   . refine wpAny_bind (m:=load s.heap.objs.size) (wpAny_load e (wpAny_pure (tail s' acc c ord pm (mvk _ rfl (fun b o q=>Heap.get?_push_of_some _ (Heap.get?_push_of_some _ q)) (by rw [hz1];exact Nat.lt_succ_self _) m) ?_ ?_ e i)))
     . exact m.gens
     . exact m.os
 . have hz2:((s.heap.push (zR #[] 0)).push (zea ys)).objs.size=s.heap.objs.size+1+1:=by rw [size_push',hz1]
   have n1:a≠(s.heap.push (zR #[] 0)).objs.size+1:=by rw [hz1];exact Nat.ne_of_lt (Nat.lt_succ_of_lt (Nat.lt_succ_of_lt ha))
   have n2:(s.heap.push (zR #[] 0)).objs.size≠(s.heap.push (zR #[] 0)).objs.size+1:=Nat.ne_of_lt (Nat.lt_succ_self _)
   have hs2:zbz (((s.heap.push (zR #[] 0)).push (zea ys)).push (zeR (.ref (s.heap.push (zR #[] 0)).objs.size) a es.size ep)) a es ep t:=hs1.keep fun o e=>Heap.get?_push_of_some _ (Heap.get?_push_of_some _ e)
   have hit:(((s.heap.push (zR #[] 0)).push (zea ys)).push (zeR (.ref (s.heap.push (zR #[] 0)).objs.size) a es.size ep)).get? ((s.heap.push (zR #[] 0)).objs.size+1)=some (zeR (.ref (s.heap.push (zR #[] 0)).objs.size) a es.size ep):=by
     have e:(s.heap.push (zR #[] 0)).objs.size+1=((s.heap.push (zR #[] 0)).push (zea ys)).objs.size:=by rw [hz2,hz1]
     rw [e];exact Heap.get?_push_size _ rfl
   refine wpAny_bind (wpAny_holding (zl7 (zbz.typeIs (s:={ s with heap:=((s.heap.push (zR #[] 0)).push (zea ys)).push (zeR (.ref (s.heap.push (zR #[] 0)).objs.size) a es.size ep),drawn:=d }) hs2) ?_))
   refine zjB (L:=s.heap.objs.size) (zuf hh1 n1 n2 hy) ⟨⟨_,hit,rfl,rfl⟩,hs2,_,_,Heap.get?_push_of_some _ (Heap.get?_push_size _ rfl),rfl⟩ (Heap.get?_push_of_some _ (Heap.get?_push_of_some _ hL1)) ?_ hln (fun s' acc c m e i=>?_) _ ϰ (fun s' h=>⟨plainId_quiet PySem.F.plain_extend_loop _,h⟩)
   . intro z
     rw [hz1]at z
     rcases List.mem_cons.mp z with z | z
     . exact absurd z (Nat.ne_of_lt (Nat.lt_succ_of_lt (Nat.lt_succ_self _)))
     . rcases List.mem_cons.mp z with z | z
       . exact Nat.ne_of_gt ha z
       . exact absurd (List.mem_singleton.mp z) (Nat.ne_of_lt (Nat.lt_succ_self _))
   . have pm:(ys.filterMap (es[·]?)).Perm es.toList:=(hy.filterMap _).trans (by rw [filterMap_getElem?_range])
     refine wpAny_bind (m:=load s.heap.objs.size) (wpAny_load e (wpAny_pure (tail s' acc c _ pm (mvk _ rfl (fun b o q=>Heap.get?_push_of_some _ (Heap.get?_push_of_some _ (Heap.get?_push_of_some _ q))) (by rw [hz1];exact Nat.lt_succ_of_lt (Nat.lt_succ_self _)) m) ?_ ?_ e i)))
     . exact m.gens
     . exact m.os
end
end L2
end
section
namespace MI
open PySem PySem.Spec L2
structure GP where
 K:PySem.W.Frag
 cm:List Addr
 an:List Str
structure GP.Ok (G:GP) (sub att:Nat->Nat->Bool):Prop where
 cls:∀ (c:Nat) C,G.cm[c]?=some C->Cls G.K C∧zlM G.K C
 noat:∀ (c:Nat) C (k:Nat) f,G.cm[c]?=some C->att c k=true->G.an[k]?=some f->zbB G.K C f
 nd:G.an.Nodup
 isa:∀ (c c':Nat) C C',G.cm[c]?=some C->G.cm[c']?=some C'->Isa G.K C C' (sub c c')
mutual
noncomputable def RD (ρ:List Addr) (H:Hp):D->V->Prop
 | .non,v=>v = .non
 | .bl b,v=>v = .bl b
 | .int i,v=>v = .int i
 | .str x,v=>v = .str x
 | .tup ds,v=>∃ a vs,v = .ref a∧H a=some (.tup vs)∧RDs ρ H ds vs
 | .obj n,v=>∃ a,v = .ref a∧ρ[n]?=some a
noncomputable def RDs (ρ:List Addr) (H:Hp):List D->List V->Prop
 | [],vs=>vs=[]
 | d :: ds,vs=>∃ x r,vs=x :: r∧RD ρ H d x∧RDs ρ H ds r
end
structure Ext (F:Addr->Prop) (ρ ρ1:List Addr) (H H1:Hp):Prop where
 pre:∃ t,ρ1=ρ++t
 tup:∀ b xs,H b=some (.tup xs)->H1 b=some (.tup xs)
 frm:∀ b,F b->H1 b=H b
theorem Ext.refl {F:Addr->Prop}{ρ:List Addr}{H:Hp}:Ext F ρ ρ H H:=⟨⟨[],ς⟩,fun _ _ h=>h,fun _ _=>rfl⟩
theorem Ext.trans {F:Addr->Prop}{ρ ρ1 ρ2:List Addr}{H H1 H2:Hp} (a:Ext F ρ ρ1 H H1) (b:Ext F ρ1 ρ2 H1 H2):Ext F ρ ρ2 H H2:=by
 obtain ⟨t,rfl⟩:=a.pre
 obtain ⟨u,rfl⟩:=b.pre
 exact ⟨⟨t++u,ς⟩,fun c xs h=>b.tup c xs (a.tup c xs h),fun c hc=>(b.frm c hc).trans (a.frm c hc)⟩
theorem Ext.get {F:Addr->Prop}{ρ ρ1:List Addr}{H H1:Hp} (e:Ext F ρ ρ1 H H1) {n:Nat}{a:Addr} (h:ρ[n]?=some a):ρ1[n]?=some a:=by
 obtain ⟨t,rfl⟩:=e.pre
 rw [List.getElem?_append_left (List.getElem?_eq_some_iff.mp h).1];exact h
mutual
theorem RD.ext {F:Addr->Prop}{ρ ρ1:List Addr}{H H1:Hp} (e:Ext F ρ ρ1 H H1):∀ (d:D) (v:V),RD ρ H d v->RD ρ1 H1 d v
 | .non,v,h=>by unfold RD at h ⊢;exact h
 | .bl b,v,h=>by unfold RD at h ⊢;exact h
 | .int i,v,h=>by unfold RD at h ⊢;exact h
 | .str x,v,h=>by unfold RD at h ⊢;exact h
 | .tup ds,v,h=>by
   unfold RD at h ⊢
   obtain ⟨a,vs,h1,h2,h3⟩:=h
   exact ⟨a,vs,h1,e.tup _ _ h2,RDs.ext e ds vs h3⟩
 | .obj n,v,h=>by
   unfold RD at h ⊢
   obtain ⟨a,h1,h2⟩:=h
   exact ⟨a,h1,e.get h2⟩
theorem RDs.ext {F:Addr->Prop}{ρ ρ1:List Addr}{H H1:Hp} (e:Ext F ρ ρ1 H H1):∀ (ds:List D) (vs:List V),RDs ρ H ds vs->RDs ρ1 H1 ds vs
 | [],vs,h=>by unfold RDs at h ⊢;exact h
 | d :: ds,vs,h=>by
   unfold RDs at h ⊢
   obtain ⟨x,r,h1,h2,h3⟩:=h
   exact ⟨x,r,h1,RD.ext e d x h2,RDs.ext e ds r h3⟩
end
mutual
noncomputable def D.bd (n:Nat):D->Prop
 | .obj m=>m < n
 | .tup ds=>bds n ds
 | _=>True
noncomputable def bds (n:Nat):List D->Prop
 | []=>True
 | d :: r=>d.bd n∧bds n r
end
mutual
theorem RD.bd {ρ:List Addr}{H:Hp}:∀ (d:D) (v:V),RD ρ H d v->d.bd ρ.length
 | .non,v,h=>by simp [D.bd]
 | .bl b,v,h=>by simp [D.bd]
 | .int i,v,h=>by simp [D.bd]
 | .str x,v,h=>by simp [D.bd]
 | .tup ds,v,h=>by
   unfold RD at h;unfold D.bd
   obtain ⟨a,vs,h1,h2,h3⟩:=h
   exact RDs.bd ds vs h3
 | .obj n,v,h=>by
   unfold RD at h;unfold D.bd
   obtain ⟨a,h1,h2⟩:=h
   exact (List.getElem?_eq_some_iff.mp h2).1
theorem RDs.bd {ρ:List Addr}{H:Hp}:∀ (ds:List D) (vs:List V),RDs ρ H ds vs->bds ρ.length ds
 | [],vs,h=>by simp [bds]
 | d :: ds,vs,h=>by
   unfold RDs at h;unfold bds
   obtain ⟨x,r,h1,h2,h3⟩:=h
   exact ⟨RD.bd d x h2,RDs.bd ds r h3⟩
end
mutual
theorem D.nr_bd {n:Nat}:∀ (d:D),d.nr=true->d.bd n
 | .non,h=>by simp [D.bd]
 | .bl b,h=>by simp [D.bd]
 | .int i,h=>by simp [D.bd]
 | .str x,h=>by simp [D.bd]
 | .tup ds,h=>by unfold D.nr at h;unfold D.bd;exact zjH ds h
 | .obj n,h=>by simp [D.nr]at h
theorem zjH {n:Nat}:∀ (ds:List D),nrs ds=true->bds n ds
 | [],h=>by simp [bds]
 | d :: ds,h=>by
   unfold nrs at h;unfold bds
   rw [Bool.and_eq_true]at h
   exact ⟨D.nr_bd d h.1,zjH ds h.2⟩
end
mutual
theorem RD.cut {ρ ρ1:List Addr}{H:Hp}{n:Nat} (e:∀ m,m < n->ρ1[m]?=ρ[m]?):∀ (d:D) (v:V),d.bd n->RD ρ H d v->RD ρ1 H d v
 | .non,v,_,h=>by unfold RD at h ⊢;exact h
 | .bl b,v,_,h=>by unfold RD at h ⊢;exact h
 | .int i,v,_,h=>by unfold RD at h ⊢;exact h
 | .str x,v,_,h=>by unfold RD at h ⊢;exact h
 | .tup ds,v,b,h=>by
   unfold RD at h ⊢;unfold D.bd at b
   obtain ⟨a,vs,h1,h2,h3⟩:=h
   exact ⟨a,vs,h1,h2,RDs.cut e ds vs b h3⟩
 | .obj m,v,b,h=>by
   unfold RD at h ⊢;unfold D.bd at b
   obtain ⟨a,h1,h2⟩:=h
   exact ⟨a,h1,by rw [e m b];exact h2⟩
theorem RDs.cut {ρ ρ1:List Addr}{H:Hp}{n:Nat} (e:∀ m,m < n->ρ1[m]?=ρ[m]?):∀ (ds:List D) (vs:List V),bds n ds->RDs ρ H ds vs->RDs ρ1 H ds vs
 | [],vs,_,h=>by unfold RDs at h ⊢;exact h
 | d :: ds,vs,b,h=>by
   unfold RDs at h ⊢;unfold bds at b
   obtain ⟨x,r,h1,h2,h3⟩:=h
   exact ⟨x,r,h1,RD.cut e d x b.1 h2,RDs.cut e ds r b.2 h3⟩
end
section
variable {ρ:List Addr}{H:Hp}
theorem RDs.length:∀ {ds:List D}{vs:List V},RDs ρ H ds vs->ds.length=vs.length
 | [],vs,h=>by unfold RDs at h;subst h;rfl
 | d :: ds,vs,h=>by
   unfold RDs at h
   obtain ⟨x,r,h1,h2,h3⟩:=h
   subst h1;simp [RDs.length h3]
theorem RDs.get:∀ {ds:List D}{vs:List V}{i:Nat}{d:D},RDs ρ H ds vs->ds[i]?=some d->∃ v,vs[i]?=some v∧RD ρ H d v
 | [],vs,i,d,h,e=>by simp at e
 | x :: ds,vs,i,d,h,e=>by
   unfold RDs at h
   obtain ⟨y,r,h1,h2,h3⟩:=h
   subst h1
   cases i with
   | zero=>simp at e;subst e;exact ⟨y,rfl,h2⟩
   | succ i =>
     obtain ⟨v,e1,e2⟩:=RDs.get (i:=i) h3 (by simpa using e)
     exact ⟨v,by simpa using e1,e2⟩
theorem RDs.nil:RDs ρ H [] []:=by unfold RDs;rfl
theorem RDs.cons {d:D}{v:V}{ds:List D}{vs:List V} (h:RD ρ H d v) (hs:RDs ρ H ds vs):RDs ρ H (d :: ds) (v :: vs):=by
 unfold RDs;exact ⟨v,vs,rfl,h,hs⟩
theorem RDs.append {ds2:List D}{vs2:List V} (h:RDs ρ H ds2 vs2):∀ {ds:List D}{vs:List V},RDs ρ H ds vs->RDs ρ H (ds++ds2) (vs++vs2)
 | [],vs,hs=>by unfold RDs at hs;subst hs;exact h
 | d :: ds,vs,hs=>by
   unfold RDs at hs
   obtain ⟨y,r,h1,h2,h3⟩:=hs
   subst h1
   exact RDs.cons h2 (RDs.append h h3)
theorem RDs.snoc {d:D}{v:V}{ds:List D}{vs:List V} (hs:RDs ρ H ds vs) (h:RD ρ H d v):RDs ρ H (ds++[d]) (vs++[v]):=RDs.append (RDs.cons h RDs.nil) hs
theorem RDs.take:∀ (n:Nat) {ds:List D}{vs:List V},RDs ρ H ds vs->RDs ρ H (ds.take n) (vs.take n)
 | 0,_,_,h=>by simp;exact RDs.nil
 | n+1,[],vs,h=>by unfold RDs at h;subst h;simp;exact RDs.nil
 | n+1,d :: ds,vs,h=>by
   unfold RDs at h
   obtain ⟨y,r,h1,h2,h3⟩:=h
   subst h1
   exact RDs.cons h2 (RDs.take n h3)
theorem RDs.drop:∀ (n:Nat) {ds:List D}{vs:List V},RDs ρ H ds vs->RDs ρ H (ds.drop n) (vs.drop n)
 | 0,_,_,h=>h
 | n+1,[],vs,h=>by unfold RDs at h;subst h;simp;exact RDs.nil
 | n+1,d :: ds,vs,h=>by
   unfold RDs at h
   obtain ⟨y,r,h1,h2,h3⟩:=h
   subst h1
   exact RDs.drop n h3
theorem RDs.reverse:∀ {ds:List D}{vs:List V},RDs ρ H ds vs->RDs ρ H ds.reverse vs.reverse
 | [],vs,h=>by unfold RDs at h;subst h;simp;exact RDs.nil
 | d :: ds,vs,h=>by
   unfold RDs at h
   obtain ⟨y,r,h1,h2,h3⟩:=h
   subst h1
   rw [List.reverse_cons,List.reverse_cons]
   exact RDs.snoc (RDs.reverse h3) h2
theorem RDs.set {d:D}{v:V} (h:RD ρ H d v):∀ (i:Nat) {ds:List D}{vs:List V},RDs ρ H ds vs->RDs ρ H (ds.set i d) (vs.set i v)
 | _,[],vs,hs=>by unfold RDs at hs;subst hs;simp;exact RDs.nil
 | 0,x :: ds,vs,hs=>by
   unfold RDs at hs
   obtain ⟨y,r,h1,h2,h3⟩:=hs
   subst h1
   exact RDs.cons h h3
 | i+1,x :: ds,vs,hs=>by
   unfold RDs at hs
   obtain ⟨y,r,h1,h2,h3⟩:=hs
   subst h1
   exact RDs.cons h2 (RDs.set h i h3)
theorem RDs.ints:∀ ns:List Int,RDs ρ H (ns.map D.int) (ns.map V.int)
 | []=>by simp;exact RDs.nil
 | n :: r=>RDs.cons (by unfold RD;rfl) (RDs.ints r)
theorem RDs.of_ints:∀ {ds:List D}{ns:List Int}{vs:List V},zbO ds=some ns->RDs ρ H ds vs->vs=ns.map V.int
 | [],ns,vs,e,h=>by
   unfold RDs at h;subst h
   simp [zbO]at e;subst e;rfl
 | d :: ds,ns,vs,e,h=>by
   unfold RDs at h
   obtain ⟨y,r,h1,h2,h3⟩:=h
   cases d with
   | int i =>
     rw [zbO,Option.map_eq_some_iff]at e
     obtain ⟨ms,e1,rfl⟩:=e
     unfold RD at h2
     subst h1 h2
     rw [RDs.of_ints e1 h3];rfl
   | _=>simp [zbO]at e
theorem RDs.of_bools:∀ {ds:List D}{ns:List Bool}{vs:List V},zca ds=some ns->RDs ρ H ds vs->vs=ns.map V.bl
 | [],ns,vs,e,h=>by
   unfold RDs at h;subst h
   simp [zca]at e;subst e;rfl
 | d :: ds,ns,vs,e,h=>by
   unfold RDs at h
   obtain ⟨y,r,h1,h2,h3⟩:=h
   cases d with
   | bl i =>
     rw [zca,Option.map_eq_some_iff]at e
     obtain ⟨ms,e1,rfl⟩:=e
     unfold RD at h2
     subst h1 h2
     rw [RDs.of_bools e1 h3];rfl
   | _=>simp [zca]at e
end
noncomputable def KRs (ρ:List Addr) (H:Hp):List (Int×D)->List (Key×V)->Prop
 | [],vs=>vs=[]
 | p :: r,vs=>∃ v q,vs=(Sum.inl p.1,v) :: q∧RD ρ H p.2 v∧KRs ρ H r q
noncomputable def FRs (G:GP) (ρ:List Addr) (H:Hp) (C:Addr):List (Nat×D)->List (Str×V)->Prop
 | [],vs=>vs=[]
 | p :: r,vs=>∃ f v q,vs=(f,v) :: q∧G.an[p.1]?=some f∧zbB G.K C f∧RD ρ H p.2 v∧FRs G ρ H C r q
noncomputable def KL (K:PySem.W.Frag) (a:Addr) (xs:List V):Prop :=
 ∃ (o:Obj) (its:Array Value) (n:Nat),K.lookup a=some o∧o.cls = .type "list" ∧ o.dict=none∧o.data = .seq its n∧its.size<=sizeLine∧zt xs its.toList
noncomputable def RO (G:GP) (ρ:List Addr) (H:Hp) (a:Addr):O->Prop
 | .lst xs=>∃ vs,H a=some (.lst vs)∧RDs ρ H xs vs
 | .scr xs=>∃ vs,((∃ o,H a=some (.frz o (.lst vs)))∨KL G.K a vs)∧RDs ρ H xs vs
 | .dic kvs=>∃ vs,H a=some (.dK vs)∧KRs ρ H kvs vs
 | .hole=>True
 | .set xs=>∃ S n,H a=some (.set S n)∧n=xs.length∧∀ x,S x=decide (x∈xs)
 | .ins c fs=>∃ C dx vs,G.cm[c]?=some C∧H a=some (.ins C dx vs)∧FRs G ρ H C fs vs
theorem KRs.map {ρ ρ1:List Addr}{H H1:Hp}:∀ {kvs:List (Int×D)}{vs:List (Key×V)},KRs ρ H kvs vs->(∀ p∈kvs,∀ v,RD ρ H p.2 v->RD ρ1 H1 p.2 v)->KRs ρ1 H1 kvs vs
 | [],vs,h,_=>h
 | p :: r,vs,h,f=>by
   unfold KRs at h ⊢
   obtain ⟨v,q,h1,h2,h3⟩:=h
   exact ⟨v,q,h1,f p List.mem_cons_self v h2,KRs.map h3 fun x hx=>f x (List.mem_cons_of_mem _ hx)⟩
theorem FRs.map {G:GP}{ρ ρ1:List Addr}{H H1:Hp}{C:Addr}:∀ {kvs:List (Nat×D)}{vs:List (Str×V)},FRs G ρ H C kvs vs->(∀ p∈kvs,∀ v,RD ρ H p.2 v->RD ρ1 H1 p.2 v)->FRs G ρ1 H1 C kvs vs
 | [],vs,h,_=>h
 | p :: r,vs,h,f=>by
   unfold FRs at h ⊢
   obtain ⟨g,v,q,h1,h2,h3,h4,h5⟩:=h
   exact ⟨g,v,q,h1,h2,h3,f p List.mem_cons_self v h4,FRs.map h5 fun x hx=>f x (List.mem_cons_of_mem _ hx)⟩
theorem RO.map {G:GP}{ρ ρ1:List Addr}{H H1:Hp}{a:Addr}{o:O} (h:RO G ρ H a o) (ha:∀ u,H a=some u->H1 a=some u) (f:∀ d v,RD ρ H d v->RD ρ1 H1 d v) (fs:∀ ds vs,RDs ρ H ds vs->RDs ρ1 H1 ds vs):RO G ρ1 H1 a o:=by
 cases o with
 | lst xs=>obtain ⟨vs,h1,h2⟩:=h;exact ⟨vs,ha _ h1,fs _ _ h2⟩
 | scr xs =>
   obtain ⟨vs,h1,h2⟩:=h
   refine ⟨vs,?_,fs _ _ h2⟩
   rcases h1 with ⟨o,h1⟩ | h1
   . exact .inl ⟨o,ha _ h1⟩
   . exact .inr h1
 | dic kvs=>obtain ⟨vs,h1,h2⟩:=h;exact ⟨vs,ha _ h1,h2.map fun p _ v=>f _ _⟩
 | hole=>trivial
 | set xs=>obtain ⟨S,n,h1,h2⟩:=h;exact ⟨S,n,ha _ h1,h2⟩
 | ins c fs=>obtain ⟨C,dx,vs,h1,h2,h3⟩:=h;exact ⟨C,dx,vs,h1,ha _ h2,h3.map fun p _ v=>f _ _⟩
noncomputable def O.isScr:O->Bool
 | .scr _=>true
 | .hole=>true
 | _=>false
structure HR (F:Addr->Prop) (G:GP) (ρ:List Addr) (h:MH) (H:Hp):Prop where
 pro:∀ b,F b->(∃ u,H b=some u)∧∀ (m:Nat) o,ρ[m]?=some b->h[m]?=some o->o.isScr=true
 nd:∀ (n m:Nat) a o o',n≠m->ρ[n]?=some a->ρ[m]?=some a->h[n]?=some o->h[m]?=some o'->o.isScr=true∨o'.isScr=true
 len:ρ.length=h.length
 all:∀ (n:Nat) o,h[n]?=some o->∃ a,ρ[n]?=some a∧RO G ρ H a o
theorem HR.at {F:Addr->Prop}{G:GP}{ρ:List Addr}{h:MH}{H:Hp} (r:HR F G ρ h H) {n:Nat}{o:O}{a:Addr} (e:h[n]?=some o) (ea:ρ[n]?=some a):RO G ρ H a o:=by
 obtain ⟨b,e1,e2⟩:=r.all n o e
 rw [ea]at e1;cases e1;exact e2
structure zV (ρ:List Addr) (H:Hp) (env:zr) (σ:St):Prop where
 len:env.length=σ.length
 all:∀ (i:Nat) d,env[i]?=some (some d)->∃ v,σ[i]?=some (some v)∧RD ρ H d v
theorem zV.ext {F:Addr->Prop}{ρ ρ1:List Addr}{H H1:Hp}{env:zr}{σ:St} (h:zV ρ H env σ) (e:Ext F ρ ρ1 H H1):zV ρ1 H1 env σ :=
 ⟨h.len,fun i d q=>let ⟨v,q1,q2⟩:=h.all i d q;⟨v,q1,RD.ext e _ _ q2⟩⟩
theorem zV.set {ρ:List Addr}{H:Hp}{env:zr}{σ:St} (h:zV ρ H env σ) {d:D}{v:V} (r:RD ρ H d v) (i:Nat):zV ρ H (env.set i (some d)) (σ.set i (some v)):=by
 refine ⟨by simp [h.len],fun j d' q=>?_⟩
 by_cases hj:i=j
 . subst hj
   have hi:i < env.length:=by
     have:=(List.getElem?_eq_some_iff.mp q).1
     simpa using this
   rw [List.getElem?_set_self hi]at q
   cases q
   exact ⟨v,by rw [List.getElem?_set_self (by rw [<- h.len];exact hi)],r⟩
 . rw [List.getElem?_set_ne hj]at q ⊢
   exact h.all j d' q
section
variable {F:Addr->Prop}{G:GP}{ρ:List Addr}{h:MH}{H:Hp}
theorem zb1 (hr:HR F G ρ h H) {p:Addr}{u:HO} (hp:H p=none):Ext F ρ ρ H (upd H p u):=⟨⟨[],ς⟩,fun b xs e=>by rw [zU (zde e hp)];exact e,fun b hb=>by
 obtain ⟨⟨v,hv⟩,_⟩:=hr.pro b hb
 rw [zU (zde hv hp)]⟩
theorem zrt {p:Addr}{u:HO} (hp:H p=none) {a:Addr}{o:HO} (e:H a=some o):upd H p u a=some o:=by rw [zU (zde e hp)];exact e
theorem HR.grow {H1:Hp} (r:HR F G ρ h H) (k:∀ a o,H a=some o->H1 a=some o):HR F G ρ h H1:=by
 have e:Ext F ρ ρ H H1:=⟨⟨[],ς⟩,fun b xs q=>k _ _ q,fun b hb=>by obtain ⟨⟨v,hv⟩,_⟩:=r.pro b hb;rw [hv];exact k _ _ hv⟩
 exact ⟨fun b hb=>let ⟨⟨v,hv⟩,z⟩:=r.pro b hb;⟨⟨v,k _ _ hv⟩,z⟩,r.nd,r.len,fun n o q=>let ⟨a,q1,q2⟩:=r.all n o q;⟨a,q1,q2.map (fun u=>k a u) (RD.ext e) (RDs.ext e)⟩⟩
theorem HR.new (r:HR F G ρ h H) {p:Addr}{u:HO} (hp:H p=none):HR F G ρ h (upd H p u):=r.grow fun a o e=>zrt hp e
noncomputable def zeZ (F:Addr->Prop) (ρ:List Addr) (h:MH) (a:Addr):Prop:=¬ F a∧∀ (m:Nat) o,ρ[m]?=some a->h[m]?=some o->o.isScr=true
theorem RO.some_of {a:Addr}{o:O} (r:RO G ρ H a o):o.isScr=true∨∃ u,H a=some u:=by
 cases o with
 | lst xs=>obtain ⟨vs,z,_⟩:=r;exact .inr ⟨_,z⟩
 | scr xs=>exact .inl rfl
 | dic xs=>obtain ⟨vs,z,_⟩:=r;exact .inr ⟨_,z⟩
 | hole=>exact .inl rfl
 | set xs=>obtain ⟨S,n,z,_⟩:=r;exact .inr ⟨_,z⟩
 | ins c fs=>obtain ⟨C,dx,vs,_,z,_⟩:=r;exact .inr ⟨_,z⟩
theorem HR.fresh (r:HR F G ρ h H) {a:Addr} (ha:H a=none):zeZ F ρ h a:=by
 refine ⟨fun z=>?_,fun m o e1 e2=>?_⟩
 . obtain ⟨⟨v,hv⟩,_⟩:=r.pro a z
   rw [ha]at hv;cases hv
 . rcases (r.at e2 e1).some_of with z | ⟨u,z⟩
   . exact z
   . rw [ha]at z;cases z
theorem getElem?_snoc {α:Type}{l:List α}{x y:α}{n:Nat} (h:(l++[x])[n]?=some y):(l[n]?=some y)∨(n=l.length∧x=y):=by
 by_cases hn:n < l.length
 . rw [List.getElem?_append_left hn]at h;exact .inl h
 . rw [List.getElem?_append_right ω]at h
   have:n - l.length=0:=by
     by_cases z:n - l.length=0
     . exact z
     . rw [List.getElem?_eq_none (by simp;omega)]at h;cases h
   rw [this]at h
   simp at h
   exact .inr ⟨ω,h⟩
theorem RD.snoc {b:Addr} (d:D) (v:V) (h:RD ρ H d v):RD (ρ++[b]) H d v:=RD.ext (F:=fun _=>False) ⟨⟨[b],rfl⟩,fun _ _ z=>z,fun _ z=>z.elim⟩ _ _ h
theorem RDs.snocρ {b:Addr} (d:List D) (v:List V) (h:RDs ρ H d v):RDs (ρ++[b]) H d v:=RDs.ext (F:=fun _=>False) ⟨⟨[b],rfl⟩,fun _ _ z=>z,fun _ z=>z.elim⟩ _ _ h
theorem HR.named (r:HR F G ρ h H) {a:Addr}{o:O} (fr:zeZ F ρ h a) (ro:RO G (ρ++[a]) H a o):HR F G (ρ++[a]) (h++[o]) H:=by
 refine ⟨fun b hb=>⟨(r.pro b hb).1,fun m x z1 z2=>?_⟩,fun n m b x y hne h1 h2 h3 h4=>?_,by simp [r.len],fun n x hx=>?_⟩
 . rcases getElem?_snoc z1 with z1 | ⟨e1,f1⟩
   . have hm:m < h.length:=by rw [<- r.len];exact (List.getElem?_eq_some_iff.mp z1).1
     rw [List.getElem?_append_left hm]at z2
     exact (r.pro b hb).2 m x z1 z2
   . subst f1;exact absurd hb fr.1
 . rcases getElem?_snoc h1 with h1 | ⟨e1,f1⟩
   . rcases getElem?_snoc h2 with h2 | ⟨e2,f2⟩
     . have hn:n < h.length:=by rw [<- r.len];exact (List.getElem?_eq_some_iff.mp h1).1
       have hm:m < h.length:=by rw [<- r.len];exact (List.getElem?_eq_some_iff.mp h2).1
       rw [List.getElem?_append_left hn]at h3
       rw [List.getElem?_append_left hm]at h4
       exact r.nd n m b x y hne h1 h2 h3 h4
     . have hn:n < h.length:=by rw [<- r.len];exact (List.getElem?_eq_some_iff.mp h1).1
       rw [List.getElem?_append_left hn]at h3
       subst f2
       exact .inl (fr.2 n x h1 h3)
   . rcases getElem?_snoc h2 with h2 | ⟨e2,f2⟩
     . have hm:m < h.length:=by rw [<- r.len];exact (List.getElem?_eq_some_iff.mp h2).1
       rw [List.getElem?_append_left hm]at h4
       subst f1
       exact .inr (fr.2 m y h2 h4)
     . exact absurd (e1.trans e2.symm) hne
 . rcases getElem?_snoc hx with hx | ⟨e,f⟩
   . obtain ⟨b,e1,e2⟩:=r.all n x hx
     exact ⟨b,by rw [List.getElem?_append_left (List.getElem?_eq_some_iff.mp e1).1];exact e1,e2.map (fun _ z=>z) RD.snoc RDs.snocρ⟩
   . subst f
     exact ⟨a,by rw [e,<- r.len];simp,ro⟩
theorem HR.write (r:HR F G ρ h H) {n:Nat}{a:Addr}{o o1:O}{u0 u:HO} (e:h[n]?=some o) (ea:ρ[n]?=some a) (hs:o.isScr=false) (hs1:o1.isScr=false) (eu:H a=some u0) (mu:Mut (some u0))
   (ro:RO G ρ (upd H a u) a o1):Ext F ρ ρ H (upd H a u)∧HR F G ρ (h.set n o1) (upd H a u):=by
 have hn:n < h.length:=(List.getElem?_eq_some_iff.mp e).1
 have tp:∀ b xs,H b=some (.tup xs)->upd H a u b=some (.tup xs):=fun b xs q=>by
   rw [zU]
   . exact q
   . intro z;subst z;rw [eu]at q;cases q;exact mu
 have hb0:∀ b,F b->b≠a:=fun b hb z=>by have:=(r.pro b hb).2 n o (by rw [z];exact ea) e;rw [hs]at this;cases this
 have ex:Ext F ρ ρ H (upd H a u):=⟨⟨[],ς⟩,tp,fun b hb=>zU (hb0 b hb)⟩
 refine ⟨ex,fun b hb=>⟨by rw [zU (hb0 b hb)];exact (r.pro b hb).1,fun m x z1 z2=>?_⟩,fun i j b x y hne h1 h2 h3 h4=>?_,by simp [r.len],fun m x hx=>?_⟩
 . by_cases hm:n=m
   . subst hm
     rw [ea]at z1;cases z1
     exact absurd rfl (hb0 _ hb)
   . rw [List.getElem?_set_ne hm]at z2
     exact (r.pro b hb).2 m x z1 z2
 . have sc:∀ (k:Nat) z,(h.set n o1)[k]?=some z->∃ z0,h[k]?=some z0∧z0.isScr=z.isScr:=fun k z hz=>by
     by_cases hk:n=k
     . subst hk
       rw [List.getElem?_set_self hn]at hz
       cases hz
       exact ⟨o,e,hs.trans hs1.symm⟩
     . rw [List.getElem?_set_ne hk]at hz
       exact ⟨z,hz,rfl⟩
   obtain ⟨x0,hx0,ex0⟩:=sc i x h3
   obtain ⟨y0,hy0,ey0⟩:=sc j y h4
   rw [<- ex0,<- ey0]
   exact r.nd i j b x0 y0 hne h1 h2 hx0 hy0
 . by_cases hm:n=m
   . subst hm
     rw [List.getElem?_set_self hn]at hx
     cases hx
     exact ⟨a,ea,ro⟩
   . rw [List.getElem?_set_ne hm]at hx
     obtain ⟨b,e1,e2⟩:=r.all m x hx
     refine ⟨b,e1,?_⟩
     by_cases hb:b=a
     . subst hb
       have hsc:x.isScr=true:=by
         rcases r.nd n m b o x hm ea e1 e hx with z | z
         . rw [hs]at z;cases z
         . exact z
       cases x with
       | scr xs =>
         obtain ⟨vs,z,w⟩:=e2
         refine ⟨vs,?_,RDs.ext ex _ _ w⟩
         rcases z with ⟨o',z⟩ | z
         . rw [eu]at z;cases z;exact mu.elim
         . exact .inr z
       | hole=>trivial
       | _=>cases hsc
     . exact e2.map (fun w z=>by rw [zU hb];exact z) (RD.ext ex) (RDs.ext ex)
theorem HR.sub {F':Addr->Prop} (r:HR F' G ρ h H) (hs:∀ b,F b->F' b):HR F G ρ h H:=⟨fun b hb=>r.pro b (hs b hb),r.nd,r.len,r.all⟩
theorem Ext.sub {F':Addr->Prop}{ρ1:List Addr}{H1:Hp} (r:Ext F' ρ ρ1 H H1) (hs:∀ b,F b->F' b):Ext F ρ ρ1 H H1:=⟨r.pre,r.tup,fun b hb=>r.frm b (hs b hb)⟩
theorem HR.upd_free (r:HR F G ρ h H) {a:Addr}{xs ys:List V} (fr:zeZ F ρ h a) (ha:H a=some (.lst xs)):Ext F ρ ρ H (upd H a (.lst ys))∧HR F G ρ h (upd H a (.lst ys)):=by
 have hb0:∀ b,F b->b≠a:=fun b hb z=>fr.1 (z ▸ hb)
 have tp:∀ b xs,H b=some (.tup xs)->upd H a (.lst ys) b=some (.tup xs):=fun b xs q=>by
   rw [zU]
   . exact q
   . intro z;subst z;rw [ha]at q;cases q
 have ex:Ext F ρ ρ H (upd H a (.lst ys)):=⟨⟨[],ς⟩,tp,fun b hb=>zU (hb0 b hb)⟩
 refine ⟨ex,fun b hb=>⟨by rw [zU (hb0 b hb)];exact (r.pro b hb).1,(r.pro b hb).2⟩,r.nd,r.len,fun n o q=>?_⟩
 obtain ⟨b,q1,q2⟩:=r.all n o q
 refine ⟨b,q1,?_⟩
 by_cases hb:b=a
 . subst hb
   have hsc:=fr.2 n o q1 q
   cases o with
   | scr xs =>
     obtain ⟨vs,z,w⟩:=q2
     refine ⟨vs,?_,RDs.ext ex _ _ w⟩
     rcases z with ⟨o',z⟩ | z
     . rw [ha]at z;cases z
     . exact .inr z
   | hole=>trivial
   | _=>cases hsc
 . exact q2.map (fun w z=>by rw [zU hb];exact z) (RD.ext ex) (RDs.ext ex)
end
end MI
end
section
namespace MI
open PySem PySem.Spec L2
section
variable {α β γ δ:Type}
noncomputable abbrev RL (α β:Type):=(Addr->Prop)->List Addr->MH->Hp->α->β->Prop
noncomputable def wp (F:Addr->Prop) (W:Nat->Hp->Prop) (G:GP) (Rl:RL α β) (env:zr) (σ:L2.St) (ρ:List Addr) (H:Hp) (r:R α) (Q:β->Hp->Prop):Prop:=match r with
 | .ok v h1=>∀ ρ1 H1 v1,Ext F ρ ρ1 H H1->zV ρ1 H1 env σ->HR F G ρ1 h1 H1->Rl F ρ1 h1 H1 v v1->Q v1 H1
 | .ex c h1=>∀ ρ1 H1,Ext F ρ ρ1 H H1->HR F G ρ1 h1 H1->W c H1
 | .bad=>False
noncomputable def tG (W:Nat->Hp->Prop) (G:GP) (Rl:RL α β) (m:ME α):L2.St->Hp->(β->Hp->Prop)->Prop:=fun σ H Q =>
 ∃ F ρ env h,zV ρ H env σ∧HR F G ρ h H∧wp F W G Rl env σ ρ H (m env h) Q
variable {W:Nat->Hp->Prop}{F:Addr->Prop}{G:GP}{Rl:RL α β}{Rl':RL γ δ}{env:zr}{σ:L2.St}{ρ ρ1:List Addr}{H H1:Hp}{h h1:MH}
theorem wp.mono {r:R α}{Q:β->Hp->Prop} (w:wp F W G Rl env σ ρ H r Q) (e:Ext F ρ ρ1 H H1):wp F W G Rl env σ ρ1 H1 r Q:=by
 cases r with
 | ok v h1=>exact fun ρ2 H2 v1 e2=>w ρ2 H2 v1 (e.trans e2)
 | ex c h1=>exact fun ρ2 H2 e2=>w ρ2 H2 (e.trans e2)
 | bad=>exact w
theorem zC {m:ME α}{k:α->ME γ}{Q:δ->Hp->Prop}{P:β->Hp->Prop} (w:wp F W G Rl' env σ ρ H (zl m k env h) Q)
   (f:∀ x h1 ρ1 H1 y,Ext F ρ ρ1 H H1->zV ρ1 H1 env σ->HR F G ρ1 h1 H1->Rl F ρ1 h1 H1 x y->wp F W G Rl' env σ ρ1 H1 (k x env h1) Q->P y H1):wp F W G Rl env σ ρ H (m env h) P:=by
 unfold zl at w
 cases e:m env h with
 | ok v h1 =>
   rw [e]at w
   exact fun ρ1 H1 y ex er hr rl=>f v h1 ρ1 H1 y ex er hr rl (w.mono ex)
 | ex c h1=>rw [e]at w;exact w
 | bad=>rw [e]at w;exact w
end
theorem zT {X:Cx}{e:Expr}{t t':TE} (h:PE X e t) (i:∀ σ H Q,t' σ H Q->t σ H Q):PE X e t':=fun pins s σ H Q I hw=>h pins s σ H Q I (i _ _ _ hw)
theorem ziu {X:Cx}{e:Expr}{t t':TT} (h:PT X e t) (i:∀ σ H Q,t' σ H Q->t σ H Q):PT X e t':=fun pins s σ H Q I hw=>h pins s σ H Q I (i _ _ _ hw)
theorem zl8 {X:Cx}{e:Expr}{t t':TT} (h:PW X e t) (i:∀ σ H Q,t' σ H Q->t σ H Q):PW X e t':=fun wh pins s σ H Q I hw=>h wh pins s σ H Q I (i _ _ _ hw)
theorem zlU {X:Cx}{e:List Expr}{t t':TA} (h:PA X e t) (i:∀ σ H Q,t' σ H Q->t σ H Q):PA X e t':=fun pos pins s σ H Q I hw=>h pos pins s σ H Q I (i _ _ _ hw)
theorem zlp {X:Cx}{e:Option Expr}{t t':TO} (h:PO X e t) (i:∀ σ H Q,t' σ H Q->t σ H Q):PO X e t':=fun pins s σ H Q I hw=>h pins s σ H Q I (i _ _ _ hw)
theorem zjx {X:Cx}{tg e:Expr}{t t':TI} (h:PI X tg e t) (i:∀ σ H Q,t' σ H Q->t σ H Q):PI X tg e t':=fun pins s σ H Q I hw=>h pins s σ H Q I (i _ _ _ hw)
noncomputable abbrev rV:RL D V:=fun _ ρ _ H d v=>RD ρ H d v
noncomputable abbrev rB:RL Bool Bool:=fun _ _ _ _ a b=>a=b
noncomputable abbrev rO:RL (Option Int) (Option Int):=fun _ _ _ _ a b=>a=b
noncomputable abbrev rA:RL (List D) (List V):=fun _ ρ _ H d v=>RDs ρ H d v
noncomputable def rL (K:PySem.W.Frag):RL (List D) V:=fun _ ρ _ H xs v=>∃ a vs,v = .ref a∧H a=some (.lst vs)∧RDs ρ H xs vs
noncomputable def rN (K:PySem.W.Frag):RL (List D) V:=fun F ρ h H xs v=>∃ a vs,v = .ref a∧H a=some (.lst vs)∧zeZ F ρ h a∧RDs ρ H xs vs
noncomputable abbrev tE (W:Nat->Hp->Prop) (G:GP) (m:ME D):TE:=tG W G rV m
noncomputable abbrev tT (W:Nat->Hp->Prop) (G:GP) (m:ME Bool):TT:=tG W G rB m
noncomputable abbrev tA (W:Nat->Hp->Prop) (G:GP) (m:ME (List D)):TA:=tG W G rA m
noncomputable abbrev tO (W:Nat->Hp->Prop) (G:GP) (m:ME (Option Int)):TO:=tG W G rO m
noncomputable abbrev tL (W:Nat->Hp->Prop) (G:GP) (m:ME (List D)):TE:=tG W G (rL G.K) m
noncomputable abbrev tN (W:Nat->Hp->Prop) (G:GP) (m:ME (List D)):TE:=tG W G (rN G.K) m
@[irreducible] noncomputable def JE (X:Cx) (e:Expr) (t:TE):Prop:=PE X e t
@[irreducible] noncomputable def JT (X:Cx) (e:Expr) (t:TT):Prop:=PT X e t
@[irreducible] noncomputable def JW (X:Cx) (e:Expr) (t:TT):Prop:=PW X e t
@[irreducible] noncomputable def JA (X:Cx) (e:List Expr) (t:TA):Prop:=PA X e t
@[irreducible] noncomputable def JO (X:Cx) (e:Option Expr) (t:TO):Prop:=PO X e t
theorem JE.to {X:Cx}{e:Expr}{t:TE} (h:JE X e t):PE X e t:=by unfold JE at h;exact h
theorem JE.of {X:Cx}{e:Expr}{t:TE} (h:PE X e t):JE X e t:=by unfold JE;exact h
theorem JT.to {X:Cx}{e:Expr}{t:TT} (h:JT X e t):PT X e t:=by unfold JT at h;exact h
theorem JT.of {X:Cx}{e:Expr}{t:TT} (h:PT X e t):JT X e t:=by unfold JT;exact h
theorem JW.to {X:Cx}{e:Expr}{t:TT} (h:JW X e t):PW X e t:=by unfold JW at h;exact h
theorem JW.of {X:Cx}{e:Expr}{t:TT} (h:PW X e t):JW X e t:=by unfold JW;exact h
theorem JA.to {X:Cx}{e:List Expr}{t:TA} (h:JA X e t):PA X e t:=by unfold JA at h;exact h
theorem JA.of {X:Cx}{e:List Expr}{t:TA} (h:PA X e t):JA X e t:=by unfold JA;exact h
theorem JO.to {X:Cx}{e:Option Expr}{t:TO} (h:JO X e t):PO X e t:=by unfold JO at h;exact h
theorem JO.of {X:Cx}{e:Option Expr}{t:TO} (h:PO X e t):JO X e t:=by unfold JO;exact h
section
variable {W:Nat->Hp->Prop}{X:Cx}{F:Addr->Prop}{G:GP}{env:zr}{σ:L2.St}{ρ:List Addr}{H:Hp}{h:MH}{a b c:Expr}{ma mb mc:ME D}{pos:Pos}{Q:VK}
theorem wp.done {α β:Type}{Rl:RL α β}{x:α}{y:β}{Q:β->Hp->Prop} (w:wp F W G Rl env σ ρ H (.ok x h) Q) (er:zV ρ H env σ) (hr:HR F G ρ h H) (r:Rl F ρ h H x y):Q y H:=w ρ H y Ext.refl er hr r
theorem wp.made {α β:Type}{Rl:RL α β}{x:α}{y:β}{Q:β->Hp->Prop}{p:Addr}{u:HO} (w:wp F W G Rl env σ ρ H (.ok x h) Q) (er:zV ρ H env σ) (hr:HR F G ρ h H) (hp:H p=none) (r:Rl F ρ h (upd H p u) x y):Q y (upd H p u) :=
 w ρ _ y (zb1 hr hp) (er.ext (zb1 hr hp)) (hr.new hp) r
theorem zc (i:Nat) {x:Str}{pos:Pos} (hN:X.N[i]?=some x:=by rfl) (hv:Vis X.env.scope x:=by first | exact Or.inl rfl | exact Or.inr (Or.inl rfl) | exact Or.inr (Or.inr rfl)) (hd:(x == ("__debug__":Str))=false:=by decide)
   (hcd:(x == ("__classdict__":Str))=false:=by decide):JE X (.Name x pos) (tE W G (var i)) :=
 .of (zT (zv8 hN hv hd hcd) fun σ H Q ⟨F,ρ,env,h,er,hr,w⟩=>by
   unfold var at w
   cases e:env[i]? with
   | none=>rw [e]at w;exact w.elim
   | some o =>
     cases o with
     | none=>rw [e]at w;exact w.elim
     | some d =>
       rw [e]at w
       obtain ⟨v,h1,h2⟩:=er.all i d e
       exact ⟨v,h1,w.done er hr h2⟩)
theorem q_c {e:Expr}{v:V}{d:D} (h:PE X e (tC v)) (r:∀ ρ H,RD ρ H d v):JE X e (tE W G (zb d)) :=
 .of (zT h fun σ H Q ⟨F,ρ,env,h,er,hr,w⟩=>wp.done (h:=h) w er hr (r ρ H))
theorem zg {i j pos}:JE X (.Constant (.int i) j pos) (tE W G (zb (.int i))):=q_c zj5 fun _ _=>by unfold RD;rfl
theorem zbX {i j pos}:JE X (.Constant (.bool i) j pos) (tE W G (zb (.bl i))):=q_c zs1 fun _ _=>by unfold RD;rfl
theorem zd9 {j pos}:JE X (.Constant .none j pos) (tE W G (zb .non)):=q_c zq2 fun _ _=>by unfold RD;rfl
theorem zei {x:Str}{i:Int}{u:Value}{pos:Pos} (hg:Gl X x) (hm:X.mg x=some u) (r:zo (.int i) u) (hd:(x == ("__debug__":Str))=false:=by decide):JE X (.Name x pos) (tE W G (zb (.int i))) :=
 q_c (znk hg hm r hd) fun _ _=>by unfold RD;rfl
noncomputable def OpM (W:Nat->Hp->Prop) (G:GP) (f:D->D->ME D) (r:R2):Prop:=∀ (F:Addr->Prop) (ρ:List Addr) (h:MH) (H:Hp) (env:zr) (σ:L2.St) (x y:D) (v u:V) (Q:VK),zV ρ H env σ->HR F G ρ h H->RD ρ H x v->RD ρ H y u ->
 wp F W G rV env σ ρ H (f x y env h) Q->r v u H Q
theorem zhF {op:Operator}{r:R2}{f:D->D->ME D} (ho:OpR X (binaryOp op) r) (hf:OpM W G f r) (ha:JE X a (tE W G ma)) (hb:JE X b (tE W G mb)):JE X (.BinOp a op b pos) (tE W G (bin f ma mb)) :=
 .of (zT (zna ho ha.to hb.to) fun σ H Q ⟨F,ρ,env,h,er,hr,w⟩=>⟨F,ρ,env,h,er,hr,zC w fun x h1 ρ1 H1 y e1 er1 hr1 r1 w1=>⟨F,ρ1,env,h1,er1,hr1,zC w1 fun x2 h2 ρ2 H2 y2 e2 er2 hr2 r2 w2 =>
   hf F ρ2 h2 H2 env σ x x2 y y2 Q er2 hr2 (RD.ext e2 _ _ r1) r2 w2⟩⟩)
theorem zbM {op:CmpOp}{r:R2}{f:D->D->ME D} (ho:OpR X (compareOp op) r∧OpM W G f r) (ha:JE X a (tE W G ma)) (hb:JE X b (tE W G mb)) (hm:behindInMarks op b=false):JE X (.Compare a [op] [b] pos) (tE W G (bin f ma mb)) :=
 .of (zT (zs0 ho.1 ha.to hb.to hm) fun σ H Q ⟨F,ρ,env,h,er,hr,w⟩=>⟨F,ρ,env,h,er,hr,zC w fun x h1 ρ1 H1 y e1 er1 hr1 r1 w1=>⟨F,ρ1,env,h1,er1,hr1,zC w1 fun x2 h2 ρ2 H2 y2 e2 er2 hr2 r2 w2 =>
   ho.2 F ρ2 h2 H2 env σ x x2 y y2 Q er2 hr2 (RD.ext e2 _ _ r1) r2 w2⟩⟩)
theorem znP {m:ME D}{Q:Bool->Hp->Prop} (w:wp F W G rB env σ ρ H (tst m env h) Q):wp F W G rV env σ ρ H (m env h) (fun v H1=>∃ k,v = .bl k∧Q k H1) :=
 zC w fun d h1 ρ1 H1 y e1 er1 hr1 r1 w1=>by
   cases d with
   | bl k =>
     have r1:RD ρ1 H1 (.bl k) y:=r1
     unfold RD at r1
     exact ⟨k,r1,wp.done (h:=h1) w1 er1 hr1 rfl⟩
   | _=>exact w1.elim
theorem zbi {op:CmpOp}{r:R2}{f:D->D->ME D} (ho:OpR X (compareOp op) r∧OpM W G f r) (ha:JE X a (tE W G ma)) (hb:JE X b (tE W G mb)) (hm:behindInMarks op b=false):JT X (.Compare a [op] [b] pos) (tT W G (tst (bin f ma mb))) :=
 .of (ziu (zuQ ho.1 ha.to hb.to hm) fun σ H Q ⟨F,ρ,env,h,er,hr,w⟩=>⟨F,ρ,env,h,er,hr,zC (znP (m:=bin f ma mb) w) fun x h1 ρ1 H1 y e1 er1 hr1 r1 w1=>⟨F,ρ1,env,h1,er1,hr1,zC w1 fun x2 h2 ρ2 H2 y2 e2 er2 hr2 r2 w2 =>
   ho.2 F ρ2 h2 H2 env σ x x2 y y2 _ er2 hr2 (RD.ext e2 _ _ r1) r2 w2⟩⟩)
theorem zld {r r':R2}{f g:D->D->ME D}{Q:VK} (hf:OpM W G f r) (hg:OpM W G g r') (w:tE W G (zdA f g ma mb mc) σ H Q):zj2 r r' (tE W G ma) (tE W G mb) (tE W G mc) σ H Q:=by
 obtain ⟨F,ρ,env,h,er,hr,w⟩:=w
 refine ⟨F,ρ,env,h,er,hr,zC w fun x h1 ρ1 H1 y e1 er1 hr1 r1 w1=>⟨F,ρ1,env,h1,er1,hr1,zC w1 fun x2 h2 ρ2 H2 y2 e2 er2 hr2 r2 w2=>?_⟩⟩
 refine hf F ρ2 h2 H2 env σ x x2 y y2 _ er2 hr2 (RD.ext e2 _ _ r1) r2 ?_
 refine zC (Rl:=rV) w2 fun d h3 ρ3 H3 z e3 er3 hr3 r3 w3=>?_
 cases d with
 | bl k =>
   have r3:RD ρ3 H3 (.bl k) z:=r3
   unfold RD at r3
   refine ⟨k,r3,?_⟩
   cases k with
   | true =>
     rw [if_pos rfl]
     exact ⟨F,ρ3,env,h3,er3,hr3,zC w3 fun x4 h4 ρ4 H4 y4 e4 er4 hr4 r4 w4=>hg F ρ4 h4 H4 env σ x2 x4 y2 y4 Q er4 hr4 (RD.ext (e3.trans e4) _ _ r2) r4 w4⟩
   | false =>
     rw [if_neg ϑ]
     exact wp.done (h:=h3) w3 er3 hr3 (by unfold RD;rfl)
 | _=>exact w3.elim
theorem zlQ {op op':CmpOp}{r r':R2}{f g:D->D->ME D} (ho:OpR X (compareOp op) r∧OpM W G f r) (ho':OpR X (compareOp op') r'∧OpM W G g r') (ha:JE X a (tE W G ma)) (hb:JE X b (tE W G mb)) (hc:JE X c (tE W G mc))
   (hm:lastMarks [op,op'] [b,c]=false:=by with_unfolding_all rfl):JE X (.Compare a [op,op'] [b,c] pos) (tE W G (zdA f g ma mb mc)) :=
 .of (zT (zve ho.1 ho'.1 ha.to hb.to hc.to hm) fun σ H Q w=>zld ho.2 ho'.2 w)
theorem zsN {op op':CmpOp}{r r':R2}{f g:D->D->ME D} (ho:OpR X (compareOp op) r∧OpM W G f r) (ho':OpR X (compareOp op') r'∧OpM W G g r') (ha:JE X a (tE W G ma)) (hb:JE X b (tE W G mb)) (hc:JE X c (tE W G mc))
   (hm:lastMarks [op,op'] [b,c]=false:=by with_unfolding_all rfl):JT X (.Compare a [op,op'] [b,c] pos) (tT W G (tst (zdA f g ma mb mc))) :=
 .of (ziu (zvM ho.1 ho'.1 ha.to hb.to hc.to hm) fun σ H Q ⟨F,ρ,env,h,er,hr,w⟩=>zld ho.2 ho'.2 ⟨F,ρ,env,h,er,hr,znP (m:=zdA f g ma mb mc) w⟩)
theorem zr6 {op:UnaryOp}{r:V->Hp->VK->Prop}{f:D->ME D} (ho:UnR X (unaryOp op) r)
   (hf:∀ (F:Addr->Prop) (ρ:List Addr) (h:MH) (H:Hp) (env:zr) (σ:L2.St) (x:D) (v:V) (Q:VK),zV ρ H env σ->HR F G ρ h H->RD ρ H x v->wp F W G rV env σ ρ H (f x env h) Q->r v H Q) (ha:JE X a (tE W G ma)):JE X (.UnaryOp op a pos) (tE W G (un f ma)) :=
 .of (zT (zmW ho ha.to) fun σ H Q ⟨F,ρ,env,h,er,hr,w⟩=>⟨F,ρ,env,h,er,hr,zC w fun x h1 ρ1 H1 y e1 er1 hr1 r1 w1=>hf F ρ1 h1 H1 env σ x y Q er1 hr1 r1 w1⟩)
theorem zdz (ha:JE X a (tE W G ma)):JE X (.UnaryOp .USub a pos) (tE W G (un zce ma)):=zr6 zlH (fun F ρ h H env σ x v Q er hr r w=>by
 cases x with
 | int i=>unfold RD at r;exact ⟨i,r,wp.done (h:=h) w er hr (by unfold RD;rfl)⟩
 | _=>exact w.elim) ha
theorem zjA {f:D->D->ME D}{C:Int->Int->Prop}{g:Int->Int->V}{k:Int->Int->D} (hk:∀ i j ρ H,RD ρ H (k i j) (g i j)) (hf:∀ x y env h,(∃ i j,x = .int i∧y = .int j∧((C i j∧f x y env h = .ok (k i j) h)∨f x y env h = .bad))∨f x y env h = .bad):OpM W G f (rI C g):=by
 intro F ρ h H env σ x y v u Q er hr r1 r2 w
 rcases hf x y env h with ⟨i,j,rfl,rfl,⟨hc,e⟩ | e⟩ | e
 . rw [e]at w
   unfold RD at r1 r2
   exact ⟨i,j,r1,r2,hc,w.done er hr (hk i j ρ H)⟩
 . rw [e]at w;exact w.elim
 . rw [e]at w;exact w.elim
theorem zku {f:D->D->ME D}{g:Int->Int->V}{k:Int->Int->D} (hk:∀ i j ρ H,RD ρ H (k i j) (g i j)) (hf:∀ x y env h,(∃ i j,x = .int i∧y = .int j∧f x y env h = .ok (k i j) h)∨f x y env h = .bad):OpM W G f (rI0 g):=by
 intro F ρ h H env σ x y v u Q er hr r1 r2 w
 rcases hf x y env h with ⟨i,j,rfl,rfl,e⟩ | e
 . rw [e]at w
   unfold RD at r1 r2
   exact ⟨i,j,r1,r2,w.done er hr (hk i j ρ H)⟩
 . rw [e]at w;exact w.elim
theorem zli:OpM W G zI (rI0 fun i j=> .int (i+j)):=zku (k:=fun i j=> .int (i+j)) (fun _ _ _ _=>by unfold RD;rfl) fun x y env h=>by cases x <;> cases y <;> first | exact .inr rfl | exact .inl ⟨_,_,rfl,rfl,rfl⟩
theorem zwa:OpM W G z6 (rI0 fun i j=> .int (i - j)):=zku (k:=fun i j=> .int (i - j)) (fun _ _ _ _=>by unfold RD;rfl) fun x y env h=>by cases x <;> cases y <;> first | exact .inr rfl | exact .inl ⟨_,_,rfl,rfl,rfl⟩
theorem zsz:OpM W G zbD (rI zhj fun i j=> .int (i * j)):=zjA (k:=fun i j=> .int (i * j)) (fun _ _ _ _=>by unfold RD;rfl) fun x y env h=>by
 cases x <;> cases y <;> first | exact .inr rfl | skip
 rename_i i j
 refine .inl ⟨i,j,rfl,rfl,?_⟩
 show (_∧(if (zb8 i || zb8 j)=true then zb (.int (i * j)) else zG:ME D) env h=_)∨(if (zb8 i || zb8 j)=true then zb (.int (i * j)) else zG:ME D) env h=_
 by_cases e:(zb8 i || zb8 j)=true
 . left
   rw [if_pos e]
   refine ⟨?_,rfl⟩
   unfold zhj
   simp only [zb8,Bool.or_eq_true,Bool.and_eq_true,decide_eq_true_eq]at e
   exact e
 . right;rw [if_neg e];rfl
theorem zqW:OpM W G zcV (rI zmZ fun i j=> .int (i / j)):=zjA (k:=fun i j=> .int (i / j)) (fun _ _ _ _=>by unfold RD;rfl) fun x y env h=>by
 cases x <;> cases y <;> first | exact .inr rfl | skip
 rename_i i j
 refine .inl ⟨i,j,rfl,rfl,?_⟩
 show (_∧(if 0 < j∧j < 1073741824 then zb (.int (i / j)) else zG:ME D) env h=_)∨(if 0 < j∧j < 1073741824 then zb (.int (i / j)) else zG:ME D) env h=_
 by_cases e:0 < j∧j < 1073741824
 . left;rw [if_pos e];exact ⟨e,rfl⟩
 . right;rw [if_neg e];rfl
theorem zuW:OpM W G zbl (rI (fun _ j=>0 < j) fun i j=> .int (i % j)):=zjA (k:=fun i j=> .int (i % j)) (fun _ _ _ _=>by unfold RD;rfl) fun x y env h=>by
 cases x <;> cases y <;> first | exact .inr rfl | skip
 rename_i i j
 refine .inl ⟨i,j,rfl,rfl,?_⟩
 show (_∧(if 0 < j then zb (.int (i % j)) else zG:ME D) env h=_)∨(if 0 < j then zb (.int (i % j)) else zG:ME D) env h=_
 by_cases e:0 < j
 . left;rw [if_pos e];exact ⟨e,rfl⟩
 . right;rw [if_neg e];rfl
theorem zjv (p:Int->Int->Bool):OpM W G (zg9 p) (rI0 fun i j=> .bl (p i j)):=zku (k:=fun i j=> .bl (p i j)) (fun _ _ _ _=>by unfold RD;rfl) fun x y env h=>by cases x <;> cases y <;> first | exact .inr rfl | exact .inl ⟨_,_,rfl,rfl,rfl⟩
theorem zcL (ha:JE X a (tE W G ma)) (hb:JE X b (tE W G mb)):JE X (.BinOp a .Add b pos) (tE W G (bin zI ma mb)):=zhF zuk zli ha hb
theorem zdv (ha:JE X a (tE W G ma)) (hb:JE X b (tE W G mb)):JE X (.BinOp a .Sub b pos) (tE W G (bin z6 ma mb)):=zhF zsd zwa ha hb
theorem zgG (ha:JE X a (tE W G ma)) (hb:JE X b (tE W G mb)):JE X (.BinOp a .Mult b pos) (tE W G (bin zbD ma mb)):=zhF zwq zsz ha hb
theorem zii (ha:JE X a (tE W G ma)) (hb:JE X b (tE W G mb)):JE X (.BinOp a .FloorDiv b pos) (tE W G (bin zcV ma mb)):=zhF zwx zqW ha hb
theorem zec (ha:JE X a (tE W G ma)) (hb:JE X b (tE W G mb)):JE X (.BinOp a .Mod b pos) (tE W G (bin zbl ma mb)):=zhF zuO zuW ha hb
end
end MI
end
section
namespace MI
open PySem PySem.Spec L2
mutual
noncomputable def cv:D->L2.D
 | .non=> .non
 | .bl b=> .bl b
 | .int i=> .int i
 | .str x=> .str x
 | .tup ds=> .tup (cvs ds)
 | .obj _=> .non
noncomputable def cvs:List D->List L2.D
 | []=>[]
 | d :: r=>cv d :: cvs r
end
noncomputable def cvC:Cmp->L2.D
 | .d x=>cv x
 | .l xs=> .lst (cvs xs)
theorem zlI {ρ:List Addr}{H:Hp}:∀ (n:Nat),(∀ (d:D) (v:V),d.pl n=true->RD ρ H d v->Dat H (cv d) v∧dpt (cv d)<=n)∧(∀ (ds:List D) (vs:List V),ds.all (D.pl n)=true->RDs ρ H ds vs->zbk H (cvs ds) vs∧zb2 (cvs ds)<=n):=by
 intro n
 induction n with
 | zero =>
   have one:∀ (d:D) (v:V),d.pl 0=true->RD ρ H d v->Dat H (cv d) v∧dpt (cv d)<=0:=fun d v p r=>by
     cases d <;> first
       | (simp [D.pl]at p;done)
       | (unfold RD at r;simp [cv,Dat,dpt,r])
   refine ⟨one,fun ds=>?_⟩
   induction ds with
   | nil=>intro vs _ r;unfold RDs at r;simp [cvs,zbk,zb2,r]
   | cons d ds ih =>
     intro vs p r
     rw [List.all_cons,Bool.and_eq_true]at p
     unfold RDs at r
     obtain ⟨x,q,rfl,r1,r2⟩:=r
     obtain ⟨h1,h2⟩:=one d x p.1 r1
     obtain ⟨h3,h4⟩:=ih q p.2 r2
     unfold cvs zbk zb2
     exact ⟨⟨x,q,rfl,h1,h3⟩,ω⟩
 | succ n ihn =>
   have one:∀ (d:D) (v:V),d.pl (n+1)=true->RD ρ H d v->Dat H (cv d) v∧dpt (cv d)<=n+1:=fun d v p r=>by
     cases d with
     | tup ds =>
       unfold D.pl at p
       unfold RD at r
       obtain ⟨a,vs,rfl,h1,h2⟩:=r
       obtain ⟨h3,h4⟩:=ihn.2 ds vs p h2
       unfold cv Dat dpt
       exact ⟨⟨a,vs,rfl,h1,h3⟩,ω⟩
     | obj m=>simp [D.pl]at p
     | _=>unfold RD at r;simp [cv,Dat,dpt,r]
   refine ⟨one,fun ds=>?_⟩
   induction ds with
   | nil=>intro vs _ r;unfold RDs at r;simp [cvs,zbk,zb2,r]
   | cons d ds ih =>
     intro vs p r
     rw [List.all_cons,Bool.and_eq_true]at p
     unfold RDs at r
     obtain ⟨x,q,rfl,r1,r2⟩:=r
     obtain ⟨h1,h2⟩:=one d x p.1 r1
     obtain ⟨h3,h4⟩:=ih q p.2 r2
     unfold cvs zbk zb2
     exact ⟨⟨x,q,rfl,h1,h3⟩,ω⟩
theorem zlV:∀ (n:Nat),(∀ (a b:D),a.pl n=true->b.pl n=true->eqD (cv a) (cv b)=peq a b)∧(∀ (a b:List D),a.all (D.pl n)=true->b.all (D.pl n)=true->zbT (cvs a) (cvs b)=zbC a b):=by
 intro n
 have many:(∀ (a b:D),a.pl n=true->b.pl n=true->eqD (cv a) (cv b)=peq a b)->(∀ (a b:List D),a.all (D.pl n)=true->b.all (D.pl n)=true->zbT (cvs a) (cvs b)=zbC a b):=by
   intro one a
   induction a with
   | nil=>intro b _ _;cases b <;> simp [cvs,zbT,zbC]
   | cons x a ih =>
     intro b p q
     cases b with
     | nil=>simp [cvs,zbT,zbC]
     | cons y b =>
       rw [List.all_cons,Bool.and_eq_true]at p q
       unfold cvs zbT zbC
       rw [one x y p.1 q.1,ih b p.2 q.2]
 induction n with
 | zero =>
   have one:∀ (a b:D),a.pl 0=true->b.pl 0=true->eqD (cv a) (cv b)=peq a b:=fun a b p q=>by
     cases a <;> first
       | (simp [D.pl]at p;done)
       | (cases b <;> first
         | (simp [D.pl]at q;done)
         | simp [cv,eqD,peq])
   exact ⟨one,many one⟩
 | succ n ihn =>
   have one:∀ (a b:D),a.pl (n+1)=true->b.pl (n+1)=true->eqD (cv a) (cv b)=peq a b:=fun a b p q=>by
     cases a with
     | tup as =>
       cases b with
       | tup bs =>
         unfold D.pl at p q
         unfold cv eqD peq
         refine (ihn ?_).2 as bs p q
         intro one a
         induction a with
         | nil=>intro b _ _;cases b <;> simp [cvs,zbT,zbC]
         | cons x a ih =>
           intro b p q
           cases b with
           | nil=>simp [cvs,zbT,zbC]
           | cons y b =>
             rw [List.all_cons,Bool.and_eq_true]at p q
             unfold cvs zbT zbC
             rw [one x y p.1 q.1,ih b p.2 q.2]
       | obj m=>simp [D.pl]at q
       | _=>simp [cv,eqD,peq]
     | obj m=>simp [D.pl]at p
     | _ =>
       cases b with
       | obj m=>simp [D.pl]at q
       | _=>simp [cv,eqD,peq]
   exact ⟨one,many one⟩
section
variable {W:Nat->Hp->Prop}{X:Cx}{F:Addr->Prop}{G:GP}{env:zr}{σ:L2.St}{ρ:List Addr}{H:Hp}{h:MH}{a b c:Expr}{ma mb mc:ME D}{pos:Pos}{Q:VK}{k:Nat}
theorem HR.lst (hr:HR F G ρ h H) {n:Nat}{v:V}{xs:List D} (r:RD ρ H (.obj n) v) (e:h[n]?=some (.lst xs)):∃ a vs,v = .ref a∧ρ[n]?=some a∧H a=some (.lst vs)∧RDs ρ H xs vs:=by
 unfold RD at r
 obtain ⟨a,rfl,ea⟩:=r
 obtain ⟨vs,h1,h2⟩:=hr.at e ea
 exact ⟨a,vs,rfl,ea,h1,h2⟩
theorem HR.scr (hr:HR F G ρ h H) {n:Nat}{v:V}{xs:List D} (r:RD ρ H (.obj n) v) (e:h[n]?=some (.scr xs)):∃ a vs,v = .ref a∧ρ[n]?=some a∧SqL G.K H a vs∧RDs ρ H xs vs:=by
 unfold RD at r
 obtain ⟨a,rfl,ea⟩:=r
 obtain ⟨vs,h1,h2⟩:=hr.at e ea
 refine ⟨a,vs,rfl,ea,?_,h2⟩
 rcases h1 with ⟨o,h1⟩ | h1
 . exact .inl (.inr ⟨o,h1⟩)
 . exact .inr h1
theorem HR.dic (hr:HR F G ρ h H) {n:Nat}{v:V}{xs:List (Int×D)} (r:RD ρ H (.obj n) v) (e:h[n]?=some (.dic xs)):∃ a vs,v = .ref a∧ρ[n]?=some a∧H a=some (.dK vs)∧KRs ρ H xs vs:=by
 unfold RD at r
 obtain ⟨a,rfl,ea⟩:=r
 obtain ⟨vs,h1,h2⟩:=hr.at e ea
 exact ⟨a,vs,rfl,ea,h1,h2⟩
theorem HR.ins (hr:HR F G ρ h H) {n c:Nat}{v:V}{xs:List (Nat×D)} (r:RD ρ H (.obj n) v) (e:h[n]?=some (.ins c xs)):∃ a C dx vs,v = .ref a∧ρ[n]?=some a∧G.cm[c]?=some C∧H a=some (.ins C dx vs)∧FRs G ρ H C xs vs:=by
 unfold RD at r
 obtain ⟨a,rfl,ea⟩:=r
 obtain ⟨C,dx,vs,h1,h2,h3⟩:=hr.at e ea
 exact ⟨a,C,dx,vs,rfl,ea,h1,h2,h3⟩
theorem znQ {x:D}{k:Cmp} (e:zbE h x=some k):(∃ n xs,x = .obj n∧h[n]?=some (.lst xs)∧xs.all (D.pl 5)=true∧k = .l xs)∨(x.pl 5=true∧k = .d x):=by
 have fin:∀ {y:D},(if y.pl 5=true then some (Cmp.d y) else none)=some k->y.pl 5=true∧k = .d y:=fun {y} e=>by
   by_cases p:y.pl 5=true
   . rw [if_pos p]at e;cases e;exact ⟨p,rfl⟩
   . rw [if_neg p]at e;cases e
 cases x with
 | obj n =>
   simp only [zbE]at e
   cases q:h[n]? with
   | none=>rw [q]at e;cases e
   | some o =>
     rw [q]at e
     cases o with
     | lst xs =>
       dsimp only at e
       by_cases p:xs.all (D.pl 5)=true
       . rw [if_pos p]at e;cases e;exact .inl ⟨n,xs,rfl,q,p,rfl⟩
       . rw [if_neg p]at e;cases e
     | _=>cases e
 | _=>exact .inr (fin e)
theorem ziK (hr:HR F G ρ h H) {x:D}{v:V}{k:Cmp} (r:RD ρ H x v) (e:zbE h x=some k):Dat H (cvC k) v∧dpt (cvC k)<=100:=by
 rcases znQ e with ⟨n,xs,rfl,q,p,rfl⟩ | ⟨p,rfl⟩
 . obtain ⟨a,vs,rfl,ea,h1,h2⟩:=hr.lst r q
   obtain ⟨h3,h4⟩:=(zlI 5).2 xs vs p h2
   unfold cvC Dat dpt
   exact ⟨⟨a,vs,rfl,.inl h1,h3⟩,ω⟩
 . obtain ⟨h1,h2⟩:=(zlI 5).1 _ v p r
   exact ⟨h1,Nat.le_trans h2 ϑ⟩
theorem zl9 {x:D}{k:Cmp} (e:zbE h x=some k):match k with
   | .d y=>y.pl 5=true
   | .l ys=>ys.all (D.pl 5)=true:=by
 rcases znQ e with ⟨n,xs,rfl,q,p,rfl⟩ | ⟨p,rfl⟩
 . exact p
 . exact p
theorem zlR (xs:List L2.D) (y:D):eqD (.lst xs) (cv y)=false∧eqD (cv y) (.lst xs)=false:=by
 cases y <;> simp [cv,eqD]
theorem zlX {x y:D}{k l:Cmp} (e:zbE h x=some k) (e':zbE h y=some l):eqD (cvC k) (cvC l)=k.eq l:=by
 have p:=zl9 e
 have q:=zl9 e'
 cases k with
 | d x =>
   cases l with
   | d y=>exact (zlV 5).1 x y p q
   | l ys=>exact (zlR _ _).2
 | l xs =>
   cases l with
   | d y=>exact (zlR _ _).1
   | l ys =>
     show eqD (.lst (cvs xs)) (.lst (cvs ys))=zbC xs ys
     unfold eqD
     exact (zlV 5).2 xs ys p q
theorem zwN:OpM W G eqV ziv:=fun F ρ h H env σ x y v u Q er hr r1 r2 w=>by
 unfold eqV at w
 cases e1:zbE h x with
 | none=>rw [e1]at w;exact w.elim
 | some k =>
   cases e2:zbE h y with
   | none=>rw [e1,e2]at w;exact w.elim
   | some l =>
     rw [e1,e2]at w
     obtain ⟨h1,h2⟩:=ziK hr r1 e1
     obtain ⟨h3,h4⟩:=ziK hr r2 e2
     exact ⟨_,_,h1,h3,h2,w.done er hr (by rw [zlX e1 e2];unfold RD;rfl)⟩
theorem zwA:OpM W G neV zil:=fun F ρ h H env σ x y v u Q er hr r1 r2 w=>by
 unfold neV at w
 cases e1:zbE h x with
 | none=>rw [e1]at w;exact w.elim
 | some k =>
   cases e2:zbE h y with
   | none=>rw [e1,e2]at w;exact w.elim
   | some l =>
     rw [e1,e2]at w
     obtain ⟨h1,h2⟩:=ziK hr r1 e1
     obtain ⟨h3,h4⟩:=ziK hr r2 e2
     exact ⟨_,_,h1,h3,h2,w.done er hr (by rw [zlX e1 e2];unfold RD;rfl)⟩
theorem zfI (hr:zL k X.A):OpR X (compareOp .Lt) (rI0 fun i j=> .bl (decide (i < j)))∧OpM W G ltV (rI0 fun i j=> .bl (decide (i < j))):=⟨zq9,zjv _⟩
theorem zih (hr:zL k X.A):OpR X (compareOp .LtE) (rI0 fun i j=> .bl (decide (i<=j)))∧OpM W G leV (rI0 fun i j=> .bl (decide (i<=j))):=⟨zs7,zjv _⟩
theorem zjT (hr:zL k X.A):OpR X (compareOp .Gt) (rI0 fun i j=> .bl (decide (j < i)))∧OpM W G gtV (rI0 fun i j=> .bl (decide (j < i))):=⟨zwk,zjv _⟩
theorem zcP (hr:zL k X.A):OpR X (compareOp .Eq) ziv∧OpM W G eqV ziv:=⟨zvz hr,zwN⟩
theorem zdi (hr:zL k X.A):OpR X (compareOp .NotEq) zil∧OpM W G neV zil:=⟨zub hr,zwA⟩
theorem zlu {d:D}{v:V} (r:RD ρ H d v) (f:zby d=true):zbK v=true:=by
 cases d <;> first | (simp [zby]at f;done) | (unfold RD at r;subst r;rfl)
theorem znu:∀ {ds:List D}{vs:List V},RDs ρ H ds vs->ds.all zby=true->vs.all zbK=true
 | [],vs,r,_=>by unfold RDs at r;subst r;rfl
 | d :: ds,vs,r,f=>by
   unfold RDs at r
   obtain ⟨x,q,rfl,r1,r2⟩:=r
   rw [List.all_cons,Bool.and_eq_true]at f
   rw [List.all_cons,zlu r1 f.1,znu r2 f.2];rfl
theorem zwv {d e:D}{v u:V} (r:RD ρ H d v) (r':RD ρ H e u) (f:zby d=true) (f':zby e=true):L2.eqV v u=peq d e:=by
 cases d <;> first
   | (simp [zby]at f;done)
   | (cases e <;> first
     | (simp [zby]at f';done)
     | (unfold RD at r r';subst r r';simp [L2.eqV,peq]))
theorem znG {d:D}{v:V} (r:RD ρ H d v) (f:zby d=true):∀ {ds:List D}{vs:List V},RDs ρ H ds vs->ds.all zby=true->L2.inV v vs=inB d ds
 | [],vs,r',_=>by unfold RDs at r';subst r';rfl
 | e :: ds,vs,r',f'=>by
   unfold RDs at r'
   obtain ⟨x,q,rfl,r1,r2⟩:=r'
   rw [List.all_cons,Bool.and_eq_true]at f'
   have ih:=znG r f r2 f'.2
   unfold L2.inV inB at ih ⊢
   rw [List.any_cons,List.any_cons,ih,zwv r1 r f'.1 f]
theorem zjS:∀ {kvs:List (Int×D)}{vs:List (Key×V)}{k:Int},KRs ρ H kvs vs->match look k kvs with
   | some d=>∃ v,zcZ vs (Sum.inl k)=some v∧RD ρ H d v
   | none=>zcZ vs (Sum.inl k)=none
 | [],vs,k,r=>by unfold KRs at r;subst r;rfl
 | p :: kvs,vs,k,r=>by
   unfold KRs at r
   obtain ⟨v,q,rfl,r1,r2⟩:=r
   unfold look
   by_cases e:p.1=k
   . rw [if_pos e]
     exact ⟨v,ziZ (by rw [e]),r1⟩
   . rw [if_neg e,ziR (fun z=>e (Sum.inl.inj z))]
     exact zjS r2
noncomputable def zeo (neg:Bool):R2:=fun x y H Q=>∃ a o,y = .ref a∧zdQ H a x o∧Q (.bl (if neg then !o.isSome else o.isSome)) H
theorem zwJ (hr:zL k X.A):OpR X (compareOp .In) (zeo false):=fun pins s σ H x y v u Q I rx ry ⟨a,o,e,g,q⟩=>by
 subst e;cases ry
 exact zts (zit hr) I g rx fun s' I'=>⟨.bl o.isSome,H,I',rfl,q⟩
theorem ztu (hr:zL k X.A):OpR X (compareOp .NotIn) (zeo true):=fun pins s σ H x y v u Q I rx ry ⟨a,o,e,g,q⟩=>by
 subst e;cases ry
 exact zvm (zit hr) I g rx fun s' I'=>⟨.bl (!o.isSome),H,I',rfl,q⟩
theorem zmI {x y:D}:(∃ b,inV x y env h = .ok (.bl b) h)∨inV x y env h = .bad:=by
 cases y with
 | tup ds =>
   simp only [inV]
   split
   . exact .inl ⟨_,rfl⟩
   . exact .inr rfl
 | obj n =>
   simp only [inV]
   cases q:h[n]? with
   | none=>exact .inr rfl
   | some o =>
     cases o with
     | lst xs =>
       dsimp only
       split
       . exact .inl ⟨_,rfl⟩
       . exact .inr rfl
     | scr xs =>
       dsimp only
       split
       . exact .inl ⟨_,rfl⟩
       . exact .inr rfl
     | dic kvs=>cases x <;> first | exact .inl ⟨_,rfl⟩ | exact .inr rfl
     | _=>exact .inr rfl
 | _=>exact .inr rfl
theorem zmU {x y:D}{v u:V}{neg b:Bool}{Q:VK} (hK:X.K=G.K) (hr:HR F G ρ h H) (r1:RD ρ H x v) (r2:RD ρ H y u) (w:inV x y env h = .ok (.bl b) h) (q0:Q (.bl (if neg then !b else b)) H) :
   rIn X.K neg v u H Q∨zeo neg v u H Q:=by
 have seq:∀ {p:Addr} {vs:List V} {ds:List D},u = .ref p->(SqL X.K H p vs∨SqT X.K H p vs)->RDs ρ H ds vs->(if (zby x && ds.all zby)=true then R.ok (.bl (inB x ds)) h else .bad:R D) = .ok (.bl b) h->rIn X.K neg v u H Q:=fun {p vs ds} e sq rs w=>by
   by_cases f:(zby x && ds.all zby)=true
   . rw [if_pos f]at w
     cases w
     rw [Bool.and_eq_true]at f
     refine ⟨p,vs,e,sq,zlu r1 f.1,znu rs f.2,?_⟩
     rw [znG r1 f.1 rs f.2]
     exact q0
   . rw [if_neg f]at w;cases w
 cases y with
 | tup ds =>
   simp only [inV]at w
   unfold RD at r2
   obtain ⟨p,vs,e,hp,rs⟩:=r2
   exact .inl (seq e (.inr (.inl (.inl hp))) rs w)
 | obj n =>
   simp only [inV]at w
   cases q:h[n]? with
   | none=>rw [q]at w;cases w
   | some o =>
     rw [q]at w
     cases o with
     | lst xs =>
       obtain ⟨a,vs,e,ea,h1,h2⟩:=hr.lst r2 q
       exact .inl (seq e (.inl (SqL.of h1)) h2 w)
     | scr xs =>
       obtain ⟨a,vs,e,ea,h1,h2⟩:=hr.scr r2 q
       exact .inl (seq e (.inl (by rw [hK];exact h1)) h2 w)
     | dic kvs =>
       obtain ⟨a,vs,e,ea,h1,h2⟩:=hr.dic r2 q
       cases x with
       | int i =>
         dsimp only at w
         unfold RD at r1
         subst r1
         refine .inr ⟨a,zcZ vs (Sum.inl i),e,zdQ.k (k:=Sum.inl i) h1,?_⟩
         have lv:=zjS (k:=i) h2
         cases el:look i kvs with
         | none=>rw [el]at lv w;cases w;rw [lv];exact q0
         | some d =>
           rw [el]at lv w
           obtain ⟨v',e',_⟩:=lv
           cases w
           rw [e'];exact q0
       | _=>cases w
     | _=>cases w
 | _=>cases w
noncomputable def ROr (r r':R2):R2:=fun x y H Q=>r x y H Q∨r' x y H Q
theorem zuM (hK:X.K=G.K):OpM W G inV (ROr (rIn X.K false) (zeo false)):=fun F ρ h H env σ x y v u Q er hr r1 r2 w=>by
 rcases zmI (x:=x) (y:=y) (env:=env) (h:=h) with ⟨b,e⟩ | e
 . rw [e]at w
   exact zmU (neg:=false) hK hr r1 r2 e (w.done er hr (by unfold RD;rfl))
 . rw [e]at w;exact w.elim
theorem zu2 (hK:X.K=G.K):OpM W G zbL (ROr (rIn X.K true) (zeo true)):=fun F ρ h H env σ x y v u Q er hr r1 r2 w=>by
 unfold zbL zl at w
 rcases zmI (x:=x) (y:=y) (env:=env) (h:=h) with ⟨b,e⟩ | e
 . rw [e]at w
   exact zmU (neg:=true) hK hr r1 r2 e (wp.done (h:=h) w er hr (by unfold RD;rfl))
 . rw [e]at w;exact w.elim
theorem zeU (hr:zL k X.A) (hK:X.K=G.K:=by rfl):OpR X (compareOp .In) (ROr (rIn X.K false) (zeo false))∧OpM W G inV (ROr (rIn X.K false) (zeo false)):=⟨zwm.or (zwJ hr),zuM hK⟩
theorem ziV (hr:zL k X.A) (hK:X.K=G.K:=by rfl):OpR X (compareOp .NotIn) (ROr (rIn X.K true) (zeo true))∧OpM W G zbL (ROr (rIn X.K true) (zeo true)):=⟨zsX.or (ztu hr),zu2 hK⟩
theorem RD.non_iff {d:D}{v:V} (r:RD ρ H d v):(v = .non)↔(d = .non):=by
 cases d <;> unfold RD at r <;> first
   | (subst r;simp;done)
   | (obtain ⟨a,vs,rfl,_⟩:=r;simp;done)
   | (obtain ⟨a,rfl,_⟩:=r;simp;done)
noncomputable def rIs (neg:Bool):R2:=ROr (fun x y H Q=>y = .non∧Q (.bl (if neg then !decide (x = .non) else decide (x = .non))) H) (fun x y H Q=>∃ b c,x = .bl b∧y = .bl c∧Q (.bl (if neg then !(b == c) else (b == c))) H)
theorem zvl:OpM W G isN (rIs false):=fun F ρ h H env σ x y v u Q er hr r1 r2 w=>by
 cases y with
 | non =>
   unfold RD at r2
   refine .inl ⟨r2,?_⟩
   have e:decide (v = .non)=decide (x = .non):=decide_eq_decide.mpr r1.non_iff
   have w':wp F W G rV env σ ρ H (.ok (.bl (decide (x = .non))) h) Q:=by cases x <;> exact w
   exact w'.done er hr (by rw [e];unfold RD;rfl)
 | bl c =>
   cases x with
   | bl b=>unfold RD at r1 r2;exact .inr ⟨b,c,r1,r2,wp.done (h:=h) w er hr (by unfold RD;rfl)⟩
   | _=>exact w.elim
 | _=>cases x <;> exact w.elim
theorem zr1:OpM W G zdP (rIs true):=fun F ρ h H env σ x y v u Q er hr r1 r2 w=>by
 cases y with
 | non =>
   unfold RD at r2
   refine .inl ⟨r2,?_⟩
   have e:decide (v = .non)=decide (x = .non):=decide_eq_decide.mpr r1.non_iff
   have w':wp F W G rV env σ ρ H (.ok (.bl (!decide (x = .non))) h) Q:=by cases x <;> exact w
   exact w'.done er hr (by rw [e];unfold RD;rfl)
 | bl c =>
   cases x with
   | bl b=>unfold RD at r1 r2;exact .inr ⟨b,c,r1,r2,wp.done (h:=h) w er hr (by unfold RD;rfl)⟩
   | _=>exact w.elim
 | _=>cases x <;> exact w.elim
theorem zj6 (hr:zL k X.A):OpR X (compareOp .Is) (rIs false)∧OpM W G isN (rIs false):=⟨ztF.or zuL,zvl⟩
theorem zkw (hr:zL k X.A):OpR X (compareOp .IsNot) (rIs true)∧OpM W G zdP (rIs true):=⟨zsn.or zqT,zr1⟩
theorem ziD (ha:JE X a (tE W G ma)):JE X (.UnaryOp .Not a pos) (tE W G (un ze1 ma)) :=
 .of (zT (ztW ha.to) fun σ H Q ⟨F,ρ,env,h,er,hr,w⟩=>⟨F,ρ,env,h,er,hr,zC w fun x h1 ρ1 H1 y e1 er1 hr1 r1 w1=>by
   cases x with
   | bl b=>have r1:RD ρ1 H1 (.bl b) y:=r1;unfold RD at r1;exact ⟨b,r1,wp.done (h:=h1) w1 er1 hr1 (by unfold RD;rfl)⟩
   | _=>exact w1.elim⟩)
variable {rest:List Expr}
theorem zdd {op} (ha:JE X a (tE W G ma)):JE X (.BoolOp op [a] pos) (tE W G ma) := .of (zrk ha.to)
theorem zcJ (ha:JE X a (tE W G ma)) (hb:JE X (.BoolOp .And (b :: rest) pos) (tE W G mb)):JE X (.BoolOp .And (a :: b :: rest) pos) (tE W G (zcl ma mb)) :=
 .of (zT (zsL ha.to hb.to) fun σ H Q ⟨F,ρ,env,h,er,hr,w⟩=>⟨F,ρ,env,h,er,hr,zC w fun x h1 ρ1 H1 y e1 er1 hr1 r1 w1=>by
   cases x with
   | bl b =>
     have r1:RD ρ1 H1 (.bl b) y:=r1
     unfold RD at r1
     refine ⟨b,r1,?_⟩
     cases b with
     | true=>rw [if_pos rfl];exact ⟨F,ρ1,env,h1,er1,hr1,w1⟩
     | false=>rw [if_neg ϑ];exact wp.done (h:=h1) w1 er1 hr1 (by unfold RD;rfl)
   | _=>exact w1.elim⟩)
theorem zwD (ha:JE X a (tE W G ma)) (hb:JE X (.BoolOp .Or (b :: rest) pos) (tE W G mb)):JE X (.BoolOp .Or (a :: b :: rest) pos) (tE W G (orV ma mb)) :=
 .of (zT (zuY ha.to hb.to) fun σ H Q ⟨F,ρ,env,h,er,hr,w⟩=>⟨F,ρ,env,h,er,hr,zC w fun x h1 ρ1 H1 y e1 er1 hr1 r1 w1=>by
   cases x with
   | bl b =>
     have r1:RD ρ1 H1 (.bl b) y:=r1
     unfold RD at r1
     refine ⟨b,r1,?_⟩
     cases b with
     | false=>rw [if_neg ϑ];exact ⟨F,ρ1,env,h1,er1,hr1,w1⟩
     | true=>rw [if_pos rfl];exact wp.done (h:=h1) w1 er1 hr1 (by unfold RD;rfl)
   | _=>exact w1.elim⟩)
variable {ta tb:ME Bool}
theorem zhk (hc:JT X c (tT W G ta)) (ha:JE X a (tE W G ma)) (hb:JE X b (tE W G mb)):JE X (.IfExp c a b pos) (tE W G (ifE ta ma mb)) :=
 .of (zT (zvw hc.to ha.to hb.to) fun σ H Q ⟨F,ρ,env,h,er,hr,w⟩=>⟨F,ρ,env,h,er,hr,zC w fun x h1 ρ1 H1 y e1 er1 hr1 r1 w1=>by
   obtain rfl:x=y:=r1
   cases x with
   | true=>rw [if_pos rfl]at w1 ⊢;exact ⟨F,ρ1,env,h1,er1,hr1,w1⟩
   | false=>rw [if_neg ϑ]at w1 ⊢;exact ⟨F,ρ1,env,h1,er1,hr1,w1⟩⟩)
theorem zbw (ha:JT X a (tT W G ta)):JT X (.UnaryOp .Not a pos) (tT W G (zS ta)) :=
 .of (ziu (zu7 ha.to) fun σ H Q ⟨F,ρ,env,h,er,hr,w⟩=>⟨F,ρ,env,h,er,hr,zC w fun x h1 ρ1 H1 y e1 er1 hr1 r1 w1=>by
   obtain rfl:x=y:=r1
   exact wp.done (h:=h1) w1 er1 hr1 rfl⟩)
theorem zkq (ha:JT X a (tT W G ta)):JW X (.BoolOp .And [a] pos) (tT W G ta) := .of (zss ha.to)
theorem zc0 (ha:JT X a (tT W G ta)):JW X (.BoolOp .Or [a] pos) (tT W G ta) := .of (zwI ha.to)
theorem ziG (ha:JT X a (tT W G ta)) (hb:JW X (.BoolOp .And (b :: rest) pos) (tT W G tb)):JW X (.BoolOp .And (a :: b :: rest) pos) (tT W G (zbt ta tb)) :=
 .of (zl8 (zvQ ha.to hb.to) fun σ H Q ⟨F,ρ,env,h,er,hr,w⟩=>⟨F,ρ,env,h,er,hr,zC w fun x h1 ρ1 H1 y e1 er1 hr1 r1 w1=>by
   obtain rfl:x=y:=r1
   cases x with
   | true=>rw [if_pos rfl]at w1 ⊢;exact ⟨F,ρ1,env,h1,er1,hr1,w1⟩
   | false=>rw [if_neg ϑ]at w1 ⊢;exact wp.done (h:=h1) w1 er1 hr1 rfl⟩)
theorem zck (ha:JT X a (tT W G ta)) (hb:JW X (.BoolOp .Or (b :: rest) pos) (tT W G tb)):JW X (.BoolOp .Or (a :: b :: rest) pos) (tT W G (orT ta tb)) :=
 .of (zl8 (zso ha.to hb.to) fun σ H Q ⟨F,ρ,env,h,er,hr,w⟩=>⟨F,ρ,env,h,er,hr,zC w fun x h1 ρ1 H1 y e1 er1 hr1 r1 w1=>by
   obtain rfl:x=y:=r1
   cases x with
   | false=>rw [if_neg ϑ]at w1 ⊢;exact ⟨F,ρ1,env,h1,er1,hr1,w1⟩
   | true=>rw [if_pos rfl]at w1 ⊢;exact wp.done (h:=h1) w1 er1 hr1 rfl⟩)
theorem t_w (h:JW X a (tT W G ta)):JT X a (tT W G ta) := .of (PW.pt h.to)
theorem zba (ha:JE X a (tE W G ma)) (he:∀ whole,isTrue a X.env whole=(do let v <- whole;standAt a.pos;holding [v] (truthy v))) (hK:X.K=G.K:=by rfl):JT X a (tT W G (tru ma)) :=
 .of (ziu (zvI ha.to he) fun σ H Q ⟨F,ρ,env,h,er,hr,w⟩=>⟨F,ρ,env,h,er,hr,zC w fun x h1 ρ1 H1 y e1 er1 hr1 r1 w1=>by
   unfold zeS at w1
   have r1:RD ρ1 H1 x y:=r1
   cases x with
   | non=>unfold RD at r1;subst r1;exact ⟨false,rfl,wp.done (h:=h1) w1 er1 hr1 rfl⟩
   | bl b=>unfold RD at r1;subst r1;exact ⟨b,rfl,wp.done (h:=h1) w1 er1 hr1 rfl⟩
   | int i=>unfold RD at r1;subst r1;exact ⟨i != 0,rfl,wp.done (h:=h1) w1 er1 hr1 rfl⟩
   | tup ds =>
     unfold RD at r1
     obtain ⟨p,vs,rfl,hp,rs⟩:=r1
     refine ⟨!ds.isEmpty,.inr (.inl ⟨vs,.inl (.inl hp),?_⟩),wp.done (h:=h1) w1 er1 hr1 rfl⟩
     have:=rs.length
     cases ds <;> cases vs <;> first | rfl | simp at this
   | obj n =>
     dsimp only at w1
     cases q:h1[n]? with
     | none=>rw [q]at w1;exact w1.elim
     | some o =>
       rw [q]at w1
       cases o with
       | lst xs =>
         obtain ⟨p,vs,rfl,ea,hp,rs⟩:=hr1.lst r1 q
         refine ⟨!xs.isEmpty,.inl ⟨vs,SqL.of hp,?_⟩,wp.done (h:=h1) w1 er1 hr1 rfl⟩
         have:=rs.length
         cases xs <;> cases vs <;> first | rfl | simp at this
       | scr xs =>
         obtain ⟨p,vs,rfl,ea,hp,rs⟩:=hr1.scr r1 q
         refine ⟨!xs.isEmpty,.inl ⟨vs,by rw [hK];exact hp,?_⟩,wp.done (h:=h1) w1 er1 hr1 rfl⟩
         have:=rs.length
         cases xs <;> cases vs <;> first | rfl | simp at this
       | dic kvs =>
         obtain ⟨p,vs,rfl,ea,hp,rs⟩:=hr1.dic r1 q
         refine ⟨!kvs.isEmpty,.inr (.inr ⟨vs,hp,?_⟩),wp.done (h:=h1) w1 er1 hr1 rfl⟩
         cases kvs with
         | nil=>unfold KRs at rs;subst rs;rfl
         | cons p r=>unfold KRs at rs;obtain ⟨v,q,rfl,_⟩:=rs;rfl
       | _=>exact w1.elim
   | _=>exact w1.elim⟩)
end
end MI
end
section
namespace MI
open PySem PySem.Spec L2
section
variable {α β γ δ:Type}{W:Nat->Hp->Prop}{F:Addr->Prop}{G:GP}{Rl:RL α β}{Rl':RL γ δ}{env:zr}{σ:L2.St}{ρ:List Addr}{H:Hp}{h:MH}
theorem zlZ {r:R α}{Rl2:RL α δ}{Q:δ->Hp->Prop}{P:β->Hp->Prop} (w:wp F W G Rl2 env σ ρ H r Q)
   (f:∀ x h1 ρ1 H1 y,Ext F ρ ρ1 H H1->zV ρ1 H1 env σ->HR F G ρ1 h1 H1->Rl F ρ1 h1 H1 x y->wp F W G Rl2 env σ ρ1 H1 (.ok x h1) Q->P y H1):wp F W G Rl env σ ρ H r P:=by
 cases r with
 | ok v h1=>exact fun ρ1 H1 y ex er hr rl=>f v h1 ρ1 H1 y ex er hr rl (w.mono ex)
 | ex c h1=>exact w
 | bad=>exact w
end
section
variable {W:Nat->Hp->Prop}{X:Cx}{F:Addr->Prop}{G:GP}{env:zr}{σ:L2.St}{ρ:List Addr}{H:Hp}{h:MH}{a b c e:Expr}{es:List Expr}{ma mb mc:ME D}{ml ml':ME (List D)}{pos p p1 p2:Pos}{Q:VK}{k:Nat}
theorem zk:JA X [] (tA W G ze) := .of (zlU zcu fun σ H Q ⟨F,ρ,env,h,er,hr,w⟩=>wp.done (h:=h) w er hr RDs.nil)
theorem zd (ha:JE X e (tE W G ma)) (hr:JA X es (tA W G ml)) (hs:starEach (e :: es) X.env=(false,eval e X.env) :: starEach es X.env):JA X (e :: es) (tA W G (za ma ml)) :=
 .of (zlU (zcd ha.to hr.to hs) fun σ H Q ⟨F,ρ,env,h,er,hr,w⟩=>⟨F,ρ,env,h,er,hr,zC w fun x h1 ρ1 H1 y e1 er1 hr1 r1 w1=>⟨F,ρ1,env,h1,er1,hr1,zC w1 fun xs h2 ρ2 H2 ys e2 er2 hr2 r2 w2 =>
   wp.done (h:=h2) w2 er2 hr2 (RDs.cons (RD.ext e2 _ _ r1) r2)⟩⟩)
theorem ziN {n:Nat} (h:n<=1000000):n<=sizeLine:=by rw [sizeLine_eq];omega
theorem zbq {x1} (ha:JA X es (tA W G ml)):JE X (.Tuple es x1 pos) (tE W G (zJ ml)) :=
 .of (zT (ztQ ha.to) fun σ H Q ⟨F,ρ,env,h,er,hr,w⟩=>⟨F,ρ,env,h,er,hr,zC w fun xs h1 ρ1 H1 ys e1 er1 hr1 r1 w1=>by
   by_cases hl:xs.length<=1000
   . rw [if_pos hl]at w1
     have r1:RDs ρ1 H1 xs ys:=r1
     refine ⟨ziN (by rw [<- r1.length];omega),fun p hp=>?_⟩
     refine wp.made (h:=h1) w1 er1 hr1 hp ?_
     show RD ρ1 (upd H1 p (.tup ys)) (.tup xs) (.ref p)
     unfold RD
     exact ⟨p,ys,rfl,zb4,RDs.ext (zb1 hr1 hp) _ _ r1⟩
   . rw [if_neg hl]at w1;exact w1.elim⟩)
theorem zfl {p:Addr}{xs:List D}{vs:List V} (hr:HR F G ρ h H) (hp:H p=none) (r:RDs ρ H xs vs):rN G.K F ρ h (upd H p (.lst vs)) xs (.ref p):=⟨p,vs,rfl,zb4,hr.fresh hp,RDs.ext (zb1 hr hp) _ _ r⟩
theorem zc1 (ha:JA X es (tA W G ml)):JE X (.List es pos) (tN W G (zbA ml)) :=
 .of (zT (zuE ha.to) fun σ H Q ⟨F,ρ,env,h,er,hr,w⟩=>⟨F,ρ,env,h,er,hr,zC w fun xs h1 ρ1 H1 ys e1 er1 hr1 r1 w1=>by
   by_cases hl:xs.length<=1000
   . rw [if_pos hl]at w1
     have r1:RDs ρ1 H1 xs ys:=r1
     exact ⟨ziN (by rw [<- r1.length];omega),fun p hp=>wp.made (h:=h1) w1 er1 hr1 hp (zfl hr1 hp r1)⟩
   . rw [if_neg hl]at w1;exact w1.elim⟩)
theorem zls {a:Addr}{vs:List V}{xs:List D}{Q:VK} (w:wp F W G rV env σ ρ H (zgC (.lst xs) env h) Q) (er:zV ρ H env σ) (hr:HR F G ρ h H) (ha:H a=some (.lst vs)) (fr:zeZ F ρ h a) (r:RDs ρ H xs vs):Q (.ref a) H:=by
 have ex:Ext F ρ (ρ++[a]) H H:=⟨⟨[a],rfl⟩,fun _ _ z=>z,fun _ _=>rfl⟩
 refine w (ρ++[a]) H (.ref a) ex (er.ext ex) (hr.named fr ⟨vs,ha,RDs.snocρ _ _ r⟩) ?_
 show RD _ _ (.obj h.length) (.ref a)
 unfold RD
 exact ⟨a,rfl,by rw [<- hr.len];simp⟩
theorem zbo (ha:JE X e (tN W G ml)):JE X e (tE W G (zM ml)) :=
 .of (zT ha.to fun σ H Q ⟨F,ρ,env,h,er,hr,w⟩=>⟨F,ρ,env,h,er,hr,zC w fun xs h1 ρ1 H1 y e1 er1 hr1 ⟨a,vs,ey,ha,fr,r1⟩ w1=>by
   subst ey;exact zls w1 er1 hr1 ha fr r1⟩)
theorem zd2 (ha:JE X e (tN W G ml)):JE X e (tL W G ml) :=
 .of (zT ha.to fun σ H Q ⟨F,ρ,env,h,er,hr,w⟩=>⟨F,ρ,env,h,er,hr,zlZ w fun x h1 ρ1 H1 y e1 er1 hr1 ⟨a,vs,ey,ha,fr,r1⟩ w1=>by
   subst ey;exact w1.done er1 hr1 ⟨a,vs,rfl,ha,r1⟩⟩)
theorem zv0 {n:Nat}{y:V}{P:Prop}{β:Type}{Rl:RL (List D) β}{Q:β->Hp->Prop} (w:wp F W G Rl env σ ρ H (zbZ n env h) Q) (hr:HR F G ρ h H) (r:RD ρ H (.obj n) y)
   (f:∀ a vs xs,y = .ref a->ρ[n]?=some a->H a=some (.lst vs)->RDs ρ H xs vs->h[n]?=some (.lst xs)->wp F W G Rl env σ ρ H (.ok xs h) Q->P):P:=by
 simp only [zbZ]at w
 cases q:h[n]? with
 | none=>rw [q]at w;exact w.elim
 | some o =>
   rw [q]at w
   cases o with
   | lst xs=>obtain ⟨a,vs,ea,e1,h1,h2⟩:=hr.lst r q;exact f a vs xs ea e1 h1 h2 q w
   | _=>exact w.elim
theorem zlN {γ δ:Type}{Rl':RL γ δ}{n:Nat}{y:V}{P:Prop}{Q:δ->Hp->Prop}{kk:List D->ME γ} (w:wp F W G Rl' env σ ρ H (zl (zbZ n) kk env h) Q) (hr:HR F G ρ h H) (r:RD ρ H (.obj n) y)
   (f:∀ a vs xs,y = .ref a->ρ[n]?=some a->H a=some (.lst vs)->RDs ρ H xs vs->h[n]?=some (.lst xs)->wp F W G Rl' env σ ρ H (kk xs env h) Q->P):P:=by
 simp only [zl,zbZ]at w
 cases q:h[n]? with
 | none=>rw [q]at w;exact w.elim
 | some o =>
   rw [q]at w
   cases o with
   | lst xs=>obtain ⟨a,vs,ea,e1,h1,h2⟩:=hr.lst r q;exact f a vs xs ea e1 h1 h2 q w
   | _=>exact w.elim
theorem zfr (ha:JE X e (tE W G ma)):JE X e (tL W G (zdl ma)) :=
 .of (zT ha.to fun σ H Q ⟨F,ρ,env,h,er,hr,w⟩=>⟨F,ρ,env,h,er,hr,zC w fun x h1 ρ1 H1 y e1 er1 hr1 r1 w1=>by
   cases x with
   | obj n=>exact zv0 w1 hr1 r1 fun a vs xs ey _ ha rs _ w2=>by subst ey;exact w2.done er1 hr1 ⟨a,vs,rfl,ha,rs⟩
   | _=>exact w1.elim⟩)
theorem RDs.atI {xs:List D}{vs:List V}{i:Int}{d:D} (r:RDs ρ H xs vs) (e:MI.atI xs i=some d):∃ v,L2.atI vs i=some v∧RD ρ H d v:=by
 unfold MI.atI at e
 unfold L2.atI
 rw [Option.bind_eq_some_iff]at e
 obtain ⟨j,e1,e2⟩:=e
 obtain ⟨v,e3,e4⟩:=r.get e2
 exact ⟨v,by rw [<- r.length];show (MI.ixN xs.length i).bind _=_;rw [e1];exact e3,e4⟩
noncomputable def zwb:R2:=fun x y H Q=>∃ a v,x = .ref a∧zdQ H a y (some v)∧Q v H
theorem ztx (hr:zL k X.A):IxR X zwb:=by
 intro value slice pins s σ H x y v u Q I rx ry h hs
 obtain ⟨a,z,rfl,g,q⟩:=h
 cases rx
 have hT:=zsm I g
 unfold PyProof.Rows.subscriptTail
 refine wpAny_bind ?_
 rw [getitemInPython_of_ne hT.not_modules]
 refine wpAny_bind (wpAny_specialOf hT PySem.F.slot_dict_getitem.lookup ?_)
 have fin:wpAny (model X.prog X.w) X.A (subscripted slice false (.ref a) u) (fun r s₃=>wpAny (model X.prog X.w) X.A (letTemporaryGo value (.ref a) r >>= fun _=>pure r) (EP X pins σ Q) X.xe s₃) X.xe s:=by
   rw [hs]
   exact wpAny_operating (zvA (zit hr) I g ry fun w' s3 I3 rw'=>wpAny_bind (wpAny_letTemporaryGo (wpAny_pure ⟨z,H,I3,rw',q⟩)))
 first
   | exact wpAny_pure (wpAny_bind fin)
   | exact wpAny_bind (wpAny_pure (wpAny_bind fin))
   | exact wpAny_bind fin
theorem zB (rm:zL k X.A) (ha:JE X a (tE W G ma)) (hb:JE X b (tE W G mb)) (hs:znM b) (hK:X.K=G.K:=by rfl):JE X (.Subscript a b pos) (tE W G (bin zj ma mb)) :=
 .of (zT (ztO (zrg.or (zwl.or (ztx rm))) ha.to hb.to hs) fun σ H Q ⟨F,ρ,env,h,er,hr,w⟩=>⟨F,ρ,env,h,er,hr,zC w fun x h1 ρ1 H1 y e1 er1 hr1 r1 w1=>⟨F,ρ1,env,h1,er1,hr1,zC w1 fun x2 h2 ρ2 H2 y2 e2 er2 hr2 r2 w2=>by
   have r1:RD ρ2 H2 x y:=RD.ext e2 _ _ r1
   have r2:RD ρ2 H2 x2 y2:=r2
   cases x with
   | tup ds =>
     cases x2 with
     | int i =>
       simp only [zj]at w2
       unfold RD at r1 r2
       obtain ⟨p,vs,rfl,hp,rs⟩:=r1
       cases q:MI.atI ds i with
       | none=>rw [q]at w2;exact w2.elim
       | some d =>
         rw [q]at w2
         obtain ⟨v,e3,e4⟩:=rs.atI q
         exact .inr (.inl ⟨p,vs,i,v,rfl,r2,SqT.of hp,e3,w2.done er2 hr2 e4⟩)
     | _=>exact w2.elim
   | obj n =>
     cases x2 with
     | int i =>
       simp only [zj]at w2
       have r2':=r2
       unfold RD at r2'
       cases qo:h2[n]? with
       | none=>rw [qo]at w2;exact w2.elim
       | some o =>
         rw [qo]at w2
         cases o with
         | lst xs =>
           obtain ⟨p,vs,rfl,ea,hp,rs⟩:=hr2.lst r1 qo
           dsimp only at w2
           cases q:MI.atI xs i with
           | none=>rw [q]at w2;exact w2.elim
           | some d =>
             rw [q]at w2
             obtain ⟨v,e3,e4⟩:=rs.atI q
             exact .inl ⟨p,vs,i,v,rfl,r2',SqL.of hp,e3,w2.done er2 hr2 e4⟩
         | scr xs =>
           obtain ⟨p,vs,rfl,ea,hp,rs⟩:=hr2.scr r1 qo
           dsimp only at w2
           cases q:MI.atI xs i with
           | none=>rw [q]at w2;exact w2.elim
           | some d =>
             rw [q]at w2
             obtain ⟨v,e3,e4⟩:=rs.atI q
             exact .inl ⟨p,vs,i,v,rfl,r2',by rw [hK];exact hp,e3,w2.done er2 hr2 e4⟩
         | dic kvs =>
           obtain ⟨p,vs,rfl,ea,hp,rs⟩:=hr2.dic r1 qo
           dsimp only at w2
           have lv:=zjS (k:=i) rs
           cases q:look i kvs with
           | none=>rw [q]at w2;exact w2.elim
           | some d =>
             rw [q]at w2 lv
             obtain ⟨v,e3,e4⟩:=lv
             subst r2'
             exact .inr (.inr ⟨p,v,rfl,by rw [<- e3];exact zdQ.k (k:=Sum.inl i) hp,w2.done er2 hr2 e4⟩)
         | _=>exact w2.elim
     | _=>exact w2.elim
   | _=>cases x2 <;> exact w2.elim⟩⟩)
theorem zhb:JO X none (tO W G noP) := .of (zlp zmj fun σ H Q ⟨F,ρ,env,h,er,hr,w⟩=>wp.done (h:=h) w er hr rfl)
theorem zhA (ha:JE X a (tE W G ma)):JO X (some a) (tO W G (zcE ma)) :=
 .of (zlp (zju ha.to) fun σ H Q ⟨F,ρ,env,h,er,hr,w⟩=>⟨F,ρ,env,h,er,hr,zC w fun x h1 ρ1 H1 y e1 er1 hr1 r1 w1=>by
   cases x with
   | int i=>have r1:RD ρ1 H1 (.int i) y:=r1;unfold RD at r1;exact ⟨i,r1,wp.done (h:=h1) w1 er1 hr1 rfl⟩
   | _=>exact w1.elim⟩)
variable {lo hi:Option Expr}{ol oh:ME (Option Int)}
theorem zh6 (n d:Nat) (o:Option Int):MI.sIx n d o=HT.sIx n d o:=by
 cases o with
 | none=>rfl
 | some v =>
   show (if v < 0 then max (v+(n:Int)) 0 else min v (n:Int)).toNat=_
   rw [HT.clip_eq v n d]
   simp
theorem RDs.cutV {xs:List D}{vs:List V} (r:RDs ρ H xs vs) (l u:Option Int):RDs ρ H (MI.cut xs l u) (L2.cutV vs l u):=by
 unfold MI.cut L2.cutV
 rw [zh6,zh6,r.length]
 exact (r.drop _).take _
theorem zkI (ha:JE X a (tE W G ma)) (hl:JO X lo (tO W G ol)) (hh:JO X hi (tO W G oh)):JE X (.Subscript a (.Slice lo hi none p2) pos) (tN W G (zdX ma ol oh)) :=
 .of (zT (zmH zuT ha.to hl.to hh.to) fun σ H Q ⟨F,ρ,env,h,er,hr,w⟩=>⟨F,ρ,env,h,er,hr,zC w fun x h1 ρ1 H1 y e1 er1 hr1 r1 w1=>⟨F,ρ1,env,h1,er1,hr1,zC w1 fun l h2 ρ2 H2 l' e2 er2 hr2 r2 w2 =>
   ⟨F,ρ2,env,h2,er2,hr2,zC w2 fun u h3 ρ3 H3 u' e3 er3 hr3 r3 w3=>by
     have r1:RD ρ3 H3 x y:=RD.ext (e2.trans e3) _ _ r1
     obtain rfl:l=l':=r2
     obtain rfl:u=u':=r3
     cases x with
     | obj n =>
       exact zlN w3 hr3 r1 fun p vs xs ey _ hp rs eq w4=>⟨p,vs,ey,SqL.of hp,fun q hq=>wp.made (h:=h3) w4 er3 hr3 hq (zfl hr3 hq (rs.cutV l u))⟩
     | _=>exact w3.elim⟩⟩⟩)
theorem zk9 (ha:JE X a (tE W G ma)) (hl:JO X lo (tO W G ol)) (hh:JO X hi (tO W G oh)):JE X (.Subscript a (.Slice lo hi none p2) pos) (tE W G (zeb ma ol oh)) :=
 .of (zT (zmH zwH ha.to hl.to hh.to) fun σ H Q ⟨F,ρ,env,h,er,hr,w⟩=>⟨F,ρ,env,h,er,hr,zC w fun x h1 ρ1 H1 y e1 er1 hr1 r1 w1=>⟨F,ρ1,env,h1,er1,hr1,zC w1 fun l h2 ρ2 H2 l' e2 er2 hr2 r2 w2 =>
   ⟨F,ρ2,env,h2,er2,hr2,zC w2 fun u h3 ρ3 H3 u' e3 er3 hr3 r3 w3=>by
     have r1:RD ρ3 H3 x y:=RD.ext (e2.trans e3) _ _ r1
     obtain rfl:l=l':=r2
     obtain rfl:u=u':=r3
     cases x with
     | tup ds =>
       by_cases hc:(MI.cut ds l u).length < ds.length
       . dsimp only at w3
         rw [if_pos hc]at w3
         unfold RD at r1
         obtain ⟨p,vs,rfl,hp,rs⟩:=r1
         refine ⟨p,vs,rfl,SqT.of hp,fun z=>?_,fun q hq=>wp.made (h:=h3) w3 er3 hr3 hq ?_⟩
         . rw [<- rs.length,<- zh6,<- zh6]at z
           unfold MI.cut at hc
           rw [z.1,z.2]at hc
           simp at hc
         . show RD ρ3 _ (.tup (MI.cut ds l u)) _
           unfold RD
           exact ⟨q,_,rfl,zb4,RDs.ext (zb1 hr3 hq) _ _ (rs.cutV l u)⟩
       . dsimp only at w3
         rw [if_neg hc]at w3;exact w3.elim
     | _=>exact w3.elim⟩⟩⟩)
theorem zlL {p3 p4 p5:Pos}{k1 k2:Nat} (ha:JE X a (tE W G ma)):JE X (.Subscript a (.Slice (some (.Constant (.int 1) k1 p3)) none (some (.UnaryOp .USub (.Constant (.int 1) k2 p5) p4)) p2) pos) (tE W G (zen ma)) :=
 .of (zT (zrW ha.to (zju zj5) zmj (zju (zmW zlH zj5))) fun σ H Q ⟨F,ρ,env,h,er,hr,w⟩=>⟨F,ρ,env,h,er,hr,zC w fun x h1 ρ1 H1 y e1 er1 hr1 r1 w1=>by
   have r1:RD ρ1 H1 x y:=r1
   refine ⟨1,rfl,1,rfl,-1,rfl,rfl,rfl,rfl,?_⟩
   cases x with
   | tup ds =>
     unfold RD at r1
     obtain ⟨q,vs,rfl,hp,rs⟩:=r1
     match ds,w1 with
     | [d1,d2,d3],w1 =>
       unfold RDs at rs
       obtain ⟨v1,r',rfl,rd1,rs⟩:=rs
       unfold RDs at rs
       obtain ⟨v2,r',rfl,rd2,rs⟩:=rs
       unfold RDs at rs
       obtain ⟨v3,r',rfl,rd3,rs⟩:=rs
       unfold RDs at rs
       subst rs
       refine ⟨q,v1,v2,v3,rfl,hp,fun b hb=>wp.made (h:=h1) w1 er1 hr1 hb ?_⟩
       show RD ρ1 _ (.tup [d2,d1]) _
       unfold RD
       exact ⟨b,_,rfl,zb4,RDs.ext (zb1 hr1 hb) _ _ (RDs.cons rd2 (RDs.cons rd1 RDs.nil))⟩
     | [],w1=>exact w1.elim
     | [_],w1=>exact w1.elim
     | [_,_],w1=>exact w1.elim
     | _ :: _ :: _ :: _ :: _,w1=>exact w1.elim
   | _=>exact w1.elim⟩)
end
end MI
end
section
namespace MI
open PySem PySem.Spec L2
section
variable {W:Nat->Hp->Prop}{X:Cx}{F:Addr->Prop}{G:GP}{env:zr}{σ:L2.St}{ρ:List Addr}{H:Hp}{h:MH}{a b c e o:Expr}{es:List Expr}{ma mb mc:ME D}{ml ml':ME (List D)}{pos p p1 p2 apos:Pos}{Q:VK}{k:Nat}
theorem zkJ (ha:JE X a (tE W G ma)) (hb:JE X b (tL W G ml)):JE X (.BinOp a .Add b pos) (tN W G (zdS ma ml)) :=
 .of (zT (zna ztq ha.to hb.to) fun σ H Q ⟨F,ρ,env,h,er,hr,w⟩=>⟨F,ρ,env,h,er,hr,zC w fun x h1 ρ1 H1 y e1 er1 hr1 r1 w1=>⟨F,ρ1,env,h1,er1,hr1,zC w1 fun ys h2 ρ2 H2 y2 e2 er2 hr2 ⟨q,us,ey,hq,rs2⟩ w2=>by
   subst ey
   have r1:RD ρ2 H2 x y:=RD.ext e2 _ _ r1
   cases x with
   | obj n =>
     refine zlN w2 hr2 r1 fun p vs xs ey _ hp rs eq w3=>?_
     by_cases hl:xs.length+ys.length<=1000000
     . rw [if_pos hl]at w3
       exact ⟨p,q,vs,us,ey,rfl,hp,hq,ziN (by rw [<- rs.length,<- rs2.length];exact hl),fun d hd=>wp.made (h:=h2) w3 er2 hr2 hd (zfl hr2 hd (RDs.append rs2 rs))⟩
     . rw [if_neg hl]at w3;exact w3.elim
   | _=>exact w2.elim⟩⟩)
theorem zdp {α:Type}{Rl:RL α V}{m:ME α}{P:List V->Hp->Prop} (hw:tG W G Rl m σ H (fun y H1=>P [y] H1)):znq (tG W G Rl m) zkl σ H P:=hw
theorem zke (hg:Gl X "all") (hm:X.mg "all" = none) (ha:JE X e (tL W G ml)) (hs:starEach [e] X.env=(false,eval e X.env) :: starEach [] X.env) (hc:X.calm=true:=by rfl):JE X (.Call (.Name "all" p) [e] [] pos) (tE W G (zgp ml)) :=
 .of (zT (zdW (zu4 hc) hg hm ϰ (zcd ha.to zcu hs) (he:=hs)) fun σ H Q ⟨F,ρ,env,h,er,hr,w⟩=>zdp ⟨F,ρ,env,h,er,hr,zC w fun xs h1 ρ1 H1 y e1 er1 hr1 ⟨q,us,ey,hq,rs⟩ w1=>by
   subst ey
   cases eb:zca xs with
   | none=>rw [eb]at w1;exact w1.elim
   | some bs =>
     rw [eb]at w1
     have e2:=RDs.of_bools eb rs
     subst e2
     exact ⟨q,bs,rfl,SqL.of hq,wp.done (h:=h1) w1 er1 hr1 (by unfold RD;rfl)⟩⟩)
theorem zkA (hg:Gl X "any") (hm:X.mg "any" = none) (ha:JE X e (tL W G ml)) (hs:starEach [e] X.env=(false,eval e X.env) :: starEach [] X.env) (hc:X.calm=true:=by rfl):JE X (.Call (.Name "any" p) [e] [] pos) (tE W G (zeX ml)) :=
 .of (zT (zdW (zwP hc) hg hm ϰ (zcd ha.to zcu hs) (he:=hs)) fun σ H Q ⟨F,ρ,env,h,er,hr,w⟩=>zdp ⟨F,ρ,env,h,er,hr,zC w fun xs h1 ρ1 H1 y e1 er1 hr1 ⟨q,us,ey,hq,rs⟩ w1=>by
   subst ey
   cases eb:zca xs with
   | none=>rw [eb]at w1;exact w1.elim
   | some bs =>
     rw [eb]at w1
     have e2:=RDs.of_bools eb rs
     subst e2
     exact ⟨q,bs,rfl,SqL.of hq,wp.done (h:=h1) w1 er1 hr1 (by unfold RD;rfl)⟩⟩)
theorem zq7 (hg:Gl X "sum") (hm:X.mg "sum" = none) (ha:JE X e (tL W G ml)) (hs:starEach [e] X.env=(false,eval e X.env) :: starEach [] X.env) (hc:X.calm=true:=by rfl):JE X (.Call (.Name "sum" p) [e] [] pos) (tE W G (zir ml)) :=
 .of (zT (zdW (zt4 hc) hg hm ϰ (zcd ha.to zcu hs) (he:=hs)) fun σ H Q ⟨F,ρ,env,h,er,hr,w⟩=>zdp ⟨F,ρ,env,h,er,hr,zC w fun xs h1 ρ1 H1 y e1 er1 hr1 ⟨q,us,ey,hq,rs⟩ w1=>by
   subst ey
   cases eb:zbO xs with
   | none=>rw [eb]at w1;exact w1.elim
   | some bs =>
     rw [eb]at w1
     have e2:=RDs.of_ints eb rs
     subst e2
     exact ⟨q,bs,rfl,SqL.of hq,wp.done (h:=h1) w1 er1 hr1 (by unfold RD;rfl)⟩⟩)
theorem zdb (hg:Gl X "len") (hm:X.mg "len" = none) (ha:JE X e (tE W G ma)) (hs:starEach [e] X.env=(false,eval e X.env) :: starEach [] X.env) (hK:X.K=G.K:=by rfl):JE X (.Call (.Name "len" p) [e] [] pos) (tE W G (zbJ (zbF ma))) :=
 .of (zT (zdW zwL hg hm PySem.boot_len (zcd ha.to zcu hs) (he:=hs)) fun σ H Q ⟨F,ρ,env,h,er,hr,w⟩=>zdp ⟨F,ρ,env,h,er,hr,by
   have w':wp F W G rV env σ ρ H (zl ma (fun x=>zl (fun _ h=>match x with
     | .obj n=>(match h[n]? with
       | some (.lst xs)=>R.ok xs h
       | some (.scr xs)=> .ok xs h
       | _=> .bad)
     | .tup ds=> .ok ds h
     | _=> .bad) fun xs=>zb (.int xs.length)) env h) Q:=by
     have e:zbJ (zbF ma) env h=(zl ma (fun x=>zl (fun _ h=>match x with
       | .obj n=>(match h[n]? with
         | some (.lst xs)=>R.ok xs h
         | some (.scr xs)=> .ok xs h
         | _=> .bad)
       | .tup ds=> .ok ds h
       | _=> .bad) fun xs=>zb (.int xs.length)) env h):=by
       unfold zbJ zbF zl
       cases ma env h <;> rfl
     rw [<- e];exact w
   refine zC w' fun x h1 ρ1 H1 y e1 er1 hr1 r1 w1=>?_
   have r1:RD ρ1 H1 x y:=r1
   cases x with
   | tup ds =>
     unfold RD at r1
     obtain ⟨q,vs,rfl,hp,rs⟩:=r1
     exact ⟨q,vs,rfl,.inr (SqT.of hp),wp.done (h:=h1) w1 er1 hr1 (by rw [rs.length];unfold RD;rfl)⟩
   | obj n =>
     simp only [zl]at w1
     cases qo:h1[n]? with
     | none=>rw [qo]at w1;exact w1.elim
     | some o =>
       rw [qo]at w1
       cases o with
       | lst xs =>
         obtain ⟨q,vs,rfl,ea,hp,rs⟩:=hr1.lst r1 qo
         exact ⟨q,vs,rfl,.inl (SqL.of hp),wp.done (h:=h1) w1 er1 hr1 (by rw [rs.length];unfold RD;rfl)⟩
       | scr xs =>
         obtain ⟨q,vs,rfl,ea,hp,rs⟩:=hr1.scr r1 qo
         exact ⟨q,vs,rfl,.inl (by rw [hK];exact hp),wp.done (h:=h1) w1 er1 hr1 (by rw [rs.length];unfold RD;rfl)⟩
       | _=>exact w1.elim
   | _=>exact w1.elim⟩)
theorem zjF (hg:Gl X "list") (hm:X.mg "list" = none) (ha:JE X e (tL W G ml)) (hs:starEach [e] X.env=(false,eval e X.env) :: starEach [] X.env):JE X (.Call (.Name "list" p) [e] [] pos) (tN W G ml) :=
 .of (zT (ziM zt1 hg hm ϰ (zcd ha.to zcu hs) (he:=hs)) fun σ H Q ⟨F,ρ,env,h,er,hr,w⟩=>zdp ⟨F,ρ,env,h,er,hr,zlZ w fun xs h1 ρ1 H1 y e1 er1 hr1 ⟨q,us,ey,hq,rs⟩ w1=>by
   subst ey
   exact ⟨q,us,rfl,.inl (SqL.of hq),fun d hd=>w1.made er1 hr1 hd (zfl hr1 hd rs)⟩⟩)
theorem zua (hg:Gl X "abs") (hm:X.mg "abs" = none) (ha:JE X e (tE W G ma)) (hs:starEach [e] X.env=(false,eval e X.env) :: starEach [] X.env):JE X (.Call (.Name "abs" p) [e] [] pos) (tE W G (zdV ma)) :=
 .of (zT (zdW zq1 hg hm ϰ (zcd ha.to zcu hs) (he:=hs)) fun σ H Q ⟨F,ρ,env,h,er,hr,w⟩=>zdp ⟨F,ρ,env,h,er,hr,zC w fun x h1 ρ1 H1 y e1 er1 hr1 r1 w1=>by
   cases x with
   | int i=>have r1:RD ρ1 H1 (.int i) y:=r1;unfold RD at r1;subst r1;exact ⟨i,rfl,wp.done (h:=h1) w1 er1 hr1 (by unfold RD;rfl)⟩
   | _=>exact w1.elim⟩)
end
end MI
end
section
namespace MI
open PySem PySem.Spec L2
theorem zjw:∀ (ns acc seen:List Int),(∀ x,x∈seen↔x∈acc)->ns.foldl PyProof.Rows.step_dedup acc=acc++zbd seen ns
 | [],acc,seen,_=>by simp [zbd]
 | n :: ns,acc,seen,hs=>by
   rw [List.foldl_cons]
   unfold zbd
   by_cases hn:n∈acc
   . rw [if_pos ((hs n).mpr hn)]
     have e:PyProof.Rows.step_dedup acc n=acc:=by
       unfold PyProof.Rows.step_dedup
       rw [if_pos (by simpa using hn)]
     rw [e]
     exact zjw ns acc seen hs
   . rw [if_neg (fun z=>hn ((hs n).mp z))]
     have e:PyProof.Rows.step_dedup acc n=acc++[n]:=by
       unfold PyProof.Rows.step_dedup
       rw [if_neg (by simpa using hn)]
     rw [e,zjw ns (acc++[n]) (n :: seen) (fun x=>by simp [hs x,or_comm])]
     simp
theorem zmi (ns:List Int):zb9 ns=zbd [] ns:=by
 unfold zb9 PyProof.Rows.firstMet
 have e:(List.range ns.length).map (fun i=>ns.getD i 0)=ns:=by
   apply List.ext_getElem?
   intro i
   rw [List.getElem?_map]
   by_cases hi:i < ns.length
   . simp [hi]
   . simp [hi]
 rw [e,zjw ns [] [] (fun _=>Iff.rfl)]
 simp
theorem zjK (x:Int):∀ l:List Int,(zbV x l).Perm (x :: l)
 | []=>by simp [zbV]
 | y :: r=>by
   unfold zbV
   by_cases h:x<=y
   . rw [if_pos h]
   . rw [if_neg h]
     exact ((zjK x r).cons y).trans (List.Perm.swap x y r)
theorem sortI_perm:∀ l:List Int,(sortI l).Perm l
 | []=>by simp [sortI]
 | y :: r=>by
   show (zbV y (sortI r)).Perm _
   exact (zjK y _).trans ((sortI_perm r).cons y)
theorem zlj (x:Int):∀ l:List Int,l.Pairwise (· <= ·)->(zbV x l).Pairwise (· <= ·)
 | [],_=>by simp [zbV]
 | y :: r,h=>by
   unfold zbV
   rw [List.pairwise_cons]at h
   by_cases hx:x<=y
   . rw [if_pos hx]
     refine List.pairwise_cons.mpr ⟨fun z hz=>?_,List.pairwise_cons.mpr h⟩
     rcases List.mem_cons.mp hz with e | hz
     . rw [e];exact hx
     . exact Int.le_trans hx (h.1 z hz)
   . rw [if_neg hx]
     refine List.pairwise_cons.mpr ⟨fun z hz=>?_,zlj x r h.2⟩
     rcases List.mem_cons.mp ((zjK x r).mem_iff.mp hz) with e | hz
     . rw [e];omega
     . exact h.1 z hz
theorem sortI_sorted:∀ l:List Int,(sortI l).Pairwise (· <= ·)
 | []=>by simp [sortI]
 | y :: r=>zlj y _ (sortI_sorted r)
theorem sorted_unique:∀ {l m:List Int},l.Perm m->l.Pairwise (· <= ·)->m.Pairwise (· <= ·)->l=m
 | [],m,p,_,_=>by simpa using p
 | x :: l,m,p,hl,hm=>by
   cases m with
   | nil=>simp at p
   | cons y m =>
     rw [List.pairwise_cons]at hl hm
     have h1:x∈y :: m:=p.mem_iff.mp List.mem_cons_self
     have h2:y∈x :: l:=p.mem_iff.mpr List.mem_cons_self
     have e:x=y:=by
       rcases List.mem_cons.mp h1 with e | h1
       . exact e
       . rcases List.mem_cons.mp h2 with e | h2
         . exact e.symm
         . have a:=hl.1 y h2
           have b:=hm.1 x h1
           omega
     subst e
     rw [sorted_unique (List.perm_cons x |>.mp p) hl.2 hm.2]
section
variable {W:Nat->Hp->Prop}{X:Cx}{F:Addr->Prop}{G:GP}{env:zr}{σ:L2.St}{ρ:List Addr}{H:Hp}{h:MH}{a b c e o:Expr}{es:List Expr}{ma mb mc:ME D}{ml ml':ME (List D)}{pos p p1 p2 apos:Pos}{Q:VK}{k:Nat}
theorem zln (hg:Gl X "len") (hm:X.mg "len" = none) (hg':Gl X "set") (hm':X.mg "set" = none) (ha:JE X e (tL W G ml)) (hs:starEach [e] X.env=(false,eval e X.env) :: starEach [] X.env) (hc:X.calm=true:=by rfl) :
   JE X (.Call (.Name "len" p) [.Call (.Name "set" p1) [e] [] p2] [] pos) (tE W G (zhp ml)) :=
 .of (zT (zdW zvT hg hm PySem.boot_len (zcd (ziM (zvO hc) hg' hm' ϰ (zcd ha.to zcu hs) (he:=hs)) zcu zbb) (he:=zbb)) fun σ H Q ⟨F,ρ,env,h,er,hr,w⟩=>by
   refine zdp (Rl:=rL G.K) (m:=ml) (P:=fun vs H1=>∃ (a:Addr) (ns:List Int),vs=[.ref a]∧SqL X.K H1 a (ns.map V.int)∧ns.length < 4000∧∀ p,H1 p=none->(∃ p' S n,[V.ref p]=[.ref p']∧(upd H1 p (.set (fun k=>(zb9 ns).any (· == k)) (zb9 ns).length)) p'=some (.set S n)∧Q (.int n) (upd H1 p (.set (fun k=>(zb9 ns).any (· == k)) (zb9 ns).length)))) ⟨F,ρ,env,h,er,hr,?_⟩
   refine zC w fun xs h1 ρ1 H1 y e1 er1 hr1 ⟨q,us,ey,hq,rs⟩ w1=>?_
   subst ey
   cases eb:zbO xs with
   | none=>rw [eb]at w1;exact w1.elim
   | some ns =>
     rw [eb]at w1
     have e2:=RDs.of_ints eb rs
     subst e2
     by_cases hl:ns.length < 4000
     . dsimp only at w1
       rw [if_pos hl]at w1
       refine ⟨q,ns,rfl,SqL.of hq,hl,fun d hd=>⟨d,_,_,rfl,zb4,?_⟩⟩
       exact wp.made (h:=h1) w1 er1 hr1 hd (by rw [zmi];unfold RD;rfl)
     . dsimp only at w1
       rw [if_neg hl]at w1;exact w1.elim)
theorem zsU {a:Expr}{ta:TE} (hc:X.calm=true) (hg:Gl X "list") (hm:X.mg "list" = none) (hg':Gl X "range") (hm':X.mg "range" = none) (ha:PE X a ta) (hs:starEach [a] X.env=(false,eval a X.env) :: starEach [] X.env) :
   PE X (.Call (.Name "list" p) [.Call (.Name "range" p1) [a] [] p2] [] pos) (fun σ H Q=>ta σ H fun x H1=>∃ j:Int,x = .int j∧-1000000<=j∧j<=1000000∧∀ q,H1 q=none->Q (.ref q) (upd H1 q (.lst ((List.range j.toNat).map fun (k:Nat)=>V.int k)))):=by
 intro pins s σ H Q I h
 have hbl:bootBuiltins ("list":Str)=some (.type "list"):=by decide +kernel
 have hbr:bootBuiltins ("range":Str)=some (.type "range"):=by decide +kernel
 refine wpAny_Call_Name_kw (zfv I hg hm hbl ?_ ϑ ϑ)
 refine PyProof.Rows.callWith_type1 (pos:=pos) ?_ zbb rfl
 rw [zbb]
 refine Calls.spliced_cons (wpAny_Call_Name_kw (zfv I hg' hm' hbr ?_ ϑ ϑ))
 refine PyProof.Rows.callWith_type1 (pos:=p2) ?_ hs rfl
 rw [hs]
 refine Calls.spliced_cons (thn (ha pins s σ H _ I h) fun v s1 ⟨x,H1,I1,r1,q1⟩=>Calls.spliced_nil ?_)
 obtain ⟨j,e,j1,j2,q⟩:=q1
 subst e
 obtain ⟨t,rfl⟩:=r1
 refine call_range_1 (Calls.spliced_nil ?_)
 have hsz:Builtin.Range.rangeSize 0 j 1=(j.toNat:Nat):=by rw [rangeSize_one];split <;> omega
 have I2:Inv X pins σ H1 { s1 with heap:=s1.heap.push { cls := .type "range",data := .fields #[.int 0 s1.toks,.int j t,.int 1 (s1.toks+1)] },toks:=s1.toks+1+1 }:=I1.kept fun b o e=>Heap.get?_push_of_some _ e
 refine call_list_range (n:=j.toNat) (I.ok.hd hc) (IsRange.new ..) (small_one ω ω ω ω) hsz ω fun h' tk acc' c' hk hat hit=>?_
 refine ⟨.ref _,_,I2.laid (h':=h') (t':=tk) (o := .lst ((List.range j.toNat).map fun (k:Nat)=>V.int k)) hk (Nat.le_refl _) ?_,rfl,q _ (I2.hok.fresh (Nat.le_refl _))⟩
 refine ⟨?_,acc'.toList,c',?_,by rw [Array.toArray_toList];exact hat⟩
 . rw [List.length_map,List.length_range];exact ziN ω
 . obtain ⟨hs1,hs2⟩:=hit
   have key:∀ (n:Nat) (l:List Value),l.length=n->(∀ (i:Nat) v,l[i]?=some v->∃ t,v=Value.int (i:Int) t)->zt ((List.range n).map fun (k:Nat)=>V.int k) l:=by
     intro n
     induction n with
     | zero=>intro l hl _;cases l <;> simp at hl;exact .nil
     | succ n ih =>
       intro l hl hv
       have e:l=l.dropLast++[l.getLast (by intro z;rw [z]at hl;cases hl)]:=(List.dropLast_concat_getLast _).symm
       rw [List.range_succ,List.map_append,e]
       refine zt.append (ih _ (by rw [List.length_dropLast];omega) fun i v hi=>hv i v ?_) ?_
       . rw [e,List.getElem?_append_left (List.getElem?_eq_some_iff.mp hi).1];exact hi
       . have hne:l≠[]:=by intro z;rw [z]at hl;cases hl
         obtain ⟨t',ht'⟩:=hv n (l.getLast hne) (by rw [List.getLast_eq_getElem];simp [hl])
         exact .cons ⟨t',ht'⟩ .nil
   refine key _ _ (by rw [Array.length_toList];exact hs1) fun i v hi=>?_
   obtain ⟨t',ht'⟩:=hs2 i v (by simpa using hi)
   exact ⟨t',by rw [ht'];simp⟩
theorem zri (hg:Gl X "list") (hm:X.mg "list" = none) (hg':Gl X "range") (hm':X.mg "range" = none) (ha:JE X e (tE W G ma)) (hs:starEach [e] X.env=(false,eval e X.env) :: starEach [] X.env) (hc:X.calm=true:=by rfl) :
   JE X (.Call (.Name "list" p) [.Call (.Name "range" p1) [e] [] p2] [] pos) (tN W G (ziU ma)) :=
 .of (zT (zsU hc hg hm hg' hm' ha.to hs) fun σ H Q ⟨F,ρ,env,h,er,hr,w⟩=>⟨F,ρ,env,h,er,hr,zC w fun x h1 ρ1 H1 y e1 er1 hr1 r1 w1=>by
   cases x with
   | int i =>
     have r1:RD ρ1 H1 (.int i) y:=r1
     unfold RD at r1
     by_cases hl:-1000000<=i∧i<=1000000
     . dsimp only at w1
       rw [if_pos hl]at w1
       refine ⟨i,r1,hl.1,hl.2,fun d hd=>wp.made (h:=h1) w1 er1 hr1 hd (zfl hr1 hd ?_)⟩
       have:=RDs.ints (ρ:=ρ1) (H:=H1) ((List.range i.toNat).map fun (k:Nat)=>(k:Int))
       rw [List.map_map,List.map_map]at this
       exact this
     . dsimp only at w1
       rw [if_neg hl]at w1;exact w1.elim
   | _=>exact w1.elim⟩)
end
end MI
end
section
namespace MI
open PySem PySem.Spec L2
noncomputable def tyN:Ty->String
 | .int => "int"
 | .bool => "bool"
 | .str => "str"
 | .list => "list"
 | .tuple => "tuple"
 | .dict => "dict"
section
variable {W:Nat->Hp->Prop}{X:Cx}{F:Addr->Prop}{G:GP}{env:zr}{σ:L2.St}{ρ:List Addr}{H:Hp}{h:MH}{a b c e o:Expr}{es:List Expr}{ma mb mc mo:ME D}{ml ml':ME (List D)}{pos p p1 p2 apos cpos:Pos}{Q:VK}{k:Nat}
theorem zrX {t:Ty}{x:D}{v:V}{b:Bool} (hr:HR F G ρ h H) (r:RD ρ H x v) (e:zbQ h t x=some b):∃ u,zc5 X.K H v u∧PySem.W.kitOne X.K u (.type (tyN t))=some b:=by
 cases x with
 | non=>unfold RD at r;subst r;cases e;exact ⟨_,.non,by cases t <;> rfl⟩
 | bl x=>unfold RD at r;subst r;cases e;exact ⟨_,.bl x,by cases t <;> rfl⟩
 | int x=>unfold RD at r;subst r;cases e;exact ⟨_,.int x,by cases t <;> rfl⟩
 | str x=>unfold RD at r;subst r;cases e;exact ⟨_,.str x,by cases t <;> rfl⟩
 | tup ds =>
   unfold RD at r
   obtain ⟨q,vs,rfl,hq,_⟩:=r
   cases e;exact ⟨_,.tup hq,by cases t <;> rfl⟩
 | obj n =>
   simp only [zbQ]at e
   cases qo:h[n]? with
   | none=>rw [qo]at e;cases e
   | some o =>
     rw [qo]at e
     cases o with
     | lst xs =>
       obtain ⟨q,vs,rfl,_,hq,_⟩:=hr.lst r qo
       cases e;exact ⟨_,.lst hq,by cases t <;> rfl⟩
     | dic xs =>
       obtain ⟨q,vs,rfl,_,hq,_⟩:=hr.dic r qo
       cases e;exact ⟨_,.dK hq,by cases t <;> rfl⟩
     | _=>cases e
theorem zc3 {t:Ty}{x:Str} (hg:Gl X "isinstance") (hm:X.mg "isinstance" = none) (hg':Gl X x) (hm':X.mg x=none) (ha:JE X e (tE W G ma)) (hs:starEach [e,.Name x p1] X.env=(false,eval e X.env) :: starEach [.Name x p1] X.env)
   (hv:bootBuiltins x=some (.type (tyN t)):=by decide +kernel) (hn:x ≠ "__name__":=by decide) (hd:(x == ("__debug__":Str))=false:=by decide):JE X (.Call (.Name "isinstance" p) [e,.Name x p1] [] pos) (tE W G (zbG t ma)) :=
 .of (zT (zdW znC hg hm ϰ (zcd ha.to (zcd (zsa (v := .ty (tyN t)) hg' hm' hv rfl hn hd) zcu zf) hs) (he:=hs) (hpl:=by rw [zf];rfl)) fun σ H Q ⟨F,ρ,env,h,er,hr,w⟩=>by
   refine ⟨F,ρ,env,h,er,hr,zC w fun x' h1 ρ1 H1 y e1 er1 hr1 r1 w1=>?_⟩
   cases eb:zbQ h1 t x' with
   | none=>rw [eb]at w1;exact w1.elim
   | some b =>
     rw [eb]at w1
     obtain ⟨u,h2,h3⟩:=zrX (X:=X) hr1 r1 eb
     exact ⟨y,u,b,h2,.inl ⟨_,rfl,h3⟩,wp.done (h:=h1) w1 er1 hr1 (by unfold RD;rfl)⟩)
theorem zdk {sub att:Nat->Nat->Bool}{ci:Nat}{C:Addr}{x:Str} (ok:G.Ok sub att) (hC:G.cm[ci]?=some C) (hg:Gl X "isinstance") (hm:X.mg "isinstance" = none) (hg':Gl X x) (hm':X.mg x=some (.ref C)) (ha:JE X e (tE W G ma))
   (hs:starEach [e,.Name x p1] X.env=(false,eval e X.env) :: starEach [.Name x p1] X.env) (hK:X.K=G.K:=by rfl) (hd:(x == ("__debug__":Str))=false:=by decide):JE X (.Call (.Name "isinstance" p) [e,.Name x p1] [] pos) (tE W G (zZ sub ci ma)) :=
 .of (zT (zdW znC hg hm ϰ (zcd ha.to (zcd (znk (v := .ref C) hg' hm' rfl hd) zcu zf) hs) (he:=hs) (hpl:=by rw [zf];rfl)) fun σ H Q ⟨F,ρ,env,h,er,hr,w⟩=>by
   refine ⟨F,ρ,env,h,er,hr,zC w fun x' h1 ρ1 H1 y e1 er1 hr1 r1 w1=>?_⟩
   have r1:RD ρ1 H1 x' y:=r1
   cases x' with
   | obj n =>
     dsimp only at w1
     cases qo:h1[n]? with
     | none=>rw [qo]at w1;exact w1.elim
     | some o =>
       rw [qo]at w1
       cases o with
       | ins c fs =>
         obtain ⟨q,C',dx,vs,rfl,_,hC',hq,_⟩:=hr1.ins r1 qo
         obtain ⟨h2,h3⟩:=ok.cls c C' hC'
         refine ⟨.ref q,.ref C',sub c ci,.ins hq (by rw [hK];exact h2) (by rw [hK];exact h3.ha) (by rw [hK];exact h3.hn) (by rw [hK];exact h3.htk) (by rw [hK];exact h3.hm),.inr ⟨C,rfl,?_⟩,wp.done (h:=h1) w1 er1 hr1 (by unfold RD;rfl)⟩
         rw [hK];exact ok.isa c ci C' C hC' hC
       | _=>exact w1.elim
   | _=>exact w1.elim)
theorem zly {l:List Str} (hl:l.Nodup) {i j:Nat}{x:Str} (h1:l[i]?=some x) (h2:l[j]?=some x):i=j:=zkg hl h1 h2
theorem FRs.lookup {C:Addr} (nd:G.an.Nodup) {f:Str}{kk:Nat} (hf:G.an[kk]?=some f):∀ {fs:List (Nat×D)}{vs:List (Str×V)}{d:D},FRs G ρ H C fs vs->fs.lookup kk=some d->∃ v,vs.lookup f=some v∧RD ρ H d v∧zbB G.K C f
 | [],vs,d,r,e=>by simp at e
 | p :: fs,vs,d,r,e=>by
   unfold FRs at r
   obtain ⟨g,v,q,rfl,h1,h2,h3,h4⟩:=r
   obtain ⟨i,d'⟩:=p
   rw [List.lookup_cons]at e
   by_cases hi:kk=i
   . subst hi
     simp at e
     subst e
     rw [hf]at h1;cases h1
     exact ⟨v,by rw [List.lookup_cons];simp,h3,h2⟩
   . have b:(kk == i)=false:=by simpa using hi
     rw [b]at e
     obtain ⟨v',e1,e2,e3⟩:=FRs.lookup nd hf h4 e
     refine ⟨v',?_,e2,e3⟩
     have hne:¬ f=g:=fun z=>hi (zly nd (z ▸ hf) h1)
     have b':(f == g)=false:=by simpa using hne
     rw [List.lookup_cons,b']
     exact e1
theorem FRs.none {C:Addr}{f:Str} (hf:∀ kk:Nat,G.an[kk]?≠some f):∀ {fs:List (Nat×D)}{vs:List (Str×V)},FRs G ρ H C fs vs->vs.lookup f=none
 | [],vs,r=>by unfold FRs at r;subst r;rfl
 | p :: fs,vs,r=>by
   unfold FRs at r
   obtain ⟨g,v,q,rfl,h1,h2,h3,h4⟩:=r
   have hne:¬ f=g:=fun z=>hf p.1 (z ▸ h1)
   have b':(f == g)=false:=by simpa using hne
   rw [List.lookup_cons,b']
   exact FRs.none hf h4
theorem FRs.put {C:Addr} (nd:G.an.Nodup) {f:Str}{kk:Nat}{d:D}{v:V} (hf:G.an[kk]?=some f) (hn:zbB G.K C f) (rd:RD ρ H d v):∀ {fs:List (Nat×D)}{vs:List (Str×V)},FRs G ρ H C fs vs->FRs G ρ H C (zem kk d fs) (zb3 f v vs)
 | [],vs,r=>by
   unfold FRs at r;subst r
   show FRs G ρ H C [(kk,d)] [(f,v)]
   unfold FRs
   exact ⟨f,v,[],rfl,hf,hn,rd,by unfold FRs;rfl⟩
 | p :: fs,vs,r=>by
   unfold FRs at r
   obtain ⟨g,u,q,rfl,h1,h2,h3,h4⟩:=r
   unfold zem zb3
   by_cases hi:p.1=kk
   . rw [if_pos hi]
     rw [hi,hf]at h1;cases h1
     rw [if_pos rfl]
     unfold FRs
     exact ⟨f,v,q,rfl,hf,hn,rd,h4⟩
   . rw [if_neg hi]
     have hne:¬ g=f:=fun z=>hi (zly nd (z ▸ h1) hf)
     rw [if_neg hne]
     unfold FRs
     exact ⟨g,u,_,rfl,h1,h2,h3,FRs.put nd hf hn rd h4⟩
theorem zbS {sub att:Nat->Nat->Bool}{kk:Nat}{f:Str} (ok:G.Ok sub att) (hf:G.an[kk]?=some f) (ha:JE X e (tE W G ma)) (hb:attributeBase e f X.env (eval e X.env)=eval e X.env) (hK:X.K=G.K:=by rfl):JE X (.Attribute e f pos) (tE W G (fld kk ma)) :=
 .of (zT (zrR ha.to hb) fun σ H Q ⟨F,ρ,env,h,er,hr,w⟩=>⟨F,ρ,env,h,er,hr,zC w fun x h1 ρ1 H1 y e1 er1 hr1 r1 w1=>by
   have r1:RD ρ1 H1 x y:=r1
   cases x with
   | obj n =>
     dsimp only at w1
     cases qo:h1[n]? with
     | none=>rw [qo]at w1;exact w1.elim
     | some o =>
       rw [qo]at w1
       cases o with
       | ins c fs =>
         dsimp only at w1
         obtain ⟨q,C,dx,vs,rfl,_,hC,hq,rs⟩:=hr1.ins r1 qo
         cases ql:fs.lookup kk with
         | none=>rw [ql]at w1;exact w1.elim
         | some d =>
           rw [ql]at w1
           obtain ⟨v,h2,h3,h4⟩:=rs.lookup ok.nd hf ql
           exact ⟨q,C,dx,vs,v,rfl,hq,by rw [hK];exact (ok.cls c C hC).1,by rw [hK];exact h4,h2,wp.done (h:=h1) w1 er1 hr1 h3⟩
       | _=>exact w1.elim
   | _=>exact w1.elim⟩)
theorem znJ {q:Addr}{u:HO}{ob:O}{Q:VK} (w:wp F W G rV env σ ρ H (zgC ob env h) Q) (er:zV ρ H env σ) (hr:HR F G ρ h H) (hq:H q=none) (ro:RO G (ρ++[q]) (upd H q u) q ob):Q (.ref q) (upd H q u):=by
 have ex:Ext F ρ (ρ++[q]) H (upd H q u):=⟨⟨[q],rfl⟩,(zb1 hr hq).tup,(zb1 hr hq).frm⟩
 refine w (ρ++[q]) _ (.ref q) ex (er.ext ex) ((hr.new hq).named (hr.fresh hq) ro) ?_
 show RD _ _ (.obj h.length) (.ref q)
 unfold RD
 exact ⟨q,rfl,by rw [<- hr.len];simp⟩
theorem ztA:JE X (.Dict [] [] pos) (tE W G zka) :=
 .of (zT zwh fun σ H Q ⟨F,ρ,env,h,er,hr,w⟩=>fun q hq=>znJ w er hr hq ⟨[],zb4,by unfold KRs;rfl⟩)
theorem znE {n:Nat}{q:Addr}{xs ys:List D}{us vs:List V}{Q:VK}{d:D}{v:V} (w:wp F W G rV env σ ρ H (.ok d (h.set n (.lst ys))) Q) (er:zV ρ H env σ) (hr:HR F G ρ h H) (e:h[n]?=some (.lst xs)) (eq:ρ[n]?=some q) (hq:H q=some (.lst us))
   (rs:RDs ρ H ys vs) (rd:RD ρ H d v):Q v (upd H q (.lst vs)):=by
 have tp:Ext (fun _=>False) ρ ρ H (upd H q (.lst vs)):=by
   refine ⟨⟨[],ς⟩,fun b xs z=>?_,fun _ z=>z.elim⟩
   rw [zU]
   . exact z
   . intro zz;subst zz;rw [hq]at z;cases z
 obtain ⟨ex,hr'⟩:=hr.write (o1 := .lst ys) (u := .lst vs) e eq rfl rfl hq trivial ⟨vs,zb4,RDs.ext tp _ _ rs⟩
 exact w ρ _ v ex (er.ext ex) hr' (RD.ext ex _ _ rd)
theorem zrT {x:D}{kk:Unit->ME D}{Q:VK} (w:wp F W G rV env σ ρ H (zl (isL x) kk env h) Q):∃ n xs,x = .obj n∧h[n]?=some (.lst xs)∧wp F W G rV env σ ρ H (kk () env h) Q:=by
 cases x with
 | obj n =>
   simp only [zl,isL]at w
   cases qo:h[n]? with
   | none=>rw [qo]at w;exact w.elim
   | some o =>
     rw [qo]at w
     cases o with
     | lst xs=>exact ⟨n,xs,rfl,qo,w⟩
     | _=>exact w.elim
 | _=>exact w.elim
theorem zd1 (ho:JE X o (tE W G mo)) (ha:JE X e (tE W G ma)) (hs:starEach [e] X.env=(false,eval e X.env) :: starEach [] X.env) (hbase:attributeBase o "append" X.env (eval o X.env)=eval o X.env:=by rfl)
   (hfew:((backTo cpos (starEach [e] X.env)).all (fun x=>!x.1) && (backToKw cpos (keywordEach [] X.env)).all (fun x=>x.1.isSome) && decide (([e]:List Expr).length+([]:List Keyword).length+(if ([]:List Keyword).isEmpty then 0 else 1) < 30))=true:=by rfl)
   (hline:(apos.endLine == cpos.line)=true:=by rfl):JE X (.Call (.Attribute o "append" apos) [e] [] cpos) (tE W G (zbf mo ma)) :=
 .of (zT (zrQ PySem.F.plainAttrs_list PySem.F.slot_list_append PySem.F.type_list_append zmd ho.to (zcd ha.to zcu hs) hbase hfew hline hs) fun σ H Q ⟨F,ρ,env,h,er,hr,w⟩=>⟨F,ρ,env,h,er,hr,zC w fun x h1 ρ1 H1 y e1 er1 hr1 r1 w1=>by
   obtain ⟨n,xs,rfl,qo,w2⟩:=zrT w1
   obtain ⟨q,vs,rfl,_,hq,_⟩:=hr1.lst r1 qo
   refine ⟨.inl ⟨rfl,_,SqL.of hq⟩,zdp ⟨F,ρ1,env,h1,er1,hr1,zC w2 fun z h2 ρ2 H2 yz e2 er2 hr2 r2 w3=>?_⟩⟩
   dsimp only at w3
   cases qo2:h2[n]? with
   | none=>rw [qo2]at w3;exact w3.elim
   | some o2 =>
     rw [qo2]at w3
     cases o2 with
     | lst xs2 =>
       dsimp only at w3
       by_cases hl:xs2.length < 1000000
       . rw [if_pos hl]at w3
         obtain ⟨q2,vs2,ev,eq2,hq2,rs2⟩:=hr2.lst (RD.ext e2 _ _ r1) qo2
         cases ev
         exact ⟨q,vs2,yz,rfl,rfl,hq2,by rw [<- rs2.length,sizeLine_eq];omega,znE w3 er2 hr2 qo2 eq2 hq2 (rs2.snoc r2) (by unfold RD;rfl)⟩
       . rw [if_neg hl]at w3;exact w3.elim
     | _=>exact w3.elim⟩)
theorem zuu (ho:JE X o (tE W G mo)) (hbase:attributeBase o "reverse" X.env (eval o X.env)=eval o X.env:=by rfl) (hline:(apos.endLine == cpos.line)=true:=by rfl):JE X (.Call (.Attribute o "reverse" apos) [] [] cpos) (tE W G (ziI mo)) :=
 .of (zT (zsB PySem.F.plainAttrs_list PySem.F.slot_list_reverse PySem.F.type_list_reverse zup ho.to hbase hline) fun σ H Q ⟨F,ρ,env,h,er,hr,w⟩=>⟨F,ρ,env,h,er,hr,zC w fun x h1 ρ1 H1 y e1 er1 hr1 r1 w1=>by
   cases x with
   | obj n =>
     dsimp only at w1
     cases qo:h1[n]? with
     | none=>rw [qo]at w1;exact w1.elim
     | some o =>
       rw [qo]at w1
       cases o with
       | lst xs =>
         obtain ⟨q,vs,rfl,eq,hq,rs⟩:=hr1.lst r1 qo
         exact ⟨.inl ⟨rfl,_,SqL.of hq⟩,q,vs,rfl,rfl,hq,znE w1 er1 hr1 qo eq hq rs.reverse (by unfold RD;rfl)⟩
       | _=>exact w1.elim
   | _=>exact w1.elim⟩)
end
end MI
end
section
namespace MI
open PySem PySem.Spec L2
noncomputable def wpS (F:Addr->Prop) (W:Nat->Hp->Prop) (G:GP) (ρ:List Addr) (H:Hp) (r:RS) (E:ze0):Prop:=match r with
 | .nx e h1=>∀ ρ1 H1 σ1,Ext F ρ ρ1 H H1->zV ρ1 H1 e σ1->HR F G ρ1 h1 H1->E.nx σ1 H1
 | .bk e h1=>∀ ρ1 H1 σ1,Ext F ρ ρ1 H H1->zV ρ1 H1 e σ1->HR F G ρ1 h1 H1->E.bk σ1 H1
 | .ct e h1=>∀ ρ1 H1 σ1,Ext F ρ ρ1 H H1->zV ρ1 H1 e σ1->HR F G ρ1 h1 H1->E.ct σ1 H1
 | .rt v h1=>∀ ρ1 H1 v1,Ext F ρ ρ1 H H1->HR F G ρ1 h1 H1->RD ρ1 H1 v v1->E.rt v1 H1
 | .ex c h1=>∀ ρ1 H1,Ext F ρ ρ1 H H1->HR F G ρ1 h1 H1->W c H1
 | .bad=>False
noncomputable def tS (W:Nat->Hp->Prop) (G:GP) (m:MS):TS:=fun E σ H=>∃ F ρ env h,zV ρ H env σ∧HR F G ρ h H∧wpS F W G ρ H (m env h) E
section
variable {F:Addr->Prop}{W:Nat->Hp->Prop}{G:GP}{env:zr}{σ:L2.St}{ρ ρ1:List Addr}{H H1:Hp}{h h1:MH}{E:ze0}
theorem wpS.mono {r:RS} (w:wpS F W G ρ H r E) (e:Ext F ρ ρ1 H H1):wpS F W G ρ1 H1 r E:=by
 cases r with
 | nx v h1=>exact fun ρ2 H2 v1 e2=>w ρ2 H2 v1 (e.trans e2)
 | bk v h1=>exact fun ρ2 H2 v1 e2=>w ρ2 H2 v1 (e.trans e2)
 | ct v h1=>exact fun ρ2 H2 v1 e2=>w ρ2 H2 v1 (e.trans e2)
 | rt v h1=>exact fun ρ2 H2 v1 e2=>w ρ2 H2 v1 (e.trans e2)
 | ex c h1=>exact fun ρ2 H2 e2=>w ρ2 H2 (e.trans e2)
 | bad=>exact w
theorem wpS_bind {α β:Type}{Rl:RL α β}{m:ME α}{k:α->MS}{P:β->Hp->Prop} (w:wpS F W G ρ H (zcv m k env h) E)
   (f:∀ x h1 ρ1 H1 y,Ext F ρ ρ1 H H1->zV ρ1 H1 env σ->HR F G ρ1 h1 H1->Rl F ρ1 h1 H1 x y->wpS F W G ρ1 H1 (k x env h1) E->P y H1):wp F W G Rl env σ ρ H (m env h) P:=by
 unfold zcv at w
 cases e:m env h with
 | ok v h1 =>
   rw [e]at w
   exact fun ρ1 H1 y ex er hr rl=>f v h1 ρ1 H1 y ex er hr rl (w.mono ex)
 | ex c h1=>rw [e]at w;exact w
 | bad=>rw [e]at w;exact w
theorem wpS.done {e:zr}{σ1:L2.St} (w:wpS F W G ρ H (.nx e h) E) (er:zV ρ H e σ1) (hr:HR F G ρ h H):E.nx σ1 H:=w ρ H σ1 Ext.refl er hr
end
@[irreducible] noncomputable def JS (X:Cx) (e:Stmt) (t:TS):Prop:=PS X e t
@[irreducible] noncomputable def JSs (X:Cx) (e:List Stmt) (t:TS):Prop:=PSs X e t
@[irreducible] noncomputable def JG (X:Cx) (e:Expr) (t:TG):Prop:=PG X e t
@[irreducible] noncomputable def JGs (X:Cx) (e:List Expr) (t:TGs):Prop:=PGs X e t
@[irreducible] noncomputable def JI (X:Cx) (tg e:Expr) (t:TI):Prop:=PI X tg e t
@[irreducible] noncomputable def zej (X:Cx) (e:List Expr) (t:TT):Prop:=zha X e t
theorem JS.to {X:Cx}{e:Stmt}{t:TS} (h:JS X e t):PS X e t:=by unfold JS at h;exact h
theorem JS.of {X:Cx}{e:Stmt}{t:TS} (h:PS X e t):JS X e t:=by unfold JS;exact h
theorem JSs.to {X:Cx}{e:List Stmt}{t:TS} (h:JSs X e t):PSs X e t:=by unfold JSs at h;exact h
theorem JSs.of {X:Cx}{e:List Stmt}{t:TS} (h:PSs X e t):JSs X e t:=by unfold JSs;exact h
theorem JG.to {X:Cx}{e:Expr}{t:TG} (h:JG X e t):PG X e t:=by unfold JG at h;exact h
theorem JG.of {X:Cx}{e:Expr}{t:TG} (h:PG X e t):JG X e t:=by unfold JG;exact h
theorem JGs.to {X:Cx}{e:List Expr}{t:TGs} (h:JGs X e t):PGs X e t:=by unfold JGs at h;exact h
theorem JGs.of {X:Cx}{e:List Expr}{t:TGs} (h:PGs X e t):JGs X e t:=by unfold JGs;exact h
theorem JI.to {X:Cx}{tg e:Expr}{t:TI} (h:JI X tg e t):PI X tg e t:=by unfold JI at h;exact h
theorem JI.of {X:Cx}{tg e:Expr}{t:TI} (h:PI X tg e t):JI X tg e t:=by unfold JI;exact h
theorem zej.to {X:Cx}{e:List Expr}{t:TT} (h:zej X e t):zha X e t:=by unfold zej at h;exact h
theorem zej.of {X:Cx}{e:List Expr}{t:TT} (h:zha X e t):zej X e t:=by unfold zej;exact h
theorem zdc {X:Cx}{e:Stmt}{t t':TS} (h:PS X e t) (i:∀ E σ H,t' E σ H->t E σ H):PS X e t':=fun pins s σ H E I hw=>h pins s σ H E I (i _ _ _ hw)
theorem zk1 {X:Cx}{e:List Stmt}{t t':TS} (h:PSs X e t) (i:∀ E σ H,t' E σ H->t E σ H):PSs X e t':=fun pins s σ H E I hw=>h pins s σ H E I (i _ _ _ hw)
theorem zle {X:Cx}{e:Expr}{t t':TG} (h:PG X e t) (i:∀ v σ H Q,t' v σ H Q->t v σ H Q):PG X e t':=fun pins s σ H v u Q I r hw=>h pins s σ H v u Q I r (i _ _ _ _ hw)
theorem zmO {X:Cx}{e:List Expr}{t t':TGs} (h:PGs X e t) (i:∀ v σ H Q,t' v σ H Q->t v σ H Q):PGs X e t':=fun pins s σ H v u Q I r hw=>h pins s σ H v u Q I r (i _ _ _ _ hw)
section
variable {W:Nat->Hp->Prop}{X:Cx}{F:Addr->Prop}{G:GP}{env:zr}{σ:L2.St}{ρ:List Addr}{H:Hp}{h:MH}{a b c e o:Expr}{es:List Expr}{st:Stmt}{rest bd bd2:List Stmt}{ma mb mc mo:ME D}{ml ml':ME (List D)}{mt:ME Bool}{m1 m2:MS}{pos p p1 p2 tpos:Pos}{k i:Nat}{x:Str}
theorem z8:JSs X [] (tS W G zu) := .of (zk1 zue fun E σ H ⟨F,ρ,env,h,er,hr,w⟩=>wpS.done (h:=h) w er hr)
theorem zq (h1:JS X st (tS W G m1)):JSs X [st] (tS W G m1) := .of (zqY h1.to)
theorem zn (h1:JS X st (tS W G m1)) (h2:JSs X rest (tS W G m2)):JSs X (st :: rest) (tS W G (zh m1 m2)) :=
 .of (zk1 (zst h1.to h2.to) fun E σ H ⟨F,ρ,env,h,er,hr,w⟩=>⟨F,ρ,env,h,er,hr,by
   unfold zh at w
   cases e:m1 env h with
   | nx e1 h1 =>
     rw [e]at w
     exact fun ρ1 H1 σ1 ex er1 hr1=>⟨F,ρ1,e1,h1,er1,hr1,w.mono ex⟩
   | bk e1 h1=>rw [e]at w;exact w
   | ct e1 h1=>rw [e]at w;exact w
   | rt v h1=>rw [e]at w;exact w
   | ex c h1=>rw [e]at w;exact w
   | bad=>rw [e]at w;exact w⟩)
theorem zgu:JS X st (tS W G ze3) := .of (zdc zvP fun E σ H ⟨F,ρ,env,h,er,hr,w⟩=>w)
theorem zcI (ha:JE X e (tE W G ma)) (hs:swapsWith e none pos.line X.env=pure false:=by rfl):JS X (.Expr e pos) (tS W G (zY ma)) :=
 .of (zdc (zwB ha.to hs) fun E σ H ⟨F,ρ,env,h,er,hr,w⟩=>⟨F,ρ,env,h,er,hr,wpS_bind w fun x h1 ρ1 H1 y e1 er1 hr1 r1 w1=>wpS.done (h:=h1) w1 er1 hr1⟩)
theorem zE (ha:JE X e (tE W G ma)):JS X (.Return (some e) pos) (tS W G (zp ma)) :=
 .of (zdc (zsZ ha.to) fun E σ H ⟨F,ρ,env,h,er,hr,w⟩=>⟨F,ρ,env,h,er,hr,wpS_bind w fun x h1 ρ1 H1 y e1 er1 hr1 r1 w1=>w1 ρ1 H1 y Ext.refl hr1 r1⟩)
theorem z7 (hc:JT X c (tT W G mt)) (ha:JSs X bd (tS W G m1)) (hb:JSs X bd2 (tS W G m2)):JS X (.If c bd bd2 pos) (tS W G (ifS mt m1 m2)) :=
 .of (zdc (zuo hc.to ha.to hb.to) fun E σ H ⟨F,ρ,env,h,er,hr,w⟩=>⟨F,ρ,env,h,er,hr,wpS_bind w fun x h1 ρ1 H1 y e1 er1 hr1 r1 w1=>by
   obtain rfl:x=y:=r1
   cases x with
   | true=>rw [if_pos rfl]at w1 ⊢;exact ⟨F,ρ1,env,h1,er1,hr1,w1⟩
   | false=>rw [if_neg ϑ]at w1 ⊢;exact ⟨F,ρ1,env,h1,er1,hr1,w1⟩⟩)
noncomputable def tTg (G:GP) (t:Tg):TG:=fun v σ H Q=>∃ F ρ env h d env1,zV ρ H env σ∧HR F G ρ h H∧RD ρ H d v∧zda t d env=some env1∧∀ σ1,zV ρ H env1 σ1->Q σ1 H
noncomputable def zib (l:List Nat):TGs:=fun vs σ H Q=>∃ ρ env ds env1,zV ρ H env σ∧RDs ρ H ds vs∧zdC l ds env=some env1∧∀ σ1,zV ρ H env1 σ1->Q σ1 H
theorem zcn (hN:X.N.Nodup) (hi:X.N[i]?=some x) (hx:Loc X.env.scope x) (hf:X.fn x=true∨X.env.scope.names.lookup x=some .local:=by first | exact .inl rfl | exact .inr rfl | assumption):JG X (.Name x pos) (tTg G (.nm i)) :=
 .of (zle (zml hN hi hx hf) fun v σ H Q ⟨F,ρ,env,h,d,env1,er,hr,r,e,q⟩=>by
   cases e
   exact q _ (er.set r i))
theorem zhc:JGs X [] (zib []) := .of (zmO zrI fun v σ H Q ⟨ρ,env,ds,env1,er,r,e,q⟩=>by
 cases ds with
 | nil=>unfold RDs at r;cases e;exact ⟨r,q σ er⟩
 | cons d ds=>cases e)
theorem zdD {l:List Nat} (hN:X.N.Nodup) (hi:X.N[i]?=some x) (hx:Loc X.env.scope x) (h2:JGs X es (zib l)) (hf:X.fn x=true∨X.env.scope.names.lookup x=some .local:=by first | exact .inl rfl | exact .inr rfl | assumption)
   (hs:(assignEach (.Name x pos :: es) X.env).map (·.2)=assign (.Name x pos) X.env :: (assignEach es X.env).map (·.2):=by rfl):JGs X (.Name x pos :: es) (zib (i :: l)) :=
 .of (zmO (zt6 (zml hN hi hx hf) h2.to hs) fun v σ H Q ⟨ρ,env,ds,env1,er,r,e,q⟩=>by
   cases ds with
   | nil=>cases e
   | cons d ds =>
     unfold RDs at r
     obtain ⟨y,vs,rfl,r1,r2⟩:=r
     exact ⟨y,vs,rfl,ρ,_,ds,env1,er.set r1 i,r2,e,q⟩)
theorem zvD:∀ (l:List Nat) {ds:List D}{e e1:zr},zdC l ds e=some e1->ds.length=l.length:=by
 intro l
 induction l with
 | nil=>intro ds e e1 h;cases ds <;> first | rfl | cases h
 | cons i l ih =>
   intro ds e e1 h
   cases ds with
   | nil=>cases h
   | cons d ds=>simp [ih (ds:=ds) h]
theorem zhH {l:List Nat}{n k:Nat} (hc:X.calm=true) (h:JGs X es (zib l)) (hl:n=l.length:=by rfl) (hn:(assignEach es X.env).length=n:=by rfl) (hst:(assignEach es X.env).findIdx? (·.1)=none:=by rfl):JG X (.Tuple es k pos) (tTg G (.tp l)) :=
 .of (zle (ztM hc h.to hn hst) fun v σ H Q ⟨F,ρ,env,hh,d,env1,er,hr,r,e,q⟩=>by
   cases d with
   | tup ds =>
     unfold RD at r
     obtain ⟨a,vs,rfl,ha,rs⟩:=r
     exact ⟨a,vs,rfl,SqT.of ha,by rw [<- rs.length,hl];exact zvD l e,ρ,env,ds,env1,er,rs,e,q⟩
   | _=>cases e)
theorem zN (hN:X.N.Nodup) (hi:X.N[i]?=some x) (hx:Loc X.env.scope x) (ha:JE X e (tE W G ma)) (hs:swapsWith e (some (.Name x p)) pos.line X.env=pure false:=by rfl) (hf:X.fn x=true∨X.env.scope.names.lookup x=some .local:=by first | exact .inl rfl | exact .inr rfl | assumption) :
   JS X (.Assign [.Name x p] e pos) (tS W G (zm (.nm i) ma)) :=
 .of (zdc (zqV hN hi hx ha.to hs hf) fun E σ H ⟨F,ρ,env,h,er,hr,w⟩=>⟨F,ρ,env,h,er,hr,wpS_bind w fun x h1 ρ1 H1 y e1 er1 hr1 r1 w1=>wpS.done (h:=h1) w1 (er1.set r1 i) hr1⟩)
theorem zkd {tg:Expr}{t:Tg} (ha:JE X e (tE W G ma)) (hg:JG X tg (tTg G t)) (hs:swapsWithSole [tg] e pos.line X.env=pure false:=by rfl) (hw:swappedStores [tg] e X.env=pure none:=by rfl)
   (h1:(assignEach [tg] X.env).map (·.2)=[assign tg X.env]:=by rfl):JS X (.Assign [tg] e pos) (tS W G (zm t ma)) :=
 .of (zdc (znc ha.to hg.to hs hw h1) fun E σ H ⟨F,ρ,env,h,er,hr,w⟩=>⟨F,ρ,env,h,er,hr,wpS_bind w fun x h1 ρ1 H1 y e1 er1 hr1 r1 w1=>by
   unfold zhG at w1
   cases eb:zda t x env with
   | none=>rw [eb]at w1;exact w1.elim
   | some env1 =>
     rw [eb]at w1
     exact ⟨F,ρ1,env,h1,x,env1,er1,hr1,r1,eb,fun σ1 er2=>w1.done er2 hr1⟩⟩)
theorem zto {j:Nat}{y:Str}{px py pt:Pos}{kt k2 pt2} (hN:X.N.Nodup) (hi:X.N[i]?=some x) (hj:X.N[j]?=some y) (ha:JA X [a,b] (tA W G ml)) (hij:i≠j:=by decide)
   (hx:X.env.scope.names.lookup x=some .local:=by rfl) (hy:X.env.scope.names.lookup y=some .local:=by rfl) (hc:X.calm=true:=by rfl)
   (hw:swappedStores [.Tuple [.Name x px,.Name y py] kt pt] (.Tuple [a,b] k2 pt2) X.env=pure (some [x,y]):=by rfl)
   (hs:swapsWithSole [.Tuple [.Name x px,.Name y py] kt pt] (.Tuple [a,b] k2 pt2) pos.line X.env=pure false:=by rfl) :
   JS X (.Assign [.Tuple [.Name x px,.Name y py] kt pt] (.Tuple [a,b] k2 pt2) pos) (tS W G (zik [i,j] ml)) :=
 .of (zdc (zrZ hc hN hi hj hij hx hy ha.to hw hs) fun E σ H ⟨F,ρ,env,h,er,hr,w⟩=>⟨F,ρ,env,h,er,hr,wpS_bind w fun xs h1 ρ1 H1 ys e1 er1 hr1 r1 w1=>by
   have r1:RDs ρ1 H1 xs ys:=r1
   match xs,w1 with
   | [u,v],w1 =>
     unfold RDs at r1
     obtain ⟨u',q,rfl,ru,r1⟩:=r1
     unfold RDs at r1
     obtain ⟨v',q,rfl,rv,r1⟩:=r1
     unfold RDs at r1
     subst r1
     exact ⟨u',v',rfl,wpS.done (h:=h1) w1 ((er1.set ru i).set rv j) hr1⟩
   | [],w1=>exact w1.elim
   | [_],w1=>exact w1.elim
   | _ :: _ :: _ :: _,w1=>exact w1.elim⟩)
theorem zrM {op:Operator}{r:R2}{f:D->D->ME D} (hN:X.N.Nodup) (hi:X.N[i]?=some x) (hx:Loc X.env.scope x) (ho:OpR X (inplaceOp op) r) (hf:OpM W G f r) (ha:JE X e (tE W G ma))
   (hfn:X.fn x=true∨X.env.scope.names.lookup x=some .local):JS X (.AugAssign (.Name x p) op e pos) (tS W G (zgF f i ma)) :=
 .of (zdc (zuD (ti:=r) hN hi hx ha.to ho hfn) fun E σ H ⟨F,ρ,env,h,er,hr,w⟩=>by
   have w':wp F W G rV env σ ρ H ((zl (var i) fun x=>zl ma fun y=>f x y) env h) (fun z H2=>E.nx (σ.set i (some z)) H2):=wpS_bind w fun x h1 ρ1 H1 y e1 er1 hr1 r1 w1=>wpS.done (h:=h1) w1 (er1.set r1 i) hr1
   unfold zl var at w'
   cases ev:env[i]? with
   | none=>simp only [ev]at w';exact w'.elim
   | some od =>
     cases od with
     | none=>simp only [ev]at w';exact w'.elim
     | some d =>
       simp only [ev]at w'
       obtain ⟨v,h1,h2⟩:=er.all i d ev
       refine ⟨v,h1,F,ρ,env,h,er,hr,zC (k:=fun y=>f d y) w' fun y h1 ρ1 H1 u e1 er1 hr1 r1 w1=>?_⟩
       exact hf F ρ1 h1 H1 env σ d y v u _ er1 hr1 (RD.ext e1 _ _ h2) r1 w1)
theorem zrF (hN:X.N.Nodup) (hi:X.N[i]?=some x) (hx:Loc X.env.scope x) (ha:JE X e (tE W G ma)) (hfn:X.fn x=true∨X.env.scope.names.lookup x=some .local:=by first | exact .inl rfl | exact .inr rfl | assumption) :
   JS X (.AugAssign (.Name x p) .Add e pos) (tS W G (zgF zI i ma)):=zrM hN hi hx zv3 zli ha hfn
theorem FRs.length {C:Addr}:∀ {fs:List (Nat×D)}{vs:List (Str×V)},FRs G ρ H C fs vs->vs.length=fs.length
 | [],vs,r=>by unfold FRs at r;subst r;rfl
 | p :: fs,vs,r=>by
   unfold FRs at r
   obtain ⟨g,v,q,rfl,h1,h2,h3,h4⟩:=r
   simp [FRs.length h4]
theorem zhz {sub att:Nat->Nat->Bool}{kk:Nat}{f:Str} (ok:G.Ok sub att) (hf:G.an[kk]?=some f) (ho:JE X o (tE W G mo)) (ha:JE X e (tE W G ma)) (hs:swapsWith e (some (.Attribute o f p)) pos.line X.env=pure false) (hK:X.K=G.K:=by rfl) :
   JS X (.Assign [.Attribute o f p] e pos) (tS W G (zeP att kk mo ma)) :=
 .of (zdc (ztI ho.to ha.to hs) fun E σ H ⟨F,ρ,env,h,er,hr,w⟩=>⟨F,ρ,env,h,er,hr,wpS_bind w fun y h1 ρ1 H1 vy e1 er1 hr1 r1 w1=>⟨F,ρ1,env,h1,er1,hr1,wpS_bind w1 fun x h2 ρ2 H2 vx e2 er2 hr2 r2 w2=>by
   have r1:RD ρ2 H2 y vy:=RD.ext e2 _ _ r1
   have r2:RD ρ2 H2 x vx:=r2
   cases x with
   | obj n =>
     dsimp only at w2
     cases qo:h2[n]? with
     | none=>rw [qo]at w2;exact w2.elim
     | some o =>
       rw [qo]at w2
       cases o with
       | ins c fs =>
         dsimp only at w2
         obtain ⟨q,C,dx,vs,rfl,eq,hC,hq,rs⟩:=hr2.ins r2 qo
         by_cases hl:(att c kk && decide (fs.length < 100))=true
         . rw [if_pos hl]at w2
           rw [Bool.and_eq_true,decide_eq_true_eq]at hl
           have hn:=ok.noat c C kk f hC hl.1 hf
           refine ⟨q,C,dx,vs,rfl,hq,by rw [hK];exact (ok.cls c C hC).1,by rw [hK];exact hn,by rw [rs.length];omega,?_⟩
           have tp:Ext (fun _=>False) ρ2 ρ2 H2 (upd H2 q (.ins C dx (zb3 f vy vs))):=by
             refine ⟨⟨[],ς⟩,fun b xs z=>?_,fun _ z=>z.elim⟩
             rw [zU]
             . exact z
             . intro zz;subst zz;rw [hq]at z;cases z
           obtain ⟨ex,hr'⟩:=hr2.write (o1 := .ins c (zem kk y fs)) (u := .ins C dx (zb3 f vy vs)) qo eq rfl rfl hq trivial ⟨C,dx,_,hC,zb4,FRs.put ok.nd hf hn (RD.ext tp _ _ r1) (rs.map fun p _ v=>RD.ext tp _ _)⟩
           exact w2 ρ2 _ σ ex (er2.ext ex) hr'
         . rw [if_neg hl]at w2;exact w2.elim
       | _=>exact w2.elim
   | _=>exact w2.elim⟩⟩)
noncomputable def zrl:zhD:=fun o i v H Q=>∃ a H',o = .ref a∧zhE H a i v H'∧Q H'
theorem zvE (hr:zL k X.A):zgx X zrl:=fun pins s σ H o i v ov iv u Q I ro ri rv ⟨a,H',e,g,q⟩=>by
 subst e;cases ro
 exact zus (zit hr) I g ri rv fun s' I'=>⟨H',I',q⟩
theorem zr3 {t t':zhD} (h:zgx X t) (h':zgx X t'):zgx X (fun o i v H Q=>t o i v H Q∨t' o i v H Q):=fun pins s σ H o i v ov iv u Q I ro ri rv q=>by
 rcases q with q | q
 . exact h pins s σ H o i v ov iv u Q I ro ri rv q
 . exact h' pins s σ H o i v ov iv u Q I ro ri rv q
theorem KRs.any {kk:Int}:∀ {kvs:List (Int×D)}{vs:List (Key×V)},KRs ρ H kvs vs->(kvs.any fun p=>decide (p.1=kk))=(vs.any fun kv=>decide (kv.1=(Sum.inl kk:Key)))
 | [],vs,r=>by unfold KRs at r;subst r;rfl
 | p :: kvs,vs,r=>by
   unfold KRs at r
   obtain ⟨u,q,rfl,r1,r2⟩:=r
   rw [List.any_cons,List.any_cons,KRs.any r2]
   congr 1
   exact decide_eq_decide.mpr ⟨fun z=>by rw [z],fun z=>Sum.inl.inj z⟩
theorem KRs.repl {kk:Int}{d:D}{v:V} (rd:RD ρ H d v):∀ {kvs:List (Int×D)}{vs:List (Key×V)},KRs ρ H kvs vs->KRs ρ H (kvs.map fun p=>if p.1=kk then (p.1,d) else p) (vs.map fun kv=>if kv.1=Sum.inl kk then (kv.1,v) else kv)
 | [],vs,r=>by unfold KRs at r;subst r;simp [KRs]
 | p :: kvs,vs,r=>by
   unfold KRs at r
   obtain ⟨u,q,rfl,r1,r2⟩:=r
   rw [List.map_cons,List.map_cons]
   unfold KRs
   by_cases e:p.1=kk
   . rw [if_pos e,if_pos (by rw [e])]
     exact ⟨v,_,rfl,rd,KRs.repl rd r2⟩
   . rw [if_neg e,if_neg (fun z=>e (Sum.inl.inj z))]
     exact ⟨u,_,rfl,r1,KRs.repl rd r2⟩
theorem KRs.snoc {kk:Int}{d:D}{v:V} (rd:RD ρ H d v):∀ {kvs:List (Int×D)}{vs:List (Key×V)},KRs ρ H kvs vs->KRs ρ H (kvs++[(kk,d)]) (vs++[(Sum.inl kk,v)])
 | [],vs,r=>by
   unfold KRs at r;subst r
   show KRs ρ H [(kk,d)] [(Sum.inl kk,v)]
   unfold KRs
   exact ⟨v,[],rfl,rd,by unfold KRs;rfl⟩
 | p :: kvs,vs,r=>by
   unfold KRs at r
   obtain ⟨u,q,rfl,r1,r2⟩:=r
   rw [List.cons_append,List.cons_append]
   unfold KRs
   exact ⟨u,_,rfl,r1,KRs.snoc rd r2⟩
theorem KRs.put {kk:Int}{d:D}{v:V} (rd:RD ρ H d v) {kvs:List (Int×D)}{vs:List (Key×V)} (r:KRs ρ H kvs vs):KRs ρ H (zcr kk d kvs) (zcg vs (Sum.inl kk) v):=by
 unfold zcr zcg
 rw [r.any]
 by_cases e:(vs.any fun kv=>decide (kv.1=(Sum.inl kk:Key)))=true
 . rw [if_pos e,if_pos e];exact r.repl rd
 . rw [if_neg e,if_neg e];exact r.snoc rd
theorem KRs.length:∀ {kvs:List (Int×D)}{vs:List (Key×V)},KRs ρ H kvs vs->kvs.length=vs.length
 | [],vs,r=>by unfold KRs at r;subst r;rfl
 | p :: kvs,vs,r=>by
   unfold KRs at r
   obtain ⟨u,q,rfl,r1,r2⟩:=r
   simp [KRs.length r2]
theorem zmL (rm:zL k X.A) (ho:JE X o (tE W G mo)) (hb:JE X b (tE W G mb)) (ha:JE X e (tE W G ma)) (hs:swapsWithSole [.Subscript o b p] e pos.line X.env=pure false:=by rfl) (hw:swappedStores [.Subscript o b p] e X.env=pure none:=by rfl)
   (h1:(assignEach [.Subscript o b p] X.env).map (·.2)=[assign (.Subscript o b p) X.env]:=by rfl)
   (hq:∀ v,assign (.Subscript o b p) X.env v=(do
     let ov <- holding [v] (eval o X.env)
     let iv <- holding [v,ov] (eval b X.env)
     standAt p
     holding [v,ov,iv] (setItem ov iv v)
     release [v,ov,iv] []):=by intro _;rfl):JS X (.Assign [.Subscript o b p] e pos) (tS W G (zfq mo mb ma)) :=
 .of (zdc (znc ha.to (zwE ho.to hb.to (zr3 zux (zvE rm)) hq) hs hw h1) fun E σ H ⟨F,ρ,env,h,er,hr,w⟩=>⟨F,ρ,env,h,er,hr,wpS_bind w fun y h1 ρ1 H1 vy e1 er1 hr1 r1 w1=>⟨F,ρ1,env,h1,er1,hr1,wpS_bind w1 fun x h2 ρ2 H2 vx e2 er2 hr2 r2 w2=>⟨F,ρ2,env,h2,er2,hr2,wpS_bind w2 fun z h3 ρ3 H3 vz e3 er3 hr3 r3 w3=>by
   have r1:RD ρ3 H3 y vy:=RD.ext (e2.trans e3) _ _ r1
   have r2:RD ρ3 H3 x vx:=RD.ext e3 _ _ r2
   have r3:RD ρ3 H3 z vz:=r3
   cases x with
   | obj n =>
     cases z with
     | int j =>
       unfold RD at r3
       dsimp only at w3
       cases qo:h3[n]? with
       | none=>rw [qo]at w3;exact w3.elim
       | some o =>
         rw [qo]at w3
         cases o with
         | lst xs =>
           dsimp only at w3
           obtain ⟨q,vs,rfl,eq,hq,rs⟩:=hr3.lst r2 qo
           cases ej:ixN xs.length j with
           | none=>rw [ej]at w3;exact w3.elim
           | some jj =>
             rw [ej]at w3
             refine .inl ⟨q,vs,j,jj,rfl,r3,hq,by rw [<- rs.length];exact ej,?_⟩
             have tp:Ext (fun _=>False) ρ3 ρ3 H3 (upd H3 q (.lst (vs.set jj vy))):=by
               refine ⟨⟨[],ς⟩,fun b xs z=>?_,fun _ z=>z.elim⟩
               rw [zU]
               . exact z
               . intro zz;subst zz;rw [hq]at z;cases z
             obtain ⟨ex,hr'⟩:=hr3.write (o1 := .lst (xs.set jj y)) (u := .lst (vs.set jj vy)) qo eq rfl rfl hq trivial ⟨_,zb4,RDs.ext tp _ _ (RDs.set r1 jj rs)⟩
             exact w3 ρ3 _ σ ex (er3.ext ex) hr'
         | dic kvs =>
           dsimp only at w3
           obtain ⟨q,vs,rfl,eq,hq,rs⟩:=hr3.dic r2 qo
           by_cases hl:kvs.length < 1000000
           . rw [if_pos hl]at w3
             subst r3
             refine .inr ⟨q,_,rfl,zhE.k (k:=Sum.inl j) hq (by rw [<- rs.length,sizeLine_eq];omega),?_⟩
             have tp:Ext (fun _=>False) ρ3 ρ3 H3 (upd H3 q (.dK (zcg vs (Sum.inl j) vy))):=by
               refine ⟨⟨[],ς⟩,fun b xs z=>?_,fun _ z=>z.elim⟩
               rw [zU]
               . exact z
               . intro zz;subst zz;rw [hq]at z;cases z
             obtain ⟨ex,hr'⟩:=hr3.write (o1 := .dic (zcr j y kvs)) (u := .dK (zcg vs (Sum.inl j) vy)) qo eq rfl rfl hq trivial ⟨_,zb4,KRs.put (RD.ext tp _ _ r1) (rs.map fun p _ v=>RD.ext tp _ _)⟩
             exact w3 ρ3 _ σ ex (er3.ext ex) hr'
           . rw [if_neg hl]at w3;exact w3.elim
         | _=>exact w3.elim
     | _=>exact w3.elim
   | _=>cases z <;> exact w3.elim⟩⟩⟩)
end
end MI
end
section
namespace MI
open PySem PySem.Spec L2
noncomputable def zij (G:GP) (F:Addr->Prop) (ρ:List Addr) (H:Hp) (J:It) (p:Src):Prop :=
 ∀ (F':Addr->Prop) (ρ':List Addr) (h':MH) (H':Hp) (i:Nat),Ext F ρ ρ' H H'->HR F' G ρ' h' H'->guard p.2 h'=true ->
   (∀ d,p.1[i]?=some d->J.go i H'∧∀ x H2,J.yld i H' x H2->Ext F' ρ' ρ' H' H2∧HR F' G ρ' h' H2∧RD ρ' H2 d x)∧(p.1.length<=i->J.stop i H')
noncomputable def rI (G:GP):RL Src It:=fun F ρ _ H p J=>zij G F ρ H J p
noncomputable abbrev tI (W:Nat->Hp->Prop) (G:GP) (m:ME Src):TI:=tG W G (rI G) m
section
variable {W:Nat->Hp->Prop}{X:Cx}{F:Addr->Prop}{G:GP}{env:zr}{σ:L2.St}{ρ:List Addr}{H:Hp}{h:MH}{a b c e o tg:Expr}{ma mb:ME D}{pos p p1:Pos}{k:Nat}
theorem zkE {n:Nat}{ob:O}{gs:List (Nat×O)} (g:guard gs h=true) (hm:(n,ob)∈gs):h[n]?=some ob:=by
 unfold guard at g
 rw [List.all_eq_true]at g
 exact of_decide_eq_true (g (n,ob) hm)
theorem zwu {n:Nat}{q:Addr}{xs:List D} (hK:X.K=G.K) (eq:ρ[n]?=some q):zij G F ρ H (Itl X.K q) (xs,[(n,.lst xs)]):=by
 intro F' ρ' h' H' i ex hr g
 have e:=zkE g (List.mem_singleton.mpr rfl)
 have eq':=ex.get eq
 obtain ⟨vs,hq,rs⟩:=hr.at e eq'
 refine ⟨fun d hd=>?_,fun hl=>⟨vs,SqL.of hq,by rw [<- rs.length];exact hl⟩⟩
 obtain ⟨v,e1,e2⟩:=rs.get hd
 refine ⟨⟨vs,v,SqL.of hq,e1⟩,fun x H2 ⟨y1,y2⟩=>?_⟩
 subst y1
 have:=y2 vs (SqL.of hq)
 rw [e1]at this;cases this
 exact ⟨Ext.refl,hr,e2⟩
theorem zcN (ha:JE X a (tE W G ma)) (hK:X.K=G.K:=by rfl):JI X tg a (tI W G (itL ma)) :=
 .of (zjx (zut ha.to) fun σ H Q ⟨F,ρ,env,h,er,hr,w⟩=>⟨F,ρ,env,h,er,hr,zC w fun x h1 ρ1 H1 y e1 er1 hr1 r1 w1=>by
   cases x with
   | obj n =>
     simp only [zjO]at w1
     cases qo:h1[n]? with
     | none=>rw [qo]at w1;exact w1.elim
     | some o =>
       rw [qo]at w1
       cases o with
       | lst xs =>
         obtain ⟨q,vs,rfl,eq,hq,rs⟩:=hr1.lst r1 qo
         exact ⟨q,rfl,⟨vs,SqL.of hq⟩,w1.done er1 hr1 (zwu hK eq)⟩
       | _=>exact w1.elim
   | _=>exact w1.elim⟩)
theorem ziq (hg:Gl X "range") (hm:X.mg "range" = none) (ha:JE X a (tE W G ma)) (hs:starEach [a] X.env=(false,eval a X.env) :: starEach [] X.env):JI X tg (.Call (.Name "range" p) [a] [] pos) (tI W G (itR ma)) :=
 .of (zjx (zvt hg hm (zcd ha.to zcu hs) (hs.trans ϱ)) fun σ H Q ⟨F,ρ,env,h,er,hr,w⟩=>zdp ⟨F,ρ,env,h,er,hr,zC w fun x h1 ρ1 H1 y e1 er1 hr1 r1 w1=>by
   have r1:RD ρ1 H1 x y:=r1
   cases x with
   | int i =>
     unfold RD at r1
     subst r1
     by_cases hl:-1000000<=i∧i<=1000000
     . dsimp only at w1
       rw [if_pos hl]at w1
       refine ⟨i,rfl,ω,ω,w1 ρ1 H1 (Itr 0 i.toNat) Ext.refl er1 hr1 ?_⟩
       intro F' ρ' h' H' j _ hr' _
       refine ⟨fun d hd=>?_,fun hj=>by rw [List.length_map,List.length_range]at hj;exact hj⟩
       have hj:j < i.toNat:=by
         have:=(List.getElem?_eq_some_iff.mp hd).1
         simpa using this
       refine ⟨hj,fun x H2 ⟨y1,y2⟩=>?_⟩
       subst y1 y2
       rw [List.getElem?_map,List.getElem?_range hj]at hd
       cases hd
       exact ⟨Ext.refl,hr',by unfold RD;simp⟩
     . dsimp only at w1
       rw [if_neg hl]at w1;exact w1.elim
   | _=>exact w1.elim⟩)
variable {mt:ME Bool}{m1:MS}{bd:List Stmt}{E:ze0}{r:RS}{kk:MS}
theorem znl {N:L2.St->Hp->Prop} (w:wpS F W G ρ H (zeM r kk) E) (f:∀ e1 h1 ρ1 H1 σ1,Ext F ρ ρ1 H H1->zV ρ1 H1 e1 σ1->HR F G ρ1 h1 H1->wpS F W G ρ1 H1 (kk e1 h1) E->N σ1 H1):wpS F W G ρ H r { E with nx:=N,ct:=N,bk:=E.nx }:=by
 cases r with
 | nx e1 h1=>exact fun ρ1 H1 σ1 ex er hr=>f e1 h1 ρ1 H1 σ1 ex er hr (wpS.mono (r:=kk e1 h1) w ex)
 | ct e1 h1=>exact fun ρ1 H1 σ1 ex er hr=>f e1 h1 ρ1 H1 σ1 ex er hr (wpS.mono (r:=kk e1 h1) w ex)
 | bk e1 h1=>exact w
 | rt v h1=>exact w
 | ex c h1=>exact w
 | bad=>exact w
theorem zlz (hp:PassesOwn (model X.prog X.w) X.A X.env X.xe) (hc:JT X c (tT W G mt)) (hb:JSs X bd (tS W G m1)):JS X (.While c bd [] pos) (tS W G (zhs mt m1)) :=
 .of (zdc (ztR hp hc.to hb.to) fun E σ H ⟨F,ρ,env,h,er,hr,w⟩=>by
   refine ⟨fun n σ H=>∃ ρ env h,zV ρ H env σ∧HR F G ρ h H∧wpS F W G ρ H (ze2 mt m1 n env h) E,⟨1000000,ρ,env,h,er,hr,w⟩,?_⟩
   rintro n σ H ⟨ρ,env,h,er,hr,w⟩
   cases n with
   | zero=>exact w.elim
   | succ n =>
     refine ⟨F,ρ,env,h,er,hr,wpS_bind w fun x h1 ρ1 H1 y e1 er1 hr1 r1 w1=>?_⟩
     obtain rfl:x=y:=r1
     cases x with
     | true =>
       rw [if_pos rfl]at w1 ⊢
       exact ⟨_,fun σ' H' z=>z,F,ρ1,env,h1,er1,hr1,znl w1 fun e2 h2 ρ2 H2 σ2 ex2 er2 hr2 w2=>⟨n,Nat.lt_succ_self n,ρ2,e2,h2,er2,hr2,w2⟩⟩
     | false =>
       rw [if_neg ϑ]at w1 ⊢
       exact wpS.done (h:=h1) w1 er1 hr1)
variable {ms:ME Src}{t:Tg}{iter:Expr}
theorem zud {p:Src}{J:It}{ρ1:List Addr}{H1:Hp}{h1:MH} (src:zij G F ρ1 H1 J p) (er1:zV ρ1 H1 env σ) (hr1:HR F G ρ1 h1 H1) (w1:wpS F W G ρ1 H1 (zc2 t p.2 m1 p.1 env h1) E) :
   ∃ Wv:Nat->Nat->L2.St->Hp->Prop,(∃ m,Wv 0 m σ H1)∧∀ i m σ H,Wv i m σ H ->
     (J.stop i H∧E.nx σ H)∨(J.go i H∧∃ N:L2.St->Hp->Prop,(∀ σ' H',N σ' H'->∃ m',m' < m∧Wv (i+1) m' σ' H')∧∀ x H',J.yld i H x H'->tTg G t x σ H' fun σ2 H2=>tS W G m1 { E with nx:=N,ct:=N,bk:=E.nx } σ2 H2):=by
 refine ⟨fun i m σ H=>∃ ρ env h,Ext F ρ1 ρ H1 H∧zV ρ H env σ∧HR F G ρ h H∧m=p.1.length - i∧i<=p.1.length∧wpS F W G ρ H (zc2 t p.2 m1 (p.1.drop i) env h) E,⟨p.1.length,ρ1,env,h1,Ext.refl,er1,hr1,ς,Nat.zero_le _,by simpa using w1⟩,?_⟩
 rintro i m σ H ⟨ρ,env,h,ex,er,hr,rfl,hi,w⟩
 by_cases hlt:i < p.1.length
 . right
   have ed:p.1.drop i=p.1[i] :: p.1.drop (i+1):=List.drop_eq_getElem_cons hlt
   rw [ed]at w
   simp only [zc2]at w
   by_cases g:guard p.2 h=true
   . rw [if_pos g]at w
     obtain ⟨s1,_⟩:=src F ρ h H i ex hr g
     obtain ⟨go,yl⟩:=s1 p.1[i] (List.getElem?_eq_getElem hlt)
     refine ⟨go,_,fun σ' H' z=>z,fun x H' hy=>?_⟩
     obtain ⟨ex2,hr2,rd⟩:=yl x H' hy
     cases eb:zda t p.1[i] env with
     | none=>rw [eb]at w;exact w.elim
     | some env1 =>
       rw [eb]at w
       refine ⟨F,ρ,env,h,p.1[i],env1,er.ext ex2,hr2,rd,eb,fun σ1 er3=>⟨F,ρ,env1,h,er3,hr2,znl (wpS.mono (r:=zeM (m1 env1 h) (zc2 t p.2 m1 (p.1.drop (i+1)))) w ex2) fun e4 h4 ρ4 H4 σ4 ex4 er4 hr4 w4=>?_⟩⟩
       exact ⟨p.1.length - (i+1),ω,ρ4,e4,h4,(ex.trans ex2).trans ex4,er4,hr4,rfl,hlt,w4⟩
   . rw [if_neg g]at w;exact w.elim
 . left
   have ei:i=p.1.length:=by omega
   rw [List.drop_eq_nil_of_le ω]at w
   simp only [zc2]at w
   by_cases g:guard p.2 h=true
   . rw [if_pos g]at w
     exact ⟨(src F ρ h H i ex hr g).2 ω,w.done er hr⟩
   . rw [if_neg g]at w;exact w.elim
theorem zeW (hp:PassesOwn (model X.prog X.w) X.A X.env X.xe) (hi:JI X tg iter (tI W G ms)) (hg:JG X tg (tTg G t)) (hb:JSs X bd (tS W G m1)) (hc:X.calm=true:=by rfl) (hs:∀ x,foldedSetIterable iter X.env x=pure x:=by intro _;rfl) :
   JS X (.For tg iter bd [] pos) (tS W G (zcY t ms m1)) :=
 .of (zdc (zv7 hp hc hi.to hg.to hb.to hs) fun E σ H ⟨F,ρ,env,h,er,hr,w⟩=>⟨F,ρ,env,h,er,hr,wpS_bind w fun p h1 ρ1 H1 J e1 er1 hr1 src w1=>zud src er1 hr1 w1⟩)
theorem znA {α β γ δ:Type}{Rl:RL α β}{Rl':RL γ δ}{F':Addr->Prop}{env1:zr}{σ1:L2.St} (sub:∀ b,F b->F' b) {m:ME α}{k:α->ME γ}{Q:δ->Hp->Prop}{P:β->Hp->Prop} (w:wp F W G Rl' env σ ρ H (zl m k env1 h) Q)
   (f:∀ x h1 ρ1 H1 y,Ext F' ρ ρ1 H H1->zV ρ1 H1 env1 σ1->HR F' G ρ1 h1 H1->Rl F' ρ1 h1 H1 x y->wp F W G Rl' env σ ρ1 H1 (k x env1 h1) Q->P y H1):wp F' W G Rl env1 σ1 ρ H (m env1 h) P:=by
 unfold zl at w
 cases e:m env1 h with
 | ok v h1 =>
   rw [e]at w
   exact fun ρ1 H1 y ex er hr rl=>f v h1 ρ1 H1 y ex er hr rl (w.mono (ex.sub sub))
 | ex c h1=>rw [e]at w;exact fun ρ1 H1 ex hr=>w ρ1 H1 (ex.sub sub) (hr.sub sub)
 | bad=>rw [e]at w;exact w
theorem zwn {js:List (Option Nat)} (er:zV ρ H env σ):zV ρ H (zbH js env) (zfn js σ):=by
 refine ⟨by simp [zbH,zfn],fun i d e=>?_⟩
 unfold zbH at e
 unfold zfn
 rw [List.getElem?_map]at e ⊢
 cases ej:js[i]? with
 | none=>rw [ej]at e;cases e
 | some j =>
   rw [ej]at e
   cases j with
   | none=>cases e
   | some kk =>
     have e2:(env[kk]?).join=some d:=Option.some.inj e
     cases ek:env[kk]? with
     | none=>rw [ek]at e2;cases e2
     | some od =>
       rw [ek]at e2
       have e3:od=some d:=e2
       subst e3
       obtain ⟨v,h1,h2⟩:=er.all kk d ek
       refine ⟨v,?_,h2⟩
       show some ((σ[kk]?).join)=_
       rw [h1];rfl
variable {N:List Str}{js:List (Option Nat)}{scope:Scope}{elt:Expr}{ifs:List Expr}{cond:ME Bool}{me:ME D}
theorem zvZ {t:Tg}{Q:VK}{p:Src}{J:It}{ρ1:List Addr}{H1:Hp}{h1:MH} (hlen:p.1.length<=1000000) (src:zij G F ρ1 H1 J p) (er1:zV ρ1 H1 env σ) (hr1:HR F G ρ1 h1 H1) (w1:wp F W G (rN G.K) env σ ρ1 H1 (zcm t p.2 cond me p.1 [] (zbH js env) h1) Q) (D:Addr) (hD:H1 D=none) :
   zkk J (tTg G t) (tT W G cond) (tE W G me) D σ H1 js Q:=by
 have nF:¬ F D:=(hr1.fresh hD).1
 have hr1':HR F G ρ1 h1 (upd H1 D (.lst [])):=hr1.new hD
 have frD:=hr1.fresh hD
 refine ⟨fun i m σ' H'=>∃ ρ' env' h' acc vs,Ext F ρ1 ρ' H1 H'∧zV ρ' H' env' σ'∧HR F G ρ' h' H'∧H' D=some (.lst vs)∧zeZ F ρ' h' D∧RDs ρ' H' acc vs∧acc.length<=i∧m=p.1.length - i∧i<=p.1.length ∧
   wp F W G (rN G.K) env σ ρ' H' (zcm t p.2 cond me (p.1.drop i) acc env' h') Q,⟨p.1.length,ρ1,zbH js env,h1,[],[],zb1 hr1 hD,zwn (er1.ext (zb1 hr1 hD)),hr1',zb4,frD,RDs.nil,Nat.le_refl _,ς,Nat.zero_le _,by simpa using w1.mono (zb1 hr1 hD)⟩,?_⟩
 rintro i m σ' H' ⟨ρ',env',h',acc,vs,ex,er',hr',hD',fr,rs,hal,rfl,hi,w⟩
 have sub:∀ b,F b->(F b∨b=D):=fun b hb=> .inl hb
 have hrF:HR (fun b=>F b∨b=D) G ρ' h' H':=⟨fun b hb=>by
   rcases hb with hb | rfl
   . exact hr'.pro b hb
   . exact ⟨⟨_,hD'⟩,fr.2⟩,hr'.nd,hr'.len,hr'.all⟩
 by_cases hlt:i < p.1.length
 . right
   have ed:p.1.drop i=p.1[i] :: p.1.drop (i+1):=List.drop_eq_getElem_cons hlt
   rw [ed]at w
   simp only [zcm]at w
   by_cases g:guard p.2 h'=true
   . rw [if_pos g]at w
     obtain ⟨s1,_⟩:=src _ ρ' h' H' i ex hrF g
     obtain ⟨go,yl⟩:=s1 p.1[i] (List.getElem?_eq_getElem hlt)
     refine ⟨go,fun x H2 hy=>?_⟩
     obtain ⟨ex2,hr2,rd⟩:=yl x H2 hy
     cases eb:zda t p.1[i] env' with
     | none=>rw [eb]at w;exact w.elim
     | some env1 =>
       rw [eb]at w
       refine ⟨_,ρ',env',h',p.1[i],env1,er'.ext ex2,hr2,rd,eb,fun σ2 er3=>⟨_,ρ',env1,h',er3,hr2,znA sub (w.mono (ex2.sub sub)) fun b h3 ρ3 H3 b' ex3 er3' hr3 rb w3=>?_⟩⟩
       obtain rfl:b=b':=rb
       have hD3:H3 D=some (.lst vs):=by rw [ex3.frm D (.inr rfl),ex2.frm D (.inr rfl)];exact hD'
       cases b with
       | true =>
         rw [if_pos rfl]at w3 ⊢
         refine ⟨_,ρ3,env1,h3,er3',hr3,znA sub w3 fun y h4 ρ4 H4 vy ex4 er4 hr4 ry w4=>?_⟩
         have hD4:H4 D=some (.lst vs):=by rw [ex4.frm D (.inr rfl)];exact hD3
         have fr4:zeZ F ρ4 h4 D:=⟨nF,(hr4.pro D (.inr rfl)).2⟩
         have exA:Ext F ρ' ρ4 H' H4:=((ex2.trans ex3).trans ex4).sub sub
         have rs4:RDs ρ4 H4 acc vs:=RDs.ext exA _ _ rs
         obtain ⟨ex5,hr5⟩:=(hr4.sub sub).upd_free (ys:=vs++[vy]) fr4 hD4
         refine ⟨vs,hD4,by have:=rs.length;rw [sizeLine_eq];omega,p.1.length - (i+1),ω,ρ4,env1,h4,acc++[y],vs++[vy],(ex.trans exA).trans ex5,er4.ext ex5,hr5,zb4,fr4,RDs.ext ex5 _ _ (rs4.snoc ry),by simp;omega,rfl,hlt,w4.mono ex5⟩
       | false =>
         rw [if_neg ϑ]at w3 ⊢
         have exA:Ext F ρ' ρ3 H' H3:=(ex2.trans ex3).sub sub
         exact ⟨p.1.length - (i+1),ω,ρ3,env1,h3,acc,vs,ex.trans exA,er3',hr3.sub sub,hD3,⟨nF,(hr3.pro D (.inr rfl)).2⟩,RDs.ext exA _ _ rs,ω,rfl,hlt,w3⟩
   . rw [if_neg g]at w;exact w.elim
 . left
   rw [List.drop_eq_nil_of_le ω]at w
   simp only [zcm]at w
   by_cases g:guard p.2 h'=true
   . rw [if_pos g]at w
     exact ⟨(src F ρ' h' H' i ex hr' g).2 ω,w.done (er1.ext ex) hr' ⟨D,vs,rfl,hD',fr,rs⟩⟩
   . rw [if_neg g]at w;exact w.elim
theorem zm1 {t:Tg}{Q:VK} (w:tN W G (zbR js t ms cond me) σ H Q):zjG js (tI W G ms) (tTg G t) (tT W G cond) (tE W G me) σ H Q:=by
 obtain ⟨F,ρ,env,h,er,hr,w⟩:=w
 refine ⟨F,ρ,env,h,er,hr,zC w fun p h1 ρ1 H1 J e1 er1 hr1 src w1=>fun D hD=>?_⟩
 by_cases hlen:p.1.length<=1000000
 . rw [if_pos hlen]at w1
   exact zvZ hlen src er1 hr1 w1 D hD
 . rw [if_neg hlen]at w1;exact w1.elim
theorem zdj:zej X [] (tT W G zbP) := .of (fun pins s σ H Q I ⟨F,ρ,env,h,er,hr,w⟩=>zt8 pins s σ H Q I (wp.done (h:=h) w er hr rfl))
theorem zdB {t:Tg} (hc:X.calm=true) (S:zbI X scope N js) (hi:JI X tg iter (tI W G ms)) (hg:∀ cl s₀ H₀ fp,JG (zb7 X scope N cl s₀ H₀ fp) tg (tTg G t)) (hf:∀ cl s₀ H₀ fp,zej (zb7 X scope N cl s₀ H₀ fp) ifs (tT W G cond))
   (he:∀ cl s₀ H₀ fp,JE (zb7 X scope N cl s₀ H₀ fp) elt (tE W G me)) (hs:∀ x,foldedSetIterable iter X.env x=pure x:=by intro _;rfl):JE X (.ListComp elt [⟨tg,iter,ifs,0⟩] scope pos) (tN W G (zbR js t ms cond me)) :=
 .of (zT (zr4 hc S hi.to ⟨fun cl s₀ H₀ fp=>⟨(hg cl s₀ H₀ fp).to,(hf cl s₀ H₀ fp).to,(he cl s₀ H₀ fp).to⟩⟩ hs) fun σ H Q w=>zm1 w)
theorem zwM {t:Tg}{j:Nat}{y:Str}{py spos:Pos} (hc:X.calm=true) (hN:X.N.Nodup) (hj:X.N[j]?=some y) (hy:X.env.scope.names.lookup y=some .local) (S:zbI X scope N js) (hi:JI X tg iter (tI W G ms))
   (hg:∀ cl s₀ H₀ fp,JG (zb7 X scope N cl s₀ H₀ fp) tg (tTg G t)) (hf:∀ cl s₀ H₀ fp,zej (zb7 X scope N cl s₀ H₀ fp) ifs (tT W G cond)) (he:∀ cl s₀ H₀ fp,JE (zb7 X scope N cl s₀ H₀ fp) elt (tE W G me))
   (hsw:swapsWith (.ListComp elt [⟨tg,iter,ifs,0⟩] scope pos) (some (.Name y py)) spos.line X.env=pure true:=by rfl) (hs:∀ x,foldedSetIterable iter X.env x=pure x:=by intro _;rfl) :
   JS X (.Assign [.Name y py] (.ListComp elt [⟨tg,iter,ifs,0⟩] scope pos) spos) (tS W G (zm (.nm j) (zM (zbR js t ms cond me)))) :=
 .of (zdc (zrJ hc hN hj hy S hi.to ⟨fun cl s₀ H₀ fp=>⟨(hg cl s₀ H₀ fp).to,(hf cl s₀ H₀ fp).to,(he cl s₀ H₀ fp).to⟩⟩ hsw hs) fun E σ H ⟨F,ρ,env,h,er,hr,w⟩=>zm1 ⟨F,ρ,env,h,er,hr,by
   have w':wp F W G rV env σ ρ H (zM (zbR js t ms cond me) env h) (fun z H2=>E.nx (σ.set j (some z)) H2):=wpS_bind w fun x h1 ρ1 H1 y e1 er1 hr1 r1 w1=>wpS.done (h:=h1) w1 (er1.set r1 j) hr1
   exact zC w' fun xs h1 ρ1 H1 y e1 er1 hr1 ⟨q,vs,ey,hq,fr,rs⟩ w1=>by subst ey;exact zls w1 er1 hr1 hq fr rs⟩)
end
end MI
end
section
namespace MI
open PySem PySem.Spec L2
noncomputable def O.bd (n:Nat):O->Prop
 | .lst xs=>bds n xs
 | .scr xs=>bds n xs
 | .dic kvs=>∀ p∈kvs,p.2.bd n
 | .hole=>True
 | .set _=>True
 | .ins _ fs=>∀ p∈fs,p.2.bd n
section
variable {F:Addr->Prop}{G:GP}{ρ ρ1 ρ2 ρ':List Addr}{H H1 H2:Hp}{h h1 h2:MH}{a:Addr}{o:O}{n:Nat}
theorem KRs.mem {kvs:List (Int×D)}:∀ {vs:List (Key×V)},KRs ρ H kvs vs->∀ p∈kvs,∃ v,RD ρ H p.2 v:=by
 induction kvs with
 | nil=>intro vs r p hp;cases hp
 | cons q kvs ih =>
   intro vs r p hp
   unfold KRs at r
   obtain ⟨v,w,rfl,r1,r2⟩:=r
   rcases List.mem_cons.mp hp with rfl | hp
   . exact ⟨v,r1⟩
   . exact ih r2 p hp
theorem FRs.mem {C:Addr}{kvs:List (Nat×D)}:∀ {vs:List (Str×V)},FRs G ρ H C kvs vs->∀ p∈kvs,∃ v,RD ρ H p.2 v:=by
 induction kvs with
 | nil=>intro vs r p hp;cases hp
 | cons q kvs ih =>
   intro vs r p hp
   unfold FRs at r
   obtain ⟨f,v,w,rfl,_,_,r1,r2⟩:=r
   rcases List.mem_cons.mp hp with rfl | hp
   . exact ⟨v,r1⟩
   . exact ih r2 p hp
theorem RO.bd (r:RO G ρ H a o):o.bd ρ.length:=by
 cases o with
 | lst xs=>obtain ⟨vs,_,r⟩:=r;exact RDs.bd _ _ r
 | scr xs=>obtain ⟨vs,_,r⟩:=r;exact RDs.bd _ _ r
 | dic kvs=>obtain ⟨vs,_,r⟩:=r;exact fun p hp=>let ⟨v,q⟩:=r.mem p hp;RD.bd _ _ q
 | hole=>trivial
 | set xs=>trivial
 | ins c fs=>obtain ⟨C,dx,vs,_,_,r⟩:=r;exact fun p hp=>let ⟨v,q⟩:=r.mem p hp;RD.bd _ _ q
theorem zlG:∀ {ds:List D},nrs ds=true->∀ d∈ds,d.nr=true
 | [],_,d,hd=>by cases hd
 | x :: ds,h,d,hd=>by
   unfold nrs at h
   rw [Bool.and_eq_true]at h
   rcases List.mem_cons.mp hd with rfl | hd
   . exact h.1
   . exact zlG h.2 d hd
theorem O.flat_bd (f:o.flat=true):o.bd n:=by
 cases o with
 | lst xs=>exact zjH xs f
 | scr xs=>cases f
 | dic kvs=>exact fun p hp=>D.nr_bd _ (zlG f _ (List.mem_map_of_mem hp))
 | hole=>cases f
 | set xs=>trivial
 | ins c fs=>cases f
theorem KRs.cut {kvs:List (Int×D)} (e:∀ m,m < n->ρ1[m]?=ρ[m]?):∀ {vs:List (Key×V)},KRs ρ H kvs vs->(∀ p∈kvs,p.2.bd n)->KRs ρ1 H kvs vs:=by
 induction kvs with
 | nil=>intro vs r _;exact r
 | cons q kvs ih =>
   intro vs r b
   unfold KRs at r ⊢
   obtain ⟨v,w,e1,r1,r2⟩:=r
   exact ⟨v,w,e1,RD.cut e _ _ (b q List.mem_cons_self) r1,ih r2 fun p hp=>b p (List.mem_cons_of_mem _ hp)⟩
theorem FRs.cut {C:Addr}{kvs:List (Nat×D)} (e:∀ m,m < n->ρ1[m]?=ρ[m]?):∀ {vs:List (Str×V)},FRs G ρ H C kvs vs->(∀ p∈kvs,p.2.bd n)->FRs G ρ1 H C kvs vs:=by
 induction kvs with
 | nil=>intro vs r _;exact r
 | cons q kvs ih =>
   intro vs r b
   unfold FRs at r ⊢
   obtain ⟨f,v,w,e1,e2,e3,r1,r2⟩:=r
   exact ⟨f,v,w,e1,e2,e3,RD.cut e _ _ (b q List.mem_cons_self) r1,ih r2 fun p hp=>b p (List.mem_cons_of_mem _ hp)⟩
theorem RO.cut (r:RO G ρ H a o) (b:o.bd n) (e:∀ m,m < n->ρ1[m]?=ρ[m]?):RO G ρ1 H a o:=by
 cases o with
 | lst xs=>obtain ⟨vs,h1,r⟩:=r;exact ⟨vs,h1,RDs.cut e _ _ b r⟩
 | scr xs=>obtain ⟨vs,h1,r⟩:=r;exact ⟨vs,h1,RDs.cut e _ _ b r⟩
 | dic kvs=>obtain ⟨vs,h1,r⟩:=r;exact ⟨vs,h1,r.cut e b⟩
 | hole=>exact r
 | set xs=>exact r
 | ins c fs=>obtain ⟨C,dx,vs,h1,h2,r⟩:=r;exact ⟨C,dx,vs,h1,h2,r.cut e b⟩
theorem HR.select (hr:HR F G ρ2 h2 H2) {os:List Nat}{objs:MH}{ρ':List Addr} (nd:os.Nodup) (hl:objs.length=os.length) (hl':ρ'.length=os.length) (ha:∀ (j i:Nat),os[j]?=some i->ρ'[j]?=ρ2[i]?)
   (hA:∀ (j i:Nat) ob,os[j]?=some i->objs[j]?=some ob->∃ a ob2,ρ2[i]?=some a∧h2[i]?=some ob2∧ob.isScr=ob2.isScr∧RO G ρ' H2 a ob):HR F G ρ' objs H2:=by
 have org:∀ (j:Nat) b ob,ρ'[j]?=some b->objs[j]?=some ob->∃ i ob2,os[j]?=some i∧ρ2[i]?=some b∧h2[i]?=some ob2∧ob.isScr=ob2.isScr∧RO G ρ' H2 b ob:=fun j b ob e1 e2=>by
   have hj:j < os.length:=by rw [<- hl];exact (List.getElem?_eq_some_iff.mp e2).1
   have ei:=List.getElem?_eq_getElem hj
   obtain ⟨a,ob2,h3,h4,h5,h6⟩:=hA j _ ob ei e2
   have:=ha j _ ei
   rw [e1,h3]at this;cases this
   exact ⟨_,ob2,ei,h3,h4,h5,h6⟩
 refine ⟨fun b hb=>⟨(hr.pro b hb).1,fun m ob e1 e2=>?_⟩,fun m m' b ob ob' hne e1 e2 e3 e4=>?_,by rw [hl,hl'],fun m ob e=>?_⟩
 . obtain ⟨i,ob2,_,h3,h4,h5,_⟩:=org m b ob e1 e2
   rw [h5];exact (hr.pro b hb).2 i ob2 h3 h4
 . obtain ⟨i,ob2,f1,h3,h4,h5,_⟩:=org m b ob e1 e3
   obtain ⟨i',ob2',f1',h3',h4',h5',_⟩:=org m' b ob' e2 e4
   rw [h5,h5']
   refine hr.nd i i' b ob2 ob2' (fun z=>hne ?_) h3 h3' h4 h4'
   subst z
   obtain ⟨g1,g2⟩:=List.getElem?_eq_some_iff.mp f1
   obtain ⟨g1',g2'⟩:=List.getElem?_eq_some_iff.mp f1'
   exact (List.getElem_inj nd).mp (g2.trans g2'.symm)
 . have hm:m < os.length:=by rw [<- hl];exact (List.getElem?_eq_some_iff.mp e).1
   obtain ⟨a,ob2,h3,h4,h5,h6⟩:=hA m _ ob (List.getElem?_eq_getElem hm) e
   exact ⟨a,by rw [ha m _ (List.getElem?_eq_getElem hm)];exact h3,h6⟩
noncomputable def RlP (n b:Nat) (h2:MH) (ds:List D) (ms:List Nat) (ds':List D) (ms':List Nat):Prop:=(∃ t,ms'=ms++t)∧ms'.Nodup∧(∀ m∈ms',n<=m∧∃ o,h2[m]?=some o∧o.flat=true) ∧
   ∀ (ρ2 ρ':List Addr) (H:Hp) (vs:List V),(∀ i,i < n->ρ'[i]?=ρ2[i]?)->(∀ (j m:Nat),ms'[j]?=some m->ρ'[b+j]?=ρ2[m]?)->RDs ρ2 H ds vs->RDs ρ' H ds' vs
theorem zin {b:Nat}:∀ {ds:List D}{ms:List Nat}{ds':List D}{ms':List Nat},zcc n b h2 ds ms=some (ds',ms')->ms.Nodup->(∀ m∈ms,n<=m∧∃ o,h2[m]?=some o∧o.flat=true)->RlP n b h2 ds ms ds' ms'
 | [],ms,ds',ms',e,nd,hm=>by
   simp only [zcc]at e
   cases e
   exact ⟨⟨[],ς⟩,nd,hm,fun ρ2 ρ' H vs _ _ r=>by unfold RDs at r ⊢;exact r⟩
 | d :: ds,ms,ds',ms',e,nd,hm=>by
   have plain:∀ {q:List D×List Nat},d.bd n->zcc n b h2 ds ms=some q->ds'=d :: q.1->ms'=q.2->RlP n b h2 (d :: ds) ms ds' ms':=fun {q} hd e' e1 e2=>by
     subst e1 e2
     obtain ⟨h3,h4,h5,h6⟩:=zin (ds':=q.1) (ms':=q.2) e' nd hm
     refine ⟨h3,h4,h5,fun ρ2 ρ' H vs g1 g2 r=>?_⟩
     unfold RDs at r ⊢
     obtain ⟨x,w,e3,r1,r2⟩:=r
     exact ⟨x,w,e3,RD.cut g1 _ _ hd r1,h6 ρ2 ρ' H w g1 g2 r2⟩
   have byNr:d.nr=true->(if d.nr=true then (zcc n b h2 ds ms).map fun p=>(d :: p.1,p.2) else none)=some (ds',ms')->RlP n b h2 (d :: ds) ms ds' ms':=fun hn e=>by
     rw [if_pos hn,Option.map_eq_some_iff]at e
     obtain ⟨q,e1,e2⟩:=e
     cases e2
     exact plain (D.nr_bd d hn) e1 rfl rfl
   cases d with
   | obj m =>
     simp only [zcc]at e
     by_cases h1:m < n
     . rw [if_pos h1,Option.map_eq_some_iff]at e
       obtain ⟨q,e1,e2⟩:=e
       cases e2
       exact plain (by unfold D.bd;exact h1) e1 rfl rfl
     . rw [if_neg h1]at e
       by_cases h3:m∈ms
       . rw [if_pos h3]at e;cases e
       . rw [if_neg h3]at e
         cases q:h2[m]? with
         | none=>rw [q]at e;cases e
         | some ob =>
           rw [q]at e
           dsimp only at e
           by_cases h4:ob.flat=true
           . rw [if_pos h4,Option.map_eq_some_iff]at e
             obtain ⟨w,e1,e2⟩:=e
             cases e2
             have nd':(ms++[m]).Nodup:=by
               rw [List.nodup_append]
               exact ⟨nd,ς,fun x hx y hy=>by simp at hy;subst hy;exact fun z=>h3 (z ▸ hx)⟩
             obtain ⟨⟨t,et⟩,g4,g5,g6⟩:=zin (ds':=w.1) (ms':=w.2) e1 nd' (fun x hx=>by
               rcases List.mem_append.mp hx with hx | hx
               . exact hm x hx
               . simp at hx;subst hx;exact ⟨ω,ob,q,h4⟩)
             refine ⟨⟨m :: t,by rw [et];simp⟩,g4,g5,fun ρ2 ρ' H vs g1 g2 r=>?_⟩
             unfold RDs at r ⊢
             obtain ⟨x,w',e3,r1,r2⟩:=r
             refine ⟨x,w',e3,?_,g6 ρ2 ρ' H w' g1 g2 r2⟩
             unfold RD at r1 ⊢
             obtain ⟨a,ea,eb⟩:=r1
             refine ⟨a,ea,?_⟩
             rw [g2 ms.length m (by rw [et];simp)]
             exact eb
           . rw [if_neg h4]at e;cases e
   | non=>exact byNr rfl e
   | bl x=>exact byNr rfl e
   | int x=>exact byNr rfl e
   | str x=>exact byNr rfl e
   | tup xs =>
     have e':(if (D.tup xs).nr=true then (zcc n b h2 ds ms).map fun p=>(D.tup xs :: p.1,p.2) else none)=some (ds',ms'):=e
     by_cases hn:(D.tup xs).nr=true
     . exact byNr hn e'
     . rw [if_neg hn]at e';cases e'
theorem zr5 (hr1:HR F G ρ1 h1 H1) (ok:zdZ h1 h2=true) {i:Nat}{ob:O} (hi:i < h1.length) (e:h2[i]?=some ob):ob.bd ρ1.length:=by
 unfold zdZ at ok
 rw [List.all_eq_true]at ok
 have:=ok i (List.mem_range.mpr hi)
 rw [Bool.or_eq_true,decide_eq_true_eq]at this
 rcases this with z | z
 . obtain ⟨a,e1,e2⟩:=hr1.all i ob (by rw [<- z];exact e)
   exact e2.bd
 . rw [e]at z
   exact O.flat_bd z
theorem HR.keepSome {t:List Addr} (hr1:HR F G ρ1 h1 H1) (hr2:HR F G (ρ1++t) h2 H2) (ok:zdZ h1 h2=true) {os:List Nat}{obs:MH} (nd:os.Nodup) (hge:∀ m∈os,h1.length<=m) (hl:obs.length=os.length)
   (hA:∀ (j i:Nat) ob,os[j]?=some i->obs[j]?=some ob->∃ a ob2,(ρ1++t)[i]?=some a∧h2[i]?=some ob2∧ob.isScr=ob2.isScr∧RO G (ρ1++os.map fun i=>(ρ1++t).getD i 0) H2 a ob) :
   HR F G (ρ1++os.map fun i=>(ρ1++t).getD i 0) (h2.take h1.length++obs) H2:=by
 have hl2:h1.length<=h2.length:=by rw [<- hr1.len,<- hr2.len];simp
 have hpre:∀ m,m < ρ1.length->(ρ1++os.map fun i=>(ρ1++t).getD i 0)[m]?=(ρ1++t)[m]?:=fun m hm=>by rw [List.getElem?_append_left hm,List.getElem?_append_left hm]
 have hio:∀ (j i:Nat),(List.range h1.length++os)[j]?=some i->(j < h1.length∧i=j)∨(h1.length<=j∧os[j - h1.length]?=some i):=fun j i e=>by
   by_cases hj:j < h1.length
   . rw [List.getElem?_append_left (by simpa using hj),List.getElem?_range hj]at e
     cases e;exact .inl ⟨hj,rfl⟩
   . rw [List.getElem?_append_right (by simp;omega)]at e
     simp only [List.length_range]at e
     exact .inr ⟨ω,e⟩
 refine hr2.select (os:=List.range h1.length++os) ?_ ?_ ?_ (fun j i e=>?_) (fun j i ob e1 e2=>?_)
 . rw [List.nodup_append]
   refine ⟨List.nodup_range,nd,fun x hx y hy z=>?_⟩
   have:=hge y hy
   rw [List.mem_range]at hx
   omega
 . rw [List.length_append,List.length_append,List.length_range,hl,List.length_take];omega
 . rw [List.length_append,List.length_append,List.length_range,List.length_map,hr1.len]
 . rcases hio j i e with ⟨hj,rfl⟩ | ⟨hj,e⟩
   . exact hpre i (by rw [hr1.len];exact hj)
   . rw [List.getElem?_append_right (by rw [hr1.len];exact hj),List.getElem?_map,hr1.len,e]
     have hi:i < (ρ1++t).length:=by
       have ho:j - h1.length < obs.length:=by rw [hl];exact (List.getElem?_eq_some_iff.mp e).1
       obtain ⟨a,_,h3,_⟩:=hA _ _ _ e (List.getElem?_eq_getElem ho)
       exact (List.getElem?_eq_some_iff.mp h3).1
     rw [List.getElem?_eq_getElem hi]
     simp [List.getD,List.getElem?_eq_getElem hi]
 . rcases hio j i e1 with ⟨hj,rfl⟩ | ⟨hj,e1⟩
   . have hlt:i < (h2.take h1.length).length:=by rw [List.length_take];omega
     rw [List.getElem?_append_left hlt,List.getElem?_take_of_lt hj]at e2
     obtain ⟨a,h3,h4⟩:=hr2.all i ob e2
     exact ⟨a,ob,h3,e2,rfl,h4.cut (zr5 hr1 ok hj e2) hpre⟩
   . have hlt:(h2.take h1.length).length=h1.length:=by rw [List.length_take];omega
     rw [List.getElem?_append_right (by rw [hlt];exact hj),hlt]at e2
     exact hA _ _ _ e1 e2
theorem RO.flat (r:RO G ρ H a o) (f:o.flat=true):RO G ρ' H a o:=r.cut (n:=0) (O.flat_bd f) fun m hm=>absurd hm (Nat.not_lt_zero m)
theorem zni:∀ {fs:List (Nat×D)}{ds:List D}{vs:List (Str×V)}{C:Addr}{us:List V},FRs G ρ H C fs vs->vs.map (·.2)=us->RDs ρ' H ds us->FRs G ρ' H C ((fs.map (·.1)).zip ds) vs
 | [],ds,vs,C,us,r,e,rs=>by unfold FRs at r;subst r;simp [FRs]
 | p :: fs,ds,vs,C,us,r,e,rs=>by
   unfold FRs at r
   obtain ⟨f,v,q,rfl,h1,h2,h3,h4⟩:=r
   subst e
   rw [List.map_cons]at rs
   cases ds with
   | nil=>unfold RDs at rs;cases rs
   | cons d ds =>
     unfold RDs at rs
     obtain ⟨x,w,e1,r1,r2⟩:=rs
     cases e1
     rw [List.map_cons,List.zip_cons_cons]
     unfold FRs
     exact ⟨f,v,q,rfl,h1,h2,r1,zni h4 rfl r2⟩
theorem FRs.vals:∀ {fs:List (Nat×D)}{vs:List (Str×V)}{C:Addr},FRs G ρ H C fs vs->RDs ρ H (fs.map (·.2)) (vs.map (·.2))
 | [],vs,C,r=>by unfold FRs at r;subst r;simp;exact RDs.nil
 | p :: fs,vs,C,r=>by
   unfold FRs at r
   obtain ⟨f,v,q,rfl,h1,h2,h3,h4⟩:=r
   exact RDs.cons h3 (FRs.vals h4)
theorem zvG {v:D}{v2:V}{t:List Addr} (hr1:HR F G ρ1 h1 H1) (hr2:HR F G (ρ1++t) h2 H2) (rd:RD (ρ1++t) H2 v v2) (ok:zdZ h1 h2=true) :
   ∃ t',HR F G (ρ1++t') (gcV h1.length v h2).2 H2∧RD (ρ1++t') H2 (gcV h1.length v h2).1 v2:=by
 have none':HR F G ρ1 (h2.take h1.length) H2:=by
   have:=hr1.keepSome hr2 ok (os:=[]) (obs:=[]) ς ς rfl (fun j i ob e=>by simp at e)
   simpa using this
 have low:∀ {d:D} {u:V},d.bd h1.length->RD (ρ1++t) H2 d u->RD ρ1 H2 d u:=fun {d u} hb r=>RD.cut (n:=h1.length) (fun m hm=>by rw [List.getElem?_append_left (by rw [hr1.len];exact hm)]) d u hb r
 have flatOs:∀ {ms:List Nat},(∀ m∈ms,h1.length<=m∧∃ o,h2[m]?=some o∧o.flat=true)->∀ (ρ':List Addr) (j i:Nat) ob,ms[j]?=some i->(ms.map fun k=>h2.getD k (.lst []))[j]?=some ob->∃ a ob2,(ρ1++t)[i]?=some a∧h2[i]?=some ob2∧ob.isScr=ob2.isScr∧RO G ρ' H2 a ob:=fun {ms} hm ρ' j i ob e1 e2=>by
   obtain ⟨_,o,ho,hf⟩:=hm i (List.mem_of_getElem? e1)
   rw [List.getElem?_map,e1]at e2
   have e3:h2.getD i (.lst [])=ob:=Option.some.inj e2
   rw [List.getD_eq_getElem?_getD,ho]at e3
   have e4:o=ob:=e3
   subst e4
   obtain ⟨a,g1,g2⟩:=hr2.all i o ho
   exact ⟨a,o,g1,ho,rfl,g2.flat hf⟩
 cases v with
 | obj m =>
   simp only [gcV]
   by_cases hm:m < h1.length
   . rw [if_pos hm]
     exact ⟨[],by simpa using none',by simpa using low (by unfold D.bd;exact hm) rd⟩
   . rw [if_neg hm]
     cases q:h2[m]? with
     | none=>exact ⟨t,hr2,rd⟩
     | some ob =>
       have flatCase:ob.flat=true->∃ t',HR F G (ρ1++t') (h2.take h1.length++[ob]) H2∧RD (ρ1++t') H2 (.obj h1.length) v2:=fun hf=>by
         have hh:=hr1.keepSome hr2 ok (os:=[m]) (obs:=[ob]) ς (by simp;omega) rfl (fun j i x e1 e2=>by
           refine flatOs (ms:=[m]) (fun k hk=>?_) _ j i x e1 ?_
           . have e:k=m:=by simpa using hk
             subst e;exact ⟨ω,ob,q,hf⟩
           . simp only [List.map_cons,List.map_nil,List.getD_eq_getElem?_getD,q];exact e2)
         refine ⟨_,hh,?_⟩
         unfold RD at rd ⊢
         obtain ⟨a,e1,e2⟩:=rd
         refine ⟨a,e1,?_⟩
         rw [List.getElem?_append_right (by rw [hr1.len];exact Nat.le_refl _),hr1.len]
         simp [List.getD_eq_getElem?_getD,e2]
       cases ob with
       | ins c fs =>
         dsimp only
         cases qr:zcc h1.length (h1.length+1) h2 (fs.map (·.2)) [] with
         | none=>exact ⟨t,hr2,rd⟩
         | some pr =>
           obtain ⟨ds,ms⟩:=pr
           obtain ⟨_,nd,hms,rel⟩:=zin qr ς ς
           dsimp only
           have hge:∀ k∈m :: ms,h1.length<=k:=fun k hk=>by
             rcases List.mem_cons.mp hk with rfl | hk
             . omega
             . exact (hms k hk).1
           have ndm:(m :: ms).Nodup:=by
             rw [List.nodup_cons]
             refine ⟨fun z=>?_,nd⟩
             obtain ⟨_,o,ho,hf⟩:=hms m z
             rw [q]at ho;cases ho;cases hf
           have hlen:∀ k∈ms,k < (ρ1++t).length:=fun k hk=>by
             obtain ⟨_,o,ho,_⟩:=hms k hk
             rw [hr2.len];exact (List.getElem?_eq_some_iff.mp ho).1
           have hml:m < (ρ1++t).length:=by rw [hr2.len];exact (List.getElem?_eq_some_iff.mp q).1
           have hh:=hr1.keepSome hr2 ok (os:=m :: ms) (obs := .ins c ((fs.map (·.1)).zip ds) :: ms.map fun k=>h2.getD k (.lst [])) ndm hge ς (fun j i x e1 e2=>by
             cases j with
             | zero =>
               cases e1;cases e2
               obtain ⟨a,g1,g2⟩:=hr2.all m _ q
               refine ⟨a,_,g1,q,rfl,?_⟩
               obtain ⟨C,dx,vs,k1,k2,k3⟩:=g2
               refine ⟨C,dx,vs,k1,k2,zni k3 rfl (rel (ρ1++t) _ H2 _ (fun i hi=>?_) (fun j k ek=>?_) k3.vals)⟩
               . rw [List.getElem?_append_left (by rw [hr1.len];exact hi),List.getElem?_append_left (by rw [hr1.len];exact hi)]
               . rw [List.getElem?_append_right (by rw [hr1.len];omega),hr1.len]
                 have e5:h1.length+1+j - h1.length=j+1:=by omega
                 rw [e5,List.map_cons,List.getElem?_cons_succ,List.getElem?_map,ek]
                 have hk:=hlen k (List.mem_of_getElem? ek)
                 rw [List.getElem?_eq_getElem hk]
                 simp [List.getD_eq_getElem?_getD,List.getElem?_eq_getElem hk]
             | succ j=>exact flatOs hms _ j i x (by simpa using e1) (by simpa using e2))
           refine ⟨_,hh,?_⟩
           unfold RD at rd ⊢
           obtain ⟨a,e1,e2⟩:=rd
           refine ⟨a,e1,?_⟩
           rw [List.getElem?_append_right (by rw [hr1.len];exact Nat.le_refl _),hr1.len]
           simp [List.getD_eq_getElem?_getD,e2]
       | lst xs =>
         dsimp only
         by_cases hf:(O.lst xs).flat=true
         . rw [if_pos hf];exact flatCase hf
         . rw [if_neg hf];exact ⟨t,hr2,rd⟩
       | scr xs =>
         dsimp only
         by_cases hf:(O.scr xs).flat=true
         . rw [if_pos hf];exact flatCase hf
         . rw [if_neg hf];exact ⟨t,hr2,rd⟩
       | dic xs =>
         dsimp only
         by_cases hf:(O.dic xs).flat=true
         . rw [if_pos hf];exact flatCase hf
         . rw [if_neg hf];exact ⟨t,hr2,rd⟩
       | hole =>
         dsimp only
         by_cases hf:O.hole.flat=true
         . rw [if_pos hf];exact flatCase hf
         . rw [if_neg hf];exact ⟨t,hr2,rd⟩
       | set xs =>
         dsimp only
         by_cases hf:(O.set xs).flat=true
         . rw [if_pos hf];exact flatCase hf
         . rw [if_neg hf];exact ⟨t,hr2,rd⟩
 | tup ds =>
   simp only [gcV]
   cases qr:zcc h1.length h1.length h2 ds [] with
   | none=>exact ⟨t,hr2,rd⟩
   | some pr =>
     obtain ⟨ds',ms⟩:=pr
     obtain ⟨_,nd,hms,rel⟩:=zin qr ς ς
     dsimp only
     have hlen:∀ k∈ms,k < (ρ1++t).length:=fun k hk=>by
       obtain ⟨_,o,ho,_⟩:=hms k hk
       rw [hr2.len];exact (List.getElem?_eq_some_iff.mp ho).1
     have hh:=hr1.keepSome hr2 ok (os:=ms) (obs:=ms.map fun k=>h2.getD k (.lst [])) nd (fun k hk=>(hms k hk).1) ς (fun j i x e1 e2=>flatOs hms _ j i x e1 e2)
     refine ⟨_,hh,?_⟩
     unfold RD at rd ⊢
     obtain ⟨a,vs,e1,e2,rs⟩:=rd
     refine ⟨a,vs,e1,e2,rel (ρ1++t) _ H2 vs (fun i hi=>?_) (fun j k ek=>?_) rs⟩
     . rw [List.getElem?_append_left (by rw [hr1.len];exact hi),List.getElem?_append_left (by rw [hr1.len];exact hi)]
     . rw [List.getElem?_append_right (by rw [hr1.len];omega),hr1.len]
       have e5:h1.length+j - h1.length=j:=by omega
       rw [e5,List.getElem?_map,ek]
       have hk:=hlen k (List.mem_of_getElem? ek)
       rw [List.getElem?_eq_getElem hk]
       simp [List.getD_eq_getElem?_getD,List.getElem?_eq_getElem hk]
 | non=>exact ⟨[],by simpa [gcV] using none',by simpa [gcV] using low (by simp [D.bd]) rd⟩
 | bl x=>exact ⟨[],by simpa [gcV] using none',by simpa [gcV] using low (by simp [D.bd]) rd⟩
 | int x=>exact ⟨[],by simpa [gcV] using none',by simpa [gcV] using low (by simp [D.bd]) rd⟩
 | str x=>exact ⟨[],by simpa [gcV] using none',by simpa [gcV] using low (by simp [D.bd]) rd⟩
end
end MI
end
section
namespace MI
open PySem PySem.Spec L2
noncomputable abbrev W0:Nat->Hp->Prop:=fun _ _=>False
noncomputable def wpF (F:Addr->Prop) (G:GP) (ρ:List Addr) (H:Hp) (r:R D) (Q:VK):Prop:=match r with
 | .ok v h1=>∀ ρ1 H1 v1,Ext F ρ ρ1 H H1->HR F G ρ1 h1 H1->RD ρ1 H1 v v1->Q v1 H1
 | .ex c h1=>∀ ρ1 H1,Ext F ρ ρ1 H H1->HR F G ρ1 h1 H1->False
 | .bad=>False
noncomputable def spM (G:GP) (n:Nat) (f:MF):Sp:=fun vs H Q _=>∃ F ρ ds h,HR F G ρ h H∧RDs ρ H ds vs∧ds.length=n∧wpF F G ρ H (f ds h) Q
noncomputable def Ar (n:Nat) (f:MF):Prop:=∀ ds h,ds.length≠n->f ds h = .bad
theorem ziP {np nl:Nat}{m:MS}:Ar np (zP np nl m):=fun ds h hn=>if_neg hn
section
variable {P:Program}{w:World}{K:PySem.W.Frag}{mg:Str->Option Value}{base:Heap}{G:GP}
theorem ztp {F:Addr->Prop}{ρ:List Addr}{H:Hp}{N:List Str}{ds:List D}{vs:List V}{nl np:Nat} (r:RDs ρ H ds vs) (h1:N.length=nl) (h2:ds.length=np) (h3:np<=nl):zV ρ H (ds.map some++List.replicate (nl - np) none) (L2.start N vs):=by
 have hl:=r.length
 unfold L2.start
 refine ⟨by simp;omega,fun i d e=>?_⟩
 by_cases hi:i < ds.length
 . rw [List.getElem?_append_left (by simpa using hi),List.getElem?_map]at e
   rw [List.getElem?_append_left (by simp;omega),List.getElem?_map]
   cases ei:ds[i]? with
   | none=>rw [ei]at e;cases e
   | some d' =>
     rw [ei]at e
     have e':d'=d:=by simpa using e
     subst e'
     obtain ⟨v,g1,g2⟩:=r.get ei
     exact ⟨v,by rw [g1];rfl,g2⟩
 . rw [List.getElem?_append_right (by simpa using hi)]at e
   have:=List.mem_of_getElem? e
   rw [List.mem_replicate]at this
   cases this.2
theorem zX {x qual:Str}{st:Stmt}{f:Addr}{fd:FuncData}{N ps:List Str}{k np nl:Nat}{m:MS} (Fn:Fun K x qual st f fd) (S:zQ N ps (zA st)) (hnl:N.length=nl) (hnp:ps.length=np) (hle:np<=nl)
   (body:∀ (cdv:Value) (A:Around) (outer:List Env) (s:Shared) (H:Hp) (E:XK),zL k (A.deeper (PyProof.Rows.envOfC qual (zA st) s.heap.objs.size f cdv)) ->
     JSs (zfH CX0 P w K mg base N qual (zA st) f cdv A outer s H E).nox (zc6 st) (tS W0 G m)):zF P w K mg base CX0 (k+1) f fd ps (spM G np (zP np nl m)):=by
 refine Fn.ok S (fun vs H Q E h=>?_) (fun cdv A outer s H vs Q E hr h=>?_)
 . obtain ⟨F,ρ,ds,h,_,r,hl,_⟩:=h
   rw [<- r.length,hl,hnp]
 . obtain ⟨F,ρ,ds,h,hrr,r,hl,w⟩:=h
   refine ⟨_,(body cdv A outer s H E hr).to,F,ρ,_,h,ztp (F:=F) r hnl hl hle,hrr,?_⟩
   unfold zP at w
   rw [if_pos hl]at w
   cases e:m (ds.map some++List.replicate (nl - np) none) h with
   | nx e1 h1=>rw [e]at w;exact fun ρ1 H1 σ1 ex er hr'=>w ρ1 H1 .non ex hr' (by unfold RD;rfl)
   | rt v h1=>rw [e]at w;exact w
   | ex c h1=>rw [e]at w;exact w
   | bk e1 h1=>rw [e]at w;exact w.elim
   | ct e1 h1=>rw [e]at w;exact w.elim
   | bad=>rw [e]at w;exact w.elim
end
section
variable {X:Cx}{F:Addr->Prop}{G:GP}{env:zr}{σ:L2.St}{ρ:List Addr}{H:Hp}{h:MH}{e o:Expr}{es:List Expr}{mo:ME D}{ml:ME (List D)}{pos p apos:Pos}{k n:Nat}{x m:Str}{f C:Addr}{fd:FuncData}{ps:List Str}{mf:MF}
theorem zms {ds:List D}{Q:VK} (er:zV ρ H env σ) (hr:HR F G ρ h H) (w:wp F W0 G rV env σ ρ H (app mf ds h) Q):wpF F G ρ H (mf ds h) Q:=by
 unfold app gc at w
 cases e:mf ds h with
 | ok v h2 =>
   rw [e]at w
   intro ρ2 H2 v2 ex hr2 rd
   dsimp only at w
   by_cases ok:zdZ h h2=true
   . rw [if_pos ok]at w
     obtain ⟨t,rfl⟩:=ex.pre
     obtain ⟨t',g1,g2⟩:=zvG hr hr2 rd ok
     have ex':Ext F ρ (ρ++t') H H2:=⟨⟨t',rfl⟩,ex.tup,ex.frm⟩
     exact w (ρ++t') H2 v2 ex' (er.ext ex') g1 g2
   . rw [if_neg ok]at w
     exact w ρ2 H2 v2 ex (er.ext ex) hr2 rd
 | ex c h2=>rw [e]at w;exact w
 | bad=>rw [e]at w;exact w
theorem zkD {ds:List D}{vs:List V}{Q:VK}{E:XK} (ar:Ar n mf) (er:zV ρ H env σ) (hr:HR F G ρ h H) (rs:RDs ρ H ds vs) (w:wp F W0 G rV env σ ρ H (app mf ds h) Q):spM G n mf vs H Q E:=by
 by_cases hl:ds.length=n
 . exact ⟨F,ρ,ds,h,hr,rs,hl,zms er hr w⟩
 . unfold app gc at w
   rw [ar ds h hl]at w
   exact w.elim
theorem zx (Fo:zF X.prog X.w X.K X.mg X.base CX0 k f fd ps (spM G n mf)) (hr:zL k X.A) (hg:Gl X x) (hm:X.mg x=some (.ref f)) (hk:PySem.W.keepIn X.K (.ref f)=true) (hb:zc4 X.K fd ps []) (ha:JA X (e :: es) (tA W0 G ml))
   (ar:Ar n mf:=by exact ziP) (he:starEach (e :: es) X.env=(false,eval e X.env) :: starEach es X.env:=by rfl) (hpl:(backTo pos (starEach es X.env)).any (·.1)=false:=by rfl) (hdb:(x == ("__debug__":Str))=false:=by decide) :
   JE X (.Call (.Name x p) (e :: es) [] pos) (tE W0 G (zi mf ml)) :=
 .of (zT (zui (dvs:=[]) (E:=E0) Fo hr hg hm hk hb .nil ziE ha.to hdb he hpl) fun σ H Q ⟨F,ρ,env,h,er,hrr,w⟩=>⟨F,ρ,env,h,er,hrr,zC w fun ds h1 ρ1 H1 vs e1 er1 hr1 rs w1=>by
   rw [List.append_nil]
   exact zkD ar er1 hr1 rs w1⟩)
theorem zkH {c ni:Nat} (hC:G.cm[c]?=some C) (M:Mk X.K C f) (Fo:zF X.prog X.w X.K X.mg X.base CX0 k f fd ps (spM G ni mf)) (hr:zL (k+1) X.A) (hg:Gl X x) (hm:X.mg x=some (.ref C)) (hb:zc4 X.K fd ps []) (ha:JA X (e :: es) (tA W0 G ml))
   (ar:Ar ni mf:=by exact ziP) (he:starEach (e :: es) X.env=(false,eval e X.env) :: starEach es X.env:=by rfl) (hpl:(backTo pos (starEach es X.env)).any (·.1)=false:=by rfl) (hdb:(x == ("__debug__":Str))=false:=by decide) :
   JE X (.Call (.Name x p) (e :: es) [] pos) (tE W0 G (zi (mkF c mf) ml)) :=
 .of (zT (zs4 (dvs:=[]) (E:=E0) M Fo hr hg hm hb .nil ziE ha.to hdb he hpl) fun σ H Q ⟨F,ρ,env,h,er,hrr,w⟩=>⟨F,ρ,env,h,er,hrr,zC w fun ds h1 ρ1 H1 vs e1 er1 hr1 rs w1=>fun q dx hq hdx hne=>by
   have w2:=zms er1 hr1 w1
   rw [List.append_nil]
   have hnq:upd H1 dx (.own q) q=none:=by rw [zU (Ne.symm hne)];exact hq
   have hra:HR F G ρ1 h1 (upd H1 dx (.own q)):=hr1.new hdx
   have hrb:HR F G ρ1 h1 (upd (upd H1 dx (.own q)) q (.ins C dx [])):=hra.new hnq
   have exa:Ext F ρ1 ρ1 H1 (upd (upd H1 dx (.own q)) q (.ins C dx [])):=(zb1 hr1 hdx).trans (zb1 hra hnq)
   have frq:zeZ F ρ1 h1 q:=hr1.fresh hq
   have hrc:HR F G (ρ1++[q]) (h1++[.ins c []]) (upd (upd H1 dx (.own q)) q (.ins C dx [])):=hrb.named frq ⟨C,dx,[],hC,zb4,by unfold FRs;rfl⟩
   have exb:Ext F ρ1 (ρ1++[q]) H1 (upd (upd H1 dx (.own q)) q (.ins C dx [])):=⟨⟨[q],rfl⟩,exa.tup,exa.frm⟩
   have hql:(ρ1++[q])[h1.length]?=some q:=by rw [<- hr1.len];simp
   by_cases hl:(D.obj h1.length :: ds).length=ni
   . refine ⟨F,ρ1++[q],.obj h1.length :: ds,h1++[.ins c []],hrc,RDs.cons (by unfold RD;exact ⟨q,rfl,hql⟩) (RDs.ext exb _ _ rs),hl,?_⟩
     unfold mkF at w2
     cases em:mf (.obj h1.length :: ds) (h1++[.ins c []]) with
     | ok v h2 =>
       rw [em]at w2
       cases v with
       | non =>
         intro ρ3 H3 v3 ex3 hr3 r3
         unfold RD at r3
         exact ⟨r3,w2 ρ3 H3 (.ref q) (exb.trans ex3) hr3 (by unfold RD;exact ⟨q,rfl,ex3.get hql⟩)⟩
       | _=>exact w2.elim
     | ex c h2=>rw [em]at w2;exact fun ρ3 H3 ex3 hr3=>w2 ρ3 H3 (exb.trans ex3) hr3
     | bad=>rw [em]at w2;exact w2
   . unfold mkF at w2
     rw [ar _ _ hl]at w2
     exact w2.elim⟩)
noncomputable def JMs (X:Cx) (G:GP) (ex:Expr) (mo:ME D) (ml:ME (List D)) (tbl:List (Nat×MF)) (cs:List Nat):Prop :=
 ∀ (c:Nat) (mf:MF),c∈cs->tbl.lookup c=some mf->PE X ex (fun σ H Q=>∃ F ρ env h,zV ρ H env σ∧HR F G ρ h H∧(∀ v h1,mo env h = .ok v h1->∃ n fs,v = .obj n∧h1[n]?=some (.ins c fs))∧wp F W0 G rV env σ ρ H (zbh tbl mo ml env h) Q)
theorem zdE {ex:Expr}{tbl:List (Nat×MF)}:JMs X G ex mo ml tbl []:=fun _ _ hc=>nomatch hc
theorem zvb {c:Nat}{tbl:List (Nat×MF)}{Q:VK}{hn:∀ kk:Nat,G.an[kk]?≠some m} (hC:G.cm[c]?=some C) (ht:tbl.lookup c=some mf) (ar:Ar n mf) (w:∃ F ρ env h,zV ρ H env σ∧HR F G ρ h H∧(∀ v h1,mo env h = .ok v h1->∃ n fs,v = .obj n∧h1[n]?=some (.ins c fs))∧wp F W0 G rV env σ ρ H (zbh tbl mo ml env h) Q) :
   zjQ C m (spM G n mf) [] E0 (tE W0 G mo) (tA W0 G ml) σ H Q:=by
 obtain ⟨F,ρ,env,h,er,hr,hcl,w⟩:=w
 refine ⟨F,ρ,env,h,er,hr,?_⟩
 cases em:mo env h with
 | ex c h1=>unfold zbh zl at w;simp only [em]at w;exact w
 | bad=>unfold zbh zl at w;simp only [em]at w;exact w
 | ok v0 h1 =>
 obtain ⟨i,fs,rfl,ei⟩:=hcl v0 h1 em
 have w':wp F W0 G rV env σ ρ H (zl ml (fun ds=>fun _ h=>app mf (.obj i :: ds) h) env h1) Q:=by
   unfold zbh zl at w
   simp only [em,ei,ht]at w
   exact w
 intro ρ1 H1 v1 ex1 er1 hr1 r1
 obtain ⟨q,C',dx,vs,rfl,eq,hC',hq,rs⟩:=hr1.ins r1 ei
 rw [hC]at hC';cases hC'
 refine ⟨q,dx,vs,rfl,hq,rs.none hn,F,ρ1,env,h1,er1,hr1,zC (w'.mono ex1) fun ds h2 ρ2 H2 us e2 er2 hr2 rs2 w2=>?_⟩
 rw [List.append_nil]
 exact zkD ar er2 hr2 (RDs.cons (RD.ext e2 _ _ r1) rs2) w2
theorem zeN {c:Nat}{cs:List Nat}{tbl:List (Nat×MF)}{pl:Sem Bool} (hC:G.cm[c]?=some C) (cl:Cls X.K C) (hm:zdR X.K C m f) (Fo:zF X.prog X.w X.K X.mg X.base CX0 k f fd ps (spM G n mf)) (hr:zL k X.A) (hb:zc4 X.K fd ps []) (ho:JE X o (tE W0 G mo)) (ha:JA X (e :: es) (tA W0 G ml))
   (rest:JMs X G (.Call (.Attribute o m apos) (e :: es) [] pos) mo ml tbl cs) (hn:∀ kk:Nat,G.an[kk]?≠some m) (ht:tbl.lookup c=some mf:=by rfl) (ar:Ar n mf:=by exact ziP)
   (hst:starEach (e :: es) X.env=(false,eval e X.env) :: starEach es X.env:=by rfl) (hpl:(backTo pos (starEach es X.env)).any (·.1)=false:=by rfl)
   (hev:eval (.Call (.Attribute o m apos) (e :: es) [] pos) X.env=(do
     let ov <- eval o X.env
     standAt apos.atName
     let (f,first) <- holding [ov] (getMethod ov m pl)
     callWith pos f first (backTo pos (starEach (e :: es) X.env)) (backToKw pos (keywordEach [] X.env))):=by rfl):JMs X G (.Call (.Attribute o m apos) (e :: es) [] pos) mo ml tbl (c :: cs):=fun c' mf' hc' ht'=>by
 rcases List.mem_cons.mp hc' with rfl | hc'
 . rw [ht]at ht';cases ht'
   exact zT (zsp (dvs:=[]) (E:=E0) ho.to cl hm Fo hr hb .nil ziE ha.to hst hpl hev) fun σ H Q w=>zvb (hn:=hn) hC ht ar w
 . exact rest c' mf' hc' ht'
theorem zfx {c:Nat}{cs:List Nat}{tbl:List (Nat×MF)}{pl:Sem Bool} (hC:G.cm[c]?=some C) (cl:Cls X.K C) (hm:zdR X.K C m f) (Fo:zF X.prog X.w X.K X.mg X.base CX0 k f fd ps (spM G n mf)) (hr:zL k X.A) (hb:zc4 X.K fd ps []) (ho:JE X o (tE W0 G mo))
   (rest:JMs X G (.Call (.Attribute o m apos) [] [] pos) mo ze tbl cs) (hn:∀ kk:Nat,G.an[kk]?≠some m) (ht:tbl.lookup c=some mf:=by rfl) (ar:Ar n mf:=by exact ziP)
   (hev:eval (.Call (.Attribute o m apos) [] [] pos) X.env=(do
     let ov <- eval o X.env
     standAt apos.atName
     let (f,first) <- holding [ov] (getMethod ov m pl)
     callWith pos f first (backTo pos (starEach [] X.env)) (backToKw pos (keywordEach [] X.env))):=by rfl):JMs X G (.Call (.Attribute o m apos) [] [] pos) mo ze tbl (c :: cs):=fun c' mf' hc' ht'=>by
 rcases List.mem_cons.mp hc' with rfl | hc'
 . rw [ht]at ht';cases ht'
   refine zT (ztG (dvs:=[]) (E:=E0) ho.to cl hm Fo hr hb .nil ziE hev) fun σ H Q w=>?_
   obtain ⟨F,ρ,env,h,er,hr,hcl,w⟩:=w
   refine ⟨F,ρ,env,h,er,hr,?_⟩
   cases em:mo env h with
   | ex c h1=>unfold zbh zl at w;simp only [em]at w;exact w
   | bad=>unfold zbh zl at w;simp only [em]at w;exact w
   | ok v0 h1 =>
   obtain ⟨i,fs,rfl,ei⟩:=hcl v0 h1 em
   have w':wp F W0 G rV env σ ρ H (app mf [.obj i] h1) Q:=by
     unfold zbh zl at w
     simp only [em,ei,ht]at w
     exact w
   intro ρ1 H1 v1 ex1 er1 hr1 r1
   obtain ⟨q,C',dx,vs,rfl,eq,hC',hq,rs⟩:=hr1.ins r1 ei
   rw [hC]at hC';cases hC'
   refine ⟨q,dx,vs,rfl,hq,rs.none hn,?_⟩
   show spM G n mf (.ref q :: ([]++[])) H1 Q E0
   exact zkD ar er1 hr1 (RDs.cons r1 RDs.nil) (w'.mono ex1)
 . exact rest c' mf' hc' ht'
theorem zkb:∀ {tbl:List (Nat×MF)}{c:Nat}{mf:MF},tbl.lookup c=some mf->c∈tbl.map (·.1)
 | [],c,mf,h=>by cases h
 | p :: r,c,mf,h=>by
   rw [List.lookup_cons]at h
   by_cases e:c=p.1
   . rw [e];simp
   . have b:(c == p.1)=false:=by simpa using e
     rw [b]at h
     exact List.mem_cons_of_mem _ (zkb h)
theorem zdt {ex:Expr}{tbl:List (Nat×MF)}{c0:Nat}{mf0:MF} (h:JMs X G ex mo ml tbl (tbl.map (·.1))) (h0:tbl.lookup c0=some mf0:=by rfl):JE X ex (tE W0 G (zbh tbl mo ml)) :=
 .of (fun pins s σ H Q I ⟨F,ρ,env,hh,er,hr,w⟩=>by
   cases em:mo env hh with
   | ex c h1=>exact h c0 mf0 (zkb h0) h0 pins s σ H Q I ⟨F,ρ,env,hh,er,hr,(fun v h1' e=>by rw [em]at e;cases e),w⟩
   | bad=>unfold zbh zl at w;simp only [em]at w;exact w.elim
   | ok v h1 =>
     have w':=w
     unfold zbh zl at w'
     simp only [em]at w'
     cases v with
     | obj n =>
       dsimp only at w'
       cases qo:h1[n]? with
       | none=>rw [qo]at w';exact w'.elim
       | some o =>
         rw [qo]at w'
         cases o with
         | ins c fs =>
           dsimp only at w'
           cases ht:tbl.lookup c with
           | none=>rw [ht]at w';exact w'.elim
           | some mf=>exact h c mf (zkb ht) ht pins s σ H Q I ⟨F,ρ,env,hh,er,hr,(fun v h1' e=>by rw [em]at e;cases e;exact ⟨n,fs,rfl,qo⟩),w⟩
         | _=>exact w'.elim
     | _=>exact w'.elim)
theorem zcO {l:List Str}{m:Str} (h:l.contains m=false) (kk:Nat):l[kk]?≠some m:=fun e=>by
 have:=List.mem_of_getElem? e
 rw [<- List.contains_iff_mem,h]at this
 cases this
end
end MI
end
section
namespace MI
open PySem PySem.Spec L2
noncomputable def zgH (K:PySem.W.Frag):Sp:=fun vs H Q _=>∃ (a:Addr) (ns:List Int),vs=[.ref a]∧ns.length<=63∧zho H∧SqL K H a (ns.map V.int)∧∀ H',Q (.bl true) H'
theorem zrf {G:GP}{mf:MF} (hl:∀ ns:List Int,ns.length<=63->∃ h',mf [.obj 0] [.scr (ns.map .int)] = .ok (.bl true) h') (vs:List V) (H:Hp) (Q:VK) (E:XK) (h:zgH G.K vs H Q E):spM G 1 mf vs H Q E:=by
 obtain ⟨a,ns,rfl,hn,ho,hs,q⟩:=h
 obtain ⟨h',e⟩:=hl ns hn
 refine ⟨fun _=>False,[a],[.obj 0],[.scr (ns.map .int)],⟨fun b z=>z.elim,fun n m b o o' hne h1 h2 h3 h4=>?_,rfl,fun n o e=>?_⟩,RDs.cons (by unfold RD;exact ⟨a,rfl,rfl⟩) RDs.nil,rfl,?_⟩
 . have e1:n=0:=by have:=(List.getElem?_eq_some_iff.mp h3).1;simp at this;exact this
   have e2:m=0:=by have:=(List.getElem?_eq_some_iff.mp h4).1;simp at this;exact this
   exact absurd (e1.trans e2.symm) hne
 . have e1:n=0:=by have:=(List.getElem?_eq_some_iff.mp e).1;simp at this;exact this
   subst e1
   cases e
   refine ⟨a,rfl,ns.map V.int,?_,RDs.ints ns⟩
   rcases hs with hs | hs
   . rcases hs with hs | ⟨o,hs⟩
     . rcases ho a with z | ⟨o,xs,z⟩
       . rw [z]at hs;cases hs
       . rw [z]at hs;cases hs
     . exact .inl ⟨o,hs⟩
   . exact .inr hs
 . rw [e]
   intro ρ1 H1 v1 _ _ r
   unfold RD at r
   subst r
   exact q H1
theorem law_start {K:PySem.W.Frag}{H:Hp}{a:Addr}{ns:List Int} (ho:zho H) (hl:ns.length<=63) (hS:SqL K H a (ns.map V.int)):zgH K [.ref a] H (fun v _=>v = .bl true) fun _ _ _=>False:=⟨a,ns,rfl,hl,ho,hS,fun _=>rfl⟩
end MI
end
section
namespace MI
open PySem PySem.Spec L2
section
variable {W:Nat->Hp->Prop}{X:Cx}{F:Addr->Prop}{G:GP}{env:zr}{σ:L2.St}{ρ:List Addr}{H:Hp}{h:MH}{a b c e o tg:Expr}{es:List Expr}{ma mb mo:ME D}{pos p p1 tp apos cpos:Pos}{k:Nat}
theorem zlB:∀ {xs ys:List D}{i:Nat}{d:D},(zcD xs ys)[i]?=some d->∃ x y,xs[i]?=some x∧ys[i]?=some y∧d = .tup [x,y]
 | [],ys,i,d,e=>by simp [zcD]at e
 | x :: xs,[],i,d,e=>by simp [zcD]at e
 | x :: xs,y :: ys,0,d,e=>by simp [zcD]at e;exact ⟨x,y,rfl,rfl,e.symm⟩
 | x :: xs,y :: ys,i+1,d,e=>by
   have e':(zcD xs ys)[i]?=some d:=by simpa [zcD] using e
   obtain ⟨x',y',h1,h2,h3⟩:=zlB e'
   exact ⟨x',y',by simpa using h1,by simpa using h2,h3⟩
theorem zk6:∀ (xs ys:List D),(zcD xs ys).length=min xs.length ys.length
 | [],ys=>by simp [zcD]
 | x :: xs,[]=>by simp [zcD]
 | x :: xs,y :: ys=>by simp [zcD,zk6 xs ys]
theorem zwF (hg:Gl X "zip") (hm:X.mg "zip" = none) (ha:JE X a (tE W G ma)) (hb:JE X b (tE W G mb)) (hs:starEach [a,b] X.env=(false,eval a X.env) :: starEach [b] X.env) (hs2:starEach [b] X.env=(false,eval b X.env) :: starEach [] X.env) (hK:X.K=G.K:=by rfl) :
   JI X (.Tuple es k tp) (.Call (.Name "zip" p) [a,b] [] pos) (tI W G (itZ ma mb)) :=
 .of (zjx (zty hg hm ha.to hb.to hs hs2) fun σ H Q ⟨F,ρ,env,h,er,hr,w⟩=>⟨F,ρ,env,h,er,hr,zC w fun x h1 ρ1 H1 y e1 er1 hr1 r1 w1=>⟨F,ρ1,env,h1,er1,hr1,zC w1 fun x2 h2 ρ2 H2 y2 e2 er2 hr2 r2 w2=>by
   have r1:RD ρ2 H2 x y:=RD.ext e2 _ _ r1
   have r2:RD ρ2 H2 x2 y2:=r2
   cases x with
   | obj n =>
     cases x2 with
     | obj m =>
       dsimp only at w2
       cases qo:h2[n]? with
       | none=>simp only [qo]at w2;exact w2.elim
       | some o =>
         cases o with
         | lst xs =>
           cases qo2:h2[m]? with
           | none=>simp only [qo,qo2]at w2;exact w2.elim
           | some o2 =>
             cases o2 with
             | lst ys =>
               simp only [qo,qo2]at w2
               obtain ⟨q,vs,rfl,eq,hq,rs⟩:=hr2.lst r1 qo
               obtain ⟨q2,vs2,rfl,eq2,hq2,rs2⟩:=hr2.lst r2 qo2
               refine ⟨q,q2,rfl,rfl,⟨vs,SqL.of hq⟩,⟨vs2,SqL.of hq2⟩,w2 ρ2 H2 (Itz X.K q q2) Ext.refl er2 hr2 ?_⟩
               intro F' ρ' h' H' i ex hr' g
               have ea:=zkE (n:=n) (ob := .lst xs) g ς
               have eb:=zkE (n:=m) (ob := .lst ys) g ς
               obtain ⟨us,hus,rus⟩:=hr'.at ea (ex.get eq)
               obtain ⟨us2,hus2,rus2⟩:=hr'.at eb (ex.get eq2)
               refine ⟨fun d hd=>?_,fun hl=>⟨us,us2,SqL.of hus,SqL.of hus2,by rw [<- rus.length,<- rus2.length];rw [zk6]at hl;exact hl⟩⟩
               obtain ⟨x',y',hx,hy,ed⟩:=zlB hd
               obtain ⟨v,g1,g2⟩:=rus.get hx
               obtain ⟨v2,g3,g4⟩:=rus2.get hy
               refine ⟨⟨us,us2,v,v2,SqL.of hus,SqL.of hus2,g1,g3⟩,fun z H3 ⟨T,w',u',y1,y2,y3,y4,y5⟩=>?_⟩
               subst y1 y3 ed
               have:=y4 us (SqL.of hus)
               rw [g1]at this;cases this
               have:=y5 us2 (SqL.of hus2)
               rw [g3]at this;cases this
               refine ⟨zb1 hr' y2,hr'.new y2,?_⟩
               unfold RD
               exact ⟨T,_,rfl,zb4,RDs.cons (RD.ext (zb1 hr' y2) _ _ g2) (RDs.cons (RD.ext (zb1 hr' y2) _ _ g4) RDs.nil)⟩
             | _=>simp only [qo,qo2]at w2;exact w2.elim
         | _=>simp only [qo]at w2;exact w2.elim
     | _=>exact w2.elim
   | _=>cases x2 <;> exact w2.elim⟩⟩)
variable {m1:MS}{t:Tg}{bd:List Stmt}{cond:ME Bool}{me:ME D}{N:List Str}{js:List (Option Nat)}{scope:Scope}{elt:Expr}{ifs:List Expr}
end
end MI
end
section
namespace L2
open PySem PySem.Spec PyProof.Rows
theorem Inv.drw {X:Cx}{pins:List (Addr×Obj)}{σ:St}{H:Hp}{s:Shared} (I:Inv X pins σ H s) (d:Drawn):Inv X pins σ H { s with drawn:=d } :=
 ⟨I.ok,I.os,I.bare,I.base,I.loc,I.cell,I.free,I.freeC,I.pin,I.hok,I.len⟩
noncomputable def zeh (X:Cx) (p:Addr) (ns:List Int):HO := .ext fun h=>zct X.prog X.w (zcp X.w) h p ns
section
variable {X:Cx}
theorem zro (hc:X.calm=true):zcK X (.type "set") (fun xs H Q=>∃ (a:Addr) (ns:List Int),xs=[.ref a]∧SqL X.K H a (ns.map V.int)∧ns.length < 4000∧∀ p,H p=none->Q (.ref p) (upd H p (zeh X p (zb9 ns)))):=by
 intro pins s σ H xs us Q I r h
 obtain ⟨a,ns,rfl,hq,hn,q⟩:=h
 obtain ⟨u,rfl,ru⟩:=zdm r
 cases ru
 obtain ⟨its,rv,p,_⟩:=I.list hq
 have e:its.toArray.size=ns.length:=by simp [<- rv.length]
 refine zvj (items:=its.toArray) (ns:=ns) (I.ok.hd hc) p.isList (by simpa using zmT rv) (by rw [e];unfold scanBound;omega) fun h' tk hS hk=>?_
 rw [e]at hS
 refine ⟨.ref s.heap.objs.size,_,I.laid (t':=tk) (a:=s.heap.objs.size) (o:=zeh X s.heap.objs.size (zb9 ns)) (fun b o eb=>hk b o (Heap.lt_size eb) eb) (Nat.le_refl _) ⟨hS,?_,fun h1 h2 z k=>zct.keep z k⟩,rfl,q _ (I.hok.fresh (Nat.le_refl _))⟩
 obtain ⟨o,_,_,_,eo,_⟩:=hS
 exact ⟨o,eo⟩
end
end L2
end
section
namespace L2
open PySem PySem.Spec PyProof.Rows
end L2
namespace MI
open PySem PySem.Spec L2
section
variable {W:Nat->Hp->Prop}{X:Cx}{F:Addr->Prop}{G:GP}{env:zr}{σ:L2.St}{ρ:List Addr}{H:Hp}{h:MH}{a b c e o:Expr}{es:List Expr}{ma mb mc:ME D}{ml ml':ME (List D)}{pos p p1 p2 apos:Pos}{Q:VK}{k i:Nat}{x:Str}
end
end MI
end
section
namespace L2
open PySem PySem.Spec PyProof.Rows
theorem zv4:typeLookup (.type "list") "keys" = pure none:=by rw [typeLookup_type,builtinLookup_eq_fast];kernel_rfl
theorem zsW:typeLookup (.type "list") "__getattr__" = pure none:=by rw [typeLookup_type,builtinLookup_eq_fast];kernel_rfl
section
variable {P:Program}{w:World}{A:Around}{E:Value->Shared->Prop}{s:Shared}{l:Addr}{xs:Array Value}{c:Nat}
theorem zrr {u:Tok}{Q:Fin->Shared->Prop} (hh:A.handled=none) (hx:s.heap.get? l=some (zR xs c)) (h:∀ h' tk e,Heap.NewAttrErr s.heap h' e (.ref l) "keys" -> E (.ref e) { s with heap:=h',toks:=tk }) :
   wpAny (model P w) A (Builtin.«object.__getattribute__» ⟨[.ref l,.str "keys" u],[]⟩) Q E s:=by
 obtain ⟨hp,g,d,tk,os⟩:=s
 have hx:hp.get? l=some { cls := .type "list",dict:=none,data := .seq xs c,slots:=#[] }:=hx
 have hT:(⟨hp,g,d,tk,os⟩:Shared).TypeIs (.ref l) "list":=⟨_,hx,rfl⟩
 have f1:=zv4
 unfold Builtin.«object.__getattribute__»
 repeat (any_goals (first | assumption | wp_step))
 exact wpAny_raiseAttrError hh h (attrMsg_fits ϰ ϰ)
end
end L2
end
section
namespace L2
open PySem PySem.Spec PyProof.Rows
section
variable {P:Program}{w:World}{A:Around}{E:Value->Shared->Prop}{s:Shared}{l:Addr}{xs:Array Value}{c:Nat}
theorem zuz {Q:Option Value->Shared->Prop} (hh:A.handled=none) (hx:s.heap.get? l=some (zR xs c)) (h:∀ h' tk,(∀ b o,s.heap.get? b=some o->h'.get? b=some o)->Q none { s with heap:=h',toks:=tk }) :
   wpAny (model P w) A (getAttr? (.ref l) "keys") Q E s:=by
 obtain ⟨hp,g,d,tk,os⟩:=s
 have hx:hp.get? l=some { cls := .type "list",dict:=none,data := .seq xs c,slots:=#[] }:=hx
 have hT:∀ tk,(⟨hp,g,d,tk,os⟩:Shared).TypeIs (.ref l) "list":=fun tk=>⟨_,hx,rfl⟩
 have f1:=sub_AttributeError
 have f2:=PySem.F.slot_list_getattribute.lookup
 have f3:=PySem.F.slot_list_getattribute.bind (.ref l)
 have f5:=zsW
 unfold getAttr? getAttrBy? getAttrBy
 repeat (any_goals (first | assumption | exact hT _ | ((with_reducible show wpAny _ _ (call (Value.builtin "list.__getattribute__") _ _) _ _ _);refine wpAny_call (codeAny_call_builtin PySem.F.slot_list_getattribute.plain PySem.F.entry_list_ga (PySem.F.slot_list_getattribute.check _ _ _ _ _ _ _ _ (hT _) (PySem.F.args_list_getattribute_2 _ _) (zrr (by exact hh) hx fun h' tk' e hx'=>?_)))) | wp_step))
 obtain ⟨t',u',he⟩:=hx'.there
 repeat (any_goals (first | assumption | wp_step))
 all_goals exact h _ _ hx'.keeps
end
end L2
end
section
namespace L2
open PySem PySem.Spec PyProof.Rows
theorem zjy:mroOf (.type "dict")=pure [.type "dict",.type "object"]:=by rw [mroOf_type];kernel_rfl
theorem zq3:typeLookup (.type "dict") "__new__" = pure (some (.builtin "dict.__new__")):=by rw [typeLookup_type,builtinLookup_eq_fast];kernel_rfl
theorem zel:TypeCalled "dict" "dict.__new__" "dict.__init__" :=
 ⟨ϰ,ϰ,⟨_,_,zjy⟩,madeBy_type zjy zq3 ϰ,ϰ,by rw [isSubtype_type];kernel_rfl,PySem.F.slot_dict_init⟩
theorem zsA (a:Value):checkTypeCall "dict" ⟨[a],[]⟩=pure ():=by kernel_rfl
theorem zwf (a:Value):checkBuiltinCall "dict.__new__" ⟨[.type "dict",a],[]⟩=pure ():=by kernel_rfl
theorem ztt:entryFor table "dict.__new__" = some Builtin.«dict.__new__»:=entryFor_of_tree (by kernel_rfl)
theorem znv:plainId "dict.__new__" = true:=ϰ
theorem zlw:entryFor table "dict.update.loop" = some Builtin.«dict.update.loop»:=entryFor_of_tree (by kernel_rfl)
theorem zh7:plainId "dict.update.loop" = true:=ϰ
theorem zl2:isSubtype (.type "dict") (.type "dict")=pure true:=by rw [isSubtype_type];kernel_rfl
noncomputable def zft:Obj:={ cls := .type "dict",data := .dict #[] }
section
variable {P:Program}{w:World}{A:Around}{E:Value->Shared->Prop}{s:Shared}
theorem zwK (a:Value) {Q:Value->Shared->Prop} (h:Q (.ref s.heap.objs.size) { s with heap:=s.heap.push zft }):codeAny (model P w) A (.call (.builtin "dict.__new__") ⟨[.type "dict",a],[]⟩) (wants Q E) s:=by
 refine codeAny_of_tree ?_
 refine wpAny_bind (m:=checkBuiltinCall "dict.__new__" ⟨[.type "dict",a],[]⟩) (wpAny_of_eq (zwf a) ?_)
 refine wpAny_pure ⟨plainId_quiet znv _,codeAny_builtin ztt ?_⟩
 rw [Around.under_plainId znv _]
 unfold Builtin.«dict.__new__»
 have z1:=zl2
 have z2:=zjy
 obtain ⟨hp,g,d,tk,os⟩:=s
 dsimp only
 repeat (any_goals (first | assumption | wp_step))
theorem zjZ {K:Type} [DecidableEq K] {knd:KeyKind P w K}{h h':Heap}{d:Addr}{vs:List (K×Value)} (D:h.DictOf knd d vs) (k:∀ o,h.get? d=some o->h'.get? d=some o):h'.DictOf knd d vs:=by
 obtain ⟨o,es,ep,ho,r⟩:=D
 exact ⟨o,es,ep,k o ho,r⟩
end
noncomputable def dls (kk:Nat->Key) (uu:Nat->Value):Nat->List (Key×Value)
 | 0=>[]
 | i+1=>stored (dls kk uu i) (kk i) (uu i)
theorem zwd {kvs:List (Key×Value)}{k:Key}{v:Value}:(stored kvs k v).length<=kvs.length+1:=by
 unfold stored;split <;> simp
theorem zlt (kk:Nat->Key) (uu:Nat->Value):∀ i,(dls kk uu i).length<=i
 | 0=>Nat.le_refl _
 | i+1=>by have:=zlt kk uu i;have:=zwd (kvs:=dls kk uu i) (k:=kk i) (v:=uu i);unfold dls;omega
section
variable {P:Program}{w:World}{A:Around}{R:Result->Shared->Prop}{I:Addr}{fp wr:List Addr}{G:Array GenState->Array GenState->Prop}{n:Nat}{V:Nat->Value->Prop}{St:Nat->Shared->Prop}
theorem zsf (W:WalksS P w A.in1 I fp wr G n V St) (d:Addr) (hd:d∉fp) (N:Nat) (hdN:N<=d) (hwN:∀ b∈wr,N<=b) (base:Heap) (kk:Nat->Key) (uu:Nat->Value) (hn:n<=1000000)
   (hV:∀ i v,V i v->∃ a key,v = .ref a∧a < N∧IsTup base a #[key,uu i]∧(zbj P w).is (kk i) key=true) (res:Value) :
   ∀ (k i:Nat) (s:Shared),n - i=k->i<=n->St i s->(∀ b o,b < N->base.get? b=some o->s.heap.get? b=some o)->s.heap.DictOf (zbj P w) d (dls kk uu i) ->
     (∀ s',Moved (d :: wr) G s s'->s'.heap.DictOf (zbj P w) d (dls kk uu n)->R (.ok (.ret res)) s') ->
     codeAny (model P w) A (.builtin "dict.update.loop" ⟨[.ref d,.ref I,.int i 0,res],[]⟩) R s:=by
 have hdw:d∉wr:=fun z=>hd (W.sub _ z)
 have up:∀ b∈wr,b∈d :: wr:=fun b z=>List.mem_cons_of_mem _ z
 intro k
 induction k with
 | zero =>
   intro i s hk hi st kb D fin
   obtain rfl:i=n:=by omega
   refine codeAny_builtin zlw ?_
   rw [Around.under_plainId zh7 _]
   refine wpAny_bind (m:=pyNext (.ref I)) (W.done s _ _ st fun s1 m=>?_)
   refine wpAny_bind (m:=Builtin.Dict.addKeywords d []) (wpAny_pure ?_)
   exact wpAny_pure (fin s1 (m.mono up) (zjZ D fun o e=>m.heap d o hdw e))
 | succ k ih =>
   intro i s hk hi st kb D fin
   have lt:i < n:=by omega
   refine codeAny_builtin zlw ?_
   rw [Around.under_plainId zh7 _]
   refine wpAny_bind (m:=pyNext (.ref I)) (W.item i s _ _ lt st fun v s1 hv st1 m=>?_)
   obtain ⟨a,key,rfl,ha,ht,hkey⟩:=hV i v hv
   have kb1:∀ b o,b < N->base.get? b=some o->s1.heap.get? b=some o:=fun b o hb e=>m.heap b o (fun z=>absurd (hwN b z) (Nat.not_le.mpr hb)) (kb b o hb e)
   obtain ⟨ot,hot,hct,nt,hdt⟩:=ht
   have hot1:=kb1 a ot ha hot
   have D1:=zjZ D fun o e=>m.heap d o hdw e
   refine wpAny_bind (wpAny_holding (wpAny_bind (wpAny_tryCatch ?_)))
   unfold Builtin.Dict.pairItems
   refine wpAny_bind (wpAny_typeOf (T :="tuple") ⟨ot,hot1,hct⟩ ?_)
   have q:(Value.type "tuple" == Value.type "list" || Value.type "tuple" == Value.type "tuple")=true:=by decide
   rw [if_pos q]
   refine wpAny_bind (wpAny_seqItems hot1 hdt (wpAny_pure ?_))
   dsimp only [Option.getD]
   refine wpAny_holding (wpAny_dictSet_pairs hkey D1 (fun h' D2 sb=>?_) (by have:=zlt kk uu i;rw [sizeLine_eq];omega))
   have e1:rawInt ((i:Int)+1) = .int ((i+1:Nat):Int) 0:=by simp [rawInt]
   rw [e1]
   refine wpAny_pure ⟨plainId_quiet zh7 _,ih (i+1) _ ω lt (W.frame _ s1 _ _ st1 (Nat.le_succ _) fun b hb o e=>?_) (fun b o hb e=>?_) D2 fun s2 m2 D3=>?_⟩
   . rw [sb.2 b (fun z:b=d=>hd (by rw [<- z];exact hb))];exact e
   . rw [sb.2 b (fun z:b=d=>absurd hdN (by rw [<- z];exact Nat.not_le.mpr hb))];exact kb1 b o hb e
   . refine fin s2 (Moved.trans W.gtrans ((m.mono up).then_heap (Nat.le_succ _) fun b o hb e=>?_) m2) D3
     rw [sb.2 b (fun z:b=d=>hb (by rw [z];exact List.mem_cons_self))];exact e
end
end L2
end
section
namespace L2
open PySem PySem.Spec PyProof.Rows
section
variable {P:Program}{w:World}{A:Around}{E:Value->Shared->Prop}{s:Shared}
theorem zrd {l:Addr}{items:Array Value}{c:Nat}{kk:Nat->Key}{uu:Nat->Value}{Q:Value->Shared->Prop} (hh:A.handled=none) (hl:s.heap.get? l=some (zR items c)) (hn:items.size<=1000000)
   (hi:∀ (i:Nat) v,items[i]?=some v->∃ a key,v = .ref a∧IsTup s.heap a #[key,uu i]∧(zbj P w).is (kk i) key=true)
   (h:∀ (h':Heap) (tk:Nat),h'.DictOf (zbj P w) s.heap.objs.size (dls kk uu items.size)->(∀ b o,s.heap.get? b=some o->h'.get? b=some o)->Q (.ref s.heap.objs.size) { s with heap:=h',toks:=tk }) :
   wpAny (model P w) A (call (.type "dict") [.ref l]) Q E s:=by
 obtain ⟨c0,tl,hmro⟩:=zel.mro
 have z1:=zel.made
 have z2:=zel.sub
 refine wpAny_call (codeAny_of_tree ?_)
 show wpAny (model P w) _ (callAny (.type "dict") _) _ _ s
 refine wpAny_pure ⟨Code.quiet_builtin _ ϰ,codeAny_builtin PySem.F.entry_type_call ?_⟩
 rw [Around.under_plain (weight_type_call_type "dict" [.ref l] []) rfl]
 have z3:=zel.notType
 have z4:=zel.canCreate
 have z5:=zsA (.ref l)
 repeat (any_goals (first | assumption | wp_step))
 refine codeAny_mono (zwK (.ref l) (E:=E) (Q:=fun v s1=>v = .ref s.heap.objs.size∧s1={ s with heap:=s.heap.push zft }) ⟨rfl,rfl⟩) fun r s1 hr=>?_
 cases r with
 | error e=>exact hr
 | ok fl =>
   cases fl with
   | ret v =>
     obtain ⟨rfl,rfl⟩:=hr
     have hS:(s.heap.push zft).get? s.heap.objs.size=some zft:=Heap.get?_push_size _ rfl
     have hT:Shared.TypeIs { s with heap:=s.heap.push zft } (.ref s.heap.objs.size) "dict":=⟨_,hS,rfl⟩
     have y1:=zel.init.lookup
     have y2:=zel.init.bind (.ref s.heap.objs.size)
     repeat (any_goals (first | assumption | wp_step))
     refine codeAny_mono (codeAny_call_builtin (R:=wants (fun r s2=>r = .none∧∃ h' tk,s2={ s with heap:=h',toks:=tk }∧h'.DictOf (zbj P w) s.heap.objs.size (dls kk uu items.size) ∧
         (∀ b o,s.heap.get? b=some o->h'.get? b=some o)) E) zel.init.plain PySem.F.entry_dict_init (zel.init.check _ _ _ _ _ _ _ _ hT (PySem.F.args_dict_init_2 _ _) ?_)) fun r2 s2 hr2=>?_
     . have x1:(s.heap.push zft).get? l=some (zR items c):=Heap.get?_push_of_some _ hl
       have x2:Shared.TypeIs { s with heap:=s.heap.push zft } (.ref l) "list":=⟨_,x1,rfl⟩
       unfold Builtin.«dict.__init__» Builtin.Dict.selfAndRest Builtin.Dict.updateCommon Builtin.Dict.updateFrom
       generalize hPI:pyIter=PI
       generalize hGA:getAttr?=GA
       wp_walk
       subst hGA
       refine zuz (by exact hh) x1 fun h1 tk1 k1=>?_
       subst hPI
       rw [if_pos (show (none:Option Value).isNone=true from rfl)]
       refine wpAny_bind (wpAny_rule ?_)
       have x3:h1.get? l=some (zR items c):=k1 _ _ x1
       have x4:h1.IsList l items:=⟨_,x3,rfl,c,rfl⟩
       refine wpAny_bind (wpAny_pyIter_list (s:={ s with heap:=h1,toks:=tk1 }) x4 ?_)
       have x5:s.heap.objs.size < h1.objs.size:=Heap.lt_size (k1 _ _ hS)
       have x6:l < s.heap.objs.size:=Heap.lt_size hl
       have x7:A.in1.in1.handled=none:=by simp [hh]
       have x8:l≠h1.objs.size:=Nat.ne_of_lt (Nat.lt_trans x6 x5)
       have keep:∀ b o,s.heap.get? b=some o->h1.get? b=some o:=fun b o e=>k1 b o (Heap.get?_push_of_some _ e)
       refine wpAny_pure ⟨plainId_quiet zh7 _,zsf ((Walks.list x7 _ l x8 items).toS) s.heap.objs.size ?_ s.heap.objs.size (Nat.le_refl _) (fun b hb=>?_) s.heap kk uu hn (fun i v hv=>?_) .none (items.size - 0) 0 _ ω (Nat.zero_le _)
         ⟨⟨_,Heap.get?_push_size _ rfl,rfl,rfl⟩,(x4.push _)⟩ (fun b o hb e=>Heap.get?_push_of_some _ (keep b o e)) ?_ fun s3 m D3=>?_⟩
       . intro z
         rcases List.mem_cons.mp z with z | z
         . exact Nat.ne_of_lt x5 z
         . exact Nat.ne_of_gt x6 (List.mem_singleton.mp z)
       . have:=List.mem_singleton.mp hb
         rw [this];exact Nat.le_of_lt x5
       . obtain ⟨a,key,e1,e2,e3⟩:=hi i v hv
         obtain ⟨ot,hot,r⟩:=id e2
         exact ⟨a,key,e1,Heap.lt_size hot,e2,e3⟩
       . exact zjZ (Heap.DictOf.new s.heap) fun o e=>Heap.get?_push_of_some _ (k1 _ o e)
       . obtain ⟨h3,g3,d3,t3,o3⟩:=s3
         obtain rfl:g3=s.gens:=m.gens
         obtain rfl:d3=s.drawn:=m.drawn
         obtain rfl:o3=s.os:=m.os
         refine ⟨rfl,h3,t3,rfl,D3,fun b o e=>?_⟩
         have hb:=Heap.lt_size e
         refine m.heap b o (fun z=>?_) (Heap.get?_push_of_some _ (keep b o e))
         rcases List.mem_cons.mp z with z | z
         . exact Nat.ne_of_lt hb z
         . exact Nat.ne_of_lt (Nat.lt_trans hb x5) (List.mem_singleton.mp z)
     . cases r2 with
       | error e=>exact hr2
       | ok f2 =>
         cases f2 with
         | ret r =>
           obtain ⟨rfl,h',tk,rfl,S',k'⟩:=hr2
           repeat (any_goals (first | assumption | wp_step))
           exact h _ _ S' k'
         | _=>exact hr2.elim
   | _=>exact hr.elim
end
end L2
end
section
namespace L2
open PySem PySem.Spec PyProof.Rows
noncomputable def zc7 (H:Hp):List V->List (Key×V)->Prop
 | [],ps=>ps=[]
 | v :: r,ps=>∃ b p q,ps=p :: q∧v = .ref b∧H b=some (.tup [kV p.1,p.2])∧zc7 H r q
theorem zc7.len {H:Hp}:∀ {vs:List V}{ps:List (Key×V)},zc7 H vs ps->vs.length=ps.length
 | [],ps,h=>by unfold zc7 at h;subst h;rfl
 | v :: r,ps,h=>by unfold zc7 at h;obtain ⟨b,p,q,rfl,_,_,h⟩:=h;simp [zc7.len h]
theorem zc7.get {H:Hp}:∀ {vs:List V}{ps:List (Key×V)}{i:Nat}{v:V},zc7 H vs ps->vs[i]?=some v->∃ b p,v = .ref b∧ps[i]?=some p∧H b=some (.tup [kV p.1,p.2])
 | [],ps,i,v,h,e=>by simp at e
 | x :: r,ps,i,v,h,e=>by
   unfold zc7 at h
   obtain ⟨b,p,q,rfl,rfl,hb,h⟩:=h
   cases i with
   | zero=>simp at e;subst e;exact ⟨b,p,rfl,ς,hb⟩
   | succ i =>
     obtain ⟨b',p',e1,e2,e3⟩:=zc7.get (i:=i) h (by simpa using e)
     exact ⟨b',p',e1,by simpa using e2,e3⟩
noncomputable def zdn (m:List (Key×V)) (ps:List (Key×V)):List (Key×V):=ps.foldl (fun m kv=>zcg m kv.1 kv.2) m
theorem zlS:∀ (ps m:List (Key×V)),(zdn m ps).length<=m.length+ps.length
 | [],m=>Nat.le_refl _
 | p :: ps,m=>by
   have:=zlS ps (zcg m p.1 p.2)
   have:=zjU m p.1 p.2
   unfold zdn at *
   rw [List.foldl_cons,List.length_cons];omega
theorem zwG (ps m:List (Key×V)) (p:Key×V):zdn m (ps++[p])=zcg (zdn m ps) p.1 p.2:=by simp [zdn]
theorem zsR {X:Cx} (hc:X.calm=true):zcK X (.type "dict") (fun xs H Q=>∃ (a:Addr) (vs:List V) (ps:List (Key×V)),xs=[.ref a]∧H a=some (.lst vs)∧zc7 H vs ps∧ps.length<=1000000∧∀ p,H p=none->Q (.ref p) (upd H p (.dK (zdn [] ps)))):=by
 intro pins s σ H xs us Q I r h
 obtain ⟨a,vs,ps,rfl,ha,hp,hn,q⟩:=h
 obtain ⟨u,rfl,ru⟩:=zdm r
 cases ru
 obtain ⟨hz,its,n,rv,e⟩:=I.hok a _ ha
 have hlen:its.length=ps.length:=by rw [<- rv.length];exact hp.len
 have ex:∀ i:Nat,∃ (y:Value) (k:Key),i < ps.length->∃ b key,its[i]?=some (.ref b)∧ps[i]?=some (k,(ps.getD i (k,.non)).2)∧IsTup s.heap b #[key,y]∧(zbj X.prog X.w).is k key=true∧zo (ps.getD i (k,.non)).2 y:=by
   intro i
   by_cases hi:i < ps.length
   . have hv:i < vs.length:=by rw [hp.len];exact hi
     have ev:vs[i]?=some vs[i]:=List.getElem?_eq_getElem hv
     obtain ⟨b,p,e1,e2,e3⟩:=hp.get ev
     obtain ⟨w1,e4,rw1⟩:=rv.get ev
     rw [e1]at rw1
     cases (show w1=Value.ref b from rw1)
     obtain ⟨_,ti,tv,tt⟩:=I.hok b _ e3
     cases tv with
     | cons r1 t2=>cases t2 with
       | cons r2 t3 =>
         cases t3
         rename_i u1 u2
         refine ⟨u2,p.1,fun _=>⟨b,u1,e4,?_,tt,zgB r1,?_⟩⟩
         . rw [e2];simp [List.getD_eq_getElem?_getD,e2]
         . have:ps.getD i (p.1,V.non)=p:=by simp [List.getD_eq_getElem?_getD,e2]
           rw [this];exact r2
   . exact ⟨.none,Sum.inl 0,fun z=>absurd z hi⟩
 have exU:∃ uu:Nat->Value,∀ i,∃ k:Key,i < ps.length->∃ b key,its[i]?=some (.ref b)∧ps[i]?=some (k,(ps.getD i (k,.non)).2)∧IsTup s.heap b #[key,uu i]∧(zbj X.prog X.w).is k key=true∧zo (ps.getD i (k,.non)).2 (uu i):=⟨fun i=>Classical.choose (ex i),fun i=>Classical.choose_spec (ex i)⟩
 obtain ⟨uu,hU⟩:=exU
 have exK:∃ kk:Nat->Key,∀ i,i < ps.length->∃ b key,its[i]?=some (.ref b)∧ps[i]?=some (kk i,(ps.getD i (kk i,.non)).2)∧IsTup s.heap b #[key,uu i]∧(zbj X.prog X.w).is (kk i) key=true∧zo (ps.getD i (kk i,.non)).2 (uu i):=⟨fun i=>Classical.choose (hU i),fun i=>Classical.choose_spec (hU i)⟩
 obtain ⟨kk,hK⟩:=exK
 have sz:its.toArray.size=ps.length:=by simpa using hlen
 refine zrd (items:=its.toArray) (kk:=kk) (uu:=uu) (I.ok.hd hc) e (by rw [sz];exact hn) (fun i v hv=>?_) fun h' tk D k=>?_
 . have hi:i < ps.length:=by rw [<- sz];exact (Array.getElem?_eq_some_iff.mp hv).1
   obtain ⟨b,key,e1,e2,e3,e4,e5⟩:=hK i hi
   have:v = .ref b:=by simpa [e1] using hv.symm
   exact ⟨b,key,this,e3,e4⟩
 . rw [sz]at D
   have rel:∀ i,i<=ps.length->KV (zdn [] (ps.take i)) (dls kk uu i):=by
     intro i
     induction i with
     | zero=>intro _;simp [zdn,dls];exact .nil
     | succ i ih =>
       intro hi
       obtain ⟨b,key,e1,e2,e3,e4,e5⟩:=hK i ω
       have et:ps.take (i+1)=ps.take i++[(kk i,(ps.getD i (kk i,.non)).2)]:=by rw [List.take_add_one,e2];rfl
       rw [et,zwG]
       exact (ih ω).put (kk i) e5
   have rel:=rel ps.length (Nat.le_refl _)
   rw [List.take_length]at rel
   have big:(s.heap.objs.size == sysModules)=false:=beq_eq_false_iff_ne.mpr (Ne.symm (Nat.ne_of_lt I.big))
   have fl:=zlS ps []
   exact ⟨.ref s.heap.objs.size,_,I.laid (t':=tk) (a:=s.heap.objs.size) (o := .dK (zdn [] ps)) k (Nat.le_refl _) (zlv (by rw [sizeLine_eq];simp at fl;omega) big rel D),rfl,q _ (I.hok.fresh (Nat.le_refl _))⟩
end L2
namespace MI
open PySem PySem.Spec L2
theorem zlr {ρ:List Addr}{H:Hp}:∀ {xs:List D}{ps:List (Int×D)}{us:List V},pairsOf xs=some ps->RDs ρ H xs us->∃ kvs,zc7 H us kvs∧KRs ρ H ps kvs
 | [],ps,us,e,r=>by
   simp [pairsOf]at e;subst e
   unfold RDs at r;subst r
   exact ⟨[],by unfold zc7;rfl,by unfold KRs;rfl⟩
 | x :: xs,ps,us,e,r=>by
   unfold RDs at r
   obtain ⟨y,q,rfl,r1,r2⟩:=r
   match x,e,r1 with
   | .tup [.int k,d],e,r1 =>
     rw [pairsOf,Option.map_eq_some_iff]at e
     obtain ⟨ms,e1,rfl⟩:=e
     obtain ⟨kvs,h1,h2⟩:=zlr e1 r2
     unfold RD at r1
     obtain ⟨b,vs,rfl,hb,r1⟩:=r1
     unfold RDs at r1
     obtain ⟨u1,t1,rfl,k1,r1⟩:=r1
     unfold RDs at r1
     obtain ⟨u2,t2,rfl,k2,r1⟩:=r1
     unfold RDs at r1
     subst r1
     unfold RD at k1
     subst k1
     refine ⟨(Sum.inl k,u2) :: kvs,?_,?_⟩
     . unfold zc7;exact ⟨b,_,_,rfl,rfl,hb,h1⟩
     . unfold KRs;exact ⟨u2,kvs,rfl,k2,h2⟩
theorem zlc {ρ:List Addr}{H:Hp}:∀ {ps:List (Int×D)}{kvs:List (Key×V)}{m:List (Int×D)}{m':List (Key×V)},KRs ρ H ps kvs->KRs ρ H m m'->KRs ρ H (ps.foldl (fun a p=>zcr p.1 p.2 a) m) (zdn m' kvs)
 | [],kvs,m,m',h,hm=>by unfold KRs at h;subst h;exact hm
 | p :: ps,kvs,m,m',h,hm=>by
   unfold KRs at h
   obtain ⟨v,q,rfl,rd,h⟩:=h
   exact zlc (m:=zcr p.1 p.2 m) (m':=zcg m' (Sum.inl p.1) v) h (KRs.put rd hm)
section
variable {W:Nat->Hp->Prop}{X:Cx}{F:Addr->Prop}{G:GP}{env:zr}{σ:L2.St}{ρ:List Addr}{H:Hp}{h:MH}{e:Expr}{ml:ME (List D)}{pos p:Pos}{Q:VK}
theorem KRs.ext {F:Addr->Prop}{ρ1:List Addr}{H1:Hp} (x:Ext F ρ ρ1 H H1) {ps:List (Int×D)}{kvs:List (Key×V)} (r:KRs ρ H ps kvs):KRs ρ1 H1 ps kvs:=r.map fun _ _ _=>RD.ext x _ _
theorem zq0 (hg:Gl X "dict") (hm:X.mg "dict" = none) (ha:JE X e (tL W G ml)) (hs:starEach [e] X.env=(false,eval e X.env) :: starEach [] X.env) (hc:X.calm=true:=by rfl):JE X (.Call (.Name "dict" p) [e] [] pos) (tE W G (zia ml)) :=
 .of (zT (ziM (zsR hc) hg hm ϰ (zcd ha.to zcu hs) (he:=hs)) fun σ H Q ⟨F,ρ,env,h,er,hr,w⟩=>zdp ⟨F,ρ,env,h,er,hr,zC w fun xs h1 ρ1 H1 y e1 er1 hr1 ⟨q,us,ey,hq,rs⟩ w1=>by
   subst ey
   cases eb:pairsOf xs with
   | none=>rw [eb]at w1;exact w1.elim
   | some ps =>
     rw [eb]at w1
     obtain ⟨kvs,k1,k2⟩:=zlr eb rs
     by_cases hl:ps.length<=1000000
     . dsimp only at w1
       rw [if_pos hl]at w1
       refine ⟨q,us,kvs,rfl,hq,k1,by rw [<- k2.length];exact hl,fun d hd=>?_⟩
       refine znJ w1 er1 hr1 hd ⟨zdn [] kvs,zb4,?_⟩
       have ex:Ext F ρ1 (ρ1++[d]) H1 (upd H1 d (.dK (zdn [] kvs))):=⟨⟨[d],rfl⟩,(zb1 hr1 hd).tup,(zb1 hr1 hd).frm⟩
       exact KRs.ext ex (zlc k2 (by unfold KRs;rfl))
     . dsimp only at w1
       rw [if_neg hl]at w1;exact w1.elim⟩)
end
end MI
end
section
namespace L2
open PySem PySem.Spec PyProof.Rows
section
variable {P:Program}{w:World}{A:Around}{E:Value->Shared->Prop}{s:Shared}{a:Addr}{vs:List (Key×Value)}{ep:Nat}
theorem zuV {R:Bool->Shared->Prop} (hT:s.TypeIs (.ref a) "dict") (h:R false s):wpAny (model P w) A (Builtin.List.listLengthHint (.ref a)) R E s:=by
 unfold Builtin.List.listLengthHint
 refine wpAny_bind (wpAny_specialOf hT PySem.F.slot_dict_len.lookup ?_)
 have e1:splitId "dict.__len__" = some ("dict", "__len__"):=by decide +kernel
 dsimp only
 rw [e1]
 dsimp only
 refine wpAny_bind (wpAny_isInstance hT zl2 ?_)
 rw [if_neg (show ¬ ((!true)=true) by decide)]
 refine iteInduction (motive:=fun m=>wpAny (model P w) A m R E s) (fun _=>?_) (fun hc=>absurd ϰ hc)
 exact wpAny_bind (wpAny_typeOf hT (wpAny_pure h))
theorem zqU {Q:List Value->Shared->Prop} (hh:A.handled=none) (hs:(a == sysModules)=false) (D:s.heap.DictAt (zbj P w) a vs ep) (hb:vs.length < 4000)
   (hQ:∀ s' acc,(∀ b o,s.heap.get? b=some o->s'.heap.get? b=some o)->s.heap.objs.size<=s'.heap.objs.size->s'.gens=s.gens->s'.drawn=s.drawn->s'.os=s.os->ItemsOf (fun i v=>∃ kv,vs[i]?=some kv∧(zbj P w).is kv.1 v=true) acc vs.length->Q acc.toList s') :
   wpAny (model P w) A (collect (.ref a)) Q E s:=by
 have hln:vs.length<=sizeLine:=by rw [sizeLine_eq];omega
 obtain ⟨o,es,ho,hex,r⟩:=id D
 have ha:a < s.heap.objs.size:=Heap.lt_size ho
 have hh1:A.in1.handled=none:=hh
 unfold collect
 refine wpAny_bind (wpAny_runValue (codeAny_builtin PySem.F.entry_proto_collect ?_))
 rw [Around.under_plainId PySem.F.plain_proto_collect _]
 show wpAny _ A.in1 (newList [] >>= fun l=>again (.builtin "list.__iadd__" ⟨[l,.ref a],[]⟩)) _ _ s
 refine wpAny_bind (wpAny_newObj_type ?_)
 refine wpAny_pure ⟨plainId_quiet PySem.F.plain_list_iadd _,codeAny_builtin PySem.F.entry_list_iadd ?_⟩
 rw [Around.under_plainId PySem.F.plain_list_iadd _]
 have hz1:(s.heap.push (zR #[] 0)).objs.size=s.heap.objs.size+1:=size_push' _ _
 have hL1:(s.heap.push (zR #[] 0)).get? s.heap.objs.size=some (zR #[] 0):=Heap.get?_push_size _ rfl
 have D1:(s.heap.push (zR #[] 0)).DictAt (zbj P w) a vs ep:=D.at' fun o e=>Heap.get?_push_of_some _ e
 have T1:Shared.TypeIs { s with heap:=s.heap.push (zR #[] 0) } (.ref a) "dict":=D1.dictOf.typeIs
 show wpAny _ A.in1 (Builtin.List.listExtendWith (.ref s.heap.objs.size) (.ref a) (.ref s.heap.objs.size)) _ _ { s with heap:=s.heap.push (zR #[] 0) }
 unfold Builtin.List.listExtendWith
 refine wpAny_bind (wpAny_typeOf T1 ?_)
 have q1:Builtin.List.listSameRef (.ref s.heap.objs.size) (.ref a)=false:=by simp [Builtin.List.listSameRef];exact Nat.ne_of_gt ha
 have q2:(Value.type "dict" == Value.type "list")=false:=by decide
 have q3:(Value.type "dict" == Value.type "tuple")=false:=by decide
 rw [q1,q2,q3,if_neg ϑ]
 refine wpAny_bind (wpAny_pyIter_dict (s:={ s with heap:=s.heap.push (zR #[] 0) }) hs D1 ?_)
 have hI:a≠(s.heap.push (zR #[] 0)).objs.size:=by rw [hz1];exact Nat.ne_of_lt (Nat.lt_succ_of_lt ha)
 have D2:((s.heap.push (zR #[] 0)).push { cls := .type "dict_keyiterator",data := .fields #[.ref a,.int 0 0,.int vs.length 0,.int ep 0] }).DictAt (zbj P w) a vs ep:=D1.at' fun o e=>Heap.get?_push_of_some _ e
 have T2:Shared.TypeIs { s with heap:=(s.heap.push (zR #[] 0)).push { cls := .type "dict_keyiterator",data := .fields #[.ref a,.int 0 0,.int vs.length 0,.int ep 0] } } (.ref a) "dict":=D2.dictOf.typeIs
 refine wpAny_bind (wpAny_holding (zuV T2 ?_))
 refine zjB (L:=s.heap.objs.size) ((Walks.dictKeys hh1 _ a hI vs ep).toS) ⟨⟨_,Heap.get?_push_size _ rfl,rfl,rfl⟩,D2⟩ (Heap.get?_push_of_some _ hL1) ?_ hln (fun s' acc c m e i=>?_) _ ϰ (fun s' h=>⟨plainId_quiet PySem.F.plain_extend_loop _,h⟩)
 . intro z
   rw [hz1]at z
   rcases List.mem_cons.mp z with z | z
   . exact absurd z (Nat.ne_of_lt (Nat.lt_succ_self _))
   . exact Nat.ne_of_gt ha (List.mem_singleton.mp z)
 . refine wpAny_bind (m:=load s.heap.objs.size) (wpAny_load e (wpAny_pure (hQ s' acc (fun b o q=>?_) (Nat.le_of_lt (Heap.lt_size e)) m.gens m.drawn m.os ?_)))
   . have hb:=Heap.lt_size q
     refine m.heap b o (fun z=>?_) (Heap.get?_push_of_some _ (Heap.get?_push_of_some _ q))
     rw [hz1]at z
     rcases List.mem_cons.mp z with z | z
     . exact Nat.ne_of_lt hb z
     . exact Nat.ne_of_lt (Nat.lt_succ_of_lt hb) (List.mem_singleton.mp z)
   . exact ⟨i.1,fun j v hj=>let ⟨k,x,e1,e2⟩:=i.2 j v hj;⟨(k,x),e1,e2⟩⟩
theorem zmM:∀ (acc:List Value) (ks:List Int),acc.length=ks.length->(∀ (i:Nat) (v:Value),acc[i]?=some v->∃ t,v=Value.int (ks.getD i 0) t)->IntsAre acc ks
 | [],[],_,_=> .nil
 | [],_ :: _,h,_=>by cases h
 | _ :: _,[],h,_=>by cases h
 | v :: acc,k :: ks,h,f=>by
   obtain ⟨t,e⟩:=f 0 v rfl
   have e:v = .int k t:=e
   subst e
   exact .cons k t (zmM acc ks (by simpa using h) fun i u hu=>f (i+1) u (by simpa using hu))
end
end L2
namespace MI
open PySem PySem.Spec L2
theorem KRs.keys {ρ:List Addr}{H:Hp}:∀ {ps:List (Int×D)}{kvs:List (Key×V)},KRs ρ H ps kvs->kvs.map (·.1)=(ps.map (·.1)).map Sum.inl
 | [],kvs,h=>by unfold KRs at h;subst h;rfl
 | p :: ps,kvs,h=>by
   unfold KRs at h
   obtain ⟨v,q,rfl,_,h⟩:=h
   simp [KRs.keys h]
section
variable {W:Nat->Hp->Prop}{X:Cx}{F:Addr->Prop}{G:GP}{env:zr}{σ:L2.St}{ρ:List Addr}{H:Hp}{h:MH}{e:Expr}{ma:ME D}{pos p:Pos}{Q:VK}
end
end MI
end
section
namespace Sr
open PySem PyProof.Rows
structure SB (a₀:Array Keyed) (st:SortSt):Prop where
 perm:(arrOf st).Perm a₀
 kind:kindOf st=oneType'
 failed:failedOf st=none
variable {prog:Program}{w:World}{A:Around}{E:Value->Shared->Prop}{s:Shared}{a₀:Array Keyed}{st:SortSt}
theorem SB.size (h:SB a₀ st):(arrOf st).size=a₀.size:=h.perm.size_eq
theorem SB.setArr (h:SB a₀ st) {xs:Array Keyed} (hp:xs.Perm (arrOf st)):SB a₀ (setArr st xs):=⟨hp.trans h.perm,h.kind,h.failed⟩
theorem zdu {xs:Array Keyed} (hx:IntKeys xs) {i:Nat} (hi:i < xs.size):∃ t q,xs[i]?=some (.int (K xs i) t,q):=by
 have e:xs[i]?=some xs[i]:=getElem?_pos _ i hi
 obtain ⟨n,t,hn⟩:=hx xs[i] ς
 have e2:xs[i]=(.int n t,xs[i].2):=Prod.ext hn rfl
 refine ⟨t,xs[i].2,?_⟩
 unfold K
 rw [e,e2];rfl
theorem zmu {xs ys:Array Keyed} (hp:xs.Perm ys) (h:IntKeys ys):IntKeys xs:=fun p hm=>h p ((Array.perm_iff_toList_perm.mp hp).mem_iff.mp hm)
theorem zhi {i j:Nat}{Q:Option Bool->SortSt->Prop} (hB:SB a₀ st) (h0:IntKeys a₀) (hi:i < a₀.size) (hj:j < a₀.size)
   (h:Q (some (decide (K (arrOf st) i < K (arrOf st) j))) st):wpS (model prog w) A E s (ltAt' i j) Q st:=by
 have hk:=zmu hB.perm h0
 obtain ⟨t,p,e1⟩:=zdu hk (i:=i) (by rw [hB.size];exact hi)
 obtain ⟨u,q,e2⟩:=zdu hk (i:=j) (by rw [hB.size];exact hj)
 exact wpS_ltAt hB.kind e1 e2 h
noncomputable def Seg (xs:Array Keyed) (lo m:Nat):Prop:=∀ i j,lo<=i->i<=j->j < lo+m->K xs i<=K xs j
noncomputable def Dsc (xs:Array Keyed) (lo m:Nat):Prop:=∀ i j,lo<=i->i<=j->j < lo+m->K xs j<=K xs i
structure Kp (a₀:Array Keyed) (lo:Nat) (st st':SortSt):Prop where
 b:SB a₀ st'
 p:pendingOf st'=pendingOf st
 k:∀ i,i < lo->K (arrOf st') i=K (arrOf st) i
theorem Kp.refl (hB:SB a₀ st) {lo:Nat}:Kp a₀ lo st st:=⟨hB,rfl,fun _ _=>rfl⟩
theorem Kp.mirror {st':SortSt}{lo i j:Nat} (h:Kp a₀ lo st st') (hi:lo<=i) (hj:j<=a₀.size):Kp a₀ lo st (setArr st' (PyProof.Rows.mirror (arrOf st') i j ((j - i) / 2))) :=
 ⟨h.b.setArr (mirror_perm _ _ _ _),h.p,fun k hk=>by
   show K (PyProof.Rows.mirror (arrOf st') i j ((j - i) / 2)) k=_
   rw [K_mirror (by rw [h.b.size];exact hj),if_neg ω];exact h.k k hk⟩
theorem Seg.snoc {xs:Array Keyed}{lo m:Nat} (h:Seg xs lo m) (h1:1<=m) (hl:K xs (lo+m - 1)<=K xs (lo+m)):Seg xs lo (m+1):=fun i j h1 h2 h3=>by
 by_cases c:j < lo+m
 . exact h i j h1 h2 c
 . have e:j=lo+m:=by omega
   subst e
   by_cases d:i=lo+m
   . rw [d];exact Int.le_refl _
   . exact Int.le_trans (h i (lo+m - 1) h1 ω ω) hl
theorem Dsc.snoc {xs:Array Keyed}{lo m:Nat} (h:Dsc xs lo m) (h1:1<=m) (hl:K xs (lo+m)<=K xs (lo+m - 1)):Dsc xs lo (m+1):=fun i j h1 h2 h3=>by
 by_cases c:j < lo+m
 . exact h i j h1 h2 c
 . have e:j=lo+m:=by omega
   subst e
   by_cases d:i=lo+m
   . rw [d];exact Int.le_refl _
   . exact Int.le_trans hl (h i (lo+m - 1) h1 ω ω)
theorem zmQ {α:Type}{c:Prop} [Decidable c] {T X:StateT SortSt Sem α}{Q:α->SortSt->Prop} (P:SortSt->Prop) (key:∀ st1,P st1->wpS (model prog w) A E s T Q st1)
   (hX:c->(∀ st1,P st1->wpS (model prog w) A E s T Q st1)->wpS (model prog w) A E s X Q st) (hT:¬ c->P st):wpS (model prog w) A E s (if c then X else T) Q st:=by
 by_cases hc:c
 . rw [if_pos hc];exact hX hc key
 . rw [if_neg hc];exact key st (hT hc)
theorem zrE {lo nrem:Nat}{Q:Option Nat->SortSt->Prop} (h0:IntKeys a₀) (hn:lo+nrem<=a₀.size) (h1:1<=nrem) (hB:SB a₀ st)
   (h:∀ m st',Kp a₀ lo st st'->1<=m->m<=nrem->Seg (arrOf st') lo m->Q (some m) st') :
   wpS (model prog w) A E s (countRun' lo nrem) Q st:=by
 rw [countRun'_eq]
 have asc:∀ (a:Nat) (st1:SortSt) (Q1:Option (Option Nat)×Nat->SortSt->Prop),Kp a₀ lo st st1->1<=a->a<=nrem->Seg (arrOf st1) lo a ->
     (∀ n,a<=n->n<=nrem->Seg (arrOf st1) lo n->(n=nrem∨K (arrOf st1) (lo+n) < K (arrOf st1) (lo+n - 1))->Q1 (none,n) st1) ->
     wpS (model prog w) A E s (forIn [a:nrem] ((none,a):Option (Option Nat)×Nat) fun _ __s=>do
       let __x <- ltAt' (lo+__s.snd) (lo+__s.snd - 1)
       match __x with
       | some smaller=>if smaller=true then pure (ForInStep.done (none,__s.snd)) else pure (ForInStep.yield (none,__s.snd+1))
       | _=>pure (ForInStep.done (some none,__s.snd))) Q1 st1:=by
   intro a st1 Q1 hk ha han hs hq
   refine wpS_forRange (I:=fun x c st'=>st'=st1∧c=(none,x)∧Seg (arrOf st1) lo x) ?_ ?_ ⟨rfl,rfl,hs⟩
   . rintro x c st' hax hxn ⟨rfl,rfl,hs'⟩
     refine wpS_bind (zhi hk.b h0 (by dsimp only;omega) (by dsimp only;omega) ?_)
     dsimp only
     by_cases hl:K (arrOf st') (lo+x) < K (arrOf st') (lo+x - 1)
     . simp only [hl,decide_true,if_true]
       exact wpS_pure (hq x hax ω hs' (.inr hl))
     . simp only [hl,decide_false,Bool.false_eq_true,if_false]
       exact wpS_pure ⟨rfl,rfl,hs'.snoc ω ω⟩
   . rintro c st' ⟨rfl,rfl,hs'⟩
     rw [show max a nrem=nrem by omega]at hs' ⊢
     exact hq nrem han (Nat.le_refl _) hs' (.inl rfl)
 refine wpS_bind (asc 1 st _ (.refl hB) (Nat.le_refl 1) h1 (fun i j a b c=>by have:i=j:=ω;subst this;exact Int.le_refl _) fun n hn1 hn2 hs hor=>?_)
 dsimp only
 by_cases hnn:n=nrem
 . rw [if_pos (by simpa using hnn)]
   exact wpS_pure (h n st (.refl hB) hn1 hn2 hs)
 rw [if_neg (by simpa using hnn)]
 have hlt:K (arrOf st) (lo+n) < K (arrOf st) (lo+n - 1):=hor.resolve_left hnn
 refine zmQ (fun st1=>Kp a₀ lo st st1∧Dsc (arrOf st1) lo (n+1)) ?_ ?_ ?_
 . rintro st1 ⟨hk,hd⟩
   refine wpS_bind (wpS_lift (wpAny_rule ⟨rfl,?_⟩))
   refine wpS_bind (wpS_mono (wpS_forRange (I:=fun x c st'=>∃ q,c=(none,x,q)∧Kp a₀ lo st st'∧Dsc (arrOf st') lo x∧q+1<=x∧(∀ i,lo+x - (q+1)<=i->i < lo+x->K (arrOf st') i=K (arrOf st') (lo+x - 1)))
     (Q:=fun c st'=>∃ x q,x<=nrem∧1<=x∧c=(none,x,q)∧Kp a₀ lo st st'∧Dsc (arrOf st') lo x∧q+1<=x∧(∀ i,lo+x - (q+1)<=i->i < lo+x->K (arrOf st') i=K (arrOf st') (lo+x - 1))) ?_ ?_ ⟨0,rfl,hk,hd,ω,fun i h1 h2=>by congr 1;omega⟩) ?_)
   . rintro x c st' hax hxn ⟨q,rfl,hk',hd',hq,he⟩
     dsimp only
     have hsz:lo+x<=a₀.size:=by omega
     refine wpS_bind (zhi hk'.b h0 ω ω ?_)
     dsimp only
     by_cases hl:K (arrOf st') (lo+x) < K (arrOf st') (lo+x - 1)
     . simp only [hl,decide_true,if_true]
       by_cases hq0:q > 0
       . rw [if_pos hq0]
         refine wpS_bind (wpS_reverse (wpS_pure ⟨0,rfl,hk'.mirror ω hsz,?_,ω,fun i h1 h2=>by congr 1;omega⟩))
         have ke:=K_mirror_equal (xs:=arrOf st') (i:=lo+x - (q+1)) (j:=lo+x) (by rw [hk'.b.size];exact hsz) he
         intro i j a b c
         show K (mirror _ _ _ _) j<=K (mirror _ _ _ _) i
         rw [ke,ke]
         exact hd'.snoc ω (Int.le_of_lt hl) i j a b c
       . rw [if_neg hq0]
         exact wpS_pure ⟨0,rfl,hk',hd'.snoc ω (Int.le_of_lt hl),ω,fun i h1 h2=>by congr 1;omega⟩
     . simp only [hl,decide_false,Bool.false_eq_true,if_false]
       refine wpS_bind (zhi hk'.b h0 ω ω ?_)
       dsimp only
       by_cases hl2:K (arrOf st') (lo+x - 1) < K (arrOf st') (lo+x)
       . simp only [hl2,decide_true,if_true]
         exact wpS_pure ⟨x,q,ω,ω,rfl,hk',hd',hq,he⟩
       . simp only [hl2,decide_false,Bool.false_eq_true,if_false]
         have eqx:K (arrOf st') (lo+x)=K (arrOf st') (lo+x - 1):=by omega
         refine wpS_pure ⟨q+1,rfl,hk',hd'.snoc ω ω,ω,fun i h1 h2=>?_⟩
         rw [show lo+(x+1) - 1=lo+x by omega]
         by_cases hix:i=lo+x
         . rw [hix]
         . rw [eqx];exact he i ω ω
   . rintro c st' ⟨q,rfl,hk',hd',hq,he⟩
     rw [show max (n+1) nrem=nrem by omega]at hd' hq he ⊢
     exact ⟨nrem,q,ω,ω,rfl,hk',hd',hq,he⟩
   . rintro c st2 ⟨x,q,hxn,hx1,rfl,hk2,hd2,hq,he⟩
     dsimp only
     have hsz:lo+x<=a₀.size:=by omega
     refine zmQ (fun st3=>Kp a₀ lo st st3∧Dsc (arrOf st3) lo x) ?_ ?_ ?_
     . rintro st3 ⟨hk3,hd3⟩
       refine wpS_bind (wpS_reverse ?_)
       refine wpS_bind (asc x _ _ (hk3.mirror (Nat.le_refl _) hsz) hx1 hxn ?_ fun m hm1 hm2 hsm _=>wpS_pure (h m _ (hk3.mirror (Nat.le_refl _) hsz) ω hm2 hsm))
       intro i j a b c
       show K (mirror _ _ _ _) i<=K (mirror _ _ _ _) j
       have hs3:lo+x<=(arrOf st3).size:=by rw [hk3.b.size];exact hsz
       rw [K_mirror hs3,K_mirror hs3,if_pos ω,if_pos ω]
       exact hd3 _ _ ω ω ω
     . intro hq0 key
       refine wpS_bind (wpS_reverse (key _ ⟨hk2.mirror ω hsz,?_⟩))
       have ke:=K_mirror_equal (xs:=arrOf st2) (i:=lo+x - (q+1)) (j:=lo+x) (by rw [hk2.b.size];exact hsz) he
       intro i j a b c
       show K (mirror _ _ _ _) j<=K (mirror _ _ _ _) i
       rw [ke,ke]
       exact hd2 i j a b c
     . intro _;exact ⟨hk2,hd2⟩
 . intro hgt key
   refine wpS_bind (zhi hB h0 ω ω ?_)
   dsimp only
   by_cases hr:K (arrOf st) lo < K (arrOf st) (lo+n - 1)
   . simp only [hr,decide_true,if_true]
     exact wpS_pure (h n st (.refl hB) hn1 hn2 hs)
   . simp only [hr,decide_false,Bool.false_eq_true,if_false]
     have hsz:lo+n<=(arrOf st).size:=by rw [hB.size];omega
     have hall:∀ k,lo<=k->k < lo+n->K (arrOf st) k=K (arrOf st) (lo+n - 1):=fun k a b=>by
       have a1:=hs lo k ω a b
       have a2:=hs k (lo+n - 1) a ω ω
       omega
     refine wpS_bind (wpS_reverse (key _ ⟨(Kp.refl hB).mirror (Nat.le_refl _) ω,?_⟩))
     have ke:=K_mirror_equal (xs:=arrOf st) (i:=lo) (j:=lo+n) hsz hall
     intro i j a b c
     show K (mirror _ _ _ _) j<=K (mirror _ _ _ _) i
     rw [ke,ke]
     by_cases hjn:j < lo+n
     . rw [hall i a ω,hall j ω hjn];exact Int.le_refl _
     . have hj':j=lo+n:=by omega
       by_cases hi':i=j
       . rw [hi'];exact Int.le_refl _
       . rw [hall i a ω,hj'];exact Int.le_of_lt hlt
 . intro hgt
   refine ⟨.refl hB,fun i j a b c=>?_⟩
   by_cases hi':i=j
   . rw [hi'];exact Int.le_refl _
   . have e1:i=lo+n - 1:=by omega
     have e2:j=lo+n:=by omega
     rw [e1,e2];exact Int.le_of_lt hlt
theorem ztE {lo n ok:Nat}{Q:Bool->SortSt->Prop} (h0:IntKeys a₀) (hn:lo+n<=a₀.size) (hok:ok<=n) (hB:SB a₀ st) (hs:Seg (arrOf st) lo ok)
   (h:∀ st',Kp a₀ lo st st'->Seg (arrOf st') lo n->Q true st'):wpS (model prog w) A E s (binarySort' lo n ok) Q st:=by
 rw [binarySort'_eq]
 refine wpS_bind (wpS_mono (wpS_forRange (I:=fun k c st'=>c=(none,())∧Kp a₀ lo st st'∧Seg (arrOf st') lo (min k n)) (Q:=fun c st'=>c=(none,())∧Kp a₀ lo st st'∧Seg (arrOf st') lo n) ?_ ?_ ?_) ?_)
 . rintro k c st' hak hkn ⟨rfl,hk',hs'⟩
   rw [show min k n=k by omega]at hs'
   have hk:lo+k < a₀.size:=by omega
   refine wpS_bind (wpS_mono (wpS_forRange (I:=fun x c st2=>st2=st'∧∃ l r,c=(none,l,r)∧l<=r∧r<=k∧r - l<=k - x∧(∀ i,i < l->K (arrOf st') (lo+i)<=K (arrOf st') (lo+k))∧(∀ i,r<=i->i < k->K (arrOf st') (lo+k) < K (arrOf st') (lo+i)))
     (Q:=fun c st2=>st2=st'∧∃ l r,c=(none,l,r)∧l<=k∧(∀ i,i < l->K (arrOf st') (lo+i)<=K (arrOf st') (lo+k))∧(∀ i,l<=i->i < k->K (arrOf st') (lo+k) < K (arrOf st') (lo+i))) ?_ ?_ ⟨rfl,0,k,rfl,ω,ω,ω,fun i hi=>by omega,fun i h1 h2=>by omega⟩) ?_)
   . rintro x c st2 _ hxk ⟨rfl,l,r,rfl,hlr,hrk,hm,hlo,hhi⟩
     dsimp only
     by_cases hge:l ≥ r
     . rw [if_pos hge]
       have:l=r:=by omega
       subst this
       exact wpS_pure ⟨rfl,l,l,rfl,hrk,hlo,hhi⟩
     . rw [if_neg hge]
       refine wpS_bind (zhi hk'.b h0 hk ω ?_)
       dsimp only
       by_cases hl:K (arrOf st2) (lo+k) < K (arrOf st2) (lo+(l+r) / 2)
       . simp only [hl,decide_true,if_true]
         exact wpS_pure ⟨rfl,l,(l+r) / 2,rfl,ω,ω,ω,hlo,fun i h1 h2=>Int.lt_of_lt_of_le hl (hs' _ _ ω ω ω)⟩
       . simp only [hl,decide_false,Bool.false_eq_true,if_false]
         exact wpS_pure ⟨rfl,(l+r) / 2+1,r,rfl,ω,ω,ω,fun i h1=>Int.le_trans (hs' (lo+i) (lo+(l+r) / 2) ω ω ω) (Int.not_lt.mp hl),hhi⟩
   . rintro c st2 ⟨rfl,l,r,rfl,hlr,hrk,hm,hlo,hhi⟩
     have:l=r:=by omega
     subst this
     exact ⟨rfl,l,l,rfl,hrk,hlo,hhi⟩
   . rintro c st2 ⟨rfl,l,r,rfl,hlk,hlo,hhi⟩
     show wpS _ _ _ _ (do moveDown' (lo+k) (lo+l);pure (ForInStep.yield (none,()))) _ _
     rw [moveDown'_eq]
     have hks:lo+k < (arrOf st2).size:=by rw [hk'.b.size];exact hk
     refine wpS_bind (wpS_modify (wpS_pure ⟨rfl,⟨hk'.b.setArr (bubble_perm _ _ _),hk'.p,fun i hi=>?_⟩,?_⟩))
     . show K (bubble (arrOf st2) (lo+k) (lo+k - (lo+l))) i=_
       rw [K_bubble hks ω,if_neg ω,if_neg ω]
       exact hk'.k i hi
     . rw [show min (k+1) n=k+1 by omega]
       intro i j a b c
       show K (bubble (arrOf st2) (lo+k) (lo+k - (lo+l))) i<=K (bubble (arrOf st2) (lo+k) (lo+k - (lo+l))) j
       rw [K_bubble hks ω,K_bubble hks ω,show lo+k - (lo+k - (lo+l))=lo+l by omega]
       have hlo':∀ i,lo<=i->i < lo+l->K (arrOf st2) i<=K (arrOf st2) (lo+k):=fun i a b=>by have:=hlo (i - lo) ω;rwa [show lo+(i - lo)=i by omega]at this
       have hhi':∀ i,lo+l<=i->i < lo+k->K (arrOf st2) (lo+k) < K (arrOf st2) i:=fun i a b=>by have:=hhi (i - lo) ω ω;rwa [show lo+(i - lo)=i by omega]at this
       repeat' split
       all_goals first
         | (exfalso;omega)
         | exact Int.le_refl _
         | exact hlo' _ ω ω
         | exact Int.le_of_lt (hhi' _ ω ω)
         | exact hs' _ _ ω ω ω
 . rintro c st' ⟨hc,hk',hs'⟩
   refine ⟨hc,hk',?_⟩
   rwa [show min (max (max ok 1) n) n=n by omega]at hs'
 . refine ⟨rfl,.refl hB,fun i j a b c=>?_⟩
   by_cases h1:ok=0
   . have:i=j:=by omega
     rw [this];exact Int.le_refl _
   . exact hs i j a b ω
 . rintro c st' ⟨rfl,hk',hs'⟩
   exact wpS_pure (h st' hk' hs')
end Sr
end
section
namespace Sr
open PySem PyProof.Rows
noncomputable def zuq:Bool->Keyed->Array Keyed->Nat->Nat->Nat->StateT SortSt Sem (Option Nat):=sortPriv% PySem.Builtin.gallop
variable {prog:Program}{w:World}{A:Around}{E:Value->Shared->Prop}{s:Shared}{a₀:Array Keyed}{st:SortSt}
theorem ziW {x y:Keyed}{a b:Int}{t u:Tok}{Q:Option Bool->SortSt->Prop} (hk:kindOf st=oneType') (hx:x.1 = .int a t) (hy:y.1 = .int b u) (h:Q (some (decide (a < b))) st) :
   wpS (model prog w) A E s (lt' x y) Q st:=by
 rw [lt'_eq]
 refine wpS_bind (wpS_get ?_)
 rw [hk,keyLt'_oneType,hx,hy]
 refine wpS_bind (wpS_lift (wpAny_attempt (oneLt_int ⟨rfl,?_⟩)))
 exact wpS_pure h
theorem zbr {xs:Array Keyed}{i:Nat}{x:Keyed}{Q:Keyed->SortSt->Prop} (e:xs[i]?=some x) (h:Q x st):wpS (model prog w) A E s (elem' xs i) Q st:=by
 rw [elem'_eq,e];exact wpS_pure h
noncomputable def Bd (left:Bool) (k x:Int):Bool:=if left then decide (x < k) else !decide (k < x)
theorem Bd.mono {left:Bool}{k x y:Int} (h:x<=y) (hb:Bd left k y=true):Bd left k x=true:=by
 unfold Bd at hb ⊢
 cases left
 . simp at hb ⊢;omega
 . simp at hb ⊢;omega
theorem zll {Bv:Nat->Bool}{n lo hi:Nat}{F:Nat->Option (Option Nat)×Nat×Nat->StateT SortSt Sem (ForInStep (Option (Option Nat)×Nat×Nat))}{Q:Option (Option Nat)×Nat×Nat->SortSt->Prop}
   (mono:∀ i j,i<=j->j < n->Bv j=true->Bv i=true) (hle:lo<=hi) (hn:hi<=n) (hlo:∀ i,i < lo->Bv i=true) (hhi:∀ i,hi<=i->i < n->Bv i=false)
   (h1:∀ x a b Q1,a ≥ b->Q1 (.done (none,a,b)) st->wpS (model prog w) A E s (F x (none,a,b)) Q1 st)
   (h2:∀ x a b Q1,a < b->b<=n->(Bv (a+(b - a) / 2)=true->Q1 (.yield (none,a+(b - a) / 2+1,b)) st)->(Bv (a+(b - a) / 2)=false->Q1 (.yield (none,a,a+(b - a) / 2)) st)->wpS (model prog w) A E s (F x (none,a,b)) Q1 st)
   (h:∀ r,r<=n->(∀ i,i < r->Bv i=true)->(∀ i,r<=i->i < n->Bv i=false)->Q (none,r,r) st):wpS (model prog w) A E s (forIn [:n] (none,lo,hi) F) Q st:=by
 refine wpS_forRange (I:=fun x c st'=>st'=st∧∃ a b,c=(none,a,b)∧a<=b∧b<=n∧b - a<=n - x∧(∀ i,i < a->Bv i=true)∧(∀ i,b<=i->i < n->Bv i=false)) ?_ ?_ ⟨rfl,lo,hi,rfl,hle,hn,ω,hlo,hhi⟩
 . rintro x c st' _ hx ⟨rfl,a,b,rfl,p1,p2,p3,p4,p5⟩
   by_cases hab:a ≥ b
   . have:a=b:=by omega
     subst this
     exact h1 x a a _ hab (h a p2 p4 p5)
   . refine h2 x a b _ ω p2 (fun t=>⟨rfl,_,b,rfl,ω,p2,ω,fun i hi=>mono i _ ω ω t,p5⟩) (fun t=>⟨rfl,a,_,rfl,ω,ω,ω,p4,fun i q1 q2=>?_⟩)
     cases e:Bv i with
     | false=>rfl
     | true=>rw [mono _ i q1 q2 e]at t;cases t
 . rintro c st' ⟨rfl,a,b,rfl,p1,p2,p3,p4,p5⟩
   have:a=b:=by omega
   subst this
   exact h a p2 p4 p5
theorem zfG {left:Bool}{key:Keyed}{arr:Array Keyed}{base n hint:Nat}{kv:Int}{kt:Tok}{Q:Option Nat->SortSt->Prop} (hk:kindOf st=oneType') (ik:IntKeys arr) (hkey:key.1 = .int kv kt) (hb:base+n<=arr.size) (hh:hint < n)
   (srt:∀ i j,i<=j->j < n->K arr (base+i)<=K arr (base+j))
   (h:∀ r,r<=n->(∀ i,i < r->Bd left kv (K arr (base+i))=true)->(∀ i,r<=i->i < n->Bd left kv (K arr (base+i))=false)->Q (some r) st) :
   wpS (model prog w) A E s (zuq left key arr base n hint) Q st:=by
 have bey:∀ (i:Nat) (Q1:Option Bool->SortSt->Prop),i < n->Q1 (some (Bd left kv (K arr (base+i)))) st->wpS (model prog w) A E s (do
     let x <- elem' arr (base+i)
     if left then lt' x key else return (<- lt' key x).map (!·)) Q1 st:=by
   intro i Q1 hi hq
   obtain ⟨t,p,e⟩:=zdu ik (i:=base+i) ω
   refine wpS_bind (zbr e ?_)
   cases left with
   | true=>simp only [if_true];exact ziW hk rfl hkey hq
   | false =>
     simp only [Bool.false_eq_true,if_false]
     exact wpS_bind (ziW hk hkey rfl (wpS_pure hq))
 have mono:∀ i j,i<=j->j < n->Bd left kv (K arr (base+j))=true->Bd left kv (K arr (base+i))=true:=fun i j a b c=>Bd.mono (srt i j a b) c
 have fb:∀ (m i j:Nat),i<=j->j < n->Bd left kv (K arr (base+i))=false->Bd left kv (K arr (base+j))=false:=fun _ i j a b c=>by
   cases e:Bd left kv (K arr (base+j)) with
   | false=>rfl
   | true=>rw [mono i j a b e]at c;cases c
 refine wpS_bind (bey hint _ hh ?_)
 dsimp only
 by_cases hr:Bd left kv (K arr (base+hint))=true
 . rw [if_pos hr]
   refine wpS_bind (wpS_mono (wpS_forRange (I:=fun x c st'=>st'=st∧∃ l o,c=(none,l,o)∧l < o∧x < o∧hint+l < n∧Bd left kv (K arr (base+(hint+l)))=true)
     (Q:=fun c st'=>st'=st∧∃ l o,c=(none,l,o)∧l < o∧hint+l < n∧Bd left kv (K arr (base+(hint+l)))=true∧(o ≥ n - hint∨Bd left kv (K arr (base+(hint+o)))=false)) ?_ ?_ ⟨rfl,0,1,rfl,ω,ω,ω,hr⟩) ?_)
   . rintro x c st' _ hx ⟨rfl,l,o,rfl,p1,p2,p3,p4⟩
     dsimp only
     by_cases ho:o ≥ n - hint
     . rw [if_pos ho];exact wpS_pure ⟨rfl,l,o,rfl,p1,p3,p4,.inl ho⟩
     . rw [if_neg ho]
       refine wpS_bind (bey (hint+o) _ ω ?_)
       dsimp only
       cases e:Bd left kv (K arr (base+(hint+o))) with
       | false=>simp only [Bool.not_false,if_true];exact wpS_pure ⟨rfl,l,o,rfl,p1,p3,p4,.inr e⟩
       | true=>simp only [Bool.not_true,Bool.false_eq_true,if_false];exact wpS_pure ⟨rfl,o,2 * o+1,rfl,ω,ω,ω,e⟩
   . rintro c st' ⟨rfl,l,o,rfl,p1,p2,p3,p4⟩
     exact ⟨rfl,l,o,rfl,p1,p3,p4,.inl ω⟩
   . rintro c st' ⟨rfl,l,o,rfl,p1,p3,p4,p5⟩
     dsimp only
     refine wpS_bind (zll (Bv:=fun i=>Bd left kv (K arr (base+i))) mono ?_ ?_ ?_ ?_ ?_ ?_ fun r q1 q2 q3=>wpS_pure (h r q1 q2 q3))
     . omega
     . omega
     . intro i hi;exact mono i (hint+l) ω p3 p4
     . intro i q1 q2
       rcases p5 with p5 | p5
       . omega
       . exact fb 0 (hint+o) i ω q2 p5
     . intro x a b Q1 hab hq
       dsimp only
       rw [if_pos hab];exact wpS_pure hq
     . intro x a b Q1 hab hbn ht hf
       dsimp only
       rw [if_neg ω]
       refine wpS_bind (bey _ _ ω ?_)
       dsimp only
       cases e:Bd left kv (K arr (base+(a+(b - a) / 2))) with
       | true=>simp only [if_true];exact wpS_pure (ht e)
       | false=>simp only [Bool.false_eq_true,if_false];exact wpS_pure (hf e)
 . rw [if_neg hr]
   have hr0:Bd left kv (K arr (base+hint))=false:=by simpa using hr
   refine wpS_bind (wpS_mono (wpS_forRange (I:=fun x c st'=>st'=st∧∃ l o,c=(none,l,o)∧l < o∧x < o∧l<=hint∧Bd left kv (K arr (base+(hint - l)))=false)
     (Q:=fun c st'=>st'=st∧∃ l o,c=(none,l,o)∧l < o∧l<=hint∧Bd left kv (K arr (base+(hint - l)))=false∧(o ≥ hint+1∨Bd left kv (K arr (base+(hint - o)))=true)) ?_ ?_ ⟨rfl,0,1,rfl,ω,ω,ω,hr0⟩) ?_)
   . rintro x c st' _ hx ⟨rfl,l,o,rfl,p1,p2,p3,p4⟩
     dsimp only
     by_cases ho:o ≥ hint+1
     . rw [if_pos ho];exact wpS_pure ⟨rfl,l,o,rfl,p1,p3,p4,.inl ho⟩
     . rw [if_neg ho]
       refine wpS_bind (bey (hint - o) _ ω ?_)
       dsimp only
       cases e:Bd left kv (K arr (base+(hint - o))) with
       | true=>simp only [if_true];exact wpS_pure ⟨rfl,l,o,rfl,p1,p3,p4,.inr e⟩
       | false=>simp only [Bool.false_eq_true,if_false];exact wpS_pure ⟨rfl,o,2 * o+1,rfl,ω,ω,ω,e⟩
   . rintro c st' ⟨rfl,l,o,rfl,p1,p2,p3,p4⟩
     exact ⟨rfl,l,o,rfl,p1,p3,p4,.inl ω⟩
   . rintro c st' ⟨rfl,l,o,rfl,p1,p3,p4,p5⟩
     dsimp only
     refine wpS_bind (zll (Bv:=fun i=>Bd left kv (K arr (base+i))) mono ?_ ?_ ?_ ?_ ?_ ?_ fun r q1 q2 q3=>wpS_pure (h r q1 q2 q3))
     . omega
     . omega
     . intro i hi
       rcases p5 with p5 | p5
       . omega
       . exact mono i (hint - o) ω ω p5
     . intro i q1 q2;exact fb 0 (hint - l) i ω q2 p4
     . intro x a b Q1 hab hq
       dsimp only
       rw [if_pos hab];exact wpS_pure hq
     . intro x a b Q1 hab hbn ht hf
       dsimp only
       rw [if_neg ω]
       refine wpS_bind (bey _ _ ω ?_)
       dsimp only
       cases e:Bd left kv (K arr (base+(a+(b - a) / 2))) with
       | true=>simp only [if_true];exact wpS_pure (ht e)
       | false=>simp only [Bool.false_eq_true,if_false];exact wpS_pure (hf e)
end Sr
end
section
namespace Sr
open PySem PyProof.Rows
noncomputable def zuJ:Array Keyed->Array Keyed->StateT SortSt Sem (Array Keyed):=sortPriv% PySem.Builtin.mergeLo
noncomputable def zvq:Array Keyed->Array Keyed->StateT SortSt Sem (Array Keyed):=sortPriv% PySem.Builtin.mergeHi
noncomputable def kz (x:Keyed):Int:=numOf x.1
noncomputable def Asc (l:List Keyed):Prop:=l.Pairwise fun x y=>kz x<=kz y
structure Iv (A B O:List Keyed) (i j:Nat):Prop where
 hi:i<=A.length
 hj:j<=B.length
 asc:Asc O
 prm:O.Perm (A.take i++B.take j)
 low:∀ x∈O,∀ y,y∈A.drop i∨y∈B.drop j->kz x<=kz y
theorem Iv.symm {A B O:List Keyed}{i j:Nat} (v:Iv A B O i j):Iv B A O j i:=⟨v.hj,v.hi,v.asc,v.prm.trans List.perm_append_comm,fun x hx y hy=>v.low x hx y hy.symm⟩
theorem Iv.pushA {A B O:List Keyed}{i j:Nat} (v:Iv A B O i j) (hA:Asc A) {x:Keyed} (e:A[i]?=some x) (hx:∀ y∈B.drop j,kz x<=kz y):Iv A B (O++[x]) (i+1) j:=by
 have hi:i < A.length:=(List.getElem?_eq_some_iff.1 e).1
 have ex:A[i]=x:=(List.getElem?_eq_some_iff.1 e).2
 have ed:A.drop i=x :: A.drop (i+1):=by rw [<- ex];exact List.drop_eq_getElem_cons hi
 have hd:Asc (A.drop i):=hA.sublist (List.drop_sublist _ _)
 rw [ed]at hd
 refine ⟨hi,v.hj,?_,?_,?_⟩
 . refine List.pairwise_append.2 ⟨v.asc,ς,fun a ha b hb=>?_⟩
   simp at hb;subst hb
   exact v.low a ha b (.inl (by rw [ed];simp))
 . have et:A.take (i+1)=A.take i++[x]:=by rw [List.take_succ,e];rfl
   rw [et]
   refine (v.prm.append_right [x]).trans ?_
   rw [List.append_assoc,List.append_assoc]
   exact List.Perm.append_left _ List.perm_append_comm
 . intro a ha y hy
   rcases List.mem_append.1 ha with ha | ha
   . exact v.low a ha y (hy.imp (fun z=>by rw [ed];simp [z]) id)
   . simp at ha;subst ha
     rcases hy with hy | hy
     . exact (List.pairwise_cons.1 hd).1 y hy
     . exact hx y hy
theorem Iv.chunkA {A B O:List Keyed}{i j:Nat} (v:Iv A B O i j) (hA:Asc A):∀ k,i+k<=A.length->(∀ n x,i<=n->n < i+k->A[n]?=some x->∀ y∈B.drop j,kz x<=kz y)->Iv A B (O++(A.drop i).take k) (i+k) j
 | 0,_,_=>by simpa using v
 | k+1,hk,hx=>by
   have ih:=Iv.chunkA v hA k ω fun n x a b c=>hx n x a ω c
   have e:A[i+k]?=some A[i+k]:=List.getElem?_eq_getElem ω
   have:=ih.pushA hA e (hx (i+k) _ ω ω e)
   have et:(A.drop i).take (k+1)=(A.drop i).take k++[A[i+k]]:=by rw [List.take_succ,List.getElem?_drop,e];rfl
   rw [et,<- List.append_assoc]
   exact this
noncomputable def Mg (A B R:List Keyed):Prop:=R.Perm (A++B)∧Asc R
theorem Iv.fin {A B O:List Keyed}{i j:Nat} (v:Iv A B O i j) {R:List Keyed} (hp:R.Perm (A.drop i++B.drop j)) (hR:Asc R):Mg A B (O++R):=by
 constructor
 . refine (v.prm.append hp).trans ?_
   rw [List.append_assoc]
   have e1:(A.take i++(B.take j++(A.drop i++B.drop j))).Perm (A.take i++(A.drop i++(B.take j++B.drop j))):=by
     refine List.Perm.append_left _ ?_
     rw [<- List.append_assoc,<- List.append_assoc]
     exact List.Perm.append_right _ List.perm_append_comm
   refine e1.trans ?_
   rw [<- List.append_assoc,List.take_append_drop,List.take_append_drop]
 . exact List.pairwise_append.2 ⟨v.asc,hR,fun x hx y hy=>v.low x hx y (List.mem_append.1 (hp.mem_iff.1 hy))⟩
variable {prog:Program}{w:World}{A:Around}{E:Value->Shared->Prop}{s:Shared}{a₀:Array Keyed}{st:SortSt}
structure Sm (st st':SortSt):Prop where
 a:arrOf st'=arrOf st
 p:pendingOf st'=pendingOf st
 k:kindOf st'=kindOf st
 f:failedOf st'=failedOf st
theorem Sm.trans {st st1 st2:SortSt} (x:Sm st st1) (y:Sm st1 st2):Sm st st2:=⟨y.a.trans x.a,y.p.trans x.p,y.k.trans x.k,y.f.trans x.f⟩
theorem Sm.refl {st:SortSt}:Sm st st:=⟨rfl,rfl,rfl,rfl⟩
noncomputable def ztz:Nat->StateT SortSt Sem Unit:=sortPriv% PySem.Builtin.setMinGallop
theorem ziQ {g:Nat}{Q:Unit->SortSt->Prop} (h:∀ st',Sm st st'->Q () st'):wpS (model prog w) A E s (ztz g) Q st:=wpS_modify (h _ ⟨rfl,rfl,rfl,rfl⟩)
theorem zdU {xs:Array Keyed}{i:Nat}{x:Keyed} (e:xs.toList[i]?=some x):kz x=K xs i:=by
 have e':xs[i]?=some x:=by rw [<- e];simp
 unfold K;rw [e'];rfl
theorem zhw {xs:Array Keyed} (h:Asc xs.toList) {i:Nat}{y:Keyed} (hy:y∈xs.toList.drop i):K xs i<=kz y:=by
 have hi:i < xs.toList.length:=by
   by_cases c:i < xs.toList.length
   . exact c
   . rw [List.drop_eq_nil_of_le ω]at hy;cases hy
 have e:xs.toList[i]?=some xs.toList[i]:=List.getElem?_eq_getElem hi
 rw [<- zdU e]
 have ed:=List.drop_eq_getElem_cons hi
 have hd:Asc (xs.toList.drop i):=h.sublist (List.drop_sublist _ _)
 rw [ed]at hd hy
 rcases List.mem_cons.1 hy with rfl | hy
 . exact Int.le_refl _
 . exact (List.pairwise_cons.1 hd).1 y hy
theorem zfK {xs:Array Keyed} (h:Asc xs.toList) {i j:Nat} (hij:i<=j) (hj:j < xs.size):K xs i<=K xs j:=by
 have e:xs.toList[j]?=some xs.toList[j]:=List.getElem?_eq_getElem (by simpa using hj)
 rw [<- zdU e]
 refine zhw h ?_
 refine List.mem_iff_getElem.2 ⟨j - i,by simp;omega,?_⟩
 rw [List.getElem_drop];congr 1;omega
theorem zh4 (xs:Array Keyed) (i:Nat):(xs.extract i).toList=xs.toList.drop i:=by
 simp [Array.toList_extract,List.extract_eq_drop_take,List.take_of_length_le]
theorem zuX (xs:Array Keyed) (i k:Nat):(xs.extract i (i+k)).toList=(xs.toList.drop i).take k:=by
 simp [Array.toList_extract,List.extract_eq_drop_take]
theorem zhg {a b out:Array Keyed}{i j:Nat} (v:Iv a.toList b.toList out.toList i j) (hA:Asc a.toList) (hB:Asc b.toList) (e:i=a.size∨j=b.size):Mg a.toList b.toList (out++a.extract i++b.extract j).toList:=by
 rw [Array.toList_append,Array.toList_append,zh4,zh4,List.append_assoc]
 refine v.fin (.refl _) ?_
 rcases e with e | e
 . rw [List.drop_eq_nil_of_le (by simp [e])];exact hB.sublist (List.drop_sublist _ _)
 . rw [List.drop_eq_nil_of_le (as:=b.toList) (by simp [e]),List.append_nil];exact hA.sublist (List.drop_sublist _ _)
theorem zid {a b out:Array Keyed}{i j:Nat} (v:Iv a.toList b.toList out.toList i j) (hA:Asc a.toList) (hB:Asc b.toList) (hl:∀ y∈b.toList,kz y<=K a (a.size - 1)) (e:i+1=a.size):Mg a.toList b.toList (out++b.extract j++a.extract i).toList:=by
 rw [Array.toList_append,Array.toList_append,zh4,zh4,List.append_assoc]
 refine v.fin List.perm_append_comm ?_
 refine List.pairwise_append.2 ⟨hB.sublist (List.drop_sublist _ _),hA.sublist (List.drop_sublist _ _),fun x hx y hy=>?_⟩
 have:=zhw hA hy
 rw [show i=a.size - 1 by omega]at this
 exact Int.le_trans (hl x (List.mem_of_mem_drop hx)) this
theorem Iv.pA {a b out:Array Keyed}{i j:Nat} (v:Iv a.toList b.toList out.toList i j) (hA:Asc a.toList) (hB:Asc b.toList) {x:Keyed} (e:a[i]?=some x) (hx:j < b.size->K a i<=K b j):Iv a.toList b.toList (out.push x).toList (i+1) j:=by
 rw [Array.toList_push]
 have e':a.toList[i]?=some x:=by rw [<- e];simp
 refine v.pushA hA e' fun y hy=>?_
 have hj:j < b.size:=by
   by_cases c:j < b.toList.length
   . simpa using c
   . rw [List.drop_eq_nil_of_le ω]at hy;cases hy
 rw [zdU e']
 exact Int.le_trans (hx hj) (zhw hB hy)
theorem Iv.cA {a b out:Array Keyed}{i j k:Nat} (v:Iv a.toList b.toList out.toList i j) (hA:Asc a.toList) (hB:Asc b.toList) (hk:i+k<=a.size) (hx:∀ n,n < k->K a (i+n)<=K b j):Iv a.toList b.toList (out++a.extract i (i+k)).toList (i+k) j:=by
 rw [Array.toList_append,zuX]
 refine v.chunkA hA k (by simpa using hk) fun n x h1 h2 e y hy=>?_
 have:=hx (n - i) ω
 rw [show i+(n - i)=n by omega]at this
 rw [zdU e]
 exact Int.le_trans this (zhw hB hy)
theorem zvU {a b:Array Keyed}{Q:Array Keyed->SortSt->Prop} (hk:kindOf st=oneType') (ka:IntKeys a) (kb:IntKeys b) (hA:Asc a.toList) (hB:Asc b.toList) (a1:1<=a.size) (b1:1<=b.size)
   (hf:K b 0<=K a 0) (hl:∀ y∈b.toList,kz y<=K a (a.size - 1)) (h:∀ out st',Sm st st'->Mg a.toList b.toList out.toList->Q out st'):wpS (model prog w) A E s (zuJ a b) Q st:=by
 refine wpS_bind (wpS_lift (wpAny_rule ⟨rfl,?_⟩))
 dsimp only
 obtain ⟨t0,q0,e0⟩:=zdu kb (i:=0) ω
 refine wpS_bind (zbr e0 ?_)
 have v0:Iv a.toList b.toList (#[(Value.int (K b 0) t0,q0)]:Array Keyed).toList 0 1:=by
   have z:Iv a.toList b.toList (#[]:Array Keyed).toList 0 0:=⟨ς,ς,by simp [Asc],ς,ς⟩
   have:=Iv.pA z.symm hB hA e0 (fun _=>hf)
   exact this.symm
 generalize (#[(Value.int (K b 0) t0,q0)]:Array Keyed)=o0 at *
 by_cases c1:1=b.size
 . rw [if_pos (by simpa using c1)]
   exact wpS_pure (h _ _ .refl (zhg v0 hA hB (.inr c1)))
 rw [if_neg (by simpa using c1)]
 by_cases c2:0+1=a.size
 . rw [if_pos (by simpa using c2)]
   exact wpS_pure (h _ _ .refl (zid v0 hA hB hl c2))
 rw [if_neg (by simpa using c2)]
 refine wpS_bind (wpS_get ?_)
 have ga:∀ i,i < a.size->∃ t q,a[i]?=some (.int (K a i) t,q):=fun i hi=>zdu ka hi
 have gb:∀ i,i < b.size->∃ t q,b[i]?=some (.int (K b i) t,q):=fun i hi=>zdu kb hi
 refine wpS_bind (wpS_mono (wpS_forRange (I:=fun x c st'=>∃ o i j g,c=(none,o,i,j,g)∧Sm st st'∧Iv a.toList b.toList o.toList i j∧i+1 < a.size∧j < b.size∧x+1<=i+j)
   (Q:=fun c st'=>∃ r,c.fst=some r∧Sm st st'∧Mg a.toList b.toList r.toList) ?_ ?_ ⟨o0,0,1,_,rfl,.refl,v0,ω,ω,ω⟩) ?_)
 . rintro x c st' _ hx ⟨o,i,j,g,rfl,hs,v,hi,hj,hx1⟩
   dsimp only
   refine wpS_bind (wpS_mono (wpS_forRange (I:=fun y c st'=>∃ o i' j' ac bc,c=(none,o,i',j',ac,bc)∧Sm st st'∧Iv a.toList b.toList o.toList i' j'∧i'+1 < a.size∧j' < b.size∧i+j+y<=i'+j')
     (Q:=fun c st'=>(∃ r,c.fst=some r∧Sm st st'∧Mg a.toList b.toList r.toList)∨(∃ o i' j' ac bc,c=(none,o,i',j',ac,bc)∧Sm st st'∧Iv a.toList b.toList o.toList i' j'∧i'+1 < a.size∧j' < b.size∧i+j+1<=i'+j')) ?_ ?_ ⟨o,i,j,0,0,rfl,hs,v,hi,hj,ω⟩) ?_)
   . rintro y c st1 _ hy ⟨o,i',j',ac,bc,rfl,hs,v,hi,hj,hy1⟩
     dsimp only
     obtain ⟨tb,qb,eb⟩:=gb j' hj
     obtain ⟨ta,qa,ea⟩:=ga i' ω
     refine wpS_bind (zbr eb (wpS_bind (zbr ea (wpS_bind (ziW (hs.k.trans hk) rfl rfl ?_)))))
     dsimp only
     by_cases hw:K b j' < K a i'
     . simp only [hw,decide_true,if_true]
       refine wpS_bind (zbr eb ?_)
       have v1:=(v.symm.pA hB hA eb fun _=>Int.le_of_lt hw).symm
       by_cases c3:j'+1=b.size
       . rw [if_pos (by simpa using c3)]
         exact wpS_pure (.inl ⟨_,rfl,hs,zhg v1 hA hB (.inr c3)⟩)
       rw [if_neg (by simpa using c3)]
       split
       . exact wpS_pure (.inr ⟨_,_,_,_,_,rfl,hs,v1,hi,ω,ω⟩)
       . exact wpS_pure ⟨_,_,_,_,_,rfl,hs,v1,hi,ω,ω⟩
     . simp only [hw,decide_false,Bool.false_eq_true,if_false]
       refine wpS_bind (zbr ea ?_)
       have v1:=v.pA hA hB ea fun _=>Int.not_lt.mp hw
       by_cases c3:i'+1+1=a.size
       . rw [if_pos (by simpa using c3)]
         exact wpS_pure (.inl ⟨_,rfl,hs,zid v1 hA hB hl c3⟩)
       rw [if_neg (by simpa using c3)]
       split
       . exact wpS_pure (.inr ⟨_,_,_,_,_,rfl,hs,v1,ω,hj,ω⟩)
       . exact wpS_pure ⟨_,_,_,_,_,rfl,hs,v1,ω,hj,ω⟩
   . rintro c st1 ⟨o,i',j',ac,bc,rfl,hs,v,hi,hj,hy1⟩
     exact .inr ⟨o,i',j',ac,bc,rfl,hs,v,hi,hj,ω⟩
   . rintro c st1 (⟨r,hr,hs,hm⟩ | ⟨o,i',j',ac,bc,rfl,hs,v,hi,hj,hy1⟩)
     . obtain ⟨c0,c'⟩:=c
       dsimp only at hr
       subst hr
       exact wpS_pure ⟨r,rfl,hs,hm⟩
     . dsimp only
       refine wpS_bind (wpS_lift (wpAny_rule ⟨rfl,?_⟩))
       refine wpS_bind (wpS_mono (wpS_forRange (I:=fun y c st'=>∃ o i2 j2 mg ac bc,c=(none,o,i2,j2,mg,ac,bc)∧Sm st st'∧Iv a.toList b.toList o.toList i2 j2∧i2+1 < a.size∧j2 < b.size∧i'+j'<=i2+j2)
         (Q:=fun c st'=>(∃ r,c.fst=some r∧Sm st st'∧Mg a.toList b.toList r.toList)∨(∃ o i2 j2 mg ac bc,c=(none,o,i2,j2,mg,ac,bc)∧Sm st st'∧Iv a.toList b.toList o.toList i2 j2∧i2+1 < a.size∧j2 < b.size∧i'+j'<=i2+j2)) ?_ ?_ ⟨o,i',j',_,ac,bc,rfl,hs,v,hi,hj,ω⟩) ?_)
       . rintro y c st2 _ hy ⟨o,i2,j2,mg,ac,bc,rfl,hs,v,hi,hj,hy2⟩
         dsimp only
         obtain ⟨tb,qb,eb⟩:=gb j2 hj
         refine (fun (key0:?S0)=>?body0) ?pf0
         case body0 =>
           by_cases hmg:mg > 1
           . rw [if_pos hmg]
             generalize mg - 1=g1
             revert g1
             exact key0
           . rw [if_neg hmg]
             exact key0 mg
         case pf0 =>
           intro mg1
           refine wpS_bind (ziQ fun st3 hs3=>?_)
           refine wpS_bind (zbr eb ?_)
           refine wpS_bind (zfG ((hs.trans hs3).k.trans hk) ka rfl ω ω (fun p q hpq hq=>zfK hA ω ω) fun k hk1 hk2 hk3=>?_)
           dsimp only
           have g1:∀ n,n < k->K a (i2+n)<=K b j2:=fun n hn=>by have:=hk2 n hn;simp [Bd]at this;omega
           have g2:i2+k < a.size->K b j2<=K a (i2+k):=fun hn=>by have:=hk3 k (Nat.le_refl _) ω;simp [Bd]at this;omega
           have vk:=v.cA hA hB (k:=k) ω g1
           have B1:(i2+k+1 == a.size)=true->i2+k+1=a.size:=fun z=>by simpa using z
           have B2:(i2+k == a.size)=true->i2+k=a.size:=fun z=>by simpa using z
           have pkP:¬ (i2+k+1 == a.size)=true->¬ (i2+k == a.size)=true->Iv a.toList b.toList (o++a.extract i2 (i2+k)).toList (i2+k) j2∧i2+k+1 < a.size∧K b j2<=K a (i2+k)∧i'+j'<=i2+k+j2:=fun u z=>by
             have u:¬ i2+k+1=a.size:=by simpa using u
             have z:¬ i2+k=a.size:=by simpa using z
             exact ⟨vk,ω,g2 ω,ω⟩
           have pkN:¬ k > 0->Iv a.toList b.toList o.toList i2 j2∧i2+1 < a.size∧K b j2<=K a i2∧i'+j'<=i2+j2:=fun z=>by
             have k0:k=0:=by omega
             subst k0
             exact ⟨v,hi,g2 ω,hy2⟩
           refine (fun (key:?S)=>?body) ?pf
           case body =>
             by_cases hk0:k > 0
             . rw [if_pos hk0]
               by_cases c3:(i2+k+1 == a.size)=true
               . rw [if_pos c3]
                 exact wpS_pure (.inl ⟨_,rfl,hs.trans hs3,zid vk hA hB hl (B1 c3)⟩)
               rw [if_neg c3]
               by_cases c4:(i2+k == a.size)=true
               . rw [if_pos c4]
                 exact wpS_pure (.inl ⟨_,rfl,hs.trans hs3,zhg vk hA hB (.inl (B2 c4))⟩)
               rw [if_neg c4]
               have pk:=pkP c3 c4
               generalize o++a.extract i2 (i2+k)=o3 at pk ⊢
               generalize i2+k=i3 at pk ⊢
               revert o3 i3
               exact key
             . rw [if_neg hk0]
               exact key o i2 (pkN hk0)
           case pf =>
             rintro o3 i3 ⟨vk,hi3,g3,hy3⟩
             refine wpS_bind (zbr eb ?_)
             have v4:=(vk.symm.pA hB hA eb fun _=>g3).symm
             by_cases c3:j2+1=b.size
             . rw [if_pos (by simpa using c3)]
               exact wpS_pure (.inl ⟨_,rfl,hs.trans hs3,zhg v4 hA hB (.inr c3)⟩)
             rw [if_neg (by simpa using c3)]
             obtain ⟨ta,qa,ea⟩:=ga i3 ω
             refine wpS_bind (zbr ea ?_)
             refine wpS_bind (zfG ((hs.trans hs3).k.trans hk) kb rfl ω ω (fun p q hpq hq=>zfK hB ω ω) fun k2 m1 m2 m3=>?_)
             dsimp only
             have r1:∀ n,n < k2->K b (j2+1+n)<=K a i3:=fun n hn=>by have:=m2 n hn;simp [Bd]at this;omega
             have r2:j2+1+k2 < b.size->K a i3<=K b (j2+1+k2):=fun hn=>by have:=m3 k2 (Nat.le_refl _) ω;simp [Bd]at this;omega
             have v5:=(v4.symm.cA hB hA (k:=k2) ω r1).symm
             have C1:(j2+1+k2 == b.size)=true->j2+1+k2=b.size:=fun z=>by simpa using z
             have qP:¬ (j2+1+k2 == b.size)=true->Iv a.toList b.toList (o3.push (Value.int (K b j2) tb,qb)++b.extract (j2+1) (j2+1+k2)).toList i3 (j2+1+k2)∧j2+1+k2 < b.size∧K a i3<=K b (j2+1+k2)∧j2+1<=j2+1+k2:=fun z=>by
               have z:¬ j2+1+k2=b.size:=by simpa using z
               exact ⟨v5,ω,r2 ω,ω⟩
             have qN:¬ k2 > 0->Iv a.toList b.toList (o3.push (Value.int (K b j2) tb,qb)).toList i3 (j2+1)∧j2+1 < b.size∧K a i3<=K b (j2+1)∧j2+1<=j2+1:=fun z=>by
               have k0:k2=0:=by omega
               subst k0
               exact ⟨v4,ω,r2 ω,ω⟩
             refine (fun (key2:?S2)=>?body2) ?pf2
             case body2 =>
               by_cases hk20:k2 > 0
               . rw [if_pos hk20]
                 by_cases c4:(j2+1+k2 == b.size)=true
                 . rw [if_pos c4]
                   exact wpS_pure (.inl ⟨_,rfl,hs.trans hs3,zhg v5 hA hB (.inr (C1 c4))⟩)
                 rw [if_neg c4]
                 have pk:=qP c4
                 generalize o3.push (Value.int (K b j2) tb,qb)++b.extract (j2+1) (j2+1+k2)=o5 at pk ⊢
                 generalize j2+1+k2=j5 at pk ⊢
                 revert o5 j5
                 exact key2
               . rw [if_neg hk20]
                 exact key2 _ _ (qN hk20)
             case pf2 =>
               rintro o5 j5 ⟨v5,hj5,r5,hj6⟩
               refine wpS_bind (zbr ea ?_)
               have v6:=v5.pA hA hB ea fun _=>r5
               by_cases c5:i3+1+1=a.size
               . rw [if_pos (by simpa using c5)]
                 exact wpS_pure (.inl ⟨_,rfl,hs.trans hs3,zid v6 hA hB hl c5⟩)
               rw [if_neg (by simpa using c5)]
               split
               . exact wpS_pure (.inr ⟨_,_,_,_,_,_,rfl,hs.trans hs3,v6,ω,ω,ω⟩)
               . exact wpS_pure ⟨_,_,_,_,_,_,rfl,hs.trans hs3,v6,ω,ω,ω⟩
       . rintro c st2 ⟨o,i2,j2,mg,ac,bc,rfl,hs,v,hi,hj,hy2⟩
         exact .inr ⟨o,i2,j2,mg,ac,bc,rfl,hs,v,hi,hj,hy2⟩
       . rintro c st2 (⟨r,hr,hs,hm⟩ | ⟨o,i2,j2,mg,ac,bc,rfl,hs,v,hi,hj,hy2⟩)
         . obtain ⟨c0,c'⟩:=c
           dsimp only at hr
           subst hr
           exact wpS_pure ⟨r,rfl,hs,hm⟩
         . dsimp only
           refine wpS_bind (ziQ fun st3 hs3=>?_)
           exact wpS_pure ⟨o,i2,j2,_,rfl,hs.trans hs3,v,hi,hj,ω⟩
 . rintro c st' ⟨o,i,j,g,rfl,hs,v,hi,hj,hx1⟩
   omega
 . rintro c st' ⟨r,hr,hs,hm⟩
   obtain ⟨c0,c'⟩:=c
   dsimp only at hr
   subst hr
   exact wpS_pure (h r st' hs hm)
end Sr
end
section
namespace Sr
open PySem PyProof.Rows
structure Jv (A B O:List Keyed) (i j:Nat):Prop where
 hi:i<=A.length
 hj:j<=B.length
 asc:Asc O
 prm:O.Perm (A.drop i++B.drop j)
 low:∀ x∈O,∀ y,y∈A.take i∨y∈B.take j->kz y<=kz x
theorem Jv.symm {A B O:List Keyed}{i j:Nat} (v:Jv A B O i j):Jv B A O j i:=⟨v.hj,v.hi,v.asc,v.prm.trans List.perm_append_comm,fun x hx y hy=>v.low x hx y hy.symm⟩
theorem Jv.pushA {A B O:List Keyed}{i j:Nat} (v:Jv A B O (i+1) j) (hA:Asc A) {x:Keyed} (e:A[i]?=some x) (hx:∀ y∈B.take j,kz y<=kz x):Jv A B (x :: O) i j:=by
 have hi:i < A.length:=(List.getElem?_eq_some_iff.1 e).1
 have ex:A[i]=x:=(List.getElem?_eq_some_iff.1 e).2
 have ed:A.drop i=x :: A.drop (i+1):=by rw [<- ex];exact List.drop_eq_getElem_cons hi
 have et:A.take (i+1)=A.take i++[x]:=by rw [List.take_succ,e];rfl
 have ht:Asc (A.take (i+1)):=hA.sublist (List.take_sublist _ _)
 rw [et]at ht
 refine ⟨ω,v.hj,List.pairwise_cons.2 ⟨fun z hz=>v.low z hz x (.inl (by rw [et];simp)),v.asc⟩,?_,?_⟩
 . rw [ed];exact v.prm.cons x
 . intro z hz y hy
   rcases List.mem_cons.1 hz with rfl | hz
   . rcases hy with hy | hy
     . exact (List.pairwise_append.1 ht).2.2 y hy z ς
     . exact hx y hy
   . exact v.low z hz y (hy.imp (fun q=>by rw [et];simp [q]) id)
theorem Jv.chunkA {A B O:List Keyed}{j:Nat} (hA:Asc A):∀ (k i:Nat),Jv A B O (i+k) j->(∀ n x,i<=n->n < i+k->A[n]?=some x->∀ y∈B.take j,kz y<=kz x)->Jv A B ((A.drop i).take k++O) i j
 | 0,i,v,_=>by simpa using v
 | k+1,i,v,hx=>by
   have ih:=Jv.chunkA (j:=j) hA k (i+1) (by rw [show i+1+k=i+(k+1) by omega];exact v) fun n x a b c=>hx n x ω ω c
   have hi:i < A.length:=by have:=v.hi;omega
   have e:A[i]?=some A[i]:=List.getElem?_eq_getElem hi
   have:=ih.pushA hA e (hx i _ ω ω e)
   rw [List.drop_eq_getElem_cons hi,List.take_succ_cons,List.cons_append]
   exact this
theorem Jv.fin {A B O:List Keyed}{i j:Nat} (v:Jv A B O i j) {R:List Keyed} (hp:R.Perm (A.take i++B.take j)) (hR:Asc R):Mg A B (R++O):=by
 constructor
 . refine (hp.append v.prm).trans ?_
   rw [List.append_assoc]
   have e1:(A.take i++(B.take j++(A.drop i++B.drop j))).Perm (A.take i++(A.drop i++(B.take j++B.drop j))):=by
     refine List.Perm.append_left _ ?_
     rw [<- List.append_assoc,<- List.append_assoc]
     exact List.Perm.append_right _ List.perm_append_comm
   refine e1.trans ?_
   rw [<- List.append_assoc,List.take_append_drop,List.take_append_drop]
 . exact List.pairwise_append.2 ⟨hR,v.asc,fun y hy x hx=>v.low x hx y (List.mem_append.1 (hp.mem_iff.1 hy))⟩
theorem zj4 {xs:Array Keyed} (h:Asc xs.toList) {i:Nat} (hi:i<=xs.size) {y:Keyed} (hy:y∈xs.toList.take i):kz y<=K xs (i - 1):=by
 obtain ⟨n,hn,e⟩:=List.mem_iff_getElem.1 hy
 rw [List.length_take]at hn
 have e1:xs.toList[n]?=some y:=by rw [List.getElem_take]at e;rw [<- e];exact List.getElem?_eq_getElem ω
 rw [zdU e1]
 exact zfK h ω (by simp at hn;omega)
theorem ziJ (xs:Array Keyed) (i:Nat):(xs.extract 0 i).toList=xs.toList.take i:=by
 simp [Array.toList_extract,List.extract_eq_drop_take]
theorem zhx (xs:Array Keyed) (m i:Nat):(xs.extract m i).toList=(xs.toList.drop m).take (i - m):=by
 simp [Array.toList_extract,List.extract_eq_drop_take]
theorem zep {a b out:Array Keyed}{i j:Nat} (v:Jv a.toList b.toList out.toList.reverse i j) (hA:Asc a.toList) (hB:Asc b.toList) (e:i=0∨j=0):Mg a.toList b.toList (a.extract 0 i++b.extract 0 j++out.reverse).toList:=by
 rw [Array.toList_append,Array.toList_append,ziJ,ziJ,Array.toList_reverse]
 refine v.fin (.refl _) ?_
 rcases e with e | e
 . rw [e,List.take_zero,List.nil_append];exact hB.sublist (List.take_sublist _ _)
 . rw [e,List.take_zero,List.append_nil];exact hA.sublist (List.take_sublist _ _)
theorem zgt {a b out:Array Keyed}{i j:Nat} (v:Jv a.toList b.toList out.toList.reverse i j) (hA:Asc a.toList) (hB:Asc b.toList) (b1:1<=b.size) (hf:K b 0<=K a 0) (e:j=1):Mg a.toList b.toList (b.extract 0 j++a.extract 0 i++out.reverse).toList:=by
 rw [Array.toList_append,Array.toList_append,ziJ,ziJ,Array.toList_reverse]
 refine v.fin List.perm_append_comm ?_
 refine List.pairwise_append.2 ⟨hB.sublist (List.take_sublist _ _),hA.sublist (List.take_sublist _ _),fun x hx y hy=>?_⟩
 rw [e]at hx
 have h1:=zj4 hB b1 hx
 have h2:K a 0<=kz y:=zhw hA (i:=0) (by simpa using List.mem_of_mem_take hy)
 simp at h1
 omega
theorem Jv.pA {a b out:Array Keyed}{i j:Nat} (v:Jv a.toList b.toList out.toList.reverse i j) (hA:Asc a.toList) (hB:Asc b.toList) (hi:1<=i) {x:Keyed} (e:a[i - 1]?=some x) (hx:1<=j->K b (j - 1)<=K a (i - 1)):Jv a.toList b.toList (out.push x).toList.reverse (i - 1) j:=by
 rw [Array.toList_push,List.reverse_append]
 have e':a.toList[i - 1]?=some x:=by rw [<- e];simp
 refine Jv.pushA (by rw [show i - 1+1=i by omega];exact v) hA e' fun y hy=>?_
 have hj:1<=j:=by
   by_cases c:1<=j
   . exact c
   . rw [show j=0 by omega]at hy;simp at hy
 rw [zdU e']
 exact Int.le_trans (zj4 hB (by simpa using v.hj) hy) (hx hj)
theorem Jv.cA {a b out:Array Keyed}{i j m:Nat} (v:Jv a.toList b.toList out.toList.reverse i j) (hA:Asc a.toList) (hB:Asc b.toList) (hm:m<=i) (hx:∀ n,m<=n->n < i->K b (j - 1)<=K a n):Jv a.toList b.toList (out++(a.extract m i).reverse).toList.reverse m j:=by
 rw [Array.toList_append,List.reverse_append,Array.toList_reverse,List.reverse_reverse,zhx]
 refine Jv.chunkA hA (i - m) m (by rw [show m+(i - m)=i by omega];exact v) fun n x h1 h2 e y hy=>?_
 rw [zdU e]
 exact Int.le_trans (zj4 hB (by simpa using v.hj) hy) (hx n h1 ω)
variable {prog:Program}{w:World}{A:Around}{E:Value->Shared->Prop}{s:Shared}{a₀:Array Keyed}{st:SortSt}
theorem zv2 {a b:Array Keyed}{Q:Array Keyed->SortSt->Prop} (hk:kindOf st=oneType') (ka:IntKeys a) (kb:IntKeys b) (hA:Asc a.toList) (hB:Asc b.toList) (a1:1<=a.size) (b1:1<=b.size)
   (hf:K b 0<=K a 0) (hl:K b (b.size - 1)<=K a (a.size - 1)) (h:∀ out st',Sm st st'->Mg a.toList b.toList out.toList->Q out st'):wpS (model prog w) A E s (zvq a b) Q st:=by
 refine wpS_bind (wpS_lift (wpAny_rule ⟨rfl,?_⟩))
 dsimp only
 obtain ⟨t0,q0,e0⟩:=zdu ka (i:=a.size - 1) ω
 refine wpS_bind (zbr e0 ?_)
 have v0:Jv a.toList b.toList (#[(Value.int (K a (a.size - 1)) t0,q0)]:Array Keyed).toList.reverse (a.size - 1) b.size:=by
   have z:Jv a.toList b.toList (#[]:Array Keyed).toList.reverse a.size b.size:=⟨ς,ς,by simp [Asc],ς,ς⟩
   exact z.pA hA hB a1 e0 (fun _=>hl)
 generalize (#[(Value.int (K a (a.size - 1)) t0,q0)]:Array Keyed)=o0 at *
 by_cases c1:a.size - 1=0
 . rw [if_pos (by simpa using c1)]
   exact wpS_pure (h _ _ .refl (zep v0 hA hB (.inl c1)))
 rw [if_neg (by simpa using c1)]
 by_cases c2:b.size=1
 . rw [if_pos (by simpa using c2)]
   exact wpS_pure (h _ _ .refl (zgt v0 hA hB b1 hf c2))
 rw [if_neg (by simpa using c2)]
 refine wpS_bind (wpS_get ?_)
 have ga:∀ i,i < a.size->∃ t q,a[i]?=some (.int (K a i) t,q):=fun i hi=>zdu ka hi
 have gb:∀ i,i < b.size->∃ t q,b[i]?=some (.int (K b i) t,q):=fun i hi=>zdu kb hi
 refine wpS_bind (wpS_mono (wpS_forRange (I:=fun x c st'=>∃ o i j g,c=(none,i,j,o,g)∧Sm st st'∧Jv a.toList b.toList o.toList.reverse i j∧1<=i∧2<=j∧i+j+x+1<=a.size+b.size)
   (Q:=fun c st'=>∃ r,c.fst=some r∧Sm st st'∧Mg a.toList b.toList r.toList) ?_ ?_ ⟨o0,a.size - 1,b.size,_,rfl,.refl,v0,ω,ω,ω⟩) ?_)
 . rintro x c st' _ hx ⟨o,i,j,g,rfl,hs,v,hi,hj,hx1⟩
   dsimp only
   refine wpS_bind (wpS_mono (wpS_forRange (I:=fun y c st'=>∃ o i' j' ac bc,c=(none,i',j',o,ac,bc)∧Sm st st'∧Jv a.toList b.toList o.toList.reverse i' j'∧1<=i'∧2<=j'∧i'+j'+y<=i+j)
     (Q:=fun c st'=>(∃ r,c.fst=some r∧Sm st st'∧Mg a.toList b.toList r.toList)∨(∃ o i' j' ac bc,c=(none,i',j',o,ac,bc)∧Sm st st'∧Jv a.toList b.toList o.toList.reverse i' j'∧1<=i'∧2<=j'∧i'+j'+1<=i+j)) ?_ ?_ ⟨o,i,j,0,0,rfl,hs,v,hi,hj,ω⟩) ?_)
   . rintro y c st1 _ hy ⟨o,i',j',ac,bc,rfl,hs,v,hi,hj,hy1⟩
     dsimp only
     have hia:i'<=a.size:=by simpa using v.hi
     have hjb:j'<=b.size:=by simpa using v.hj
     obtain ⟨tb,qb,eb⟩:=gb (j' - 1) ω
     obtain ⟨ta,qa,ea⟩:=ga (i' - 1) ω
     refine wpS_bind (zbr eb (wpS_bind (zbr ea (wpS_bind (ziW (hs.k.trans hk) rfl rfl ?_)))))
     dsimp only
     by_cases hw:K b (j' - 1) < K a (i' - 1)
     . simp only [hw,decide_true,if_true]
       refine wpS_bind (zbr ea ?_)
       have v1:=v.pA hA hB hi ea fun _=>Int.le_of_lt hw
       by_cases c3:i' - 1=0
       . rw [if_pos (by simpa using c3)]
         exact wpS_pure (.inl ⟨_,rfl,hs,zep v1 hA hB (.inl c3)⟩)
       rw [if_neg (by simpa using c3)]
       split
       . exact wpS_pure (.inr ⟨_,_,_,_,_,rfl,hs,v1,ω,hj,ω⟩)
       . exact wpS_pure ⟨_,_,_,_,_,rfl,hs,v1,ω,hj,ω⟩
     . simp only [hw,decide_false,Bool.false_eq_true,if_false]
       refine wpS_bind (zbr eb ?_)
       have v1:=(v.symm.pA hB hA ω eb fun _=>Int.not_lt.mp hw).symm
       by_cases c3:j' - 1=1
       . rw [if_pos (by simpa using c3)]
         exact wpS_pure (.inl ⟨_,rfl,hs,zgt v1 hA hB b1 hf c3⟩)
       rw [if_neg (by simpa using c3)]
       split
       . exact wpS_pure (.inr ⟨_,_,_,_,_,rfl,hs,v1,hi,ω,ω⟩)
       . exact wpS_pure ⟨_,_,_,_,_,rfl,hs,v1,hi,ω,ω⟩
   . rintro c st1 ⟨o,i',j',ac,bc,rfl,hs,v,hi,hj,hy1⟩
     exact .inr ⟨o,i',j',ac,bc,rfl,hs,v,hi,hj,ω⟩
   . rintro c st1 (⟨r,hr,hs,hm⟩ | ⟨o,i',j',ac,bc,rfl,hs,v,hi,hj,hy1⟩)
     . obtain ⟨c0,c'⟩:=c
       dsimp only at hr
       subst hr
       exact wpS_pure ⟨r,rfl,hs,hm⟩
     . dsimp only
       refine wpS_bind (wpS_lift (wpAny_rule ⟨rfl,?_⟩))
       refine wpS_bind (wpS_mono (wpS_forRange (I:=fun y c st'=>∃ o i2 j2 mg ac bc,c=(none,i2,j2,o,mg,ac,bc)∧Sm st st'∧Jv a.toList b.toList o.toList.reverse i2 j2∧1<=i2∧2<=j2∧i2+j2<=i'+j')
         (Q:=fun c st'=>(∃ r,c.fst=some r∧Sm st st'∧Mg a.toList b.toList r.toList)∨(∃ o i2 j2 mg ac bc,c=(none,i2,j2,o,mg,ac,bc)∧Sm st st'∧Jv a.toList b.toList o.toList.reverse i2 j2∧1<=i2∧2<=j2∧i2+j2<=i'+j')) ?_ ?_ ⟨o,i',j',_,ac,bc,rfl,hs,v,hi,hj,ω⟩) ?_)
       . rintro y c st2 _ hy ⟨o,i2,j2,mg,ac,bc,rfl,hs,v,hi,hj,hy2⟩
         dsimp only
         have hia:i2<=a.size:=by simpa using v.hi
         have hjb:j2<=b.size:=by simpa using v.hj
         obtain ⟨tb,qb,eb⟩:=gb (j2 - 1) ω
         by_cases hmg:mg > 1
         all_goals first | rw [if_pos hmg] | rw [if_neg hmg]
         all_goals
           refine wpS_bind (ziQ fun st3 hs3=>?_)
           refine wpS_bind (zbr eb ?_)
           refine wpS_bind (zfG ((hs.trans hs3).k.trans hk) ka rfl ω ω (fun p q hpq hq=>zfK hA ω ω) fun m hk1 hk2 hk3=>?_)
           dsimp only
           have g1:∀ n,m<=n->n < i2->K b (j2 - 1)<=K a n:=fun n h1 h2=>by have:=hk3 n h1 h2;simp [Bd]at this;omega
           have g2:1<=m->K a (m - 1)<=K b (j2 - 1):=fun hn=>by have:=hk2 (m - 1) ω;simp [Bd]at this;omega
           have vk:=v.cA hA hB (m:=m) hk1 g1
           by_cases hk0:i2 - m > 0
           . rw [if_pos hk0]
             by_cases c3:m=0
             . rw [if_pos (by simpa using c3)]
               exact wpS_pure (.inl ⟨_,rfl,hs.trans hs3,zep vk hA hB (.inl c3)⟩)
             rw [if_neg (by simpa using c3)]
             have hi3:1<=m:=by omega
             have g3:=g2 hi3
             refine wpS_bind (zbr eb ?_)
             have v4:=(vk.symm.pA hB hA ω eb fun _=>g3).symm
             by_cases c3:j2 - 1=1
             . rw [if_pos (by simpa using c3)]
               exact wpS_pure (.inl ⟨_,rfl,hs.trans hs3,zgt v4 hA hB b1 hf c3⟩)
             rw [if_neg (by simpa using c3)]
             have hia:m<=a.size:=by simpa using vk.hi
             obtain ⟨ta,qa,ea⟩:=ga (m - 1) ω
             refine wpS_bind (zbr ea ?_)
             refine wpS_bind (zfG ((hs.trans hs3).k.trans hk) kb rfl ω ω (fun p q hpq hq=>zfK hB ω ω) fun m2 n1 n2 n3=>?_)
             dsimp only
             have r1:∀ n,m2<=n->n < j2 - 1->K a (m - 1)<=K b n:=fun n h1 h2=>by have:=n3 n h1 h2;simp [Bd]at this;omega
             have r2:1<=m2->K b (m2 - 1)<=K a (m - 1):=fun hn=>by have:=n2 (m2 - 1) ω;simp [Bd]at this;omega
             have v5:=(v4.symm.cA hB hA (m:=m2) n1 r1).symm
             by_cases hk20:j2 - 1 - m2 > 0
             . rw [if_pos hk20]
               by_cases c4:m2=1
               . rw [if_pos (by simpa using c4)]
                 exact wpS_pure (.inl ⟨_,rfl,hs.trans hs3,zgt v5 hA hB b1 hf c4⟩)
               rw [if_neg (by simpa using c4)]
               by_cases c6:m2=0
               . rw [if_pos (by simpa using c6)]
                 exact wpS_pure (.inl ⟨_,rfl,hs.trans hs3,zep v5 hA hB (.inr c6)⟩)
               rw [if_neg (by simpa using c6)]
               refine wpS_bind (zbr ea ?_)
               have v6:=v5.pA hA hB hi3 ea r2
               by_cases c5:m - 1=0
               . rw [if_pos (by simpa using c5)]
                 exact wpS_pure (.inl ⟨_,rfl,hs.trans hs3,zep v6 hA hB (.inl c5)⟩)
               rw [if_neg (by simpa using c5)]
               split
               . exact wpS_pure (.inr ⟨_,_,_,_,_,_,rfl,hs.trans hs3,v6,ω,ω,ω⟩)
               . exact wpS_pure ⟨_,_,_,_,_,_,rfl,hs.trans hs3,v6,ω,ω,ω⟩
             . rw [if_neg hk20]
               obtain rfl:m2=j2 - 1:=by omega
               refine wpS_bind (zbr ea ?_)
               have v6:=v4.pA hA hB hi3 ea r2
               by_cases c5:m - 1=0
               . rw [if_pos (by simpa using c5)]
                 exact wpS_pure (.inl ⟨_,rfl,hs.trans hs3,zep v6 hA hB (.inl c5)⟩)
               rw [if_neg (by simpa using c5)]
               split
               . exact wpS_pure (.inr ⟨_,_,_,_,_,_,rfl,hs.trans hs3,v6,ω,ω,ω⟩)
               . exact wpS_pure ⟨_,_,_,_,_,_,rfl,hs.trans hs3,v6,ω,ω,ω⟩
           . rw [if_neg hk0]
             obtain rfl:m=i2:=by omega
             have hi3:1<=m:=hi
             have g3:=g2 hi3
             have vk:=v
             refine wpS_bind (zbr eb ?_)
             have v4:=(vk.symm.pA hB hA ω eb fun _=>g3).symm
             by_cases c3:j2 - 1=1
             . rw [if_pos (by simpa using c3)]
               exact wpS_pure (.inl ⟨_,rfl,hs.trans hs3,zgt v4 hA hB b1 hf c3⟩)
             rw [if_neg (by simpa using c3)]
             have hia:m<=a.size:=by simpa using vk.hi
             obtain ⟨ta,qa,ea⟩:=ga (m - 1) ω
             refine wpS_bind (zbr ea ?_)
             refine wpS_bind (zfG ((hs.trans hs3).k.trans hk) kb rfl ω ω (fun p q hpq hq=>zfK hB ω ω) fun m2 n1 n2 n3=>?_)
             dsimp only
             have r1:∀ n,m2<=n->n < j2 - 1->K a (m - 1)<=K b n:=fun n h1 h2=>by have:=n3 n h1 h2;simp [Bd]at this;omega
             have r2:1<=m2->K b (m2 - 1)<=K a (m - 1):=fun hn=>by have:=n2 (m2 - 1) ω;simp [Bd]at this;omega
             have v5:=(v4.symm.cA hB hA (m:=m2) n1 r1).symm
             by_cases hk20:j2 - 1 - m2 > 0
             . rw [if_pos hk20]
               by_cases c4:m2=1
               . rw [if_pos (by simpa using c4)]
                 exact wpS_pure (.inl ⟨_,rfl,hs.trans hs3,zgt v5 hA hB b1 hf c4⟩)
               rw [if_neg (by simpa using c4)]
               by_cases c6:m2=0
               . rw [if_pos (by simpa using c6)]
                 exact wpS_pure (.inl ⟨_,rfl,hs.trans hs3,zep v5 hA hB (.inr c6)⟩)
               rw [if_neg (by simpa using c6)]
               refine wpS_bind (zbr ea ?_)
               have v6:=v5.pA hA hB hi3 ea r2
               by_cases c5:m - 1=0
               . rw [if_pos (by simpa using c5)]
                 exact wpS_pure (.inl ⟨_,rfl,hs.trans hs3,zep v6 hA hB (.inl c5)⟩)
               rw [if_neg (by simpa using c5)]
               split
               . exact wpS_pure (.inr ⟨_,_,_,_,_,_,rfl,hs.trans hs3,v6,ω,ω,ω⟩)
               . exact wpS_pure ⟨_,_,_,_,_,_,rfl,hs.trans hs3,v6,ω,ω,ω⟩
             . rw [if_neg hk20]
               obtain rfl:m2=j2 - 1:=by omega
               refine wpS_bind (zbr ea ?_)
               have v6:=v4.pA hA hB hi3 ea r2
               by_cases c5:m - 1=0
               . rw [if_pos (by simpa using c5)]
                 exact wpS_pure (.inl ⟨_,rfl,hs.trans hs3,zep v6 hA hB (.inl c5)⟩)
               rw [if_neg (by simpa using c5)]
               split
               . exact wpS_pure (.inr ⟨_,_,_,_,_,_,rfl,hs.trans hs3,v6,ω,ω,ω⟩)
               . exact wpS_pure ⟨_,_,_,_,_,_,rfl,hs.trans hs3,v6,ω,ω,ω⟩
       . rintro c st2 ⟨o,i2,j2,mg,ac,bc,rfl,hs,v,hi,hj,hy2⟩
         exact .inr ⟨o,i2,j2,mg,ac,bc,rfl,hs,v,hi,hj,hy2⟩
       . rintro c st2 (⟨r,hr,hs,hm⟩ | ⟨o,i2,j2,mg,ac,bc,rfl,hs,v,hi,hj,hy2⟩)
         . obtain ⟨c0,c'⟩:=c
           dsimp only at hr
           subst hr
           exact wpS_pure ⟨r,rfl,hs,hm⟩
         . dsimp only
           refine wpS_bind (ziQ fun st3 hs3=>?_)
           exact wpS_pure ⟨o,i2,j2,_,rfl,hs.trans hs3,v,hi,hj,ω⟩
 . rintro c st' ⟨o,i,j,g,rfl,hs,v,hi,hj,hx1⟩
   omega
 . rintro c st' ⟨r,hr,hs,hm⟩
   obtain ⟨c0,c'⟩:=c
   dsimp only at hr
   subst hr
   exact wpS_pure (h r st' hs hm)
end Sr
end
section
namespace Sr
open PySem PyProof.Rows
theorem zne {xs:Array Keyed} (h:∀ i j,i<=j->j < xs.size->K xs i<=K xs j):Asc xs.toList:=by
 refine List.pairwise_iff_getElem.2 fun i j hi hj hij=>?_
 rw [zdU (List.getElem?_eq_getElem hi),zdU (List.getElem?_eq_getElem hj)]
 exact h i j ω (by simpa using hj)
theorem zk7 {xs:Array Keyed}{m e i:Nat} (he:e<=xs.size) (hi:m+i < e):K (xs.extract m e) i=K xs (m+i):=by
 apply K_congr
 rw [Array.getElem?_extract,if_pos ω]
theorem zfm {xs:Array Keyed}{n:Nat}{y:Keyed} (hn:n < xs.toList.length) (e:xs.toList[n]=y):kz y=K xs n:=by
 rw [<- e];exact zdU (List.getElem?_eq_getElem hn)
theorem zvH {xs:Array Keyed}{m:Nat}{y:Keyed} (h:y∈xs.toList.take m):∃ i,i < m∧kz y=K xs i:=by
 obtain ⟨n,hn,e⟩:=List.mem_iff_getElem.1 h
 rw [List.length_take]at hn
 rw [List.getElem_take]at e
 exact ⟨n,ω,zfm ω e⟩
theorem zns {xs:Array Keyed}{m:Nat}{y:Keyed} (h:y∈xs.toList.drop m):∃ i,m<=i∧i < xs.size∧kz y=K xs i:=by
 obtain ⟨n,hn,e⟩:=List.mem_iff_getElem.1 h
 rw [List.length_drop]at hn
 rw [List.getElem_drop]at e
 exact ⟨m+n,ω,by simp at hn;omega,zfm ω e⟩
theorem zkC {xs:Array Keyed}{m e:Nat}{y:Keyed} (h:y∈(xs.extract m e).toList):∃ i,m<=i∧i < e∧kz y=K xs i:=by
 rw [zhx]at h
 obtain ⟨n,hn,q⟩:=List.mem_iff_getElem.1 h
 rw [List.length_take,List.length_drop]at hn
 rw [List.getElem_take,List.getElem_drop]at q
 exact ⟨m+n,ω,ω,zfm ω q⟩
theorem ziT {xs:Array Keyed} (h:IntKeys xs) (m e:Nat):IntKeys (xs.extract m e):=fun p hp=>h p (by
 rw [zhx]at hp
 exact List.mem_of_mem_drop (List.mem_of_mem_take hp))
theorem zm7 (m:Nat):∀ (l:List Keyed) (n:Nat) (xs:Array Keyed),m+n+l.length<=xs.size ->
   ((l.zipIdx n).foldl (fun a (pj:Keyed×Nat)=>a.setIfInBounds (m+pj.2) pj.1) xs).toList=xs.toList.take (m+n)++l++xs.toList.drop (m+n+l.length)
 | [],n,xs,_=>by simp
 | x :: l,n,xs,h=>by
   rw [List.length_cons]at h
   rw [List.zipIdx_cons,List.foldl_cons,zm7 m l (n+1) _ (by rw [Array.size_setIfInBounds];omega)]
   have hs:(xs.setIfInBounds (m+n) x).toList=xs.toList.set (m+n) x:=by simp
   have hl:m+n < xs.toList.length:=by simp;omega
   rw [hs,List.length_cons]
   have e1:(xs.toList.set (m+n) x).take (m+(n+1))=xs.toList.take (m+n)++[x]:=by
     rw [show m+(n+1)=m+n+1 by omega,List.take_succ,List.getElem?_set_self hl,List.take_set_of_le (Nat.le_refl _)];rfl
   have e2:(xs.toList.set (m+n) x).drop (m+(n+1)+l.length)=xs.toList.drop (m+n+(l.length+1)):=by
     rw [List.drop_set_of_lt ω];congr 1;omega
   rw [e1,e2];simp
variable {prog:Program}{w:World}{A:Around}{E:Value->Shared->Prop}{s:Shared}{a₀:Array Keyed}{st:SortSt}
theorem zsr {x:SortSt}{Q:PUnit->SortSt->Prop} (h:∀ st1,st1=x->Q ⟨⟩ st1):wpS (model prog w) A E s (set x:StateT SortSt Sem PUnit) Q st:=by
 unfold wpS;rw [StateT.run_set];exact wpAny_pure ⟨rfl,h x rfl⟩
theorem zqX (L:List Keyed) {k m e:Nat} (h1:k<=m) (h2:m<=e):L=L.take k++(((L.drop k).take (m - k)++(L.drop m).take (e - m))++L.drop e):=by
 have e1:L.drop m=(L.drop m).take (e - m)++L.drop e:=by
   have:=List.take_append_drop (e - m) (L.drop m)
   rw [List.drop_drop,show m+(e - m)=e by omega]at this
   exact this.symm
 have e2:L.drop k=(L.drop k).take (m - k)++L.drop m:=by
   have:=List.take_append_drop (m - k) (L.drop k)
   rw [List.drop_drop,show k+(m - k)=m by omega]at this
   exact this.symm
 rw [List.append_assoc,<- e1,<- e2,List.take_append_drop]
theorem zvN {n1 n2 p p2:Nat}{Q:Bool->SortSt->Prop} (h0:IntKeys a₀) (hB:SB a₀ st) (hp:pendingOf st=#[(0,n1,p),(n1,n2,p2)]) (h1:1<=n1) (h2:1<=n2) (hn:n1+n2=a₀.size) (s1:Seg (arrOf st) 0 n1) (s2:Seg (arrOf st) n1 n2)
   (h:∀ st',SB a₀ st'->pendingOf st'=#[(0,n1+n2,p)]->SortedTo (arrOf st') a₀.size->Q true st'):wpS (model prog w) A E s (mergeAt' 0) Q st:=by
 refine wpS_bind (wpS_get ?_)
 have q0:(pendingOf st)[0]?=some (0,n1,p):=by rw [hp];rfl
 have q1:(pendingOf st)[0+1]?=some (n1,n2,p2):=by rw [hp];rfl
 rw [q0,q1]
 dsimp only
 have hik:=zmu hB.perm h0
 have hsz:=hB.size
 refine wpS_bind (zsr fun st1 e=>?_)
 have ea:arrOf st1=arrOf st:=by rw [e]
 have ep:pendingOf st1=#[(0,n1+n2,p)]:=by rw [e];show ((pendingOf st).setIfInBounds 0 (0,n1+n2,p)).eraseIdxIfInBounds (0+1)=_;rw [hp];simp [Array.eraseIdxIfInBounds]
 have ek:kindOf st1=oneType':=by rw [e];exact hB.kind
 have ef:failedOf st1=none:=by rw [e];exact hB.failed
 clear e q0 q1 hp
 have hB1:SB a₀ st1:=⟨by rw [ea];exact hB.perm,ek,ef⟩
 have hp0:(arrOf st).Perm a₀:=hB.perm
 show wpS _ _ _ _ _ _ _
 obtain ⟨t1,v1,e1⟩:=zdu hik (i:=n1) ω
 refine wpS_bind (zbr e1 ?_)
 refine wpS_bind (zfG (arr:=arrOf st) ek hik rfl (show 0+n1<=(arrOf st).size by omega) ω (fun i j a b=>s1 _ _ ω ω ω) fun k k1 k2 k3=>?_)
 dsimp only
 have G1:∀ i,i < k->K (arrOf st) i<=K (arrOf st) n1:=fun i hi=>by have:=k2 i hi;simp [Bd]at this;omega
 have G2:∀ i,k<=i->i < n1->K (arrOf st) n1 < K (arrOf st) i:=fun i h1 h2=>by have:=k3 i h1 h2;simp [Bd]at this;omega
 clear k2 k3
 have F1:∀ i j,i<=j->j < n1->K (arrOf st) i<=K (arrOf st) j:=fun i j a b=>s1 i j ω a ω
 have F2:∀ i j,n1<=i->i<=j->j < n1+n2->K (arrOf st) i<=K (arrOf st) j:=fun i j a b c=>s2 i j a b c
 have all:∀ (z:Int),(∀ i,i < n1->K (arrOf st) i<=z)->(∀ i,n1<=i->i < n1+n2->z<=K (arrOf st) i)->SortedTo (arrOf st1) a₀.size:=fun z a b i j hij hj=>by
   rw [ea]
   by_cases c1:j < n1
   . exact F1 i j hij c1
   . by_cases c2:n1<=i
     . exact F2 i j c2 hij ω
     . exact Int.le_trans (a i ω) (b j ω ω)
 by_cases c:n1 - k=0
 . rw [if_pos (by simpa using c)]
   exact wpS_pure (h st1 hB1 ep (all _ (fun i hi=>G1 i ω) (fun i a b=>F2 n1 i (Nat.le_refl _) a b)))
 rw [if_neg (by simpa using c)]
 replace c:k < n1:=by omega
 obtain ⟨t2,v2,e2⟩:=zdu hik (i:=0+k+(n1 - k) - 1) ω
 refine wpS_bind (zbr e2 ?_)
 have el:0+k+(n1 - k) - 1=n1 - 1:=by omega
 refine wpS_bind (zfG (arr:=arrOf st) ek hik rfl (show n1+n2<=(arrOf st).size by omega) ω (fun i j a b=>s2 _ _ ω ω ω) fun m m1 m2 m3=>?_)
 dsimp only
 rw [el]at m2 m3
 have G3:∀ i,n1<=i->i < n1+m->K (arrOf st) i < K (arrOf st) (n1 - 1):=fun i h1 h2=>by have:=m2 (i - n1) ω;rw [show n1+(i - n1)=i by omega]at this;simp [Bd]at this;omega
 have G4:∀ i,n1+m<=i->i < n1+n2->K (arrOf st) (n1 - 1)<=K (arrOf st) i:=fun i h1 h2=>by have:=m3 (i - n1) ω ω;rw [show n1+(i - n1)=i by omega]at this;simp [Bd]at this;omega
 clear m2 m3 e1 e2 el
 by_cases c0:m=0
 . rw [if_pos (by simpa using c0)]
   exact wpS_pure (h st1 hB1 ep (all _ (fun i hi=>F1 i (n1 - 1) ω ω) (fun i a b=>G4 i ω b)))
 rw [if_neg (by simpa using c0)]
 have sx:((arrOf st).extract (0+k) n1).size=n1 - k:=by rw [Array.size_extract];omega
 have sy:((arrOf st).extract n1 (n1+m)).size=m:=by rw [Array.size_extract];omega
 have kx:∀ i,i < n1 - k->K ((arrOf st).extract (0+k) n1) i=K (arrOf st) (k+i):=fun i hi=>by rw [zk7 ω ω];congr 1;omega
 have ky:∀ i,i < m->K ((arrOf st).extract n1 (n1+m)) i=K (arrOf st) (n1+i):=fun i hi=>zk7 ω ω
 have hA:Asc ((arrOf st).extract (0+k) n1).toList:=zne fun i j a b=>by rw [sx]at b;rw [kx i ω,kx j b];exact F1 _ _ ω ω
 have hBB:Asc ((arrOf st).extract n1 (n1+m)).toList:=zne fun i j a b=>by rw [sy]at b;rw [ky i ω,ky j b];exact F2 _ _ ω ω ω
 have hf:K ((arrOf st).extract n1 (n1+m)) 0<=K ((arrOf st).extract (0+k) n1) 0:=by
   rw [ky 0 ω,kx 0 ω];exact Int.le_of_lt (G2 _ ω ω)
 have klast:K ((arrOf st).extract (0+k) n1) (((arrOf st).extract (0+k) n1).size - 1)=K (arrOf st) (n1 - 1):=by rw [sx,kx _ ω];congr 1;omega
 have fin:∀ (out:Array Keyed) (st':SortSt),Sm st1 st'->Mg ((arrOf st).extract (0+k) n1).toList ((arrOf st).extract n1 (n1+m)).toList out.toList->∀ Z:Array Keyed,Z=out.toList.zipIdx.foldl (fun a (pj:Keyed×Nat)=>a.setIfInBounds (0+k+pj.2) pj.1) (arrOf st') ->
     Q true (setArr st' Z):=fun out st' sm mg Z eZ=>by
   have lo:out.toList.length=n1 - k+m:=by rw [mg.1.length_eq,List.length_append];simp only [Array.length_toList];omega
   have eL:Z.toList=(arrOf st).toList.take k++(out.toList++(arrOf st).toList.drop (n1+m)):=by
     rw [eZ,sm.a,ea,zm7 (0+k) out.toList 0 _ ω,lo,List.append_assoc]
     have x1:0+k+0+(n1 - k+m)=n1+m:=by omega
     have x2:0+k+0=k:=by omega
     rw [x1,x2]
   have pz:Z.Perm (arrOf st):=by
     refine Array.perm_iff_toList_perm.2 ?_
     rw [eL]
     have sp:=zqX (arrOf st).toList (k:=k) (m:=n1) (e:=n1+m) ω ω
     have ex:=zhx (arrOf st) (0+k) n1
     have ey:=zhx (arrOf st) n1 (n1+m)
     rw [show 0+k=k by omega]at ex
     have mp:=mg.1
     rw [show 0+k=k by omega,ex,ey]at mp
     refine (List.Perm.append_left _ (mp.append_right _)).trans ?_
     rw [<- sp]
   have az:Asc Z.toList:=by
     rw [eL]
     have mm:∀ y∈out.toList,∃ i,k<=i∧i < n1+m∧kz y=K (arrOf st) i:=fun y hy=>by
       rcases List.mem_append.1 (mg.1.mem_iff.1 hy) with hy | hy
       . obtain ⟨i,a,b,c⟩:=zkC hy;exact ⟨i,ω,ω,c⟩
       . obtain ⟨i,a,b,c⟩:=zkC hy;exact ⟨i,ω,ω,c⟩
     have FF:∀ i j,i < k->i<=j->j < n1+n2->K (arrOf st) i<=K (arrOf st) j:=fun i j a b c=>by
       by_cases d:j < n1
       . exact F1 i j b d
       . exact Int.le_trans (G1 i a) (F2 n1 j (Nat.le_refl _) ω c)
     have FH:∀ i j,i<=j->n1+m<=j->j < n1+n2->K (arrOf st) i<=K (arrOf st) j:=fun i j a b c=>by
       by_cases d:i < n1
       . exact Int.le_trans (F1 i (n1 - 1) ω ω) (G4 j b c)
       . exact F2 i j ω a c
     refine List.pairwise_append.2 ⟨?_,List.pairwise_append.2 ⟨mg.2,?_,?_⟩,?_⟩
     . refine List.pairwise_iff_getElem.2 fun i j hi hj hij=>?_
       rw [List.length_take]at hi hj
       rw [List.getElem_take,List.getElem_take,zfm ω rfl,zfm ω rfl]
       exact F1 i j ω ω
     . refine List.pairwise_iff_getElem.2 fun i j hi hj hij=>?_
       rw [List.length_drop]at hi hj
       rw [List.getElem_drop,List.getElem_drop,zfm ω rfl,zfm ω rfl]
       have:(arrOf st).toList.length=n1+n2:=by simp only [Array.length_toList];omega
       exact F2 _ _ ω ω ω
     . intro x hx y hy
       obtain ⟨i,a,b,c⟩:=mm x hx
       obtain ⟨j,a',b',c'⟩:=zns hy
       rw [c,c']
       exact FH i j ω a' ω
     . intro x hx y hy
       obtain ⟨i,a,c⟩:=zvH hx
       rcases List.mem_append.1 hy with hy | hy
       . obtain ⟨j,a',b',c'⟩:=mm y hy
         rw [c,c'];exact FF i j a ω ω
       . obtain ⟨j,a',b',c'⟩:=zns hy
         rw [c,c'];exact FF i j a ω ω
   have zs:Z.size=a₀.size:=pz.size_eq.trans hsz
   exact h _ ⟨pz.trans hp0,sm.k.trans ek,sm.f.trans ef⟩ (sm.p.trans ep) fun i j hij hj=>zfK az hij (by rw [zs];exact hj)
 have ff:∀ st',Sm st1 st'->failedOf st'=none:=fun st' sm=>sm.f.trans ef
 by_cases c6:n1 - k<=m
 . rw [if_pos c6]
   refine wpS_bind (zvU ek (ziT hik (0+k) n1) (ziT hik n1 (n1+m)) hA hBB (by rw [sx];omega) (by rw [sy];omega) hf (fun y hy=>?_) fun out st' sm mg=>?_)
   . obtain ⟨i,a,b,q⟩:=zkC hy
     rw [klast,q];exact Int.le_of_lt (G3 i a b)
   . refine wpS_bind (wpS_modify (wpS_bind (wpS_get ?_)))
     have:=fin out st' sm mg _ rfl
     show wpS _ _ _ _ (pure (failedOf st').isNone) Q _
     rw [ff st' sm]
     exact wpS_pure this
 . rw [if_neg c6]
   refine wpS_bind (zv2 ek (ziT hik (0+k) n1) (ziT hik n1 (n1+m)) hA hBB (by rw [sx];omega) (by rw [sy];omega) hf ?_ fun out st' sm mg=>?_)
   . rw [klast,sy,ky _ ω];exact Int.le_of_lt (G3 _ ω ω)
   . refine wpS_bind (wpS_modify (wpS_bind (wpS_get ?_)))
     have:=fin out st' sm mg _ rfl
     show wpS _ _ _ _ (pure (failedOf st').isNone) Q _
     rw [ff st' sm]
     exact wpS_pure this
end Sr
end
section
namespace Sr
open PySem PyProof.Rows
variable {prog:Program}{w:World}{A:Around}{E:Value->Shared->Prop}{s:Shared}{a₀:Array Keyed}{st:SortSt}
noncomputable def R1 (a₀:Array Keyed) (n:Nat) (st:SortSt):Prop:=SB a₀ st∧1<=n∧32<=n∧n<=64∧pendingOf st=#[(0,n,0)]∧Seg (arrOf st) 0 n
noncomputable def R2 (a₀:Array Keyed) (st:SortSt):Prop:=∃ n m p,SB a₀ st∧1<=n∧1<=m∧n+m=64∧pendingOf st=#[(0,n,p),(n,m,0)]∧Seg (arrOf st) 0 n∧Seg (arrOf st) n m
theorem zsE {Q:Unit->SortSt->Prop} (h0:IntKeys a₀) (hB:SBase a₀ st) (h64:a₀.size=64)
   (h:∀ st',(arrOf st').Perm a₀->failedOf st'=none->SortedTo (arrOf st') a₀.size->Q () st'):wpS (model prog w) A E s sortRuns' Q st:=by
 rw [sortRuns'_eq]
 refine wpS_bind (wpS_get ?_)
 dsimp only
 have hmr:minRun' 64 64 0=32:=rfl
 simp only [hB.size,h64,hmr]
 refine wpS_bind (wpS_mono (wpS_forRange
   (I:=fun x c st'=>(x=0∧c=(none,0)∧SBase a₀ st')∨(x=1∧∃ n,c=(none,n)∧R1 a₀ n st')∨(2<=x∧c=(none,64)∧R2 a₀ st'))
   (Q:=fun c st'=>c=(none,64)∧(R1 a₀ 64 st'∨R2 a₀ st')) ?_ ?_ (.inl ⟨rfl,rfl,hB⟩)) ?_)
 . rintro x c st' _ hx (⟨rfl,rfl,hB'⟩ | ⟨hx1,n,rfl,r1⟩ | ⟨hx2,rfl,r2⟩)
   . dsimp only
     rw [if_neg ω]
     simp only [Nat.sub_zero,Nat.zero_add]
     refine wpS_bind (wpS_countRun h0 ω ω hB' fun m st2 hB2 hm1 hm2 hs2=>?_)
     dsimp only
     have seg:∀ (n:Nat) (st3:SortSt),SortedTo (arrOf st3) n->Seg (arrOf st3) 0 n:=fun n st3 hs i j _ hij hj=>hs i j hij ω
     have fin1:∀ (n:Nat) (st3:SortSt),SBase a₀ st3->32<=n->n<=64->SortedTo (arrOf st3) n->R1 a₀ n (setPending st3 ((pendingOf st3).push (0,n,0))):=fun n st3 b a1 a2 hs =>
       ⟨⟨b.perm,b.kind,b.failed⟩,ω,a1,a2,by show (pendingOf st3).push _=_;rw [b.pend];rfl,seg n st3 hs⟩
     by_cases hlt:m < 32
     . rw [if_pos hlt]
       refine wpS_bind (wpS_lift (wpAny_rule ⟨rfl,?_⟩))
       refine wpS_bind (wpS_binarySort h0 ω ω hB2 hs2 fun st3 hB3 hs3=>?_)
       simp only [Bool.not_true,Bool.false_eq_true,if_false]
       refine wpS_bind (wpS_get ?_)
       have hb:(pendingOf st3).back?=none:=by rw [hB3.pend];rfl
       rw [hb]
       dsimp only
       refine wpS_bind (wpS_modify (wpS_pure (.inr (.inl ⟨by first | rfl | trivial | simp,_,rfl,fin1 _ _ hB3 ω ω hs3⟩))))
     . rw [if_neg hlt]
       refine wpS_bind (wpS_get ?_)
       have hb:(pendingOf st2).back?=none:=by rw [hB2.pend];rfl
       rw [hb]
       dsimp only
       exact wpS_bind (wpS_modify (wpS_pure (.inr (.inl ⟨by first | rfl | trivial | simp,_,rfl,fin1 _ _ hB2 ω hm2 hs2⟩))))
   . dsimp only
     obtain ⟨b,n1,n32,n64,pd,sg⟩:=r1
     by_cases hn:n=64
     . subst hn
       rw [if_pos ω]
       exact wpS_pure ⟨rfl,.inl ⟨b,n1,n32,n64,pd,sg⟩⟩
     rw [if_neg ω]
     refine wpS_bind (zrE h0 ω ω b fun m st2 hk hm1 hm2 hs2=>?_)
     dsimp only
     have keep:∀ st3,Kp a₀ n st' st3->Seg (arrOf st3) 0 n:=fun st3 hk3 i j a b c=>by rw [hk3.k i ω,hk3.k j ω];exact sg i j a b c
     by_cases hlt:m < 32
     . rw [if_pos hlt]
       refine wpS_bind (wpS_lift (wpAny_rule ⟨rfl,?_⟩))
       refine wpS_bind (ztE h0 ω ω hk.b hs2 fun st3 hk3' hs3=>?_)
       have hk3:Kp a₀ n st' st3:=⟨hk3'.b,hk3'.p.trans hk.p,fun i hi=>(hk3'.k i hi).trans (hk.k i hi)⟩
       have sg3:=keep st3 hk3
       simp only [Bool.not_true,Bool.false_eq_true,if_false]
       refine wpS_bind (wpS_get ?_)
       have hb:(pendingOf st3).back?=some (0,n,0):=by rw [hk3.p,pd];rfl
       rw [hb]
       dsimp only
       refine wpS_bind (wpS_mono (wpS_forRange (I:=fun _ c st''=>c=(none,())∧st''=st3) (Q:=fun c st''=>c=(none,())∧st''=st3) ?_ (fun _ _ hh=>hh) ⟨rfl,rfl⟩) ?_)
       . rintro y c st4 _ _ ⟨rfl,rfl⟩
         refine wpS_bind (wpS_get ?_)
         rw [if_neg (by rw [hk3.p,pd];simp)]
         exact wpS_pure ⟨rfl,rfl⟩
       . rintro c st4 ⟨rfl,rfl⟩
         dsimp only
         refine wpS_bind (wpS_modify (wpS_bind (wpS_modify (wpS_pure (.inr (.inr ⟨ω,by rw [show n+(min (64 - n) 32)=64 by omega],n,(min (64 - n) 32),power' 64 (2 * 0+n) (2 * 0+n+n+(min (64 - n) 32)) 64,⟨hk3.b.perm,hk3.b.kind,hk3.b.failed⟩,n1,ω,ω,?_,sg3,hs3⟩))))))
         show ((pendingOf st4).modify ((pendingOf st4).size - 1) _).push _=_
         rw [hk3.p,pd]
         rfl
     . rw [if_neg hlt]
       obtain ⟨st3,e3⟩:∃ z,z=st2:=⟨_,rfl⟩
       rw [<- e3]at hk hs2 ⊢
       have hk3:=hk
       have hs3:=hs2
       have sg3:=keep st3 hk3
       refine wpS_bind (wpS_get ?_)
       have hb:(pendingOf st3).back?=some (0,n,0):=by rw [hk3.p,pd];rfl
       rw [hb]
       dsimp only
       refine wpS_bind (wpS_mono (wpS_forRange (I:=fun _ c st''=>c=(none,())∧st''=st3) (Q:=fun c st''=>c=(none,())∧st''=st3) ?_ (fun _ _ hh=>hh) ⟨rfl,rfl⟩) ?_)
       . rintro y c st4 _ _ ⟨rfl,rfl⟩
         refine wpS_bind (wpS_get ?_)
         rw [if_neg (by rw [hk3.p,pd];simp)]
         exact wpS_pure ⟨rfl,rfl⟩
       . rintro c st4 ⟨rfl,rfl⟩
         dsimp only
         refine wpS_bind (wpS_modify (wpS_bind (wpS_modify (wpS_pure (.inr (.inr ⟨ω,by rw [show n+m=64 by omega],n,m,power' 64 (2 * 0+n) (2 * 0+n+n+m) 64,⟨hk3.b.perm,hk3.b.kind,hk3.b.failed⟩,n1,ω,ω,?_,sg3,hs3⟩))))))
         show ((pendingOf st4).modify ((pendingOf st4).size - 1) _).push _=_
         rw [hk3.p,pd]
         rfl
   . dsimp only
     rw [if_pos ω]
     exact wpS_pure ⟨rfl,.inr r2⟩
 . rintro c st' (⟨hx,_,_⟩ | ⟨hx1,n,rfl,r1⟩ | ⟨_,hc,r2⟩)
   . omega
   . omega
   . exact ⟨hc,.inr r2⟩
 . rintro c st' ⟨rfl,hr⟩
   dsimp only
   refine wpS_bind (wpS_mono (wpS_forRange (I:=fun x c st''=>c=(none,())∧((∃ p,SB a₀ st''∧pendingOf st''=#[(0,64,p)]∧SortedTo (arrOf st'') a₀.size)∨(x=0∧R2 a₀ st'')))
     (Q:=fun c st''=>c=(none,())∧SB a₀ st''∧SortedTo (arrOf st'') a₀.size) ?_ ?_ ⟨rfl,?_⟩) ?_)
   . rintro x c st2 _ _ ⟨rfl,⟨p,b,pd,hs⟩ | ⟨rfl,n,m,p,b,n1,m1,nm,pd,s1,s2⟩⟩
     . refine wpS_bind (wpS_get ?_)
       rw [if_pos (by rw [pd];exact Nat.le_refl 1)]
       exact wpS_pure ⟨rfl,b,hs⟩
     . refine wpS_bind (wpS_get ?_)
       rw [if_neg (by rw [pd];simp)]
       have ez:(pendingOf st2).size - 2=0:=by rw [pd];rfl
       simp only [ez,Nat.lt_irrefl,gt_iff_lt,if_false,Option.any_none,Bool.false_eq_true]
       refine wpS_bind (zvN h0 b pd n1 m1 ω s1 s2 fun st3 b3 pd3 hs3=>?_)
       simp only [Bool.not_true,Bool.false_eq_true,if_false]
       exact wpS_pure ⟨rfl,.inl ⟨p,b3,by rw [pd3,nm],hs3⟩⟩
   . rintro c st2 ⟨rfl,⟨p,b,pd,hs⟩ | ⟨hx,_⟩⟩
     . exact ⟨rfl,b,hs⟩
     . omega
   . rcases hr with ⟨b,_,_,_,pd,sg⟩ | r2
     . exact .inl ⟨0,b,pd,fun i j hij hj=>sg i j ω hij ω⟩
     . exact .inr ⟨rfl,r2⟩
   . rintro c st2 ⟨rfl,b,hs⟩
     exact wpS_pure (h st2 b.perm b.failed hs)
end Sr
end
section
namespace Sr
open PySem PyProof.Rows
variable {prog:Program}{w:World}{A:Around}{E:Value->Shared->Prop}{s:Shared}
theorem sort_le64 {a:Addr}{vs:List Value}{ns:List Int}{n:Nat}{P:Fin->Shared->Prop} (ho:s.heap.get? a=some (seqObj "list" vs.toArray n)) (hI:IntsAre vs ns) (h64:vs.length<=64)
   (h:∀ (out:Array Value) (ns':List Int),IntsAre out.toList ns'->ns'.Perm ns->ns'.Pairwise (· <= ·)->P (.done (.ret .none)) { s with heap:=sortedHeap s.heap a vs out }) :
   wpAny (model prog w) A (Builtin.«list.sort» ⟨[.ref a],[]⟩) P E s:=by
 by_cases hlt:vs.length < 64
 . exact list_sort_tree ho hI hlt h
 have hl:vs.length=64:=by omega
 rw [list_sort_plain]
 have ha:a < s.heap.objs.size:=Heap.lt_size ho
 refine wpAny_bind (listItems_at ho rfl (wpAny_bind (listUpdate_at ho rfl ?_)))
 obtain ⟨e1,ho1⟩:∃ e1,(s.heap.update a (Obj.mapSeq fun _=>#[])).get? a=some (seqObj "list" #[] e1):=⟨_,get?_update_seq ho (fun _=>#[])⟩
 refine wpAny_bind (seqEpoch_at ho1 rfl (wpAny_bind (wpAny_newTuple (wpAny_bind (wpAny_newList (wpAny_holding ?_))))))
 have ho6:(((s.heap.update a (Obj.mapSeq fun _=>#[])).push (seqObj "tuple" vs.toArray 0)).push (seqObj "list" #[] 0)).get? a=some (seqObj "list" #[] e1):=by
   rw [Heap.get?_push_ne _ _ _ (by rw [size_push',Heap.size_update];exact Nat.ne_of_lt (Nat.lt_succ_of_lt ha)),Heap.get?_push_ne _ _ _ (by rw [Heap.size_update];exact Nat.ne_of_lt ha)]
   exact ho1
 show wpAny (model prog w) A _ P E { s with heap:=((s.heap.update a (Obj.mapSeq fun _=>#[])).push (seqObj "tuple" vs.toArray 0)).push (seqObj "list" #[] 0) }
 dsimp only
 have h2:¬ vs.toArray.size < 2:=by simp;omega
 rw [if_neg h2,if_neg h2]
 match vs,hI,hl,ho6,h,h2 with
 | [],_,hl,_,_,_=>cases hl
 | [_],_,hl,_,_,_=>simp at hl
 | v₁ :: v₂ :: rest,hI,hl,ho6,h,h2 =>
   rw [keyKind_ints hI]
   refine wpAny_bind (wpAny_pure ?_)
   refine wpAny_bind (wpAny_mono (zsE (a₀:=pairsOf (v₁ :: v₂ :: rest)) (st:=SortSt.mk' oneType' ((v₁ :: v₂ :: rest).toArray.zip (v₁ :: v₂ :: rest).toArray) #[] 7 none)
     (Q:=fun _ st'=>(arrOf st').Perm (pairsOf (v₁ :: v₂ :: rest))∧failedOf st'=none∧SortedTo (arrOf st') (pairsOf (v₁ :: v₂ :: rest)).size)
     hI.intKeys ⟨Array.Perm.refl _,rfl,rfl,rfl⟩ (by rw [pairsOf_size];exact hl) fun st' a1 a2 a3=>⟨a1,a2,a3⟩) ?_ fun _ _ e=>e)
   rintro ⟨⟨⟩,st'⟩ s' ⟨rfl,hp,hf,hs⟩
   dsimp only
   refine wpAny_bind (seqEpoch_at ho6 rfl ?_)
   refine wpAny_bind (listUpdate_at ho6 rfl ?_ (hsz2:=by refine Nat.le_trans (Nat.le_of_eq ((Array.size_map ..).trans (hp.size_eq.trans (pairsOf_size _)))) ?_;rw [sizeLine_eq];omega))
   rw [hf]
   simp only [bne_self_eq_false,Bool.false_eq_true,if_false]
   obtain ⟨ns',h1,h2,h3⟩:=sorted_out hI hp hs
   exact wpAny_pure (h _ ns' h1 h2 h3)
end Sr
end
section
namespace L2
open PySem PySem.Spec PyProof.Rows
theorem zvd {P:Program}{w:World}{A:Around}{E:Value->Shared->Prop}{s:Shared}{a:Addr}{ns:List Int}{Q:Value->Shared->Prop} (hh:A.handled=none) (S:zct P w (zcp w) s.heap a ns) (h64:ns.length < 65)
   (hQ:∀ s' p (out:Array Value) ms e,(∀ b o,s.heap.get? b=some o->s'.heap.get? b=some o)->s.heap.objs.size<=p->s'.gens=s.gens->s'.os=s.os->s'.heap.get? p=some (seqObj "list" out e)->IntsAre out.toList ms->ms.Perm ns->ms.Pairwise (· <= ·)->Q (.ref p) s') :
   wpAny (model P w) A (call (.builtin "sorted") [.ref a]) Q E s:=by
 refine Calls.call_function_entry kind_sorted plain_sorted entry_sorted (args_sorted1 _) ?_
 unfold Builtin.«sorted»
 refine wpAny_bind (m:=checkCount "sorted" 1 1 _) (wpAny_pure ?_)
 refine wpAny_bind (zrA hh S ω fun s1 vs ms k sz g os hI hp=>?_)
 have hv:vs.length < 65:=by rw [hI.length,hp.length_eq];exact h64
 refine wpAny_bind (wpAny_newList ?_)
 have hL:(s1.heap.push (seqObj "list" vs.toArray 0)).get? s1.heap.objs.size=some (seqObj "list" vs.toArray 0):=Heap.get?_push_size _ rfl
 show wpAny (model P w) _ _ _ _ { s1 with heap:=s1.heap.push (seqObj "list" vs.toArray 0) }
 refine wpAny_bind (wpAny_holding (wpAny_call_entry slot_list_sort ⟨_,hL,rfl⟩ entry_list_sort (Sr.sort_le64 hL hI ω fun out ks k1 k2 k3=>⟨_,rfl,?_⟩) (args_list_sort _)))
 obtain ⟨e,he⟩:=sortedHeap_at (out:=out) hL
 refine wpAny_pure ⟨_,rfl,hQ _ s1.heap.objs.size out ks e (fun b o q=>?_) sz g os he k1 (k2.trans hp) k3⟩
 have q1:=k b o q
 have lt:b < s1.heap.objs.size:=Heap.lt_size q1
 show (sortedHeap (s1.heap.push (seqObj "list" vs.toArray 0)) s1.heap.objs.size vs out).get? b=some o
 rw [sortedHeap_old (Nat.ne_of_lt lt) (by rw [size_push'];exact Nat.lt_succ_of_lt lt)]
 exact Heap.get?_push_of_some _ q1
section
variable {X:Cx}
theorem zur (hc:X.calm=true):zcK X (.builtin "sorted") (fun xs H Q=>∃ (a:Addr) (ns:List Int),xs=[.ref a]∧H a=some (zeh X a ns)∧ns.length < 65∧∀ p,H p=none->Q (.ref p) (upd H p (.lst ((MI.sortI ns).map V.int)))):=by
 intro pins s σ H xs us Q I r h
 obtain ⟨a,ns,rfl,hq,hn,q⟩:=h
 obtain ⟨u,rfl,ru⟩:=zdm r
 cases ru
 have hS:zct X.prog X.w (zcp X.w) s.heap a ns:=(I.hok a _ hq).1
 refine zvd (I.ok.hd hc) hS hn fun s' p out ms e k hp g os he hI pm srt=>?_
 have em:ms=MI.sortI ns:=MI.sorted_unique (pm.trans (MI.sortI_perm ns).symm) srt (MI.sortI_sorted ns)
 subst em
 obtain ⟨h',g',d',t',o'⟩:=s'
 obtain rfl:g'=s.gens:=g
 obtain rfl:o'=s.os:=os
 refine ⟨.ref p,_,(I.laid (t':=t') (a:=p) (o := .lst ((MI.sortI ns).map V.int)) k hp ?_).drw d',rfl,q _ (I.hok.fresh hp)⟩
 refine ⟨?_,out.toList,e,zic hI,?_⟩
 . rw [List.length_map,(MI.sortI_perm ns).length_eq,sizeLine_eq];omega
 . rw [Array.toArray_toList];exact he
end
section
variable {P:Program}{w:World}{A:Around}{E:Value->Shared->Prop}{s:Shared}{a:Addr}{vs:List (Key×Value)}{ep:Nat}
theorem zvh {Q:Value->Shared->Prop}{ns:List Int} (hh:A.handled=none) (hs:(a == sysModules)=false) (D:s.heap.DictAt (zbj P w) a vs ep) (hk:vs.map (·.1)=ns.map Sum.inl) (h64:ns.length < 65)
   (hQ:∀ s' p (out:Array Value) ms e,(∀ b o,s.heap.get? b=some o->s'.heap.get? b=some o)->s.heap.objs.size<=p->s'.gens=s.gens->s'.drawn=s.drawn->s'.os=s.os->s'.heap.get? p=some (seqObj "list" out e)->IntsAre out.toList ms->ms.Perm ns->ms.Pairwise (· <= ·)->Q (.ref p) s') :
   wpAny (model P w) A (call (.builtin "sorted") [.ref a]) Q E s:=by
 have hl:vs.length=ns.length:=by have:=congrArg List.length hk;simpa using this
 refine Calls.call_function_entry kind_sorted plain_sorted entry_sorted (args_sorted1 _) ?_
 unfold Builtin.«sorted»
 refine wpAny_bind (m:=checkCount "sorted" 1 1 _) (wpAny_pure ?_)
 refine wpAny_bind (zqU hh hs D ω fun s1 acc k sz g dr os it=>?_)
 have hI:IntsAre acc.toList ns:=zmM _ _ (by rw [Array.length_toList,it.1,hl]) fun i v hv=>by
   rw [Array.getElem?_toList]at hv
   obtain ⟨kv,e1,e2⟩:=it.2 i v hv
   have e3:(vs.map (·.1))[i]?=some kv.1:=by rw [List.getElem?_map,e1];rfl
   rw [hk,List.getElem?_map]at e3
   cases en:ns[i]? with
   | none=>rw [en]at e3;cases e3
   | some m =>
     rw [en]at e3
     have e4:kv.1=Sum.inl m:=by simpa using e3.symm
     rw [e4]at e2
     obtain ⟨t,ht⟩:zo (V.int m) v:=zsY e2
     exact ⟨t,by rw [ht,List.getD_eq_getElem?_getD,en];rfl⟩
 have hv:acc.toList.length < 65:=by rw [hI.length];exact h64
 refine wpAny_bind (wpAny_newList ?_)
 have hL:(s1.heap.push (seqObj "list" acc.toList.toArray 0)).get? s1.heap.objs.size=some (seqObj "list" acc.toList.toArray 0):=Heap.get?_push_size _ rfl
 show wpAny (model P w) _ _ _ _ { s1 with heap:=s1.heap.push (seqObj "list" acc.toList.toArray 0) }
 refine wpAny_bind (wpAny_holding (wpAny_call_entry slot_list_sort ⟨_,hL,rfl⟩ entry_list_sort (Sr.sort_le64 hL hI ω fun out ks k1 k2 k3=>⟨_,rfl,?_⟩) (args_list_sort _)))
 obtain ⟨e,he⟩:=sortedHeap_at (out:=out) hL
 refine wpAny_pure ⟨_,rfl,hQ _ s1.heap.objs.size out ks e (fun b o q=>?_) sz g dr os he k1 k2 k3⟩
 have q1:=k b o q
 have lt:b < s1.heap.objs.size:=Heap.lt_size q1
 show (sortedHeap (s1.heap.push (seqObj "list" acc.toList.toArray 0)) s1.heap.objs.size acc.toList out).get? b=some o
 rw [sortedHeap_old (Nat.ne_of_lt lt) (by rw [size_push'];exact Nat.lt_succ_of_lt lt)]
 exact Heap.get?_push_of_some _ q1
end
theorem zvg {X:Cx} (hc:X.calm=true):zcK X (.builtin "sorted") (fun xs H Q=>∃ (a:Addr) (kvs:List (Key×V)) (ns:List Int),xs=[.ref a]∧H a=some (.dK kvs)∧kvs.map (·.1)=ns.map Sum.inl∧ns.length < 65∧∀ p,H p=none->Q (.ref p) (upd H p (.lst ((MI.sortI ns).map V.int)))):=by
 intro pins s σ H xs us Q I r h
 obtain ⟨a,kvs,ns,rfl,ha,hk,hn,q⟩:=h
 obtain ⟨u,rfl,ru⟩:=zdm r
 cases ru
 obtain ⟨z,hd,vs,rel,⟨o,es,ep,D⟩⟩:=zl0 I.hok ha
 have hk2:vs.map (·.1)=ns.map Sum.inl:=by rw [<- rel.keys];exact hk
 refine zvh (ep:=ep) (I.ok.hd hc) hd ⟨o,es,D⟩ hk2 hn fun s' p out ms e k hp g dr os he hI pm srt=>?_
 have em:ms=MI.sortI ns:=MI.sorted_unique (pm.trans (MI.sortI_perm ns).symm) srt (MI.sortI_sorted ns)
 subst em
 obtain ⟨h',g',d',t',o'⟩:=s'
 obtain rfl:g'=s.gens:=g
 obtain rfl:o'=s.os:=os
 refine ⟨.ref p,_,(I.laid (t':=t') (a:=p) (o := .lst ((MI.sortI ns).map V.int)) k hp ?_).drw d',rfl,q _ (I.hok.fresh hp)⟩
 refine ⟨?_,out.toList,e,zic hI,?_⟩
 . rw [List.length_map,(MI.sortI_perm ns).length_eq,sizeLine_eq];omega
 . rw [Array.toArray_toList];exact he
end L2
namespace MI
open PySem PySem.Spec L2
section
variable {W:Nat->Hp->Prop}{X:Cx}{F:Addr->Prop}{G:GP}{env:zr}{σ:L2.St}{ρ:List Addr}{H:Hp}{h:MH}{a b c e o:Expr}{es:List Expr}{ma mb mc:ME D}{ml ml':ME (List D)}{pos p p1 p2 apos:Pos}{Q:VK}{k i:Nat}{x:Str}
theorem zq5 (rm:zL k X.A) (hg:Gl X "sorted") (hm:X.mg "sorted" = none) (hg':Gl X "set") (hm':X.mg "set" = none) (ha:JE X e (tL W G ml)) (hs:starEach [e] X.env=(false,eval e X.env) :: starEach [] X.env) (hc:X.calm=true:=by rfl) :
   JE X (.Call (.Name "sorted" p) [.Call (.Name "set" p1) [e] [] p2] [] pos) (tN W G (ziC ml)) :=
 .of (zT (zdW (zur hc) hg hm ϰ (zcd (ziM (zro hc) hg' hm' ϰ (zcd ha.to zcu hs) (he:=hs)) zcu zbb) (he:=zbb)) fun σ H Q ⟨F,ρ,env,h,er,hr,w⟩=>by
   refine zdp (Rl:=rL G.K) (m:=ml) (P:=fun vs H1=>∃ (a:Addr) (ns:List Int),vs=[.ref a]∧SqL X.K H1 a (ns.map V.int)∧ns.length < 4000∧∀ p,H1 p=none->(∃ (b:Addr) (ks:List Int),[V.ref p]=[.ref b]∧(upd H1 p (zeh X p (zb9 ns))) b=some (zeh X b ks)∧ks.length < 65 ∧
     ∀ q,(upd H1 p (zeh X p (zb9 ns))) q=none->Q (.ref q) (upd (upd H1 p (zeh X p (zb9 ns))) q (.lst ((sortI ks).map V.int))))) ⟨F,ρ,env,h,er,hr,?_⟩
   refine zC w fun xs h1 ρ1 H1 y e1 er1 hr1 ⟨q,us,ey,hq,rs⟩ w1=>?_
   subst ey
   cases eb:zbO xs with
   | none=>rw [eb]at w1;exact w1.elim
   | some ns =>
     rw [eb]at w1
     have e2:=RDs.of_ints eb rs
     subst e2
     by_cases hl:ns.length < 65
     . dsimp only at w1
       rw [if_pos hl]at w1
       have hd64:(zb9 ns).length < 65:=Nat.lt_of_le_of_lt (PyProof.Rows.firstMet_length_le _ _) hl
       refine ⟨q,ns,rfl,SqL.of hq,ω,fun d hd=>⟨d,_,rfl,zb4,hd64,fun d2 hd2=>?_⟩⟩
       have x1:=zb1 (F:=F) (ρ:=ρ1) (u:=zeh X d (zb9 ns)) hr1 hd
       have hr2:=hr1.new (u:=zeh X d (zb9 ns)) hd
       have x2:=zb1 (F:=F) (ρ:=ρ1) (u:=HO.lst ((sortI (zb9 ns)).map V.int)) hr2 hd2
       rw [zmi]at *
       exact w1 ρ1 _ (.ref d2) (x1.trans x2) ((er1.ext x1).ext x2) (hr2.new hd2) (zfl hr2 hd2 (RDs.ints _))
     . dsimp only at w1
       rw [if_neg hl]at w1;exact w1.elim)
end
section
variable {W:Nat->Hp->Prop}{X:Cx}{F:Addr->Prop}{G:GP}{env:zr}{σ:L2.St}{ρ:List Addr}{H:Hp}{h:MH}{e:Expr}{ma:ME D}{pos p:Pos}{Q:VK}
theorem zvB (hg:Gl X "sorted") (hm:X.mg "sorted" = none) (ha:JE X e (tE W G ma)) (hs:starEach [e] X.env=(false,eval e X.env) :: starEach [] X.env:=by rfl) (hc:X.calm=true:=by rfl):JE X (.Call (.Name "sorted" p) [e] [] pos) (tN W G (ziF ma)) :=
 .of (zT (zdW (zvg hc) hg hm ϰ (zcd ha.to zcu hs) (he:=hs)) fun σ H Q ⟨F,ρ,env,h,er,hr,w⟩=>zdp ⟨F,ρ,env,h,er,hr,zC w fun x h1 ρ1 H1 y e1 er1 hr1 r1 w1=>by
   cases x with
   | obj n =>
     dsimp only at w1
     cases qo:h1[n]? with
     | none=>rw [qo]at w1;exact w1.elim
     | some o =>
       rw [qo]at w1
       cases o with
       | dic kvs =>
         obtain ⟨q,vs,rfl,eq,hq,rs⟩:=hr1.dic r1 qo
         by_cases hl:kvs.length < 65
         . dsimp only at w1
           rw [if_pos hl]at w1
           exact ⟨q,vs,kvs.map (·.1),rfl,hq,rs.keys,by simpa using hl,fun d hd=>wp.made (h:=h1) w1 er1 hr1 hd (zfl hr1 hd (RDs.ints _))⟩
         . dsimp only at w1
           rw [if_neg hl]at w1;exact w1.elim
       | _=>exact w1.elim
   | _=>exact w1.elim⟩)
end
end MI
end
section
open PySem L2 MI
namespace My
noncomputable def top (i:Nat):Stmt:=PySem.Challenge.pw_closering_k02_whole_between.main.body.getD i (.Pass ⟨0,0,0,0⟩)
noncomputable abbrev zhM:Stmt:=top 7
theorem znR:zQ ["value"] ["value"] (zA zhM):=⟨rfl,rfl,rfl,ϰ,rfl,ϰ,ϰ⟩
noncomputable abbrev zhN:Stmt:=top 8
theorem znS:zQ ["value", "least", "most"] ["value", "least", "most"] (zA zhN):=⟨rfl,rfl,rfl,ϰ,rfl,ϰ,ϰ⟩
noncomputable abbrev zhO:Stmt:=top 9
theorem znT:zQ ["points", "value"] ["points", "value"] (zA zhO):=⟨rfl,rfl,rfl,ϰ,rfl,ϰ,ϰ⟩
noncomputable abbrev zhP:Stmt:=top 10
theorem znU:zQ ["points", "value"] ["points", "value"] (zA zhP):=⟨rfl,rfl,rfl,ϰ,rfl,ϰ,ϰ⟩
noncomputable abbrev zgM:Stmt:=top 11
theorem znV:zQ ["points", "value"] ["points", "value"] (zA zgM):=⟨rfl,rfl,rfl,ϰ,rfl,ϰ,ϰ⟩
noncomputable abbrev zhR:Stmt:=zgv (top 14) 0
theorem znW:zQ ["self", "points", "ties", "turn"] ["self", "points", "ties", "turn"] (zA zhR):=⟨rfl,rfl,rfl,ϰ,rfl,ϰ,ϰ⟩
noncomputable abbrev zdh:Stmt:=zgv (top 14) 1
theorem znX:zQ ["self"] ["self"] (zA zdh):=⟨rfl,rfl,rfl,ϰ,rfl,ϰ,ϰ⟩
noncomputable abbrev zhQ:Stmt:=top 15
theorem znY:zQ ["tie"] ["tie"] (zA zhQ):=⟨rfl,rfl,rfl,ϰ,rfl,ϰ,ϰ⟩
noncomputable abbrev zfZ:Stmt:=top 19
theorem znZ:zQ ["ties", "value"] ["ties", "value"] (zA zfZ):=⟨rfl,rfl,rfl,ϰ,rfl,ϰ,ϰ⟩
noncomputable abbrev zgN:Stmt:=top 20
theorem zn0:zQ ["ties", "value"] ["ties", "value"] (zA zgN):=⟨rfl,rfl,rfl,ϰ,rfl,ϰ,ϰ⟩
noncomputable abbrev ze8:Stmt:=top 21
theorem zkK:zQ ["ties", "step", "tie"] ["ties", "step"] (zA ze8):=⟨rfl,rfl,rfl,ϰ,rfl,ϰ,ϰ⟩
noncomputable abbrev zf0:Stmt:=top 22
theorem zf2:zQ ["web", "start", "steps", "ties", "gone", "here", "step"] ["web", "start", "steps"] (zA zf0):=⟨rfl,rfl,rfl,ϰ,rfl,ϰ,ϰ⟩
noncomputable abbrev ze9:Stmt:=top 23
theorem zkL:zQ ["web", "start", "steps", "gone"] ["web", "start", "steps"] (zA ze9):=⟨rfl,rfl,rfl,ϰ,rfl,ϰ,ϰ⟩
noncomputable abbrev zgS:Stmt:=top 24
theorem zkM:zQ ["web", "start", "steps", "passed"] ["web", "start", "steps"] (zA zgS):=⟨rfl,rfl,rfl,ϰ,rfl,ϰ,ϰ⟩
noncomputable abbrev zgT:Stmt:=top 25
theorem zn1:zQ ["web", "one", "other", "steps"] ["web", "one", "other", "steps"] (zA zgT):=⟨rfl,rfl,rfl,ϰ,rfl,ϰ,ϰ⟩
noncomputable abbrev zgO:Stmt:=top 26
theorem zn2:zQ ["web"] ["web"] (zA zgO):=⟨rfl,rfl,rfl,ϰ,rfl,ϰ,ϰ⟩
noncomputable abbrev zf1:Stmt:=top 27
theorem zhS:zQ ["web", "chosen", "ties", "found", "place"] ["web", "chosen"] (zA zf1):=⟨rfl,rfl,rfl,ϰ,rfl,ϰ,ϰ⟩
noncomputable abbrev zgP:Stmt:=top 28
theorem zfd:zQ ["ties", "onward", "start", "arrived", "waiting", "place", "here", "step", "there"] ["ties", "onward", "start", "arrived"] (zA zgP):=⟨rfl,rfl,rfl,ϰ,rfl,ϰ,ϰ⟩
noncomputable abbrev zgQ:Stmt:=top 29
theorem zkN:zQ ["web", "chosen", "start", "arrived"] ["web", "chosen", "start"] (zA zgQ):=⟨rfl,rfl,rfl,ϰ,rfl,ϰ,ϰ⟩
noncomputable abbrev zgR:Stmt:=top 31
theorem zgX:zQ ["web", "arrived", "goal", "ties", "steps", "here"] ["web", "arrived", "goal"] (zA zgR):=⟨rfl,rfl,rfl,ϰ,rfl,ϰ,ϰ⟩
noncomputable abbrev zfa:Stmt:=top 35
theorem zn3:zQ ["values", "count"] ["values", "count"] (zA zfa):=⟨rfl,rfl,rfl,ϰ,rfl,ϰ,ϰ⟩
noncomputable abbrev zfb:Stmt:=top 37
theorem zkO:zQ ["points", "ties", "one", "other", "among"] ["points", "ties", "one", "other"] (zA zfb):=⟨rfl,rfl,rfl,ϰ,rfl,ϰ,ϰ⟩
noncomputable abbrev zi1:Stmt:=zgv (top 44) 0
theorem zn4:zQ ["self", "steps"] ["self", "steps"] (zA zi1):=⟨rfl,rfl,rfl,ϰ,rfl,ϰ,ϰ⟩
noncomputable abbrev zgU:Stmt:=zgv (top 44) 1
theorem zn5:zQ ["self", "web", "one", "other"] ["self", "web", "one", "other"] (zA zgU):=⟨rfl,rfl,rfl,ϰ,rfl,ϰ,ϰ⟩
noncomputable abbrev zi2:Stmt:=zgv (top 45) 0
theorem zn6:zQ ["self", "points"] ["self", "points"] (zA zi2):=⟨rfl,rfl,rfl,ϰ,rfl,ϰ,ϰ⟩
noncomputable abbrev zgV:Stmt:=zgv (top 45) 1
theorem zn7:zQ ["self", "web", "one", "other"] ["self", "web", "one", "other"] (zA zgV):=⟨rfl,rfl,rfl,ϰ,rfl,ϰ,ϰ⟩
noncomputable abbrev zi3:Stmt:=top 49
theorem zn8:zQ ["web", "value"] ["web", "value"] (zA zi3):=⟨rfl,rfl,rfl,ϰ,rfl,ϰ,ϰ⟩
noncomputable abbrev zgW:Stmt:=top 50
theorem zkP:zQ ["web", "one", "other", "arrived"] ["web", "one", "other"] (zA zgW):=⟨rfl,rfl,rfl,ϰ,rfl,ϰ,ϰ⟩
noncomputable abbrev zfc:Stmt:=top 51
theorem zi4:zQ ["web", "start", "steps", "gone", "end"] ["web", "start", "steps"] (zA zfc):=⟨rfl,rfl,rfl,ϰ,rfl,ϰ,ϰ⟩
noncomputable abbrev zi5:Stmt:=top 53
theorem zn9:zQ ["_law_script", "_law_k"] ["_law_script", "_law_k"] (zA zi5):=⟨rfl,rfl,rfl,ϰ,rfl,ϰ,ϰ⟩
noncomputable abbrev zi6:Stmt:=top 54
theorem zkQ:zQ ["_law_cell", "_law_k", "_law_many", "_law_primes"] ["_law_cell", "_law_k", "_law_many"] (zA zi6):=⟨rfl,rfl,rfl,ϰ,rfl,ϰ,ϰ⟩
noncomputable abbrev zi7:Stmt:=top 55
theorem zci:zQ ["_law_script", "_law_few", "_law_points", "_law_turn", "_law_most", "_law_wrong", "_law_halves", "_law_ties", "_law_k", "_law_one", "_law_other", "_law_low", "_law_many", "_law_by", "_law_number"] ["_law_script"] (zA zi7):=⟨rfl,rfl,rfl,ϰ,rfl,ϰ,ϰ⟩
noncomputable abbrev zi8:Stmt:=top 57
theorem zfe:zQ ["_law_ties", "_law_start", "_law_steps", "_law_points", "_law_total", "_law_step", "_law_at", "_law_way", "_law_ends"] ["_law_ties", "_law_start", "_law_steps"] (zA zi8):=⟨rfl,rfl,rfl,ϰ,rfl,ϰ,ϰ⟩
noncomputable abbrev zhT:Stmt:=top 58
theorem zoa:zQ ["_law_found"] ["_law_found"] (zA zhT):=⟨rfl,rfl,rfl,ϰ,rfl,ϰ,ϰ⟩
noncomputable abbrev zi9:Stmt:=top 59
theorem zkR:zQ ["_law_ties", "_law_start", "_law_steps", "_law_end", "_law_points"] ["_law_ties", "_law_start", "_law_steps", "_law_end"] (zA zi9):=⟨rfl,rfl,rfl,ϰ,rfl,ϰ,ϰ⟩
noncomputable abbrev zhU:Stmt:=top 60
theorem zkS:zQ ["_law_points", "_law_ties", "_law_some", "_law_skipped", "_law_at"] ["_law_points", "_law_ties", "_law_some", "_law_skipped"] (zA zhU):=⟨rfl,rfl,rfl,ϰ,rfl,ϰ,ϰ⟩
noncomputable abbrev zja:Stmt:=top 61
theorem zob:zQ ["_law_points", "_law_ties", "_law_one", "_law_other", "_law_found"] ["_law_points", "_law_ties", "_law_one", "_law_other", "_law_found"] (zA zja):=⟨rfl,rfl,rfl,ϰ,rfl,ϰ,ϰ⟩
noncomputable abbrev zjb:Stmt:=top 62
theorem zgY:zQ ["_law_web_here", "_law_points", "_law_ties", "_law_one", "_law_other", "_law_found", "_law_others", "_law_came", "_law_total"] ["_law_web_here", "_law_points", "_law_ties", "_law_one", "_law_other"] (zA zjb):=⟨rfl,rfl,rfl,ϰ,rfl,ϰ,ϰ⟩
noncomputable abbrev zgZ:Stmt:=top 63
theorem zdK:zQ ["_law_script", "_law_points", "_law_ties", "_law_turn", "_law_web_here", "_law_pairs", "_law_k", "_law_one", "_law_other"] ["_law_script"] (zA zgZ):=⟨rfl,rfl,rfl,ϰ,rfl,ϰ,ϰ⟩
noncomputable def anL:List Str:=["points", "turn", "triples", "heights", "steps", "kept", "parts", "camps", "tie"]
theorem zrp:anL.Nodup:=ϰ
theorem zfo:anL.contains "ties" = false:=ϰ
theorem zeQ:anL.contains "shows" = false:=ϰ
set_option genInjectivity false in
set_option genSizeOfSpec false in
structure TX (K:PySem.W.Frag) (mg:Str->Option Value) where
 zeu:DF K "is_number" "is_number" zhM ["value"]
 zeq:mg "is_number" = some (.ref zeu.a)
 zcx:DF K "is_within" "is_within" zhN ["value", "least", "most"]
 zcq:mg "is_within" = some (.ref zcx.a)
 zcj:DF K "is_point" "is_point" zhO ["points", "value"]
 zch:mg "is_point" = some (.ref zcj.a)
 zf3:DF K "is_tie" "is_tie" zhP ["points", "value"]
 zfM:mg "is_tie" = some (.ref zf3.a)
 zf4:DF K "own_tie" "own_tie" zgM ["points", "value"]
 ze5:mg "own_tie" = some (.ref zf4.a)
 zg0:DF K "__init__" "Web.__init__" zhR ["self", "points", "ties", "turn"]
 zdr:DF K "ties" "Web.ties" zdh ["self"]
 zf5:DF K "turned" "turned" zhQ ["tie"]
 zfN:mg "turned" = some (.ref zf5.a)
 zf6:DF K "is_place" "is_place" zfZ ["ties", "value"]
 zfO:mg "is_place" = some (.ref zf6.a)
 zf7:DF K "is_step" "is_step" zgN ["ties", "value"]
 ze6:mg "is_step" = some (.ref zf7.a)
 zdL:DF K "leg" "leg" ze8 ["ties", "step"]
 zcR:mg "leg" = some (.ref zdL.a)
 zev:DF K "legs" "legs" zf0 ["web", "start", "steps"]
 zer:mg "legs" = some (.ref zev.a)
 zew:DF K "stops" "stops" ze9 ["web", "start", "steps"]
 zes:mg "stops" = some (.ref zew.a)
 zf8:DF K "is_straight" "is_straight" zgS ["web", "start", "steps"]
 zfP:mg "is_straight" = some (.ref zf8.a)
 zf9:DF K "leads" "leads" zgT ["web", "one", "other", "steps"]
 zfQ:mg "leads" = some (.ref zf9.a)
 zga:DF K "every_tie" "every_tie" zgO ["web"]
 zfR:mg "every_tie" = some (.ref zga.a)
 zgb:DF K "steps_from" "steps_from" zf1 ["web", "chosen"]
 zfS:mg "steps_from" = some (.ref zgb.a)
 zgc:DF K "spread" "spread" zgP ["ties", "onward", "start", "arrived"]
 zfT:mg "spread" = some (.ref zgc.a)
 zgd:DF K "reach" "reach" zgQ ["web", "chosen", "start"]
 zfU:mg "reach" = some (.ref zgd.a)
 zge:DF K "trace" "trace" zgR ["web", "arrived", "goal"]
 zfV:mg "trace" = some (.ref zge.a)
 zgf:DF K "are_rising" "are_rising" zfa ["values", "count"]
 zfW:mg "are_rising" = some (.ref zgf.a)
 zgg:DF K "divides" "divides" zfb ["points", "ties", "one", "other"]
 zfX:mg "divides" = some (.ref zgg.a)
 zg1:DF K "__init__" "Way.__init__" zi1 ["self", "steps"]
 zex:DF K "shows" "Way.shows" zgU ["self", "web", "one", "other"]
 zg2:DF K "__init__" "Apart.__init__" zi2 ["self", "points"]
 zey:DF K "shows" "Apart.shows" zgV ["self", "web", "one", "other"]
 zdM:DF K "refuse_no_point" "refuse_no_point" zi3 ["web", "value"]
 zdJ:mg "refuse_no_point" = some (.ref zdM.a)
 zgh:DF K "between" "between" zgW ["web", "one", "other"]
 zdq:mg "between" = some (.ref zgh.a)
 zdN:DF K "climb" "climb" zfc ["web", "start", "steps"]
 zdf:mg "climb" = some (.ref zdN.a)
 zbU:DF K "_law_cell_at" "_law_cell_at" zi5 ["_law_script", "_law_k"]
 zbm:mg "_law_cell_at" = some (.ref zbU.a)
 z9:DF K "_law_draw" "_law_draw" zi6 ["_law_cell", "_law_k", "_law_many"]
 zy:mg "_law_draw" = some (.ref z9.a)
 zgi:DF K "_law_web" "_law_web" zi7 ["_law_script"]
 ze7:mg "_law_web" = some (.ref zgi.a)
 zez:DF K "_law_walk" "_law_walk" zi8 ["_law_ties", "_law_start", "_law_steps"]
 zd5:mg "_law_walk" = some (.ref zez.a)
 zgj:DF K "_law_numbers" "_law_numbers" zhT ["_law_found"]
 zet:mg "_law_numbers" = some (.ref zgj.a)
 zeA:DF K "_law_straight" "_law_straight" zi9 ["_law_ties", "_law_start", "_law_steps", "_law_end"]
 zd6:mg "_law_straight" = some (.ref zeA.a)
 zgk:DF K "_law_closed" "_law_closed" zhU ["_law_points", "_law_ties", "_law_some", "_law_skipped"]
 zfY:mg "_law_closed" = some (.ref zgk.a)
 zeB:DF K "_law_due" "_law_due" zja ["_law_points", "_law_ties", "_law_one", "_law_other", "_law_found"]
 zcw:mg "_law_due" = some (.ref zeB.a)
 zgl:DF K "_law_right" "_law_right" zjb ["_law_web_here", "_law_points", "_law_ties", "_law_one", "_law_other"]
 zdg:mg "_law_right" = some (.ref zgl.a)
 zgm:DF K "law" "law" zgZ ["_law_script"]
 zhL:mg "law" = some (.ref zgm.a)
 zb5:CF K mg "Web"
 zoc:Mk K zb5.c zg0.a
 zff:zdR K zb5.c "ties" zdr.a
 zjc:zbB K zb5.c "points"
 zjd:zbB K zb5.c "turn"
 zje:zbB K zb5.c "triples"
 zfg:CF K mg "Answer"
 zeC:CF K mg "Heights"
 zjf:zbB K zeC.c "heights"
 zeD:CF K mg "Ring"
 zjg:zbB K zeD.c "steps"
 zd7:CF K mg "Fewest"
 zjh:zbB K zd7.c "kept"
 zji:zbB K zd7.c "parts"
 zeE:CF K mg "Camps"
 zjj:zbB K zeE.c "camps"
 zd8:CF K mg "Quarrel"
 zjk:zbB K zd8.c "tie"
 zjl:zbB K zd8.c "steps"
 zcy:CF K mg "Way"
 zod:Mk K zcy.c zg1.a
 zhV:zdR K zcy.c "shows" zex.a
 zjm:zbB K zcy.c "steps"
 zcz:CF K mg "Apart"
 zoe:Mk K zcz.c zg2.a
 zhW:zdR K zcz.c "shows" zey.a
 zjn:zbB K zcz.c "points"
 zeF:CF K mg "Around"
 zjo:zbB K zeF.c "steps"
 zeG:CF K mg "Held"
 zjp:zbB K zeG.c "points"
 n_list:mg "list" = none
 n_range:mg "range" = none
 n_all:mg "all" = none
 n_dict:mg "dict" = none
 n_isinstance:mg "isinstance" = none
 n_int:mg "int" = none
 n_len:mg "len" = none
 n_sorted:mg "sorted" = none
 n_sum:mg "sum" = none
 n_any:mg "any" = none
 n_bool:mg "bool" = none
 n_tuple:mg "tuple" = none
 n_set:mg "set" = none
 n_zip:mg "zip" = none
 n_abs:mg "abs" = none
 v_MOST:VF mg "MOST" (.int (1000000))
 v_FORTH:VF mg "FORTH" (.int (1))
 v_BACK:VF mg "BACK" (.int (-1))
 is:zgo K zK [zb5.c,zfg.c,zeC.c,zeD.c,zd7.c,zeE.c,zd8.c,zcy.c,zcz.c,zeF.c,zeG.c] 0 [zb5.c,zfg.c,zeC.c,zeD.c,zd7.c,zeE.c,zd8.c,zcy.c,zcz.c,zeF.c,zeG.c]
section
variable {K:PySem.W.Frag}{mg:Str->Option Value}
noncomputable def TX.G (T:TX K mg):GP:=⟨K,[T.zb5.c,T.zfg.c,T.zeC.c,T.zeD.c,T.zd7.c,T.zeE.c,T.zd8.c,T.zcy.c,T.zcz.c,T.zeF.c,T.zeG.c],anL⟩
theorem TX.zeH (T:TX K mg):T.G.cm[0]?=some T.zb5.c:=rfl
theorem TX.zof (T:TX K mg):T.G.cm[1]?=some T.zfg.c:=rfl
theorem TX.zog (T:TX K mg):T.G.cm[2]?=some T.zeC.c:=rfl
theorem TX.zoh (T:TX K mg):T.G.cm[3]?=some T.zeD.c:=rfl
theorem TX.zoi (T:TX K mg):T.G.cm[4]?=some T.zd7.c:=rfl
theorem TX.zoj (T:TX K mg):T.G.cm[5]?=some T.zeE.c:=rfl
theorem TX.zok (T:TX K mg):T.G.cm[6]?=some T.zd8.c:=rfl
theorem TX.zfh (T:TX K mg):T.G.cm[7]?=some T.zcy.c:=rfl
theorem TX.zfi (T:TX K mg):T.G.cm[8]?=some T.zcz.c:=rfl
theorem TX.zol (T:TX K mg):T.G.cm[9]?=some T.zeF.c:=rfl
theorem TX.zom (T:TX K mg):T.G.cm[10]?=some T.zeG.c:=rfl
theorem TX.an_points (T:TX K mg):T.G.an[0]?=some ("points":Str):=rfl
theorem TX.an_turn (T:TX K mg):T.G.an[1]?=some ("turn":Str):=rfl
theorem TX.an_triples (T:TX K mg):T.G.an[2]?=some ("triples":Str):=rfl
theorem TX.an_heights (T:TX K mg):T.G.an[3]?=some ("heights":Str):=rfl
theorem TX.an_steps (T:TX K mg):T.G.an[4]?=some ("steps":Str):=rfl
theorem TX.an_kept (T:TX K mg):T.G.an[5]?=some ("kept":Str):=rfl
theorem TX.an_parts (T:TX K mg):T.G.an[6]?=some ("parts":Str):=rfl
theorem TX.an_camps (T:TX K mg):T.G.an[7]?=some ("camps":Str):=rfl
theorem TX.an_tie (T:TX K mg):T.G.an[8]?=some ("tie":Str):=rfl
theorem TX.ok (T:TX K mg):T.G.Ok zK zek where
 cls:=fun c C h=>match c,h with
   | 0,h=>by cases h;exact ⟨T.zb5.cl,T.zb5.ic⟩
   | 1,h=>by cases h;exact ⟨T.zfg.cl,T.zfg.ic⟩
   | 2,h=>by cases h;exact ⟨T.zeC.cl,T.zeC.ic⟩
   | 3,h=>by cases h;exact ⟨T.zeD.cl,T.zeD.ic⟩
   | 4,h=>by cases h;exact ⟨T.zd7.cl,T.zd7.ic⟩
   | 5,h=>by cases h;exact ⟨T.zeE.cl,T.zeE.ic⟩
   | 6,h=>by cases h;exact ⟨T.zd8.cl,T.zd8.ic⟩
   | 7,h=>by cases h;exact ⟨T.zcy.cl,T.zcy.ic⟩
   | 8,h=>by cases h;exact ⟨T.zcz.cl,T.zcz.ic⟩
   | 9,h=>by cases h;exact ⟨T.zeF.cl,T.zeF.ic⟩
   | 10,h=>by cases h;exact ⟨T.zeG.cl,T.zeG.ic⟩
   | _+11,h=>by cases h
 noat:=fun c C k f h1 h2 h3=>by
   have h2:=List.contains_iff_mem.mp h2
   simp only [List.mem_cons,Prod.mk.injEq,List.not_mem_nil,or_false]at h2
   rcases h2 with ⟨rfl,rfl⟩ | ⟨rfl,rfl⟩ | ⟨rfl,rfl⟩ | ⟨rfl,rfl⟩ | ⟨rfl,rfl⟩ | ⟨rfl,rfl⟩ | ⟨rfl,rfl⟩ | ⟨rfl,rfl⟩ | ⟨rfl,rfl⟩ | ⟨rfl,rfl⟩ | ⟨rfl,rfl⟩ | ⟨rfl,rfl⟩ | ⟨rfl,rfl⟩ | ⟨rfl,rfl⟩
   . cases h1;cases h3;exact T.zjc
   . cases h1;cases h3;exact T.zjd
   . cases h1;cases h3;exact T.zje
   . cases h1;cases h3;exact T.zjf
   . cases h1;cases h3;exact T.zjg
   . cases h1;cases h3;exact T.zjh
   . cases h1;cases h3;exact T.zji
   . cases h1;cases h3;exact T.zjj
   . cases h1;cases h3;exact T.zjk
   . cases h1;cases h3;exact T.zjl
   . cases h1;cases h3;exact T.zjm
   . cases h1;cases h3;exact T.zjn
   . cases h1;cases h3;exact T.zjo
   . cases h1;cases h3;exact T.zjp
 nd:=zrp
 isa:=fun c c' C C' h1 h2=>by have:=T.is.get h1 h2;rwa [Nat.zero_add]at this
end
end My
end
section
open PySem L2 MI
namespace My
section
variable {P:Program}{w:World}{K:PySem.W.Frag}{mg:Str->Option Value}{base:Heap}
theorem zkT (T:TX K mg):zF P w K mg base CX0 1 T.zeu.a T.zeu.d ["value"] (spM T.G 1 zeq) :=
 zX (k:=0) T.zeu.F znR rfl rfl ϑ fun cdv A outer s H E hr =>
     (zq (zE (zcJ (zc3 ϱ T.n_isinstance ϱ T.n_int (zc 0) zf) (zdd (ziD (zc3 ϱ T.n_isinstance ϱ T.n_bool (zc 0) zf))))))
theorem zgn (T:TX K mg):zF P w K mg base CX0 2 T.zcx.a T.zcx.d ["value", "least", "most"] (spM T.G 3 zcq) :=
 zX (k:=1) T.zcx.F znS rfl rfl ϑ fun cdv A outer s H E hr =>
     (zq (zE (zcJ (zx (zkT T) (hr.mono ϑ) ϱ T.zeq T.zeu.F.kp T.zeu.b (zd (zc 0) zk zf)) (zdd (zlQ (zih hr) (zih hr) (zc 1) (zc 0) (zc 2))))))
theorem zfj (T:TX K mg):zF P w K mg base CX0 3 T.zcj.a T.zcj.d ["points", "value"] (spM T.G 2 zch) :=
 zX (k:=2) T.zcj.F znT rfl rfl ϑ fun cdv A outer s H E hr =>
     (zq (zE (zx (zgn T) (hr.mono ϑ) ϱ T.zcq T.zcx.F.kp T.zcx.b (zd (zc 1) (zd zg (zd (zdv (zc 0) zg) zk zcU) zw) zf))))
theorem zon (T:TX K mg):zF P w K mg base CX0 4 T.zf3.a T.zf3.d ["points", "value"] (spM T.G 2 zfM) :=
 zX (k:=3) T.zf3.F znU rfl rfl ϑ fun cdv A outer s H E hr =>
     (zn (z7 (t_w (zck (zbw (zba (zc3 ϱ T.n_isinstance ϱ T.n_tuple (zc 1) zf) (fun _=>rfl))) (zc0 (zbi (zdi hr) (zdb ϱ T.n_len (zc 1) zf) zg (zW _))))) (zq (zE zbX)) z8)
     (zn (z7 (t_w (zck (zbw (zba (zx (zfj T) (hr.mono ϑ) ϱ T.zch T.zcj.F.kp T.zcj.b (zd (zc 0) (zd (zB hr (zc 1) zg (fun _ _=>rfl)) zk zcb) zf)) (fun _=>rfl))) (zc0 (zbw (zba (zx (zfj T) (hr.mono ϑ) ϱ T.zch T.zcj.F.kp T.zcj.b (zd (zc 0) (zd (zB hr (zc 1) zg (fun _ _=>rfl)) zk zcb) zf)) (fun _=>rfl)))))) (zq (zE zbX)) z8)
     (zq (zE (zcJ (zbM (zdi hr) (zB hr (zc 1) zg (fun _ _=>rfl)) (zB hr (zc 1) zg (fun _ _=>rfl)) (zW _)) (zdd (zx (zgn T) (hr.mono ϑ) ϱ T.zcq T.zcx.F.kp T.zcx.b (zd (zB hr (zc 1) zg (fun _ _=>rfl)) (zd (zdz (zei ϱ T.v_MOST.m T.v_MOST.r)) (zd (zei ϱ T.v_MOST.m T.v_MOST.r) zk zf) ziO) zcb))))))))
theorem zoo (T:TX K mg):zF P w K mg base CX0 5 T.zf4.a T.zf4.d ["points", "value"] (spM T.G 2 ze5) :=
 zX (k:=4) T.zf4.F znV rfl rfl ϑ fun cdv A outer s H E hr =>
     (zn (z7 (zbw (zba (zx (zon T) (hr.mono ϑ) ϱ T.zfM T.zf3.F.kp T.zf3.b (zd (zc 0) (zd (zc 1) zk zf) zf)) (fun _=>rfl))) (zq zgu) z8)
     (zq (zE (zbq (zd (zB hr (zc 1) zg (fun _ _=>rfl)) (zd (zB hr (zc 1) zg (fun _ _=>rfl)) (zd (zB hr (zc 1) zg (fun _ _=>rfl)) zk zcb) zcb) zcb)))))
theorem zop (T:TX K mg):zF P w K mg base CX0 6 T.zg0.a T.zg0.d ["self", "points", "ties", "turn"] (spM T.G 4 zgJ) :=
 zX (k:=5) T.zg0.F znW rfl rfl ϑ fun cdv A outer s H E hr =>
     (zn (z7 (zbw (zba (zx (zgn T) (hr.mono ϑ) ϱ T.zcq T.zcx.F.kp T.zcx.b (zd (zc 1) (zd zg (zd (zei ϱ T.v_MOST.m T.v_MOST.r) zk zf) zw) zf)) (fun _=>rfl))) (zq zgu) z8)
     (zn (z7 (zbw (zba (zx (zgn T) (hr.mono ϑ) ϱ T.zcq T.zcx.F.kp T.zcx.b (zd (zc 3) (zd zg (zd (zei ϱ T.v_MOST.m T.v_MOST.r) zk zf) zw) zf)) (fun _=>rfl))) (zq zgu) z8)
     (zn (z7 (zbw (zba (zc3 ϱ T.n_isinstance ϱ T.n_list (zc 2) zf) (fun _=>rfl))) (zq zgu) z8)
     (zn (zhz T.ok T.an_points (zc 0) (zc 1) rfl)
     (zn (zhz T.ok T.an_turn (zc 0) (zc 3) rfl)
     (zq (zhz T.ok T.an_triples (zc 0) (zbo (zdB (N:=["tie", "points"]) (js:=[none,some 1]) rfl (zbI.of (osc:=zA zhR) (N0:=["self", "points", "ties", "turn"]) rfl rfl ϰ) (zcN (zc 2)) (fun _ _ _ _=>(zcn (i:=0) (show (["tie", "points"]:List Str).Nodup by decide +kernel) rfl (Or.inl rfl))) (fun _ _ _ _=>zdj) (fun _ _ _ _=>(zx (zoo T) (hr.mono ϑ) ϱ T.ze5 T.zf4.F.kp T.zf4.b (zd (zc 1) (zd (zc 0) zk zf) zf))))) rfl)))))))
theorem zfk (T:TX K mg):zF P w K mg base CX0 1 T.zdr.a T.zdr.d ["self"] (spM T.G 1 zhI) :=
 zX (k:=0) T.zdr.F znX rfl rfl ϑ fun cdv A outer s H E hr =>
     (zq (zE (zbo (zjF ϱ T.n_list (zfr (zbS T.ok T.an_triples (zc 0) rfl)) zco))))
theorem zoq (T:TX K mg):zF P w K mg base CX0 1 T.zf5.a T.zf5.d ["tie"] (spM T.G 1 zfN) :=
 zX (k:=0) T.zf5.F znY rfl rfl ϑ fun cdv A outer s H E hr =>
     (zq (zE (zbq (zd (zB hr (zc 0) zg (fun _ _=>rfl)) (zd (zB hr (zc 0) zg (fun _ _=>rfl)) (zd (zdz (zB hr (zc 0) zg (fun _ _=>rfl))) zk ziO) zcb) zcb))))
theorem zor (T:TX K mg):zF P w K mg base CX0 3 T.zf6.a T.zf6.d ["ties", "value"] (spM T.G 2 zfO) :=
 zX (k:=2) T.zf6.F znZ rfl rfl ϑ fun cdv A outer s H E hr =>
     (zq (zE (zx (zgn T) (hr.mono ϑ) ϱ T.zcq T.zcx.F.kp T.zcx.b (zd (zc 1) (zd zg (zd (zdv (zdb ϱ T.n_len (zc 0) zf) zg) zk zcU) zw) zf))))
theorem zos (T:TX K mg):zF P w K mg base CX0 4 T.zf7.a T.zf7.d ["ties", "value"] (spM T.G 2 ze6) :=
 zX (k:=3) T.zf7.F zn0 rfl rfl ϑ fun cdv A outer s H E hr =>
     (zn (z7 (t_w (zck (zbw (zba (zc3 ϱ T.n_isinstance ϱ T.n_tuple (zc 1) zf) (fun _=>rfl))) (zc0 (zbi (zdi hr) (zdb ϱ T.n_len (zc 1) zf) zg (zW _))))) (zq (zE zbX)) z8)
     (zq (zE (zcJ (zx (zor T) (hr.mono ϑ) ϱ T.zfO T.zf6.F.kp T.zf6.b (zd (zc 0) (zd (zB hr (zc 1) zg (fun _ _=>rfl)) zk zcb) zf)) (zcJ (zx (zkT T) (hr.mono ϑ) ϱ T.zeq T.zeu.F.kp T.zeu.b (zd (zB hr (zc 1) zg (fun _ _=>rfl)) zk zcb)) (zdd (zbM (zeU hr) (zB hr (zc 1) zg (fun _ _=>rfl)) (zbq (zd (zei ϱ T.v_FORTH.m T.v_FORTH.r) (zd (zei ϱ T.v_BACK.m T.v_BACK.r) zk zf) zf)) (by with_unfolding_all rfl))))))))
theorem zjq (T:TX K mg):zF P w K mg base CX0 2 T.zdL.a T.zdL.d ["ties", "step"] (spM T.G 2 zcR) :=
 zX (k:=1) T.zdL.F zkK rfl rfl ϑ fun cdv A outer s H E hr =>
     (zn (zN (i:=2) zkK.nd rfl (Or.inl rfl) (zB hr (zc 0) (zB hr (zc 1) zg (fun _ _=>rfl)) (fun _ _=>rfl)))
     (zq (zE (zhk (zbi (zcP hr) (zB hr (zc 1) zg (fun _ _=>rfl)) (zei ϱ T.v_FORTH.m T.v_FORTH.r) (zW _)) (zc 2) (zx (zoq T) (hr.mono ϑ) ϱ T.zfN T.zf5.F.kp T.zf5.b (zd (zc 2) zk zf))))))
theorem zkU (T:TX K mg):zF P w K mg base CX0 5 T.zev.a T.zev.d ["web", "start", "steps"] (spM T.G 3 zer) :=
 zX (k:=4) T.zev.F zf2 rfl rfl ϑ fun cdv A outer s H E hr =>
     (zn (z7 (t_w (zck (zbw (zba (zx (zfj T) (hr.mono ϑ) ϱ T.zch T.zcj.F.kp T.zcj.b (zd (zbS T.ok T.an_points (zc 0) rfl) (zd (zc 1) zk zf) zco)) (fun _=>rfl))) (zc0 (zbw (zba (zc3 ϱ T.n_isinstance ϱ T.n_list (zc 2) zf) (fun _=>rfl)))))) (zq (zE zd9)) z8)
     (zn (zN (i:=3) zf2.nd rfl (Or.inl rfl) (zdt (c0:=0) (zfx T.zeH T.zb5.cl T.zff (zfk T) (hr.mono ϑ) T.zdr.b (zc 0) zdE (zcO zfo))))
     (zn (zN (i:=4) zf2.nd rfl (Or.inl rfl) (zbo (zc1 zk)))
     (zn (zN (i:=5) zf2.nd rfl (Or.inl rfl) (zc 1))
     (zn (zeW PassesOwn.never (zcN (zc 2)) (zcn (i:=6) zf2.nd rfl (Or.inl rfl))
     (zn (z7 (zbw (zba (zx (zos T) (hr.mono ϑ) ϱ T.ze6 T.zf7.F.kp T.zf7.b (zd (zc 3) (zd (zc 6) zk zf) zf)) (fun _=>rfl))) (zq (zE zd9)) z8)
     (zn (zcI (zd1 (zc 4) (zx (zjq T) (hr.mono ϑ) ϱ T.zcR T.zdL.F.kp T.zdL.b (zd (zc 3) (zd (zc 6) zk zf) zf)) zbb))
     (zn (z7 (zbi (zdi hr) (zB hr (zB hr (zc 4) (zdz zg) (fun _ _=>rfl)) zg (fun _ _=>rfl)) (zc 5) (zW _)) (zq (zE zd9)) z8)
     (zq (zN (i:=5) zf2.nd rfl (Or.inl rfl) (zB hr (zB hr (zc 4) (zdz zg) (fun _ _=>rfl)) zg (fun _ _=>rfl))))))))
     (zq (zE (zc 4))))))))
theorem zkV (T:TX K mg):zF P w K mg base CX0 6 T.zew.a T.zew.d ["web", "start", "steps"] (spM T.G 3 zes) :=
 zX (k:=5) T.zew.F zkL rfl rfl ϑ fun cdv A outer s H E hr =>
     (zn (zN (i:=3) zkL.nd rfl (Or.inl rfl) (zx (zkU T) (hr.mono ϑ) ϱ T.zer T.zev.F.kp T.zev.b (zd (zc 0) (zd (zc 1) (zd (zc 2) zk zf) zf) zf)))
     (zn (z7 (zbi (zj6 hr) (zc 3) zd9 (zW _)) (zq (zE zd9)) z8)
     (zq (zE (zbo (zkJ (zbo (zc1 (zd (zc 1) zk zf))) (zd2 (zdB (N:=["made"]) (js:=[none]) rfl (zbI.of (osc:=zA ze9) (N0:=["web", "start", "steps", "gone"]) rfl rfl ϰ) (zcN (zc 3)) (fun _ _ _ _=>(zcn (i:=0) (show (["made"]:List Str).Nodup by decide +kernel) rfl (Or.inl rfl))) (fun _ _ _ _=>zdj) (fun _ _ _ _=>(zB hr (zc 0) zg (fun _ _=>rfl)))))))))))
theorem zot (T:TX K mg):zF P w K mg base CX0 7 T.zf8.a T.zf8.d ["web", "start", "steps"] (spM T.G 3 zfP) :=
 zX (k:=6) T.zf8.F zkM rfl rfl ϑ fun cdv A outer s H E hr =>
     (zn (zN (i:=3) zkM.nd rfl (Or.inl rfl) (zx (zkV T) (hr.mono ϑ) ϱ T.zes T.zew.F.kp T.zew.b (zd (zc 0) (zd (zc 1) (zd (zc 2) zk zf) zf) zf)))
     (zq (zE (zcJ (zbM (zkw hr) (zc 3) zd9 (zW _)) (zdd (zbM (zcP hr) (zln ϱ T.n_len ϱ T.n_set (zfr (zc 3)) zf) (zdb ϱ T.n_len (zc 3) zf) (zW _)))))))
theorem zou (T:TX K mg):zF P w K mg base CX0 8 T.zf9.a T.zf9.d ["web", "one", "other", "steps"] (spM T.G 4 zfQ) :=
 zX (k:=7) T.zf9.F zn1 rfl rfl ϑ fun cdv A outer s H E hr =>
     (zq (zE (zcJ (zx (zot T) (hr.mono ϑ) ϱ T.zfP T.zf8.F.kp T.zf8.b (zd (zc 0) (zd (zc 1) (zd (zc 3) zk zf) zf) zf)) (zdd (zbM (zcP hr) (zB hr (zx (zkV T) (hr.mono ϑ) ϱ T.zes T.zew.F.kp T.zew.b (zd (zc 0) (zd (zc 1) (zd (zc 3) zk zf) zf) zf)) (zdz zg) (fun _ _=>rfl)) (zc 2) (zW _))))))
theorem zov (T:TX K mg):zF P w K mg base CX0 2 T.zga.a T.zga.d ["web"] (spM T.G 1 zfR) :=
 zX (k:=1) T.zga.F zn2 rfl rfl ϑ fun cdv A outer s H E hr =>
     (zq (zE (zbo (zri ϱ T.n_list ϱ T.n_range (zdb ϱ T.n_len (zdt (c0:=0) (zfx T.zeH T.zb5.cl T.zff (zfk T) (hr.mono ϑ) T.zdr.b (zc 0) zdE (zcO zfo))) zbb) zbb))))
theorem zow (T:TX K mg):zF P w K mg base CX0 2 T.zgb.a T.zgb.d ["web", "chosen"] (spM T.G 2 zfS) :=
 zX (k:=1) T.zgb.F zhS rfl rfl ϑ fun cdv A outer s H E hr =>
     (zn (zN (i:=2) zhS.nd rfl (Or.inl rfl) (zdt (c0:=0) (zfx T.zeH T.zb5.cl T.zff (zfk T) (hr.mono ϑ) T.zdr.b (zc 0) zdE (zcO zfo))))
     (zn (zwM (j:=3) (N:=["point"]) (js:=[none]) rfl zhS.nd rfl rfl (zbI.of (osc:=zA zf1) (N0:=["web", "chosen", "ties", "found", "place"]) rfl rfl ϰ) (ziq ϱ T.n_range (zbS T.ok T.an_points (zc 0) rfl) zco) (fun _ _ _ _=>(zcn (i:=0) (show (["point"]:List Str).Nodup by decide +kernel) rfl (Or.inl rfl))) (fun _ _ _ _=>zdj) (fun _ _ _ _=>(zbo (zc1 zk))))
     (zn (zeW PassesOwn.never (zcN (zc 1)) (zcn (i:=4) zhS.nd rfl (Or.inl rfl))
     (zn (zcI (zd1 (zB hr (zc 3) (zB hr (zB hr (zc 2) (zc 4) (fun _ _=>rfl)) zg (fun _ _=>rfl)) (fun _ _=>rfl)) (zbq (zd (zc 4) (zd (zei ϱ T.v_FORTH.m T.v_FORTH.r) zk zf) zf)) zeT))
     (zq (zcI (zd1 (zB hr (zc 3) (zB hr (zB hr (zc 2) (zc 4) (fun _ _=>rfl)) zg (fun _ _=>rfl)) (fun _ _=>rfl)) (zbq (zd (zc 4) (zd (zei ϱ T.v_BACK.m T.v_BACK.r) zk zf) zf)) zeT)))))
     (zq (zE (zc 3))))))
theorem zox (T:TX K mg):zF P w K mg base CX0 3 T.zgc.a T.zgc.d ["ties", "onward", "start", "arrived"] (spM T.G 4 zfT) :=
 zX (k:=2) T.zgc.F zfd rfl rfl ϑ fun cdv A outer s H E hr =>
     (zn (zmL hr (zc 3) (zc 2) zd9)
     (zn (zN (i:=4) zfd.nd rfl (Or.inl rfl) (zbo (zc1 (zd (zc 2) zk zf))))
     (zn (zN (i:=5) zfd.nd rfl (Or.inl rfl) zg)
     (zq (zlz PassesOwn.never (zbi (zfI hr) (zc 5) (zdb ϱ T.n_len (zc 4) zf) (zW _)) (zn (zN (i:=6) zfd.nd rfl (Or.inl rfl) (zB hr (zc 4) (zc 5) (fun _ _=>rfl)))
     (zn (zeW PassesOwn.never (zcN (zB hr (zc 1) (zc 6) (fun _ _=>rfl))) (zcn (i:=7) zfd.nd rfl (Or.inl rfl))
     (zn (zN (i:=8) zfd.nd rfl (Or.inl rfl) (zB hr (zx (zjq T) (hr.mono ϑ) ϱ T.zcR T.zdL.F.kp T.zdL.b (zd (zc 0) (zd (zc 7) zk zf) zf)) zg (fun _ _=>rfl)))
     (zq (z7 (zbi (ziV hr) (zc 8) (zc 3) (by with_unfolding_all rfl)) (zn (zmL hr (zc 3) (zc 8) (zc 7))
     (zq (zcI (zd1 (zc 4) (zc 8) zf)))) z8))))
     (zq (zrF (i:=5) zfd.nd rfl (Or.inl rfl) zg)))))))))
theorem zoy (T:TX K mg):zF P w K mg base CX0 4 T.zgd.a T.zgd.d ["web", "chosen", "start"] (spM T.G 3 zfU) :=
 zX (k:=3) T.zgd.F zkN rfl rfl ϑ fun cdv A outer s H E hr =>
     (zn (zN (i:=3) zkN.nd rfl (Or.inl rfl) ztA)
     (zn (zcI (zx (zox T) (hr.mono ϑ) ϱ T.zfT T.zgc.F.kp T.zgc.b (zd (zdt (c0:=0) (zfx T.zeH T.zb5.cl T.zff (zfk T) (hr.mono ϑ) T.zdr.b (zc 0) zdE (zcO zfo))) (zd (zx (zow T) (hr.mono ϑ) ϱ T.zfS T.zgb.F.kp T.zgb.b (zd (zc 0) (zd (zc 1) zk zf) zf)) (zd (zc 2) (zd (zc 3) zk zf) zf) zbb) zbb)))
     (zq (zE (zc 3)))))
theorem zoz (T:TX K mg):zF P w K mg base CX0 3 T.zge.a T.zge.d ["web", "arrived", "goal"] (spM T.G 3 zfV) :=
 zX (k:=2) T.zge.F zgX rfl rfl ϑ fun cdv A outer s H E hr =>
     (zn (zN (i:=3) zgX.nd rfl (Or.inl rfl) (zdt (c0:=0) (zfx T.zeH T.zb5.cl T.zff (zfk T) (hr.mono ϑ) T.zdr.b (zc 0) zdE (zcO zfo))))
     (zn (zN (i:=4) zgX.nd rfl (Or.inl rfl) (zbo (zc1 zk)))
     (zn (zN (i:=5) zgX.nd rfl (Or.inl rfl) (zc 2))
     (zn (zlz PassesOwn.never (zbi (zkw hr) (zB hr (zc 1) (zc 5) (fun _ _=>rfl)) zd9 (zW _)) (zn (zcI (zd1 (zc 4) (zB hr (zc 1) (zc 5) (fun _ _=>rfl)) zcb))
     (zq (zN (i:=5) zgX.nd rfl (Or.inl rfl) (zB hr (zx (zjq T) (hr.mono ϑ) ϱ T.zcR T.zdL.F.kp T.zdL.b (zd (zc 3) (zd (zB hr (zc 1) (zc 5) (fun _ _=>rfl)) zk zcb) zf)) zg (fun _ _=>rfl))))))
     (zn (zcI (zuu (zc 4)))
     (zq (zE (zc 4))))))))
theorem zoA (T:TX K mg):zF P w K mg base CX0 3 T.zgf.a T.zgf.d ["values", "count"] (spM T.G 2 zfW) :=
 zX (k:=2) T.zgf.F zn3 rfl rfl ϑ fun cdv A outer s H E hr =>
     (zn (z7 (t_w (zck (zbw (zba (zc3 ϱ T.n_isinstance ϱ T.n_list (zc 0) zf) (fun _=>rfl))) (zc0 (zbw (zba (zke ϱ T.n_all (zd2 (zdB (N:=["value", "count"]) (js:=[none,some 1]) rfl (zbI.of (osc:=zA zfa) (N0:=["values", "count"]) rfl rfl ϰ) (zcN (zc 0)) (fun _ _ _ _=>(zcn (i:=0) (show (["value", "count"]:List Str).Nodup by decide +kernel) rfl (Or.inl rfl))) (fun _ _ _ _=>zdj) (fun _ _ _ _=>(zx (zgn T) (hr.mono ϑ) ϱ T.zcq T.zcx.F.kp T.zcx.b (zd (zc 0) (zd zg (zd (zdv (zc 1) zg) zk zcU) zw) zf))))) zfD) (fun _=>rfl)))))) (zq (zE zbX)) z8)
     (zq (zE (zke ϱ T.n_all (zd2 (zdB (N:=["one", "other"]) (js:=[none,none]) rfl (zbI.of (osc:=zA zfa) (N0:=["values", "count"]) rfl rfl ϰ) (zwF ϱ T.n_zip (zc 0) (zbo (zkI (zc 0) (zhA zg) zhb)) zf zcb) (fun _ _ _ _=>(zhH rfl (zdD (i:=0) (show (["one", "other"]:List Str).Nodup by decide +kernel) rfl (Or.inl rfl) (zdD (i:=1) (show (["one", "other"]:List Str).Nodup by decide +kernel) rfl (Or.inl rfl) zhc)))) (fun _ _ _ _=>zdj) (fun _ _ _ _=>(zbM (zfI hr) (zc 0) (zc 1) (zW _))))) zfD))))
theorem zoB (T:TX K mg):zF P w K mg base CX0 1 T.zgg.a T.zgg.d ["points", "ties", "one", "other"] (spM T.G 4 zfX) :=
 zX (k:=0) T.zgg.F zkO rfl rfl ϑ fun cdv A outer s H E hr =>
     (zn (zN (i:=4) zkO.nd rfl (Or.inr rfl) (zq0 ϱ T.n_dict (zd2 (zdB (N:=["point"]) (js:=[none]) rfl (zbI.of (osc:=zA zfb) (N0:=["points", "ties", "one", "other", "among"]) rfl rfl ϰ) (zcN (zc 0)) (fun _ _ _ _=>(zcn (i:=0) (show (["point"]:List Str).Nodup by decide +kernel) rfl (Or.inl rfl))) (fun _ _ _ _=>zdj) (fun _ _ _ _=>(zbq (zd (zc 0) (zd zbX zk zw) zf))))) zfD))
     (zn (z7 (t_w (zck (zbi (ziV hr) (zc 2) (zc 4) (by with_unfolding_all rfl)) (zc0 (zbi (zeU hr) (zc 3) (zc 4) (by with_unfolding_all rfl))))) (zq (zE zbX)) z8)
     (zq (zE (zke ϱ T.n_all (zd2 (zdB (N:=["tie", "among"]) (js:=[none,some 4]) rfl (zbI.of (osc:=zA zfb) (N0:=["points", "ties", "one", "other", "among"]) rfl rfl ϰ) (zcN (zc 1)) (fun _ _ _ _=>(zcn (i:=0) (show (["tie", "among"]:List Str).Nodup by decide +kernel) rfl (Or.inl rfl))) (fun _ _ _ _=>zdj) (fun _ _ _ _=>(zbM (zcP hr) (zbM (zeU hr) (zB hr (zc 0) zg (fun _ _=>rfl)) (zc 1) (by with_unfolding_all rfl)) (zbM (zeU hr) (zB hr (zc 0) zg (fun _ _=>rfl)) (zc 1) (by with_unfolding_all rfl)) (zW _))))) zfD)))))
theorem zoC (T:TX K mg):zF P w K mg base CX0 1 T.zg1.a T.zg1.d ["self", "steps"] (spM T.G 2 zhJ) :=
 zX (k:=0) T.zg1.F zn4 rfl rfl ϑ fun cdv A outer s H E hr =>
     (zq (zhz T.ok T.an_steps (zc 0) (zbo (zjF ϱ T.n_list (zfr (zc 1)) zf)) rfl))
theorem zhX (T:TX K mg):zF P w K mg base CX0 9 T.zex.a T.zex.d ["self", "web", "one", "other"] (spM T.G 4 zgK) :=
 zX (k:=8) T.zex.F zn5 rfl rfl ϑ fun cdv A outer s H E hr =>
     (zq (zE (zcJ (zx (zfj T) (hr.mono ϑ) ϱ T.zch T.zcj.F.kp T.zcj.b (zd (zbS T.ok T.an_points (zc 1) rfl) (zd (zc 3) zk zf) zco)) (zdd (zx (zou T) (hr.mono ϑ) ϱ T.zfQ T.zf9.F.kp T.zf9.b (zd (zc 1) (zd (zc 2) (zd (zc 3) (zd (zbS T.ok T.an_steps (zc 0) rfl) zk zco) zf) zf) zf))))))
theorem zoD (T:TX K mg):zF P w K mg base CX0 1 T.zg2.a T.zg2.d ["self", "points"] (spM T.G 2 zhK) :=
 zX (k:=0) T.zg2.F zn6 rfl rfl ϑ fun cdv A outer s H E hr =>
     (zq (zhz T.ok T.an_points (zc 0) (zbo (zjF ϱ T.n_list (zfr (zc 1)) zf)) rfl))
theorem zhY (T:TX K mg):zF P w K mg base CX0 4 T.zey.a T.zey.d ["self", "web", "one", "other"] (spM T.G 4 zgL) :=
 zX (k:=3) T.zey.F zn7 rfl rfl ϑ fun cdv A outer s H E hr =>
     (zn (z7 (t_w (zck (zbw (zba (zx (zfj T) (hr.mono ϑ) ϱ T.zch T.zcj.F.kp T.zcj.b (zd (zbS T.ok T.an_points (zc 1) rfl) (zd (zc 2) zk zf) zco)) (fun _=>rfl))) (zc0 (zbw (zba (zx (zfj T) (hr.mono ϑ) ϱ T.zch T.zcj.F.kp T.zcj.b (zd (zbS T.ok T.an_points (zc 1) rfl) (zd (zc 3) zk zf) zco)) (fun _=>rfl)))))) (zq (zE zbX)) z8)
     (zq (zE (zcJ (zx (zoA T) (hr.mono ϑ) ϱ T.zfW T.zgf.F.kp T.zgf.b (zd (zbS T.ok T.an_points (zc 0) rfl) (zd (zbS T.ok T.an_points (zc 1) rfl) zk zco) zco)) (zdd (zx (zoB T) (hr.mono ϑ) ϱ T.zfX T.zgg.F.kp T.zgg.b (zd (zbS T.ok T.an_points (zc 0) rfl) (zd (zdt (c0:=0) (zfx T.zeH T.zb5.cl T.zff (zfk T) (hr.mono ϑ) T.zdr.b (zc 1) zdE (zcO zfo))) (zd (zc 2) (zd (zc 3) zk zf) zf) zbb) zco)))))))
theorem zjr (T:TX K mg):zF P w K mg base CX0 4 T.zdM.a T.zdM.d ["web", "value"] (spM T.G 2 zdJ) :=
 zX (k:=3) T.zdM.F zn8 rfl rfl ϑ fun cdv A outer s H E hr =>
     (zq (z7 (zbw (zba (zx (zfj T) (hr.mono ϑ) ϱ T.zch T.zcj.F.kp T.zcj.b (zd (zbS T.ok T.an_points (zc 0) rfl) (zd (zc 1) zk zf) zco)) (fun _=>rfl))) (zq zgu) z8))
theorem zoE (T:TX K mg):zF P w K mg base CX0 5 T.zgh.a T.zgh.d ["web", "one", "other"] (spM T.G 3 zdq) :=
 zX (k:=4) T.zgh.F zkP rfl rfl ϑ fun cdv A outer s H E hr =>
     (zn (zcI (zx (zjr T) (hr.mono ϑ) ϱ T.zdJ T.zdM.F.kp T.zdM.b (zd (zc 0) (zd (zc 1) zk zf) zf)))
     (zn (zcI (zx (zjr T) (hr.mono ϑ) ϱ T.zdJ T.zdM.F.kp T.zdM.b (zd (zc 0) (zd (zc 2) zk zf) zf)))
     (zn (zN (i:=3) zkP.nd rfl (Or.inl rfl) (zx (zoy T) (hr.mono ϑ) ϱ T.zfU T.zgd.F.kp T.zgd.b (zd (zc 0) (zd (zx (zov T) (hr.mono ϑ) ϱ T.zfR T.zga.F.kp T.zga.b (zd (zc 0) zk zf)) (zd (zc 1) zk zf) zbb) zf)))
     (zn (z7 (zbi (zeU hr) (zc 2) (zc 3) (by with_unfolding_all rfl)) (zq (zE (zkH T.zfh T.zod (zoC T) (hr.mono ϑ) ϱ T.zcy.m T.zg1.b (zd (zx (zoz T) (hr.mono ϑ) ϱ T.zfV T.zge.F.kp T.zge.b (zd (zc 0) (zd (zc 3) (zd (zc 2) zk zf) zf) zf)) zk zbb)))) z8)
     (zq (zE (zkH T.zfi T.zoe (zoD T) (hr.mono ϑ) ϱ T.zcz.m T.zg2.b (zd (zbo (zvB ϱ T.n_sorted (zc 3))) zk zbb))))))))
theorem zjs (T:TX K mg):zF P w K mg base CX0 6 T.zdN.a T.zdN.d ["web", "start", "steps"] (spM T.G 3 zdf) :=
 zX (k:=5) T.zdN.F zi4 rfl rfl ϑ fun cdv A outer s H E hr =>
     (zn (zcI (zx (zjr T) (hr.mono ϑ) ϱ T.zdJ T.zdM.F.kp T.zdM.b (zd (zc 0) (zd (zc 1) zk zf) zf)))
     (zn (zN (i:=3) zi4.nd rfl (Or.inl rfl) (zx (zkU T) (hr.mono ϑ) ϱ T.zer T.zev.F.kp T.zev.b (zd (zc 0) (zd (zc 1) (zd (zc 2) zk zf) zf) zf)))
     (zn (z7 (zbi (zj6 hr) (zc 3) zd9 (zW _)) (zq zgu) z8)
     (zn (zN (i:=4) zi4.nd rfl (Or.inl rfl) (zhk (zba (zc 3) (fun _=>rfl)) (zB hr (zB hr (zc 3) (zdz zg) (fun _ _=>rfl)) zg (fun _ _=>rfl)) (zc 1)))
     (zq (zE (zbq (zd (zc 4) (zd (zq7 ϱ T.n_sum (zd2 (zdB (N:=["made"]) (js:=[none]) rfl (zbI.of (osc:=zA zfc) (N0:=["web", "start", "steps", "gone", "end"]) rfl rfl ϰ) (zcN (zc 3)) (fun _ _ _ _=>(zcn (i:=0) (show (["made"]:List Str).Nodup by decide +kernel) rfl (Or.inl rfl))) (fun _ _ _ _=>zdj) (fun _ _ _ _=>(zB hr (zc 0) zg (fun _ _=>rfl))))) zfD) zk zbb) zf))))))))
theorem zeI (T:TX K mg):zF P w K mg base CX0 1 T.zbU.a T.zbU.d ["_law_script", "_law_k"] (spM T.G 2 zbm) :=
 zX (k:=0) T.zbU.F zn9 rfl rfl ϑ fun cdv A outer s H E hr =>
     (zn (z7 (zbi (zfI hr) (zc 1) (zdb ϱ T.n_len (zc 0) zf) (zW _)) (zq (zE (zB hr (zc 0) (zc 1) (fun _ _=>rfl)))) z8)
     (zq (zE zg)))
theorem zcG (T:TX K mg):zF P w K mg base CX0 1 T.z9.a T.z9.d ["_law_cell", "_law_k", "_law_many"] (spM T.G 3 zy) :=
 zX (k:=0) T.z9.F zkQ rfl rfl ϑ fun cdv A outer s H E hr =>
     (zn (zN (i:=3) zkQ.nd rfl (Or.inl rfl) (zbq (zd zg (zd zg (zd zg (zd zg (zd zg (zd zg (zd zg (zd zg (zd zg (zd zg (zd zg (zd zg (zd zg (zd zg (zd zg (zd zg zk zw) zw) zw) zw) zw) zw) zw) zw) zw) zw) zw) zw) zw) zw) zw) zw)))
     (zq (zE (zec (zec (zcL (zgG (zc 0) zg) (zgG (zc 1) zg)) (zB hr (zc 3) (zec (zc 1) zg) (fun _ _=>rfl))) (zc 2)))))
theorem zoF (T:TX K mg):zF P w K mg base CX0 2 T.zgi.a T.zgi.d ["_law_script"] (spM T.G 1 ze7) :=
 zX (k:=1) T.zgi.F zci rfl rfl ϑ fun cdv A outer s H E hr =>
     (zn (zN (i:=1) zci.nd rfl (Or.inl rfl) (zii (zgG (zdb ϱ T.n_len (zc 0) zf) (zB hr (zbq (zd zg (zd zg (zd zg zk zw) zw) zw)) (zx (zcG T) (hr.mono ϑ) ϱ T.zy T.z9.F.kp T.z9.b (zd (zx (zeI T) (hr.mono ϑ) ϱ T.zbm T.zbU.F.kp T.zbU.b (zd (zc 0) (zd zg zk zw) zf)) (zd zg (zd zg zk zw) zw) zbb)) (fun _ _=>rfl))) zg))
     (zn (zN (i:=2) zci.nd rfl (Or.inl rfl) (zcL zg (zx (zcG T) (hr.mono ϑ) ϱ T.zy T.z9.F.kp T.z9.b (zd (zx (zeI T) (hr.mono ϑ) ϱ T.zbm T.zbU.F.kp T.zbU.b (zd (zc 0) (zd zg zk zw) zf)) (zd zg (zd (zcL zg (zc 1)) zk zcU) zw) zbb))))
     (zn (zN (i:=3) zci.nd rfl (Or.inl rfl) (zB hr (zbq (zd zg (zd zg (zd zg (zd zg (zd zg (zd zg (zd zg zk zw) zw) zw) zw) zw) zw) zw)) (zx (zcG T) (hr.mono ϑ) ϱ T.zy T.z9.F.kp T.z9.b (zd (zx (zeI T) (hr.mono ϑ) ϱ T.zbm T.zbU.F.kp T.zbU.b (zd (zc 0) (zd zg zk zw) zf)) (zd zg (zd zg zk zw) zw) zbb)) (fun _ _=>rfl)))
     (zn (zN (i:=4) zci.nd rfl (Or.inl rfl) (zB hr (zbq (zd zg (zd zg (zd zg (zd zg zk zw) zw) zw) zw)) (zx (zcG T) (hr.mono ϑ) ϱ T.zy T.z9.F.kp T.z9.b (zd (zx (zeI T) (hr.mono ϑ) ϱ T.zbm T.zbU.F.kp T.zbU.b (zd (zc 0) (zd zg zk zw) zf)) (zd zg (zd zg zk zw) zw) zbb)) (fun _ _=>rfl)))
     (zn (zN (i:=5) zci.nd rfl (Or.inl rfl) (zB hr (zbq (zd zg (zd zg (zd zg (zd zg zk zw) zw) zw) zw)) (zx (zcG T) (hr.mono ϑ) ϱ T.zy T.z9.F.kp T.z9.b (zd (zx (zeI T) (hr.mono ϑ) ϱ T.zbm T.zbU.F.kp T.zbU.b (zd (zc 0) (zd zg zk zw) zf)) (zd zg (zd zg zk zw) zw) zbb)) (fun _ _=>rfl)))
     (zn (zN (i:=6) zci.nd rfl (Or.inl rfl) (zcJ (zbM (zjT hr) (zc 2) zg (zW _)) (zdd (zbM (zcP hr) (zx (zcG T) (hr.mono ϑ) ϱ T.zy T.z9.F.kp T.z9.b (zd (zx (zeI T) (hr.mono ϑ) ϱ T.zbm T.zbU.F.kp T.zbU.b (zd (zc 0) (zd zg zk zw) zf)) (zd zg (zd zg zk zw) zw) zbb)) zg (zW _)))))
     (zn (zN (i:=7) zci.nd rfl (Or.inl rfl) (zbo (zc1 zk)))
     (zn (zeW PassesOwn.never (ziq ϱ T.n_range (zdb ϱ T.n_len (zc 0) zf) zbb) (zcn (i:=8) zci.nd rfl (Or.inl rfl))
     (zn (zN (i:=9) zci.nd rfl (Or.inl rfl) (zx (zcG T) (hr.mono ϑ) ϱ T.zy T.z9.F.kp T.z9.b (zd (zB hr (zc 0) (zc 8) (fun _ _=>rfl)) (zd (zcL (zec (zc 8) zg) zg) (zd (zc 2) zk zf) zcU) zcb)))
     (zn (zN (i:=10) zci.nd rfl (Or.inl rfl) (zec (zcL (zcL (zc 9) zg) (zx (zcG T) (hr.mono ϑ) ϱ T.zy T.z9.F.kp T.z9.b (zd (zB hr (zc 0) (zc 8) (fun _ _=>rfl)) (zd (zcL (zec (zc 8) zg) zg) (zd (zdv (zc 2) zg) zk zcU) zcU) zcb))) (zc 2)))
     (zn (z7 (zba (zc 6) (fun _=>rfl)) (zn (zN (i:=11) zci.nd rfl (Or.inl rfl) (zhk (zbi (zfI hr) (zc 9) (zii (zc 2) zg) (zW _)) zg (zii (zc 2) zg)))
     (zn (zN (i:=12) zci.nd rfl (Or.inl rfl) (zhk (zbi (zcP hr) (zc 11) zg (zW _)) (zii (zc 2) zg) (zdv (zc 2) (zc 11))))
     (zn (zN (i:=13) zci.nd rfl (Or.inl rfl) (zcL zg (zx (zcG T) (hr.mono ϑ) ϱ T.zy T.z9.F.kp T.z9.b (zd (zB hr (zc 0) (zc 8) (fun _ _=>rfl)) (zd (zcL (zec (zc 8) zg) zg) (zd (zdv (zc 12) zg) zk zcU) zcU) zcb))))
     (zq (zN (i:=10) zci.nd rfl (Or.inl rfl) (zcL (zc 11) (zec (zcL (zdv (zc 9) (zc 11)) (zc 13)) (zc 12)))))))) z8)
     (zn (zN (i:=14) zci.nd rfl (Or.inl rfl) (zdv (zx (zcG T) (hr.mono ϑ) ϱ T.zy T.z9.F.kp T.z9.b (zd (zgG (zc 10) zg) (zd zg (zd (zc 4) zk zf) zw) zcU)) (zx (zcG T) (hr.mono ϑ) ϱ T.zy T.z9.F.kp T.z9.b (zd (zgG (zc 9) zg) (zd zg (zd (zc 4) zk zf) zw) zcU))))
     (zn (z7 (t_w (ziG (zbi (zjT hr) (zc 5) zg (zW _)) (zkq (zbi (zcP hr) (zx (zcG T) (hr.mono ϑ) ϱ T.zy T.z9.F.kp T.z9.b (zd (zB hr (zc 0) (zc 8) (fun _ _=>rfl)) (zd (zcL (zec (zc 8) zg) zg) (zd (zc 5) zk zf) zcU) zcb)) zg (zW _))))) (zq (zN (i:=14) zci.nd rfl (Or.inl rfl) (zcL (zc 14) zg))) z8)
     (zn (z7 (t_w (ziG (zbi (zjT hr) (zc 3) zg (zW _)) (ziG (zbi (zcP hr) (zx (zcG T) (hr.mono ϑ) ϱ T.zy T.z9.F.kp T.z9.b (zd (zB hr (zc 0) (zc 8) (fun _ _=>rfl)) (zd zg (zd zg zk zw) zw) zcb)) zg (zW _)) (zkq (zbi (zfI hr) (zcL (zua ϱ T.n_abs (zc 14) zf) (zc 3)) zg (zW _)))))) (zq (zN (i:=14) zci.nd rfl (Or.inl rfl) (zdv (zc 14) (zc 3)))) z8)
     (zq (zcI (zd1 (zc 7) (zbq (zd (zc 9) (zd (zc 10) (zd (zc 14) zk zf) zf) zf)) zeT))))))))))
     (zq (zE (zbq (zd (zc 2) (zd (zc 7) (zd (zc 3) zk zf) zf) zf))))))))))))
theorem zkW (T:TX K mg):zF P w K mg base CX0 1 T.zez.a T.zez.d ["_law_ties", "_law_start", "_law_steps"] (spM T.G 3 zd5) :=
 zX (k:=0) T.zez.F zfe rfl rfl ϑ fun cdv A outer s H E hr =>
     (zn (zto (i:=3) (j:=4) zfe.nd rfl rfl (zd (zbo (zc1 (zd (zc 1) zk zf))) (zd zg zk zw) zhm))
     (zn (zeW PassesOwn.never (zcN (zc 2)) (zcn (i:=5) zfe.nd rfl (Or.inl rfl))
     (zn (z7 (t_w (zck (zbw (zba (zc3 ϱ T.n_isinstance ϱ T.n_tuple (zc 5) zf) (fun _=>rfl))) (zc0 (zbi (zdi hr) (zdb ϱ T.n_len (zc 5) zf) zg (zW _))))) (zq (zE (zbq (zd (zbo (zc1 zk)) (zd zg zk zw) zhm)))) z8)
     (zn (zkd (zc 5) (zhH rfl (zdD (i:=6) zfe.nd rfl (Or.inl rfl) (zdD (i:=7) zfe.nd rfl (Or.inl rfl) zhc))))
     (zn (z7 (t_w (zck (zba (zc3 ϱ T.n_isinstance ϱ T.n_bool (zc 6) zf) (fun _=>rfl)) (zck (zbw (zba (zc3 ϱ T.n_isinstance ϱ T.n_int (zc 6) zf) (fun _=>rfl))) (zck (zbw (zsN (zih hr) (zfI hr) zg (zc 6) (zdb ϱ T.n_len (zc 0) zf))) (zc0 (zbi (ziV hr) (zc 7) (zbq (zd zg (zd (zdz zg) zk ziO) zw)) (by with_unfolding_all rfl))))))) (zq (zE (zbq (zd (zbo (zc1 zk)) (zd zg zk zw) zhm)))) z8)
     (zn (zN (i:=8) zfe.nd rfl (Or.inl rfl) (zhk (zbi (zcP hr) (zc 7) zg (zW _)) (zk9 (zB hr (zc 0) (zc 6) (fun _ _=>rfl)) zhb (zhA zg)) (zlL (zB hr (zc 0) (zc 6) (fun _ _=>rfl)))))
     (zn (z7 (zbi (zdi hr) (zB hr (zc 3) (zdz zg) (fun _ _=>rfl)) (zB hr (zc 8) zg (fun _ _=>rfl)) (zW _)) (zq (zE (zbq (zd (zbo (zc1 zk)) (zd zg zk zw) zhm)))) z8)
     (zn (zcI (zd1 (zc 3) (zB hr (zc 8) zg (fun _ _=>rfl)) zcb))
     (zq (zN (i:=4) zfe.nd rfl (Or.inl rfl) (zcL (zc 4) (zgG (zc 7) (zB hr (zB hr (zc 0) (zc 6) (fun _ _=>rfl)) zg (fun _ _=>rfl)))))))))))))
     (zq (zE (zbq (zd (zc 3) (zd (zc 4) zk zf) zf))))))
theorem zoG (T:TX K mg):zF P w K mg base CX0 1 T.zgj.a T.zgj.d ["_law_found"] (spM T.G 1 zet) :=
 zX (k:=0) T.zgj.F zoa rfl rfl ϑ fun cdv A outer s H E hr =>
     (zn (z7 (zbw (zba (zc3 ϱ T.n_isinstance ϱ T.n_list (zc 0) zf) (fun _=>rfl))) (zq (zE zbX)) z8)
     (zq (zE (ziD (zkA ϱ T.n_any (zd2 (zdB (N:=["_law_one"]) (js:=[none]) rfl (zbI.of (osc:=zA zhT) (N0:=["_law_found"]) rfl rfl ϰ) (zcN (zc 0)) (fun _ _ _ _=>(zcn (i:=0) (show (["_law_one"]:List Str).Nodup by decide +kernel) rfl (Or.inl rfl))) (fun _ _ _ _=>zdj) (fun _ _ _ _=>(zwD (zc3 ϱ T.n_isinstance ϱ T.n_bool (zc 0) zf) (zdd (ziD (zc3 ϱ T.n_isinstance ϱ T.n_int (zc 0) zf))))))) zfD)))))
theorem zkX (T:TX K mg):zF P w K mg base CX0 2 T.zeA.a T.zeA.d ["_law_ties", "_law_start", "_law_steps", "_law_end"] (spM T.G 4 zd6) :=
 zX (k:=1) T.zeA.F zkR rfl rfl ϑ fun cdv A outer s H E hr =>
     (zn (zN (i:=4) zkR.nd rfl (Or.inl rfl) (zB hr (zx (zkW T) (hr.mono ϑ) ϱ T.zd5 T.zez.F.kp T.zez.b (zd (zc 0) (zd (zc 1) (zd (zc 2) zk zf) zf) zf)) zg (fun _ _=>rfl)))
     (zq (zE (zcJ (zbM (zdi hr) (zc 4) (zbo (zc1 zk)) (zW _)) (zcJ (zbM (zcP hr) (zB hr (zc 4) (zdz zg) (fun _ _=>rfl)) (zc 3) (zW _)) (zdd (zbM (zcP hr) (zln ϱ T.n_len ϱ T.n_set (zfr (zc 4)) zf) (zdb ϱ T.n_len (zc 4) zf) (zW _))))))))
theorem zoH (T:TX K mg):zF P w K mg base CX0 1 T.zgk.a T.zgk.d ["_law_points", "_law_ties", "_law_some", "_law_skipped"] (spM T.G 4 zfY) :=
 zX (k:=0) T.zgk.F zkS rfl rfl ϑ fun cdv A outer s H E hr =>
     (zn (z7 (t_w (zck (zbi (zdi hr) (zc 2) (zbo (zq5 hr ϱ T.n_sorted ϱ T.n_set (zfr (zc 2)) zf)) (zW _)) (zc0 (zba (zkA ϱ T.n_any (zd2 (zdB (N:=["_law_point", "_law_points"]) (js:=[none,some 0]) rfl (zbI.of (osc:=zA zhU) (N0:=["_law_points", "_law_ties", "_law_some", "_law_skipped", "_law_at"]) rfl rfl ϰ) (zcN (zc 2)) (fun _ _ _ _=>(zcn (i:=0) (show (["_law_point", "_law_points"]:List Str).Nodup by decide +kernel) rfl (Or.inl rfl))) (fun _ _ _ _=>zdj) (fun _ _ _ _=>(ziD (zlQ (zih hr) (zfI hr) zg (zc 0) (zc 1)))))) zfD) (fun _=>rfl))))) (zq (zE zbX)) z8)
     (zn (zeW PassesOwn.never (ziq ϱ T.n_range (zdb ϱ T.n_len (zc 1) zf) zbb) (zcn (i:=4) zkS.nd rfl (Or.inl rfl))
     (zq (z7 (t_w (ziG (zbi (zdi hr) (zc 4) (zc 3) (zW _)) (zkq (zbi (zdi hr) (zbM (zeU hr) (zB hr (zB hr (zc 1) (zc 4) (fun _ _=>rfl)) zg (fun _ _=>rfl)) (zc 2) (by with_unfolding_all rfl)) (zbM (zeU hr) (zB hr (zB hr (zc 1) (zc 4) (fun _ _=>rfl)) zg (fun _ _=>rfl)) (zc 2) (by with_unfolding_all rfl)) (zW _))))) (zq (zE zbX)) z8)))
     (zq (zE zbX))))
theorem zkY (T:TX K mg):zF P w K mg base CX0 3 T.zeB.a T.zeB.d ["_law_points", "_law_ties", "_law_one", "_law_other", "_law_found"] (spM T.G 5 zcw) :=
 zX (k:=2) T.zeB.F zob rfl rfl ϑ fun cdv A outer s H E hr =>
     (zn (z7 (zba (zdk T.ok T.zfh ϱ T.n_isinstance ϱ T.zcy.m (zc 4) zf) (fun _=>rfl)) (zq (zE (zx (zkX T) (hr.mono ϑ) ϱ T.zd6 T.zeA.F.kp T.zeA.b (zd (zc 1) (zd (zc 2) (zd (zbS T.ok T.an_steps (zc 4) rfl) (zd (zc 3) zk zf) zco) zf) zf)))) z8)
     (zq (zE (zcJ (zbM (zeU hr) (zc 2) (zbS T.ok T.an_points (zc 4) rfl) (by with_unfolding_all rfl)) (zcJ (zbM (ziV hr) (zc 3) (zbS T.ok T.an_points (zc 4) rfl) (by with_unfolding_all rfl)) (zdd (zx (zoH T) (hr.mono ϑ) ϱ T.zfY T.zgk.F.kp T.zgk.b (zd (zc 0) (zd (zc 1) (zd (zbS T.ok T.an_points (zc 4) rfl) (zd (zdz zg) zk ziO) zco) zf) zf))))))))
theorem zoI (T:TX K mg):zF P w K mg base CX0 10 T.zgl.a T.zgl.d ["_law_web_here", "_law_points", "_law_ties", "_law_one", "_law_other"] (spM T.G 5 zdg) :=
 zX (k:=9) T.zgl.F zgY rfl rfl ϑ fun cdv A outer s H E hr =>
     (zn (zN (i:=5) zgY.nd rfl (Or.inl rfl) (zx (zoE T) (hr.mono ϑ) ϱ T.zdq T.zgh.F.kp T.zgh.b (zd (zc 0) (zd (zc 3) (zd (zc 4) zk zf) zf) zf)))
     (zn (z7 (t_w (zck (zbw (zba (zdk T.ok T.zof ϱ T.n_isinstance ϱ T.zfg.m (zc 5) zf) (fun _=>rfl))) (zc0 (zbi (zcP hr) (zdk T.ok T.zfh ϱ T.n_isinstance ϱ T.zcy.m (zc 5) zf) (zdk T.ok T.zfi ϱ T.n_isinstance ϱ T.zcz.m (zc 5) zf) (zW _))))) (zq (zE zbX)) z8)
     (zn (zN (i:=6) zgY.nd rfl (Or.inl rfl) (zbo (zc1 (zd (zdk T.ok T.zog ϱ T.n_isinstance ϱ T.zeC.m (zc 5) zf) (zd (zdk T.ok T.zoh ϱ T.n_isinstance ϱ T.zeD.m (zc 5) zf) (zd (zdk T.ok T.zol ϱ T.n_isinstance ϱ T.zeF.m (zc 5) zf) (zd (zdk T.ok T.zom ϱ T.n_isinstance ϱ T.zeG.m (zc 5) zf) zk zbb) zbb) zbb) zbb))))
     (zn (z7 (t_w (zck (zba (zkA ϱ T.n_any (zfr (zc 6)) zf) (fun _=>rfl)) (zck (zba (zdk T.ok T.zoj ϱ T.n_isinstance ϱ T.zeE.m (zc 5) zf) (fun _=>rfl)) (zck (zba (zdk T.ok T.zoi ϱ T.n_isinstance ϱ T.zd7.m (zc 5) zf) (fun _=>rfl)) (zc0 (zba (zdk T.ok T.zok ϱ T.n_isinstance ϱ T.zd8.m (zc 5) zf) (fun _=>rfl))))))) (zq (zE zbX)) z8)
     (zn (z7 (t_w (zck (zbw (zba (zx (zkY T) (hr.mono ϑ) ϱ T.zcw T.zeB.F.kp T.zeB.b (zd (zc 1) (zd (zc 2) (zd (zc 3) (zd (zc 4) (zd (zc 5) zk zf) zf) zf) zf) zf)) (fun _=>rfl))) (zc0 (zbi (zkw hr) (zdt (c0:=7) (zeN T.zfh T.zcy.cl T.zhV (zhX T) (hr.mono ϑ) T.zex.b (zc 5) (zd (zc 0) (zd (zc 3) (zd (zc 4) zk zf) zf) zf) (zeN T.zfi T.zcz.cl T.zhW (zhY T) (hr.mono ϑ) T.zey.b (zc 5) (zd (zc 0) (zd (zc 3) (zd (zc 4) zk zf) zf) zf) zdE (zcO zeQ)) (zcO zeQ))) zbX (zW _))))) (zq (zE zbX)) z8)
     (zn (z7 (zbi (zdi hr) (zdt (c0:=7) (zeN T.zfh T.zcy.cl T.zhV (zhX T) (hr.mono ϑ) T.zex.b (zc 5) (zd (zc 0) (zd (zc 4) (zd (zc 3) zk zf) zf) zf) (zeN T.zfi T.zcz.cl T.zhW (zhY T) (hr.mono ϑ) T.zey.b (zc 5) (zd (zc 0) (zd (zc 4) (zd (zc 3) zk zf) zf) zf) zdE (zcO zeQ)) (zcO zeQ))) (zx (zkY T) (hr.mono ϑ) ϱ T.zcw T.zeB.F.kp T.zeB.b (zd (zc 1) (zd (zc 2) (zd (zc 4) (zd (zc 3) (zd (zc 5) zk zf) zf) zf) zf) zf)) (zW _)) (zq (zE zbX)) z8)
     (zn (z7 (zba (zdk T.ok T.zfi ϱ T.n_isinstance ϱ T.zcz.m (zc 5) zf) (fun _=>rfl)) (zn (z7 (zbw (zba (zx (zoG T) (hr.mono ϑ) ϱ T.zet T.zgj.F.kp T.zgj.b (zd (zbS T.ok T.an_points (zc 5) rfl) zk zco)) (fun _=>rfl))) (zq (zE zbX)) z8)
     (zn (zcI (zd1 (zbS T.ok T.an_points (zc 5) rfl) (zc 1) zf))
     (zq (zE (zbM (zj6 hr) (zdt (c0:=7) (zeN T.zfh T.zcy.cl T.zhV (zhX T) (hr.mono ϑ) T.zex.b (zc 5) (zd (zc 0) (zd (zc 3) (zd (zc 4) zk zf) zf) zf) (zeN T.zfi T.zcz.cl T.zhW (zhY T) (hr.mono ϑ) T.zey.b (zc 5) (zd (zc 0) (zd (zc 3) (zd (zc 4) zk zf) zf) zf) zdE (zcO zeQ)) (zcO zeQ))) zbX (zW _)))))) z8)
     (zn (zkd (zx (zkW T) (hr.mono ϑ) ϱ T.zd5 T.zez.F.kp T.zez.b (zd (zc 2) (zd (zc 3) (zd (zbS T.ok T.an_steps (zc 5) rfl) zk zco) zf) zf)) (zhH rfl (zdD (i:=7) zgY.nd rfl (Or.inl rfl) (zdD (i:=8) zgY.nd rfl (Or.inl rfl) zhc))))
     (zn (z7 (t_w (zck (zbi (zdi hr) (zx (zjs T) (hr.mono ϑ) ϱ T.zdf T.zdN.F.kp T.zdN.b (zd (zc 0) (zd (zc 3) (zd (zbS T.ok T.an_steps (zc 5) rfl) zk zco) zf) zf)) (zbq (zd (zc 4) (zd (zc 8) zk zf) zf)) (zW _)) (zc0 (zbw (zba (zc3 ϱ T.n_isinstance ϱ T.n_tuple (zx (zjs T) (hr.mono ϑ) ϱ T.zdf T.zdN.F.kp T.zdN.b (zd (zc 0) (zd (zc 3) (zd (zbS T.ok T.an_steps (zc 5) rfl) zk zco) zf) zf)) zbb) (fun _=>rfl)))))) (zq (zE zbX)) z8)
     (zn (zcI (zd1 (zbS T.ok T.an_steps (zc 5) rfl) (zbq (zd zg (zd zg zk zw) zw)) zeT))
     (zq (zE (zbM (zcP hr) (zdt (c0:=7) (zeN T.zfh T.zcy.cl T.zhV (zhX T) (hr.mono ϑ) T.zex.b (zc 5) (zd (zc 0) (zd (zc 3) (zd (zc 4) zk zf) zf) zf) (zeN T.zfi T.zcz.cl T.zhW (zhY T) (hr.mono ϑ) T.zey.b (zc 5) (zd (zc 0) (zd (zc 3) (zd (zc 4) zk zf) zf) zf) zdE (zcO zeQ)) (zcO zeQ))) (zx (zkX T) (hr.mono ϑ) ϱ T.zd6 T.zeA.F.kp T.zeA.b (zd (zc 2) (zd (zc 3) (zd (zbS T.ok T.an_steps (zc 5) rfl) (zd (zc 4) zk zf) zco) zf) zf)) (zW _))))))))))))))
theorem zoJ (T:TX K mg):zF P w K mg base CX0 11 T.zgm.a T.zgm.d ["_law_script"] (spM T.G 1 zhL) :=
 zX (k:=10) T.zgm.F zdK rfl rfl ϑ fun cdv A outer s H E hr =>
     (zn (zkd (zx (zoF T) (hr.mono ϑ) ϱ T.ze7 T.zgi.F.kp T.zgi.b (zd (zc 0) zk zf)) (zhH rfl (zdD (i:=1) zdK.nd rfl (Or.inl rfl) (zdD (i:=2) zdK.nd rfl (Or.inl rfl) (zdD (i:=3) zdK.nd rfl (Or.inl rfl) zhc)))))
     (zn (zN (i:=4) zdK.nd rfl (Or.inl rfl) (zkH T.zeH T.zoc (zop T) (hr.mono ϑ) ϱ T.zb5.m T.zg0.b (zd (zc 1) (zd (zc 2) (zd (zc 3) zk zf) zf) zf)))
     (zn (zN (i:=5) zdK.nd rfl (Or.inl rfl) (zbo (zc1 (zd (zbq (zd zg (zd (zdv (zc 1) zg) zk zcU) zw)) (zd (zbq (zd zg (zd zg zk zw) zw)) (zd (zbq (zd (zdv (zc 1) zg) (zd zg zk zw) zcU)) zk zeT) zeT) zeT))))
     (zn (zeW PassesOwn.never (ziq ϱ T.n_range zg zw) (zcn (i:=6) zdK.nd rfl (Or.inl rfl))
     (zq (zcI (zd1 (zc 5) (zbq (zd (zx (zcG T) (hr.mono ϑ) ϱ T.zy T.z9.F.kp T.z9.b (zd (zx (zeI T) (hr.mono ϑ) ϱ T.zbm T.zbU.F.kp T.zbU.b (zd (zc 0) (zd (zc 6) zk zf) zf)) (zd zg (zd (zc 1) zk zf) zw) zbb)) (zd (zx (zcG T) (hr.mono ϑ) ϱ T.zy T.z9.F.kp T.z9.b (zd (zx (zeI T) (hr.mono ϑ) ϱ T.zbm T.zbU.F.kp T.zbU.b (zd (zc 0) (zd (zc 6) zk zf) zf)) (zd zg (zd (zc 1) zk zf) zw) zbb)) zk zbb) zbb)) zeT))))
     (zn (zN (i:=5) zdK.nd rfl (Or.inl rfl) (zbo (zkJ (zbo (zkJ (zc 5) (zd2 (zdB (N:=["_law_tie"]) (js:=[none]) rfl (zbI.of (osc:=zA zgZ) (N0:=["_law_script", "_law_points", "_law_ties", "_law_turn", "_law_web_here", "_law_pairs", "_law_k", "_law_one", "_law_other"]) rfl rfl ϰ) (zcN (zbo (zkI (zc 2) zhb (zhA zg)))) (fun _ _ _ _=>(zcn (i:=0) (show (["_law_tie"]:List Str).Nodup by decide +kernel) rfl (Or.inl rfl))) (fun _ _ _ _=>zdj) (fun _ _ _ _=>(zk9 (zc 0) zhb (zhA zg))))))) (zd2 (zdB (N:=["_law_tie"]) (js:=[none]) rfl (zbI.of (osc:=zA zgZ) (N0:=["_law_script", "_law_points", "_law_ties", "_law_turn", "_law_web_here", "_law_pairs", "_law_k", "_law_one", "_law_other"]) rfl rfl ϰ) (zcN (zbo (zkI (zc 2) (zhA (zdz zg)) zhb))) (fun _ _ _ _=>(zcn (i:=0) (show (["_law_tie"]:List Str).Nodup by decide +kernel) rfl (Or.inl rfl))) (fun _ _ _ _=>zdj) (fun _ _ _ _=>(zlL (zc 0))))))))
     (zn (zeW PassesOwn.never (zcN (zc 5)) (zhH rfl (zdD (i:=7) zdK.nd rfl (Or.inl rfl) (zdD (i:=8) zdK.nd rfl (Or.inl rfl) zhc)))
     (zq (z7 (zbw (zba (zx (zoI T) (hr.mono ϑ) ϱ T.zdg T.zgl.F.kp T.zgl.b (zd (zc 4) (zd (zc 1) (zd (zc 2) (zd (zc 7) (zd (zc 8) zk zf) zf) zf) zf) zf)) (fun _=>rfl))) (zq (zE zbX)) z8)))
     (zq (zE (zcJ (zbM (zcP hr) (zdt (c0:=0) (zfx T.zeH T.zb5.cl T.zff (zfk T) (hr.mono ϑ) T.zdr.b (zc 4) zdE (zcO zfo))) (zc 2) (zW _)) (zdd (zbM (zcP hr) (zx (zjs T) (hr.mono ϑ) ϱ T.zdf T.zdN.F.kp T.zdN.b (zd (zc 4) (zd zg (zd (zbo (zc1 zk)) zk zhm) zw) zf)) (zbq (zd zg (zd zg zk zw) zw)) (zW _))))))))))))
end
end My
end
namespace PySem.W.Fast
def tw9360088633772758784:=0
def tw1654920428160273218:=0
def tw17997762043220263324:=0
def tw1438255094511932575:=0
def tw12440499844576832459:=0
def tw11815044791189438576:=0
def tw862229903302514820:=0
def tw15739706209461900722:=0
def tw11853866391141111908:=0
def tw6475184165424637553:=0
def tw14720338659843677409:=0
def tw625727533305921912:=0
def tw2365247994530587288:=0
def tw3569371356928240033:=0
def tw11853842954666345600:=0
def tw8393046306306655919:=0
def tw5057595703036868675:=0
def tw5859922384780691114:=0
def tw13658400191180004294:=0
def tw5555744170667854267:=0
def tw3992522837201562291:=0
def tw17212583659370028470:=0
def tw7491224717267074921:=0
def tw925226808767665830:=0
def tw11304510324078479932:=0
def tw1772092813618922083:=0
def tw16047505098393194386:=0
def tw12703504009016077406:=0
def tw17136824625810524401:=0
def tw6800709575490809389:=0
def tw1857663395807838614:=0
def tw11971216132193052571:=0
def tw6109505075461694462:=0
def tw13505804243108697550:=0
def tw1664725008153872256:=0
def tw2440348968655487945:=0
def tw981175199409149754:=0
def tw9546743328401529618:=0
def tw11516374017479403167:=0
def tw1952881382816593622:=0
def tw3500895559169027400:=0
def tw6084875263202402330:=0
def tw9426753313030750742:=0
def tw11117947159891503657:=0
def tw568987974813331242:=0
def tw16830385364622158917:=0
def tw6123069254059796589:=0
def tw2948202743491603767:=0
def tw16458854442954474754:=0
def tw18071693252545848967:=0
def tw16526094119579128428:=0
def tw13499996996785067574:=0
def tw17261215423331086937:=0
def tw14027039456021057443:=0
def tw7616108566416172542:=0
def tw4318858745226152835:=0
def tw11835943050135576897:=0
def tw13746816385982317326:=0
def tw13487253260574681951:=0
def tw10769494009614044548:=0
def tw5311063761786952361:=0
def tw9531923473211633916:=0
def tw4419956098136169724:=0
def tw4379730505280532803:=0
def tw14115289851810989855:=0
def tw6575156984120864178:=0
def tw16269668305974961202:=0
def tw11383828368835799556:=0
def tw10717676179801641539:=0
def tw17415474234813295670:=0
def tw18201549212090019635:=0
def tw5775378749534835421:=0
def tw8671833584644749342:=0
def tw6358557833927857104:=0
def tw4348326985807801649:=0
def tw14033691726146058483:=0
def tw7310388608920223192:=0
def tw12763108954387994630:=0
def tw12946108547329462957:=0
def tw3668842794460365807:=0
def tw14734890776549926535:=0
def tw14837061067314479484:=0
def tw2817897782181954057:=0
def tw8554157935755884849:=0
def tw15803988097415533516:=0
def tw16567981090283197831:=0
def tw18275649505397469434:=0
def tw10703705910061474786:=0
def tw179564360712285635:=0
def tw5614320956945168042:=0
def tw17249109869568623825:=0
def tw12146891189360347007:=0
def tw5955009238234153576:=0
def tw16680550931833010782:=0
def tw14087147353651830871:=0
def tw769751182900444829:=0
def tw1003506670466196955:=0
def tw13073614942459455279:=0
def tw5159489072231143174:=0
def tw8776319283455233545:=0
def tw9295210365923029356:=0
def tw3486494200193997962:=0
def tw4451390227608181920:=0
def tw2295714864654776252:=0
def tw1869513435135381099:=0
def tw6496349649056449186:=0
def tw10126941443461458690:=0
def tw6039930973594734615:=0
def tw1828824661035116573:=0
def tw7157150038367199082:=0
def tw10574315071478526118:=0
def tw3088851317162383176:=0
def tw7598462947682089736:=0
def tw4341139871308871632:=0
def tw16360468545383327633:=0
def tw11603106067463985303:=0
def tw11370069916378422691:=0
def tw5095874870119468235:=0
def tw2817766223827911099:=0
def tw12237761495275003415:=0
def tw6070040371600602648:=0
def tw12469362593906812369:=0
def tw6206587627459149233:=0
def tw16784931820864049419:=0
def tw5286873720849338392:=0
def tw17381483416837127508:=0
def tw757494233449321131:=0
def tw16628879411415565038:=0
def tw7211473083555588695:=0
def tw10963769370284274737:=0
def tw14348007890799597558:=0
def tw13163787889208644238:=0
def tw7812102338475851257:=0
def tw2163940326339709913:=0
def tw3132516365662060236:=0
def tw12517264939159169284:=0
def tw3814704418810647059:=0
def tw11967125653238473538:=0
def tw15321372794037558414:=0
def tw13222316201476223901:=0
def tw7647420287628709566:=0
def tw14247921103206642880:=0
def tw5232281122561290704:=0
def tw10815726419762341576:=0
def tw12174403644425683970:=0
def tw15276653055569301456:=0
def tw4747965606797523048:=0
def tw9655995818130782778:=0
def tw8346122055980026965:=0
def tw16103418727577102479:=0
def tw12781222038882076210:=0
def tw12608313269826172310:=0
def tw693862526607805024:=0
def tw4889483349757574649:=0
def tw15693534964958604827:=0
def tw14606887193411750216:=0
def tw3755192197947623868:=0
def tw11595123518620576974:=0
def tw2791092553351863987:=0
def tw8568506926988531533:=0
def tw3398039271936791887:=0
def tw11218673850486903845:=0
def tw7281435752102316652:=0
def tw9246188867919556442:=0
def tw5341666267086381468:=0
def tw10059501413185754390:=0
def tw11977236489087044244:=0
def tw6206482085047445607:=0
def tw16364810154628074127:=0
def tw1379996450106221753:=0
def tw12981937314996790225:=0
def tw7217157320666029685:=0
def tw604609692510457288:=0
def tw17348070691851948925:=0
def tw14851172991688982110:=0
def tw13447436677932212245:=0
def tw4311285147334314845:=0
def tw4266938899341755683:=0
def tw3534174477655496217:=0
def tw15470170888771093784:=0
def tw2113731141026290262:=0
def tw15307123885657370889:=0
def tw17087465445415443575:=0
def tw14093787019749467641:=0
def tw10421689562818900569:=0
def tw17636047869847904336:=0
def tw7066948427891281985:=0
def tw6073094162808367967:=0
def tw17001817270545006953:=0
def tw7003366801669191826:=0
def tw4138066423892790473:=0
def tw1669177838891639938:=0
def tw130521324502708553:=0
def tw11888441936231298357:=0
def tw9023035334299687986:=0
def tw4373704054605771188:=0
def tw4474929568674273480:=0
def tw15414948797430510981:=0
def tw4247710257605663372:=0
def tw10736108515739095386:=0
def tw16549025136731421293:=0
def tw1040151241371019533:=0
def tw10424934136875978528:=0
def tw11640157297144024791:=0
def tw17536129481622071191:=0
def tw5048460455913900705:=0
def tw3629300153866774197:=0
def tw12310285109073625184:=0
def tw14207909144506070469:=0
def tw9460293337242958125:=0
def tw17929268521870591596:=0
def tw5852023699730093185:=0
def tw16435421594031143603:=0
def tw17598823716602865735:=0
def tw15081077445692151080:=0
def tw12957631663065704183:=0
def tw2279541725710970656:=0
def tw15393809260835060180:=0
def tw1655208186295918045:=0
def tw10311550960023210275:=0
def tw5131878786333575363:=0
def tw10361675087805826651:=0
def tw14629669829882219619:=0
def tw1235484781141316159:=0
def tw2145128989764817986:=0
def tw3568370043464579743:=0
def tw16996549311436359650:=0
def tw13220112252748967736:=0
def tw17773249188053324366:=0
def tw5520275942717639742:=0
def tw1679943833920882681:=0
def tw3168238959832900509:=0
def tw4674678871669646804:=0
def tw15861422901127310975:=0
def tw18121157475830411323:=0
def tw5295545845098299848:=0
def tw6717025732446490786:=0
def tw15719025686098359500:=0
def tw7076054818157558990:=0
def tw16323218659491298076:=0
def tw7384966500840426150:=0
def tw13520968179800976309:=0
def tw16036754500300155802:=0
def tw2804499666830166212:=0
def tw18038308036785066684:=0
def tw5006240355496060846:=0
def tw14477527724363747650:=0
def tw5617555432269690664:=0
def tw8516709378710962168:=0
def tw8554845824132976519:=0
def tw1845565606131583934:=0
def tw8330553368536593385:=0
def tw16240794672328609743:=0
def tw14363083424554062638:=0
def tw14086651621019338382:=0
def tw10930537277127897195:=0
def tw16138052421965188049:=0
def tw4525868622656336884:=0
def tw18262775485537790912:=0
def tw2241129489207087678:=0
def tw6735746908382393036:=0
def tw11960704726326418366:=0
def tw10678666628615766810:=0
def tw15473508196837512824:=0
def tw15187878657834230417:=0
def tw7890678505801309949:=0
def tw18287494880026238130:=0
def tw13967039882020805030:=0
def tw1850514190662809934:=0
def tw1072481059379574334:=0
def tw9234814651754249462:=0
def tw1714112117269109586:=0
def tw1450082435693653324:=0
def tw1597916516068716756:=0
def tw1290599474625227317:=0
def tw2844110734431955918:=0
def tw5266949734349275690:=0
def tw4747521529632903147:=0
def tw17922463978377219201:=0
def tw10524142557713854631:=0
def tw13390995357500505521:=0
def tw1585508331301155850:=0
def tw342347195055042806:=0
def tw9141689986384361373:=0
def tw11853586689962688737:=0
def tw12030280425022907107:=0
def tw8355823447979546379:=0
end PySem.W.Fast
open PySem L2 MI
namespace My
theorem ztH {P:Program}{w:World}{K:PySem.W.Frag}{mg:Str->Option Value}{base:Heap} (T:TX K mg):zF P w K mg base CX0 11 T.zgm.a T.zgm.d ["_law_script"] (zgH K):=(zoJ T).imp fun vs H Q E h=>zrf (G:=T.G) Mx.law_true vs H Q E h
theorem all_mk {l:PySem.W.OpenLaw}{w:World}{K:PySem.W.Frag}{h:Heap}{mg:Str->Option Value}{fa:Addr} (X:K.In h) (G:h.Ns mainGlobals mg) (hfa:mg "law" = some (.ref fa))
   {zdO zjt zhZ zh0 zg3 zh1 zg4 zeJ zeK zh2 zh3:Addr}
   {tk_MOST tk_FORTH tk_BACK:Tok}
   (zoK:CB K "Web" zdO)
   (zoL:CB K "Answer" zjt)
   (zoM:CB K "Heights" zhZ)
   (zoN:CB K "Ring" zh0)
   (zoO:CB K "Fewest" zg3)
   (zoP:CB K "Camps" zh1)
   (zoQ:CB K "Quarrel" zg4)
   (zoR:CB K "Way" zeJ)
   (zoS:CB K "Apart" zeK)
   (zoT:CB K "Around" zh2)
   (zoU:CB K "Held" zh3)
   (zoV:GB K "is_number" zhM ["value"])
   (zoW:GB K "is_within" zhN ["value", "least", "most"])
   (zoX:GB K "is_point" zhO ["points", "value"])
   (zoY:GB K "is_tie" zhP ["points", "value"])
   (zoZ:GB K "own_tie" zgM ["points", "value"])
   (zo0:MB K zdO "__init__" "Web.__init__" zhR ["self", "points", "ties", "turn"])
   (zo1:PySem.W.makesIn K zdO=true)
   (zo2:PySem.W.keepIn K (.ref zdO)=true)
   (zo3:MB K zdO "ties" "Web.ties" zdh ["self"])
   (zo4:GB K "turned" zhQ ["tie"])
   (zo5:GB K "is_place" zfZ ["ties", "value"])
   (zo6:GB K "is_step" zgN ["ties", "value"])
   (zo7:GB K "leg" ze8 ["ties", "step"])
   (zo8:GB K "legs" zf0 ["web", "start", "steps"])
   (zo9:GB K "stops" ze9 ["web", "start", "steps"])
   (zpa:GB K "is_straight" zgS ["web", "start", "steps"])
   (zpb:GB K "leads" zgT ["web", "one", "other", "steps"])
   (zpc:GB K "every_tie" zgO ["web"])
   (zpd:GB K "steps_from" zf1 ["web", "chosen"])
   (zpe:GB K "spread" zgP ["ties", "onward", "start", "arrived"])
   (zpf:GB K "reach" zgQ ["web", "chosen", "start"])
   (zpg:GB K "trace" zgR ["web", "arrived", "goal"])
   (zph:GB K "are_rising" zfa ["values", "count"])
   (zpi:GB K "divides" zfb ["points", "ties", "one", "other"])
   (zpj:MB K zeJ "__init__" "Way.__init__" zi1 ["self", "steps"])
   (zpk:PySem.W.makesIn K zeJ=true)
   (zpl:PySem.W.keepIn K (.ref zeJ)=true)
   (zpm:MB K zeJ "shows" "Way.shows" zgU ["self", "web", "one", "other"])
   (zpn:MB K zeK "__init__" "Apart.__init__" zi2 ["self", "points"])
   (zpo:PySem.W.makesIn K zeK=true)
   (zpp:PySem.W.keepIn K (.ref zeK)=true)
   (zpq:MB K zeK "shows" "Apart.shows" zgV ["self", "web", "one", "other"])
   (zpr:GB K "refuse_no_point" zi3 ["web", "value"])
   (zps:GB K "between" zgW ["web", "one", "other"])
   (zpt:GB K "climb" zfc ["web", "start", "steps"])
   (zpu:GB K "_law_cell_at" zi5 ["_law_script", "_law_k"])
   (zpv:GB K "_law_draw" zi6 ["_law_cell", "_law_k", "_law_many"])
   (zpw:GB K "_law_web" zi7 ["_law_script"])
   (zpx:GB K "_law_walk" zi8 ["_law_ties", "_law_start", "_law_steps"])
   (zpy:GB K "_law_numbers" zhT ["_law_found"])
   (zpz:GB K "_law_straight" zi9 ["_law_ties", "_law_start", "_law_steps", "_law_end"])
   (zpA:GB K "_law_closed" zhU ["_law_points", "_law_ties", "_law_some", "_law_skipped"])
   (zpB:GB K "_law_due" zja ["_law_points", "_law_ties", "_law_one", "_law_other", "_law_found"])
   (zpC:GB K "_law_right" zjb ["_law_web_here", "_law_points", "_law_ties", "_law_one", "_law_other"])
   (zpD:GB K "law" zgZ ["_law_script"])
   (zjc:PySem.W.findIn K (.ref zdO) "points" = some none)
   (zjd:PySem.W.findIn K (.ref zdO) "turn" = some none)
   (zje:PySem.W.findIn K (.ref zdO) "triples" = some none)
   (zjf:PySem.W.findIn K (.ref zhZ) "heights" = some none)
   (zjg:PySem.W.findIn K (.ref zh0) "steps" = some none)
   (zjh:PySem.W.findIn K (.ref zg3) "kept" = some none)
   (zji:PySem.W.findIn K (.ref zg3) "parts" = some none)
   (zjj:PySem.W.findIn K (.ref zh1) "camps" = some none)
   (zjk:PySem.W.findIn K (.ref zg4) "tie" = some none)
   (zjl:PySem.W.findIn K (.ref zg4) "steps" = some none)
   (zjm:PySem.W.findIn K (.ref zeJ) "steps" = some none)
   (zjn:PySem.W.findIn K (.ref zeK) "points" = some none)
   (zjo:PySem.W.findIn K (.ref zh2) "steps" = some none)
   (zjp:PySem.W.findIn K (.ref zh3) "points" = some none)
   (z_list:PySem.W.nsIn K mainGlobals "list" = some none)
   (z_range:PySem.W.nsIn K mainGlobals "range" = some none)
   (z_all:PySem.W.nsIn K mainGlobals "all" = some none)
   (z_dict:PySem.W.nsIn K mainGlobals "dict" = some none)
   (z_isinstance:PySem.W.nsIn K mainGlobals "isinstance" = some none)
   (z_int:PySem.W.nsIn K mainGlobals "int" = some none)
   (z_len:PySem.W.nsIn K mainGlobals "len" = some none)
   (z_sorted:PySem.W.nsIn K mainGlobals "sorted" = some none)
   (z_sum:PySem.W.nsIn K mainGlobals "sum" = some none)
   (z_any:PySem.W.nsIn K mainGlobals "any" = some none)
   (z_bool:PySem.W.nsIn K mainGlobals "bool" = some none)
   (z_tuple:PySem.W.nsIn K mainGlobals "tuple" = some none)
   (z_set:PySem.W.nsIn K mainGlobals "set" = some none)
   (z_zip:PySem.W.nsIn K mainGlobals "zip" = some none)
   (z_abs:PySem.W.nsIn K mainGlobals "abs" = some none)
   (u_MOST:PySem.W.nsIn K mainGlobals "MOST" = some (some (.int (1000000) tk_MOST)))
   (u_FORTH:PySem.W.nsIn K mainGlobals "FORTH" = some (some (.int (1) tk_FORTH)))
   (u_BACK:PySem.W.nsIn K mainGlobals "BACK" = some (some (.int (-1) tk_BACK)))
   (iz:zgo K zK [zdO,zjt,zhZ,zh0,zg3,zh1,zg4,zeJ,zeK,zh2,zh3] 0 [zdO,zjt,zhZ,zh0,zg3,zh1,zg4,zeJ,zeK,zh2,zh3])
   : ∃ fd:FuncData,(∀ (s:Shared) (v:Value),BindsTo s fd ⟨[v],[]⟩ [("_law_script",v)])∧∀ base:Heap,K.In base->base.Ns mainGlobals mg->zF l.prog w K mg base CX0 11 fa fd ["_law_script"] (zgH K):=by
 obtain ⟨zpE,zpF,_⟩:=zoV.df X G
 obtain ⟨zpG,zpH,_⟩:=zoW.df X G
 obtain ⟨zpI,zpJ,_⟩:=zoX.df X G
 obtain ⟨zpK,zpL,_⟩:=zoY.df X G
 obtain ⟨zpM,zpN,_⟩:=zoZ.df X G
 obtain ⟨zpO,zpP⟩:=zo0.mk' zo1 zo2
 obtain ⟨zpQ,zpR⟩:=zo3.df
 obtain ⟨zpS,zpT,_⟩:=zo4.df X G
 obtain ⟨zpU,zpV,_⟩:=zo5.df X G
 obtain ⟨zpW,zpX,_⟩:=zo6.df X G
 obtain ⟨zpY,zpZ,_⟩:=zo7.df X G
 obtain ⟨zp0,zp1,_⟩:=zo8.df X G
 obtain ⟨zp2,zp3,_⟩:=zo9.df X G
 obtain ⟨zp4,zp5,_⟩:=zpa.df X G
 obtain ⟨zp6,zp7,_⟩:=zpb.df X G
 obtain ⟨zp8,zp9,_⟩:=zpc.df X G
 obtain ⟨zqa,zqb,_⟩:=zpd.df X G
 obtain ⟨zqc,zqd,_⟩:=zpe.df X G
 obtain ⟨zqe,zqf,_⟩:=zpf.df X G
 obtain ⟨zqg,zqh,_⟩:=zpg.df X G
 obtain ⟨zqi,zqj,_⟩:=zph.df X G
 obtain ⟨zqk,zql,_⟩:=zpi.df X G
 obtain ⟨zqm,zqn⟩:=zpj.mk' zpk zpl
 obtain ⟨zqo,zqp⟩:=zpm.df
 obtain ⟨zqq,zqr⟩:=zpn.mk' zpo zpp
 obtain ⟨zqs,zqt⟩:=zpq.df
 obtain ⟨zqu,zqv,_⟩:=zpr.df X G
 obtain ⟨zqw,zqx,_⟩:=zps.df X G
 obtain ⟨zqy,zqz,_⟩:=zpt.df X G
 obtain ⟨zqA,zqB,_⟩:=zpu.df X G
 obtain ⟨zqC,zqD,_⟩:=zpv.df X G
 obtain ⟨zqE,zqF,_⟩:=zpw.df X G
 obtain ⟨zqG,zqH,_⟩:=zpx.df X G
 obtain ⟨zqI,zqJ,_⟩:=zpy.df X G
 obtain ⟨zqK,zqL,_⟩:=zpz.df X G
 obtain ⟨zqM,zqN,_⟩:=zpA.df X G
 obtain ⟨zqO,zqP,_⟩:=zpB.df X G
 obtain ⟨zqQ,zqR,_⟩:=zpC.df X G
 obtain ⟨zkZ,zk0,hl⟩:=zpD.df X G
 cases hfa.symm.trans zk0
 exact ⟨zkZ.d,fun s v=> .of_eq (hl [v] rfl),fun base _ _=>ztH ⟨zpE,zpF,zpG,zpH,zpI,zpJ,zpK,zpL,zpM,zpN,zpO,zpQ,zpS,zpT,zpU,zpV,zpW,zpX,zpY,zpZ,zp0,zp1,zp2,zp3,zp4,zp5,zp6,zp7,zp8,zp9,zqa,zqb,zqc,zqd,zqe,zqf,zqg,zqh,zqi,zqj,zqk,zql,zqm,zqo,zqq,zqs,zqu,zqv,zqw,zqx,zqy,zqz,zqA,zqB,zqC,zqD,zqE,zqF,zqG,zqH,zqI,zqJ,zqK,zqL,zqM,zqN,zqO,zqP,zqQ,zqR,zkZ,zk0,zoK.cf X G,zpP,zpR,zjc,zjd,zje,zoL.cf X G,zoM.cf X G,zjf,zoN.cf X G,zjg,zoO.cf X G,zjh,zji,zoP.cf X G,zjj,zoQ.cf X G,zjk,zjl,zoR.cf X G,zqn,zqp,zjm,zoS.cf X G,zqr,zqt,zjn,zoT.cf X G,zjo,zoU.cf X G,zjp,PySem.W.mg_none_of X G z_list,PySem.W.mg_none_of X G z_range,PySem.W.mg_none_of X G z_all,PySem.W.mg_none_of X G z_dict,PySem.W.mg_none_of X G z_isinstance,PySem.W.mg_none_of X G z_int,PySem.W.mg_none_of X G z_len,PySem.W.mg_none_of X G z_sorted,PySem.W.mg_none_of X G z_sum,PySem.W.mg_none_of X G z_any,PySem.W.mg_none_of X G z_bool,PySem.W.mg_none_of X G z_tuple,PySem.W.mg_none_of X G z_set,PySem.W.mg_none_of X G z_zip,PySem.W.mg_none_of X G z_abs,⟨_,PySem.W.mg_of X G u_MOST,⟨_,rfl⟩⟩,⟨_,PySem.W.mg_of X G u_FORTH,⟨_,rfl⟩⟩,⟨_,PySem.W.mg_of X G u_BACK,⟨_,rfl⟩⟩,iz⟩⟩
theorem walk {l:PySem.W.OpenLaw}{q:Program}{loose:List Str}{XP:(Str->Option Value)->Heap->Prop}{YP:World->Heap->Prop}{d:DefRec}{K:Params->PySem.W.Frag} (hn:l.most=some 63) (hdf:d.params.defaults=[])
   (hY:∀ (w:World) (h:Heap),YP w h->(K w.params).In h)
   (F:∀ (w:World) (mg:Str->Option Value) (fa:Addr) (h:Heap),(K w.params).In h->h.Ns mainGlobals mg->mg d.name=some (.ref fa) ->
     ∃ fd:FuncData,(∀ (s:Shared) (u:Value),BindsTo s fd ⟨[u],[]⟩ [("_law_script",u)])∧∀ base:Heap,(K w.params).In base->base.Ns mainGlobals mg->zF l.prog w (K w.params) mg base CX0 11 fa fd ["_law_script"] (zgH (K w.params))) :
   PySem.W.WalkO q loose XP YP l.row.toRowW d [] (fun f vs=>PySem.call f vs) :=
 L2.walk_of (n:=63) (k:=11) (x :="_law_script") (CX:=fun _=>CX0) (sp:=fun w=>zgH (K w.params)) hn ϑ hdf ⟨rfl,ϑ,ϑ⟩ hY F (fun _ _ a ns hl ho hS=>MI.law_start ho hl hS) fun _ _ _ _ _ z=>z
end My
open PySem PySem.W PyProof.Rows
set_option maxRecDepth 100000 in
theorem PySem.Challenge.cw_closering_k02_whole_between_holds : PySem.Challenge.rw_closering_k02_whole_between.Holds := by
 w_on;o_law;k_head;(case hw=>w_witness2)
 k_fill
 refine My.walk (l:=PySem.Challenge.rw_closering_k02_whole_between) rfl rfl (fun w h Y=>PySem.W.kIn_of Y) ?F
 case F =>
   intro w mg fa h KX G hmg
   apply My.all_mk KX G hmg
   all_goals first | k_is | (apply L2.GB.mk <;> k_is) | (apply L2.MB.mk <;> k_is) | (apply L2.CB.mk <;> k_is) | ((repeat' first | exact trivial | apply And.intro) <;> kit_is)

