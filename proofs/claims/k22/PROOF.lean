import PyProof.Rows.All
import Wide.All
import OpenK.AllK
import Wide.FinOn
import HandS.ForMost
import HandS.IsInst
import HandS.Defaults
import HandS.Walk
import HandS.TupAny
import KE.KDictKeyed
import HandS.Exc
import HandS.TryOnly
import HandS.Lambda
import HandS.ExcOwn
import HandS.WordsExc
import HandS.CallSlots
import HandS.ExcInit
import HandS.Head0
import HandS.Head1
import HandS.Head2
import HandS.HeadEnd
import HandS.HeadHook1
import HandS.HeadHook2
import HandS.HeadHook3
import HandS.HeadHook4
import HandS.EndTab
import HandS.ExcCtx
import HandS.RaiseMore
import KE.GoesMore
import HandS.Zip
import KE.KDictZip
import HandS.Style
import PyProof.P3In
import KE.KDictDisplayH
import HandS.More
import KE.DataCmp
import HandS.Text
import KE.SortData
import HandS.SortRule
import HandS.TupLe
import HandS.TupLen
import HandS.TupMul
import HandS.Small
import PyProof.CallFns
import HandS.StrMore
import HandS.FStr
import HandS.Star
import KE.KUnpackStar
import KE.GoesEnum
import HandS.MakeKwOnly
import HandS.Iter
import HandS.Flow
import HandS.Conv
import PyProof.Rows.StrMeet
import PyProof.Rows.SortStr
import HandS.SetFor
import PyProof.SeqRoads2
import HandS.ExcIs
import KE.KExcIs
import HandS.HotCalls
import KE.KExcInit
import PyProof.StrOps2
import KE.KTryMore
import KE.KFmtOwn
import OpenK.KOps
import PyProof.Truth
import KE.KDictCopyH
import HandS.DictComp
import KE.KDictList
import HandS.ListItems
import HandS.SetKeys
import KE.KDictWalk
import PyProof.DictCompW
import KE.KDictPairs
import KE.KMinKey
import PyProof.SeqIndex
import PyProof.Rows.SetFrom
import PyProof.SetRoads
import HandS.ExcValue
import HandS.ExcField
import HandS.TupSets
import PySem.Challenge.RW_callsover_k22_errors_made
set_option Elab.async false
set_option linter.all false
set_option maxRecDepth 100000
set_option maxHeartbeats 8000000
set_option autoImplicit false
namespace J
open PySem PySem.Spec PyProof.Rows L2
/-! values and objects without the heap: tuples and lists that nobody changes by value, changed things by number -/
inductive D where
  | non | bl (b : Bool) | int (i : Int) | str (x : Str) | tup (ds : List D) | lst (ds : List D) | scr (ds : List D) | obj (k : Nat) | glo (v : V)
deriving Inhabited
inductive O where
  | lst (ds : List D)
  | dct (kvs : List (NestedKey × D × D))
  | dks (kvs : List (Key × D))
  | lck (kvs : List (NestedKey × D × D))
  | lks (kvs : List (Key × D))
  | ins (x : Str) (fs : List (Str × D))
  | tab (x : Str) (m : Option Str) (q : Str)
  | exc (x : Str) (fs : List (Str × D))
  | lam (params : Arguments) (body : Expr) (scope : Scope) (q : Str) (cl : List (Str × Addr))
abbrev Sto := List O
abbrev Env := List (Option D)
/-- numbered addresses, and addresses that no data may stand at -/
structure Mp where
  m : List Addr
  x : List Addr
variable {K : PySem.W.Frag}
def LsR (K : PySem.W.Frag) (H : Hp) (μ : Mp) (a : Addr) (xs : List V) : Prop :=
  (Rd H a (.lst xs) ∧ a ∉ μ.m ∧ a ∉ μ.x) ∨
    ∃ (o : Obj) (its : Array Value) (n : Nat), K.lookup a = some o ∧ o.cls = .type "list" ∧ o.dict = none ∧ o.data = .seq its n ∧ its.size ≤ sizeLine ∧ Vals xs its.toList
def TpR (K : PySem.W.Frag) (H : Hp) (μ : Mp) (a : Addr) (xs : List V) : Prop :=
  (Rd H a (.tup xs) ∧ a ∉ μ.m ∧ a ∉ μ.x) ∨
    ∃ (o : Obj) (its : Array Value) (n : Nat), K.lookup a = some o ∧ o.cls = .type "tuple" ∧ o.data = .seq its n ∧ its.size ≤ sizeLine ∧ Vals xs its.toList
def PlR (H : Hp) (μ : Mp) (a : Addr) (xs : List V) : Prop := H a = some (.lst xs) ∧ a ∉ μ.m ∧ a ∉ μ.x
theorem PlR.sq {H : Hp} {μ : Mp} {a : Addr} {xs : List V} (h : PlR H μ a xs) : SqL K H a xs := .inl (.inl h.1)
theorem LsR.sq {H : Hp} {μ : Mp} {a : Addr} {xs : List V} (h : LsR K H μ a xs) : SqL K H a xs := h.imp (fun h => h.1) id
theorem TpR.sq {H : Hp} {μ : Mp} {a : Addr} {xs : List V} (h : TpR K H μ a xs) : SqT K H a xs := h.imp (fun h => h.1) id
mutual
inductive Rv (K : PySem.W.Frag) (H : Hp) (μ : Mp) : V → D → Prop
  | non : Rv K H μ .non .non
  | bl (b : Bool) : Rv K H μ (.bl b) (.bl b)
  | int (i : Int) : Rv K H μ (.int i) (.int i)
  | str (x : Str) : Rv K H μ (.str x) (.str x)
  | tup {a : Addr} {xs : List V} {ds : List D} : TpR K H μ a xs → RvAll K H μ xs ds → Rv K H μ (.ref a) (.tup ds)
  | lst {a : Addr} {xs : List V} {ds : List D} : PlR H μ a xs → RvAll K H μ xs ds → Rv K H μ (.ref a) (.lst ds)
  | scr {a : Addr} {xs : List V} {ds : List D} : LsR K H μ a xs → RvAll K H μ xs ds → Rv K H μ (.ref a) (.scr ds)
  | obj {k : Nat} {a : Addr} : μ.m[k]? = some a → Rv K H μ (.ref a) (.obj k)
  | glo (v : V) : Rv K H μ v (.glo v)
inductive RvAll (K : PySem.W.Frag) (H : Hp) (μ : Mp) : List V → List D → Prop
  | nil : RvAll K H μ [] []
  | cons {v : V} {vs : List V} {d : D} {ds : List D} : Rv K H μ v d → RvAll K H μ vs ds → RvAll K H μ (v :: vs) (d :: ds)
end
/-- what may become of the heap: new numbers, no unnumbered thing changed -/
structure Later (μ : Mp) (H : Hp) (μ' : Mp) (H' : Hp) : Prop where
  ext : ∃ e, μ'.m = μ.m ++ e
  ex : ∀ a, a ∈ μ.x → a ∈ μ'.x
  keep : ∀ a o, H a = some o → a ∉ μ.m → a ∉ μ'.m ∧ (a ∉ μ.x → a ∉ μ'.x) ∧ H' a = some o
  frz : ∀ a o u, H a = some (.frz o u) → H' a = some (.frz o u)
theorem Later.refl (μ : Mp) (H : Hp) : Later μ H μ H := ⟨⟨[], by simp⟩, fun _ h => h, fun _ _ h n => ⟨n, id, h⟩, fun _ _ _ h => h⟩
theorem Later.trans {μ μ1 μ2 : Mp} {H H1 H2 : Hp} (x : Later μ H μ1 H1) (y : Later μ1 H1 μ2 H2) : Later μ H μ2 H2 := by
  refine ⟨?_, fun a h => y.ex a (x.ex a h), fun a o h n => ?_, fun a o u h => y.frz a o u (x.frz a o u h)⟩
  · obtain ⟨e, h1⟩ := x.ext
    obtain ⟨f, h2⟩ := y.ext
    exact ⟨e ++ f, by rw [h2, h1, List.append_assoc]⟩
  · obtain ⟨n1, g1, h1⟩ := x.keep a o h n
    obtain ⟨n2, g2, h2⟩ := y.keep a o h1 n1
    exact ⟨n2, fun z => g2 (g1 z), h2⟩
/-- what data lean on -/
structure Dat (μ : Mp) (H : Hp) (μ' : Mp) (H' : Hp) : Prop where
  ext : ∃ e, μ'.m = μ.m ++ e
  keep : ∀ a o, H a = some o → a ∉ μ.m → a ∉ μ.x → a ∉ μ'.m ∧ a ∉ μ'.x ∧ H' a = some o
theorem Later.dat {μ μ' : Mp} {H H' : Hp} (x : Later μ H μ' H') : Dat μ H μ' H' := ⟨x.ext, fun a o h n nx => let ⟨h1, h2, h3⟩ := x.keep a o h n; ⟨h1, h2 nx, h3⟩⟩
theorem Dat.rd {μ μ' : Mp} {H H' : Hp} (x : Dat μ H μ' H') {a : Addr} {u : HO} (h : Rd H a u ∧ a ∉ μ.m ∧ a ∉ μ.x) : Rd H' a u ∧ a ∉ μ'.m ∧ a ∉ μ'.x := by
  obtain ⟨h, n, nx⟩ := h
  rcases h with h | ⟨o, h⟩
  · obtain ⟨n1, g1, h1⟩ := x.keep _ _ h n nx
    exact ⟨.inl h1, n1, g1⟩
  · obtain ⟨n1, g1, h1⟩ := x.keep _ _ h n nx
    exact ⟨.inr ⟨o, h1⟩, n1, g1⟩
theorem Later.rd {μ μ' : Mp} {H H' : Hp} (x : Later μ H μ' H') {a : Addr} {u : HO} (h : Rd H a u ∧ a ∉ μ.m ∧ a ∉ μ.x) : Rd H' a u ∧ a ∉ μ'.m ∧ a ∉ μ'.x := x.dat.rd h
mutual
theorem Rv.dat {μ μ' : Mp} {H H' : Hp} (s : Dat μ H μ' H') : ∀ {v : V} {d : D}, Rv K H μ v d → Rv K H' μ' v d
  | _, _, .non => .non
  | _, _, .bl b => .bl b
  | _, _, .int i => .int i
  | _, _, .str x => .str x
  | _, _, .tup h q => .tup (h.imp s.rd id) (RvAll.dat s q)
  | _, _, .lst h q => .lst (let z := s.keep _ _ h.1 h.2.1 h.2.2; ⟨z.2.2, z.1, z.2.1⟩) (RvAll.dat s q)
  | _, _, .scr h q => .scr (h.imp s.rd id) (RvAll.dat s q)
  | _, _, .obj h => .obj (by
    obtain ⟨e, z⟩ := s.ext
    rw [z, List.getElem?_append_left (List.getElem?_eq_some_iff.mp h).1]
    exact h)
  | _, _, .glo v => .glo v
theorem RvAll.dat {μ μ' : Mp} {H H' : Hp} (s : Dat μ H μ' H') : ∀ {vs : List V} {ds : List D}, RvAll K H μ vs ds → RvAll K H' μ' vs ds
  | _, _, .nil => .nil
  | _, _, .cons h q => .cons (Rv.dat s h) (RvAll.dat s q)
end
theorem Rv.later {μ μ' : Mp} {H H' : Hp} (s : Later μ H μ' H') {v : V} {d : D} (h : Rv K H μ v d) : Rv K H' μ' v d := h.dat s.dat
theorem RvAll.later {μ μ' : Mp} {H H' : Hp} (s : Later μ H μ' H') {vs : List V} {ds : List D} (h : RvAll K H μ vs ds) : RvAll K H' μ' vs ds := h.dat s.dat
theorem RvAll.length {H : Hp} {μ : Mp} : ∀ {vs : List V} {ds : List D}, RvAll K H μ vs ds → vs.length = ds.length
  | _, _, .nil => rfl
  | _, _, .cons h q => by rw [List.length_cons, List.length_cons, RvAll.length q]
theorem RvAll.get {H : Hp} {μ : Mp} : ∀ {vs : List V} {ds : List D}, RvAll K H μ vs ds → ∀ (i : Nat) {d : D}, ds[i]? = some d → ∃ v, vs[i]? = some v ∧ Rv K H μ v d
  | _, _, .nil, i, _, e => by simp at e
  | _, _, .cons h q, 0, _, e => ⟨_, rfl, (Option.some.inj e) ▸ h⟩
  | _, _, .cons h q, i + 1, _, e => RvAll.get q i e
theorem RvAll.append {H : Hp} {μ : Mp} : ∀ {vs us : List V} {ds es : List D}, RvAll K H μ vs ds → RvAll K H μ us es → RvAll K H μ (vs ++ us) (ds ++ es)
  | _, _, _, _, .nil, q => q
  | _, _, _, _, .cons h r, q => .cons h (RvAll.append r q)
theorem RvAll.drop {H : Hp} {μ : Mp} : ∀ {vs : List V} {ds : List D} (n : Nat), RvAll K H μ vs ds → RvAll K H μ (vs.drop n) (ds.drop n)
  | _, _, 0, h => h
  | _, _, _ + 1, .nil => .nil
  | _, _, n + 1, .cons _ q => RvAll.drop n q
theorem RvAll.take {H : Hp} {μ : Mp} : ∀ {vs : List V} {ds : List D} (n : Nat), RvAll K H μ vs ds → RvAll K H μ (vs.take n) (ds.take n)
  | _, _, 0, _ => .nil
  | _, _, _ + 1, .nil => .nil
  | _, _, n + 1, .cons h q => .cons h (RvAll.take n q)
theorem RvAll.set {H : Hp} {μ : Mp} {v : V} {d : D} (r : Rv K H μ v d) : ∀ {vs : List V} {ds : List D} (n : Nat), RvAll K H μ vs ds → RvAll K H μ (vs.set n v) (ds.set n d)
  | _, _, _, .nil => .nil
  | _, _, 0, .cons _ q => .cons r q
  | _, _, n + 1, .cons h q => .cons h (RvAll.set r n q)
theorem RvAll.dropLast {H : Hp} {μ : Mp} {vs : List V} {ds : List D} (h : RvAll K H μ vs ds) : RvAll K H μ vs.dropLast ds.dropLast := by
  rw [List.dropLast_eq_take, List.dropLast_eq_take, h.length]
  exact h.take _
theorem RvAll.reverse {H : Hp} {μ : Mp} : ∀ {vs : List V} {ds : List D}, RvAll K H μ vs ds → RvAll K H μ vs.reverse ds.reverse
  | _, _, .nil => .nil
  | _, _, .cons h q => by
    rw [List.reverse_cons, List.reverse_cons]
    exact (RvAll.reverse q).append (.cons h .nil)
/-! a dict with tuples as keys, told by its entries -/
def DictE (P : Program) (w : World) (a : Addr) (xs : List (NestedKey × Addr × V)) : HO := .ext fun h => (a == sysModules) = false ∧ xs.length ≤ sizeLine ∧ (xs.map (·.1)).Nodup ∧
  ∃ ys : List (NestedKey × Addr × Value), Paired (fun (p : NestedKey × Addr × V) (q : NestedKey × Addr × Value) => p.1 = q.1 ∧ p.2.1 = q.2.1 ∧ RelV p.2.2 q.2.2) xs ys ∧
    ∃ o es ep, h.get? a = some o ∧ o.ExactDict ∧ o.data = .dict es ep ∧ es.toList = ys.map (entryOfKey (nestedKind P w))
mutual
/-- the key that a value is -/
def D.key : D → Option NestedKey
  | .non => some .none
  | .int i => some (.num i)
  | .str x => some (.text x)
  | .tup ds => (D.keys ds).map .tup
  | _ => none
def D.keys : List D → Option (List NestedKey)
  | [] => some []
  | d :: ds => match D.key d, D.keys ds with
    | some k, some ks => some (k :: ks)
    | _, _ => none
end
inductive KsR (K : PySem.W.Frag) (H : Hp) (μ : Mp) : List (NestedKey × Addr × V) → List (NestedKey × D × D) → Prop
  | nil : KsR K H μ [] []
  | cons {k : NestedKey} {b : Addr} {v : V} {e d : D} {xs ys} : D.key e = some k → k.depth ≤ 8 → Rv K H μ (.ref b) e → Rv K H μ v d → KsR K H μ xs ys → KsR K H μ ((k, b, v) :: xs) ((k, e, d) :: ys)
inductive KvR (K : PySem.W.Frag) (H : Hp) (μ : Mp) : List (Key × V) → List (Key × D) → Prop
  | nil : KvR K H μ [] []
  | cons {k : Key} {v : V} {d : D} {xs ys} : Rv K H μ v d → KvR K H μ xs ys → KvR K H μ ((k, v) :: xs) ((k, d) :: ys)
inductive FsR (K : PySem.W.Frag) (H : Hp) (μ : Mp) : List (Str × V) → List (Str × D) → Prop
  | nil : FsR K H μ [] []
  | cons {k : Str} {v : V} {d : D} {xs ys} : Rv K H μ v d → FsR K H μ xs ys → FsR K H μ ((k, v) :: xs) ((k, d) :: ys)
/-- the class of a name of the module -/
def ClsAt (K : PySem.W.Frag) (x : Str) (C : Addr) : Prop := PySem.W.nsIn K mainGlobals x = some (some (.ref C))
theorem ClsAt.one {x : Str} {C C' : Addr} (h : ClsAt K x C) (h' : ClsAt K x C') : C = C' := by
  have e := h.symm.trans h'
  cases e
  rfl
/-- an instance of the class of a name, with the names of its fields -/
structure InsC (K : PySem.W.Frag) (x : Str) (C : Addr) (gs : List (Str × V)) : Prop where
  at_ : ClsAt K x C
  cls : Cls K C
  no : ∀ p ∈ gs, NoAttr K C p.1
/-- the def of a name of the module, or the method of a class of a name -/
def FnAt (K : PySem.W.Frag) (x : Str) : Option Str → Addr → Prop
  | none, f => PySem.W.nsIn K mainGlobals x = some (some (.ref f))
  | some m, f => ∃ C, ClsAt K x C ∧ PySem.W.findIn K (.ref C) m = some (some (.ref f))
/-- the table of code objects of a def -/
def TabAt (K : PySem.W.Frag) (x : Str) (m : Option Str) (a : Addr) : Prop :=
  ∃ f of fd c oc vs, FnAt K x m f ∧ K.lookup f = some of ∧ of.data = .func fd ∧ fd.code = .ref c ∧ K.lookup c = some oc ∧ oc.data = .fields vs ∧ vs[11]? = some (.ref a)
theorem FnAt.one {x : Str} {m : Option Str} {f g : Addr} (h : FnAt K x m f) (h' : FnAt K x m g) : f = g := by
  cases m with
  | none =>
    have e := h.symm.trans h'
    cases e
    rfl
  | some m =>
    obtain ⟨C, c1, e1⟩ := h
    obtain ⟨C', c2, e2⟩ := h'
    cases c1.one c2
    rw [e1] at e2
    cases e2
    rfl
theorem TabAt.one {x : Str} {m : Option Str} {a b : Addr} (h : TabAt K x m a) (h' : TabAt K x m b) : a = b := by
  obtain ⟨f, of, fd, c, oc, vs, h1, h2, h3, h4, h5, h6, h7⟩ := h
  obtain ⟨f', of', fd', c', oc', vs', g1, g2, g3, g4, g5, g6, g7⟩ := h'
  cases h1.one g1
  rw [h2] at g2; cases g2
  rw [h3] at g3; cases g3
  rw [h4] at g4; cases g4
  rw [h5] at g5; cases g5
  rw [h6] at g6; cases g6
  rw [h7] at g7; cases g7
  rfl
/-- at a: a lambda with its cells -/
def LamO (a : Addr) (params : Arguments) (body : Expr) (scope : Scope) (q : Str) (cl : List (Str × Addr)) (pm : Value) (c : Addr) (ctv : Value) : HO := .ext fun h => h.get? a = some (PySem.W.kla_obj "<lambda>" q params body scope cl pm c ctv)
/-- what stands at a numbered address -/
def OR (P : Program) (w : World) (K : PySem.W.Frag) (H : Hp) (μ : Mp) (a : Addr) : O → Prop
  | .lst ds => ∃ xs, H a = some (.lst xs) ∧ RvAll K H μ xs ds
  | .dct kvs => ∃ xs, H a = some (DictE P w a xs) ∧ KsR K H μ xs kvs
  | .dks kvs => ∃ xs, H a = some (.dK xs) ∧ KvR K H μ xs kvs
  | .lck kvs => ∃ od xs, H a = some (.frz od (DictE P w a xs)) ∧ KsR K H μ xs kvs
  | .lks kvs => ∃ od xs, H a = some (.frz od (.dK xs)) ∧ KvR K H μ xs kvs
  | .ins x fs => ∃ C dx gs, InsC K x C gs ∧ H a = some (.ins C dx gs) ∧ FsR K H μ gs fs
  | .tab x m q => TabAt K x m a ∧ ∃ ps : Array Value, H a = some (.tbl ps) ∧ TriplesOk ps.toList ∧ ∀ (pos : Pos) (cv : Value), codeAmong pos ps.toList = some cv → ∃ c, cv = .ref c ∧ H c = some (LamX.CodeO c q) ∧ c ∉ μ.m ∧ c ∉ μ.x
  | .exc x fs => ∃ (C : Addr) (d : Option Addr), ClsAt K x C ∧ H a = some (exo a C d) ∧ ((d = none ∧ fs = []) ∨ ∃ dd gs, d = some dd ∧ H dd = some (.xd gs) ∧ dd ∉ μ.m ∧ dd ∉ μ.x ∧ FsR K H μ gs fs)
  | .lam params body scope q cl => ∃ (pm : Value) (c : Addr) (ctv : Value), H a = some (LamO a params body scope q cl pm c ctv) ∧ H c = some (LamX.CodeO c q) ∧ c ∉ μ.m ∧ c ∉ μ.x
theorem KsR.dat {μ μ' : Mp} {H H' : Hp} (s : Dat μ H μ' H') : ∀ {xs ys}, KsR K H μ xs ys → KsR K H' μ' xs ys
  | _, _, .nil => .nil
  | _, _, .cons h0 h1 h2 h3 q => .cons h0 h1 (h2.dat s) (h3.dat s) (KsR.dat s q)
theorem KvR.dat {μ μ' : Mp} {H H' : Hp} (s : Dat μ H μ' H') : ∀ {xs ys}, KvR K H μ xs ys → KvR K H' μ' xs ys
  | _, _, .nil => .nil
  | _, _, .cons h3 q => .cons (h3.dat s) (KvR.dat s q)
theorem FsR.dat {μ μ' : Mp} {H H' : Hp} (s : Dat μ H μ' H') : ∀ {xs ys}, FsR K H μ xs ys → FsR K H' μ' xs ys
  | _, _, .nil => .nil
  | _, _, .cons h3 q => .cons (h3.dat s) (FsR.dat s q)
theorem KsR.later {μ μ' : Mp} {H H' : Hp} (s : Later μ H μ' H') {xs ys} (h : KsR K H μ xs ys) : KsR K H' μ' xs ys := h.dat s.dat
theorem KvR.later {μ μ' : Mp} {H H' : Hp} (s : Later μ H μ' H') {xs ys} (h : KvR K H μ xs ys) : KvR K H' μ' xs ys := h.dat s.dat
theorem FsR.later {μ μ' : Mp} {H H' : Hp} (s : Later μ H μ' H') {xs ys} (h : FsR K H μ xs ys) : FsR K H' μ' xs ys := h.dat s.dat
/-- the numbered things stand -/
structure HR (P : Program) (w : World) (K : PySem.W.Frag) (H : Hp) (μ : Mp) (S : Sto) : Prop where
  len : μ.m.length = S.length
  nd : μ.m.Nodup
  ok : ∀ (k : Nat) (a : Addr) (o : O), μ.m[k]? = some a → S[k]? = some o → OR P w K H μ a o
  there : ∀ a ∈ μ.m, H a ≠ none
  thereX : ∀ a ∈ μ.x, H a ≠ none
  dj : ∀ a ∈ μ.m, a ∉ μ.x
structure ER (K : PySem.W.Frag) (H : Hp) (μ : Mp) (σ : L2.St) (env : Env) : Prop where
  len : σ.length = env.length
  ok : ∀ (i : Nat) (d : D), env[i]? = some (some d) → ∃ v, σ[i]? = some (some v) ∧ Rv K H μ v d
theorem ER.later {μ μ' : Mp} {H H' : Hp} {σ : L2.St} {env : Env} (s : Later μ H μ' H') (e : ER K H μ σ env) : ER K H' μ' σ env :=
  ⟨e.len, fun i d h => let ⟨v, h1, h2⟩ := e.ok i d h; ⟨v, h1, h2.later s⟩⟩
variable {P : Program} {w : World}
theorem HR.free {H : Hp} {μ : Mp} {S : Sto} (h : HR P w K H μ S) {p : Addr} (n : H p = none) : p ∉ μ.m ∧ p ∉ μ.x := ⟨fun z => h.there p z n, fun z => h.thereX p z n⟩
/-- a new unnumbered thing -/
theorem HR.new {H : Hp} {μ : Mp} {S : Sto} {p : Addr} {o : HO} (h : HR P w K H μ S) (n : H p = none) : Later μ H μ (upd H p o) ∧ HR P w K (upd H p o) μ S := by
  have l : Later μ H μ (upd H p o) := ⟨⟨[], by simp⟩, fun _ h => h, fun a u e na => ⟨na, id, by rw [upd_ne (ne_of_none e n)]; exact e⟩, fun a o u e => by rw [upd_ne (ne_of_none e n)]; exact e⟩
  refine ⟨l, h.len, h.nd, fun k a u hk hs => ?_, fun a ha => ?_, fun a ha => ?_, h.dj⟩
  · have ne : a ≠ p := fun z => (h.free n).1 (z ▸ List.mem_of_getElem? hk)
    have q := h.ok k a u hk hs
    cases u with
    | lst ds =>
      obtain ⟨xs, e, r⟩ := q
      exact ⟨xs, by rw [upd_ne ne]; exact e, r.later l⟩
    | dct kvs =>
      obtain ⟨xs, e, r⟩ := q
      exact ⟨xs, by rw [upd_ne ne]; exact e, r.later l⟩
    | dks kvs =>
      obtain ⟨xs, e, r⟩ := q
      exact ⟨xs, by rw [upd_ne ne]; exact e, r.later l⟩
    | lck kvs =>
      obtain ⟨od, xs, e, r⟩ := q
      exact ⟨od, xs, by rw [upd_ne ne]; exact e, r.later l⟩
    | lks kvs =>
      obtain ⟨od, xs, e, r⟩ := q
      exact ⟨od, xs, by rw [upd_ne ne]; exact e, r.later l⟩
    | ins C fs =>
      obtain ⟨C, dx, gs, c, e, r⟩ := q
      exact ⟨C, dx, gs, c, by rw [upd_ne ne]; exact e, r.later l⟩
    | tab x m q =>
      obtain ⟨z, ps, e, r, s⟩ := q
      exact ⟨z, ps, by rw [upd_ne ne]; exact e, r, fun pos cv hc => let ⟨c, a1, a2, a3, a4⟩ := s pos cv hc; ⟨c, a1, (l.keep c _ a2 a3).2.2, a3, a4⟩⟩
    | exc x fs =>
      obtain ⟨C, d, c, e, r⟩ := q
      refine ⟨C, d, c, by rw [upd_ne ne]; exact e, ?_⟩
      rcases r with r | ⟨dd, gs, e1, e2, e3, e4, e5⟩
      · exact .inl r
      · exact .inr ⟨dd, gs, e1, (l.keep dd _ e2 e3).2.2, e3, e4, e5.later l⟩
    | lam params body scope q cl =>
      obtain ⟨pm, c, ctv, e, r, r1, r2⟩ := q
      exact ⟨pm, c, ctv, by rw [upd_ne ne]; exact e, (l.keep c _ r r1).2.2, r1, r2⟩
  · by_cases e : a = p
    · rw [e, upd_same]; simp
    · rw [upd_ne e]; exact h.there a ha
  · by_cases e : a = p
    · rw [e, upd_same]; simp
    · rw [upd_ne e]; exact h.thereX a ha
/-- a later heap that leaves the thing at a as it is -/
theorem OR.dat {μ μ' : Mp} {H H' : Hp} {a : Addr} {o : O} (s : Dat μ H μ' H') (e : H' a = H a) (h : OR P w K H μ a o) : OR P w K H' μ' a o := by
  cases o with
  | lst ds => obtain ⟨xs, e1, r⟩ := h; exact ⟨xs, e.trans e1, r.dat s⟩
  | dct ds => obtain ⟨xs, e1, r⟩ := h; exact ⟨xs, e.trans e1, r.dat s⟩
  | dks ds => obtain ⟨xs, e1, r⟩ := h; exact ⟨xs, e.trans e1, r.dat s⟩
  | lck kvs => obtain ⟨od, xs, e1, r⟩ := h; exact ⟨od, xs, e.trans e1, r.dat s⟩
  | lks kvs => obtain ⟨od, xs, e1, r⟩ := h; exact ⟨od, xs, e.trans e1, r.dat s⟩
  | ins C fs => obtain ⟨C, dx, gs, c, e1, r⟩ := h; exact ⟨C, dx, gs, c, e.trans e1, r.dat s⟩
  | tab x m q => obtain ⟨z, ps, e1, r, g⟩ := h; exact ⟨z, ps, e.trans e1, r, fun pos cv hc => let ⟨c, a1, a2, a3, a4⟩ := g pos cv hc; let ⟨b1, b2, b3⟩ := s.keep c _ a2 a3 a4; ⟨c, a1, b3, b1, b2⟩⟩
  | exc x fs =>
    obtain ⟨C, d, c, e1, r⟩ := h
    refine ⟨C, d, c, e.trans e1, ?_⟩
    rcases r with r | ⟨dd, gs, e1, e2, e3, e4, e5⟩
    · exact .inl r
    · obtain ⟨b1, b2, b3⟩ := s.keep dd _ e2 e3 e4
      exact .inr ⟨dd, gs, e1, b3, b1, b2, e5.dat s⟩
  | lam params body scope q cl =>
    obtain ⟨pm, c, ctv, e1, r, r1, r2⟩ := h
    obtain ⟨b1, b2, b3⟩ := s.keep c _ r r1 r2
    exact ⟨pm, c, ctv, e.trans e1, b3, b1, b2⟩
theorem OR.later {μ μ' : Mp} {H H' : Hp} {a : Addr} {o : O} (s : Later μ H μ' H') (e : H' a = H a) (h : OR P w K H μ a o) : OR P w K H' μ' a o := h.dat s.dat e
end J

set_option autoImplicit false
namespace J
open PySem PySem.Spec PyProof.Rows L2
def clsBody : Stmt → List Stmt
  | .ClassDef _ _ _ b _ _ _ _ _ _ _ => b
  | _ => []
def relL (f : Value → D → Bool) : List Value → List D → Bool
  | [], [] => true
  | u :: us, d :: ds => f u d && relL f us ds
  | _, _ => false
def conV (K : PySem.W.Frag) : Nat → Value → D → Bool
  | 0, _, _ => false
  | n + 1, u, d => match d with
    | .int i => match u with
      | .int j _ => decide (j = i)
      | _ => false
    | .str x => match u with
      | .str y _ => decide (y = x)
      | _ => false
    | .tup ds => match u with
      | .ref a => match K.lookup a with
        | some ⟨.type c, _, .seq its _, _⟩ => decide (c = "tuple") && (decide (its.size ≤ 1000) && relL (conV K n) its.toList ds)
        | _ => false
      | _ => false
    | _ => false
def conB (K : PySem.W.Frag) (x : Str) (d : D) : Bool := match PySem.W.nsIn K mainGlobals x with
  | some (some u) => conV K 4 u d
  | _ => false
def entL (K : PySem.W.Frag) : List DictEntry → List (Str × D) → Bool
  | [], [] => true
  | e :: es, (x, d) :: kvs => (match e.key with
    | .str y _ => decide (y = x)
    | _ => false) && (conV K 4 e.val d && entL K es kvs)
  | _, _ => false
def dctB (K : PySem.W.Frag) (x : Str) (kvs : List (Str × D)) : Bool := match PySem.W.nsIn K mainGlobals x with
  | some (some (.ref p)) => match K.lookup p with
    | some ⟨.type c, none, .dict es _, sl⟩ => decide (c = "dict") && (sl.isEmpty && entL K es.toList kvs)
    | _ => false
  | _ => false
/-! a head's facts over written addresses -/
def obsL (as : List Addr) (fa : List He.Fa) (fn : List He.DefD) (ts : List He.Tab) (ex : PySem.W.Frag → Bool) (g : Addr → Option Obj) : He.AlT × Bool := (He.obsT fa fn ts (He.frG g as), ex (He.frG g as))
structure SaysL (fa : List He.Fa) (fn : List He.DefD) (ts : List He.Tab) (ex : PySem.W.Frag → Bool) (w : World) (K : PySem.W.Frag) : Prop where
  t : He.SaysT fa fn ts w K
  more : ex K = true
def hookL (as : List Addr) (fa : List He.Fa) (fn : List He.DefD) (ts : List He.Tab) (ex : PySem.W.Frag → Bool) : PySem.W.Hook where
  α := He.AlT × Bool
  obs s := obsL as fa fn ts ex s.heap.get?
  val w := (He.valT fn ts w, true)
  says w h := ∃ K, K.In h ∧ SaysL fa fn ts ex w K
  of w s h := ⟨He.frG s.heap.get? as, He.frG_in, ⟨congrArg Prod.fst h, congrArg Prod.snd h⟩⟩
  keeps w h h' := fun ⟨K, X, c⟩ k => ⟨K, fun b o e => k b o (X b o e), c⟩
end J

set_option autoImplicit false
namespace J
open PySem PySem.Spec PyProof.Rows L2
def topS (i : Nat) : Stmt := PySem.Challenge.pw_callsover_k22_errors_made.main.body.getD i (.Pass ⟨0, 0, 0, 0⟩)
def methS (i j : Nat) : Stmt := (clsBody (topS i)).getD j (.Pass ⟨0, 0, 0, 0⟩)
abbrev s_NoAnswer___init__ : Stmt := methS 16 0
abbrev s_NoBase___init__ : Stmt := methS 3 0
abbrev s_NoBranch___init__ : Stmt := methS 13 0
abbrev s_NoCell___init__ : Stmt := methS 14 0
abbrev s_NoDepth___init__ : Stmt := methS 15 0
abbrev s_NoHistory___init__ : Stmt := methS 9 0
abbrev s_NoName___init__ : Stmt := methS 7 0
abbrev s_NoNumber___init__ : Stmt := methS 8 0
abbrev s_NoPart___init__ : Stmt := methS 11 0
abbrev s_NoRun___init__ : Stmt := methS 12 0
abbrev s_NoText___init__ : Stmt := methS 4 0
abbrev s_NotAsked___init__ : Stmt := methS 17 0
abbrev s_Over___init__ : Stmt := methS 18 0
abbrev s__law_bag : Stmt := topS 20
abbrev s__law_take : Stmt := topS 21
abbrev s__law_any : Stmt := topS 22
abbrev s__law_kinds : Stmt := topS 23
abbrev s__law_field : Stmt := topS 24
abbrev s_copied : Stmt := topS 1
abbrev s_law : Stmt := topS 25
end J

set_option autoImplicit false
/-! what a head's run looks at: facts over written addresses, exception classes (stands early in the joined text) -/
namespace J
open PySem PySem.Spec PyProof.Rows L2
def obsLT (as : List Addr) (fa : List He.Fa) (fn : List He.DefD) (ts : List He.Tab) (tf : List He.Defn) (ex : PySem.W.Frag → Bool) (g : Addr → Option Obj) : He.AlT × Bool := (He.obsT fa fn ts (He.frT g as), ex (He.frT g as) && He.tabsB g tf (He.frT g as))
structure SaysLT (fa : List He.Fa) (fn : List He.DefD) (ts : List He.Tab) (tf : List He.Defn) (ex : PySem.W.Frag → Bool) (w : World) (h : Heap) (K : PySem.W.Frag) : Prop where
  t : He.SaysT fa fn ts w K
  more : ex K = true
  hd : ∀ p ∈ tf, PySem.W.codeHdIn K (He.cT K p).1 (He.cT K p).2 = true
  out : ∀ p ∈ tf, K.lookup (He.cT K p).2 = none
  empty : ∀ p ∈ tf, h.get? (He.cT K p).2 = some { cls := .none, data := .fields #[] }
theorem saysLT_of {as : List Addr} {fa : List He.Fa} {fn : List He.DefD} {ts : List He.Tab} {tf : List He.Defn} {ex : PySem.W.Frag → Bool} {w : World} {h : Heap} (e : obsLT as fa fn ts tf ex h.get? = (He.valT fn ts w, true)) : SaysLT fa fn ts tf ex w h (He.frT h.get? as) := by
  have e1 : He.obsT fa fn ts (He.frT h.get? as) = He.valT fn ts w := congrArg Prod.fst e
  have e2 : (ex (He.frT h.get? as) && He.tabsB h.get? tf (He.frT h.get? as)) = true := congrArg Prod.snd e
  rw [Bool.and_eq_true] at e2
  obtain ⟨h1, h2⟩ := e2
  have key : ∀ p ∈ tf, PySem.W.codeHdIn (He.frT h.get? as) (He.cT (He.frT h.get? as) p).1 (He.cT (He.frT h.get? as) p).2 = true ∧ ∃ o, h.get? (He.cT (He.frT h.get? as) p).2 = some o ∧ He.emptyTab o = true := fun p hp => by
    have z := List.all_eq_true.mp h2 p hp
    rw [Bool.and_eq_true] at z
    refine ⟨z.1, ?_⟩
    have z2 := z.2
    cases q : h.get? (He.cT (He.frT h.get? as) p).2 with
    | none => rw [q] at z2; cases z2
    | some o => rw [q] at z2; exact ⟨o, rfl, z2⟩
  exact ⟨e1, h1, fun p hp => (key p hp).1, fun p hp => let ⟨_, o, q, z⟩ := key p hp; He.frT_none q z, fun p hp => by
    obtain ⟨_, o, q, z⟩ := key p hp
    rw [q, He.emptyTab_eq z]⟩
def hookLT (as : List Addr) (fa : List He.Fa) (fn : List He.DefD) (ts : List He.Tab) (tf : List He.Defn) (ex : PySem.W.Frag → Bool) : PySem.W.Hook where
  α := He.AlT × Bool
  obs s := obsLT as fa fn ts tf ex s.heap.get?
  val w := (He.valT fn ts w, true)
  says w h := ∃ K : PySem.W.Frag, K.In h ∧ SaysLT fa fn ts tf ex w h K
  of w s h := ⟨_, He.frT_in, saysLT_of h⟩
  keeps w h h' := fun ⟨K, X, c⟩ k => ⟨K, fun b o e => k b o (X b o e), ⟨c.t, c.more, c.hd, c.out, fun p hp => k _ _ (c.empty p hp)⟩⟩
theorem obsLT_eq {as : List Addr} {fa : List He.Fa} {fn : List He.DefD} {ts : List He.Tab} {tf : List He.Defn} {ex : PySem.W.Frag → Bool} {g : Addr → Option Obj} {s : Shared} (h : ∀ a, g a = s.heap.get? a) : obsLT as fa fn ts tf ex g = (hookLT as fa fn ts tf ex).obs s := by
  have : g = s.heap.get? := funext h
  rw [this]
  rfl
def excB (K : PySem.W.Frag) (C : Addr) (bmB : List Value) (newId : String) : Bool := match K.lookup C with
  | some ⟨.type t, _, .cls cd, sl⟩ => decide (t = "type") && (decide (cd.mro = .ref C :: bmB) && (cd.hasDict && (!cd.hasDel && (match sl.toList with
    | [_, _, _, _, some (.builtin n), _] => decide (n = newId)
    | _ => false))))
  | _ => false
/-- all that a class x with its own __init__ keeping f must show -/
def oxB (K : PySem.W.Frag) (x f : Str) (bmB : List Value) (newId : String) : Bool :=
  excB K (He.ga K x) bmB newId && (He.eqO (PySem.W.findIn K (.ref (He.ga K x)) "__setattr__") (some (some (.builtin "object.__setattr__"))) && (He.eqO (PySem.W.findIn K (.ref (He.ga K x)) "__getattribute__") (some (some (.builtin "BaseException.__getattribute__"))) &&
    (He.eqO (PySem.W.findIn K (.ref (He.ga K x)) "__getattr__") (some none) && (He.eqO (PySem.W.findIn K (.ref (He.ga K x)) f) (some none) && (He.eqO (PySem.W.findIn K (.ref (He.ga K x)) "__init__") (some (some (.ref (He.ma K (He.ga K x) "__init__")))) &&
      (decide (PySem.W.typeIn K (.ref (He.ma K (He.ga K x) "__init__")) = some (.type "function")) && (PySem.W.keepIn K (.ref (He.ga K x)) && (decide (PySem.W.subIn K (.ref (He.ga K x)) (.type "BaseException") = some true) &&
        (decide (PySem.W.typeIn K (.ref (He.ga K x)) = some (.type "type")) && (PySem.W.hasDictIn K (He.ga K x) && decide (PySem.W.exmOne K (.ref (He.ga K x)) (.ref (He.ga K x)) = some true)))))))))))
/-- what isinstance of a handled exception of the class x asks -/
def excC_B (K : PySem.W.Frag) (x : Str) : Bool :=
  He.eqO (PySem.W.findIn K (.ref (He.ga K x)) "__getattribute__") (some (some (.builtin "BaseException.__getattribute__"))) && (He.eqO (PySem.W.findIn K (.ref (He.ga K x)) "__getattr__") (some none) && (decide (PySem.W.subIn K (.ref (He.ga K x)) (.type "BaseException") = some true) && (PySem.W.hasDictIn K (He.ga K x) &&
    (He.eqO (PySem.W.findIn K (.ref (He.ga K x)) "__class__") (some (some (.builtin "object.__class__"))) && (He.eqO (PySem.W.specialIn K (.builtin "object.__class__") "__get__") (some (some (.builtin "getset_descriptor.__get__"))) && (decide (PySem.W.takesIn K (.builtin "object.__class__") = some true) && decide (PySem.W.mroIn K (He.ga K x) (.type "object") = some true)))))))
def kitCB (K : PySem.W.Frag) (x y : Str) (b : Bool) : Bool := decide (PySem.W.kitOne K (.ref (He.ga K x)) (.ref (He.ga K y)) = some b)
def kitCT (K : PySem.W.Frag) (x : Str) (t : String) (b : Bool) : Bool := decide (PySem.W.kitOne K (.ref (He.ga K x)) (.type t) = some b)
/-- all that such a class must show -/
def ox0B (K : PySem.W.Frag) (x : Str) (bmB : List Value) (newId : String) : Bool :=
  PySem.W.excIn K (He.ga K x) bmB newId && (PySem.W.keepIn K (.ref (He.ga K x)) && (decide (PySem.W.subIn K (.ref (He.ga K x)) (.type "BaseException") = some true) && (decide (PySem.W.typeIn K (.ref (He.ga K x)) = some (.type "type")) && decide (PySem.W.exmOne K (.ref (He.ga K x)) (.ref (He.ga K x)) = some true))))
def excAllB (K : PySem.W.Frag) (xs : List Str) : Bool := xs.all fun x => excC_B K x
def kitRowB (K : PySem.W.Frag) (y : Str) (row : List (Str × Bool)) : Bool := row.all fun p => kitCB K p.1 y p.2
def kitRowT (K : PySem.W.Frag) (t : String) (row : List (Str × Bool)) : Bool := row.all fun p => kitCT K p.1 t p.2
end J

set_option autoImplicit false
namespace J
open PySem PySem.Spec PyProof.Rows L2
theorem hop (h : (PySem.W.OpenLaw.row PySem.Challenge.rw_callsover_k22_errors_made).wellSaid = true → (PySem.W.OpenLaw.row PySem.Challenge.rw_callsover_k22_errors_made).Holds) : PySem.Challenge.rw_callsover_k22_errors_made.Holds := by
  w_on; o_law
  exact h (by assumption)
def hfa0 : List He.Fa := [.glo "_law_bag", .glo "_law_take", .glo "_law_any", .glo "_law_kinds", .glo "_law_field", .glo "copied", .glo "law", .glo "NoBase", .glo "NoText", .glo "NoRows", .glo "NoStand", .glo "NoName"]
def hfa1 : List He.Fa := [.glo "NoNumber", .glo "NoHistory", .glo "NoCommand", .glo "NoPart", .glo "NoRun", .glo "NoBranch", .glo "NoCell", .glo "NoDepth", .glo "NoAnswer", .glo "NotAsked", .glo "Over", .free "len"]
def hfa2 : List He.Fa := [.free "abs", .free "isinstance", .free "IndexError", .free "KeyError", .free "ValueError", .free "RuntimeError", .free "LookupError", .free "list", .free "tuple", .free "repr", .free "range", .free "max"]
def hfa3 : List He.Fa := [.free "min"]
abbrev hfa : List He.Fa := hfa0 ++ (hfa1 ++ (hfa2 ++ (hfa3)))
def hfn0 : List He.DefD := [⟨("_law_bag", none), "_law_bag", "_law_bag", defArgs s__law_bag, defBody s__law_bag, defScope s__law_bag, [], []⟩, ⟨("_law_take", none), "_law_take", "_law_take", defArgs s__law_take, defBody s__law_take, defScope s__law_take, [], []⟩, ⟨("_law_any", none), "_law_any", "_law_any", defArgs s__law_any, defBody s__law_any, defScope s__law_any, [], []⟩, ⟨("_law_kinds", none), "_law_kinds", "_law_kinds", defArgs s__law_kinds, defBody s__law_kinds, defScope s__law_kinds, [], []⟩, ⟨("_law_field", none), "_law_field", "_law_field", defArgs s__law_field, defBody s__law_field, defScope s__law_field, [], []⟩, ⟨("copied", none), "copied", "copied", defArgs s_copied, defBody s_copied, defScope s_copied, [], []⟩, ⟨("law", none), "law", "law", defArgs s_law, defBody s_law, defScope s_law, [], []⟩, ⟨("NoAnswer", some "__init__"), "__init__", "NoAnswer.__init__", defArgs s_NoAnswer___init__, defBody s_NoAnswer___init__, defScope s_NoAnswer___init__, [], []⟩, ⟨("NoBase", some "__init__"), "__init__", "NoBase.__init__", defArgs s_NoBase___init__, defBody s_NoBase___init__, defScope s_NoBase___init__, [], []⟩, ⟨("NoBranch", some "__init__"), "__init__", "NoBranch.__init__", defArgs s_NoBranch___init__, defBody s_NoBranch___init__, defScope s_NoBranch___init__, [], []⟩, ⟨("NoCell", some "__init__"), "__init__", "NoCell.__init__", defArgs s_NoCell___init__, defBody s_NoCell___init__, defScope s_NoCell___init__, [], []⟩, ⟨("NoDepth", some "__init__"), "__init__", "NoDepth.__init__", defArgs s_NoDepth___init__, defBody s_NoDepth___init__, defScope s_NoDepth___init__, [], []⟩]
def hfn1 : List He.DefD := [⟨("NoHistory", some "__init__"), "__init__", "NoHistory.__init__", defArgs s_NoHistory___init__, defBody s_NoHistory___init__, defScope s_NoHistory___init__, [], []⟩, ⟨("NoName", some "__init__"), "__init__", "NoName.__init__", defArgs s_NoName___init__, defBody s_NoName___init__, defScope s_NoName___init__, [], []⟩, ⟨("NoNumber", some "__init__"), "__init__", "NoNumber.__init__", defArgs s_NoNumber___init__, defBody s_NoNumber___init__, defScope s_NoNumber___init__, [], []⟩, ⟨("NoPart", some "__init__"), "__init__", "NoPart.__init__", defArgs s_NoPart___init__, defBody s_NoPart___init__, defScope s_NoPart___init__, [], []⟩, ⟨("NoRun", some "__init__"), "__init__", "NoRun.__init__", defArgs s_NoRun___init__, defBody s_NoRun___init__, defScope s_NoRun___init__, [], []⟩, ⟨("NoText", some "__init__"), "__init__", "NoText.__init__", defArgs s_NoText___init__, defBody s_NoText___init__, defScope s_NoText___init__, [], []⟩, ⟨("NotAsked", some "__init__"), "__init__", "NotAsked.__init__", defArgs s_NotAsked___init__, defBody s_NotAsked___init__, defScope s_NotAsked___init__, [], []⟩, ⟨("Over", some "__init__"), "__init__", "Over.__init__", defArgs s_Over___init__, defBody s_Over___init__, defScope s_Over___init__, [], []⟩]
abbrev hfn : List He.DefD := hfn0 ++ (hfn1)
def hts : List He.Tab := []
def hex (K : PySem.W.Frag) : Bool := (oxB K "NoAnswer" "run" [.type "LookupError", .type "Exception", .type "BaseException", .type "object"] "LookupError.__new__" && (oxB K "NoBase" "base" [.type "ValueError", .type "Exception", .type "BaseException", .type "object"] "ValueError.__new__" && (oxB K "NoBranch" "at" [.type "IndexError", .type "LookupError", .type "Exception", .type "BaseException", .type "object"] "IndexError.__new__" && (oxB K "NoCell" "cell" [.type "IndexError", .type "LookupError", .type "Exception", .type "BaseException", .type "object"] "IndexError.__new__" && (oxB K "NoDepth" "depth" [.type "IndexError", .type "LookupError", .type "Exception", .type "BaseException", .type "object"] "IndexError.__new__" && (oxB K "NoHistory" "at" [.type "ValueError", .type "Exception", .type "BaseException", .type "object"] "ValueError.__new__" && (oxB K "NoName" "name" [.type "ValueError", .type "Exception", .type "BaseException", .type "object"] "ValueError.__new__" && (oxB K "NoNumber" "number" [.type "ValueError", .type "Exception", .type "BaseException", .type "object"] "ValueError.__new__" && (oxB K "NoPart" "name" [.type "KeyError", .type "LookupError", .type "Exception", .type "BaseException", .type "object"] "LookupError.__new__" && (oxB K "NoRun" "run" [.type "KeyError", .type "LookupError", .type "Exception", .type "BaseException", .type "object"] "LookupError.__new__" && (oxB K "NoText" "row" [.type "ValueError", .type "Exception", .type "BaseException", .type "object"] "ValueError.__new__" && (oxB K "NotAsked" "run" [.type "RuntimeError", .type "Exception", .type "BaseException", .type "object"] "RuntimeError.__new__" && (oxB K "Over" "run" [.type "RuntimeError", .type "Exception", .type "BaseException", .type "object"] "RuntimeError.__new__" && (ox0B K "NoCommand" [.type "ValueError", .type "Exception", .type "BaseException", .type "object"] "ValueError.__new__" && (ox0B K "NoStand" [.type "ValueError", .type "Exception", .type "BaseException", .type "object"] "ValueError.__new__" && (ox0B K "NoRows" [.type "ValueError", .type "Exception", .type "BaseException", .type "object"] "ValueError.__new__" && (excAllB K ["NoBase", "NoText", "NoRows", "NoStand", "NoName", "NoNumber", "NoHistory", "NoCommand", "NoPart", "NoRun", "NoBranch", "NoCell", "NoDepth", "NoAnswer", "NotAsked", "Over"] && (kitRowB K "NoStand" [("NoBase", false), ("NoText", false), ("NoRows", false), ("NoStand", true), ("NoName", false), ("NoNumber", false), ("NoHistory", false), ("NoCommand", false), ("NoPart", false), ("NoRun", false), ("NoBranch", false), ("NoCell", false), ("NoDepth", false), ("NoAnswer", false), ("NotAsked", false), ("Over", false)] && (kitRowB K "NoRows" [("NoBase", false), ("NoText", false), ("NoRows", true), ("NoStand", false), ("NoName", false), ("NoNumber", false), ("NoHistory", false), ("NoCommand", false), ("NoPart", false), ("NoRun", false), ("NoBranch", false), ("NoCell", false), ("NoDepth", false), ("NoAnswer", false), ("NotAsked", false), ("Over", false)] && (kitRowB K "NoText" [("NoBase", false), ("NoText", true), ("NoRows", false), ("NoStand", false), ("NoName", false), ("NoNumber", false), ("NoHistory", false), ("NoCommand", false), ("NoPart", false), ("NoRun", false), ("NoBranch", false), ("NoCell", false), ("NoDepth", false), ("NoAnswer", false), ("NotAsked", false), ("Over", false)] && (kitRowB K "NoBase" [("NoBase", true), ("NoText", false), ("NoRows", false), ("NoStand", false), ("NoName", false), ("NoNumber", false), ("NoHistory", false), ("NoCommand", false), ("NoPart", false), ("NoRun", false), ("NoBranch", false), ("NoCell", false), ("NoDepth", false), ("NoAnswer", false), ("NotAsked", false), ("Over", false)] && (kitRowB K "NoHistory" [("NoBase", false), ("NoText", false), ("NoRows", false), ("NoStand", false), ("NoName", false), ("NoNumber", false), ("NoHistory", true), ("NoCommand", false), ("NoPart", false), ("NoRun", false), ("NoBranch", false), ("NoCell", false), ("NoDepth", false), ("NoAnswer", false), ("NotAsked", false), ("Over", false)] && (kitRowB K "NoNumber" [("NoBase", false), ("NoText", false), ("NoRows", false), ("NoStand", false), ("NoName", false), ("NoNumber", true), ("NoHistory", false), ("NoCommand", false), ("NoPart", false), ("NoRun", false), ("NoBranch", false), ("NoCell", false), ("NoDepth", false), ("NoAnswer", false), ("NotAsked", false), ("Over", false)] && (kitRowB K "NoName" [("NoBase", false), ("NoText", false), ("NoRows", false), ("NoStand", false), ("NoName", true), ("NoNumber", false), ("NoHistory", false), ("NoCommand", false), ("NoPart", false), ("NoRun", false), ("NoBranch", false), ("NoCell", false), ("NoDepth", false), ("NoAnswer", false), ("NotAsked", false), ("Over", false)] && (kitRowB K "NoRun" [("NoBase", false), ("NoText", false), ("NoRows", false), ("NoStand", false), ("NoName", false), ("NoNumber", false), ("NoHistory", false), ("NoCommand", false), ("NoPart", false), ("NoRun", true), ("NoBranch", false), ("NoCell", false), ("NoDepth", false), ("NoAnswer", false), ("NotAsked", false), ("Over", false)] && (kitRowB K "NoPart" [("NoBase", false), ("NoText", false), ("NoRows", false), ("NoStand", false), ("NoName", false), ("NoNumber", false), ("NoHistory", false), ("NoCommand", false), ("NoPart", true), ("NoRun", false), ("NoBranch", false), ("NoCell", false), ("NoDepth", false), ("NoAnswer", false), ("NotAsked", false), ("Over", false)] && (kitRowB K "NoCommand" [("NoBase", false), ("NoText", false), ("NoRows", false), ("NoStand", false), ("NoName", false), ("NoNumber", false), ("NoHistory", false), ("NoCommand", true), ("NoPart", false), ("NoRun", false), ("NoBranch", false), ("NoCell", false), ("NoDepth", false), ("NoAnswer", false), ("NotAsked", false), ("Over", false)] && (kitRowB K "NoDepth" [("NoBase", false), ("NoText", false), ("NoRows", false), ("NoStand", false), ("NoName", false), ("NoNumber", false), ("NoHistory", false), ("NoCommand", false), ("NoPart", false), ("NoRun", false), ("NoBranch", false), ("NoCell", false), ("NoDepth", true), ("NoAnswer", false), ("NotAsked", false), ("Over", false)] && (kitRowB K "NoCell" [("NoBase", false), ("NoText", false), ("NoRows", false), ("NoStand", false), ("NoName", false), ("NoNumber", false), ("NoHistory", false), ("NoCommand", false), ("NoPart", false), ("NoRun", false), ("NoBranch", false), ("NoCell", true), ("NoDepth", false), ("NoAnswer", false), ("NotAsked", false), ("Over", false)] && (kitRowB K "NoBranch" [("NoBase", false), ("NoText", false), ("NoRows", false), ("NoStand", false), ("NoName", false), ("NoNumber", false), ("NoHistory", false), ("NoCommand", false), ("NoPart", false), ("NoRun", false), ("NoBranch", true), ("NoCell", false), ("NoDepth", false), ("NoAnswer", false), ("NotAsked", false), ("Over", false)] && (kitRowB K "Over" [("NoBase", false), ("NoText", false), ("NoRows", false), ("NoStand", false), ("NoName", false), ("NoNumber", false), ("NoHistory", false), ("NoCommand", false), ("NoPart", false), ("NoRun", false), ("NoBranch", false), ("NoCell", false), ("NoDepth", false), ("NoAnswer", false), ("NotAsked", false), ("Over", true)] && (kitRowB K "NotAsked" [("NoBase", false), ("NoText", false), ("NoRows", false), ("NoStand", false), ("NoName", false), ("NoNumber", false), ("NoHistory", false), ("NoCommand", false), ("NoPart", false), ("NoRun", false), ("NoBranch", false), ("NoCell", false), ("NoDepth", false), ("NoAnswer", false), ("NotAsked", true), ("Over", false)] && (kitRowB K "NoAnswer" [("NoBase", false), ("NoText", false), ("NoRows", false), ("NoStand", false), ("NoName", false), ("NoNumber", false), ("NoHistory", false), ("NoCommand", false), ("NoPart", false), ("NoRun", false), ("NoBranch", false), ("NoCell", false), ("NoDepth", false), ("NoAnswer", true), ("NotAsked", false), ("Over", false)] && (kitRowT K "IndexError" [("NoBase", false), ("NoText", false), ("NoRows", false), ("NoStand", false), ("NoName", false), ("NoNumber", false), ("NoHistory", false), ("NoCommand", false), ("NoPart", false), ("NoRun", false), ("NoBranch", true), ("NoCell", true), ("NoDepth", true), ("NoAnswer", false), ("NotAsked", false), ("Over", false)] && (kitRowT K "KeyError" [("NoBase", false), ("NoText", false), ("NoRows", false), ("NoStand", false), ("NoName", false), ("NoNumber", false), ("NoHistory", false), ("NoCommand", false), ("NoPart", true), ("NoRun", true), ("NoBranch", false), ("NoCell", false), ("NoDepth", false), ("NoAnswer", false), ("NotAsked", false), ("Over", false)] && (kitRowT K "ValueError" [("NoBase", true), ("NoText", true), ("NoRows", true), ("NoStand", true), ("NoName", true), ("NoNumber", true), ("NoHistory", true), ("NoCommand", true), ("NoPart", false), ("NoRun", false), ("NoBranch", false), ("NoCell", false), ("NoDepth", false), ("NoAnswer", false), ("NotAsked", false), ("Over", false)] && (kitRowT K "RuntimeError" [("NoBase", false), ("NoText", false), ("NoRows", false), ("NoStand", false), ("NoName", false), ("NoNumber", false), ("NoHistory", false), ("NoCommand", false), ("NoPart", false), ("NoRun", false), ("NoBranch", false), ("NoCell", false), ("NoDepth", false), ("NoAnswer", false), ("NotAsked", true), ("Over", true)] && (kitRowT K "LookupError" [("NoBase", false), ("NoText", false), ("NoRows", false), ("NoStand", false), ("NoName", false), ("NoNumber", false), ("NoHistory", false), ("NoCommand", false), ("NoPart", true), ("NoRun", true), ("NoBranch", true), ("NoCell", true), ("NoDepth", true), ("NoAnswer", true), ("NotAsked", false), ("Over", false)] && true))))))))))))))))))))))))))))))))))))))
def hnm0 : List Str := [("copied" : Str), ("NoBase" : Str), ("NoText" : Str), ("NoRows" : Str), ("NoStand" : Str), ("NoName" : Str), ("NoNumber" : Str), ("NoHistory" : Str), ("NoCommand" : Str), ("NoPart" : Str), ("NoRun" : Str), ("NoBranch" : Str)]
def hnm1 : List Str := [("NoCell" : Str), ("NoDepth" : Str), ("NoAnswer" : Str), ("NotAsked" : Str), ("Over" : Str), ("_law_bag" : Str), ("_law_take" : Str), ("_law_any" : Str), ("_law_kinds" : Str), ("_law_field" : Str)]
abbrev hnm : List Str := hnm0 ++ (hnm1)
abbrev hR : PySem.W.OpenRow := PySem.W.OpenLaw.row PySem.Challenge.rw_callsover_k22_errors_made
def had0 : List Addr := [3, 325, 332, 339, 344, 351, 19, 356, 324, 331, 338, 343]
def had1 : List Addr := [350, 18, 355, 36, 56, 69, 82, 102, 122, 142, 155, 175]
def had2 : List Addr := [195, 215, 235, 255, 275, 295, 315, 35, 55, 68, 81, 101]
def had3 : List Addr := [121, 141, 154, 174, 194, 214, 234, 254, 274, 294, 314, 33]
def had4 : List Addr := [34, 37, 53, 54, 57, 67, 70, 80, 83, 99, 100, 103]
def had5 : List Addr := [119, 120, 123, 139, 140, 143, 153, 156, 172, 173, 176, 192]
def had6 : List Addr := [193, 196, 212, 213, 216, 232, 233, 236, 252, 253, 256, 272]
def had7 : List Addr := [273, 276, 292, 293, 296, 312, 313, 316, 32, 52, 98, 118]
def had8 : List Addr := [138, 171, 191, 211, 231, 251, 271, 291, 311]
abbrev had : List Addr := had0 ++ (had1 ++ (had2 ++ (had3 ++ (had4 ++ (had5 ++ (had6 ++ (had7 ++ (had8))))))))
def htf : List He.Defn := []
abbrev hk : PySem.W.Hook := hookLT had hfa hfn hts htf hex
def hob (s : PySem.W.SharedT) : He.AlT × Bool := obsLT had hfa hfn hts htf hex (HandSHeadRun.getT s)
theorem hob_eq (s : PySem.W.SharedT) : hob s = hk.obs s.abs := obsLT_eq (HandSHeadRun.getT_eq s)
theorem run3 {r : PySem.W.OpenRow} {q : Program} {H : PySem.W.Hook} {ob : PySem.W.SharedT → H.α} {M : Nat} {loose : List PySem.Str} {w : World}
    (hA : ∀ os : OsState, (HandSHeadRun.endF (HandSHeadRun.stepQ (HandSHeadRun.denQ HandSHeadRun.tabQ) r.prog w) M r.prog w os).map (fun s => HandSHeadRun.looksF r.prog (PySem.W.boot_heap w.params) s.abs) = some true)
    (hB : ∀ os : OsState, (HandSHeadRun.endF (HandSHeadRun.stepQ (HandSHeadRun.denQ HandSHeadRun.tabQ) r.prog w) M r.prog w os).map (fun s => HandSHeadRun.seenQ q loose (PySem.importedModules r.prog.main.body) (fun s => PySem.W.xlAt q [] s && PySem.W.recOk r.toRowW.records s) s.abs) = some (PySem.W.openGood q loose))
    (hC : ∀ os : OsState, (HandSHeadRun.endF (HandSHeadRun.stepQ (HandSHeadRun.denQ HandSHeadRun.tabQ) r.prog w) M r.prog w os).map (fun s => ob s) = some (H.val w)) : HandSHeadRun.RunEq r q H ob M loose w := by
  intro os
  have h1 := hA os
  have h2 := hB os
  have h3 := hC os
  revert h1 h2 h3
  generalize HandSHeadRun.endF (HandSHeadRun.stepQ (HandSHeadRun.denQ HandSHeadRun.tabQ) r.prog w) M r.prog w os = o
  intro h1 h2 h3
  cases o with
  | none => cases h1
  | some s =>
    simp only [Option.map_some, Option.some.injEq] at h1 h2 h3 ⊢
    rw [h1, h2, h3]
theorem hpA0 (w : World) (os : OsState) : (HandSHeadRun.endF (HandSHeadRun.stepQ (HandSHeadRun.denQ HandSHeadRun.tabQ) hR.prog (w.withFollow "special-get-raises" false)) 12000 hR.prog (w.withFollow "special-get-raises" false) os).map (fun s => HandSHeadRun.looksF hR.prog (PySem.W.boot_heap (w.withFollow "special-get-raises" false).params) s.abs) = some true := by kernel_rfl
theorem hpB0 (w : World) (os : OsState) : (HandSHeadRun.endF (HandSHeadRun.stepQ (HandSHeadRun.denQ HandSHeadRun.tabQ) hR.prog (w.withFollow "special-get-raises" false)) 12000 hR.prog (w.withFollow "special-get-raises" false) os).map (fun s => HandSHeadRun.seenQ (PySem.W.view hR.prog [25]) hnm (PySem.importedModules hR.prog.main.body) (fun s => PySem.W.xlAt (PySem.W.view hR.prog [25]) [] s && PySem.W.recOk hR.toRowW.records s) s.abs) = some (PySem.W.openGood (PySem.W.view hR.prog [25]) hnm) := by kernel_rfl
theorem hpC0 (w : World) (os : OsState) : (HandSHeadRun.endF (HandSHeadRun.stepQ (HandSHeadRun.denQ HandSHeadRun.tabQ) hR.prog (w.withFollow "special-get-raises" false)) 12000 hR.prog (w.withFollow "special-get-raises" false) os).map (fun s => hob s) = some (hk.val (w.withFollow "special-get-raises" false)) := by kernel_rfl
theorem hrun0 (w : World) : HandSHeadRun.RunEq hR (PySem.W.view hR.prog [25]) hk hob 12000 hnm (w.withFollow "special-get-raises" false) := run3 (hpA0 w) (hpB0 w) (hpC0 w)
theorem hpA1 (w : World) (os : OsState) : (HandSHeadRun.endF (HandSHeadRun.stepQ (HandSHeadRun.denQ HandSHeadRun.tabQ) hR.prog (w.withFollow "special-get-raises" true)) 12000 hR.prog (w.withFollow "special-get-raises" true) os).map (fun s => HandSHeadRun.looksF hR.prog (PySem.W.boot_heap (w.withFollow "special-get-raises" true).params) s.abs) = some true := by kernel_rfl
theorem hpB1 (w : World) (os : OsState) : (HandSHeadRun.endF (HandSHeadRun.stepQ (HandSHeadRun.denQ HandSHeadRun.tabQ) hR.prog (w.withFollow "special-get-raises" true)) 12000 hR.prog (w.withFollow "special-get-raises" true) os).map (fun s => HandSHeadRun.seenQ (PySem.W.view hR.prog [25]) hnm (PySem.importedModules hR.prog.main.body) (fun s => PySem.W.xlAt (PySem.W.view hR.prog [25]) [] s && PySem.W.recOk hR.toRowW.records s) s.abs) = some (PySem.W.openGood (PySem.W.view hR.prog [25]) hnm) := by kernel_rfl
theorem hpC1 (w : World) (os : OsState) : (HandSHeadRun.endF (HandSHeadRun.stepQ (HandSHeadRun.denQ HandSHeadRun.tabQ) hR.prog (w.withFollow "special-get-raises" true)) 12000 hR.prog (w.withFollow "special-get-raises" true) os).map (fun s => hob s) = some (hk.val (w.withFollow "special-get-raises" true)) := by kernel_rfl
theorem hrun1 (w : World) : HandSHeadRun.RunEq hR (PySem.W.view hR.prog [25]) hk hob 12000 hnm (w.withFollow "special-get-raises" true) := run3 (hpA1 w) (hpB1 w) (hpC1 w)
theorem hrun (w : World) : HandSHeadRun.RunEq hR (PySem.W.view hR.prog [25]) hk hob 12000 hnm w := PySem.W.byRow2 "special-get-raises" (P := fun w => HandSHeadRun.RunEq hR (PySem.W.view hR.prog [25]) hk hob 12000 hnm w) hrun0 hrun1 w
end J

set_option autoImplicit false
namespace J
open PySem PySem.Spec PyProof.Rows L2
abbrev FE := Env → Sto → Option (D × Sto)
abbrev FT := Env → Sto → Option (Bool × Sto)
abbrev FA := Env → Sto → Option (List D × Sto)
inductive Fl where
  | nx | rt (d : D) | bk | ct | xc (x : Str) (fs : List (Str × D))
abbrev FS := Env → Sto → Option (Fl × Env × Sto)
/-- an expression computes what f computes -/
def JE (X : Cx) (e : Expr) (f : FE) : Prop := ∃ t : TE, PE X e t ∧ ∀ (σ : L2.St) (H : Hp) (μ : Mp) (env : Env) (S : Sto) (d : D) (S' : Sto) (Q : VK), HR X.prog X.w X.K H μ S → ER X.K H μ σ env → f env S = some (d, S') →
  (∀ v H' μ', Later μ H μ' H' → HR X.prog X.w X.K H' μ' S' → Rv X.K H' μ' v d → Q v H') → t σ H Q
def JT (X : Cx) (e : Expr) (f : FT) : Prop := ∃ t : TT, PT X e t ∧ ∀ (σ : L2.St) (H : Hp) (μ : Mp) (env : Env) (S : Sto) (d : Bool) (S' : Sto) (Q : Bool → Hp → Prop), HR X.prog X.w X.K H μ S → ER X.K H μ σ env → f env S = some (d, S') →
  (∀ H' μ', Later μ H μ' H' → HR X.prog X.w X.K H' μ' S' → Q d H') → t σ H Q
def JW (X : Cx) (e : Expr) (f : FT) : Prop := ∃ t : TT, PW X e t ∧ ∀ (σ : L2.St) (H : Hp) (μ : Mp) (env : Env) (S : Sto) (d : Bool) (S' : Sto) (Q : Bool → Hp → Prop), HR X.prog X.w X.K H μ S → ER X.K H μ σ env → f env S = some (d, S') →
  (∀ H' μ', Later μ H μ' H' → HR X.prog X.w X.K H' μ' S' → Q d H') → t σ H Q
def JA (X : Cx) (es : List Expr) (f : FA) : Prop := ∃ t : TA, PA X es t ∧ ∀ (σ : L2.St) (H : Hp) (μ : Mp) (env : Env) (S : Sto) (ds : List D) (S' : Sto) (Q : List V → Hp → Prop), HR X.prog X.w X.K H μ S → ER X.K H μ σ env → f env S = some (ds, S') →
  (∀ vs H' μ', Later μ H μ' H' → HR X.prog X.w X.K H' μ' S' → RvAll X.K H' μ' vs ds → Q vs H') → t σ H Q
def JK (X : Cx) (ks : List Keyword) (f : FA) : Prop := ∃ t : TA, PK X ks t ∧ ∀ (σ : L2.St) (H : Hp) (μ : Mp) (env : Env) (S : Sto) (ds : List D) (S' : Sto) (Q : List V → Hp → Prop), HR X.prog X.w X.K H μ S → ER X.K H μ σ env → f env S = some (ds, S') →
  (∀ vs H' μ', Later μ H μ' H' → HR X.prog X.w X.K H' μ' S' → RvAll X.K H' μ' vs ds → Q vs H') → t σ H Q
variable {X : Cx}
/-! small readings -/
def fVar (i : Nat) : FE := fun env S => match env[i]? with
  | some (some d) => some (d, S)
  | _ => none
def fC (d : D) : FE := fun _ S => some (d, S)
theorem je_of {e : Expr} {t : TE} {f : FE} (h : PE X e t) (q : ∀ (σ : L2.St) (H : Hp) (μ : Mp) (env : Env) (S : Sto) (d : D) (S' : Sto) (Q : VK), HR X.prog X.w X.K H μ S → ER X.K H μ σ env → f env S = some (d, S') →
  (∀ v H' μ', Later μ H μ' H' → HR X.prog X.w X.K H' μ' S' → Rv X.K H' μ' v d → Q v H') → t σ H Q) : JE X e f := ⟨t, h, q⟩
theorem je_var (i : Nat) {x : Str} {pos : Pos} (hN : X.N[i]? = some x := by rfl) (hv : Vis X.env.scope x := by first | exact Or.inl rfl | exact Or.inr (Or.inl rfl) | exact Or.inr (Or.inr rfl)) (hd : (x == ("__debug__" : Str)) = false := by decide)
    (hcd : (x == ("__classdict__" : Str)) = false := by decide) : JE X (.Name x pos) (fVar i) := by
  refine je_of (pe_var hN hv hd hcd) fun σ H μ env S d S' Q hr er hf q => ?_
  unfold fVar at hf
  cases h : env[i]? with
  | none => rw [h] at hf; cases hf
  | some o =>
    rw [h] at hf
    cases o with
    | none => cases hf
    | some d' =>
      cases hf
      obtain ⟨v, h1, h2⟩ := er.ok i d h
      exact ⟨v, h1, q v H μ (.refl μ H) hr h2⟩
theorem je_const {e : Expr} {v : V} {d : D} (h : PE X e (tC v)) (r : ∀ H μ, Rv X.K H μ v d) : JE X e (fC d) :=
  je_of h fun σ H μ env S d S' Q hr er hf q => by cases hf; exact q v H μ (.refl μ H) hr (r H μ)
theorem je_int {i : Int} {j pos} : JE X (.Constant (.int i) j pos) (fC (.int i)) := je_const pe_int fun _ _ => .int i
theorem je_bl {b : Bool} {j pos} : JE X (.Constant (.bool b) j pos) (fC (.bl b)) := je_const pe_bl fun _ _ => .bl b
theorem je_non {j pos} : JE X (.Constant .none j pos) (fC .non) := je_const pe_non fun _ _ => .non
theorem je_str {x : Str} {j pos} : JE X (.Constant (.str x) j pos) (fC (.str x)) := je_const pe_str fun _ _ => .str x
theorem je_bltn {x : Str} {v : V} {u : Value} {pos : Pos} (hg : Gl X x) (hm : X.mg x = none) (hv : bootBuiltins x = some u) (r : RelV v u) (hn : x ≠ "__name__" := by decide) (hd : (x == ("__debug__" : Str)) = false := by decide) : JE X (.Name x pos) (fC (.glo v)) :=
  je_const (pe_bltn hg hm hv r hn hd) fun _ _ => .glo v
/-! operators by values -/
abbrev G2 := D → D → Sto → Option (D × Sto)
def RO (P : Program) (w : World) (K : PySem.W.Frag) (r : R2) (g : G2) : Prop := ∀ (H : Hp) (μ : Mp) (S : Sto) (x y : V) (a b d : D) (S' : Sto) (Q : VK), HR P w K H μ S → Rv K H μ x a → Rv K H μ y b → g a b S = some (d, S') →
  (∀ v H' μ', Later μ H μ' H' → HR P w K H' μ' S' → Rv K H' μ' v d → Q v H') → r x y H Q
def fOp (g : G2) (fa fb : FE) : FE := fun env S => match fa env S with
  | none => none
  | some (a, S1) => match fb env S1 with
    | none => none
    | some (b, S2) => g a b S2
def fUn (g : D → Sto → Option (D × Sto)) (fa : FE) : FE := fun env S => match fa env S with
  | none => none
  | some (a, S1) => g a S1
theorem fOp_some {g : G2} {fa fb : FE} {env : Env} {S S' : Sto} {d : D} (h : fOp g fa fb env S = some (d, S')) : ∃ a S1 b S2, fa env S = some (a, S1) ∧ fb env S1 = some (b, S2) ∧ g a b S2 = some (d, S') := by
  unfold fOp at h
  cases h1 : fa env S with
  | none => rw [h1] at h; cases h
  | some p =>
    obtain ⟨a, S1⟩ := p
    rw [h1] at h
    simp only at h
    cases h2 : fb env S1 with
    | none => rw [h2] at h; cases h
    | some q =>
      obtain ⟨b, S2⟩ := q
      rw [h2] at h
      exact ⟨a, S1, b, S2, rfl, h2, h⟩
theorem fUn_some {g : D → Sto → Option (D × Sto)} {fa : FE} {env : Env} {S S' : Sto} {d : D} (h : fUn g fa env S = some (d, S')) : ∃ a S1, fa env S = some (a, S1) ∧ g a S1 = some (d, S') := by
  unfold fUn at h
  cases h1 : fa env S with
  | none => rw [h1] at h; cases h
  | some p =>
    obtain ⟨a, S1⟩ := p
    rw [h1] at h
    exact ⟨a, S1, rfl, h⟩
theorem jop {ta tb : TE} {fa fb : FE} {r : R2} {g : G2} (ro : RO X.prog X.w X.K r g)
    (qa : ∀ (σ : L2.St) (H : Hp) (μ : Mp) (env : Env) (S : Sto) (d : D) (S' : Sto) (Q : VK), HR X.prog X.w X.K H μ S → ER X.K H μ σ env → fa env S = some (d, S') → (∀ v H' μ', Later μ H μ' H' → HR X.prog X.w X.K H' μ' S' → Rv X.K H' μ' v d → Q v H') → ta σ H Q)
    (qb : ∀ (σ : L2.St) (H : Hp) (μ : Mp) (env : Env) (S : Sto) (d : D) (S' : Sto) (Q : VK), HR X.prog X.w X.K H μ S → ER X.K H μ σ env → fb env S = some (d, S') → (∀ v H' μ', Later μ H μ' H' → HR X.prog X.w X.K H' μ' S' → Rv X.K H' μ' v d → Q v H') → tb σ H Q)
    (σ : L2.St) (H : Hp) (μ : Mp) (env : Env) (S : Sto) (d : D) (S' : Sto) (Q : VK) (hr : HR X.prog X.w X.K H μ S) (er : ER X.K H μ σ env) (hf : fOp g fa fb env S = some (d, S')) (q : ∀ v H' μ', Later μ H μ' H' → HR X.prog X.w X.K H' μ' S' → Rv X.K H' μ' v d → Q v H') :
    tOp r ta tb σ H Q := by
  obtain ⟨a, S1, b, S2, h1, h2, h3⟩ := fOp_some hf
  refine qa σ H μ env S a S1 _ hr er h1 fun v1 H1 μ1 l1 hr1 r1 => ?_
  refine qb σ H1 μ1 env S1 b S2 _ hr1 (er.later l1) h2 fun v2 H2 μ2 l2 hr2 r2 => ?_
  exact ro H2 μ2 S2 v1 v2 a b d S' Q hr2 (r1.later l2) r2 h3 fun v H' μ' l => q v H' μ' (l1.trans (l2.trans l))
theorem je_op {op : Operator} {r : R2} {g : G2} {a b : Expr} {fa fb : FE} {pos : Pos} (ho : OpR X (binaryOp op) r) (ro : RO X.prog X.w X.K r g) (ha : JE X a fa) (hb : JE X b fb) : JE X (.BinOp a op b pos) (fOp g fa fb) := by
  obtain ⟨ta, pa, qa⟩ := ha
  obtain ⟨tb, pb, qb⟩ := hb
  exact ⟨_, pe_op ho pa pb, jop ro qa qb⟩
theorem je_cmpR {op : CmpOp} {r : R2} {g : G2} {a b : Expr} {fa fb : FE} {pos : Pos} (ho : OpR X (compareOp op) r) (ro : RO X.prog X.w X.K r g) (ha : JE X a fa) (hb : JE X b fb) (hm : behindInMarks op b = false) : JE X (.Compare a [op] [b] pos) (fOp g fa fb) := by
  obtain ⟨ta, pa, qa⟩ := ha
  obtain ⟨tb, pb, qb⟩ := hb
  exact ⟨_, pe_cmpR ho pa pb hm, jop ro qa qb⟩
def fTest (f : FE) : FT := fun env S => match f env S with
  | some (.bl b, S') => some (b, S')
  | _ => none
theorem fTest_some {f : FE} {env : Env} {S S' : Sto} {b : Bool} (h : fTest f env S = some (b, S')) : f env S = some (.bl b, S') := by
  unfold fTest at h
  split at h
  · rename_i b' S1 e
    cases h
    exact e
  · cases h
theorem jt_cmpR {op : CmpOp} {r : R2} {g : G2} {a b : Expr} {fa fb : FE} {pos : Pos} (ho : OpR X (compareOp op) r) (ro : RO X.prog X.w X.K r g) (ha : JE X a fa) (hb : JE X b fb) (hm : behindInMarks op b = false) : JT X (.Compare a [op] [b] pos) (fTest (fOp g fa fb)) := by
  obtain ⟨ta, pa, qa⟩ := ha
  obtain ⟨tb, pb, qb⟩ := hb
  refine ⟨_, pt_cmpR ho pa pb hm, fun σ H μ env S d S' Q hr er hf q => ?_⟩
  refine jop ro qa qb σ H μ env S _ S' _ hr er (fTest_some hf) fun v H' μ' l h r => ?_
  cases r
  exact ⟨d, rfl, q H' μ' l h⟩
/-- by truth -/
def D.truth (S : Sto) : D → Option Bool
  | .non => some false
  | .bl b => some b
  | .int i => some (i != 0)
  | .str y => if y.length ≤ sizeLine then some ((y.length : Int) != 0) else none
  | .tup ds => some (!ds.isEmpty)
  | .lst ds => some (!ds.isEmpty)
  | .scr ds => some (!ds.isEmpty)
  | .obj k => match S[k]? with
    | some (.lst ds) => some (!ds.isEmpty)
    | some (.dks kvs) => some (!kvs.isEmpty)
    | _ => none
  | .glo _ => none
def fTruth (f : FE) : FT := fun env S => match f env S with
  | some (d, S') => (d.truth S').map fun b => (b, S')
  | none => none
theorem RvAll.empty {K : PySem.W.Frag} {H : Hp} {μ : Mp} {vs : List V} {ds : List D} (h : RvAll K H μ vs ds) : (!ds.isEmpty) = !vs.isEmpty := by cases h <;> rfl
theorem HR.at {P : Program} {w : World} {K : PySem.W.Frag} {H : Hp} {μ : Mp} {S : Sto} {v : V} {k : Nat} {o : O} (hr : HR P w K H μ S) (r : Rv K H μ v (.obj k)) (hk : S[k]? = some o) : ∃ a, v = .ref a ∧ μ.m[k]? = some a ∧ OR P w K H μ a o := by
  cases r with
  | obj h => exact ⟨_, rfl, h, hr.ok k _ o h hk⟩
theorem truth_ok {P : Program} {w : World} {K : PySem.W.Frag} {H : Hp} {μ : Mp} {S : Sto} {v : V} {d : D} {b : Bool} (hr : HR P w K H μ S) (r : Rv K H μ v d) (h : d.truth S = some b) : TruV K v H b := by
  cases r with
  | non => cases h; rfl
  | bl c => cases h; rfl
  | int i => cases h; rfl
  | str y =>
    simp only [D.truth] at h
    split at h
    · cases h
      exact ⟨by assumption, rfl⟩
    · cases h
  | tup h1 h2 => cases h; exact .inr (.inl ⟨_, h1.sq, h2.empty⟩)
  | lst h1 h2 => cases h; exact .inl ⟨_, h1.sq, h2.empty⟩
  | scr h1 h2 => cases h; exact .inl ⟨_, h1.sq, h2.empty⟩
  | @obj k a h1 =>
    simp only [D.truth] at h
    split at h
    · rename_i ds e
      cases h
      obtain ⟨xs, e1, e2⟩ := hr.ok k a _ h1 e
      exact .inl ⟨xs, .inl (.inl e1), e2.empty⟩
    · rename_i ds e
      cases h
      obtain ⟨xs, e1, e2⟩ := hr.ok k a _ h1 e
      exact .inr (.inr ⟨xs, e1, by cases e2 <;> rfl⟩)
    · cases h
  | glo v => cases h
theorem jt_truth {e : Expr} {f : FE} (h : JE X e f) (he : ∀ whole, isTrue e X.env whole = (do let v ← whole; standAt e.pos; holding [v] (truthy v)) := by intro _; rfl) : JT X e (fTruth f) := by
  obtain ⟨t, p, q⟩ := h
  refine ⟨_, pt_truth p he, fun σ H μ env S d S' Q hr er hf k => ?_⟩
  unfold fTruth at hf
  cases h1 : f env S with
  | none => rw [h1] at hf; cases hf
  | some z =>
    obtain ⟨a, S1⟩ := z
    rw [h1] at hf
    simp only at hf
    cases h2 : a.truth S1 with
    | none => rw [h2] at hf; cases hf
    | some c =>
      rw [h2] at hf
      cases hf
      refine q σ H μ env S a _ _ hr er h1 fun v H' μ' l h r => ?_
      exact ⟨d, truth_ok h r h2, k H' μ' l h⟩
/-! and, or, not -/
def fAndT (fa fb : FT) : FT := fun env S => match fa env S with
  | some (true, S1) => fb env S1
  | r => r
def fOrT (fa fb : FT) : FT := fun env S => match fa env S with
  | some (false, S1) => fb env S1
  | r => r
def fNotT (fa : FT) : FT := fun env S => (fa env S).map fun p => (!p.1, p.2)
theorem JW.jt {e : Expr} {f : FT} (h : JW X e f) : JT X e f := let ⟨t, p, q⟩ := h; ⟨t, p.pt, q⟩
theorem jw_or1 {a : Expr} {fa : FT} {pos : Pos} (h : JT X a fa) : JW X (.BoolOp .Or [a] pos) fa := let ⟨t, p, q⟩ := h; ⟨t, pw_or1 p, q⟩
theorem jw_or {a b : Expr} {rest : List Expr} {fa fb : FT} {pos : Pos} (ha : JT X a fa) (hb : JW X (.BoolOp .Or (b :: rest) pos) fb) : JW X (.BoolOp .Or (a :: b :: rest) pos) (fOrT fa fb) := by
  obtain ⟨ta, pa, qa⟩ := ha
  obtain ⟨tb, pb, qb⟩ := hb
  refine ⟨_, pw_or pa pb, fun σ H μ env S d S' Q hr er hf k => ?_⟩
  unfold fOrT at hf
  cases h1 : fa env S with
  | none => rw [h1] at hf; cases hf
  | some z =>
    obtain ⟨c, S1⟩ := z
    rw [h1] at hf
    refine qa σ H μ env S c S1 _ hr er h1 fun H1 μ1 l h => ?_
    cases c with
    | false => exact qb σ H1 μ1 env S1 d S' Q h (er.later l) hf fun H2 μ2 l2 h2 => k H2 μ2 (l.trans l2) h2
    | true => cases hf; exact k H1 μ1 l h
/-- as values: all but the last a bool -/
def fAndV (fa fb : FE) : FE := fun env S => match fa env S with
  | some (.bl true, S1) => fb env S1
  | some (.bl false, S1) => some (.bl false, S1)
  | _ => none
def fOrV (fa fb : FE) : FE := fun env S => match fa env S with
  | some (.bl false, S1) => fb env S1
  | some (.bl true, S1) => some (.bl true, S1)
  | _ => none
def fNotV (fa : FE) : FE := fun env S => match fa env S with
  | some (.bl b, S1) => some (.bl (!b), S1)
  | _ => none
def fIf (ft : FT) (fa fb : FE) : FE := fun env S => match ft env S with
  | some (true, S1) => fa env S1
  | some (false, S1) => fb env S1
  | none => none
theorem je_ifExp {c a b : Expr} {ft : FT} {fa fb : FE} {pos : Pos} (hc : JT X c ft) (ha : JE X a fa) (hb : JE X b fb) : JE X (.IfExp c a b pos) (fIf ft fa fb) := by
  obtain ⟨tc, pc, qc⟩ := hc
  obtain ⟨ta, pa, qa⟩ := ha
  obtain ⟨tb, pb, qb⟩ := hb
  refine ⟨_, pe_ifExp pc pa pb, fun σ H μ env S d S' Q hr er hf k => ?_⟩
  unfold fIf at hf
  split at hf
  · rename_i S1 h1
    exact qc σ H μ env S _ S1 _ hr er h1 fun H1 μ1 l h => qa σ H1 μ1 env S1 d S' Q h (er.later l) hf fun v H2 μ2 l2 h2 => k v H2 μ2 (l.trans l2) h2
  · rename_i S1 h1
    exact qc σ H μ env S _ S1 _ hr er h1 fun H1 μ1 l h => qb σ H1 μ1 env S1 d S' Q h (er.later l) hf fun v H2 μ2 l2 h2 => k v H2 μ2 (l.trans l2) h2
  · cases hf
/-! arguments and displays -/
def faNil : FA := fun _ S => some ([], S)
def faCons (f : FE) (g : FA) : FA := fun env S => match f env S with
  | none => none
  | some (d, S1) => match g env S1 with
    | none => none
    | some (ds, S2) => some (d :: ds, S2)
theorem faCons_some {f : FE} {g : FA} {env : Env} {S S' : Sto} {ds : List D} (h : faCons f g env S = some (ds, S')) : ∃ d S1 es, f env S = some (d, S1) ∧ g env S1 = some (es, S') ∧ ds = d :: es := by
  unfold faCons at h
  cases h1 : f env S with
  | none => rw [h1] at h; cases h
  | some p =>
    obtain ⟨d, S1⟩ := p
    rw [h1] at h
    simp only at h
    cases h2 : g env S1 with
    | none => rw [h2] at h; cases h
    | some q =>
      obtain ⟨es, S2⟩ := q
      rw [h2] at h
      cases h
      exact ⟨d, S1, es, rfl, h2, rfl⟩
theorem ja_nil : JA X [] faNil := ⟨_, pa_nil, fun σ H μ env S ds S' Q hr er hf k => by cases hf; exact k [] H μ (.refl μ H) hr .nil⟩
theorem ja_cons {e : Expr} {es : List Expr} {f : FE} {g : FA} (ha : JE X e f) (hb : JA X es g) (hs : starEach (e :: es) X.env = (false, eval e X.env) :: starEach es X.env := by rfl) : JA X (e :: es) (faCons f g) := by
  obtain ⟨ta, pa, qa⟩ := ha
  obtain ⟨tb, pb, qb⟩ := hb
  refine ⟨_, pa_cons pa pb hs, fun σ H μ env S ds S' Q hr er hf k => ?_⟩
  obtain ⟨d, S1, es, h1, h2, rfl⟩ := faCons_some hf
  refine qa σ H μ env S d S1 _ hr er h1 fun v H1 μ1 l1 hr1 r1 => ?_
  refine qb σ H1 μ1 env S1 es S' _ hr1 (er.later l1) h2 fun vs H2 μ2 l2 hr2 r2 => ?_
  exact k (v :: vs) H2 μ2 (l1.trans l2) hr2 (.cons (r1.later l2) r2)
theorem jk_nil : JK X [] faNil := ⟨_, pk_nil, fun σ H μ env S ds S' Q hr er hf k => by cases hf; exact k [] H μ (.refl μ H) hr .nil⟩
theorem jk_cons {e : Expr} {kws : List Keyword} {nm : Option Str} {kpos : Pos} {f : FE} {g : FA} (ha : JE X e f) (hb : JK X kws g) : JK X (⟨nm, e, kpos⟩ :: kws) (faCons f g) := by
  obtain ⟨ta, pa, qa⟩ := ha
  obtain ⟨tb, pb, qb⟩ := hb
  refine ⟨_, pk_cons pa pb, fun σ H μ env S ds S' Q hr er hf k => ?_⟩
  obtain ⟨d, S1, es, h1, h2, rfl⟩ := faCons_some hf
  refine qa σ H μ env S d S1 _ hr er h1 fun v H1 μ1 l1 hr1 r1 => ?_
  refine qb σ H1 μ1 env S1 es S' _ hr1 (er.later l1) h2 fun vs H2 μ2 l2 hr2 r2 => ?_
  exact k (v :: vs) H2 μ2 (l1.trans l2) hr2 (.cons (r1.later l2) r2)
def fTup (g : FA) : FE := fun env S => match g env S with
  | some (ds, S') => if ds.length ≤ 1000 then some (.tup ds, S') else none
  | none => none
def fLst (g : FA) : FE := fun env S => match g env S with
  | some (ds, S') => if ds.length ≤ 1000 then some (.lst ds, S') else none
  | none => none
/-- a list that will change -/
def fLstN (g : FA) : FE := fun env S => match g env S with
  | some (ds, S') => if ds.length ≤ 1000 then some (.obj S'.length, S' ++ [.lst ds]) else none
  | none => none
theorem le1000 {n : Nat} (h : n ≤ 1000) : n ≤ sizeLine := Nat.le_of_lt (small1000 h)
theorem je_tup {es : List Expr} {g : FA} {x1 pos} (h : JA X es g) : JE X (.Tuple es x1 pos) (fTup g) := by
  obtain ⟨ta, pa, qa⟩ := h
  refine ⟨_, pe_tup pa, fun σ H μ env S d S' Q hr er hf k => ?_⟩
  unfold fTup at hf
  split at hf
  · rename_i ds S1 h1
    split at hf
    · rename_i hl
      cases hf
      refine qa σ H μ env S ds S' _ hr er h1 fun vs H1 μ1 l1 hr1 r1 => ⟨by rw [r1.length]; exact le1000 hl, fun p np => ?_⟩
      obtain ⟨l2, hr2⟩ := hr1.new (o := .tup vs) np
      exact k _ _ μ1 (l1.trans l2) hr2 (.tup (.inl ⟨.inl upd_same, hr1.free np⟩) (r1.later l2))
    · cases hf
  · cases hf
theorem je_lst {es : List Expr} {g : FA} {pos} (h : JA X es g) : JE X (.List es pos) (fLst g) := by
  obtain ⟨ta, pa, qa⟩ := h
  refine ⟨_, pe_lst pa, fun σ H μ env S d S' Q hr er hf k => ?_⟩
  unfold fLst at hf
  split at hf
  · rename_i ds S1 h1
    split at hf
    · rename_i hl
      cases hf
      refine qa σ H μ env S ds S' _ hr er h1 fun vs H1 μ1 l1 hr1 r1 => ⟨by rw [r1.length]; exact le1000 hl, fun p np => ?_⟩
      obtain ⟨l2, hr2⟩ := hr1.new (o := .lst vs) np
      exact k _ _ μ1 (l1.trans l2) hr2 (.lst ⟨upd_same, hr1.free np⟩ (r1.later l2))
    · cases hf
  · cases hf
/-- a new numbered thing -/
theorem HR.push {P : Program} {w : World} {K : PySem.W.Frag} {H : Hp} {μ : Mp} {S : Sto} {p : Addr} {u : HO} {o : O} (hr : HR P w K H μ S) (np : H p = none) (ho : ∀ H' μ', Later μ H μ' H' → H' p = some u → OR P w K H' μ' p o) :
    ∃ μ', Later μ H μ' (upd H p u) ∧ HR P w K (upd H p u) μ' (S ++ [o]) ∧ μ'.m[S.length]? = some p := by
  have f := hr.free np
  obtain ⟨l0, hr0⟩ := hr.new (o := u) np
  have l : Later μ H ⟨μ.m ++ [p], μ.x⟩ (upd H p u) := ⟨⟨[p], rfl⟩, fun _ h => h, fun a o e n => ⟨fun z => (List.mem_append.mp z).elim n (fun z => ne_of_none e np (List.mem_singleton.mp z)), id, by rw [upd_ne (ne_of_none e np)]; exact e⟩, fun a o u e => by rw [upd_ne (ne_of_none e np)]; exact e⟩
  refine ⟨⟨μ.m ++ [p], μ.x⟩, l, ⟨by simp [hr.len], ?_, fun k a o' hk hs => ?_, fun a ha => ?_, hr0.thereX, fun a ha => (List.mem_append.mp ha).elim (hr.dj a) fun z => by rw [List.mem_singleton.mp z]; exact f.2⟩, by rw [← hr.len]; simp⟩
  · rw [List.nodup_append]
    exact ⟨hr.nd, by simp, fun a ha b hb => by rw [List.mem_singleton.mp hb]; exact fun z => f.1 (z ▸ ha)⟩
  · by_cases hlt : k < μ.m.length
    · have hk' : μ.m[k]? = some a := by rw [← hk]; exact (List.getElem?_append_left hlt).symm
      rw [List.getElem?_append_left (by rw [← hr.len]; exact hlt)] at hs
      have ne : a ≠ p := fun z => f.1 (z ▸ List.mem_of_getElem? hk')
      have q := hr.ok k a o' hk' hs
      exact q.later l (upd_ne ne)
    · have h1 : (μ.m ++ [p])[k]? = some a := hk
      rw [List.getElem?_append_right (by omega)] at h1
      have e : k - μ.m.length = 0 := by
        have := (List.getElem?_eq_some_iff.mp h1).1
        simp at this
        omega
      rw [e] at h1
      have ea : p = a := by simpa using h1
      subst ea
      rw [List.getElem?_append_right (by rw [← hr.len]; omega)] at hs
      rw [← hr.len, e] at hs
      have eo : o = o' := by simpa using hs
      subst eo
      exact ho _ _ l upd_same
  · rcases List.mem_append.mp ha with z | z
    · exact hr0.there a z
    · rw [List.mem_singleton.mp z, upd_same]; simp
theorem je_lstN {es : List Expr} {g : FA} {pos} (h : JA X es g) : JE X (.List es pos) (fLstN g) := by
  obtain ⟨ta, pa, qa⟩ := h
  refine ⟨_, pe_lst pa, fun σ H μ env S d S' Q hr er hf k => ?_⟩
  unfold fLstN at hf
  split at hf
  · rename_i ds S1 h1
    split at hf
    · rename_i hl
      cases hf
      refine qa σ H μ env S ds S1 _ hr er h1 fun vs H1 μ1 l1 hr1 r1 => ⟨by rw [r1.length]; exact le1000 hl, fun p np => ?_⟩
      obtain ⟨μ2, l2, hr2, e2⟩ := hr1.push (o := .lst ds) (u := .lst vs) np fun H' μ' l e => ⟨vs, e, r1.later l⟩
      exact k _ _ μ2 (l1.trans l2) hr2 (.obj e2)
    · cases hf
  · cases hf
end J

set_option autoImplicit false
namespace J
open PySem PySem.Spec PyProof.Rows L2
/-! statements -/
/-- what may be raised -/
def WM (X : Cx) : WX := fun cls d σ H => ∃ W, L2N.Takes X W ∧ W cls d σ H
/-- an exception's own dict -/
def XdR (K : PySem.W.Frag) (H : Hp) (μ : Mp) (d : Option Addr) (fs : List (Str × D)) : Prop := (fs = [] ∧ d = none) ∨ ∃ a gs, d = some a ∧ H a = some (.xd gs) ∧ a ∉ μ.m ∧ FsR K H μ gs fs
theorem XdR.later {K : PySem.W.Frag} {H H' : Hp} {μ μ' : Mp} {d : Option Addr} {fs : List (Str × D)} (l : Later μ H μ' H') (h : XdR K H μ d fs) : XdR K H' μ' d fs := by
  rcases h with h | ⟨a, gs, e1, e2, e3, e4⟩
  · exact .inl h
  · obtain ⟨n1, _, h1⟩ := l.keep a _ e2 e3
    exact .inr ⟨a, gs, e1, h1, n1, e4.later l⟩
def Done (X : Cx) (E : Ends) (fl : Fl) (σ : L2.St) (H : Hp) (μ : Mp) : Prop := match fl with
  | .nx => E.nx σ H
  | .bk => E.bk σ H
  | .ct => E.ct σ H
  | .rt d => ∀ v, Rv X.K H μ v d → E.rt v H
  | .xc x fs => ∀ cls d, X.mg x = some cls → XdR X.K H μ d fs → WM X cls d σ H
def QS (X : Cx) (t : TS) (f : FS) : Prop := ∀ (σ : L2.St) (H : Hp) (μ : Mp) (env : Env) (S : Sto) (fl : Fl) (env' : Env) (S' : Sto) (E : Ends), HR X.prog X.w X.K H μ S → ER X.K H μ σ env → f env S = some (fl, env', S') →
  (∀ σ' H' μ', Later μ H μ' H' → HR X.prog X.w X.K H' μ' S' → ER X.K H' μ' σ' env' → Done X E fl σ' H' μ') → t E σ H
def JS (X : Cx) (st : Stmt) (f : FS) : Prop := ∃ t : TS, PS X st t ∧ QS X t f
def JSs (X : Cx) (st : List Stmt) (f : FS) : Prop := ∃ t : TS, PSs X st t ∧ QS X t f
variable {X : Cx}
def fNext : FS := fun env S => some (.nx, env, S)
def fSeq (f g : FS) : FS := fun env S => match f env S with
  | some (.nx, env1, S1) => g env1 S1
  | r => r
theorem jss_nil : JSs X [] fNext := ⟨_, pss_nil, fun σ H μ env S fl env' S' E hr er hf k => by cases hf; exact k σ H μ (.refl μ H) hr er⟩
theorem qseq {t u : TS} {f g : FS} (h1 : QS X t f) (h2 : QS X u g) : QS X (tSeq t u) (fSeq f g) := by
  intro σ H μ env S fl env' S' E hr er hf k
  unfold fSeq at hf
  split at hf
  · rename_i env1 S1 e1
    refine h1 σ H μ env S .nx env1 S1 { E with nx := u E } hr er e1 fun σ1 H1 μ1 l1 hr1 er1 => ?_
    exact h2 σ1 H1 μ1 env1 S1 fl env' S' E hr1 er1 hf fun σ2 H2 μ2 l2 hr2 er2 => k σ2 H2 μ2 (l1.trans l2) hr2 er2
  · rename_i e1 ne
    refine h1 σ H μ env S fl env' S' { E with nx := u E } hr er hf fun σ1 H1 μ1 l1 hr1 er1 => ?_
    have q := k σ1 H1 μ1 l1 hr1 er1
    cases fl with
    | nx => exact absurd hf (ne env' S')
    | bk => exact q
    | ct => exact q
    | rt d => exact q
    | xc x fs => exact q
theorem jss_cons {st : Stmt} {rest : List Stmt} {f g : FS} (h1 : JS X st f) (h2 : JSs X rest g) : JSs X (st :: rest) (fSeq f g) := by
  obtain ⟨t, p, q⟩ := h1
  obtain ⟨u, p', q'⟩ := h2
  exact ⟨_, pss_cons p p', qseq q q'⟩
theorem jss_one {st : Stmt} {f : FS} (h1 : JS X st f) : JSs X [st] f := let ⟨t, p, q⟩ := h1; ⟨t, pss_one p, q⟩
def fNone : FS := fun _ _ => none
def fBrk : FS := fun env S => some (.bk, env, S)
def fCnt : FS := fun env S => some (.ct, env, S)
def fDrop (f : FE) : FS := fun env S => match f env S with
  | some (_, S1) => some (.nx, env, S1)
  | none => none
theorem js_expr {e : Expr} {f : FE} {pos : Pos} (h : JE X e f) (hs : swapsWith e none pos.line X.env = pure false := by rfl) : JS X (.Expr e pos) (fDrop f) := by
  obtain ⟨t, p, q⟩ := h
  refine ⟨_, ps_expr p hs, fun σ H μ env S fl env' S' E hr er hf k => ?_⟩
  unfold fDrop at hf
  split at hf
  · rename_i d S1 e1
    cases hf
    exact q σ H μ env S d _ _ hr er e1 fun v H1 μ1 l1 hr1 r1 => k σ H1 μ1 l1 hr1 (er.later l1)
  · cases hf
def fRet (f : FE) : FS := fun env S => match f env S with
  | some (d, S1) => some (.rt d, env, S1)
  | none => none
theorem js_ret {e : Expr} {f : FE} {pos : Pos} (h : JE X e f) : JS X (.Return (some e) pos) (fRet f) := by
  obtain ⟨t, p, q⟩ := h
  refine ⟨_, ps_ret p, fun σ H μ env S fl env' S' E hr er hf k => ?_⟩
  unfold fRet at hf
  split at hf
  · rename_i d S1 e1
    cases hf
    exact q σ H μ env S d _ _ hr er e1 fun v H1 μ1 l1 hr1 r1 => k σ H1 μ1 l1 hr1 (er.later l1) v r1
  · cases hf
def fRetN : FS := fun env S => some (.rt .non, env, S)
def fIfS (c : FT) (f g : FS) : FS := fun env S => match c env S with
  | some (true, S1) => f env S1
  | some (false, S1) => g env S1
  | none => none
theorem js_if {c : Expr} {a b : List Stmt} {fc : FT} {f g : FS} {pos : Pos} (hc : JT X c fc) (ha : JSs X a f) (hb : JSs X b g) : JS X (.If c a b pos) (fIfS fc f g) := by
  obtain ⟨tc, pc, qc⟩ := hc
  obtain ⟨ta, pa, qa⟩ := ha
  obtain ⟨tb, pb, qb⟩ := hb
  refine ⟨_, ps_if pc pa pb, fun σ H μ env S fl env' S' E hr er hf k => ?_⟩
  unfold fIfS at hf
  split at hf
  · rename_i S1 e1
    exact qc σ H μ env S _ S1 _ hr er e1 fun H1 μ1 l1 hr1 => qa σ H1 μ1 env S1 fl env' S' E hr1 (er.later l1) hf fun σ2 H2 μ2 l2 hr2 er2 => k σ2 H2 μ2 (l1.trans l2) hr2 er2
  · rename_i S1 e1
    exact qc σ H μ env S _ S1 _ hr er e1 fun H1 μ1 l1 hr1 => qb σ H1 μ1 env S1 fl env' S' E hr1 (er.later l1) hf fun σ2 H2 μ2 l2 hr2 er2 => k σ2 H2 μ2 (l1.trans l2) hr2 er2
  · cases hf
/-! targets -/
abbrev FG := D → Env → Sto → Option (Env × Sto)
def QG (X : Cx) (t : TG) (g : FG) (ws : List Nat) : Prop := ∀ (σ : L2.St) (H : Hp) (μ : Mp) (env : Env) (S : Sto) (v : V) (d : D) (env' : Env) (S' : Sto) (Q : L2.St → Hp → Prop), HR X.prog X.w X.K H μ S → ER X.K H μ σ env → Rv X.K H μ v d → g d env S = some (env', S') →
  (∀ σ' H' μ', Later μ H μ' H' → HR X.prog X.w X.K H' μ' S' → ER X.K H' μ' σ' env' → (σ'.length = σ.length ∧ ∀ j, j ∉ ws → σ'[j]? = σ[j]?) → Q σ' H') → t v σ H Q
def JG (X : Cx) (e : Expr) (g : FG) (ws : List Nat) : Prop := ∃ t : TG, PG X e t ∧ QG X t g ws
abbrev FGs := List D → Env → Sto → Option (Env × Sto)
def JGs (X : Cx) (es : List Expr) (g : FGs) (ws : List Nat) : Prop := ∃ t : TGs, PGs X es t ∧ ∀ (σ : L2.St) (H : Hp) (μ : Mp) (env : Env) (S : Sto) (vs : List V) (ds : List D) (env' : Env) (S' : Sto) (Q : L2.St → Hp → Prop), HR X.prog X.w X.K H μ S → ER X.K H μ σ env → RvAll X.K H μ vs ds → g ds env S = some (env', S') →
  (∀ σ' H' μ', Later μ H μ' H' → HR X.prog X.w X.K H' μ' S' → ER X.K H' μ' σ' env' → (σ'.length = σ.length ∧ ∀ j, j ∉ ws → σ'[j]? = σ[j]?) → Q σ' H') → t vs σ H Q
theorem ER.set {K : PySem.W.Frag} {H : Hp} {μ : Mp} {σ : L2.St} {env : Env} (er : ER K H μ σ env) {v : V} {d : D} (r : Rv K H μ v d) (i : Nat) : ER K H μ (σ.set i (some v)) (env.set i (some d)) := by
  refine ⟨by simp [er.len], fun j e h => ?_⟩
  by_cases hj : i = j
  · subst hj
    have hl : i < env.length := by
      have := (List.getElem?_eq_some_iff.mp h).1
      simpa using this
    rw [List.getElem?_set_self hl] at h
    cases h
    exact ⟨v, List.getElem?_set_self (by rw [er.len]; exact hl), r⟩
  · rw [List.getElem?_set_ne hj] at h
    obtain ⟨u, h1, h2⟩ := er.ok j e h
    exact ⟨u, by rw [List.getElem?_set_ne hj]; exact h1, h2⟩
def gNm (i : Nat) : FG := fun d env S => some (env.set i (some d), S)
theorem qg_name (i : Nat) : QG X (gName i) (gNm i) [i] := fun σ H μ env S v d env' S' Q hr er r hg k => by
  cases hg
  exact k _ H μ (.refl μ H) hr (er.set r i) ⟨by simp, fun j hj => List.getElem?_set_ne (fun z => hj (by simp [z]))⟩
theorem jg_name {i : Nat} {x : Str} {pos : Pos} (hN : X.N.Nodup) (hi : X.N[i]? = some x) (hx : Loc X.env.scope x) (hf : X.fn x = true ∨ X.env.scope.names.lookup x = some .local := by first | exact .inl rfl | exact .inr rfl | assumption) : JG X (.Name x pos) (gNm i) [i] :=
  ⟨_, pg_name hN hi hx hf, qg_name i⟩
def gNil : FGs := fun ds env S => match ds with
  | [] => some (env, S)
  | _ => none
def gCons (g : FG) (h : FGs) : FGs := fun ds env S => match ds with
  | d :: ds => match g d env S with
    | some (env1, S1) => h ds env1 S1
    | none => none
  | [] => none
theorem jgs_nil : JGs X [] gNil [] := ⟨_, pgs_nil, fun σ H μ env S vs ds env' S' Q hr er r hg k => by
  cases r with
  | nil => cases hg; exact ⟨rfl, k σ H μ (.refl μ H) hr er ⟨rfl, fun _ _ => rfl⟩⟩
  | cons r1 r2 => cases hg⟩
theorem jgs_cons {e : Expr} {es : List Expr} {g : FG} {h : FGs} {ws us : List Nat} (h1 : JG X e g ws) (h2 : JGs X es h us) (hs : (assignEach (e :: es) X.env).map (·.2) = assign e X.env :: (assignEach es X.env).map (·.2) := by rfl) : JGs X (e :: es) (gCons g h) (ws ++ us) := by
  obtain ⟨t, p, q⟩ := h1
  obtain ⟨u, p', q'⟩ := h2
  refine ⟨_, pgs_cons p p' hs, fun σ H μ env S vs ds env' S' Q hr er r hg k => ?_⟩
  cases r with
  | nil => cases hg
  | cons r1 r2 =>
    simp only [gCons] at hg
    split at hg
    · rename_i env1 S1 e1
      refine ⟨_, _, rfl, q σ H μ env S _ _ env1 S1 _ hr er r1 e1 fun σ1 H1 μ1 l1 hr1 er1 w1 => ?_⟩
      exact q' σ1 H1 μ1 env1 S1 _ _ env' S' Q hr1 er1 (r2.later l1) hg fun σ2 H2 μ2 l2 hr2 er2 w2 => k σ2 H2 μ2 (l1.trans l2) hr2 er2 ⟨w2.1.trans w1.1, fun j hj => (w2.2 j fun z => hj (List.mem_append_right _ z)).trans (w1.2 j fun z => hj (List.mem_append_left _ z))⟩
    · cases hg
/-- a tuple taken apart -/
def gTp (n : Nat) (h : FGs) : FG := fun d env S => match d with
  | .tup ds => if ds.length = n then h ds env S else none
  | _ => none
theorem jg_tup {es : List Expr} {k : Nat} {h : FGs} {n : Nat} {ws : List Nat} {pos : Pos} (hc : X.calm = true) (hs : JGs X es h ws)
    (hn : (assignEach es X.env).length = n := by rfl) (hst : (assignEach es X.env).findIdx? (·.1) = none := by rfl) : JG X (.Tuple es k pos) (gTp n h) ws := by
  obtain ⟨t, p, q⟩ := hs
  refine ⟨_, pg_tup hc p hn hst, fun σ H μ env S v d env' S' Q hr er r hg kk => ?_⟩
  cases r with
  | tup h1 h2 =>
    simp only [gTp] at hg
    split at hg
    · rename_i hl
      exact ⟨_, _, rfl, h1.sq, h2.length.trans hl, q σ H μ env S _ _ env' S' Q hr er h2 hg kk⟩
    · cases hg
  | _ => cases hg
def fAsg (f : FE) (g : FG) : FS := fun env S => match f env S with
  | some (d, S1) => match g d env S1 with
    | some (env', S2) => some (.nx, env', S2)
    | none => none
  | none => none
theorem qasg {t : TE} {u : TG} {f : FE} {g : FG} {ws : List Nat} (q : ∀ (σ : L2.St) (H : Hp) (μ : Mp) (env : Env) (S : Sto) (d : D) (S' : Sto) (Q : VK), HR X.prog X.w X.K H μ S → ER X.K H μ σ env → f env S = some (d, S') → (∀ v H' μ', Later μ H μ' H' → HR X.prog X.w X.K H' μ' S' → Rv X.K H' μ' v d → Q v H') → t σ H Q) (qg : QG X u g ws) : QS X (tAsg t u) (fAsg f g) := by
  intro σ H μ env S fl env' S' E hr er hf k
  unfold fAsg at hf
  split at hf
  · rename_i d S1 e1
    split at hf
    · rename_i env1 S2 e2
      cases hf
      exact q σ H μ env S d S1 _ hr er e1 fun v H1 μ1 l1 hr1 r1 => qg σ H1 μ1 env S1 v d _ _ _ hr1 (er.later l1) r1 e2 fun σ2 H2 μ2 l2 hr2 er2 _ => k σ2 H2 μ2 (l1.trans l2) hr2 er2
    · cases hf
  · cases hf
theorem js_asg {tg e : Expr} {f : FE} {g : FG} {ws : List Nat} {pos : Pos} (he : JE X e f) (hg : JG X tg g ws) (hs : swapsWithSole [tg] e pos.line X.env = pure false := by rfl) (hw : swappedStores [tg] e X.env = pure none := by rfl)
    (h1 : (assignEach [tg] X.env).map (·.2) = [assign tg X.env] := by rfl) : JS X (.Assign [tg] e pos) (fAsg f g) := by
  obtain ⟨t, p, q⟩ := he
  obtain ⟨u, p', q'⟩ := hg
  exact ⟨_, ps_asg p p' hs hw h1, qasg q q'⟩
theorem js_set {i : Nat} {x : Str} {e : Expr} {f : FE} {pos pos' : Pos} (hN : X.N.Nodup) (hi : X.N[i]? = some x) (hx : Loc X.env.scope x) (he : JE X e f) (hs : swapsWith e (some (.Name x pos')) pos.line X.env = pure false := by rfl) (hf : X.fn x = true ∨ X.env.scope.names.lookup x = some .local := by first | exact .inl rfl | exact .inr rfl | assumption) :
    JS X (.Assign [.Name x pos'] e pos) (fAsg f (gNm i)) := by
  obtain ⟨t, p, q⟩ := he
  exact ⟨_, ps_set hN hi hx p hs hf, qasg q (qg_name i)⟩
/-- a, b = x, y -/
def fPar (i j : Nat) (g : FA) : FS := fun env S => match g env S with
  | some ([d, e], S1) => some (.nx, (env.set i (some d)).set j (some e), S1)
  | _ => none
theorem js_par {i j : Nat} {x y : Str} {a b : Expr} {g : FA} {px py pt pos : Pos} {kt k2 pt2} (hc : X.calm = true) (hN : X.N.Nodup) (hi : X.N[i]? = some x) (hj : X.N[j]? = some y) (hij : i ≠ j)
    (hx : X.env.scope.names.lookup x = some .local) (hy : X.env.scope.names.lookup y = some .local) (ha : JA X [a, b] g)
    (hw : swappedStores [.Tuple [.Name x px, .Name y py] kt pt] (.Tuple [a, b] k2 pt2) X.env = pure (some [x, y]))
    (hs : swapsWithSole [.Tuple [.Name x px, .Name y py] kt pt] (.Tuple [a, b] k2 pt2) pos.line X.env = pure false := by rfl) :
    JS X (.Assign [.Tuple [.Name x px, .Name y py] kt pt] (.Tuple [a, b] k2 pt2) pos) (fPar i j g) := by
  obtain ⟨t, p, q⟩ := ha
  refine ⟨_, ps_par hc hN hi hj hij hx hy p hw hs, fun σ H μ env S fl env' S' E hr er hf k => ?_⟩
  unfold fPar at hf
  split at hf
  · rename_i d e S1 e1
    cases hf
    refine q σ H μ env S _ _ _ hr er e1 fun vs H1 μ1 l1 hr1 r1 => ?_
    cases r1 with
    | cons r1 r2 =>
      cases r2 with
      | cons r2 r3 =>
        cases r3
        exact ⟨_, _, rfl, k _ H1 μ1 l1 hr1 (((er.later l1).set r1 i).set r2 j)⟩
  · cases hf
/-! while -/
def iterN (c : FT) (b : FS) : Nat → FS
  | 0, _, _ => none
  | n + 1, env, S => match c env S with
    | some (true, S1) => match b env S1 with
      | some (.nx, env1, S2) => iterN c b n env1 S2
      | some (.ct, env1, S2) => iterN c b n env1 S2
      | some (.bk, env1, S2) => some (.nx, env1, S2)
      | some (.rt d, env1, S2) => some (.rt d, env1, S2)
      | some (.xc x fs, env1, S2) => some (.xc x fs, env1, S2)
      | none => none
    | some (false, S1) => some (.nx, env, S1)
    | none => none
open Classical in
noncomputable def fWhile (c : FT) (b : FS) : FS := fun env S => if h : ∃ r n, iterN c b n env S = some r then some (Classical.choose h) else none
/-! for -/
def ItF (P : Program) (w : World) (K : PySem.W.Frag) (T : It) (ds : List D) (μ0 : Mp) (H0 : Hp) : Prop := ∀ (μ : Mp) (H : Hp), Later μ0 H0 μ H → (∀ S, HR P w K H μ S → (∀ i, i < ds.length → T.go i H) ∧ T.stop ds.length H) ∧
  ∀ (i : Nat) (S : Sto) (x : V) (H' : Hp) (d : D), HR P w K H μ S → ds[i]? = some d → T.yld i H x H' → Later μ H μ H' ∧ HR P w K H' μ S ∧ Rv K H' μ x d
def QI (X : Cx) (wi : TI) (fi : FA) : Prop := ∀ (σ : L2.St) (H : Hp) (μ : Mp) (env : Env) (S : Sto) (ds : List D) (S' : Sto) (R : It → Hp → Prop), HR X.prog X.w X.K H μ S → ER X.K H μ σ env → fi env S = some (ds, S') →
  (∀ T H' μ', Later μ H μ' H' → HR X.prog X.w X.K H' μ' S' → ItF X.prog X.w X.K T ds μ' H' → R T H') → wi σ H R
def JI (X : Cx) (tg iter : Expr) (fi : FA) : Prop := ∃ wi, PI X tg iter wi ∧ QI X wi fi
def fForL (g : FG) (b : FS) : List D → FS
  | [], env, S => some (.nx, env, S)
  | d :: ds, env, S => match g d env S with
    | none => none
    | some (env1, S1) => match b env1 S1 with
      | some (.nx, env2, S2) => fForL g b ds env2 S2
      | some (.ct, env2, S2) => fForL g b ds env2 S2
      | some (.bk, env2, S2) => some (.nx, env2, S2)
      | some (.rt d, env2, S2) => some (.rt d, env2, S2)
      | some (.xc x fs, env2, S2) => some (.xc x fs, env2, S2)
      | none => none
def fFor (fi : FA) (g : FG) (b : FS) : FS := fun env S => match fi env S with
  | some (ds, S1) => fForL g b ds env S1
  | none => none
theorem js_for {tg iter : Expr} {body : List Stmt} {fi : FA} {g : FG} {ws : List Nat} {f : FS} {pos : Pos} (hp : PassesOwn (model X.prog X.w) X.A X.env X.xe) (hc : X.calm = true) (hi : JI X tg iter fi) (hg : JG X tg g ws) (hb : JSs X body f)
    (hs : ∀ x, foldedSetIterable iter X.env x = pure x := by intro _; rfl) : JS X (.For tg iter body [] pos) (fFor fi g f) := by
  obtain ⟨wi, pi, qi⟩ := hi
  obtain ⟨tg', pg, qg⟩ := hg
  obtain ⟨tb, pb, qb⟩ := hb
  refine ⟨_, ps_for hp hc pi pg pb hs, fun σ H μ env S fl env' S' E hr er hf k => ?_⟩
  unfold fFor at hf
  split at hf
  · rename_i ds S1 e1
    refine qi σ H μ env S ds S1 _ hr er e1 fun T H1 μ1 l1 hr1 it => ?_
    refine ⟨fun i n σ2 H2 => n = ds.length - i ∧ i ≤ ds.length ∧ ∃ μ2 env2 S2, Later μ1 H1 μ2 H2 ∧ HR X.prog X.w X.K H2 μ2 S2 ∧ ER X.K H2 μ2 σ2 env2 ∧ fForL g f (ds.drop i) env2 S2 = some (fl, env', S'),
      ⟨ds.length, by simp, Nat.zero_le _, μ1, env, S1, .refl _ _, hr1, er.later l1, hf⟩, ?_⟩
    rintro i n σ2 H2 ⟨rfl, hi, μ2, env2, S2, l2, hr2, er2, hf2⟩
    obtain ⟨it1, it2⟩ := it μ2 H2 l2
    obtain ⟨go, stop⟩ := it1 S2 hr2
    by_cases hlt : i < ds.length
    · refine .inr ⟨go i hlt, fun σ3 H3 => ∃ μ3 env3 S3, Later μ1 H1 μ3 H3 ∧ HR X.prog X.w X.K H3 μ3 S3 ∧ ER X.K H3 μ3 σ3 env3 ∧ fForL g f (ds.drop (i + 1)) env3 S3 = some (fl, env', S'), fun σ3 H3 z => ⟨ds.length - (i + 1), by omega, rfl, hlt, z⟩, fun x H3 y => ?_⟩
      obtain ⟨l3, hr3, r3⟩ := it2 i S2 x H3 ds[i] hr2 (by simp [hlt]) y
      rw [List.drop_eq_getElem_cons hlt, fForL] at hf2
      split at hf2
      · cases hf2
      · rename_i env4 S4 e4
        refine qg σ2 H3 μ2 env2 S2 x ds[i] env4 S4 _ hr3 (er2.later l3) r3 e4 fun σ4 H4 μ4 l4 hr4 er4 _ => ?_
        have L4 := l2.trans (l3.trans l4)
        split at hf2
        · rename_i env5 S5 e5
          exact qb σ4 H4 μ4 env4 S4 _ env5 S5 _ hr4 er4 e5 fun σ5 H5 μ5 l5 hr5 er5 => ⟨μ5, env5, S5, L4.trans l5, hr5, er5, hf2⟩
        · rename_i env5 S5 e5
          exact qb σ4 H4 μ4 env4 S4 _ env5 S5 _ hr4 er4 e5 fun σ5 H5 μ5 l5 hr5 er5 => ⟨μ5, env5, S5, L4.trans l5, hr5, er5, hf2⟩
        · rename_i env5 S5 e5
          cases hf2
          exact qb σ4 H4 μ4 env4 S4 _ _ _ _ hr4 er4 e5 fun σ5 H5 μ5 l5 hr5 er5 => k σ5 H5 μ5 (l1.trans (L4.trans l5)) hr5 er5
        · rename_i d env5 S5 e5
          cases hf2
          exact qb σ4 H4 μ4 env4 S4 _ _ _ _ hr4 er4 e5 fun σ5 H5 μ5 l5 hr5 er5 => k σ5 H5 μ5 (l1.trans (L4.trans l5)) hr5 er5
        · rename_i x fs env5 S5 e5
          cases hf2
          exact qb σ4 H4 μ4 env4 S4 _ _ _ _ hr4 er4 e5 fun σ5 H5 μ5 l5 hr5 er5 => k σ5 H5 μ5 (l1.trans (L4.trans l5)) hr5 er5
        · cases hf2
    · have e : i = ds.length := by omega
      subst e
      rw [List.drop_length, fForL] at hf2
      cases hf2
      exact .inl ⟨stop, k σ2 H2 μ2 (l1.trans l2) hr2 er2⟩
  · cases hf
end J

set_option autoImplicit false
namespace J
open PySem PySem.Spec PyProof.Rows L2
/-! what is left behind a call -/
mutual
def D.und (n : Nat) : D → Bool
  | .tup ds => D.undAll n ds
  | .lst ds => D.undAll n ds
  | .scr ds => D.undAll n ds
  | .obj k => decide (k < n)
  | _ => true
def D.undAll (n : Nat) : List D → Bool
  | [] => true
  | d :: ds => D.und n d && D.undAll n ds
end
def O.und (n : Nat) : O → Bool
  | .lst ds => D.undAll n ds
  | .dct kvs => kvs.all fun p => D.und n p.2.1 && D.und n p.2.2
  | .dks kvs => kvs.all fun p => D.und n p.2
  | .lck kvs => kvs.all fun p => D.und n p.2.1 && D.und n p.2.2
  | .lks kvs => kvs.all fun p => D.und n p.2
  | .ins _ fs => fs.all fun p => D.und n p.2
  | .tab _ _ _ => true
  | .exc _ fs => fs.all fun p => D.und n p.2
  | .lam _ _ _ _ _ => true
mutual
theorem D.und_mono {n m : Nat} (h : n ≤ m) : ∀ {d : D}, d.und n = true → d.und m = true
  | .non, _ => rfl
  | .bl _, _ => rfl
  | .int _, _ => rfl
  | .str _, _ => rfl
  | .glo _, _ => rfl
  | .obj k, e => by simp only [D.und, decide_eq_true_eq] at e ⊢; omega
  | .tup ds, e => by rw [D.und] at e ⊢; exact D.undAll_mono h e
  | .lst ds, e => by rw [D.und] at e ⊢; exact D.undAll_mono h e
  | .scr ds, e => by rw [D.und] at e ⊢; exact D.undAll_mono h e
theorem D.undAll_mono {n m : Nat} (h : n ≤ m) : ∀ {ds : List D}, D.undAll n ds = true → D.undAll m ds = true
  | [], _ => rfl
  | d :: ds, e => by
    rw [D.undAll, Bool.and_eq_true] at e ⊢
    exact ⟨D.und_mono h e.1, D.undAll_mono h e.2⟩
end
variable {K : PySem.W.Frag} {P : Program} {w : World}
mutual
theorem Rv.und {H : Hp} {μ : Mp} : ∀ {v : V} {d : D}, Rv K H μ v d → d.und μ.m.length = true
  | _, _, .non => rfl
  | _, _, .bl b => rfl
  | _, _, .int i => rfl
  | _, _, .str x => rfl
  | _, _, .tup h q => by rw [D.und]; exact RvAll.und q
  | _, _, .lst h q => by rw [D.und]; exact RvAll.und q
  | _, _, .scr h q => by rw [D.und]; exact RvAll.und q
  | _, _, .obj h => by rw [D.und]; exact decide_eq_true (List.getElem?_eq_some_iff.mp h).1
  | _, _, .glo v => rfl
theorem RvAll.und {H : Hp} {μ : Mp} : ∀ {vs : List V} {ds : List D}, RvAll K H μ vs ds → D.undAll μ.m.length ds = true
  | _, _, .nil => rfl
  | _, _, .cons h q => by rw [D.undAll, Rv.und h, RvAll.und q]; rfl
end
/-- fewer numbers: the first n stay -/
structure Short (n : Nat) (μ ν : Mp) : Prop where
  sub : ∀ a, a ∈ ν.m → a ∈ μ.m
  ex : ∀ a, a ∈ ν.x → a ∈ μ.x
  first : ∀ k, k < n → ν.m[k]? = μ.m[k]?
theorem Short.out {n : Nat} {μ ν : Mp} (s : Short n μ ν) {a : Addr} (h : a ∉ μ.m) : a ∉ ν.m := fun z => h (s.sub a z)
mutual
theorem Rv.short {H : Hp} {μ ν : Mp} {n : Nat} (s : Short n μ ν) : ∀ {v : V} {d : D}, Rv K H μ v d → d.und n = true → Rv K H ν v d
  | _, _, .non, _ => .non
  | _, _, .bl b, _ => .bl b
  | _, _, .int i, _ => .int i
  | _, _, .str x, _ => .str x
  | _, _, .tup h q, e => .tup (h.imp (fun z => ⟨z.1, s.out z.2.1, fun q => z.2.2 (s.ex _ q)⟩) id) (RvAll.short s q (by rw [D.und] at e; exact e))
  | _, _, .lst h q, e => .lst ⟨h.1, s.out h.2.1, fun q => h.2.2 (s.ex _ q)⟩ (RvAll.short s q (by rw [D.und] at e; exact e))
  | _, _, .scr h q, e => .scr (h.imp (fun z => ⟨z.1, s.out z.2.1, fun q => z.2.2 (s.ex _ q)⟩) id) (RvAll.short s q (by rw [D.und] at e; exact e))
  | _, _, .obj h, e => .obj (by
    rw [D.und, decide_eq_true_eq] at e
    rw [s.first _ e]
    exact h)
  | _, _, .glo v, _ => .glo v
theorem RvAll.short {H : Hp} {μ ν : Mp} {n : Nat} (s : Short n μ ν) : ∀ {vs : List V} {ds : List D}, RvAll K H μ vs ds → D.undAll n ds = true → RvAll K H ν vs ds
  | _, _, .nil, _ => .nil
  | _, _, .cons h q, e => by
    rw [D.undAll, Bool.and_eq_true] at e
    exact .cons (Rv.short s h e.1) (RvAll.short s q e.2)
end
theorem KsR.short {H : Hp} {μ ν : Mp} {n : Nat} (s : Short n μ ν) : ∀ {xs ys}, KsR K H μ xs ys → (ys.all fun p => D.und n p.2.1 && D.und n p.2.2) = true → KsR K H ν xs ys
  | _, _, .nil, _ => .nil
  | _, _, .cons h0 h1 h2 h3 q, e => by
    rw [List.all_cons, Bool.and_eq_true, Bool.and_eq_true] at e
    exact .cons h0 h1 (h2.short s e.1.1) (h3.short s e.1.2) (KsR.short s q e.2)
theorem KvR.short {H : Hp} {μ ν : Mp} {n : Nat} (s : Short n μ ν) : ∀ {xs ys}, KvR K H μ xs ys → (ys.all fun p => D.und n p.2) = true → KvR K H ν xs ys
  | _, _, .nil, _ => .nil
  | _, _, .cons h3 q, e => by
    rw [List.all_cons, Bool.and_eq_true] at e
    exact .cons (h3.short s e.1) (KvR.short s q e.2)
theorem FsR.short {H : Hp} {μ ν : Mp} {n : Nat} (s : Short n μ ν) : ∀ {xs ys}, FsR K H μ xs ys → (ys.all fun p => D.und n p.2) = true → FsR K H ν xs ys
  | _, _, .nil, _ => .nil
  | _, _, .cons h3 q, e => by
    rw [List.all_cons, Bool.and_eq_true] at e
    exact .cons (h3.short s e.1) (FsR.short s q e.2)
theorem OR.short {H : Hp} {μ ν : Mp} {n : Nat} (s : Short n μ ν) {a : Addr} {o : O} (h : OR P w K H μ a o) (e : o.und n = true) : OR P w K H ν a o := by
  cases o with
  | lst ds => obtain ⟨xs, e1, r⟩ := h; exact ⟨xs, e1, r.short s e⟩
  | dct ds => obtain ⟨xs, e1, r⟩ := h; exact ⟨xs, e1, r.short s e⟩
  | dks ds => obtain ⟨xs, e1, r⟩ := h; exact ⟨xs, e1, r.short s e⟩
  | lck ds => obtain ⟨od, xs, e1, r⟩ := h; exact ⟨od, xs, e1, r.short s e⟩
  | lks ds => obtain ⟨od, xs, e1, r⟩ := h; exact ⟨od, xs, e1, r.short s e⟩
  | ins C fs => obtain ⟨C, dx, gs, c, e1, r⟩ := h; exact ⟨C, dx, gs, c, e1, r.short s e⟩
  | tab x m q => obtain ⟨z, ps, e1, r, g⟩ := h; exact ⟨z, ps, e1, r, fun pos cv hc => let ⟨c, a1, a2, a3, a4⟩ := g pos cv hc; ⟨c, a1, a2, s.out a3, fun y => a4 (s.ex c y)⟩⟩
  | exc x fs =>
    obtain ⟨C, d, c, e1, r⟩ := h
    refine ⟨C, d, c, e1, ?_⟩
    rcases r with r | ⟨dd, gs, e1, e2, e3, e4, e5⟩
    · exact .inl r
    · exact .inr ⟨dd, gs, e1, e2, s.out e3, fun y => e4 (s.ex dd y), e5.short s e⟩
  | lam params body scope q cl =>
    obtain ⟨pm, c, ctv, e1, r, r1, r2⟩ := h
    exact ⟨pm, c, ctv, e1, r, s.out r1, fun y => r2 (s.ex c y)⟩
theorem KsR.und {H : Hp} {μ : Mp} : ∀ {xs ys}, KsR K H μ xs ys → (ys.all fun p => D.und μ.m.length p.2.1 && D.und μ.m.length p.2.2) = true
  | _, _, .nil => rfl
  | _, _, .cons h0 h1 h2 h3 q => by
    rw [List.all_cons, Bool.and_eq_true, Bool.and_eq_true]
    exact ⟨⟨h2.und, h3.und⟩, KsR.und q⟩
theorem KvR.und {H : Hp} {μ : Mp} : ∀ {xs ys}, KvR K H μ xs ys → (ys.all fun p => D.und μ.m.length p.2) = true
  | _, _, .nil => rfl
  | _, _, .cons h3 q => by
    rw [List.all_cons, Bool.and_eq_true]
    exact ⟨h3.und, KvR.und q⟩
theorem FsR.und {H : Hp} {μ : Mp} : ∀ {xs ys}, FsR K H μ xs ys → (ys.all fun p => D.und μ.m.length p.2) = true
  | _, _, .nil => rfl
  | _, _, .cons h3 q => by
    rw [List.all_cons, Bool.and_eq_true]
    exact ⟨h3.und, FsR.und q⟩
theorem OR.und {H : Hp} {μ : Mp} {a : Addr} {o : O} (h : OR P w K H μ a o) : o.und μ.m.length = true := by
  cases o with
  | lst ds => obtain ⟨xs, e1, r⟩ := h; exact r.und
  | dct ds => obtain ⟨xs, e1, r⟩ := h; exact r.und
  | dks ds => obtain ⟨xs, e1, r⟩ := h; exact r.und
  | lck ds => obtain ⟨od, xs, e1, r⟩ := h; exact r.und
  | lks ds => obtain ⟨od, xs, e1, r⟩ := h; exact r.und
  | ins C fs => obtain ⟨C, dx, gs, c, e1, r⟩ := h; exact r.und
  | tab x m q => rfl
  | exc x fs =>
    obtain ⟨C, d, c, e1, r⟩ := h
    rcases r with ⟨_, r⟩ | ⟨dd, gs, e1, e2, e3, e4, e5⟩
    · subst r; rfl
    · exact e5.und
  | lam params body scope q cl => rfl
/-- what stood ahead of a call stands, or is told without numbers -/
def Keeps (S S' : Sto) : Prop := S.length ≤ S'.length ∧ ∀ i, i < S.length → S'[i]? = S[i]? ∨ ∃ o, S'[i]? = some o ∧ o.und S.length = true
inductive Md where
  | drop | frz | all | frt | tp
def D.thaw (n : Nat) (S' : Sto) : D → Option D
  | .obj k => match S'[k]? with
    | some (.lst ds) => if n ≤ k ∧ D.undAll 0 ds = true then some (.lst ds) else none
    | _ => none
  | d => if d.und 0 = true then some d else none
def D.thaws (n : Nat) (S' : Sto) : List D → Option (List D)
  | [] => some []
  | d :: ds => match D.thaw n S' d, D.thaws n S' ds with
    | some a, some b => some (a :: b)
    | _, _ => none
open Classical in
noncomputable def gc (md : Md) (S : Sto) (d : D) (S' : Sto) : Option (D × Sto) := match md with
  | .all => some (d, S')
  | .drop => if Keeps S S' then (match d with
      | .obj k => match S'[k]? with
        | some o => if S.length ≤ k then (if o.und 0 = true then some (.obj S.length, S'.take S.length ++ [o]) else none) else some (.obj k, S'.take S.length)
        | none => none
      | d => if d.und 0 = true then some (d, S'.take S.length) else none) else none
  | .frz => if Keeps S S' then (match d with
      | .obj k => match S'[k]? with
        | some (.lst ds) => if S.length ≤ k ∧ D.undAll 0 ds = true then some (.lst ds, S'.take S.length) else none
        | _ => none
      | d => if d.und 0 = true then some (d, S'.take S.length) else none) else none
  | .frt => if Keeps S S' then (match d with
      | .tup es => match D.thaws S.length S' es with
        | some es' => some (.tup es', S'.take S.length)
        | none => none
      | _ => none) else none
  | .tp => if Keeps S S' then (match d with
      | .tup [.obj k, e] => match S'[k]? with
        | some o => if S.length ≤ k ∧ o.und 0 = true ∧ e.und 0 = true then some (.tup [.obj S.length, e], S'.take S.length ++ [o]) else none
        | none => none
      | _ => none) else none
theorem Keeps.refl (S : Sto) : Keeps S S := ⟨Nat.le_refl _, fun _ _ => .inl rfl⟩
theorem Keeps.app (S T : Sto) : Keeps S (S ++ T) := ⟨by simp, fun i h => .inl (List.getElem?_append_left h)⟩
theorem O.und_mono {n m : Nat} (h : n ≤ m) {o : O} (b : o.und n = true) : o.und m = true := by
  cases o with
  | lst ds => exact D.undAll_mono h b
  | dct kvs =>
    simp only [O.und, List.all_eq_true, Bool.and_eq_true] at b ⊢
    exact fun p hp => ⟨D.und_mono h (b p hp).1, D.und_mono h (b p hp).2⟩
  | dks kvs =>
    simp only [O.und, List.all_eq_true] at b ⊢
    exact fun p hp => D.und_mono h (b p hp)
  | lck kvs =>
    simp only [O.und, List.all_eq_true, Bool.and_eq_true] at b ⊢
    exact fun p hp => ⟨D.und_mono h (b p hp).1, D.und_mono h (b p hp).2⟩
  | lks kvs =>
    simp only [O.und, List.all_eq_true] at b ⊢
    exact fun p hp => D.und_mono h (b p hp)
  | ins C kvs =>
    simp only [O.und, List.all_eq_true] at b ⊢
    exact fun p hp => D.und_mono h (b p hp)
  | tab x m q => rfl
  | exc C kvs =>
    simp only [O.und, List.all_eq_true] at b ⊢
    exact fun p hp => D.und_mono h (b p hp)
  | lam params body scope q cl => rfl
theorem Keeps.und {H : Hp} {μ : Mp} {S S' : Sto} (hr : HR P w K H μ S) (kp : Keeps S S') {k : Nat} {o : O} (hl : k < S.length) (hs : S'[k]? = some o) : o.und S.length = true := by
  rcases kp.2 k hl with z | ⟨o', z, b⟩
  · have hk : k < μ.m.length := by rw [hr.len]; exact hl
    have := (hr.ok k μ.m[k] o (by simp [hk]) (z ▸ hs)).und
    rw [hr.len] at this
    exact this
  · rw [hs] at z
    cases z
    exact b
theorem short_HR {H H' : Hp} {μ μ' : Mp} {S S' : Sto} (hr : HR P w K H μ S) (l : Later μ H μ' H') (hr' : HR P w K H' μ' S') (kp : Keeps S S') : Short S.length μ' μ ∧ HR P w K H' μ (S'.take S.length) ∧ Later μ H μ H' := by
  obtain ⟨e, he⟩ := l.ext
  have sh : Short S.length μ' μ := ⟨fun a h => by rw [he]; exact List.mem_append_left _ h, l.ex, fun k hk => by rw [he, List.getElem?_append_left (by rw [hr.len]; exact hk)]⟩
  refine ⟨sh, ⟨?_, hr.nd, fun k a o hk hs => ?_, fun a ha => hr'.there a (by rw [he]; exact List.mem_append_left _ ha), fun a ha => hr'.thereX a (l.ex a ha), hr.dj⟩, ⟨⟨[], by simp⟩, fun _ h => h, fun a o h n => ⟨n, id, (l.keep a o h n).2.2⟩, l.frz⟩⟩
  · rw [List.length_take, hr.len]
    exact (Nat.min_eq_left kp.1).symm
  · have hl : k < S.length := by rw [← hr.len]; exact (List.getElem?_eq_some_iff.mp hk).1
    rw [List.getElem?_take_of_lt hl] at hs
    have hk' : μ'.m[k]? = some a := by rw [← sh.first k hl]; exact hk
    exact (hr'.ok k a o hk' hs).short sh (kp.und hr hl hs)
theorem fresh_out {H H' : Hp} {μ μ' : Mp} {S S' : Sto} (hr : HR P w K H μ S) (l : Later μ H μ' H') (hr' : HR P w K H' μ' S') {k : Nat} {a : Addr} (hk : μ'.m[k]? = some a) (hle : S.length ≤ k) : a ∉ μ.m ∧ a ∉ μ.x := by
  obtain ⟨e, he⟩ := l.ext
  refine ⟨fun z => ?_, fun z => hr'.dj a (List.mem_of_getElem? hk) (l.ex a z)⟩
  obtain ⟨j, hj⟩ := List.mem_iff_getElem?.mp z
  have hjl := (List.getElem?_eq_some_iff.mp hj).1
  have hj' : μ'.m[j]? = some a := by rw [he, List.getElem?_append_left hjl]; exact hj
  have := (List.getElem?_inj (List.getElem?_eq_some_iff.mp hj').1 hr'.nd).mp (hj'.trans hk.symm)
  rw [hr.len] at hjl
  omega
theorem thaw_rv {H H' : Hp} {μ μ' : Mp} {S S' : Sto} (hr : HR P w K H μ S) (l : Later μ H μ' H') (hr' : HR P w K H' μ' S') (kp : Keeps S S') {v : V} {d d2 : D} (r : Rv K H' μ' v d) (h : D.thaw S.length S' d = some d2) : Rv K H' μ v d2 := by
  obtain ⟨sh, hr2, l2⟩ := short_HR hr l hr' kp
  unfold D.thaw at h
  split at h
  · rename_i k
    split at h
    · rename_i ds eo
      obtain ⟨a, rfl, hk, xs, ha, hds⟩ := hr'.at r eo
      split at h
      · rename_i hle
        cases h
        obtain ⟨na, nx⟩ := fresh_out hr l hr' hk hle.1
        exact .lst ⟨ha, na, nx⟩ (hds.short sh (D.undAll_mono (Nat.zero_le _) hle.2))
      · cases h
    · cases h
  · split at h
    · rename_i hb
      cases h
      exact r.short sh (D.und_mono (Nat.zero_le _) hb)
    · cases h
theorem thaws_rv {H H' : Hp} {μ μ' : Mp} {S S' : Sto} (hr : HR P w K H μ S) (l : Later μ H μ' H') (hr' : HR P w K H' μ' S') (kp : Keeps S S') : ∀ {vs : List V} {ds ds2 : List D}, RvAll K H' μ' vs ds → D.thaws S.length S' ds = some ds2 → RvAll K H' μ vs ds2
  | _, _, _, .nil, h => by cases h; exact .nil
  | _, _, _, .cons (d := d) (ds := ds) r q, h => by
    rw [D.thaws] at h
    split at h
    · rename_i a b h1 h2
      cases h
      exact .cons (thaw_rv hr l hr' kp r h1) (thaws_rv hr l hr' kp q h2)
    · cases h
theorem gc_push {H H' : Hp} {μ μ' : Mp} {S S' : Sto} {k : Nat} {o : O} {v : V} (hr : HR P w K H μ S) (l : Later μ H μ' H') (hr' : HR P w K H' μ' S') (kp : Keeps S S') (r : Rv K H' μ' v (.obj k)) (eo : S'[k]? = some o) (hle : S.length ≤ k) (hb : o.und 0 = true) :
    ∃ μ2, Short 0 μ' μ2 ∧ Later μ H μ2 H' ∧ HR P w K H' μ2 (S'.take S.length ++ [o]) ∧ Rv K H' μ2 v (.obj S.length) := by
  obtain ⟨sh, hr2, l2⟩ := short_HR hr l hr' kp
  obtain ⟨a, rfl, hk, ho⟩ := hr'.at r eo
  obtain ⟨na, nx⟩ := fresh_out hr l hr' hk hle
  have hm : ∀ x ∈ μ.m ++ [a], x ∈ μ'.m := fun x hx => by
    rcases List.mem_append.mp hx with z | z
    · exact sh.sub x z
    · rw [List.mem_singleton.mp z]; exact List.mem_of_getElem? hk
  have s3 : Short S.length μ' ⟨μ.m ++ [a], μ.x⟩ := ⟨hm, l.ex, fun j hj => by
    rw [← sh.first j hj]
    exact List.getElem?_append_left (by rw [hr.len]; exact hj)⟩
  refine ⟨⟨μ.m ++ [a], μ.x⟩, ⟨hm, l.ex, fun j hj => absurd hj (Nat.not_lt_zero j)⟩, ⟨⟨[a], rfl⟩, fun _ h => h, fun b o q n => ⟨fun z => (l.keep b o q n).1 (hm b z), id, (l.keep b o q n).2.2⟩, l.frz⟩, ⟨by rw [List.length_append, List.length_append, hr2.len]; rfl, ?_, fun j b u hj hu => ?_, fun b hb => hr'.there b (hm b hb), hr2.thereX, fun b hb => by
    rcases List.mem_append.mp hb with z | z
    · exact hr.dj b z
    · rw [List.mem_singleton.mp z]; exact nx⟩, .obj (by rw [← hr.len]; simp)⟩
  · rw [List.nodup_append]
    exact ⟨hr.nd, by simp, fun b hb c hc => by rw [List.mem_singleton.mp hc]; exact fun z => na (z ▸ hb)⟩
  · by_cases hlt : j < S.length
    · rw [List.getElem?_append_left (by rw [List.length_take]; have := kp.1; omega), List.getElem?_take_of_lt hlt] at hu
      have hj' : μ'.m[j]? = some b := by rw [← s3.first j hlt]; exact hj
      exact (hr'.ok j b u hj' hu).short s3 (kp.und hr hlt hu)
    · have h1 : (μ.m ++ [a])[j]? = some b := hj
      rw [List.getElem?_append_right (by rw [hr.len]; omega)] at h1
      have e0 : j - μ.m.length = 0 := by
        have := (List.getElem?_eq_some_iff.mp h1).1
        simp at this
        omega
      rw [e0] at h1
      have ea : a = b := by simpa using h1
      subst ea
      have hlen : (S'.take S.length).length = S.length := by rw [List.length_take]; have := kp.1; omega
      rw [List.getElem?_append_right (by omega), hlen, ← hr.len, e0] at hu
      have eu : o = u := by simpa using hu
      subst eu
      exact ho.short s3 (O.und_mono (Nat.zero_le _) hb)
theorem gc_ok {H H' : Hp} {μ μ' : Mp} {S S' S2 : Sto} {d d2 : D} {v : V} {md : Md} (hr : HR P w K H μ S) (l : Later μ H μ' H') (hr' : HR P w K H' μ' S') (r : Rv K H' μ' v d) (h : gc md S d S' = some (d2, S2)) :
    ∃ μ2, Later μ H μ2 H' ∧ HR P w K H' μ2 S2 ∧ Rv K H' μ2 v d2 := by
  cases md with
  | all => cases h; exact ⟨μ', l, hr', r⟩
  | drop =>
    simp only [gc] at h
    split at h
    · rename_i kp
      obtain ⟨sh, hr2, l2⟩ := short_HR hr l hr' kp
      split at h
      · rename_i k
        split at h
        · rename_i o eo
          obtain ⟨a, rfl, hk, ho⟩ := hr'.at r eo
          split at h
          · rename_i hle
            split at h
            · rename_i hb
              cases h
              obtain ⟨na, nx⟩ := fresh_out hr l hr' hk hle
              have hm : ∀ x ∈ μ.m ++ [a], x ∈ μ'.m := fun x hx => by
                rcases List.mem_append.mp hx with z | z
                · exact sh.sub x z
                · rw [List.mem_singleton.mp z]; exact List.mem_of_getElem? hk
              have s3 : Short S.length μ' ⟨μ.m ++ [a], μ.x⟩ := ⟨hm, l.ex, fun j hj => by
                rw [← sh.first j hj]
                exact List.getElem?_append_left (by rw [hr.len]; exact hj)⟩
              refine ⟨⟨μ.m ++ [a], μ.x⟩, ⟨⟨[a], rfl⟩, fun _ h => h, fun b o q n => ⟨fun z => (l.keep b o q n).1 (hm b z), id, (l.keep b o q n).2.2⟩, l.frz⟩, ⟨by rw [List.length_append, List.length_append, hr2.len]; rfl, ?_, fun j b u hj hu => ?_, fun b hb => hr'.there b (hm b hb), hr2.thereX, fun b hb => by
                rcases List.mem_append.mp hb with z | z
                · exact hr.dj b z
                · rw [List.mem_singleton.mp z]; exact nx⟩, .obj (by rw [← hr.len]; simp)⟩
              · rw [List.nodup_append]
                exact ⟨hr.nd, by simp, fun b hb c hc => by rw [List.mem_singleton.mp hc]; exact fun z => na (z ▸ hb)⟩
              · by_cases hlt : j < S.length
                · rw [List.getElem?_append_left (by rw [List.length_take]; have := kp.1; omega), List.getElem?_take_of_lt hlt] at hu
                  have hj' : μ'.m[j]? = some b := by rw [← s3.first j hlt]; exact hj
                  exact (hr'.ok j b u hj' hu).short s3 (kp.und hr hlt hu)
                · have h1 : (μ.m ++ [a])[j]? = some b := hj
                  rw [List.getElem?_append_right (by rw [hr.len]; omega)] at h1
                  have e0 : j - μ.m.length = 0 := by
                    have := (List.getElem?_eq_some_iff.mp h1).1
                    simp at this
                    omega
                  rw [e0] at h1
                  have ea : a = b := by simpa using h1
                  subst ea
                  have hlen : (S'.take S.length).length = S.length := by rw [List.length_take]; have := kp.1; omega
                  rw [List.getElem?_append_right (by omega), hlen, ← hr.len, e0] at hu
                  have eu : o = u := by simpa using hu
                  subst eu
                  exact ho.short s3 (O.und_mono (Nat.zero_le _) hb)
            · cases h
          · rename_i hle
            cases h
            exact ⟨μ, l2, hr2, .obj (by rw [sh.first k (by omega)]; exact hk)⟩
        · cases h
      · split at h
        · rename_i hb
          cases h
          exact ⟨μ, l2, hr2, r.short sh (D.und_mono (Nat.zero_le _) hb)⟩
        · cases h
    · cases h
  | frz =>
    simp only [gc] at h
    split at h
    · rename_i kp
      obtain ⟨sh, hr2, l2⟩ := short_HR hr l hr' kp
      split at h
      · rename_i k
        split at h
        · rename_i ds eo
          obtain ⟨a, rfl, hk, xs, ha, hds⟩ := hr'.at r eo
          split at h
          · rename_i hle
            cases h
            obtain ⟨na, nx⟩ := fresh_out hr l hr' hk hle.1
            exact ⟨μ, l2, hr2, .lst ⟨ha, na, nx⟩ (hds.short sh (D.undAll_mono (Nat.zero_le _) hle.2))⟩
          · cases h
        · cases h
      · split at h
        · rename_i hb
          cases h
          exact ⟨μ, l2, hr2, r.short sh (D.und_mono (Nat.zero_le _) hb)⟩
        · cases h
    · cases h
  | frt =>
    simp only [gc] at h
    split at h
    · rename_i kp
      obtain ⟨sh, hr2, l2⟩ := short_HR hr l hr' kp
      split at h
      · split at h
        · rename_i es' e
          cases h
          cases r with
          | tup h1 h2 => exact ⟨μ, l2, hr2, .tup (h1.imp (fun z => ⟨z.1, sh.out z.2.1, fun q => z.2.2 (sh.ex _ q)⟩) id) (thaws_rv hr l hr' kp h2 e)⟩
        · cases h
      · cases h
    · cases h
  | tp =>
    simp only [gc] at h
    split at h
    · rename_i kp
      split at h
      · rename_i k e
        split at h
        · rename_i o eo
          split at h
          · rename_i hc
            cases h
            cases r with
            | tup h1 h2 =>
              cases h2 with
              | cons r1 q =>
                cases q with
                | cons r2 q2 =>
                  cases q2
                  obtain ⟨μ2, sh, l2, hr2, r3⟩ := gc_push hr l hr' kp r1 eo hc.1 hc.2.1
                  exact ⟨μ2, l2, hr2, .tup (h1.imp (fun z => ⟨z.1, sh.out z.2.1, fun q => z.2.2 (sh.ex _ q)⟩) id) (.cons r3 (.cons (r2.short sh hc.2.2) .nil))⟩
          · cases h
        · cases h
      · cases h
    · cases h
/-! a def's body, and its call -/
abbrev Fn := List D → Sto → Option (D × Sto)
def spJ (P : Program) (w : World) (K : PySem.W.Frag) (n : Nat) (F : Fn) : Sp := fun vs H Q _ => ∃ (μ : Mp) (S : Sto) (ds : List D) (d : D) (S' : Sto), vs.length = n ∧ HR P w K H μ S ∧ RvAll K H μ vs ds ∧ F ds S = some (d, S') ∧
  ∀ v H' μ', Later μ H μ' H' → HR P w K H' μ' S' → Rv K H' μ' v d → Q v H'
def startD (n : Nat) (ds : List D) : Env := ds.map some ++ List.replicate (n - ds.length) none
noncomputable def runD (md : Md) (n : Nat) (b : FS) : Fn := fun ds S => match b (startD n ds) S with
  | some (.rt d, _, S') => gc md S d S'
  | some (.nx, _, S') => gc md S .non S'
  | _ => none
theorem start_er {H : Hp} {μ : Mp} {vs : List V} {ds : List D} {N : List Str} (r : RvAll K H μ vs ds) : ER K H μ (start N vs) (startD N.length ds) := by
  have hl := r.length
  refine ⟨by simp [L2.start, startD, hl], fun i d h => ?_⟩
  unfold startD at h
  by_cases hi : i < ds.length
  · rw [List.getElem?_append_left (by simpa using hi), List.getElem?_map] at h
    cases e : ds[i]? with
    | none => rw [e] at h; cases h
    | some d' =>
      rw [e] at h
      cases h
      obtain ⟨v, h1, h2⟩ := r.get i e
      refine ⟨v, ?_, h2⟩
      unfold L2.start
      rw [List.getElem?_append_left (by simpa [hl] using hi), List.getElem?_map, h1]
      rfl
  · rw [List.getElem?_append_right (by simpa using hi), List.getElem?_replicate] at h
    split at h <;> cases h
theorem okJ {mg : Str → Option Value} {base : Heap} {x qual : Str} {st : Stmt} {f : Addr} {fd : FuncData} {N ps : List Str} {k : Nat} {b : FS} {md : Md} (F : Fun K x qual st f fd) (S : FnScope N ps (defScope st))
    (hb : ∀ (cdv : Value) (A : Around) (outer : List PySem.Env) (s : Shared) (H : Hp) (E : XK), Room k (A.deeper (envOfC qual (defScope st) s.heap.objs.size f cdv)) → JSs (cxOf CX0 P w K mg base N qual (defScope st) f cdv A outer s H E).nox (defBody st) b) :
    FnOk P w K mg base CX0 (k + 1) f fd ps (spJ P w K ps.length (runD md N.length b)) := by
  refine F.ok S (fun vs H Q E h => ?_) (fun cdv A outer s H vs Q E hr h => ?_)
  · obtain ⟨_, _, _, _, _, h, _⟩ := h
    exact h
  · obtain ⟨μ, S0, ds, d, S', hl, hR, r, hf, q⟩ := h
    obtain ⟨t, p, qs⟩ := hb cdv A outer s H E hr
    refine ⟨t, p, ?_⟩
    unfold runD at hf
    split at hf
    · rename_i d1 env1 S1 e1
      refine qs (start N vs) H μ _ S0 _ env1 S1 _ hR (start_er r) e1 fun σ' H' μ' l hR' er' v rv => ?_
      obtain ⟨μ2, l2, h2, r2⟩ := gc_ok hR l hR' rv hf
      exact q v H' μ2 l2 h2 r2
    · rename_i env1 S1 e1
      refine qs (start N vs) H μ _ S0 _ env1 S1 _ hR (start_er r) e1 fun σ' H' μ' l hR' er' => ?_
      obtain ⟨μ2, l2, h2, r2⟩ := gc_ok hR l hR' .non hf
      exact q _ H' μ2 l2 h2 r2
    · cases hf
def fCall (n : Nat) (F : Fn) (g : FA) (dd : List D) : FE := fun env S => match g env S with
  | some (ds, S1) => if (ds ++ dd).length = n then F (ds ++ dd) S1 else none
  | none => none
variable {X : Cx}
theorem je_call {k n : Nat} {f : Addr} {fd : FuncData} {ps : List Str} {F : Fn} {dvs : List V} {ds : List Value} {dd : List D} {x : Str} {p pos : Pos} {e : Expr} {es : List Expr} {g : FA} (G : FnOk X.prog X.w X.K X.mg X.base CX0 k f fd ps (spJ X.prog X.w X.K n F)) (hr : Room k X.A) (hg : Gl X x) (hm : X.mg x = some (.ref f)) (hk : PySem.W.keepIn X.K (.ref f) = true) (hb : Binds X.K fd ps ds) (hd : Vals dvs ds)
    (hdd : ∀ H μ, RvAll X.K H μ dvs dd) (ha : JA X (e :: es) g) (hdb : (x == ("__debug__" : Str)) = false := by decide) (he : starEach (e :: es) X.env = (false, eval e X.env) :: starEach es X.env := by rfl) (hpl : (backTo pos (starEach es X.env)).any (·.1) = false := by rfl) :
    JE X (.Call (.Name x p) (e :: es) [] pos) (fCall n F g dd) := by
  obtain ⟨t, pa, q⟩ := ha
  refine ⟨_, pe_call G hr hg hm hk hb hd pass0 pa hdb he hpl, fun σ H μ env S d S' Q hR er hf kk => ?_⟩
  unfold fCall at hf
  split at hf
  · rename_i as S1 e1
    split at hf
    · rename_i hl
      refine q σ H μ env S as S1 _ hR er e1 fun vs H1 μ1 l1 hR1 r1 => ?_
      have r2 := r1.append (hdd H1 μ1)
      exact ⟨μ1, S1, as ++ dd, d, S', r2.length.trans hl, hR1, r2, hf, fun v H' μ' l => kk v H' μ' (l1.trans l)⟩
    · cases hf
  · cases hf
/-- keywords: h puts them -/
def fCallN (n i j : Nat) (F : Fn) (h : List D → List D → List D) (g gk : FA) : FE := fun env S => match g env S with
  | some (ds, S1) => match gk env S1 with
    | some (es, S2) => if ds.length = i ∧ es.length = j ∧ (h ds es).length = n then F (h ds es) S2 else none
    | none => none
  | none => none
end J

set_option autoImplicit false
namespace J
open PySem PySem.Spec PyProof.Rows L2
variable {K : PySem.W.Frag} {P : Program} {w : World} {X : Cx}
/-! what a loop walks -/
theorem PI.or {tg iter : Expr} {w1 w2 : TI} (h1 : PI X tg iter w1) (h2 : PI X tg iter w2) : PI X tg iter (fun σ H R => w1 σ H R ∨ w2 σ H R) :=
  ⟨fun pins s σ H R I h => h.elim (h1.run pins s σ H R I) (h2.run pins s σ H R I)⟩
theorem RvAll.at {H : Hp} {μ : Mp} {vs : List V} {ds : List D} (h : RvAll K H μ vs ds) {i : Nat} {x : V} {d : D} (hx : vs[i]? = some x) (hd : ds[i]? = some d) : Rv K H μ x d := by
  obtain ⟨v, h1, h2⟩ := h.get i hd
  rw [hx] at h1
  cases h1
  exact h2
theorem itf_tup {H0 : Hp} {μ0 : Mp} {a : Addr} {xs : List V} {ds : List D} (ht : TpR K H0 μ0 a xs) (hd : RvAll K H0 μ0 xs ds) : ItF P w K (Itt K a) ds μ0 H0 := by
  intro μ H l
  have hs : SqT K H a xs := TpR.sq (ht.imp l.rd id)
  have W := walk_tup (K := K) (a := a) (xs := xs)
  have hl := hd.length
  refine ⟨fun S hr => ⟨fun i hi => W.goes i H (by omega) hs, by rw [← hl]; exact W.stops H hs⟩, fun i S x H' d hr h1 y => ?_⟩
  have hi : i < xs.length := by rw [hl]; exact (List.getElem?_eq_some_iff.mp h1).1
  obtain ⟨rfl, hx⟩ := W.yields i H x H' hi hs y
  exact ⟨.refl _ _, hr, (hd.later l).at hx h1⟩
theorem itf_lst {H0 : Hp} {μ0 : Mp} {a : Addr} {xs : List V} {ds : List D} (ht : LsR K H0 μ0 a xs) (hd : RvAll K H0 μ0 xs ds) : ItF P w K (Itl K a) ds μ0 H0 := by
  intro μ H l
  have hs : SqL K H a xs := LsR.sq (ht.imp l.rd id)
  have W := walk_list (K := K) (a := a) (xs := xs)
  have hl := hd.length
  refine ⟨fun S hr => ⟨fun i hi => W.goes i H (by omega) hs, by rw [← hl]; exact W.stops H hs⟩, fun i S x H' d hr h1 y => ?_⟩
  have hi : i < xs.length := by rw [hl]; exact (List.getElem?_eq_some_iff.mp h1).1
  obtain ⟨rfl, hx⟩ := W.yields i H x H' hi hs y
  exact ⟨.refl _ _, hr, (hd.later l).at hx h1⟩
theorem PlR.ls {H : Hp} {μ : Mp} {a : Addr} {xs : List V} (h : PlR H μ a xs) : LsR K H μ a xs := .inl ⟨.inl h.1, h.2⟩
def D.items : D → Option (List D)
  | .tup ds => some ds
  | .lst ds => some ds
  | .scr ds => some ds
  | _ => none
def fIt (f : FE) : FA := fun env S => match f env S with
  | some (d, S1) => match d.items with
    | some ds => some (ds, S1)
    | none => none
  | none => none
theorem fIt_some {f : FE} {env : Env} {S S' : Sto} {ds : List D} (h : fIt f env S = some (ds, S')) : ∃ d, f env S = some (d, S') ∧ d.items = some ds := by
  unfold fIt at h
  split at h
  · rename_i d S1 e1
    split at h
    · rename_i es e2
      cases h
      exact ⟨d, e1, e2⟩
    · cases h
  · cases h
theorem ji_seq {tg e : Expr} {f : FE} (h : JE X e f) : JI X tg e (fIt f) := by
  obtain ⟨t, p, q⟩ := h
  refine ⟨_, PI.or (pi_tup p) (pi_list p), fun σ H μ env S ds S' R hr er hf k => ?_⟩
  obtain ⟨d, e1, e2⟩ := fIt_some hf
  cases d with
  | tup es =>
    cases e2
    refine .inl (q σ H μ env S _ S' _ hr er e1 fun v H1 μ1 l hr1 r => ?_)
    cases r with
    | tup h1 h2 => exact ⟨_, rfl, ⟨_, h1.sq⟩, k _ H1 μ1 l hr1 (itf_tup h1 h2)⟩
  | lst es =>
    cases e2
    refine .inr (q σ H μ env S _ S' _ hr er e1 fun v H1 μ1 l hr1 r => ?_)
    cases r with
    | lst h1 h2 => exact ⟨_, rfl, ⟨_, h1.sq⟩, k _ H1 μ1 l hr1 (itf_lst h1.ls h2)⟩
  | scr es =>
    cases e2
    refine .inr (q σ H μ env S _ S' _ hr er e1 fun v H1 μ1 l hr1 r => ?_)
    cases r with
    | scr h1 h2 => exact ⟨_, rfl, ⟨_, h1.sq⟩, k _ H1 μ1 l hr1 (itf_lst h1 h2)⟩
  | _ => cases e2
def rngD (lo : Int) (n : Nat) : List D := (List.range n).map fun (i : Nat) => .int (lo + (i : Int))
theorem itf_rng {H0 : Hp} {μ0 : Mp} {lo : Int} {n : Nat} : ItF P w K (Itr lo n) (rngD lo n) μ0 H0 := by
  intro μ H l
  have W := walk_range (lo := lo) (n := n)
  have hl : (rngD lo n).length = n := by simp [rngD]
  refine ⟨fun S hr => ⟨fun i hi => W.goes i H (by omega) trivial, by rw [hl]; exact W.stops H trivial⟩, fun i S x H' d hr h1 y => ?_⟩
  have hi : i < n := by rw [← hl]; exact (List.getElem?_eq_some_iff.mp h1).1
  obtain ⟨rfl, rfl⟩ := W.yields i H x H' hi trivial y
  have e : d = .int (lo + i) := by
    unfold rngD at h1
    rw [List.getElem?_map, List.getElem?_range hi] at h1
    exact (Option.some.inj h1).symm
  subst e
  exact ⟨.refl _ _, hr, .int _⟩
def fRng1 (g : FA) : FA := fun env S => match g env S with
  | some ([.int j], S1) => if -(2 ^ 62) ≤ j ∧ j < 2 ^ 62 then some (rngD 0 j.toNat, S1) else none
  | _ => none
def fRng2 (g : FA) : FA := fun env S => match g env S with
  | some ([.int i, .int j], S1) => if -(2 ^ 62) ≤ i ∧ i < 2 ^ 62 ∧ -(2 ^ 62) ≤ j ∧ j < 2 ^ 62 then some (rngD i (j - i).toNat, S1) else none
  | _ => none
theorem ji_range1 {tg a : Expr} {g : FA} {p pos : Pos} (hg : Gl X "range") (hm : X.mg "range" = none) (ha : JA X [a] g) (hs : starEach [a] X.env = [(false, eval a X.env)] := by rfl) : JI X tg (.Call (.Name "range" p) [a] [] pos) (fRng1 g) := by
  obtain ⟨t, pa, q⟩ := ha
  refine ⟨_, pi_range1 hg hm pa hs, fun σ H μ env S ds S' R hr er hf k => ?_⟩
  unfold fRng1 at hf
  split at hf
  · rename_i j S1 e1
    split at hf
    · rename_i hj
      cases hf
      refine q σ H μ env S _ _ _ hr er e1 fun vs H1 μ1 l hr1 r => ?_
      cases r with
      | cons r1 r2 =>
        cases r1
        cases r2
        exact ⟨j, rfl, hj.1, hj.2, k _ H1 μ1 l hr1 itf_rng⟩
    · cases hf
  · cases hf
/-! comprehensions: a new list that nobody changes -/
def wipeD (env : Env) : List Nat → Env
  | [] => env
  | v :: vs => (wipeD env vs).set v none
theorem wipeD_length (env : Env) : ∀ vs : List Nat, (wipeD env vs).length = env.length
  | [] => rfl
  | v :: vs => by rw [wipeD, List.length_set, wipeD_length env vs]
theorem wipeD_some {env : Env} {i : Nat} {d : D} : ∀ {vs : List Nat}, (wipeD env vs)[i]? = some (some d) → env[i]? = some (some d) ∧ i ∉ vs
  | [], h => ⟨h, by simp⟩
  | v :: vs, h => by
    rw [wipeD] at h
    by_cases hi : v = i
    · subst hi
      by_cases hv : v < (wipeD env vs).length
      · rw [List.getElem?_set_self hv] at h; cases h
      · rw [List.getElem?_eq_none (by simpa using hv)] at h; cases h
    · rw [List.getElem?_set_ne hi] at h
      obtain ⟨h1, h2⟩ := wipeD_some h
      exact ⟨h1, by simp only [List.mem_cons, not_or]; exact ⟨fun e => hi e.symm, h2⟩⟩
theorem ER.wipe {H : Hp} {μ : Mp} {σ : L2.St} {env : Env} (er : ER K H μ σ env) (vs : List Nat) : ER K H μ (wipe σ vs) (wipeD env vs) := by
  refine ⟨by rw [wipe_length, wipeD_length, er.len], fun i d h => ?_⟩
  obtain ⟨h1, h2⟩ := wipeD_some h
  obtain ⟨v, h3, h4⟩ := er.ok i d h1
  exact ⟨v, by rw [wipe_out h2]; exact h3, h4⟩
theorem wipe_in {σ : L2.St} {i : Nat} : ∀ {vs : List Nat}, i ∈ vs → i < σ.length → (wipe σ vs)[i]? = some none
  | [], h, _ => by cases h
  | v :: vs, h, hl => by
    unfold wipe
    by_cases hi : v = i
    · subst hi
      exact List.getElem?_set_self (by rw [wipe_length]; exact hl)
    · rw [List.getElem?_set_ne hi]
      rcases List.mem_cons.mp h with z | z
      · exact absurd z.symm hi
      · exact wipe_in z hl
theorem wipe_eq {σ σ2 : L2.St} {vs : List Nat} (hl : σ2.length = σ.length) (h : ∀ j, j ∉ vs → σ2[j]? = (wipe σ vs)[j]?) : wipe σ2 vs = wipe σ vs := by
  refine List.ext_getElem? fun j => ?_
  by_cases hj : j ∈ vs
  · by_cases hlt : j < σ.length
    · rw [wipe_in hj (by omega), wipe_in hj hlt]
    · rw [List.getElem?_eq_none (by rw [wipe_length]; omega), List.getElem?_eq_none (by rw [wipe_length]; omega)]
  · rw [wipe_out hj, h j hj]
def fLcL (g : FG) (ft : FT) (fe : FE) (env : Env) : List D → Sto → Option (List D × Sto)
  | [], S => some ([], S)
  | d :: ds, S => match g d env S with
    | none => none
    | some (env1, S1) => match ft env1 S1 with
      | none => none
      | some (false, S2) => fLcL g ft fe env ds S2
      | some (true, S2) => match fe env1 S2 with
        | none => none
        | some (y, S3) => match fLcL g ft fe env ds S3 with
          | none => none
          | some (ys, S4) => some (y :: ys, S4)
def fLc (own : List Nat) (fi : FA) (g : FG) (ft : FT) (fe : FE) : FE := fun env S => match fi env S with
  | none => none
  | some (ds, S1) => if ds.length ≤ 100000 then (match fLcL g ft fe (wipeD env own) ds S1 with
    | some (ys, S2) => some (.lst ys, S2)
    | none => none) else none
def fYes : FT := fun _ S => some (true, S)
def JTs (X : Cx) (ifs : List Expr) (f : FT) : Prop := ∃ t : TT, PTs X ifs t ∧ ∀ (σ : L2.St) (H : Hp) (μ : Mp) (env : Env) (S : Sto) (d : Bool) (S' : Sto) (Q : Bool → Hp → Prop), HR X.prog X.w X.K H μ S → ER X.K H μ σ env → f env S = some (d, S') →
  (∀ H' μ', Later μ H μ' H' → HR X.prog X.w X.K H' μ' S' → Q d H') → t σ H Q
theorem jts_nil : JTs X [] fYes := ⟨_, pts_nil, fun σ H μ env S d S' Q hr er hf k => by cases hf; exact k H μ (.refl _ _) hr⟩
theorem HR.unx {H : Hp} {μ : Mp} {S : Sto} {x : List Addr} (hr : HR P w K H μ S) (hx : ∀ a, a ∈ x → a ∈ μ.x) : HR P w K H ⟨μ.m, x⟩ S := by
  have d : Dat μ H ⟨μ.m, x⟩ H := ⟨⟨[], by simp⟩, fun a o h n nx => ⟨n, fun z => nx (hx a z), h⟩⟩
  exact ⟨hr.len, hr.nd, fun k a o hk hs => (hr.ok k a o hk hs).dat d rfl, hr.there, fun a ha => hr.thereX a (hx a ha), fun a ha z => hr.dj a ha (hx a z)⟩
theorem len100 {n : Nat} (h : n < 100001) : n < sizeLine := Nat.lt_of_lt_of_le h (by decide)
/-- the accumulating list at p -/
theorem HR.acc {H : Hp} {μ : Mp} {S : Sto} {p : Addr} {o : HO} (hr : HR P w K H μ S) (hx : p ∈ μ.x) : HR P w K (upd H p o) μ S ∧ Dat μ H μ (upd H p o) := by
  have nm : p ∉ μ.m := fun z => hr.dj p z hx
  have d : Dat μ H μ (upd H p o) := ⟨⟨[], by simp⟩, fun a u h n nx => ⟨n, nx, by rw [upd_ne (show a ≠ p from fun z => nx (by rw [z]; exact hx))]; exact h⟩⟩
  refine ⟨⟨hr.len, hr.nd, fun k a u hk hs => (hr.ok k a u hk hs).dat d (upd_ne (show a ≠ p from fun z => nm (by rw [← z]; exact List.mem_of_getElem? hk))), fun a ha => ?_, fun a ha => ?_, hr.dj⟩, d⟩
  · rw [upd_ne (show a ≠ p from fun z => nm (by rw [← z]; exact ha))]; exact hr.there a ha
  · by_cases e : a = p
    · rw [e, upd_same]; simp
    · rw [upd_ne e]; exact hr.thereX a ha
section
variable (X : Cx) (scope : Scope)
/-- readings of a block's pieces, whatever its frame -/
def tgB (tg : Expr) : TG := fun v σ H0 Q => ∀ (s : Shared) (H : Hp) (C : Addr) (cl : List (Str × Addr)) (fp : List Addr), ∃ t, PG (X.blk s H scope (compEnvC scope cl C X.env) fp) tg t ∧ t v σ H0 Q
def ttB (ifs : List Expr) : TT := fun σ H0 Q => ∀ (s : Shared) (H : Hp) (C : Addr) (cl : List (Str × Addr)) (fp : List Addr), ∃ t, PTs (X.blk s H scope (compEnvC scope cl C X.env) fp) ifs t ∧ t σ H0 Q
def teB (elt : Expr) : TE := fun σ H0 Q => ∀ (s : Shared) (H : Hp) (C : Addr) (cl : List (Str × Addr)) (fp : List Addr), ∃ t, PE (X.blk s H scope (compEnvC scope cl C X.env) fp) elt t ∧ t σ H0 Q
end
theorem pgB {scope : Scope} {tg : Expr} (s : Shared) (H : Hp) (C : Addr) (cl : List (Str × Addr)) (fp : List Addr) : PG (X.blk s H scope (compEnvC scope cl C X.env) fp) tg (tgB X scope tg) := ⟨fun pins s' σ H' v u Q I r h => let ⟨t, p, q⟩ := h s H C cl fp; p.run pins s' σ H' v u Q I r q⟩
theorem ptB {scope : Scope} {ifs : List Expr} (s : Shared) (H : Hp) (C : Addr) (cl : List (Str × Addr)) (fp : List Addr) : PTs (X.blk s H scope (compEnvC scope cl C X.env) fp) ifs (ttB X scope ifs) := ⟨fun pins s' σ H' Q I h => let ⟨t, p, q⟩ := h s H C cl fp; p.run pins s' σ H' Q I q⟩
theorem peB {scope : Scope} {elt : Expr} (s : Shared) (H : Hp) (C : Addr) (cl : List (Str × Addr)) (fp : List Addr) : PE (X.blk s H scope (compEnvC scope cl C X.env) fp) elt (teB X scope elt) := ⟨fun pins s' σ H' Q I h => let ⟨t, p, q⟩ := h s H C cl fp; p.run pins s' σ H' Q I q⟩
theorem q_lc {elt tg : Expr} {ifs : List Expr} {scope : Scope} {own : List Nat} {fi : FA} {g : FG} {ws : List Nat} {ft : FT} {fe : FE} {wi : TI} (qi : QI X wi fi)
    (hg : ∀ (s : Shared) (H : Hp) (C : Addr) (cl : List (Str × Addr)) (fp : List Addr), JG (X.blk s H scope (compEnvC scope cl C X.env) fp) tg g ws) (ht : ∀ (s : Shared) (H : Hp) (C : Addr) (cl : List (Str × Addr)) (fp : List Addr), JTs (X.blk s H scope (compEnvC scope cl C X.env) fp) ifs ft)
    (he : ∀ (s : Shared) (H : Hp) (C : Addr) (cl : List (Str × Addr)) (fp : List Addr), JE (X.blk s H scope (compEnvC scope cl C X.env) fp) elt fe) (hw : ∀ j, j ∈ ws → j ∈ own)
    (σ : L2.St) (H : Hp) (μ : Mp) (env : Env) (S : Sto) (d : D) (S' : Sto) (Q : VK) (hr : HR X.prog X.w X.K H μ S) (er : ER X.K H μ σ env) (hf : fLc own fi g ft fe env S = some (d, S')) (k : ∀ v H' μ', Later μ H μ' H' → HR X.prog X.w X.K H' μ' S' → Rv X.K H' μ' v d → Q v H') :
    tLc wi (tgB X scope tg) (ttB X scope ifs) (teB X scope elt) own σ H Q := by
  unfold fLc at hf
  split at hf
  · cases hf
  · rename_i ds S1 e1
    split at hf
    · rename_i hlen
      split at hf
      · rename_i ys S2 e2
        cases hf
        refine qi σ H μ env S ds S1 _ hr er e1 fun T H1 μ1 l1 hr1 it p np => ?_
        have pm := hr1.free np
        have er1 := er.later l1
        refine ⟨fun i n H2 => n = ds.length - i ∧ i ≤ ds.length ∧ ∃ μ2 S2 xs acc rest, Later μ1 H1 μ2 H2 ∧ p ∈ μ2.x ∧ HR X.prog X.w X.K H2 μ2 S2 ∧ H2 p = some (.lst xs) ∧ RvAll X.K H2 μ2 xs acc ∧ acc.length ≤ i ∧ fLcL g ft fe (wipeD env own) (ds.drop i) S2 = some (rest, S') ∧ acc ++ rest = ys, ⟨ds.length, by simp, Nat.zero_le _, ?_⟩, ?_⟩
        · obtain ⟨l2, hr2⟩ := hr1.new (o := .lst []) np
          refine ⟨⟨μ1.m, p :: μ1.x⟩, S1, [], [], ys, ⟨⟨[], by simp⟩, fun a h => List.mem_cons_of_mem _ h, fun a o h n => ⟨n, fun nx z => ?_, (l2.keep a o h n).2.2⟩, l2.frz⟩, by simp, ⟨hr2.len, hr2.nd, fun j a o hj ho => ?_, hr2.there, fun a ha => ?_, fun a ha z => ?_⟩, upd_same, .nil, Nat.zero_le _, e2, rfl⟩
          · rcases List.mem_cons.mp z with z | z
            · exact ne_of_none h np z
            · exact nx z
          · have d0 : Dat μ1 H1 ⟨μ1.m, p :: μ1.x⟩ (upd H1 p (.lst [])) := ⟨⟨[], by simp⟩, fun b u h n nx => ⟨n, fun z => (List.mem_cons.mp z).elim (fun z => ne_of_none h np z) nx, by rw [upd_ne (ne_of_none h np)]; exact h⟩⟩
            exact (hr1.ok j a o hj ho).dat d0 (upd_ne (show a ≠ p from fun z => pm.1 (by rw [← z]; exact List.mem_of_getElem? hj)))
          · rcases List.mem_cons.mp ha with z | z
            · rw [z, upd_same]; simp
            · exact hr2.thereX a z
          · rcases List.mem_cons.mp z with z | z
            · exact pm.1 (z ▸ ha)
            · exact hr2.dj a ha z
        · rintro i n H2 ⟨rfl, hi, μ2, S2, xs, acc, rest, l2, hp2, hr2, hD2, rv2, ha2, e3, e4⟩
          obtain ⟨it1, it2⟩ := it μ2 H2 l2
          obtain ⟨go, stop⟩ := it1 S2 hr2
          by_cases hlt : i < ds.length
          · refine .inr ⟨go i hlt, fun H3 => ∃ μ3 S3 xs acc rest, Later μ1 H1 μ3 H3 ∧ p ∈ μ3.x ∧ HR X.prog X.w X.K H3 μ3 S3 ∧ H3 p = some (.lst xs) ∧ RvAll X.K H3 μ3 xs acc ∧ acc.length ≤ i + 1 ∧ fLcL g ft fe (wipeD env own) (ds.drop (i + 1)) S3 = some (rest, S') ∧ acc ++ rest = ys,
              fun H3 z => ⟨ds.length - (i + 1), by omega, rfl, hlt, z⟩, fun x H3 y s0 H0 C0 cl0 fp0 => ?_⟩
            obtain ⟨l3, hr3, r3⟩ := it2 i S2 x H3 ds[i] hr2 (by simp [hlt]) y
            rw [List.drop_eq_getElem_cons hlt, fLcL] at e3
            split at e3
            · cases e3
            · rename_i env4 S4 e5
              obtain ⟨tg', pg, qg⟩ := hg s0 H0 C0 cl0 fp0
              refine ⟨tg', pg, ?_⟩
              have er3 : ER X.K H3 μ2 (wipe σ own) (wipeD env own) := (er1.wipe _).later (l2.trans l3)
              refine qg _ H3 μ2 _ S2 x ds[i] env4 S4 _ hr3 er3 r3 e5 fun σ4 H4 μ4 l4 hr4 er4 w4 => ?_
              refine ⟨wipe_eq ?_ fun j hj => w4.2 j fun z => hj (hw j z), fun s0 H0 C0 cl0 fp0 => ?_⟩
              · rw [w4.1, wipe_length]
              obtain ⟨tt', pt, qt⟩ := ht s0 H0 C0 cl0 fp0
              refine ⟨tt', pt, ?_⟩
              split at e3
              · cases e3
              · rename_i S5 e6
                refine qt σ4 H4 μ4 env4 S4 false S5 _ hr4 er4 e6 fun H5 μ5 l5 hr5 => ?_
                rw [if_neg Bool.false_ne_true]
                have L : Later μ2 H2 μ5 H5 := l3.trans (l4.trans l5)
                exact ⟨μ5, S5, xs, acc, rest, l2.trans L, L.ex p hp2, hr5, (L.keep p _ hD2 (fun z => hr2.dj p z hp2)).2.2, rv2.later L, by omega, e3, e4⟩
              · rename_i S5 e6
                refine qt σ4 H4 μ4 env4 S4 true S5 _ hr4 er4 e6 fun H5 μ5 l5 hr5 => ?_
                rw [if_pos rfl]
                intro s0 H0 C0 cl0 fp0
                obtain ⟨te', pe, qe⟩ := he s0 H0 C0 cl0 fp0
                refine ⟨te', pe, ?_⟩
                split at e3
                · cases e3
                · rename_i y6 S6 e7
                  split at e3
                  · cases e3
                  · rename_i ys6 S7 e8
                    cases e3
                    refine qe σ4 H5 μ5 env4 S5 y6 S6 _ hr5 (er4.later l5) e7 fun v6 H6 μ6 l6 hr6 r6 => ?_
                    have L : Later μ2 H2 μ6 H6 := l3.trans (l4.trans (l5.trans l6))
                    have hD6 := (L.keep p _ hD2 (fun z => hr2.dj p z hp2)).2.2
                    have hp6 := L.ex p hp2
                    have hl6 := rv2.length
                    refine ⟨xs, hD6, len100 (by omega), ?_⟩
                    obtain ⟨hr7, dat7⟩ := hr6.acc (o := .lst (xs ++ [v6])) hp6
                    have l7 : Later μ1 H1 μ6 (upd H6 p (.lst (xs ++ [v6]))) := by
                      have l7 := l2.trans L
                      exact ⟨l7.ext, l7.ex, fun a o h n => let z := l7.keep a o h n; ⟨z.1, z.2.1, by rw [upd_ne (ne_of_none h np)]; exact z.2.2⟩, fun a o u h => by rw [upd_ne (ne_of_none h np)]; exact l7.frz a o u h⟩
                    exact ⟨μ6, S6, xs ++ [v6], acc ++ [y6], ys6, l7, hp6, hr7, upd_same, ((rv2.later L).append (.cons r6 .nil)).dat dat7, by rw [List.length_append]; simp; omega, e8, by rw [List.append_assoc]; exact e4⟩
          · have e : i = ds.length := by omega
            subst e
            rw [List.drop_length, fLcL] at e3
            cases e3
            rw [List.append_nil] at e4
            subst e4
            refine .inl ⟨stop, ?_⟩
            have l8 : Later μ1 H1 ⟨μ2.m, μ1.x⟩ H2 := ⟨l2.ext, fun _ h => h, fun a o h n => ⟨(l2.keep a o h n).1, id, (l2.keep a o h n).2.2⟩, l2.frz⟩
            exact k (.ref p) H2 ⟨μ2.m, μ1.x⟩ (l1.trans l8) (hr2.unx l2.ex) (.lst ⟨hD2, fun z => hr2.dj p z hp2, pm.2⟩ (rv2.dat (show Dat μ2 H2 ⟨μ2.m, μ1.x⟩ H2 from ⟨⟨[], by simp⟩, fun a o h n nx => ⟨n, fun z => nx (l2.ex a z), h⟩⟩)))
      · cases hf
    · cases hf

theorem je_lc {elt tg iter : Expr} {ifs : List Expr} {scope : Scope} {own : List (Str × Nat)} {pos : Pos} {fi : FA} {g : FG} {ws : List Nat} {ft : FT} {fe : FE} (hc : X.calm = true) (hN : X.N.Nodup) (hi : JI X tg iter fi) (ok : BlkOk X.N X.env.scope scope own)
    (hg : ∀ (s : Shared) (H : Hp) (C : Addr) (cl : List (Str × Addr)) (fp : List Addr), JG (X.blk s H scope (compEnvC scope cl C X.env) fp) tg g ws) (ht : ∀ (s : Shared) (H : Hp) (C : Addr) (cl : List (Str × Addr)) (fp : List Addr), JTs (X.blk s H scope (compEnvC scope cl C X.env) fp) ifs ft)
    (he : ∀ (s : Shared) (H : Hp) (C : Addr) (cl : List (Str × Addr)) (fp : List Addr), JE (X.blk s H scope (compEnvC scope cl C X.env) fp) elt fe) (hw : ∀ j, j ∈ ws → j ∈ own.map (·.2) := by decide) (hs : ∀ x, foldedSetIterable iter X.env x = pure x := by intro _; rfl) :
    JE X (.ListComp elt [⟨tg, iter, ifs, 0⟩] scope pos) (fLc (own.map (·.2)) fi g ft fe) := by
  obtain ⟨wi, pi, qi⟩ := hi
  exact ⟨_, pe_lc hc hN pi ok pgB ptB peB hs, q_lc qi hg ht he hw⟩
end J

set_option autoImplicit false
namespace J
open PySem PySem.Spec PyProof.Rows L2
variable {K : PySem.W.Frag} {P : Program} {w : World} {X : Cx}
/-! arithmetic -/
theorem RO.or {r r' : R2} {g g' : G2} (h : RO P w K r g) (h' : RO P w K r' g') : RO P w K (fun x y H Q => r x y H Q ∨ r' x y H Q) (fun a b S => (g a b S).orElse fun _ => g' a b S) := by
  intro H μ S x y a b d S' Q hr rx ry e k
  cases h1 : g a b S with
  | some p =>
    simp only [h1, Option.orElse_some] at e
    exact .inl (h H μ S x y a b d S' Q hr rx ry (h1.trans e) k)
  | none =>
    simp only [h1, Option.orElse_none] at e
    exact .inr (h' H μ S x y a b d S' Q hr rx ry e k)
def gI (c : Int → Int → Bool) (g : Int → Int → Int) : G2 := fun a b S => match a, b with
  | .int i, .int j => if c i j = true then some (.int (g i j), S) else none
  | _, _ => none
theorem ro_I {c : Int → Int → Bool} {g : Int → Int → Int} {C : Int → Int → Prop} (hc : ∀ i j, c i j = true → C i j) : RO P w K (rI C fun i j => .int (g i j)) (gI c g) := by
  intro H μ S x y a b d S' Q hr rx ry e k
  unfold gI at e
  split at e
  · split at e
    · rename_i hcc
      cases e
      cases rx
      cases ry
      exact ⟨_, _, rfl, rfl, hc _ _ hcc, k _ H μ (.refl _ _) hr (.int _)⟩
    · cases e
  · cases e
def gI0 (g : Int → Int → Int) : G2 := fun a b S => match a, b with
  | .int i, .int j => some (.int (g i j), S)
  | _, _ => none
def gB0 (g : Int → Int → Bool) : G2 := fun a b S => match a, b with
  | .int i, .int j => some (.bl (g i j), S)
  | _, _ => none
theorem ro_B0 {g : Int → Int → Bool} : RO P w K (rI0 fun i j => .bl (g i j)) (gB0 g) := by
  intro H μ S x y a b d S' Q hr rx ry e k
  unfold gB0 at e
  split at e
  · cases e
    cases rx
    cases ry
    exact ⟨_, _, rfl, rfl, k _ H μ (.refl _ _) hr (.bl _)⟩
  · cases e
/-! + -/
def gAdd : G2 := fun a b S => match a, b with
  | .int i, .int j => some (.int (i + j), S)
  | .str x, .str y => if x.length + y.length ≤ sizeLine then some (.str (x ++ y), S) else none
  | .lst xs, .lst ys => if xs.length + ys.length ≤ 100000 then some (.lst (xs ++ ys), S) else none
  | .tup xs, .tup ys => if xs.length + ys.length ≤ 100000 then some (.tup (xs ++ ys), S) else none
  | _, _ => none
def rAddJ (K : PySem.W.Frag) : R2 := fun x y H Q => rI0 (fun i j => .int (i + j)) x y H Q ∨ (∃ i j, x = .str i ∧ y = .str j ∧ i.length + j.length ≤ sizeLine ∧ Q (.str (i ++ j)) H) ∨ rCat x y H Q ∨ rCatA K x y H Q
theorem op_addJ : OpR X (binaryOp .Add) (rAddJ X.K) := op_add.or (op_add_str.or (op_cat.or op_catA))
theorem le100 {n : Nat} (h : n ≤ 100000) : n ≤ sizeLine := Nat.le_trans h (by decide)
theorem ro_addJ : RO P w K (rAddJ K) gAdd := by
  intro H μ S x y a b d S' Q hr rx ry e k
  unfold gAdd at e
  split at e
  · cases e
    cases rx
    cases ry
    exact .inl ⟨_, _, rfl, rfl, k _ H μ (.refl _ _) hr (.int _)⟩
  · split at e
    · rename_i hl
      cases e
      cases rx
      cases ry
      exact .inr (.inl ⟨_, _, rfl, rfl, hl, k _ H μ (.refl _ _) hr (.str _)⟩)
    · cases e
  · split at e
    · rename_i hl
      cases e
      cases rx with
      | lst h1 h2 =>
        cases ry with
        | lst h3 h4 =>
          refine .inr (.inr (.inl ⟨_, _, _, _, rfl, rfl, h1.1, h3.1, by rw [h2.length, h4.length]; exact le100 hl, fun p np => ?_⟩))
          obtain ⟨l2, hr2⟩ := hr.new (o := .lst _) np
          exact k _ _ μ l2 hr2 (.lst ⟨upd_same, hr.free np⟩ ((h2.append h4).later l2))
    · cases e
  · split at e
    · rename_i hl
      cases e
      cases rx with
      | tup h1 h2 =>
        cases ry with
        | tup h3 h4 =>
          have n0 := h2.empty
          refine .inr (.inr (.inr ⟨_, _, _, _, rfl, rfl, h1.sq, h3.sq, by rw [h2.length, h4.length]; exact le100 hl, fun z => ?_, fun _ z => ?_, fun _ _ p np => ?_⟩))
          · subst z
            cases h2
            rw [List.nil_append] at k
            exact k _ H μ (.refl _ _) hr (.tup h3 h4)
          · subst z
            cases h4
            rw [List.append_nil] at k
            exact k _ H μ (.refl _ _) hr (.tup h1 h2)
          · obtain ⟨l2, hr2⟩ := hr.new (o := .tup _) np
            exact k _ _ μ l2 hr2 (.tup (.inl ⟨.inl upd_same, hr.free np⟩) ((h2.append h4).later l2))
    · cases e
  · cases e
theorem je_add {a b : Expr} {fa fb : FE} {pos : Pos} (ha : JE X a fa) (hb : JE X b fb) : JE X (.BinOp a .Add b pos) (fOp gAdd fa fb) := je_op op_addJ ro_addJ ha hb
def cMul (i j : Int) : Bool := (decide (-(2 ^ 64) < i) && decide (i < 2 ^ 64)) || (decide (-(2 ^ 64) < j) && decide (j < 2 ^ 64))
theorem cMul_ok (i j : Int) (h : cMul i j = true) : CMul i j := by
  unfold cMul at h
  simp only [Bool.or_eq_true, Bool.and_eq_true, decide_eq_true_eq] at h
  exact h
theorem je_mul {a b : Expr} {fa fb : FE} {pos : Pos} (ha : JE X a fa) (hb : JE X b fb) : JE X (.BinOp a .Mult b pos) (fOp (gI cMul fun i j => i * j) fa fb) := je_op op_mul (ro_I cMul_ok) ha hb
theorem je_mod {a b : Expr} {fa fb : FE} {pos : Pos} (ha : JE X a fa) (hb : JE X b fb) : JE X (.BinOp a .Mod b pos) (fOp (gI (fun _ j => decide (0 < j)) fun i j => i % j) fa fb) := je_op op_mod (ro_I fun _ _ h => of_decide_eq_true h) ha hb
theorem je_fdiv {a b : Expr} {fa fb : FE} {pos : Pos} (ha : JE X a fa) (hb : JE X b fb) : JE X (.BinOp a .FloorDiv b pos) (fOp (gI (fun _ j => decide (0 < j) && decide (j < 1073741824)) fun i j => i / j) fa fb) :=
  je_op op_fdiv (ro_I fun _ _ h => by simp only [Bool.and_eq_true, decide_eq_true_eq] at h; exact h) ha hb
def gNeg (a : D) (S : Sto) : Option (D × Sto) := match a with
  | .int i => some (.int (-i), S)
  | _ => none
theorem je_neg {a : Expr} {fa : FE} {pos : Pos} (ha : JE X a fa) : JE X (.UnaryOp .USub a pos) (fUn gNeg fa) := by
  obtain ⟨t, p, q⟩ := ha
  refine ⟨_, pe_un un_neg p, fun σ H μ env S d S' Q hr er hf k => ?_⟩
  obtain ⟨c, S1, e1, e2⟩ := fUn_some hf
  refine q σ H μ env S c S1 _ hr er e1 fun v H1 μ1 l hr1 r => ?_
  cases r <;> cases e2
  exact ⟨_, rfl, k _ H1 μ1 l hr1 (.int _)⟩
/-! comparisons of whole numbers -/
abbrev gLt : G2 := gB0 fun i j => decide (i < j)
abbrev gLe : G2 := gB0 fun i j => decide (i ≤ j)
abbrev gGt : G2 := gB0 fun i j => decide (j < i)
abbrev gGe : G2 := gB0 fun i j => decide (j ≤ i)
/-! == and != of data -/
mutual
def D.py : D → Option PyData
  | .non => some .none
  | .bl b => some (.bool b)
  | .int i => some (.int i)
  | .str x => some (.str x)
  | .tup ds => (D.pys ds).map .tuple
  | .lst ds => (D.pys ds).map .list
  | .scr ds => (D.pys ds).map .list
  | .obj _ => none
  | .glo _ => none
def D.pys : List D → Option (List PyData)
  | [] => some []
  | d :: ds => match D.py d, D.pys ds with
    | some p, some ps => some (p :: ps)
    | _, _ => none
end
def D.pyS (S : Sto) : D → Option PyData
  | .obj k => match S[k]? with
    | some (.lst ds) => (D.pys ds).map .list
    | _ => none
  | d => d.py
mutual
theorem Rv.dp {H : Hp} {μ : Mp} : ∀ {v : V} {d : D} {p : PyData}, Rv K H μ v d → d.py = some p → Dp K H v p
  | _, _, _, .non, e => by rw [D.py] at e; cases e; exact .non
  | _, _, _, .bl b, e => by rw [D.py] at e; cases e; exact .bl b
  | _, _, _, .int i, e => by rw [D.py] at e; cases e; exact .int i
  | _, _, _, .str x, e => by rw [D.py] at e; cases e; exact .str x
  | _, _, _, .tup h q, e => by
    rw [D.py] at e
    obtain ⟨ps, e1, rfl⟩ := Option.map_eq_some_iff.mp e
    exact .tup h.sq (RvAll.dp q e1)
  | _, _, _, .lst h q, e => by
    rw [D.py] at e
    obtain ⟨ps, e1, rfl⟩ := Option.map_eq_some_iff.mp e
    exact .lst h.sq (RvAll.dp q e1)
  | _, _, _, .scr h q, e => by
    rw [D.py] at e
    obtain ⟨ps, e1, rfl⟩ := Option.map_eq_some_iff.mp e
    exact .lst h.sq (RvAll.dp q e1)
  | _, _, _, .obj h, e => by rw [D.py] at e; cases e
  | _, _, _, .glo v, e => by rw [D.py] at e; cases e
theorem RvAll.dp {H : Hp} {μ : Mp} : ∀ {vs : List V} {ds : List D} {ps : List PyData}, RvAll K H μ vs ds → D.pys ds = some ps → DpAll K H vs ps
  | _, _, _, .nil, e => by rw [D.pys] at e; cases e; exact .nil
  | _, _, _, .cons (d := d) (ds := ds) h q, e => by
    rw [D.pys] at e
    cases h1 : D.py d with
    | none => rw [h1] at e; cases e
    | some p =>
      cases h2 : D.pys ds with
      | none => rw [h1, h2] at e; cases e
      | some ps =>
        rw [h1, h2] at e
        cases e
        exact .cons (Rv.dp h h1) (RvAll.dp q h2)
end
theorem Rv.dpS {H : Hp} {μ : Mp} {S : Sto} {v : V} {d : D} {p : PyData} (hr : HR P w K H μ S) (r : Rv K H μ v d) (e : d.pyS S = some p) : Dp K H v p := by
  cases d with
  | obj k =>
    simp only [D.pyS] at e
    split at e
    · rename_i ds h
      obtain ⟨a, rfl, h1, xs, h2, h3⟩ := hr.at r h
      obtain ⟨ps, e1, rfl⟩ := Option.map_eq_some_iff.mp e
      exact .lst (.inl (.inl h2)) (h3.dp e1)
    · cases e
  | _ => exact r.dp e
def scalP : PyData → PyData → Bool
  | .none, .none => true | .none, .int _ => true | .int _, .none => true | .none, .bool _ => true | .bool _, .none => true | .none, .str _ => true | .str _, .none => true
  | .int _, .int _ => true | .bool _, .bool _ => true | .str _, .str _ => true
  | .int _, .str _ => true | .str _, .int _ => true | .bool _, .str _ => true | .str _, .bool _ => true
  | _, _ => false
def gEq (neg : Bool) : G2 := fun a b S => match a.pyS S, b.pyS S with
  | some p, some q => if (scalP p q || (SeqAt.shaped p && SeqAt.shaped q)) = true then some (.bl (neg ^^ PyData.eqv p q), S) else none
  | _, _ => none
theorem scal_ok {H : Hp} {x y : V} {p q : PyData} (hx : Dp K H x p) (hy : Dp K H y q) (h : scalP p q = true) : scal x y = true ∧ decide (x = y) = PyData.eqv p q := by
  cases hx <;> cases hy <;> first
    | (simp only [scalP] at h; cases h; done)
    | exact ⟨rfl, dec_int⟩
    | exact ⟨rfl, dec_bl⟩
    | exact ⟨rfl, dec_str⟩
    | exact ⟨rfl, by simp [PyData.eqv]⟩
def rEqJ (K : PySem.W.Frag) : R2 := fun x y H Q => rEq x y H Q ∨ rEqD K x y H Q
def rNeJ (K : PySem.W.Frag) : R2 := fun x y H Q => rNe x y H Q ∨ rNeD K x y H Q
theorem ro_eqJ : RO P w K (rEqJ K) (gEq false) := by
  intro H μ S x y a b d S' Q hr rx ry e k
  unfold gEq at e
  split at e
  · rename_i p q h1 h2
    split at e
    · rename_i h
      cases e
      have d1 := Rv.dpS hr rx h1
      have d2 := Rv.dpS hr ry h2
      rcases Bool.or_eq_true _ _ ▸ h with h | h
      · obtain ⟨s1, s2⟩ := scal_ok d1 d2 h
        refine .inl ⟨s1, ?_⟩
        rw [s2]
        have := k (.bl (false ^^ PyData.eqv p q)) H μ (.refl _ _) hr (.bl _)
        rw [Bool.false_xor] at this
        exact this
      · rw [Bool.and_eq_true] at h
        refine .inr ⟨p, q, d1, d2, h.1, h.2, ?_⟩
        have := k (.bl (false ^^ PyData.eqv p q)) H μ (.refl _ _) hr (.bl _)
        rw [Bool.false_xor] at this
        exact this
    · cases e
  · cases e
theorem ro_neJ : RO P w K (rNeJ K) (gEq true) := by
  intro H μ S x y a b d S' Q hr rx ry e k
  unfold gEq at e
  split at e
  · rename_i p q h1 h2
    split at e
    · rename_i h
      cases e
      have d1 := Rv.dpS hr rx h1
      have d2 := Rv.dpS hr ry h2
      rcases Bool.or_eq_true _ _ ▸ h with h | h
      · obtain ⟨s1, s2⟩ := scal_ok d1 d2 h
        refine .inl ⟨s1, ?_⟩
        rw [s2]
        have := k (.bl (true ^^ PyData.eqv p q)) H μ (.refl _ _) hr (.bl _)
        rw [Bool.true_xor] at this
        exact this
      · rw [Bool.and_eq_true] at h
        refine .inr ⟨p, q, d1, d2, h.1, h.2, ?_⟩
        have := k (.bl (true ^^ PyData.eqv p q)) H μ (.refl _ _) hr (.bl _)
        rw [Bool.true_xor] at this
        exact this
    · cases e
  · cases e
theorem op_eqJ (hu : X.A.units + 64 < cLine) : OpR X (compareOp .Eq) (rEqJ X.K) := op_eq.or (op_eqD hu)
theorem op_neJ (hu : X.A.units + 64 < cLine) : OpR X (compareOp .NotEq) (rNeJ X.K) := op_ne.or (op_neD hu)
/-! is None -/
def gIsN (neg : Bool) : G2 := fun a b S => match b with
  | .non => match a with
    | .non => some (.bl (!neg), S)
    | .glo _ => none
    | _ => some (.bl neg, S)
  | _ => none
/-! x in a list or tuple of flat things, in a text -/
def D.flat : D → Option V
  | .non => some .non
  | .bl b => some (.bl b)
  | .int i => some (.int i)
  | .str x => some (.str x)
  | _ => none
theorem flat_ok {H : Hp} {μ : Mp} {x : V} {a : D} {v : V} (r : Rv K H μ x a) (h : a.flat = some v) : x = v ∧ flatV v = true := by
  cases r <;> cases h <;> exact ⟨rfl, rfl⟩
def D.flats : List D → Option (List V)
  | [] => some []
  | d :: ds => match D.flat d, D.flats ds with
    | some v, some vs => some (v :: vs)
    | _, _ => none
theorem flats_ok {H : Hp} {μ : Mp} : ∀ {xs : List V} {ds : List D} {vs : List V}, RvAll K H μ xs ds → D.flats ds = some vs → xs = vs ∧ vs.all flatV = true
  | _, _, _, .nil, e => by cases e; exact ⟨rfl, rfl⟩
  | _, _, _, .cons (d := d) (ds := ds) h q, e => by
    rw [D.flats] at e
    cases h1 : D.flat d with
    | none => rw [h1] at e; cases e
    | some p =>
      cases h2 : D.flats ds with
      | none => rw [h1, h2] at e; cases e
      | some ps =>
        rw [h1, h2] at e
        cases e
        obtain ⟨e1, e2⟩ := flat_ok h h1
        obtain ⟨e3, e4⟩ := flats_ok q h2
        exact ⟨by rw [e1, e3], by rw [List.all_cons, e2, e4]; rfl⟩
def D.seqS (S : Sto) : D → Option (List D)
  | .obj k => match S[k]? with
    | some (.lst ds) => some ds
    | _ => none
  | d => d.items
theorem seqS_ok {H : Hp} {μ : Mp} {S : Sto} {x : V} {a : D} {ds : List D} (hr : HR P w K H μ S) (r : Rv K H μ x a) (h : a.seqS S = some ds) : ∃ p xs, x = .ref p ∧ (SqL K H p xs ∨ SqT K H p xs) ∧ RvAll K H μ xs ds := by
  cases a with
  | obj k =>
    simp only [D.seqS] at h
    split at h
    · rename_i es e
      cases h
      obtain ⟨p, rfl, h1, xs, h2, h3⟩ := hr.at r e
      exact ⟨p, xs, rfl, .inl (.inl (.inl h2)), h3⟩
    · cases h
  | tup es => cases h; cases r with | tup h1 h2 => exact ⟨_, _, rfl, .inr h1.sq, h2⟩
  | lst es => cases h; cases r with | lst h1 h2 => exact ⟨_, _, rfl, .inl h1.sq, h2⟩
  | scr es => cases h; cases r with | scr h1 h2 => exact ⟨_, _, rfl, .inl h1.sq, h2⟩
  | _ => cases h
def gInS (neg : Bool) : G2 := fun a b S => match a, b with
  | .str x, .str y => some (.bl (neg ^^ !(Builtin.Str.occurrences y x 0 y.length 1).isEmpty), S)
  | a, b => match a.flat, b.seqS S with
    | some v, some ds => match D.flats ds with
      | some vs => some (.bl (neg ^^ inV v vs), S)
      | none => none
    | _, _ => none
def rInJ (K : PySem.W.Frag) : R2 := fun x y H Q => (∃ i j, x = .str i ∧ y = .str j ∧ Q (.bl (!(Builtin.Str.occurrences j i 0 j.length 1).isEmpty)) H) ∨ rIn K false x y H Q
def rNotInJ (K : PySem.W.Frag) : R2 := fun x y H Q => (∃ i j, x = .str i ∧ y = .str j ∧ Q (.bl (!(!(Builtin.Str.occurrences j i 0 j.length 1).isEmpty))) H) ∨ rIn K true x y H Q
theorem op_inJ : OpR X (compareOp .In) (rInJ X.K) := op_in_str.or op_in_seq
theorem gInS_some {neg : Bool} {a b d : D} {S S' : Sto} (h : gInS neg a b S = some (d, S')) : S' = S ∧ ((∃ x y, a = .str x ∧ b = .str y ∧ d = .bl (neg ^^ !(Builtin.Str.occurrences y x 0 y.length 1).isEmpty)) ∨
    ∃ v ds vs, a.flat = some v ∧ b.seqS S = some ds ∧ D.flats ds = some vs ∧ d = .bl (neg ^^ inV v vs)) := by
  unfold gInS at h
  split at h
  · cases h; exact ⟨rfl, .inl ⟨_, _, rfl, rfl, rfl⟩⟩
  · split at h
    · split at h
      · cases h; exact ⟨rfl, .inr ⟨_, _, _, by assumption, by assumption, by assumption, rfl⟩⟩
      · cases h
    · cases h
theorem ro_inJ : RO P w K (rInJ K) (gInS false) := by
  intro H μ S x y a b d S' Q hr rx ry e k
  obtain ⟨rfl, h⟩ := gInS_some e
  rcases h with ⟨i, j, rfl, rfl, rfl⟩ | ⟨v, ds, vs, h1, h2, h3, rfl⟩
  · cases rx
    cases ry
    have := k _ H μ (.refl _ _) hr (.bl _)
    rw [Bool.false_xor] at this
    exact .inl ⟨i, j, rfl, rfl, this⟩
  · obtain ⟨rfl, f1⟩ := flat_ok rx h1
    obtain ⟨p, xs, rfl, hs, hds⟩ := seqS_ok hr ry h2
    obtain ⟨rfl, f2⟩ := flats_ok hds h3
    have := k _ H μ (.refl _ _) hr (.bl _)
    rw [Bool.false_xor] at this
    exact .inr ⟨p, _, rfl, hs, f1, f2, this⟩
/-! subscripts -/
def gIx : G2 := fun a b S => match b with
  | .int i => match a with
    | .str z => if z.length ≤ sizeLine then (match atI z.cps.toList i with
      | some c => some (.str ⟨#[c]⟩, S)
      | none => none) else none
    | a => match a.seqS S with
      | some ds => match atI ds i with
        | some d => some (d, S)
        | none => none
      | none => none
  | _ => none
theorem gIx_some {a b d : D} {S S' : Sto} (h : gIx a b S = some (d, S')) : S' = S ∧ ∃ i, b = .int i ∧ ((∃ z c, a = .str z ∧ z.length ≤ sizeLine ∧ atI z.cps.toList i = some c ∧ d = .str ⟨#[c]⟩) ∨ ∃ ds, a.seqS S = some ds ∧ atI ds i = some d) := by
  unfold gIx at h
  split at h
  · split at h
    · split at h
      · split at h
        · cases h; exact ⟨rfl, _, rfl, .inl ⟨_, _, rfl, by assumption, by assumption, rfl⟩⟩
        · cases h
      · cases h
    · split at h
      · split at h
        · cases h; exact ⟨rfl, _, rfl, .inr ⟨_, by assumption, by assumption⟩⟩
        · cases h
      · cases h
  · cases h
theorem atI_rv {H : Hp} {μ : Mp} {xs : List V} {ds : List D} (h : RvAll K H μ xs ds) {i : Int} {d : D} (e : atI ds i = some d) : ∃ v, atI xs i = some v ∧ Rv K H μ v d := by
  unfold atI at e ⊢
  rw [h.length]
  cases h1 : ixN ds.length i with
  | none => rw [h1] at e; cases e
  | some j =>
    rw [h1] at e
    exact h.get j e
theorem ro_ix : RO P w K (rIx K) gIx := by
  intro H μ S x y a b d S' Q hr rx ry e k
  obtain ⟨rfl, i, rfl, h⟩ := gIx_some e
  cases ry
  rcases h with ⟨z, c, rfl, h1, h2, rfl⟩ | ⟨ds, h1, h2⟩
  · cases rx
    exact .inr (.inr ⟨z, i, c, rfl, rfl, h1, h2, k _ H μ (.refl _ _) hr (.str _)⟩)
  · obtain ⟨p, xs, rfl, hs, hds⟩ := seqS_ok hr rx h1
    obtain ⟨v, e1, e2⟩ := atI_rv hds h2
    rcases hs with hs | hs
    · exact .inl ⟨p, xs, i, v, rfl, rfl, hs, e1, k v H μ (.refl _ _) hr e2⟩
    · exact .inr (.inl ⟨p, xs, i, v, rfl, rfl, hs, e1, k v H μ (.refl _ _) hr e2⟩)
theorem je_ixR {a b : Expr} {fa fb : FE} {r : R2} {g : G2} {pos : Pos} (hi : IxR X r) (ro : RO X.prog X.w X.K r g) (ha : JE X a fa) (hb : JE X b fb) (hs : PlainIx b := by exact fun _ _ => rfl) : JE X (.Subscript a b pos) (fOp g fa fb) := by
  obtain ⟨ta, pa, qa⟩ := ha
  obtain ⟨tb, pb, qb⟩ := hb
  exact ⟨_, pe_ix hi pa pb hs, jop ro qa qb⟩
/-! calls of built-ins -/
def RC (P : Program) (w : World) (K : PySem.W.Frag) (r : List V → Hp → VK → Prop) (g : Fn) : Prop := ∀ (H : Hp) (μ : Mp) (S : Sto) (xs : List V) (ds : List D) (d : D) (S' : Sto) (Q : VK), HR P w K H μ S → RvAll K H μ xs ds → g ds S = some (d, S') →
  (∀ v H' μ', Later μ H μ' H' → HR P w K H' μ' S' → Rv K H' μ' v d → Q v H') → r xs H Q
def fB (g : Fn) (fa : FA) : FE := fun env S => match fa env S with
  | some (ds, S1) => g ds S1
  | none => none
theorem jcb {t : TA} {fa : FA} {r : List V → Hp → VK → Prop} {g : Fn} (rc : RC X.prog X.w X.K r g)
    (q : ∀ (σ : L2.St) (H : Hp) (μ : Mp) (env : Env) (S : Sto) (ds : List D) (S' : Sto) (Q : List V → Hp → Prop), HR X.prog X.w X.K H μ S → ER X.K H μ σ env → fa env S = some (ds, S') → (∀ vs H' μ', Later μ H μ' H' → HR X.prog X.w X.K H' μ' S' → RvAll X.K H' μ' vs ds → Q vs H') → t σ H Q)
    (σ : L2.St) (H : Hp) (μ : Mp) (env : Env) (S : Sto) (d : D) (S' : Sto) (Q : VK) (hr : HR X.prog X.w X.K H μ S) (er : ER X.K H μ σ env) (hf : fB g fa env S = some (d, S')) (k : ∀ v H' μ', Later μ H μ' H' → HR X.prog X.w X.K H' μ' S' → Rv X.K H' μ' v d → Q v H') :
    tCB r t σ H Q := by
  unfold fB at hf
  split at hf
  · rename_i ds S1 e1
    exact q σ H μ env S ds S1 _ hr er e1 fun vs H1 μ1 l hr1 r1 => rc H1 μ1 S1 vs ds d S' Q hr1 r1 hf fun v H' μ' l' => k v H' μ' (l.trans l')
  · cases hf
theorem je_callB {x : Str} {id : String} {r : List V → Hp → VK → Prop} {g : Fn} {e : Expr} {es : List Expr} {fa : FA} {p pos : Pos} (hc : CallR X (.builtin id) r) (rc : RC X.prog X.w X.K r g) (hg : Gl X x) (hm : X.mg x = none) (hv : bootBuiltins x = some (.builtin id)) (ha : JA X (e :: es) fa) (hn : x ≠ "__name__" := by decide) (hdb : (x == ("__debug__" : Str)) = false := by decide)
    (he : starEach (e :: es) X.env = (false, eval e X.env) :: starEach es X.env := by rfl) (hpl : (backTo pos (starEach es X.env)).any (·.1) = false := by rfl) : JE X (.Call (.Name x p) (e :: es) [] pos) (fB g fa) := by
  obtain ⟨t, pa, q⟩ := ha
  exact ⟨_, pe_callB hc hg hm hv pa hn hdb he hpl, jcb rc q⟩
theorem je_callTy {x : Str} {T : String} {r : List V → Hp → VK → Prop} {g : Fn} {e : Expr} {es : List Expr} {fa : FA} {p pos : Pos} (hc : CallR X (.type T) r) (rc : RC X.prog X.w X.K r g) (hg : Gl X x) (hm : X.mg x = none) (hv : bootBuiltins x = some (.type T)) (ha : JA X (e :: es) fa) (hn : x ≠ "__name__" := by decide) (hdb : (x == ("__debug__" : Str)) = false := by decide)
    (he : starEach (e :: es) X.env = (false, eval e X.env) :: starEach es X.env := by rfl) (hpl : (backTo pos (starEach es X.env)).any (·.1) = false := by rfl) : JE X (.Call (.Name x p) (e :: es) [] pos) (fB g fa) := by
  obtain ⟨t, pa, q⟩ := ha
  exact ⟨_, pe_callTy hc hg hm hv pa hn hdb he hpl, jcb rc q⟩
theorem RvAll.one {H : Hp} {μ : Mp} {xs : List V} {d : D} (h : RvAll K H μ xs [d]) : ∃ x, xs = [x] ∧ Rv K H μ x d := by
  cases h with
  | cons h q => cases q; exact ⟨_, rfl, h⟩
theorem RvAll.two {H : Hp} {μ : Mp} {xs : List V} {d e : D} (h : RvAll K H μ xs [d, e]) : ∃ x y, xs = [x, y] ∧ Rv K H μ x d ∧ Rv K H μ y e := by
  cases h with
  | cons h q => cases q with
    | cons h2 q => cases q; exact ⟨_, _, rfl, h, h2⟩
def gAbs : Fn := fun ds S => match ds with
  | [.int i] => some (.int (if i < 0 then -i else i), S)
  | _ => none
theorem rc_abs : RC P w K (fun xs H Q => ∃ i, xs = [.int i] ∧ Q (.int (if i < 0 then -i else i)) H) gAbs := by
  intro H μ S xs ds d S' Q hr rs e k
  unfold gAbs at e
  split at e
  · cases e
    obtain ⟨x, rfl, r⟩ := rs.one
    cases r
    exact ⟨_, rfl, k _ H μ (.refl _ _) hr (.int _)⟩
  · cases e
def gMax2 : Fn := fun ds S => match ds with
  | [.int i, .int j] => some (.int (if j > i then j else i), S)
  | _ => none
def gMin2 : Fn := fun ds S => match ds with
  | [.int i, .int j] => some (.int (if j < i then j else i), S)
  | _ => none
theorem rc_max2 : RC P w K (fun xs H Q => ∃ i j, xs = [.int i, .int j] ∧ Q (.int (if j > i then j else i)) H) gMax2 := by
  intro H μ S xs ds d S' Q hr rs e k
  unfold gMax2 at e
  split at e
  · cases e
    obtain ⟨x, y, rfl, r1, r2⟩ := rs.two
    cases r1
    cases r2
    exact ⟨_, _, rfl, k _ H μ (.refl _ _) hr (.int _)⟩
  · cases e
theorem rc_min2 : RC P w K (fun xs H Q => ∃ i j, xs = [.int i, .int j] ∧ Q (.int (if j < i then j else i)) H) gMin2 := by
  intro H μ S xs ds d S' Q hr rs e k
  unfold gMin2 at e
  split at e
  · cases e
    obtain ⟨x, y, rfl, r1, r2⟩ := rs.two
    cases r1
    cases r2
    exact ⟨_, _, rfl, k _ H μ (.refl _ _) hr (.int _)⟩
  · cases e
def gLen : Fn := fun ds S => match ds with
  | [.str z] => if z.length ≤ sizeLine then some (.int z.length, S) else none
  | [.obj k] => match S[k]? with
    | some (.lst ds) => some (.int ds.length, S)
    | some (.dks kvs) => some (.int kvs.length, S)
    | _ => none
  | [d] => match d.items with
    | some es => some (.int es.length, S)
    | none => none
  | _ => none
def rLenJ (K : PySem.W.Frag) : List V → Hp → VK → Prop := fun xs H Q => (∃ p ys, xs = [.ref p] ∧ (SqL K H p ys ∨ SqT K H p ys) ∧ Q (.int ys.length) H) ∨ (∃ z, xs = [.str z] ∧ z.length ≤ sizeLine ∧ Q (.int z.length) H) ∨ ∃ d kvs, xs = [.ref d] ∧ H d = some (.dK kvs) ∧ Q (.int kvs.length) H
theorem KvR.length {H : Hp} {μ : Mp} : ∀ {xs ys}, KvR K H μ xs ys → xs.length = ys.length
  | _, _, .nil => rfl
  | _, _, .cons _ q => by rw [List.length_cons, List.length_cons, KvR.length q]
theorem rc_len : RC P w K (rLenJ K) gLen := by
  intro H μ S xs ds d S' Q hr rs e k
  unfold gLen at e
  split at e
  · split at e
    · cases e
      obtain ⟨x, rfl, r⟩ := rs.one
      cases r
      exact .inr (.inl ⟨_, rfl, by assumption, k _ H μ (.refl _ _) hr (.int _)⟩)
    · cases e
  · split at e
    · rename_i h
      cases e
      obtain ⟨x, rfl, r⟩ := rs.one
      obtain ⟨a, rfl, h1, ys, h2, h3⟩ := hr.at r h
      refine .inl ⟨a, ys, rfl, .inl (.inl (.inl h2)), ?_⟩
      rw [h3.length]
      exact k _ H μ (.refl _ _) hr (.int _)
    · rename_i h
      cases e
      obtain ⟨x, rfl, r⟩ := rs.one
      obtain ⟨a, rfl, h1, ys, h2, h3⟩ := hr.at r h
      refine .inr (.inr ⟨a, ys, rfl, h2, ?_⟩)
      rw [h3.length]
      exact k _ H μ (.refl _ _) hr (.int _)
    · cases e
  · split at e
    · rename_i h
      cases e
      obtain ⟨x, rfl, r⟩ := rs.one
      obtain ⟨p, ys, rfl, hs, hds⟩ := seqS_ok hr r (show D.seqS S _ = some _ by
        cases r <;> first | exact h | (rename_i n1 n2 hk; exact absurd rfl (n2 _)) | cases h)
      refine .inl ⟨p, ys, rfl, hs, ?_⟩
      rw [hds.length]
      exact k _ H μ (.refl _ _) hr (.int _)
    · cases e
  · cases e
theorem call_lenJ : CallR X (.builtin "len") (rLenJ X.K) := call_len_seq.or (call_len_str.or call_lenD)
/-! isinstance -/
def D.ty (S : Sto) : D → Option String
  | .non => some "NoneType"
  | .bl _ => some "bool"
  | .int _ => some "int"
  | .str _ => some "str"
  | .tup _ => some "tuple"
  | .lst _ => some "list"
  | .scr _ => some "list"
  | .obj k => match S[k]? with
    | some (.lst _) => some "list"
    | _ => none
  | .glo _ => none
theorem tyx_tup {H : Hp} {a : Addr} {xs : List V} (h : SqT K H a xs) : TyX K H (.ref a) (.type "tuple") := by
  rcases h with (h | ⟨o, h⟩) | ⟨o, its, n, h, c, _⟩
  · exact .base (.tup h)
  · exact .fTuple h
  · exact .kTuple h c
theorem tyx_lst {H : Hp} {a : Addr} {xs : List V} (h : SqL K H a xs) : TyX K H (.ref a) (.type "list") := by
  rcases h with (h | ⟨o, h⟩) | ⟨o, its, n, h, c, _⟩
  · exact .base (.lst h)
  · exact .base (.frz h)
  · exact .kList h c
theorem ty_ok {H : Hp} {μ : Mp} {S : Sto} {x : V} {a : D} {T : String} (hr : HR P w K H μ S) (r : Rv K H μ x a) (h : a.ty S = some T) : TyX K H x (.type T) := by
  cases r with
  | non => cases h; exact .base .non
  | bl b => cases h; exact .base (.bl b)
  | int i => cases h; exact .base (.int i)
  | str x => cases h; exact .base (.str x)
  | lst h1 q => cases h; exact tyx_lst h1.sq
  | scr h1 q => cases h; exact tyx_lst h1.sq
  | tup h1 q => cases h; exact tyx_tup h1.sq
  | @obj k a h1 =>
    simp only [D.ty] at h
    split at h
    · rename_i ds e
      cases h
      obtain ⟨xs, h2, _⟩ := hr.ok k a _ h1 e
      exact tyx_lst (.inl (.inl h2))
    · cases h
  | glo v => cases h
def gIsi : Fn := fun ds S => match ds with
  | [a, .glo (.ty T)] => match a.ty S with
    | some t => (kitB t T).map fun b => (.bl b, S)
    | none => none
  | _ => none
theorem rc_isi : RC P w K (rIsi K) gIsi := by
  intro H μ S xs ds d S' Q hr rs e k
  unfold gIsi at e
  split at e
  · split at e
    · rename_i t ht
      obtain ⟨b, hb, e2⟩ := Option.map_eq_some_iff.mp e
      cases e2
      obtain ⟨x, y, rfl, r1, r2⟩ := rs.two
      cases r2
      exact ⟨x, _, .type t, _, b, rfl, .ty _, ty_ok hr r1 ht, kit_ty hb, k _ H μ (.refl _ _) hr (.bl b)⟩
    · cases e
  · cases e
/-! all, any, tuple, list -/
def D.bls : List D → Option (List Bool)
  | [] => some []
  | .bl b :: ds => (D.bls ds).map (b :: ·)
  | _ => none
def gAll : Fn := fun ds S => match ds with
  | [.lst es] => (D.bls es).map fun bs => (.bl (bs.all id), S)
  | _ => none
def gAny : Fn := fun ds S => match ds with
  | [.lst es] => (D.bls es).map fun bs => (.bl (bs.any id), S)
  | _ => none
def D.lsS (S : Sto) : D → Option (List D)
  | .obj k => match S[k]? with
    | some (.lst ds) => some ds
    | _ => none
  | .lst ds => some ds
  | .scr ds => some ds
  | _ => none
theorem lsS_ok {H : Hp} {μ : Mp} {S : Sto} {x : V} {a : D} {ds : List D} (hr : HR P w K H μ S) (r : Rv K H μ x a) (h : a.lsS S = some ds) : ∃ p xs, x = .ref p ∧ SqL K H p xs ∧ RvAll K H μ xs ds := by
  cases a with
  | obj k =>
    simp only [D.lsS] at h
    split at h
    · rename_i es e
      cases h
      obtain ⟨p, rfl, h1, xs, h2, h3⟩ := hr.at r e
      exact ⟨p, xs, rfl, .inl (.inl h2), h3⟩
    · cases h
  | lst es => cases h; cases r with | lst h1 h2 => exact ⟨_, _, rfl, h1.sq, h2⟩
  | scr es => cases h; cases r with | scr h1 h2 => exact ⟨_, _, rfl, h1.sq, h2⟩
  | _ => cases h
def gTuple : Fn := fun ds S => match ds with
  | [.tup es] => some (.tup es, S)
  | [d] => match d.lsS S with
    | some es => some (.tup es, S)
    | none => none
  | _ => none
theorem rc_tuple : RC P w K (fun xs H Q => ∃ p ys, xs = [.ref p] ∧ ((SqL K H p ys ∧ ∀ l, H l = none → Q (.ref l) (upd H l (.tup ys))) ∨ (SqT K H p ys ∧ Q (.ref p) H))) gTuple := by
  intro H μ S xs ds d S' Q hr rs e k
  unfold gTuple at e
  split at e
  · cases e
    obtain ⟨x, rfl, r⟩ := rs.one
    cases r with
    | tup h1 h2 => exact ⟨_, _, rfl, .inr ⟨h1.sq, k _ H μ (.refl _ _) hr (.tup h1 h2)⟩⟩
  · split at e
    · rename_i es h
      cases e
      obtain ⟨x, rfl, r⟩ := rs.one
      obtain ⟨p, ys, rfl, hs, hds⟩ := lsS_ok hr r h
      refine ⟨p, ys, rfl, .inl ⟨hs, fun l hl => ?_⟩⟩
      obtain ⟨l2, hr2⟩ := hr.new (o := .tup ys) hl
      exact k _ _ μ l2 hr2 (.tup (.inl ⟨.inl upd_same, hr.free hl⟩) (hds.later l2))
    · cases e
  · cases e
/-- list(x): a list that nobody changes; one that will change -/
def gList : Fn := fun ds S => match ds with
  | [d] => match d.seqS S with
    | some es => some (.lst es, S)
    | none => none
  | _ => none
def gListN : Fn := fun ds S => match ds with
  | [d] => match d.seqS S with
    | some es => some (.obj S.length, S ++ [.lst es])
    | none => none
  | _ => none
def rListJ (K : PySem.W.Frag) : List V → Hp → VK → Prop := fun xs H Q => ∃ p ys, xs = [.ref p] ∧ (SqL K H p ys ∨ SqT K H p ys) ∧ ∀ l, H l = none → Q (.ref l) (upd H l (.lst ys))
/-! lists that change: append, pop, extend, x[i] = e -/
theorem HR.put {H : Hp} {μ : Mp} {S : Sto} {k : Nat} {a : Addr} {u : HO} {o : O} (hr : HR P w K H μ S) (hk : μ.m[k]? = some a) (hz : ∀ o u, H a ≠ some (.frz o u)) (ho : ∀ H' : Hp, Dat μ H μ H' → H' a = some u → OR P w K H' μ a o) :
    Later μ H μ (upd H a u) ∧ HR P w K (upd H a u) μ (S.set k o) := by
  have ha : a ∈ μ.m := List.mem_of_getElem? hk
  have l : Later μ H μ (upd H a u) := ⟨⟨[], by simp⟩, fun _ h => h, fun b o h n => ⟨n, id, by rw [upd_ne (show b ≠ a from fun z => n (z ▸ ha))]; exact h⟩, fun b o v h => by rw [upd_ne (show b ≠ a from fun z => hz o v (z ▸ h))]; exact h⟩
  refine ⟨l, ⟨by rw [List.length_set]; exact hr.len, hr.nd, fun j b o' hj hs => ?_, fun b hb => ?_, fun b hb => ?_, hr.dj⟩⟩
  · by_cases e : k = j
    · subst e
      rw [hk] at hj
      cases hj
      rw [List.getElem?_set_self (by rw [← hr.len]; exact (List.getElem?_eq_some_iff.mp hk).1)] at hs
      cases hs
      exact ho _ l.dat upd_same
    · rw [List.getElem?_set_ne e] at hs
      have ne : b ≠ a := fun z => e ((List.getElem?_inj (List.getElem?_eq_some_iff.mp hk).1 hr.nd).mp (by rw [hk, hj, z]))
      exact (hr.ok j b o' hj hs).later l (upd_ne ne)
  · by_cases e : b = a
    · rw [e, upd_same]; simp
    · rw [upd_ne e]; exact hr.there b hb
  · rw [upd_ne (show b ≠ a from fun z => hr.dj a ha (z ▸ hb))]
    exact hr.thereX b hb
/-- a method of a built-in, by values -/
abbrev GM := D → List D → Sto → Option (D × Sto)
def RM (P : Program) (w : World) (K : PySem.W.Frag) (r : V → List V → Hp → VK → Prop) (g : GM) : Prop := ∀ (H : Hp) (μ : Mp) (S : Sto) (x : V) (xs : List V) (a d : D) (ds : List D) (S' : Sto) (Q : VK), HR P w K H μ S → Rv K H μ x a → RvAll K H μ xs ds → g a ds S = some (d, S') →
  (∀ v H' μ', Later μ H μ' H' → HR P w K H' μ' S' → Rv K H' μ' v d → Q v H') → r x xs H Q
/-- the receiver is of that kind -/
def tyD (T : String) (S : Sto) : D → Bool
  | .str _ => T == "str"
  | .obj k => match S[k]? with
    | some (.lst _) => T == "list"
    | some (.dks _) => T == "dict"
    | _ => false
  | .lst _ => T == "list"
  | .scr _ => T == "list"
  | _ => false
theorem tyD_ok {H : Hp} {μ : Mp} {S : Sto} {x : V} {a : D} {T : String} (hr : HR P w K H μ S) (r : Rv K H μ x a) (h : tyD T S a = true) : tyV K T x H := by
  cases r with
  | str z => exact eq_of_beq h
  | lst h1 q => exact .inl ⟨eq_of_beq h, _, h1.sq⟩
  | scr h1 q => exact .inl ⟨eq_of_beq h, _, h1.sq⟩
  | @obj k a h1 =>
    simp only [tyD] at h
    split at h
    · rename_i ds e
      obtain ⟨xs, h2, _⟩ := hr.ok k a _ h1 e
      exact .inl ⟨eq_of_beq h, _, .inl (.inl h2)⟩
    · rename_i ds e
      obtain ⟨xs, h2, _⟩ := hr.ok k a _ h1 e
      exact .inr (.inr (.inl ⟨eq_of_beq h, .inl ⟨_, h2⟩⟩))
    · cases h
  | _ => cases h
def fM (T : String) (g : GM) (fo : FE) (fa : FA) : FE := fun env S => match fo env S with
  | some (a, S1) => if tyD T S1 a = true then (match fa env S1 with
    | some (ds, S2) => g a ds S2
    | none => none) else none
  | none => none
theorem je_bm {T id : String} {name : Str} {r : V → List V → Hp → VK → Prop} {g : GM} {o e : Expr} {es : List Expr} {fo : FE} {fa : FA} {apos cpos : Pos} (pa : PlainAttrs T) (slot : Slot T name id) (hty : typeOf (.builtin id) = pure (.type "method_descriptor")) (hm : MtR X id r) (rm : RM X.prog X.w X.K r g) (ho : JE X o fo) (ha : JA X (e :: es) fa)
    (hbase : attributeBase o name X.env (eval o X.env) = eval o X.env := by rfl)
    (hfew : ((backTo cpos (starEach (e :: es) X.env)).all (fun x => !x.1) && (backToKw cpos (keywordEach [] X.env)).all (fun x => x.1.isSome)
      && decide ((e :: es).length + ([] : List Keyword).length + (if ([] : List Keyword).isEmpty then 0 else 1) < 30)) = true := by rfl)
    (hline : (apos.endLine == cpos.line) = true := by rfl) (hs : starEach (e :: es) X.env = (false, eval e X.env) :: starEach es X.env := by rfl) (hplain : (backTo cpos (starEach es X.env)).any (·.1) = false := by rfl) :
    JE X (.Call (.Attribute o name apos) (e :: es) [] cpos) (fM T g fo fa) := by
  obtain ⟨t, p, q⟩ := ho
  obtain ⟨ta, pa', qa⟩ := ha
  refine ⟨_, pe_bm pa slot hty hm p pa' hbase hfew hline hs hplain, fun σ H μ env S d S' Q hr er hf k => ?_⟩
  unfold fM at hf
  split at hf
  · rename_i a S1 e1
    split at hf
    · rename_i ty
      split at hf
      · rename_i ds S2 e2
        refine q σ H μ env S a S1 _ hr er e1 fun v H1 μ1 l1 hr1 r1 => ⟨tyD_ok hr1 r1 ty, ?_⟩
        refine qa σ H1 μ1 env S1 ds S2 _ hr1 (er.later l1) e2 fun vs H2 μ2 l2 hr2 r2 => ?_
        exact rm H2 μ2 S2 v vs a d ds S' Q hr2 (r1.later l2) r2 hf fun v H' μ' l => k v H' μ' (l1.trans (l2.trans l))
      · cases hf
    · cases hf
  · cases hf
def fM0 (T : String) (g : GM) (fo : FE) : FE := fun env S => match fo env S with
  | some (a, S1) => if tyD T S1 a = true then g a [] S1 else none
  | none => none
def gApp : GM := fun a ds S => match a, ds with
  | .obj k, [d] => match S[k]? with
    | some (.lst es) => if es.length < 100000 then some (.non, S.set k (.lst (es ++ [d]))) else none
    | _ => none
  | _, _ => none
theorem rm_app : RM P w K rAppend gApp := by
  intro H μ S x xs a d ds S' Q hr rx rs e k
  unfold gApp at e
  split at e
  · split at e
    · rename_i es h
      split at e
      · rename_i hl
        cases e
        obtain ⟨p, rfl, h1, ys, h2, h3⟩ := hr.at rx h
        obtain ⟨y, rfl, ry⟩ := rs.one
        refine ⟨p, ys, y, rfl, rfl, h2, by rw [h3.length]; exact len100 (by omega), ?_⟩
        obtain ⟨l, hr2⟩ := hr.put (u := .lst (ys ++ [y])) (o := .lst (es ++ [_])) h1 (fun _ _ z => by rw [h2] at z; cases z) fun H' dt e => ⟨_, e, (h3.append (.cons ry .nil)).dat dt⟩
        exact k _ _ μ l hr2 .non
      · cases e
    · cases e
  · cases e
def gPop : GM := fun a ds S => match a, ds with
  | .obj k, [] => match S[k]? with
    | some (.lst es) => match es[es.length - 1]? with
      | some d => some (d, S.set k (.lst es.dropLast))
      | none => none
    | _ => none
  | _, _ => none
def gExt : GM := fun a ds S => match a, ds with
  | .obj k, [.lst bs] => match S[k]? with
    | some (.lst es) => if es.length + bs.length ≤ 100000 then some (.non, S.set k (.lst (es ++ bs))) else none
    | _ => none
  | _, _ => none
/-- x[i] = e, by values -/
abbrev GS := D → D → D → Sto → Option Sto
def RS (P : Program) (w : World) (K : PySem.W.Frag) (r : TSet) (g : GS) : Prop := ∀ (H : Hp) (μ : Mp) (S : Sto) (o i v : V) (a b d : D) (S' : Sto) (Q : Hp → Prop), HR P w K H μ S → Rv K H μ o a → Rv K H μ i b → Rv K H μ v d → g a b d S = some S' →
  (∀ H' μ', Later μ H μ' H' → HR P w K H' μ' S' → Q H') → r o i v H Q
def gSub (fo fi : FE) (g : GS) : FG := fun d env S => match fo env S with
  | some (a, S1) => match fi env S1 with
    | some (b, S2) => match g a b d S2 with
      | some S3 => some (env, S3)
      | none => none
    | none => none
  | none => none
theorem jg_sub {o i : Expr} {fo fi : FE} {r : TSet} {g : GS} {pos : Pos} (ho : JE X o fo) (hi : JE X i fi) (hs : PSet X r) (rs : RS X.prog X.w X.K r g)
    (ha : ∀ v, assign (.Subscript o i pos) X.env v = (do
      let ov ← holding [v] (eval o X.env)
      let iv ← holding [v, ov] (eval i X.env)
      standAt pos
      holding [v, ov, iv] (setItem ov iv v)
      release [v, ov, iv] []) := by intro _; rfl) : JG X (.Subscript o i pos) (gSub fo fi g) [] := by
  obtain ⟨t, p, q⟩ := ho
  obtain ⟨u, p', q'⟩ := hi
  refine ⟨_, pg_sub p p' hs ha, fun σ H μ env S v d env' S' Q hr er r hg k => ?_⟩
  unfold gSub at hg
  split at hg
  · rename_i a S1 e1
    split at hg
    · rename_i b S2 e2
      split at hg
      · rename_i S3 e3
        cases hg
        refine q σ H μ env S a S1 _ hr er e1 fun x1 H1 μ1 l1 hr1 r1 => ?_
        refine q' σ H1 μ1 env S1 b S2 _ hr1 (er.later l1) e2 fun x2 H2 μ2 l2 hr2 r2 => ?_
        refine rs H2 μ2 S2 x1 x2 v a b d _ _ hr2 (r1.later l2) r2 (r.later (l1.trans l2)) e3 fun H3 μ3 l3 hr3 => ?_
        exact k σ H3 μ3 (l1.trans (l2.trans l3)) hr3 (er.later (l1.trans (l2.trans l3))) ⟨rfl, fun _ _ => rfl⟩
      · cases hg
    · cases hg
  · cases hg
def gSetL : GS := fun a b d S => match a, b with
  | .obj k, .int i => match S[k]? with
    | some (.lst es) => match ixN es.length i with
      | some j => some (S.set k (.lst (es.set j d)))
      | none => none
    | _ => none
  | _, _ => none
theorem rs_list : RS P w K rSetL gSetL := by
  intro H μ S o i v a b d S' Q hr ro ri rv e k
  unfold gSetL at e
  split at e
  · split at e
    · rename_i es h
      split at e
      · rename_i j hj
        cases e
        obtain ⟨p, rfl, h1, ys, h2, h3⟩ := hr.at ro h
        cases ri
        refine ⟨p, ys, _, j, rfl, rfl, h2, by rw [h3.length]; exact hj, ?_⟩
        obtain ⟨l, hr2⟩ := hr.put (u := .lst (ys.set j v)) (o := .lst (es.set j d)) h1 (fun _ _ z => by rw [h2] at z; cases z) fun H' dt e => ⟨_, e, (h3.set rv j).dat dt⟩
        exact k _ μ l hr2
      · cases e
    · cases e
  · cases e
end J

set_option autoImplicit false
namespace J
open PySem PySem.Spec PyProof.Rows L2
variable {K : PySem.W.Frag} {P : Program} {w : World} {X : Cx}
/-! keys, read off the heap -/
mutual
inductive KeyV (K : PySem.W.Frag) (H : Hp) : V → NestedKey → Prop
  | non : KeyV K H .non .none
  | int (i : Int) : KeyV K H (.int i) (.num i)
  | str (x : Str) : KeyV K H (.str x) (.text x)
  | tup {a : Addr} {xs : List V} {ks : List NestedKey} : SqT K H a xs → KeysV K H xs ks → KeyV K H (.ref a) (.tup ks)
inductive KeysV (K : PySem.W.Frag) (H : Hp) : List V → List NestedKey → Prop
  | nil : KeysV K H [] []
  | cons {v : V} {vs : List V} {k : NestedKey} {ks : List NestedKey} : KeyV K H v k → KeysV K H vs ks → KeysV K H (v :: vs) (k :: ks)
end
mutual
theorem Rv.keyV {H : Hp} {μ : Mp} : ∀ {v : V} {d : D} {k : NestedKey}, Rv K H μ v d → D.key d = some k → KeyV K H v k
  | _, _, _, .non, e => by rw [D.key] at e; cases e; exact .non
  | _, _, _, .int i, e => by rw [D.key] at e; cases e; exact .int i
  | _, _, _, .str x, e => by rw [D.key] at e; cases e; exact .str x
  | _, _, _, .tup h q, e => by
    rw [D.key] at e
    obtain ⟨ks, e1, rfl⟩ := Option.map_eq_some_iff.mp e
    exact .tup h.sq (RvAll.keysV q e1)
  | _, _, _, .bl b, e => by simp [D.key] at e
  | _, _, _, .lst h q, e => by simp [D.key] at e
  | _, _, _, .scr h q, e => by simp [D.key] at e
  | _, _, _, .obj h, e => by simp [D.key] at e
  | _, _, _, .glo v, e => by simp [D.key] at e
theorem RvAll.keysV {H : Hp} {μ : Mp} : ∀ {vs : List V} {ds : List D} {ks : List NestedKey}, RvAll K H μ vs ds → D.keys ds = some ks → KeysV K H vs ks
  | _, _, _, .nil, e => by rw [D.keys] at e; cases e; exact .nil
  | _, _, _, .cons (d := d) (ds := ds) h q, e => by
    rw [D.keys] at e
    cases h1 : D.key d with
    | none => rw [h1] at e; cases e
    | some p =>
      cases h2 : D.keys ds with
      | none => rw [h1, h2] at e; cases e
      | some ps =>
        rw [h1, h2] at e
        cases e
        exact .cons (Rv.keyV h h1) (RvAll.keysV q h2)
end
section
variable {pins : List (Addr × Obj)} {σ : L2.St} {H : Hp} {s : Shared}
mutual
theorem KeyV.is (I : Inv X pins σ H s) : ∀ {v : V} {k : NestedKey} {u : Value}, KeyV X.K H v k → RelV v u → NestedIs s.heap k u
  | _, _, _, .non, r => by cases r; exact .none
  | _, _, _, .int i, r => by obtain ⟨t, rfl⟩ := r; exact .int i t
  | _, _, _, .str x, r => by obtain ⟨t, rfl⟩ := r; exact .text x t
  | _, _, _, .tup h q, r => by
    cases r
    obtain ⟨its, rv, ⟨o, ho, hc, n, hd⟩, _⟩ := I.tuple h
    exact .tup ho hc hd (by simpa using KeysV.is I q rv)
theorem KeysV.is (I : Inv X pins σ H s) : ∀ {vs : List V} {ks : List NestedKey} {us : List Value}, KeysV X.K H vs ks → Vals vs us → NestedAll s.heap ks us
  | _, _, _, .nil, r => by cases r; exact .nil
  | _, _, _, .cons h q, r => by
    cases r with
    | cons r1 r2 => exact .cons (KeyV.is I h r1) (KeysV.is I q r2)
end
end
/-- looked up, put -/
def luX (xs : List (NestedKey × Addr × V)) (k : NestedKey) : Option V := (xs.find? fun p => decide (p.1 = k)).map (·.2.2)
def putX (xs : List (NestedKey × Addr × V)) (k : NestedKey) (b : Addr) (v : V) : List (NestedKey × Addr × V) :=
  if (luX xs k).isSome = true then xs.map fun p => if p.1 = k then (p.1, p.2.1, v) else p else xs ++ [(k, b, v)]
abbrev PX := Paired (fun (p : NestedKey × Addr × V) (q : NestedKey × Addr × Value) => p.1 = q.1 ∧ p.2.1 = q.2.1 ∧ RelV p.2.2 q.2.2)
theorem px_lu : ∀ {xs : List (NestedKey × Addr × V)} {ys : List (NestedKey × Addr × Value)} (k : NestedKey), PX xs ys → RelO (luX xs k) ((atKey ys k).map (·.2))
  | _, _, _, .nil => trivial
  | _, _, k, .cons (a := p) (b := q) ⟨h1, h2, h3⟩ t => by
    unfold luX atKey
    rw [List.find?_cons, List.find?_cons, h1]
    by_cases e : q.1 = k
    · simp only [e, decide_true, Option.map_some]
      exact h3
    · simp only [e, decide_false]
      exact px_lu k t
theorem px_keys : ∀ {xs : List (NestedKey × Addr × V)} {ys : List (NestedKey × Addr × Value)}, PX xs ys → xs.map (·.1) = ys.map (·.1)
  | _, _, .nil => rfl
  | _, _, .cons ⟨h1, _, _⟩ t => by rw [List.map_cons, List.map_cons, h1, px_keys t]
theorem px_map {k : NestedKey} {v : V} {u : Value} (r : RelV v u) : ∀ {xs : List (NestedKey × Addr × V)} {ys : List (NestedKey × Addr × Value)}, PX xs ys → PX (xs.map fun p => if p.1 = k then (p.1, p.2.1, v) else p) (ys.map (putAt k u))
  | _, _, .nil => .nil
  | _, _, .cons (a := p) (b := q) ⟨h1, h2, h3⟩ t => by
    rw [List.map_cons, List.map_cons]
    refine .cons ?_ (px_map r t)
    unfold putAt
    by_cases e : q.1 = k
    · rw [if_pos (h1.trans e), if_pos e]; exact ⟨h1, h2, r⟩
    · rw [if_neg (fun z => e (h1.symm.trans z)), if_neg e]; exact ⟨h1, h2, h3⟩
theorem px_append : ∀ {xs xs' : List (NestedKey × Addr × V)} {ys ys' : List (NestedKey × Addr × Value)}, PX xs ys → PX xs' ys' → PX (xs ++ xs') (ys ++ ys')
  | _, _, _, _, .nil, q => q
  | _, _, _, _, .cons h t, q => .cons h (px_append t q)
theorem px_put {xs : List (NestedKey × Addr × V)} {ys : List (NestedKey × Addr × Value)} (h : PX xs ys) (k : NestedKey) (b : Addr) {v : V} {u : Value} (r : RelV v u) : PX (putX xs k b v) (storedH ys k b u) := by
  unfold putX storedH
  have q := (px_lu k h).isSome_eq
  rw [Option.isSome_map] at q
  rw [q]
  split
  · exact px_map r h
  · exact px_append h (.cons ⟨rfl, rfl, r⟩ .nil)
theorem luX_none {xs : List (NestedKey × Addr × V)} {k : NestedKey} (h : luX xs k = none) : k ∉ xs.map (·.1) := by
  unfold luX at h
  rw [Option.map_eq_none_iff, List.find?_eq_none] at h
  intro z
  obtain ⟨p, hp, rfl⟩ := List.mem_map.mp z
  exact h p hp (by simp)
theorem putX_nodup {xs : List (NestedKey × Addr × V)} (h : (xs.map (·.1)).Nodup) (k : NestedKey) (b : Addr) (v : V) : ((putX xs k b v).map (·.1)).Nodup := by
  unfold putX
  split
  · rw [List.map_map]
    have e : ((fun p : NestedKey × Addr × V => p.1) ∘ fun p : NestedKey × Addr × V => if p.1 = k then (p.1, p.2.1, v) else p) = fun p => p.1 := by
      funext p
      show (if p.1 = k then (p.1, p.2.1, v) else p).1 = p.1
      split <;> rfl
    rw [e]
    exact h
  · rename_i hn
    rw [List.map_append, List.nodup_append]
    refine ⟨h, by simp, fun a ha c hc => ?_⟩
    rw [List.map_cons, List.map_nil, List.mem_singleton] at hc
    rw [hc]
    intro z
    have hn' : luX xs k = none := by
      cases q : luX xs k with
      | none => rfl
      | some x => rw [q] at hn; exact absurd rfl hn
    exact luX_none hn' (by rw [← show a = k from z]; exact ha)
theorem putX_len (xs : List (NestedKey × Addr × V)) (k : NestedKey) (b : Addr) (v : V) : (putX xs k b v).length ≤ xs.length + 1 := by
  unfold putX
  split
  · rw [List.length_map]; omega
  · simp
def KeysOk (K : PySem.W.Frag) (H : Hp) (xs : List (NestedKey × Addr × V)) : Prop := ∀ p ∈ xs, KeyV K H (.ref p.2.1) p.1 ∧ p.1.depth ≤ 8
theorem px_mem : ∀ {xs : List (NestedKey × Addr × V)} {ys : List (NestedKey × Addr × Value)}, PX xs ys → ∀ y ∈ ys, ∃ x ∈ xs, x.1 = y.1 ∧ x.2.1 = y.2.1
  | _, _, .nil, y, h => by cases h
  | _, _, .cons (a := p) ⟨h1, h2, _⟩ t, y, h => by
    rcases List.mem_cons.mp h with z | z
    · rw [z]; exact ⟨p, List.mem_cons_self, h1, h2⟩
    · obtain ⟨x, hx, e⟩ := px_mem t y z
      exact ⟨x, List.mem_cons_of_mem _ hx, e⟩
section
variable {pins : List (Addr × Obj)} {σ : L2.St} {H : Hp} {s : Shared} {a : Addr} {xs : List (NestedKey × Addr × V)} {E : Value → Shared → Prop}
theorem dE_ok (I : Inv X pins σ H s) (h : H a = some (DictE X.prog X.w a xs)) (hk : KeysOk X.K H xs) : (a == sysModules) = false ∧ xs.length ≤ sizeLine ∧ (xs.map (·.1)).Nodup ∧ ∃ ys, PX xs ys ∧ s.heap.DictOfH (nestedKind X.prog X.w) a ys := by
  obtain ⟨⟨h1, h2, h3, ys, h4, o, es, ep, h5, h6, h7, h8⟩, _⟩ := I.hok a _ h
  refine ⟨h1, h2, h3, ys, h4, o, es, ep, h5, h6, h7, h8, fun y hy => ?_, by rw [← px_keys h4]; exact h3⟩
  obtain ⟨x, hx, e1, e2⟩ := px_mem h4 y hy
  obtain ⟨q1, q2⟩ := hk x hx
  exact ⟨by rw [← e1, ← e2]; exact q1.is I rfl, by rw [← e1]; exact q2⟩
theorem room8 {A : Around} (hu : A.units + 64 < cLine) : (nestedKind X.prog X.w).room A.in1 := by
  show A.units + 1 + 8 < cLine
  omega
theorem key_is (I : Inv X pins σ H s) {b : Addr} {k : NestedKey} (h : KeyV X.K H (.ref b) k) (hd : k.depth ≤ 8) : (nestedKind X.prog X.w).is s.heap k b := ⟨h.is I rfl, hd⟩
end
def rDIn (P : Program) (w : World) (K : PySem.W.Frag) (neg : Bool) : R2 := fun x y H Q => ∃ a b xs k, x = .ref b ∧ y = .ref a ∧ H a = some (DictE P w a xs) ∧ KeysOk K H xs ∧ KeyV K H (.ref b) k ∧ k.depth ≤ 8 ∧ Q (.bl (neg ^^ (luX xs k).isSome)) H
theorem op_inD (hu : X.A.units + 64 < cLine) : OpR X (compareOp .In) (rDIn X.prog X.w X.K false) := by
  intro pins s σ H x y v u Q I rx ry h
  obtain ⟨a, b, xs, k, rfl, rfl, hd, hk, kv, dp, q⟩ := h
  cases rx
  cases ry
  obtain ⟨h1, h2, h3, ys, h4, h5⟩ := dE_ok I hd hk
  refine wpAny_in_heap (room8 hu) (key_is I kv dp) h1 h5 ?_
  have e := (px_lu k h4).isSome_eq
  rw [Option.isSome_map] at e
  rw [← e]
  rw [Bool.false_xor] at q
  exact ⟨.bl _, H, I.tok _, rfl, q⟩
def rDIx (P : Program) (w : World) (K : PySem.W.Frag) : R2 := fun x y H Q => ∃ a b xs k v, x = .ref a ∧ y = .ref b ∧ H a = some (DictE P w a xs) ∧ KeysOk K H xs ∧ KeyV K H (.ref b) k ∧ k.depth ≤ 8 ∧ luX xs k = some v ∧ Q v H
theorem ix_dictE (hu : X.A.units + 64 < cLine) : IxR X (rDIx X.prog X.w X.K) := by
  intro value slice pins s σ H x y v u Q I rx ry h hs
  obtain ⟨a, b, xs, k, z, rfl, rfl, hd, hk, kv, dp, lu, q⟩ := h
  cases rx
  cases ry
  obtain ⟨h1, h2, h3, ys, h4, h5⟩ := dE_ok I hd hk
  obtain ⟨u', hu', ru⟩ := RelO.some_of (v := z) (o := (atKey ys k).map (·.2)) (by rw [← lu]; exact px_lu k h4)
  obtain ⟨p, hp, hp2⟩ := Option.map_eq_some_iff.mp hu'
  have g : wpAny (model X.prog X.w) X.A (getItem (.ref a) (.ref b)) (EP X pins σ Q) X.xe s := by
    refine wpAny_getItem_heap (room8 hu) (key_is I kv dp) h5 hp ?_
    rw [hp2]
    exact ⟨z, H, I.tok _, ru, q⟩
  unfold subscriptTail
  refine wpAny_bind ?_
  rw [getitemInPython_of_ne h5.typeIs.not_modules]
  refine wpAny_bind (wpAny_specialOf h5.typeIs PySem.F.slot_dict_getitem.lookup ?_)
  have fin : wpAny (model X.prog X.w) X.A (subscripted slice false (.ref a) (.ref b)) (fun r s₃ => wpAny (model X.prog X.w) X.A (letTemporaryGo value (.ref a) r >>= fun _ => pure r) (EP X pins σ Q) X.xe s₃) X.xe s := by
    rw [hs]
    exact wpAny_operating (wpAny_mono g (fun r s₃ h₃ => wpAny_bind (wpAny_letTemporaryGo (wpAny_pure h₃))) fun _ _ x => x)
  first
    | exact wpAny_pure (wpAny_bind fin)
    | exact wpAny_bind (wpAny_pure (wpAny_bind fin))
    | exact wpAny_bind fin
def rDSet (P : Program) (w : World) (K : PySem.W.Frag) : TSet := fun o i v H Q => ∃ a b xs k, o = .ref a ∧ i = .ref b ∧ H a = some (DictE P w a xs) ∧ KeysOk K H xs ∧ KeyV K H (.ref b) k ∧ k.depth ≤ 8 ∧ xs.length < sizeLine ∧ Q (upd H a (DictE P w a (putX xs k b v)))
theorem dE_new {P : Program} {w : World} {H' : Hp} {h' : Heap} {a : Addr} {xs : List (NestedKey × Addr × V)} {ys : List (NestedKey × Addr × Value)} (h1 : (a == sysModules) = false) (h2 : xs.length ≤ sizeLine) (h3 : (xs.map (·.1)).Nodup) (h4 : PX xs ys) (h5 : h'.DictOfH (nestedKind P w) a ys) : ObjOk P w H' h' a (DictE P w a xs) := by
  obtain ⟨o, es, ep, h6, h7, h8, h9, _⟩ := h5
  refine ⟨⟨h1, h2, h3, ys, h4, o, es, ep, h6, h7, h8, h9⟩, ⟨o, h6⟩, fun g1 g2 hp k => ?_⟩
  obtain ⟨q1, q2, q3, ys', q4, o', es', ep', q5, q6⟩ := hp
  exact ⟨q1, q2, q3, ys', q4, o', es', ep', k o' q5, q6⟩
theorem set_dictE (hu : X.A.units + 64 < cLine) : PSet X (rDSet X.prog X.w X.K) := by
  intro pins s σ H o i v ov iv u Q I ro ri rv h
  obtain ⟨a, b, xs, k, rfl, rfl, hd, hk, kv, dp, hl, q⟩ := h
  cases ro
  cases ri
  obtain ⟨h1, h2, h3, ys, h4, h5⟩ := dE_ok I hd hk
  have hz : ys.length ≤ sizeLine := by rw [← Paired.length h4]; exact h2
  refine wpAny_setItem_heap (hsz := hz) (room8 hu) (key_is I kv dp) h5 fun h' dd' hs => ?_
  obtain ⟨o', _, _, ho', _⟩ := id dd'
  exact ⟨_, d_write I (by rw [hd]; exact True.intro) hs ⟨o', ho'⟩ (dE_new h1 (by have := putX_len xs k b v; omega) (putX_nodup h3 k b v) (px_put h4 k b rv) dd'), q⟩
def tDNewE (P : Program) (w : World) : TE := fun _ H Q => ∀ p, H p = none → Q (.ref p) (upd H p (DictE P w p []))
/-! the same by values -/
theorem KsR.ok {H : Hp} {μ : Mp} : ∀ {xs ys}, KsR K H μ xs ys → KeysOk K H xs
  | _, _, .nil, p, h => by cases h
  | _, _, .cons h0 h1 h2 h3 q, p, h => by
    rcases List.mem_cons.mp h with z | z
    · rw [z]; exact ⟨h2.keyV h0, h1⟩
    · exact KsR.ok q p z
def luD (kvs : List (NestedKey × D × D)) (k : NestedKey) : Option D := (kvs.find? fun p => decide (p.1 = k)).map (·.2.2)
def putD (kvs : List (NestedKey × D × D)) (k : NestedKey) (e d : D) : List (NestedKey × D × D) :=
  if (luD kvs k).isSome = true then kvs.map fun p => if p.1 = k then (p.1, p.2.1, d) else p else kvs ++ [(k, e, d)]
theorem KsR.lu {H : Hp} {μ : Mp} (k : NestedKey) : ∀ {xs ys}, KsR K H μ xs ys → (luX xs k = none ∧ luD ys k = none) ∨ ∃ v d, luX xs k = some v ∧ luD ys k = some d ∧ Rv K H μ v d
  | _, _, .nil => .inl ⟨rfl, rfl⟩
  | _, _, .cons (k := k') h0 h1 h2 h3 q => by
    unfold luX luD
    rw [List.find?_cons, List.find?_cons]
    by_cases e : k' = k
    · simp only [e, decide_true, Option.map_some]
      exact .inr ⟨_, _, rfl, rfl, h3⟩
    · simp only [e, decide_false]
      exact KsR.lu k q
theorem KsR.mapV {H : Hp} {μ : Mp} {k : NestedKey} {v : V} {d : D} (r : Rv K H μ v d) : ∀ {xs ys}, KsR K H μ xs ys → KsR K H μ (xs.map fun p => if p.1 = k then (p.1, p.2.1, v) else p) (ys.map fun p => if p.1 = k then (p.1, p.2.1, d) else p)
  | _, _, .nil => .nil
  | _, _, .cons (k := k') h0 h1 h2 h3 q => by
    rw [List.map_cons, List.map_cons]
    by_cases e : k' = k
    · simp only [e, if_true]
      exact .cons (e ▸ h0) (e ▸ h1) h2 r (KsR.mapV r q)
    · simp only [e, if_false]
      exact .cons h0 h1 h2 h3 (KsR.mapV r q)
theorem KsR.append {H : Hp} {μ : Mp} : ∀ {xs xs' ys ys'}, KsR K H μ xs ys → KsR K H μ xs' ys' → KsR K H μ (xs ++ xs') (ys ++ ys')
  | _, _, _, _, .nil, q => q
  | _, _, _, _, .cons h0 h1 h2 h3 t, q => .cons h0 h1 h2 h3 (KsR.append t q)
theorem KsR.put {H : Hp} {μ : Mp} {xs ys} (h : KsR K H μ xs ys) {k : NestedKey} {b : Addr} {v : V} {e d : D} (hk : D.key e = some k) (hd : k.depth ≤ 8) (rb : Rv K H μ (.ref b) e) (r : Rv K H μ v d) : KsR K H μ (putX xs k b v) (putD ys k e d) := by
  unfold putX putD
  rcases h.lu k with ⟨h1, h2⟩ | ⟨u, c, h1, h2, _⟩
  · rw [h1, h2]
    exact h.append (.cons hk hd rb r .nil)
  · rw [h1, h2]
    exact h.mapV r
theorem KsR.length {H : Hp} {μ : Mp} : ∀ {xs ys}, KsR K H μ xs ys → xs.length = ys.length
  | _, _, .nil => rfl
  | _, _, .cons _ _ _ _ q => by rw [List.length_cons, List.length_cons, KsR.length q]
/-- the key that d is, a tuple -/
def D.tkey (d : D) : Option NestedKey := match d with
  | .tup ds => match D.key (.tup ds) with
    | some k => if k.depth ≤ 8 then some k else none
    | none => none
  | _ => none
theorem tkey_ok {H : Hp} {μ : Mp} {v : V} {d : D} {k : NestedKey} (r : Rv K H μ v d) (h : d.tkey = some k) : ∃ b, v = .ref b ∧ KeyV K H (.ref b) k ∧ k.depth ≤ 8 ∧ D.key d = some k := by
  unfold D.tkey at h
  split at h
  · split at h
    · rename_i k' hk
      split at h
      · rename_i hd
        cases h
        cases r with
        | tup h1 h2 => exact ⟨_, rfl, (Rv.tup h1 h2).keyV hk, hd, hk⟩
      · cases h
    · cases h
  · cases h
def gInD (neg : Bool) : G2 := fun a b S => match b with
  | .obj j => match S[j]? with
    | some (.dct kvs) => match a.tkey with
      | some k => some (.bl (neg ^^ (luD kvs k).isSome), S)
      | none => none
    | _ => none
  | _ => none
theorem KsR.isS {H : Hp} {μ : Mp} {xs ys} (h : KsR K H μ xs ys) (k : NestedKey) : (luX xs k).isSome = (luD ys k).isSome := by
  rcases h.lu k with ⟨h1, h2⟩ | ⟨u, c, h1, h2, _⟩
  · rw [h1, h2]; rfl
  · rw [h1, h2]; rfl
theorem ro_inD {neg : Bool} : RO P w K (rDIn P w K neg) (gInD neg) := by
  intro H μ S x y a b d S' Q hr rx ry e k
  unfold gInD at e
  split at e
  · split at e
    · rename_i kvs h
      split at e
      · rename_i kk hk
        cases e
        obtain ⟨p, rfl, h1, xs, h2, h3⟩ := hr.at ry h
        obtain ⟨c, rfl, h4, h5, h6⟩ := tkey_ok rx hk
        refine ⟨p, c, xs, kk, rfl, rfl, h2, h3.ok, h4, h5, ?_⟩
        rw [h3.isS]
        exact k _ H μ (.refl _ _) hr (.bl _)
      · cases e
    · cases e
  · cases e
/-- in, of a text, a sequence, a dict -/
def gIn (neg : Bool) : G2 := fun a b S => (gInD neg a b S).orElse fun _ => gInS neg a b S
theorem jt_in {a b : Expr} {fa fb : FE} {pos : Pos} (hu : X.A.units + 64 < cLine) (ha : JE X a fa) (hb : JE X b fb) (hm : behindInMarks .In b = false := by rfl) : JT X (.Compare a [.In] [b] pos) (fTest (fOp (gIn false) fa fb)) := jt_cmpR ((op_inD hu).or op_inJ) (ro_inD.or ro_inJ) ha hb hm
def gIxD : G2 := fun a b S => match a with
  | .obj j => match S[j]? with
    | some (.dct kvs) => match b.tkey with
      | some k => match luD kvs k with
        | some d => some (d, S)
        | none => none
      | none => none
    | _ => none
  | _ => none
theorem ro_ixD : RO P w K (rDIx P w K) gIxD := by
  intro H μ S x y a b d S' Q hr rx ry e k
  unfold gIxD at e
  split at e
  · split at e
    · rename_i kvs h
      split at e
      · rename_i kk hk
        split at e
        · rename_i d1 hl
          cases e
          obtain ⟨p, rfl, h1, xs, h2, h3⟩ := hr.at rx h
          obtain ⟨c, rfl, h4, h5, h6⟩ := tkey_ok ry hk
          rcases h3.lu kk with ⟨z1, z2⟩ | ⟨u, c', z1, z2, z3⟩
          · rw [z2] at hl; cases hl
          · rw [z2] at hl
            cases hl
            exact ⟨p, c, xs, kk, u, rfl, rfl, h2, h3.ok, h4, h5, z1, k _ H μ (.refl _ _) hr z3⟩
        · cases e
      · cases e
    · cases e
  · cases e
def gIdx : G2 := fun a b S => (gIxD a b S).orElse fun _ => gIx a b S
theorem je_sx {a b : Expr} {fa fb : FE} {pos : Pos} (hu : X.A.units + 64 < cLine) (ha : JE X a fa) (hb : JE X b fb) (hs : PlainIx b := by exact fun _ _ => rfl) : JE X (.Subscript a b pos) (fOp gIdx fa fb) := je_ixR ((ix_dictE hu).or ix_seq) (ro_ixD.or ro_ix) ha hb hs
def gSetD : GS := fun a b d S => match a with
  | .obj j => match S[j]? with
    | some (.dct kvs) => match b.tkey with
      | some k => if kvs.length < 100000 then some (S.set j (.dct (putD kvs k b d))) else none
      | none => none
    | _ => none
  | _ => none
theorem rs_dict : RS P w K (rDSet P w K) gSetD := by
  intro H μ S o i v a b d S' Q hr ro ri rv e k
  unfold gSetD at e
  split at e
  · split at e
    · rename_i kvs h
      split at e
      · rename_i kk hk
        split at e
        · rename_i hl
          cases e
          obtain ⟨p, rfl, h1, xs, h2, h3⟩ := hr.at ro h
          obtain ⟨c, rfl, h4, h5, h6⟩ := tkey_ok ri hk
          refine ⟨p, c, xs, kk, rfl, rfl, h2, h3.ok, h4, h5, by rw [h3.length]; exact len100 (by omega), ?_⟩
          obtain ⟨l, hr2⟩ := hr.put (u := DictE P w p (putX xs kk c v)) (o := .dct (putD kvs kk b d)) h1 (fun _ _ z => by rw [h2] at z; cases z) fun H' dt e => ⟨_, e, (h3.put h6 h5 ri rv).dat dt⟩
          exact k _ μ l hr2
        · cases e
      · cases e
    · cases e
  · cases e
theorem PSet.or {r r' : TSet} (h : PSet X r) (h' : PSet X r') : PSet X (fun o i v H Q => r o i v H Q ∨ r' o i v H Q) := by
  intro pins s σ H o i v ov iv u Q I ro ri rv q
  rcases q with q | q
  · exact h pins s σ H o i v ov iv u Q I ro ri rv q
  · exact h' pins s σ H o i v ov iv u Q I ro ri rv q
theorem RS.or {r r' : TSet} {g g' : GS} (h : RS P w K r g) (h' : RS P w K r' g') : RS P w K (fun o i v H Q => r o i v H Q ∨ r' o i v H Q) (fun a b d S => (g a b d S).orElse fun _ => g' a b d S) := by
  intro H μ S o i v a b d S' Q hr ro ri rv e k
  cases h1 : g a b d S with
  | some p =>
    simp only [h1, Option.orElse_some] at e
    exact .inl (h H μ S o i v a b d S' Q hr ro ri rv (h1.trans e) k)
  | none =>
    simp only [h1, Option.orElse_none] at e
    exact .inr (h' H μ S o i v a b d S' Q hr ro ri rv e k)
def gSet : GS := fun a b d S => (gSetD a b d S).orElse fun _ => gSetL a b d S
theorem jg_sx {o i : Expr} {fo fi : FE} {pos : Pos} (hu : X.A.units + 64 < cLine) (ho : JE X o fo) (hi : JE X i fi)
    (ha : ∀ v, assign (.Subscript o i pos) X.env v = (do
      let ov ← holding [v] (eval o X.env)
      let iv ← holding [v, ov] (eval i X.env)
      standAt pos
      holding [v, ov, iv] (setItem ov iv v)
      release [v, ov, iv] []) := by intro _; rfl) : JG X (.Subscript o i pos) (gSub fo fi gSet) [] := jg_sub ho hi (PSet.or (set_dictE hu) set_list) (RS.or rs_dict rs_list) ha
def fDNew : FE := fun _ S => some (.obj S.length, S ++ [.dct []])
/-! d.get(k, x) -/
def tGet2E (P : Program) (w : World) (K : PySem.W.Frag) (td ty tx : TE) : TE := fun σ H Q => td σ H fun x H1 => ∃ a xs, x = .ref a ∧ H1 a = some (DictE P w a xs) ∧ KeysOk K H1 xs ∧ ty σ H1 fun y H2 => tx σ H2 fun z H3 => ∃ b xs k, y = .ref b ∧ H3 a = some (DictE P w a xs) ∧ KeysOk K H3 xs ∧ KeyV K H3 (.ref b) k ∧ k.depth ≤ 8 ∧ Q ((luX xs k).getD z) H3
def fGet2 (fo fk fx : FE) : FE := fun env S => match fo env S with
  | some (.obj j, S1) => match S1[j]? with
    | some (.dct _) => match fk env S1 with
      | some (b, S2) => match fx env S2 with
        | some (x, S3) => match S3[j]?, b.tkey with
          | some (.dct kvs), some k => some ((luD kvs k).getD x, S3)
          | _, _ => none
        | none => none
      | none => none
    | _ => none
  | _ => none
/-! for k in d, d locked -/
def ItE (P : Program) (w : World) (a : Addr) (o : Obj) (xs : List (NestedKey × Addr × V)) : It :=
  ⟨fun i H => H a = some (.frz o (DictE P w a xs)) ∧ i < xs.length, fun i H x H' => H' = H ∧ ∃ k b v, xs[i]? = some (k, b, v) ∧ x = .ref b, fun i H => H a = some (.frz o (DictE P w a xs)) ∧ xs.length ≤ i⟩
def iKeysE (P : Program) (w : World) (td : TE) : TI := fun σ H R => td σ H fun x H1 => ∃ a o xs, x = .ref a ∧ H1 a = some (.frz o (DictE P w a xs)) ∧ R (ItE P w a o xs) H1
def fForD (i : Nat) (g : FG) (b : FS) : FS := fun env S => match env[i]? with
  | some (some (.obj k)) => match S[k]? with
    | some (.dct kvs) => match fForL g b (kvs.map fun p => p.2.1) env (S.set k (.lck kvs)) with
      | some (.xc _ _, _, _) => none
      | some (fl, env', S') => some (fl, env', S'.set k (.dct kvs))
      | none => none
    | _ => none
  | _ => none
end J

namespace Kx
open PySem PySem.Spec PyProof.Rows L2
open AutoSeq1 (wpAny_loadPart')
/-- enumerate(tuple): each item in a new pair -/
def IteT (K : PySem.W.Frag) (a : Addr) : It :=
  ⟨fun i H => ∃ (xs : List V) (x : V), SqT K H a xs ∧ xs[i]? = some x, fun i H v H' => ∃ T x, v = .ref T ∧ H T = none ∧ H' = upd H T (.tup [.int (i : Nat), x]) ∧ ∀ xs, SqT K H a xs → xs[i]? = some x, fun i H => ∃ xs : List V, SqT K H a xs ∧ xs.length ≤ i⟩
/-- enumerate of a list or of a tuple -/
def SqC (K : PySem.W.Frag) (c : Bool) (H : Hp) (a : Addr) (xs : List V) : Prop := match c with
  | true => SqL K H a xs
  | false => SqT K H a xs
def IteC (K : PySem.W.Frag) (c : Bool) (a : Addr) : It := match c with
  | true => Ite K a
  | false => IteT K a
def iEnumS (K : PySem.W.Frag) (ta : TA) : TI := fun σ H R => ta σ H fun vs H1 => ∃ a xs c, vs = [.ref a] ∧ SqC K c H1 a xs ∧ R (IteC K c a) H1
end Kx

set_option autoImplicit false
namespace J
open PySem PySem.Spec PyProof.Rows L2
variable {K : PySem.W.Frag} {P : Program} {w : World} {X : Cx}
/-! defs by what they compute -/
def OkF (P : Program) (w : World) (K : PySem.W.Frag) (mg : Str → Option Value) (base : Heap) (x : Str) (n : Nat) (F : Fn) (k : Nat) : Prop :=
  ∃ (f : Addr) (fd : FuncData) (ps : List Str), mg x = some (.ref f) ∧ PySem.W.keepIn K (.ref f) = true ∧ Binds K fd ps [] ∧ FnOk P w K mg base CX0 k f fd ps (spJ P w K n F)
theorem je_callF {j k n : Nat} {F : Fn} {x : Str} {p pos : Pos} {e : Expr} {es : List Expr} {g : FA} (G : OkF X.prog X.w X.K X.mg X.base x n F j) (hr : Room k X.A) (hg : Gl X x) (ha : JA X (e :: es) g) (hj : j ≤ k := by decide) (hdb : (x == ("__debug__" : Str)) = false := by decide) (he : starEach (e :: es) X.env = (false, eval e X.env) :: starEach es X.env := by rfl) (hpl : (backTo pos (starEach es X.env)).any (·.1) = false := by rfl) :
    JE X (.Call (.Name x p) (e :: es) [] pos) (fCall n F g []) := by
  obtain ⟨f, fd, ps, h1, h2, h3, h4⟩ := G
  exact je_call (dvs := []) (ds := []) (h4.mono hj) hr hg h1 h2 h3 .nil (fun _ _ => .nil) ha hdb he hpl
/-- with one keyword-only parameter, base, whose default is 3 -/
def OkK (P : Program) (w : World) (K : PySem.W.Frag) (mg : Str → Option Value) (base : Heap) (x : Str) (i n : Nat) (F : Fn) (k : Nat) : Prop :=
  ∃ (f : Addr) (fd : FuncData) (ps : List Str), mg x = some (.ref f) ∧ PySem.W.keepIn K (.ref f) = true ∧ KBn K fd ps i [("base" : Str)] (fun us ws => us ++ ws) (fun vs zs => vs ++ zs) ∧ (∃ ds, Vals [.int 3] ds ∧ Binds K fd ps ds) ∧ FnOk P w K mg base CX0 k f fd ps (spJ P w K n F)
theorem okF_none {mg : Str → Option Value} {base : Heap} {f : Addr} {fd : FuncData} {ps : List Str} {n k : Nat} : FnOk P w K mg base CX0 k f fd ps (spJ P w K n fun _ _ => none) := by
  refine ⟨fun vs H Q E h => ?_, fun A outer s H args us vs Q E hr h0 hb hv h => ?_⟩
  · obtain ⟨_, _, _, _, _, _, _, _, h, _⟩ := h; cases h
  · obtain ⟨_, _, _, _, _, _, _, _, h, _⟩ := h; cases h
/-! dicts with ints and texts as keys -/
def valKD (kvs : List (Key × D)) (k : Key) : Option D := (kvs.find? fun kv => decide (kv.1 = k)).map (·.2)
def putKD (kvs : List (Key × D)) (k : Key) (v : D) : List (Key × D) := if (kvs.any fun kv => decide (kv.1 = k)) = true then kvs.map fun kv => if kv.1 = k then (kv.1, v) else kv else kvs ++ [(k, v)]
def mergeKD (kvs more : List (Key × D)) : List (Key × D) := more.foldl (fun acc kv => putKD acc kv.1 kv.2) kvs
theorem KvR.val {H : Hp} {μ : Mp} (k : Key) : ∀ {xs ys}, KvR K H μ xs ys → (valV xs k = none ∧ valKD ys k = none) ∨ ∃ v d, valV xs k = some v ∧ valKD ys k = some d ∧ Rv K H μ v d
  | _, _, .nil => .inl ⟨rfl, rfl⟩
  | _, _, .cons (k := k') h3 q => by
    unfold valV valKD
    rw [List.find?_cons, List.find?_cons]
    by_cases e : k' = k
    · simp only [e, decide_true, Option.map_some]
      exact .inr ⟨_, _, rfl, rfl, h3⟩
    · simp only [e, decide_false]
      exact KvR.val k q
theorem KvR.anyK {H : Hp} {μ : Mp} (k : Key) : ∀ {xs ys}, KvR K H μ xs ys → (xs.any fun kv => decide (kv.1 = k)) = ys.any fun kv => decide (kv.1 = k)
  | _, _, .nil => rfl
  | _, _, .cons (k := k') h3 q => by rw [List.any_cons, List.any_cons, KvR.anyK k q]
theorem KvR.append {H : Hp} {μ : Mp} : ∀ {xs xs' ys ys'}, KvR K H μ xs ys → KvR K H μ xs' ys' → KvR K H μ (xs ++ xs') (ys ++ ys')
  | _, _, _, _, .nil, q => q
  | _, _, _, _, .cons h t, q => .cons h (KvR.append t q)
theorem KvR.mapV {H : Hp} {μ : Mp} {k : Key} {v : V} {d : D} (r : Rv K H μ v d) : ∀ {xs ys}, KvR K H μ xs ys → KvR K H μ (xs.map fun p => if p.1 = k then (p.1, v) else p) (ys.map fun p => if p.1 = k then (p.1, d) else p)
  | _, _, .nil => .nil
  | _, _, .cons (k := k') h3 q => by
    rw [List.map_cons, List.map_cons]
    by_cases e : k' = k
    · simp only [e, if_true]
      exact .cons r (KvR.mapV r q)
    · simp only [e, if_false]
      exact .cons h3 (KvR.mapV r q)
theorem KvR.put {H : Hp} {μ : Mp} {xs ys} (h : KvR K H μ xs ys) (k : Key) {v : V} {d : D} (r : Rv K H μ v d) : KvR K H μ (putK xs k v) (putKD ys k d) := by
  unfold putK putKD
  rw [h.anyK k]
  split
  · exact h.mapV r
  · exact h.append (.cons r .nil)
/-- pairs of a display with written texts as keys -/
def JPs (X : Cx) (pos : Pos) (keys : List (Option Expr)) (values : List Expr) (ns : List Str) (f : FA) : Prop := ∃ trs, PPs X pos keys values trs ∧ ∀ (σ : L2.St) (H : Hp) (μ : Mp) (env : Env) (S : Sto) (ds : List D) (S' : Sto) (Q : List (V × V) → Hp → Prop), HR X.prog X.w X.K H μ S → ER X.K H μ σ env → f env S = some (ds, S') →
  (∀ (vs : List V) H' μ', Later μ H μ' H' → HR X.prog X.w X.K H' μ' S' → RvAll X.K H' μ' vs ds → vs.length = ns.length → Q ((ns.zip vs).map fun p => (V.str p.1, p.2)) H') → tPairs trs σ H Q
def kvN (ns : List Str) (ds : List D) : List (Key × D) := (ns.zip ds).map fun p => (Sum.inr p.1, p.2)
/-- {k: v, ..}[e] -/
def fDispIx (ns : List Str) (fv : FA) (fk : FE) : FE := fun env S => match fv env S with
  | some (ds, S1) => match fk env S1 with
    | some (.str x, S2) => match valKD (mergeKD [] (kvN ns ds)) (Sum.inr x) with
      | some d => some (d, S2)
      | none => none
    | _ => none
  | none => none
theorem HR.ext {H : Hp} {μ : Mp} {S : Sto} {p : Addr} {o : HO} (hr : HR P w K H μ S) (np : H p = none) : Later μ H ⟨μ.m, p :: μ.x⟩ (upd H p o) ∧ HR P w K (upd H p o) ⟨μ.m, p :: μ.x⟩ S := by
  have pm := hr.free np
  obtain ⟨l2, hr2⟩ := hr.new (o := o) np
  have d0 : Dat μ H ⟨μ.m, p :: μ.x⟩ (upd H p o) := ⟨⟨[], by simp⟩, fun b u h n nx => ⟨n, fun z => (List.mem_cons.mp z).elim (fun z => ne_of_none h np z) nx, by rw [upd_ne (ne_of_none h np)]; exact h⟩⟩
  refine ⟨⟨⟨[], by simp⟩, fun a h => List.mem_cons_of_mem _ h, fun a o h n => ⟨n, fun nx z => (List.mem_cons.mp z).elim (fun z => ne_of_none h np z) nx, (l2.keep a o h n).2.2⟩, l2.frz⟩, ⟨hr2.len, hr2.nd, fun j a o hj ho => ?_, hr2.there, fun a ha => ?_, fun a ha z => ?_⟩⟩
  · exact (hr.ok j a o hj ho).dat d0 (upd_ne (show a ≠ p from fun z => pm.1 (by rw [← z]; exact List.mem_of_getElem? hj)))
  · rcases List.mem_cons.mp ha with z | z
    · rw [z, upd_same]; simp
    · exact hr2.thereX a z
  · rcases List.mem_cons.mp z with z | z
    · exact pm.1 (z ▸ ha)
    · exact hr2.dj a ha z
/-! a < b < c -/
def fChain (g g' : G2) (fa fb fc : FE) : FE := fun env S => match fa env S with
  | some (a, S1) => match fb env S1 with
    | some (b, S2) => match g a b S2 with
      | some (.bl true, S3) => match fc env S3 with
        | some (c, S4) => g' b c S4
        | none => none
      | some (.bl false, S3) => some (.bl false, S3)
      | _ => none
    | none => none
  | none => none
section
variable {op op' : CmpOp} {r r' : R2} {g g' : G2} {a b c : Expr} {fa fb fc : FE} {pos : Pos}
end
/-! name += e -/
def fAug (i : Nat) (g : G2) (fe : FE) : FS := fun env S => match env[i]? with
  | some (some a) => match fe env S with
    | some (b, S1) => match g a b S1 with
      | some (c, S2) => some (.nx, env.set i (some c), S2)
      | none => none
    | none => none
  | _ => none
/-! enumerate -/
def enD (ds : List D) : List D := ds.mapIdx fun i d => .tup [.int (i : Int), d]
def fEnum (g : FA) : FA := fun env S => match g env S with
  | some ([d], S1) => match d.items with
    | some ds => some (enD ds, S1)
    | none => none
  | _ => none
end J

namespace Kx
open PySem PySem.Spec PyProof.Rows L2
/-! what is carried from heap to heap -/
def Bag (H : Hp) (b : Addr) (n : Nat) : Prop := ∃ (d m : Int) (c : Nat), H b = some (.lst [.int d, .int m, .int c]) ∧ 0 ≤ d ∧ 0 ≤ m ∧ m < 2305843009213693951 ∧ c ≤ n
def SameX (b : Addr) (H H' : Hp) : Prop := ∀ a o, a ≠ b → H a = some o → H' a = some o
theorem SameX.refl (b : Addr) (H : Hp) : SameX b H H := fun _ _ _ e => e
theorem SameX.trans {b : Addr} {H H1 H2 : Hp} (x : SameX b H H1) (y : SameX b H1 H2) : SameX b H H2 := fun a o n e => y a o n (x a o n e)
theorem SameX.new {b p : Addr} {H : Hp} {o : HO} (h : H p = none) : SameX b H (upd H p o) := fun a u _ e => by
  rw [upd_ne (ne_of_none e h)]
  exact e
theorem Same.x {b : Addr} {H H' : Hp} (h : Same H H') : SameX b H H' := fun a o _ e => h a o e
/-- after a new thing, then what keeps all but it -/
theorem SameX.behind {p : Addr} {H H1 : Hp} {o : HO} (h : H p = none) (s : SameX p (upd H p o) H1) : Same H H1 := fun a u e =>
  s a u (ne_of_none e h) (by rw [upd_ne (ne_of_none e h)]; exact e)
theorem Bag.mono {H : Hp} {b : Addr} {n m : Nat} (h : Bag H b n) (l : n ≤ m) : Bag H b m :=
  let ⟨d, x, c, e, h1, h2, h3, h4⟩ := h
  ⟨d, x, c, e, h1, h2, h3, Nat.le_trans h4 l⟩
theorem Bag.new {H : Hp} {b p : Addr} {n : Nat} {o : HO} (h : Bag H b n) (hp : H p = none) : Bag (upd H p o) b n := by
  obtain ⟨d, x, c, e, r⟩ := h
  exact ⟨d, x, c, by rw [upd_ne (ne_of_none e hp)]; exact e, r⟩
theorem Bag.same {H H' : Hp} {b : Addr} {n : Nat} (h : Bag H b n) (s : Same H H') : Bag H' b n :=
  let ⟨d, x, c, e, r⟩ := h
  ⟨d, x, c, s _ _ e, r⟩
theorem Bag.ne {H : Hp} {b p : Addr} {n : Nat} (h : Bag H b n) (hp : H p = none) : p ≠ b := fun z => by
  obtain ⟨d, x, c, e, r⟩ := h
  rw [← z, hp] at e
  cases e
theorem SameX.seq {K : PySem.W.Frag} {H H' : Hp} {a b : Addr} {xs : List V} (e : SameX b H H') (n : a ≠ b) (h : SqL K H a xs) : SqL K H' a xs := by
  rcases h with (h | ⟨o, h⟩) | h
  · exact .inl (.inl (e _ _ n h))
  · exact .inl (.inr ⟨o, e _ _ n h⟩)
  · exact .inr h
/-- tuples that can be read stay -/
def KeepT (K : PySem.W.Frag) (H H' : Hp) : Prop := ∀ a xs, SqT K H a xs → SqT K H' a xs
theorem KeepT.refl (K : PySem.W.Frag) (H : Hp) : KeepT K H H := fun _ _ h => h
theorem KeepT.trans {K : PySem.W.Frag} {H H1 H2 : Hp} (x : KeepT K H H1) (y : KeepT K H1 H2) : KeepT K H H2 := fun a xs h => y a xs (x a xs h)
theorem keepT_same {K : PySem.W.Frag} {H H' : Hp} (s : Same H H') : KeepT K H H' := fun a xs h => by
  rcases h with (h | ⟨o, h⟩) | h
  · exact .inl (.inl (s _ _ h))
  · exact .inl (.inr ⟨o, s _ _ h⟩)
  · exact .inr h
/-! data without lists -/
mutual
inductive Dt (K : PySem.W.Frag) (H : Hp) : V → PyData → Prop
  | non : Dt K H .non .none
  | bl (b : Bool) : Dt K H (.bl b) (.bool b)
  | int (i : Int) : Dt K H (.int i) (.int i)
  | str (x : Str) : Dt K H (.str x) (.str x)
  | tup {a : Addr} {xs : List V} {ds : List PyData} : SqT K H a xs → DtAll K H xs ds → Dt K H (.ref a) (.tuple ds)
inductive DtAll (K : PySem.W.Frag) (H : Hp) : List V → List PyData → Prop
  | nil : DtAll K H [] []
  | cons {v : V} {vs : List V} {d : PyData} {ds : List PyData} : Dt K H v d → DtAll K H vs ds → DtAll K H (v :: vs) (d :: ds)
end
mutual
theorem Dt.keep {K : PySem.W.Frag} {H H' : Hp} (s : KeepT K H H') : ∀ {v : V} {d : PyData}, Dt K H v d → Dt K H' v d
  | _, _, .non => .non
  | _, _, .bl b => .bl b
  | _, _, .int i => .int i
  | _, _, .str x => .str x
  | _, _, .tup h q => .tup (s _ _ h) (DtAll.keep s q)
theorem DtAll.keep {K : PySem.W.Frag} {H H' : Hp} (s : KeepT K H H') : ∀ {vs : List V} {ds : List PyData}, DtAll K H vs ds → DtAll K H' vs ds
  | _, _, .nil => .nil
  | _, _, .cons h q => .cons (Dt.keep s h) (DtAll.keep s q)
end
mutual
theorem Dt.dp {K : PySem.W.Frag} {H : Hp} : ∀ {v : V} {d : PyData}, Dt K H v d → Dp K H v d
  | _, _, .non => .non
  | _, _, .bl b => .bl b
  | _, _, .int i => .int i
  | _, _, .str x => .str x
  | _, _, .tup h q => .tup h (DtAll.dp q)
theorem DtAll.dp {K : PySem.W.Frag} {H : Hp} : ∀ {vs : List V} {ds : List PyData}, DtAll K H vs ds → DpAll K H vs ds
  | _, _, .nil => .nil
  | _, _, .cons h q => .cons (Dt.dp h) (DtAll.dp q)
end
theorem DtAll.length {K : PySem.W.Frag} {H : Hp} : ∀ {vs : List V} {ds : List PyData}, DtAll K H vs ds → vs.length = ds.length
  | _, _, .nil => rfl
  | _, _, .cons h q => by rw [List.length_cons, List.length_cons, DtAll.length q]
theorem DtAll.get {K : PySem.W.Frag} {H : Hp} : ∀ {vs : List V} {ds : List PyData}, DtAll K H vs ds → ∀ (i : Nat) {d : PyData}, ds[i]? = some d → ∃ v, vs[i]? = some v ∧ Dt K H v d
  | _, _, .nil, i, _, e => by simp at e
  | _, _, .cons h q, 0, _, e => ⟨_, rfl, (Option.some.inj e) ▸ h⟩
  | _, _, .cons h q, i + 1, _, e => DtAll.get q i e
theorem DtAll.app {K : PySem.W.Frag} {H : Hp} : ∀ {vs us : List V} {ds es : List PyData}, DtAll K H vs ds → DtAll K H us es → DtAll K H (vs ++ us) (ds ++ es)
  | _, _, _, _, .nil, q => q
  | _, _, _, _, .cons h r, q => .cons h (DtAll.app r q)
/-! texts as the laws make them -/
inductive Op
  | x
  | y
  | n (k : Int)
inductive Ex
  | o (a : Op)
  | t (s : Str) (a b : Op)
inductive Rw
  | set (v : Str) (e : Ex)
  | iff (e f : Ex) (r : Int)
  | go (r : Int)
  | say (e : Ex)
  | ask (v : Str)
  | read (c : Int) (v : Str)
  | write (c : Int) (e : Ex)
  | call (n : Str) (e : Ex) (v : Str)
  | fin (e : Ex)
def Op.d : Op → PyData
  | .x => .str "x"
  | .y => .str "y"
  | .n k => .int k
def Ex.d : Ex → PyData
  | .o a => a.d
  | .t s a b => .tuple [.str s, a.d, b.d]
def Rw.w : Rw → Str
  | .set _ _ => "set"
  | .iff _ _ _ => "if"
  | .go _ => "go"
  | .say _ => "say"
  | .ask _ => "ask"
  | .read _ _ => "read"
  | .write _ _ => "write"
  | .call _ _ _ => "call"
  | .fin _ => "end"
def Rw.rest : Rw → List PyData
  | .set v e => [.str v, e.d]
  | .iff e f r => [e.d, f.d, .int r]
  | .go r => [.int r]
  | .say e => [e.d]
  | .ask v => [.str v]
  | .read c v => [.int c, .str v]
  | .write c e => [.int c, e.d]
  | .call n e v => [.str n, e.d, .str v]
  | .fin e => [e.d]
def Rw.d (r : Rw) : PyData := .tuple (.str r.w :: r.rest)
def Op.ok (b : Int) : Op → Prop
  | .x => True
  | .y => True
  | .n k => 0 ≤ k ∧ k < b
def Ex.ok (b : Int) : Ex → Prop
  | .o a => a.ok b
  | .t s a c => (s = "+" ∨ s = "-" ∨ s = "*") ∧ a.ok b ∧ c.ok b
def vok (v : Str) : Prop := v = "x" ∨ v = "y"
def Rw.ok (b m : Int) (N : List Str) : Rw → Prop
  | .set v e => vok v ∧ e.ok b
  | .iff e f r => e.ok b ∧ f.ok b ∧ 0 ≤ r ∧ r ≤ m
  | .go r => 0 ≤ r ∧ r ≤ m
  | .say e => e.ok b
  | .ask v => vok v
  | .read c v => (c = 0 ∨ c = 1) ∧ vok v
  | .write c e => (c = 0 ∨ c = 1) ∧ e.ok b
  | .call n e v => n ∈ N ∧ e.ok b ∧ vok v
  | .fin e => e.ok b
def Tx.ok (b : Int) (N : List Str) (t : List Rw) : Prop := ∀ r ∈ t, r.ok b t.length N
def Tx.d (t : List Rw) : PyData := .tuple (t.map Rw.d)
/-! texts read off the heap; what is silent -/
def Rw.silent : Rw → Bool
  | .set _ _ => true
  | .iff _ _ _ => true
  | .go _ => true
  | _ => false
def silentAt (t : List Rw) (i : Nat) : Bool := match t[i]? with
  | some r => r.silent
  | none => false
end Kx

namespace Kx
open PySem PySem.Spec PyProof.Rows L2
/-! repr of data of any depth, where no repr is under way -/
def rRepr (K : PySem.W.Frag) : List V → Hp → VK → Prop := fun xs H Q => ∃ (a : Addr) (d : PyData), xs = [.ref a] ∧ Dp K H (.ref a) d ∧ d.showable = true ∧ d.hasDict = false ∧ d.depth ≤ 60 ∧ d.shown.length ≤ sizeLine ∧ Q (.str d.shown) H
theorem cr_repr {X : Cx} (hg : X.A.guards = some []) (hu : X.A.units + 64 < cLine) : CallR X (.builtin "repr") (rRepr X.K) := by
  intro pins s σ H xs us Q I r h
  obtain ⟨a, d, rfl, hd, sh, nd, dep, sz, q⟩ := h
  obtain ⟨u, rfl, ru⟩ := vals1 r
  cases ru
  obtain ⟨as, rd⟩ := Dp.reads I d _ _ hd rfl
  exact repr_of_reads' (h₀ := s.heap) rd sh (PyData.noDict_hsm nd) hg (by omega) (fun _ _ e => e) (fun h' u tk hk => ⟨.str d.shown, H, I.kept hk, ⟨u, rfl⟩, q⟩) sz
end Kx

namespace Kx
open PySem PySem.Spec PyProof.Rows L2
section
variable {P : Program} {w : World} {K : PySem.W.Frag} {mg : Str → Option Value}
/-- a def's body, walked where one stands as the caller of a law stands: no repr is under way there -/
theorem run_at {bs : Heap} {k : Nat} {f : Addr} {nam qual : Str} {params : Arguments} {body : List Stmt} {scope : Scope} {dV kV doc pm cdv ct oc : Value} {an od : Option Addr} {osl : Array (Option Value)} {N ps : List Str} {A : Around} {outer : List Env} {s : Shared} {H : Hp} {args : Args} {us : List Value} {vs : List V} {Q : VK} {E : XK}
    (lk : K.lookup f = some ⟨oc, od, .func (PySem.W.fnOf nam qual params body scope dV kV doc pm an cdv ct), osl⟩)
    (hcd : PySem.W.codeIn K cdv qual = true) (S : FnScope N ps scope) (hl : vs.length = ps.length) (room : Room (k + 1) A) (env0 : Env0 P w K mg bs A outer s H)
    (bind : BindsTo s (PySem.W.fnOf nam qual params body scope dV kV doc pm an cdv ct) args (ps.zip us)) (rv : Vals vs us)
    (walk : Room k (A.deeper (envOfC qual scope s.heap.objs.size f cdv)) → ∃ t, PSs (cxOf CX0 P w K mg bs N qual scope f cdv A outer s H E) body t ∧ t { nx := fun _ H' => Q .non H', rt := Q } (start N vs) H) :
    codeAny (model P w) A (.call (.ref f) args) (CR CX0 outer P w H s Q E) s := by
  have keep := fun b o (e : bs.get? b = some o) => (env0.bs b o e).1
  have inK : K.In s.heap := env0.mod.kin.keeps keep
  have noL : s.heap.NoLimit := env0.mod.nolimit.keeps keep
  refine codeAny_call_function room.depth (inK _ _ lk) rfl S.co S.gen rfl (PySem.W.codeRec_of inK hcd) (bind _ _ _ _ ?_)
  refine wpAny_newFunctionEnv_cells S.kind (fun p hp => ?_) fun env same s1 made => ?_
  · rcases S.par p.1 (List.of_mem_zip (a := p.1) (b := p.2) hp).1 with z | z
    · exact .inl z
    · exact .inr ⟨z, PySem.W.cellsFrom_some _ _ _ (.inl z)⟩
  subst same
  refine ⟨noL.keeps made.toInCall.keep, codeAny_func ?_⟩
  obtain ⟨t, dv, rd⟩ := walk (room.deeper _)
  have J := inv_start (CX := CX0) (E := E) S room.hd env0 hl rv made
  refine wpAny_mono (dv.run [] s1 (start N vs) H _ J rd) (fun fl s2 out => ?_) fun _ _ z => z
  cases fl with
  | ret u =>
    obtain ⟨v, σ2, H2, J2, r2, q2⟩ := out
    exact ⟨v, H2, J2.os, J2.bare, J2.base, J2.hok, r2, q2⟩
  | next =>
    obtain ⟨σ2, H2, J2, q2⟩ := out
    exact ⟨.non, H2, J2.os, J2.bare, J2.base, J2.hok, rfl, q2⟩
  | brk =>
    obtain ⟨_, _, _, z⟩ := out
    exact z.elim
  | cont =>
    obtain ⟨_, _, _, z⟩ := out
    exact z.elim
end
end Kx

set_option autoImplicit false
namespace J
open PySem PySem.Spec PyProof.Rows L2
variable {K : PySem.W.Frag} {P : Program} {w : World} {X : Cx}
/-! what the top holds -/
def OkC (K : PySem.W.Frag) (mg : Str → Option Value) (x : Str) (d : D) : Prop := ∃ (v : V) (u : Value), mg x = some u ∧ RelV v u ∧ ∀ H μ, Rv K H μ v d
def DnF (K : PySem.W.Frag) (mg : Str → Option Value) (x : Str) (st : Stmt) (ps : List Str) : Prop := ∃ (f : Addr) (fd : FuncData), Fun K x x st f fd ∧ Binds K fd ps [] ∧ mg x = some (.ref f)
def DnK (K : PySem.W.Frag) (mg : Str → Option Value) (x : Str) (st : Stmt) (ps : List Str) (i : Nat) : Prop := ∃ (f : Addr) (fd : FuncData), Fun K x x st f fd ∧ KBn K fd ps i [("base" : Str)] (fun us ws => us ++ ws) (fun vs zs => vs ++ zs) ∧ (∃ ds, Vals [.int 3] ds ∧ Binds K fd ps ds) ∧ mg x = some (.ref f)
/-- the law's end -/
theorem ints_rv {H : Hp} {μ : Mp} : ∀ ns : List Int, RvAll K H μ (ns.map V.int) (ns.map D.int)
  | [] => .nil
  | n :: ns => .cons (.int n) (ints_rv ns)
theorem law_end {N : List Str} {body : List Stmt} {b : FS} {a : Addr} {ns : List Int} {H : Hp} {md : Md} (h : JSs X.nox body b) (sq : SqL X.K H a (ns.map V.int)) (hF : ∃ S', runD md N.length b [.scr (ns.map .int)] [] = some (.bl true, S')) :
    ∃ t, PSs X body t ∧ t { nx := fun _ H' => (fun (v : V) (_ : Hp) => v = .bl true) .non H', rt := fun v _ => v = .bl true } (L2.start N [.ref a]) H := by
  obtain ⟨t, p, q⟩ := h
  refine ⟨t, p.nox, ?_⟩
  obtain ⟨S', hf⟩ := hF
  have hr : HR X.prog X.w X.K H ⟨[], []⟩ [] := ⟨rfl, List.nodup_nil, fun k a o hk => by simp at hk, fun a ha => (by cases ha), fun a ha => (by cases ha), fun a ha => (by cases ha)⟩
  have rs : RvAll X.K H ⟨[], []⟩ [.ref a] [.scr (ns.map .int)] := .cons (.scr (sq.imp (fun z => ⟨z, by simp, by simp⟩) id) (ints_rv ns)) .nil
  unfold runD at hf
  split at hf
  · rename_i d1 env1 S1 e1
    refine q (L2.start N [.ref a]) H ⟨[], []⟩ _ [] _ env1 S1 _ hr (start_er rs) e1 fun σ' H' μ' l hR' er' v rv => ?_
    obtain ⟨μ2, l2, h2, r2⟩ := gc_ok hr l hR' rv hf
    cases r2
    rfl
  · rename_i env1 S1 e1
    refine q (L2.start N [.ref a]) H ⟨[], []⟩ _ [] _ env1 S1 _ hr (start_er rs) e1 fun σ' H' μ' l hR' er' => ?_
    obtain ⟨μ2, l2, h2, r2⟩ := gc_ok hr l hR' .non hf
    cases r2
  · cases hf
/-! repr of data -/
def gRepr : Fn := fun ds S => match ds with
  | [d] => match d.pyS S with
    | some p => match p with
      | .tuple _ => if (p.showable && !p.hasDict && decide (p.depth ≤ 60) && decide (p.shown.length ≤ sizeLine)) = true then some (.str p.shown, S) else none
      | .list _ => if (p.showable && !p.hasDict && decide (p.depth ≤ 60) && decide (p.shown.length ≤ sizeLine)) = true then some (.str p.shown, S) else none
      | _ => none
    | none => none
  | _ => none
end J

set_option autoImplicit false
namespace J
open PySem PySem.Spec PyProof.Rows L2
variable {K : PySem.W.Frag} {P : Program} {w : World} {X : Cx}
/-! x.reverse() -/
def gRvM : GM := fun a ds S => match a, ds with
  | .obj k, [] => match S[k]? with
    | some (.lst es) => some (.non, S.set k (.lst es.reverse))
    | _ => none
  | _, _ => none
/-! repr -/
theorem cr_reprJ (hg : X.A.guards = some []) (hu : X.A.units + 64 < cLine) : CallR X (.builtin "repr") (Kx.rRepr X.K) := Kx.cr_repr hg hu
theorem dp_ref {H : Hp} {v : V} {p : PyData} (h : Dp K H v p) (c : (∃ ps, p = .tuple ps) ∨ ∃ ps, p = .list ps) : ∃ a, v = .ref a := by
  rcases c with ⟨ps, rfl⟩ | ⟨ps, rfl⟩
  · cases h; exact ⟨_, rfl⟩
  · cases h; exact ⟨_, rfl⟩
theorem rc_repr : RC P w K (Kx.rRepr K) gRepr := by
  intro H μ S xs ds d S' Q hr rs e k
  unfold gRepr at e
  split at e
  · rename_i d1
    obtain ⟨x, rfl, rx⟩ := rs.one
    split at e
    · rename_i p hp
      have dp := rx.dpS hr hp
      split at e
      · rename_i ps
        split at e
        · rename_i c
          cases e
          obtain ⟨a, rfl⟩ := dp_ref dp (.inl ⟨_, rfl⟩)
          simp only [Bool.and_eq_true, decide_eq_true_eq, Bool.not_eq_true'] at c
          exact ⟨a, _, rfl, dp, c.1.1.1, c.1.1.2, c.1.2, c.2, k _ H μ (.refl _ _) hr (.str _)⟩
        · cases e
      · rename_i ps
        split at e
        · rename_i c
          cases e
          obtain ⟨a, rfl⟩ := dp_ref dp (.inr ⟨_, rfl⟩)
          simp only [Bool.and_eq_true, decide_eq_true_eq, Bool.not_eq_true'] at c
          exact ⟨a, _, rfl, dp, c.1.1.1, c.1.1.2, c.1.2, c.2, k _ H μ (.refl _ _) hr (.str _)⟩
        · cases e
      · cases e
    · cases e
  · cases e
/-! walking a list that may change, where it doesn't -/
def ItP (P : Program) (w : World) (K : PySem.W.Frag) (T : It) (ds : List D) (k0 : Nat) (μ0 : Mp) (H0 : Hp) : Prop := ∀ (μ : Mp) (H : Hp), Later μ0 H0 μ H → ∀ S, HR P w K H μ S → S[k0]? = some (.lst ds) →
  ((∀ i, i < ds.length → T.go i H) ∧ T.stop ds.length H) ∧ ∀ (i : Nat) (x : V) (H' : Hp) (d : D), ds[i]? = some d → T.yld i H x H' → Later μ H μ H' ∧ HR P w K H' μ S ∧ Rv K H' μ x d
theorem itp_lst {H0 : Hp} {μ0 : Mp} {a : Addr} {ds : List D} {k0 : Nat} (ha : μ0.m[k0]? = some a) : ItP P w K (Itl K a) ds k0 μ0 H0 := by
  intro μ H l S hr hk
  obtain ⟨e, he⟩ := l.ext
  have ha' : μ.m[k0]? = some a := by rw [he, List.getElem?_append_left (List.getElem?_eq_some_iff.mp ha).1]; exact ha
  obtain ⟨xs, hx, hd⟩ := hr.ok k0 a _ ha' hk
  have hs : SqL K H a xs := .inl (.inl hx)
  have W := walk_list (K := K) (a := a) (xs := xs)
  have hl := hd.length
  refine ⟨⟨fun i hi => W.goes i H (by omega) hs, by rw [← hl]; exact W.stops H hs⟩, fun i x H' d h1 y => ?_⟩
  have hi : i < xs.length := by rw [hl]; exact (List.getElem?_eq_some_iff.mp h1).1
  obtain ⟨rfl, hy⟩ := W.yields i H x H' hi hs y
  exact ⟨.refl _ _, hr, hd.at hy h1⟩
def QIO (X : Cx) (wi : TI) (fo : FE) : Prop := ∀ (σ : L2.St) (H : Hp) (μ : Mp) (env : Env) (S : Sto) (k0 : Nat) (ds : List D) (S' : Sto) (R : It → Hp → Prop), HR X.prog X.w X.K H μ S → ER X.K H μ σ env → fo env S = some (.obj k0, S') → S'[k0]? = some (.lst ds) →
  (∀ T H' μ', Later μ H μ' H' → HR X.prog X.w X.K H' μ' S' → ItP X.prog X.w X.K T ds k0 μ' H' → R T H') → wi σ H R
def JIO (X : Cx) (tg iter : Expr) (fo : FE) : Prop := ∃ wi, PI X tg iter wi ∧ QIO X wi fo
theorem jio_seq {tg e : Expr} {f : FE} (h : JE X e f) : JIO X tg e f := by
  obtain ⟨t, p, q⟩ := h
  refine ⟨_, pi_list p, fun σ H μ env S k0 ds S' R hr er hf hk k => ?_⟩
  refine q σ H μ env S _ S' _ hr er hf fun v H1 μ1 l hr1 r => ?_
  obtain ⟨a, rfl, ha, xs, hx, hd⟩ := hr1.at r hk
  exact ⟨_, rfl, ⟨_, .inl (.inl hx)⟩, k _ H1 μ1 l hr1 (itp_lst ha)⟩
open Classical in
noncomputable def fLcLO (k0 : Nat) (es : List D) (g : FG) (ft : FT) (fe : FE) (env : Env) : List D → Sto → Option (List D × Sto)
  | [], S => if S[k0]? = some (.lst es) then some ([], S) else none
  | d :: ds, S => if S[k0]? = some (.lst es) then (match g d env S with
    | none => none
    | some (env1, S1) => match ft env1 S1 with
      | none => none
      | some (false, S2) => fLcLO k0 es g ft fe env ds S2
      | some (true, S2) => match fe env1 S2 with
        | none => none
        | some (y, S3) => match fLcLO k0 es g ft fe env ds S3 with
          | none => none
          | some (ys, S4) => some (y :: ys, S4)) else none
noncomputable def fLcO (own : List Nat) (fo : FE) (g : FG) (ft : FT) (fe : FE) : FE := fun env S => match fo env S with
  | some (.obj k0, S1) => (match S1[k0]? with
    | some (.lst ds) => if ds.length ≤ 100000 then (match fLcLO k0 ds g ft fe (wipeD env own) ds S1 with
      | some (ys, S2) => some (.lst ys, S2)
      | none => none) else none
    | _ => none)
  | _ => none
end J

set_option autoImplicit false
namespace J
open PySem PySem.Spec PyProof.Rows L2
variable {K : PySem.W.Frag} {P : Program} {w : World} {X : Cx}
/-! slices -/
abbrev FO := Env → Sto → Option (Option Int × Sto)
def JO (X : Cx) (e : Option Expr) (f : FO) : Prop := ∃ t : TO, PO X e t ∧ ∀ (σ : L2.St) (H : Hp) (μ : Mp) (env : Env) (S : Sto) (o : Option Int) (S' : Sto) (Q : Option Int → Hp → Prop), HR X.prog X.w X.K H μ S → ER X.K H μ σ env → f env S = some (o, S') →
  (∀ H' μ', Later μ H μ' H' → HR X.prog X.w X.K H' μ' S' → Q o H') → t σ H Q
def foNone : FO := fun _ S => some (none, S)
def foSome (f : FE) : FO := fun env S => match f env S with
  | some (.int i, S1) => some (some i, S1)
  | _ => none
def cutD (ds : List D) (lo hi : Option Int) : List D := (ds.drop (HT.sIx ds.length 0 lo)).take (HT.sIx ds.length ds.length hi - HT.sIx ds.length 0 lo)
def gCut (d : D) (lo hi : Option Int) (S : Sto) : Option (D × Sto) := match d with
  | .tup ds => some (.tup (cutD ds lo hi), S)
  | d => match d.lsS S with
    | some ds => some (.lst (cutD ds lo hi), S)
    | none => none
def fSlice (f : FE) (fl fh : FO) : FE := fun env S => match f env S with
  | some (d, S1) => match fl env S1 with
    | some (lo, S2) => match fh env S2 with
      | some (hi, S3) => gCut d lo hi S3
      | none => none
    | none => none
  | none => none
/-- {k: v, ..}.get(e, f) -/
def fDispGet (ns : List Str) (fv : FA) (fk fx : FE) : FE := fun env S => match fv env S with
  | some (ds, S1) => match fk env S1 with
    | some (.str x, S2) => match fx env S2 with
      | some (z, S3) => some ((valKD (mergeKD [] (kvN ns ds)) (Sum.inr x)).getD z, S3)
      | none => none
    | _ => none
  | none => none
end J

/-! enumerate(zip(t, u)) of two tuples, whose pairs are kept -/
namespace Kx
open PySem PySem.Spec PyProof.Rows L2 RZ
open PySem.Sem (wp)
/-- a zip, whatever has become of its last tuple -/
def ZipF (h : Heap) (z TI TO : Addr) : Prop := ∃ (f0 : Value) (f : Bool), h.get? z = some { cls := .type "zip", dict := none, data := .fields #[f0, .bool f, .bool false, .ref TI, .ref TO], slots := #[] } ∧ (f0 = .none ∨ ∃ T : Addr, f0 = rawInt T)
section
variable {prog : Program} {w : World} {A : Around} {E : Value → Shared → Prop} {s : Shared}
theorem ZipF.ext {h h' : Heap} {z TI TO : Addr} (hz : ZipF h z TI TO) (k : ∀ o, h.get? z = some o → h'.get? z = some o) : ZipF h' z TI TO := let ⟨f0, f, e, q⟩ := hz; ⟨f0, f, k _ e, q⟩
end
/-- enumerate(zip(t, u)): each pair in a new pair -/
def IteZ (K : PySem.W.Frag) (a b : Addr) : It :=
  ⟨fun i H => ∃ (xs ys : List V) (x y : V), SqT K H a xs ∧ SqT K H b ys ∧ xs[i]? = some x ∧ ys[i]? = some y,
    fun i H v H' => ∃ T U x y, v = .ref U ∧ H T = none ∧ H U = none ∧ U ≠ T ∧ H' = upd (upd H T (.tup [x, y])) U (.tup [.int (i : Nat), .ref T]) ∧ (∀ xs, SqT K H a xs → xs[i]? = some x) ∧ ∀ ys, SqT K H b ys → ys[i]? = some y,
    fun i H => ∃ xs ys : List V, SqT K H a xs ∧ SqT K H b ys ∧ (xs.length ≤ i ∨ ys.length ≤ i)⟩
def iEnumZ (K : PySem.W.Frag) (ta : TA) : TI := fun σ H R => ta σ H fun vs H1 => ∃ a b xs ys, vs = [.ref a, .ref b] ∧ SqT K H1 a xs ∧ SqT K H1 b ys ∧ R (IteZ K a b) H1
end Kx

set_option autoImplicit false
namespace J
open PySem PySem.Spec PyProof.Rows L2
variable {K : PySem.W.Frag} {P : Program} {w : World} {X : Cx}
/-! x in a list or tuple of data -/
def rInP (K : PySem.W.Frag) (neg : Bool) : R2 := fun x y H Q => ∃ p ps, Dp K H x p ∧ (Dp K H y (.list ps) ∨ Dp K H y (.tuple ps)) ∧ PyData.canLayAll0 ps = true ∧ p.canLay0 = true ∧ p.depth ≤ 60 ∧ Q (.bl (neg ^^ ps.any fun q => PyData.eqv q p)) H
def gInP (neg : Bool) : G2 := fun a b S => match a.pyS S, b.pyS S with
  | some p, some (.list ps) => if (PyData.canLayAll0 ps && p.canLay0 && decide (p.depth ≤ 60)) = true then some (.bl (neg ^^ ps.any fun q => PyData.eqv q p), S) else none
  | some p, some (.tuple ps) => if (PyData.canLayAll0 ps && p.canLay0 && decide (p.depth ≤ 60)) = true then some (.bl (neg ^^ ps.any fun q => PyData.eqv q p), S) else none
  | _, _ => none
/-! repr of None, of an int, of data -/
def gReprA : Fn := fun ds S => match ds with
  | [.non] => some (.str "None", S)
  | [.int i] => if i.natAbs < 2 ^ 1000 then some (.str (toString i), S) else none
  | ds => gRepr ds S
def rReprA (K : PySem.W.Frag) : List V → Hp → VK → Prop := fun xs H Q => ((xs = [.non] ∧ Q (.str "None") H) ∨ ∃ i, xs = [.int i] ∧ i.natAbs.log2 < 1920 ∧ Q (.str (toString i)) H) ∨ Kx.rRepr K xs H Q
theorem cr_reprA (hg : X.A.guards = some []) (hu : X.A.units + 64 < cLine) : CallR X (.builtin "repr") (rReprA X.K) := by
  intro pins s σ H xs us Q I r h
  rcases h with (⟨rfl, q⟩ | h) | h
  · obtain ⟨u, rfl, ru⟩ := vals1 r
    cases ru
    exact call_repr_gives (T := "NoneType") (id := "NoneType.__repr__") rfl F.slot_NoneType_repr F.entry_NoneType_repr (F.args_NoneType_repr_1 _) gives_none_repr ⟨.str "None", H, I.tok _, ⟨_, rfl⟩, q⟩
  · exact SkE.call_repr_int pins s σ H xs us Q I r h
  · exact cr_reprJ hg hu pins s σ H xs us Q I r h
theorem log2_of {n : Nat} (h : n < 2 ^ 1000) : n.log2 < 1920 := by
  by_cases z : n = 0
  · subst z; decide
  · exact Nat.lt_of_lt_of_le ((Nat.log2_lt z).mpr h) (by decide)
theorem rc_reprA : RC P w K (rReprA K) gReprA := by
  intro H μ S xs ds d S' Q hr rs e k
  unfold gReprA at e
  split at e
  · cases e
    obtain ⟨x, rfl, rx⟩ := rs.one
    cases rx
    exact .inl (.inl ⟨rfl, k _ H μ (.refl _ _) hr (.str _)⟩)
  · split at e
    · rename_i c
      cases e
      obtain ⟨x, rfl, rx⟩ := rs.one
      cases rx
      exact .inl (.inr ⟨_, rfl, log2_of c, k _ H μ (.refl _ _) hr (.str _)⟩)
    · cases e
  · exact .inr (rc_repr H μ S xs ds d S' Q hr rs e k)
/-! int(b) -/
def gInt1 : Fn := fun ds S => match ds with
  | [.bl b] => some (.int (if b then 1 else 0), S)
  | [.int i] => some (.int i, S)
  | _ => none
/-! xs[::-1] -/
def gRevV : D → Sto → Option (D × Sto) := fun d S => match d.lsS S with
  | some ds => some (.lst ds.reverse, S)
  | none => none
def gRevN : D → Sto → Option (D × Sto) := fun d S => match d.lsS S with
  | some ds => some (.obj S.length, S ++ [.lst ds.reverse])
  | none => none
/-! enumerate(zip(t, u)), zip(t, u) -/
def ezD (xs ys : List D) : List D := (xs.zip ys).mapIdx fun i p => .tup [.int (i : Int), .tup [p.1, p.2]]
def fEnumZ (g : FA) : FA := fun env S => match g env S with
  | some ([.tup xs, .tup ys], S1) => some (ezD xs ys, S1)
  | _ => none
def zpD (xs ys : List D) : List D := (xs.zip ys).map fun p => .tup [p.1, p.2]
def fZip (g : FA) : FA := fun env S => match g env S with
  | some ([.tup xs, .tup ys], S1) => some (zpD xs ys, S1)
  | _ => none
/-! {k: v} with a tuple as its key -/
def tDispE1 (P : Program) (w : World) (K : PySem.W.Frag) (tk tv : TE) : TE := fun σ H Q => ∀ p, H p = none → tPairs [(tk, tv)] σ (upd H p (DictE P w p [])) fun ps H2 => H2 p = some (DictE P w p []) ∧ ∃ b k y, ps = [(.ref b, y)] ∧ KeyV K H2 (.ref b) k ∧ k.depth ≤ 8 ∧ Q (.ref p) (upd H2 p (DictE P w p [(k, b, y)]))
def fDisp1 (fk fv : FE) : FE := fun env S => match fk env S with
  | some (k, S1) => match fv env S1 with
    | some (v, S2) => match k.tkey with
      | some q => some (.obj S2.length, S2 ++ [.dct [(q, k, v)]])
      | none => none
    | none => none
  | none => none
end J

set_option autoImplicit false
namespace J
open PySem PySem.Spec PyProof.Rows L2
variable {K : PySem.W.Frag} {P : Program} {w : World} {X : Cx}
/-! a dict of the module, told by its entries: text keys -/
inductive EntR (K : PySem.W.Frag) : List DictEntry → List (Str × D) → Prop
  | nil : EntR K [] []
  | cons {e : DictEntry} {es : List DictEntry} {x : Str} {t : Tok} {v : V} {d : D} {kvs : List (Str × D)} : e.key = .str x t → RelV v e.val → (∀ H μ, Rv K H μ v d) → EntR K es kvs → EntR K (e :: es) ((x, d) :: kvs)
def luC (kvs : List (Str × D)) (z : Str) : Option D := (kvs.find? fun p => p.1 == z).map (·.2)
theorem EntR.ref {es : List DictEntry} {kvs : List (Str × D)} (h : EntR K es kvs) : es.any (·.refKey) = false := by
  induction h with
  | nil => rfl
  | cons e1 _ _ _ ih => rw [List.any_cons, ih, Bool.or_false]; unfold DictEntry.refKey; rw [e1]
theorem isStr_beq (x z : Str) (t : Tok) : (Value.str x t).isStr z = (x == z) := by
  unfold Value.isStr
  rfl
theorem EntR.find {es : List DictEntry} {kvs : List (Str × D)} (h : EntR K es kvs) (z : Str) : (∃ e v d, es.find? (·.key.isStr z) = some e ∧ luC kvs z = some d ∧ RelV v e.val ∧ ∀ H μ, Rv K H μ v d) ∨ (es.find? (·.key.isStr z) = none ∧ luC kvs z = none) := by
  induction h with
  | nil => exact .inr ⟨rfl, rfl⟩
  | @cons e es x t v d kvs e1 r rv _ ih =>
    unfold luC
    rw [List.find?_cons, List.find?_cons, e1, isStr_beq]
    cases c : x == z with
    | true => exact .inl ⟨e, v, d, rfl, rfl, r, rv⟩
    | false => exact ih
structure OkD (K : PySem.W.Frag) (w : World) (mg : Str → Option Value) (x : Str) (kvs : List (Str × D)) : Prop where
  ex : ∃ (p : Addr) (es : Array DictEntry) (n : Nat), mg x = some (.ref p) ∧ K.lookup p = some ⟨.type "dict", none, .dict es n, #[]⟩ ∧ PySem.W.KeysLit w.params es.toList ∧ (p == sysModules) = false ∧ EntR K es.toList kvs
/-- z in CONST -/
def fInC (neg : Bool) (kvs : List (Str × D)) (f : FE) : FE := fun env S => match f env S with
  | some (.str z, S1) => some (.bl (neg ^^ (luC kvs z).isSome), S1)
  | _ => none
def rInC (K : PySem.W.Frag) (p : Addr) (neg : Bool) : R2 := fun x y H Q => y = .ref p ∧ ∃ z r, x = .str z ∧ PySem.W.nsIn K p z = some r ∧ Q (.bl (neg ^^ r.isSome)) H
/-- CONST[z] -/
def fIxC (kvs : List (Str × D)) (f : FE) : FE := fun env S => match f env S with
  | some (.str z, S1) => match luC kvs z with
    | some d => some (d, S1)
    | none => none
  | _ => none
end J

set_option autoImplicit false
namespace J
open PySem PySem.Spec PyProof.Rows L2
section

end
section
variable {X : Cx} {K : PySem.W.Frag} {P : Program} {w : World}
def rExtT (K : PySem.W.Frag) : V → List V → Hp → VK → Prop := fun x vs H Q => ∃ l b xs zs, x = .ref l ∧ vs = [.ref b] ∧ H l = some (.lst xs) ∧ SqT K H b zs ∧ xs.length + zs.length ≤ sizeLine ∧ Q .non (upd H l (.lst (xs ++ zs)))
/-- xs.extend(t), by values -/
def gExtT : GM := fun a ds S => match a, ds with
  | .obj k, [.tup bs] => match S[k]? with
    | some (.lst es) => if es.length + bs.length ≤ 100000 then some (.non, S.set k (.lst (es ++ bs))) else none
    | _ => none
  | _, _ => none
end
end J

set_option autoImplicit false
namespace J
open PySem PySem.Spec PyProof.Rows L2
variable {K : PySem.W.Frag} {P : Program} {w : World} {X : Cx}
/-! defs that may raise -/
abbrev Xv := Str × List (Str × D)
abbrev FnX := List D → Sto → Option (Xv × Sto)
abbrev FX := J.Env → Sto → Option (Xv × Sto)
def spX (P : Program) (w : World) (K : PySem.W.Frag) (mg : Str → Option Value) (n : Nat) (F : Fn) (G : FnX) : Sp := fun vs H Q E => ∃ (μ : Mp) (S : Sto) (ds : List D), vs.length = n ∧ HR P w K H μ S ∧ RvAll K H μ vs ds ∧
  ((∃ d S', F ds S = some (d, S') ∧ ∀ v H' μ', Later μ H μ' H' → HR P w K H' μ' S' → Rv K H' μ' v d → Q v H') ∨
    ∃ x fs S', G ds S = some ((x, fs), S') ∧ ∀ cls d H' μ', mg x = some cls → Later μ H μ' H' → HR P w K H' μ' S' → XdR K H' μ' d fs → E cls d H')
open Classical in
noncomputable def runX (n : Nat) (b : FS) : FnX := fun ds S => match b (startD n ds) S with
  | some (.xc x fs, _, S') => if Keeps S S' ∧ (fs.all fun p => D.und 0 p.2) = true then some ((x, fs), S'.take S.length) else none
  | _ => none
theorem all_und_mono {n : Nat} : ∀ {fs : List (Str × D)}, (fs.all fun p => D.und 0 p.2) = true → (fs.all fun p => D.und n p.2) = true
  | [], _ => rfl
  | p :: fs, h => by
    rw [List.all_cons, Bool.and_eq_true] at h ⊢
    exact ⟨D.und_mono (Nat.zero_le _) h.1, all_und_mono h.2⟩
theorem XdR.short {H : Hp} {μ ν : Mp} {n : Nat} {d : Option Addr} {fs : List (Str × D)} (s : Short n μ ν) (h : XdR K H μ d fs) (u : (fs.all fun p => D.und 0 p.2) = true) : XdR K H ν d fs := by
  rcases h with h | ⟨a, gs, e1, e2, e3, e4⟩
  · exact .inl h
  · exact .inr ⟨a, gs, e1, e2, s.out e3, e4.short s (all_und_mono u)⟩
/-- where it raises nothing -/
theorem spX_calm {mg : Str → Option Value} {base : Heap} {f : Addr} {fd : FuncData} {ps : List Str} {k n : Nat} {F : Fn} {G : FnX} (h : FnOk P w K mg base (L2N.CX P w) k f fd ps (spX P w K mg n F G)) : FnOk P w K mg base CX0 k f fd ps (spJ P w K n F) := by
  refine ⟨fun vs H Q E q => ?_, fun A outer s H args us vs Q E hr h0 hb hv q => ?_⟩
  · obtain ⟨μ, S, ds, d, S', hl, hR, r, hf, q⟩ := q
    exact h.len vs H Q (fun _ _ _ => False) ⟨μ, S, ds, hl, hR, r, .inl ⟨d, S', hf, q⟩⟩
  · obtain ⟨μ, S, ds, d, S', hl, hR, r, hf, q⟩ := q
    refine codeAny_mono (h.run A outer s H args us vs Q (fun _ _ _ => False) hr h0 hb hv ⟨μ, S, ds, hl, hR, r, .inl ⟨d, S', hf, q⟩⟩) fun r s' z => ?_
    cases r with
    | error e =>
      obtain ⟨_, _, _, _, _, _, _, _, _, _, _, _, z⟩ := z
      exact z.elim
    | ok fl => cases fl <;> exact z
/-! an expression that raises -/
def JX (X : Cx) (e : Expr) (g : FX) : Prop := ∃ t : TE, PE X e t ∧ ∀ (σ : L2.St) (H : Hp) (μ : Mp) (env : J.Env) (S : Sto) (x : Str) (fs : List (Str × D)) (S' : Sto) (Q : VK), HR X.prog X.w X.K H μ S → ER X.K H μ σ env → g env S = some ((x, fs), S') →
  (∀ cls d H' μ', X.mg x = some cls → Later μ H μ' H' → HR X.prog X.w X.K H' μ' S' → XdR X.K H' μ' d fs → WM X cls d σ H') → t σ H Q
def JXA (X : Cx) (es : List Expr) (g : FX) : Prop := ∃ t : TA, PA X es t ∧ ∀ (σ : L2.St) (H : Hp) (μ : Mp) (env : J.Env) (S : Sto) (x : Str) (fs : List (Str × D)) (S' : Sto) (Q : List V → Hp → Prop), HR X.prog X.w X.K H μ S → ER X.K H μ σ env → g env S = some ((x, fs), S') →
  (∀ cls d H' μ', X.mg x = some cls → Later μ H μ' H' → HR X.prog X.w X.K H' μ' S' → XdR X.K H' μ' d fs → WM X cls d σ H') → t σ H Q
def gxTl (f : FE) (g : FX) : FX := fun env S => match f env S with
  | some (_, S1) => g env S1
  | none => none
/-! calls whose arguments raise -/
/-! calls that raise -/
def OkFX (P : Program) (w : World) (K : PySem.W.Frag) (mg : Str → Option Value) (base : Heap) (x : Str) (n : Nat) (F : Fn) (G : FnX) (k : Nat) : Prop :=
  ∃ (f : Addr) (fd : FuncData) (ps : List Str), mg x = some (.ref f) ∧ PySem.W.keepIn K (.ref f) = true ∧ Binds K fd ps [] ∧ FnOk P w K mg base (L2N.CX P w) k f fd ps (spX P w K mg n F G)
def OkKX (P : Program) (w : World) (K : PySem.W.Frag) (mg : Str → Option Value) (base : Heap) (x : Str) (i n : Nat) (F : Fn) (G : FnX) (k : Nat) : Prop :=
  ∃ (f : Addr) (fd : FuncData) (ps : List Str), mg x = some (.ref f) ∧ PySem.W.keepIn K (.ref f) = true ∧ KBn K fd ps i [("base" : Str)] (fun us ws => us ++ ws) (fun vs zs => vs ++ zs) ∧ (∃ ds, Vals [.int 3] ds ∧ Binds K fd ps ds) ∧ FnOk P w K mg base (L2N.CX P w) k f fd ps (spX P w K mg n F G)
theorem OkFX.calm {mg : Str → Option Value} {base : Heap} {x : Str} {n k : Nat} {F : Fn} {G : FnX} (h : OkFX P w K mg base x n F G k) : OkF P w K mg base x n F k := let ⟨f, fd, ps, h1, h2, h3, h4⟩ := h; ⟨f, fd, ps, h1, h2, h3, spX_calm h4⟩
theorem OkKX.calm {mg : Str → Option Value} {base : Heap} {x : Str} {i n k : Nat} {F : Fn} {G : FnX} (h : OkKX P w K mg base x i n F G k) : OkK P w K mg base x i n F k := let ⟨f, fd, ps, h1, h2, h3, h5, h4⟩ := h; ⟨f, fd, ps, h1, h2, h3, h5, spX_calm h4⟩
def gCall (n : Nat) (G : FnX) (g : FA) (dd : List D) : FX := fun env S => match g env S with
  | some (ds, S1) => if (ds ++ dd).length = n then G (ds ++ dd) S1 else none
  | none => none
def gCallN (n i j : Nat) (G : FnX) (h : List D → List D → List D) (g gk : FA) : FX := fun env S => match g env S with
  | some (ds, S1) => match gk env S1 with
    | some (es, S2) => if ds.length = i ∧ es.length = j ∧ (h ds es).length = n then G (h ds es) S2 else none
    | none => none
  | none => none
/-- keywords, and what is raised is wished for at the slots -/
def tCallNS (n m : Nat) (sp : Sp) (gV : List V → List V → List V) (E : L2.St → XK) (t tk : TA) : TE := fun σ H Q => t σ H fun vs H1 => tk σ H1 fun zs H2 => vs.length = n ∧ zs.length = m ∧ sp (gV vs zs) H2 Q (E σ)
/-! statements -/
def fRaise (x : Str) (f : Str) (fe : FE) : FS := fun env S => match fe env S with
  | some (d, S1) => some (.xc x [(f, d)], env, S1)
  | none => none
def fDropX (f : FE) (g : FX) : FS := fun env S => match f env S with
  | some (_, S1) => some (.nx, env, S1)
  | none => match g env S with
    | some ((x, fs), S1) => some (.xc x fs, env, S1)
    | none => none
def fRetX (f : FE) (g : FX) : FS := fun env S => match f env S with
  | some (d, S1) => some (.rt d, env, S1)
  | none => match g env S with
    | some ((x, fs), S1) => some (.xc x fs, env, S1)
    | none => none
/-! an except suite: what it may know of the exception -/
def JU (X : Cx) (a : Addr) (cls : Value) (d : Option Addr) (i : Nat) (e : Expr) (f : List (Str × D) → FE) : Prop := ∃ t : TE, PE X e t ∧ ∀ (σ : L2.St) (H : Hp) (μ : Mp) (env : J.Env) (S : Sto) (fs : List (Str × D)) (dv : D) (S' : Sto) (Q : VK), HR X.prog X.w X.K H μ S → ER X.K H μ σ env →
  σ[i]? = some (some (.ref a)) → XdR X.K H μ d fs → f fs env S = some (dv, S') → (∀ v H' μ', Later μ H μ' H' → HR X.prog X.w X.K H' μ' S' → Rv X.K H' μ' v dv → Q v H') → t σ H Q
/-- a suite's block -/
def JUs (X : Cx) (a : Addr) (cls : Value) (d : Option Addr) (i : Nat) (st : List Stmt) (f : List (Str × D) → FS) : Prop := ∃ t : TS, PSs X st t ∧ ∀ (σ : L2.St) (H : Hp) (μ : Mp) (env : J.Env) (S : Sto) (fs : List (Str × D)) (fl : Fl) (env' : J.Env) (S' : Sto) (E : Ends), HR X.prog X.w X.K H μ S → ER X.K H μ σ env →
  σ[i]? = some (some (.ref a)) → XdR X.K H μ d fs → f fs env S = some (fl, env', S') → (∀ σ' H' μ', Later μ H μ' H' → HR X.prog X.w X.K H' μ' S' → ER X.K H' μ' σ' env' → Done X E fl σ' H' μ') → t E σ H
/-! try: body, except x as n: suite, whose suite returns -/
def fTry (i : Nat) (x : Str) (b : FS) (s : List (Str × D) → FS) : FS := fun env S => match b env S with
  | some (.xc y fs, env1, S1) => if y = x ∧ i < env1.length then (match s fs (env1.set i none) S1 with
      | some (.rt d, env2, S2) => some (.rt d, env2, S2)
      | _ => none) else none
  | r => r
/-- try: body, except x: suite, whose suite returns -/
def fTryO (x : Str) (b : FS) (s : FS) : FS := fun env S => match b env S with
  | some (.xc y fs, env1, S1) => if y = x then (match s env1 S1 with
      | some (.rt d, env2, S2) => some (.rt d, env2, S2)
      | _ => none) else none
  | r => r
end J

namespace Kx
open PySem PySem.Spec PyProof.Rows L2
abbrev E3 (elt t0 i0 t1 i1 t2 i2 : Expr) (sc : Scope) (pos : Pos) : Expr := .ListComp elt [⟨t0, i0, [], 0⟩, ⟨t1, i1, [], 0⟩, ⟨t2, i2, [], 0⟩] sc pos
def midTurn (e : Expr) (d : Nat) (tg iter nxt : Expr) (it acc : Value) (env : Env) : Sem Fin := do
  standAt iter.pos
  match ← pyNext it with
  | none => pure (.done .next)
  | some v =>
    letOwnedTupleGo tg it v
    assign tg env v
    let mut ok := true
    for c in ([] : List Expr) do
      if ok then ok ← isTrue c env (eval c env)
    if ok then
      let x ← eval nxt env
      standAt nxt.pos
      let x ← foldedSetIterable nxt env x
      let _ ← runOwn (.compStart e (d + 1) (← holding [x] (pyIter x)) acc env) env
    again (.compLoop e d it acc env)
def endTurn (e : Expr) (d : Nat) (tg iter elt : Expr) (it acc : Value) (env : Env) : Sem Fin := do
  standAt iter.pos
  match ← pyNext it with
  | none => pure (.done .next)
  | some v =>
    letOwnedTupleGo tg it v
    assign tg env v
    let mut ok := true
    for c in ([] : List Expr) do
      if ok then ok ← isTrue c env (eval c env)
    if ok then
      (do let _ ← call (.builtin "list.append") [acc, ← eval elt env])
    again (.compLoop e d it acc env)
section
variable {prog : Program} {w : World} {A : Around} {R : Result → Shared → Prop} {s : Shared} {elt t0 i0 t1 i1 t2 i2 : Expr} {sc : Scope} {pos : Pos} {it acc : Value} {env : Env}
abbrev No : Value → Shared → Prop := fun _ _ => False
theorem noF {α : Type} {t : Sem α} {Q Q' : α → Shared → Prop} {M : Model} {E : Value → Shared → Prop} (h : wpAny M A t Q No s) (hQ : ∀ a s, Q a s → Q' a s) : wpAny M A t Q' E s := wpAny_mono h hQ fun _ _ z => z.elim
end
end Kx

namespace Kx
open PySem PySem.Spec PyProof.Rows L2
abbrev Cl := L2.St → Hp → (Hp → Prop) → Prop
/-- a clause and those behind it, run within one turn of the clause ahead -/
structure PCl (Y : Cx) (e : Expr) (d : Nat) (iter : Expr) (D : Addr) (vs : List Nat) (t : Cl) : Prop where
  run : ∀ (pins : List (Addr × Obj)) (s : Shared) (σ : L2.St) (H : Hp) (Nx : Hp → Prop), Inv Y pins σ H s → t σ H Nx →
    wpAny (model Y.prog Y.w) Y.A (eval iter Y.env) (fun x s4 => wpAny (model Y.prog Y.w) Y.A (pyIter x) (fun j s5 =>
      codeAny (model Y.prog Y.w) Y.A (.compStart e d j (.ref D) Y.env) (fun r s' => match r with
        | .ok _ => ∃ H', Inv Y pins (wipe σ vs) H' s' ∧ Nx H'
        | .error _ => False) s5) No s4) No s
def tCl (wi : TI) (g : TG) (rest : Cl) (vs : List Nat) : Cl := fun σ H Nx => wi σ H fun J H1 => ∃ W : Nat → Nat → Hp → Prop, (∃ m, W 0 m H1) ∧ ∀ i m H, W i m H →
  (J.stop i H ∧ Nx H) ∨ (J.go i H ∧ ∃ N1 : Hp → Prop, (∀ H', N1 H' → ∃ m', m' < m ∧ W (i + 1) m' H') ∧ ∀ x H', J.yld i H x H' → g x (wipe σ vs) H' fun σ2 H2 => wipe σ2 vs = wipe σ vs ∧ rest σ2 H2 N1)
def tEmit (te : TE) (D : Addr) : Cl := fun σ H Nx => te σ H fun y H1 => ∃ acc, H1 D = some (.lst acc) ∧ acc.length < sizeLine ∧ Nx (upd H1 D (.lst (acc ++ [y])))
section
variable {Y : Cx} {elt t0 i0 t1 i1 t2 i2 : Expr} {sc : Scope} {pos : Pos}
theorem noX {α : Type} {t : Sem α} {Q Q' : α → Shared → Prop} {M : Model} {A : Around} {s : Shared} {E' : Value → Shared → Prop} (hxe : ∀ v s, Y.xe v s → False) (h : wpAny M A t Q Y.xe s) (hQ : ∀ a s, Q a s → Q' a s) : wpAny M A t Q' E' s := wpAny_mono h hQ fun _ _ z => (hxe _ _ z).elim
/-- slots known ahead of a turn are known behind it -/
theorem wipe_sub {σ σ2 : L2.St} {vs vs' : List Nat} (e : wipe σ2 vs = wipe σ vs) (sub : ∀ j ∈ vs', j ∈ vs) (j : Nat) (v : V) (h : (wipe σ vs)[j]? = some (some v)) : (wipe σ2 vs')[j]? = some (some v) := by
  rw [← e] at h
  obtain ⟨h1, h2⟩ := wipe_some h
  rw [wipe_out fun z => h2 (sub j z)]
  exact h1
end
end Kx

namespace Kx
open PySem PySem.Spec PyProof.Rows L2
/-- [elt for t0 in i0 for t1 in i1 for t2 in i2] -/
def tLc3 (wi : TI) (g : TG) (rest : Addr → Cl) (vs : List Nat) : TE := fun σ H Q => wi σ H fun J H1 => ∀ D, H1 D = none → ∃ W : Nat → Nat → Hp → Prop, (∃ m, W 0 m (upd H1 D (.lst []))) ∧ ∀ i m H, W i m H →
  (J.stop i H ∧ Q (.ref D) H) ∨ (J.go i H ∧ ∃ N1 : Hp → Prop, (∀ H', N1 H' → ∃ m', m' < m ∧ W (i + 1) m' H') ∧ ∀ x H', J.yld i H x H' → g x (wipe σ vs) H' fun σ2 H2 => wipe σ2 vs = wipe σ vs ∧ rest D σ2 H2 N1)
section
variable {X : Cx} {elt t0 i0 t1 i1 t2 i2 : Expr} {sc : Scope} {pos : Pos}
end
end Kx

set_option autoImplicit false
namespace J
open PySem PySem.Spec PyProof.Rows L2 Kx
variable {K : PySem.W.Frag} {P : Program} {w : World} {X : Cx}
/-! comprehensions of three clauses -/
structure LatP (p : Addr) (μ : Mp) (H : Hp) (μ' : Mp) (H' : Hp) : Prop where
  ext : ∃ e, μ'.m = μ.m ++ e
  ex : ∀ a, a ∈ μ.x → a ∈ μ'.x
  keep : ∀ a o, a ≠ p → H a = some o → a ∉ μ.m → a ∉ μ'.m ∧ (a ∉ μ.x → a ∉ μ'.x) ∧ H' a = some o
  frz : ∀ a o u, H a = some (.frz o u) → H' a = some (.frz o u)
theorem LatP.trans {p : Addr} {μ μ1 μ2 : Mp} {H H1 H2 : Hp} (x : LatP p μ H μ1 H1) (y : LatP p μ1 H1 μ2 H2) : LatP p μ H μ2 H2 := by
  refine ⟨?_, fun a h => y.ex a (x.ex a h), fun a o np h n => ?_, fun a o u h => y.frz a o u (x.frz a o u h)⟩
  · obtain ⟨e, h1⟩ := x.ext
    obtain ⟨f, h2⟩ := y.ext
    exact ⟨e ++ f, by rw [h2, h1, List.append_assoc]⟩
  · obtain ⟨n1, g1, h1⟩ := x.keep a o np h n
    obtain ⟨n2, g2, h2⟩ := y.keep a o np h1 n1
    exact ⟨n2, fun z => g2 (g1 z), h2⟩
theorem LatP.dat {p : Addr} {μ μ' : Mp} {H H' : Hp} (l : LatP p μ H μ' H') (hp : p ∈ μ.x) : Dat μ H μ' H' := ⟨l.ext, fun a o h n nx => let z := l.keep a o (fun e => nx (by rw [e]; exact hp)) h n; ⟨z.1, z.2.1 nx, z.2.2⟩⟩
theorem LatP.later {p : Addr} {μ1 μ0 μ2 : Mp} {H1 H0 H2 : Hp} (l : LatP p μ0 H0 μ2 H2) (np : H1 p = none) (L0 : Later μ1 H1 μ0 H0) : Later μ1 H1 μ2 H2 := by
  refine ⟨?_, fun a h => l.ex a (L0.ex a h), fun a o h n => ?_, fun a o u h => l.frz a o u (L0.frz a o u h)⟩
  · obtain ⟨e, h1⟩ := L0.ext
    obtain ⟨f, h2⟩ := l.ext
    exact ⟨e ++ f, by rw [h2, h1, List.append_assoc]⟩
  · obtain ⟨n1, g1, h1⟩ := L0.keep a o h n
    obtain ⟨n2, g2, h2⟩ := l.keep a o (ne_of_none h np) h1 n1
    exact ⟨n2, fun z => g2 (g1 z), h2⟩
theorem ER.dat {H H' : Hp} {μ μ' : Mp} {σ : L2.St} {env : J.Env} (s : Dat μ H μ' H') (e : ER K H μ σ env) : ER K H' μ' σ env := ⟨e.len, fun i d h => let ⟨v, h1, h2⟩ := e.ok i d h; ⟨v, h1, h2.dat s⟩⟩
abbrev FCl := J.Env → Sto → Option (List D × Sto)
def QCl (X : Cx) (p : Addr) (t : Cl) (f : FCl) : Prop := ∀ (σ : L2.St) (H : Hp) (μ : Mp) (env : J.Env) (S : Sto) (ys : List D) (S' : Sto) (Nx : Hp → Prop) (xs : List V) (acc : List D), HR X.prog X.w X.K H μ S → ER X.K H μ σ env → p ∈ μ.x → H p = some (.lst xs) → RvAll X.K H μ xs acc → f env S = some (ys, S') → acc.length + ys.length ≤ 100000 →
  (∀ H' μ' xs', LatP p μ H μ' H' → p ∈ μ'.x → HR X.prog X.w X.K H' μ' S' → H' p = some (.lst xs') → RvAll X.K H' μ' xs' (acc ++ ys) → Nx H') → t σ H Nx
def fEmit (fe : FE) : FCl := fun env S => match fe env S with
  | some (y, S1) => some ([y], S1)
  | none => none
def fClL (g : FG) (r : FCl) (env : J.Env) : List D → Sto → Option (List D × Sto)
  | [], S => some ([], S)
  | d :: ds, S => match g d env S with
    | none => none
    | some (env1, S1) => match r env1 S1 with
      | none => none
      | some (ys, S2) => match fClL g r env ds S2 with
        | none => none
        | some (zs, S3) => some (ys ++ zs, S3)
def fCl (fi : FA) (g : FG) (r : FCl) (vs : List Nat) : FCl := fun env S => match fi env S with
  | none => none
  | some (ds, S1) => fClL g r (wipeD env vs) ds S1
section
variable (X : Cx) (scope : Scope)
def tiB (tg iter : Expr) : TI := fun σ H0 R => ∀ (s : Shared) (H : Hp) (C : Addr) (cl : List (Str × Addr)) (fp : List Addr), ∃ t, PI (X.blk s H scope (compEnvC scope cl C X.env) fp) tg iter t ∧ t σ H0 R
end
/-- an iterator that leans on no heap -/
def JIA (X : Cx) (tg iter : Expr) (fi : FA) : Prop := ∃ wi : TI, PI X tg iter wi ∧ ∀ (σ : L2.St) (H : Hp) (μ : Mp) (env : J.Env) (S : Sto) (ds : List D) (S' : Sto) (R : It → Hp → Prop), HR X.prog X.w X.K H μ S → ER X.K H μ σ env → fi env S = some (ds, S') →
  (∀ T H' μ', Later μ H μ' H' → HR X.prog X.w X.K H' μ' S' → (∀ μ0 H0, ItF X.prog X.w X.K T ds μ0 H0) → R T H') → wi σ H R
def fLc3 (own : List Nat) (fi : FA) (g : FG) (r : FCl) : FE := fun env S => match fi env S with
  | none => none
  | some (ds, S1) => match fClL g r (wipeD env own) ds S1 with
    | some (ys, S2) => if ys.length ≤ 100000 then some (.lst ys, S2) else none
    | none => none
end J

set_option autoImplicit false
namespace J
open PySem PySem.Spec PyProof.Rows L2
variable {K : PySem.W.Frag} {P : Program} {w : World} {X : Cx}
/-! a displayed list times a number -/
def gRep : G2 := fun a b S => match a, b with
  | .lst ds, .int k => if -1000 ≤ k ∧ k ≤ 1000 ∧ ds.length ≤ 100 then some (.lst (List.replicate k.toNat ds).flatten, S) else none
  | _, _ => none
theorem rv_rep {H : Hp} {μ : Mp} {vs : List V} {ds : List D} (h : RvAll K H μ vs ds) : ∀ n : Nat, RvAll K H μ (List.replicate n vs).flatten (List.replicate n ds).flatten
  | 0 => .nil
  | n + 1 => by
    rw [List.replicate_succ, List.replicate_succ, List.flatten_cons, List.flatten_cons]
    exact h.append (rv_rep h n)
theorem ro_rep : RO P w K rRep gRep := by
  intro H μ S x y a b d S' Q hr rx ry e k
  unfold gRep at e
  split at e
  · rename_i ds j
    split at e
    · rename_i hc
      cases e
      cases rx with
      | lst h1 h2 =>
        cases ry
        have hl := h2.length
        refine ⟨_, j, _, rfl, rfl, h1.1, by omega, by omega, ?_, fun p np => ?_⟩
        · have : j.toNat ≤ 1000 := by omega
          exact Nat.le_trans (Nat.mul_le_mul (show _ ≤ 100 by omega) this) (by decide)
        · obtain ⟨l2, hr2⟩ := hr.new (o := .lst _) np
          exact k _ _ μ l2 hr2 (.lst ⟨upd_same, hr.free np⟩ ((rv_rep h2 _).later l2))
    · cases e
  · cases e
theorem je_rep {a b : Expr} {fa fb : FE} {pos : Pos} (ha : JE X a fa) (hb : JE X b fb) : JE X (.BinOp a .Mult b pos) (fOp gRep fa fb) := je_op op_rep ro_rep ha hb
/-! for over what may change, where it stays as a test says -/
abbrev FAC := J.Env → Sto → Option (List D × (Sto → Prop) × Sto)
def ItC (P : Program) (w : World) (K : PySem.W.Frag) (T : It) (ds : List D) (c : Sto → Prop) (μ0 : Mp) (H0 : Hp) : Prop := ∀ (μ : Mp) (H : Hp), Later μ0 H0 μ H → ∀ S, HR P w K H μ S → c S →
  ((∀ i, i < ds.length → T.go i H) ∧ T.stop ds.length H) ∧ ∀ (i : Nat) (x : V) (H' : Hp) (d : D), ds[i]? = some d → T.yld i H x H' → Later μ H μ H' ∧ HR P w K H' μ S ∧ Rv K H' μ x d
theorem ItF.itc {T : It} {ds : List D} {c : Sto → Prop} {μ0 : Mp} {H0 : Hp} (h : ItF P w K T ds μ0 H0) : ItC P w K T ds c μ0 H0 := fun μ H l S hr _ => ⟨(h μ H l).1 S hr, fun i x H' d e y => (h μ H l).2 i S x H' d hr e y⟩
theorem ItP.itc {T : It} {ds : List D} {k0 : Nat} {μ0 : Mp} {H0 : Hp} (h : ItP P w K T ds k0 μ0 H0) : ItC P w K T ds (fun S => S[k0]? = some (.lst ds)) μ0 H0 := fun μ H l S hr c => h μ H l S hr c
def JIC (X : Cx) (tg iter : Expr) (fi : FAC) : Prop := ∃ wi : TI, PI X tg iter wi ∧ ∀ (σ : L2.St) (H : Hp) (μ : Mp) (env : J.Env) (S : Sto) (ds : List D) (c : Sto → Prop) (S' : Sto) (R : It → Hp → Prop), HR X.prog X.w X.K H μ S → ER X.K H μ σ env → fi env S = some (ds, c, S') →
  (∀ T H' μ', Later μ H μ' H' → HR X.prog X.w X.K H' μ' S' → ItC X.prog X.w X.K T ds c μ' H' → R T H') → wi σ H R
open Classical in
noncomputable def fForLC (c : Sto → Prop) (g : FG) (b : FS) : List D → FS
  | [], env, S => if c S then some (.nx, env, S) else none
  | d :: ds, env, S => if c S then (match g d env S with
    | none => none
    | some (env1, S1) => match b env1 S1 with
      | some (.nx, env2, S2) => fForLC c g b ds env2 S2
      | some (.ct, env2, S2) => fForLC c g b ds env2 S2
      | some (.bk, env2, S2) => some (.nx, env2, S2)
      | some (.rt d, env2, S2) => some (.rt d, env2, S2)
      | some (.xc x fs, env2, S2) => some (.xc x fs, env2, S2)
      | none => none) else none
noncomputable def fForC (fi : FAC) (g : FG) (b : FS) : FS := fun env S => match fi env S with
  | some (ds, c, S1) => fForLC c g b ds env S1
  | none => none
theorem js_forC {tg iter : Expr} {body : List Stmt} {fi : FAC} {g : FG} {ws : List Nat} {f : FS} {pos : Pos} (hp : PassesOwn (model X.prog X.w) X.A X.env X.xe) (hc : X.calm = true) (hi : JIC X tg iter fi) (hg : JG X tg g ws) (hb : JSs X body f)
    (hs : ∀ x, foldedSetIterable iter X.env x = pure x := by intro _; rfl) : JS X (.For tg iter body [] pos) (fForC fi g f) := by
  obtain ⟨wi, pi, qi⟩ := hi
  obtain ⟨tg', pg, qg⟩ := hg
  obtain ⟨tb, pb, qb⟩ := hb
  refine ⟨_, ps_for hp hc pi pg pb hs, fun σ H μ env S fl env' S' E hr er hf k => ?_⟩
  unfold fForC at hf
  split at hf
  · rename_i ds c S1 e1
    refine qi σ H μ env S ds c S1 _ hr er e1 fun T H1 μ1 l1 hr1 it => ?_
    refine ⟨fun i n σ2 H2 => n = ds.length - i ∧ i ≤ ds.length ∧ ∃ μ2 env2 S2, Later μ1 H1 μ2 H2 ∧ HR X.prog X.w X.K H2 μ2 S2 ∧ ER X.K H2 μ2 σ2 env2 ∧ fForLC c g f (ds.drop i) env2 S2 = some (fl, env', S'),
      ⟨ds.length, by simp, Nat.zero_le _, μ1, env, S1, .refl _ _, hr1, er.later l1, hf⟩, ?_⟩
    rintro i n σ2 H2 ⟨rfl, hi, μ2, env2, S2, l2, hr2, er2, hf2⟩
    have c2 : c S2 := by
      by_cases z : c S2
      · exact z
      · cases hd : ds.drop i with
        | nil => rw [hd, fForLC, if_neg z] at hf2; cases hf2
        | cons a l => rw [hd, fForLC, if_neg z] at hf2; cases hf2
    obtain ⟨⟨go, stop⟩, it2⟩ := it μ2 H2 l2 S2 hr2 c2
    by_cases hlt : i < ds.length
    · refine .inr ⟨go i hlt, fun σ3 H3 => ∃ μ3 env3 S3, Later μ1 H1 μ3 H3 ∧ HR X.prog X.w X.K H3 μ3 S3 ∧ ER X.K H3 μ3 σ3 env3 ∧ fForLC c g f (ds.drop (i + 1)) env3 S3 = some (fl, env', S'), fun σ3 H3 z => ⟨ds.length - (i + 1), by omega, rfl, hlt, z⟩, fun x H3 y => ?_⟩
      obtain ⟨l3, hr3, r3⟩ := it2 i x H3 ds[i] (by simp [hlt]) y
      rw [List.drop_eq_getElem_cons hlt, fForLC, if_pos c2] at hf2
      split at hf2
      · cases hf2
      · rename_i env4 S4 e4
        refine qg σ2 H3 μ2 env2 S2 x ds[i] env4 S4 _ hr3 (er2.later l3) r3 e4 fun σ4 H4 μ4 l4 hr4 er4 _ => ?_
        have L4 := l2.trans (l3.trans l4)
        split at hf2
        · rename_i env5 S5 e5
          exact qb σ4 H4 μ4 env4 S4 _ env5 S5 _ hr4 er4 e5 fun σ5 H5 μ5 l5 hr5 er5 => ⟨μ5, env5, S5, L4.trans l5, hr5, er5, hf2⟩
        · rename_i env5 S5 e5
          exact qb σ4 H4 μ4 env4 S4 _ env5 S5 _ hr4 er4 e5 fun σ5 H5 μ5 l5 hr5 er5 => ⟨μ5, env5, S5, L4.trans l5, hr5, er5, hf2⟩
        · rename_i env5 S5 e5
          cases hf2
          exact qb σ4 H4 μ4 env4 S4 _ _ _ _ hr4 er4 e5 fun σ5 H5 μ5 l5 hr5 er5 => k σ5 H5 μ5 (l1.trans (L4.trans l5)) hr5 er5
        · rename_i d env5 S5 e5
          cases hf2
          exact qb σ4 H4 μ4 env4 S4 _ _ _ _ hr4 er4 e5 fun σ5 H5 μ5 l5 hr5 er5 => k σ5 H5 μ5 (l1.trans (L4.trans l5)) hr5 er5
        · rename_i x fs env5 S5 e5
          cases hf2
          exact qb σ4 H4 μ4 env4 S4 _ _ _ _ hr4 er4 e5 fun σ5 H5 μ5 l5 hr5 er5 => k σ5 H5 μ5 (l1.trans (L4.trans l5)) hr5 er5
        · cases hf2
    · have e : i = ds.length := by omega
      subst e
      rw [List.drop_length, fForLC, if_pos c2] at hf2
      cases hf2
      exact .inl ⟨stop, k σ2 H2 μ2 (l1.trans l2) hr2 er2⟩
  · cases hf
/-- enumerate(e) -/
def fEnumC (g : FA) : FAC := fun env S => match g env S with
  | some ([.obj k], S1) => match S1[k]? with
    | some (.lst es) => some (enD es, (fun S => S[k]? = some (.lst es)), S1)
    | _ => none
  | some ([d], S1) => match d.items with
    | some ds => some (enD ds, (fun _ => True), S1)
    | none => none
  | _ => none
/-- for x in e, a list that may change -/
def fItO (f : FE) : FAC := fun env S => match f env S with
  | some (.obj k, S1) => match S1[k]? with
    | some (.lst es) => some (es, (fun S => S[k]? = some (.lst es)), S1)
    | _ => none
  | _ => none
theorem jic_seqO {tg e : Expr} {f : FE} (h : JE X e f) : JIC X tg e (fItO f) := by
  obtain ⟨wi, p, q⟩ := jio_seq (tg := tg) h
  refine ⟨wi, p, fun σ H μ env S ds c S' R hr er hf k => ?_⟩
  unfold fItO at hf
  split at hf
  · rename_i k0 S1 e1
    split at hf
    · rename_i es e2
      cases hf
      exact q σ H μ env S k0 _ _ R hr er e1 e2 fun T H1 μ1 l hr1 it => k T H1 μ1 l hr1 it.itc
    · cases hf
  · cases hf
end J

set_option autoImplicit false
namespace J
open PySem PySem.Spec PyProof.Rows L2
variable {K : PySem.W.Frag} {P : Program} {w : World} {X : Cx}
/-! x >= y of data that can be compared place by place -/
def rGeD (K : PySem.W.Frag) : R2 := fun x y H Q => ∃ d e, Dp K H x d ∧ Dp K H y e ∧ PySem.W.alike d e = true ∧ d ≠ .none ∧ d.depth ≤ 60 ∧ Q (.bl (!PySem.W.dataLt d e)) H
def D.pysS (S : Sto) : List D → Option (List PyData)
  | [] => some []
  | d :: ds => match D.pyS S d, D.pysS S ds with
    | some p, some ps => some (p :: ps)
    | _, _ => none
/-- a tuple whose items may be numbered lists -/
def D.pyN (S : Sto) : D → Option PyData
  | .tup ds => (D.pysS S ds).map .tuple
  | d => d.pyS S
open Classical in
noncomputable def gGeN : G2 := fun a b S => match a.pyN S, b.pyN S with
  | some p, some q => if PySem.W.alike p q = true ∧ p ≠ .none ∧ p.depth ≤ 60 then some (.bl (!PySem.W.dataLt p q), S) else none
  | _, _ => none
end J

set_option autoImplicit false
namespace J
open PySem PySem.Spec PyProof.Rows L2
/-! readings, computed -/
@[simp] theorem fVar_eq (i : Nat) (env : Env) (S : Sto) : fVar i env S = match env[i]? with | some (some d) => some (d, S) | _ => none := rfl
@[simp] theorem fC_eq (d : D) (env : Env) (S : Sto) : fC d env S = some (d, S) := rfl
@[simp] theorem fOp_eq (g : G2) (fa fb : FE) (env : Env) (S : Sto) : fOp g fa fb env S = match fa env S with | none => none | some (a, S1) => match fb env S1 with | none => none | some (b, S2) => g a b S2 := rfl
@[simp] theorem fUn_eq (g : D → Sto → Option (D × Sto)) (fa : FE) (env : Env) (S : Sto) : fUn g fa env S = match fa env S with | none => none | some (a, S1) => g a S1 := rfl
@[simp] theorem fTest_eq (f : FE) (env : Env) (S : Sto) : fTest f env S = match f env S with | some (.bl b, S') => some (b, S') | _ => none := rfl
@[simp] theorem fTruth_eq (f : FE) (env : Env) (S : Sto) : fTruth f env S = match f env S with | some (d, S') => (d.truth S').map fun b => (b, S') | none => none := rfl
@[simp] theorem fAndT_eq (fa fb : FT) (env : Env) (S : Sto) : fAndT fa fb env S = match fa env S with | some (true, S1) => fb env S1 | r => r := rfl
@[simp] theorem fOrT_eq (fa fb : FT) (env : Env) (S : Sto) : fOrT fa fb env S = match fa env S with | some (false, S1) => fb env S1 | r => r := rfl
@[simp] theorem fNotT_eq (fa : FT) (env : Env) (S : Sto) : fNotT fa env S = (fa env S).map fun p => (!p.1, p.2) := rfl
@[simp] theorem fAndV_eq (fa fb : FE) (env : Env) (S : Sto) : fAndV fa fb env S = match fa env S with | some (.bl true, S1) => fb env S1 | some (.bl false, S1) => some (.bl false, S1) | _ => none := rfl
@[simp] theorem fOrV_eq (fa fb : FE) (env : Env) (S : Sto) : fOrV fa fb env S = match fa env S with | some (.bl false, S1) => fb env S1 | some (.bl true, S1) => some (.bl true, S1) | _ => none := rfl
@[simp] theorem fNotV_eq (fa : FE) (env : Env) (S : Sto) : fNotV fa env S = match fa env S with | some (.bl b, S1) => some (.bl (!b), S1) | _ => none := rfl
@[simp] theorem fIf_eq (ft : FT) (fa fb : FE) (env : Env) (S : Sto) : fIf ft fa fb env S = match ft env S with | some (true, S1) => fa env S1 | some (false, S1) => fb env S1 | none => none := rfl
@[simp] theorem faNil_eq (env : Env) (S : Sto) : faNil env S = some ([], S) := rfl
@[simp] theorem faCons_eq (f : FE) (g : FA) (env : Env) (S : Sto) : faCons f g env S = match f env S with | none => none | some (d, S1) => match g env S1 with | none => none | some (ds, S2) => some (d :: ds, S2) := rfl
@[simp] theorem fTup_eq (g : FA) (env : Env) (S : Sto) : fTup g env S = match g env S with | some (ds, S') => if ds.length ≤ 1000 then some (.tup ds, S') else none | none => none := rfl
@[simp] theorem fLst_eq (g : FA) (env : Env) (S : Sto) : fLst g env S = match g env S with | some (ds, S') => if ds.length ≤ 1000 then some (.lst ds, S') else none | none => none := rfl
@[simp] theorem fLstN_eq (g : FA) (env : Env) (S : Sto) : fLstN g env S = match g env S with | some (ds, S') => if ds.length ≤ 1000 then some (.obj S'.length, S' ++ [.lst ds]) else none | none => none := rfl
@[simp] theorem fNext_eq (env : Env) (S : Sto) : fNext env S = some (.nx, env, S) := rfl
@[simp] theorem fSeq_eq (f g : FS) (env : Env) (S : Sto) : fSeq f g env S = match f env S with | some (.nx, env1, S1) => g env1 S1 | r => r := rfl
@[simp] theorem fNone_eq (env : Env) (S : Sto) : fNone env S = none := rfl
@[simp] theorem fBrk_eq (env : Env) (S : Sto) : fBrk env S = some (.bk, env, S) := rfl
@[simp] theorem fCnt_eq (env : Env) (S : Sto) : fCnt env S = some (.ct, env, S) := rfl
@[simp] theorem fDrop_eq (f : FE) (env : Env) (S : Sto) : fDrop f env S = match f env S with | some (_, S1) => some (.nx, env, S1) | none => none := rfl
@[simp] theorem fRet_eq (f : FE) (env : Env) (S : Sto) : fRet f env S = match f env S with | some (d, S1) => some (.rt d, env, S1) | none => none := rfl
@[simp] theorem fRetN_eq (env : Env) (S : Sto) : fRetN env S = some (.rt .non, env, S) := rfl
@[simp] theorem fIfS_eq (c : FT) (f g : FS) (env : Env) (S : Sto) : fIfS c f g env S = match c env S with | some (true, S1) => f env S1 | some (false, S1) => g env S1 | none => none := rfl
@[simp] theorem gNm_eq (i : Nat) (d : D) (env : Env) (S : Sto) : gNm i d env S = some (env.set i (some d), S) := rfl
@[simp] theorem gNil_eq (env : Env) (S : Sto) : gNil [] env S = some (env, S) := rfl
@[simp] theorem gCons_eq (g : FG) (h : FGs) (d : D) (ds : List D) (env : Env) (S : Sto) : gCons g h (d :: ds) env S = match g d env S with | some (env1, S1) => h ds env1 S1 | none => none := rfl
@[simp] theorem gTp_eq (n : Nat) (h : FGs) (ds : List D) (env : Env) (S : Sto) : gTp n h (.tup ds) env S = if ds.length = n then h ds env S else none := rfl
@[simp] theorem fAsg_eq (f : FE) (g : FG) (env : Env) (S : Sto) : fAsg f g env S = match f env S with | some (d, S1) => (match g d env S1 with | some (env', S2) => some (.nx, env', S2) | none => none) | none => none := rfl
@[simp] theorem fPar_eq (i j : Nat) (g : FA) (env : Env) (S : Sto) : fPar i j g env S = match g env S with | some ([d, e], S1) => some (.nx, (env.set i (some d)).set j (some e), S1) | _ => none := rfl
@[simp] theorem fFor_eq (fi : FA) (g : FG) (b : FS) (env : Env) (S : Sto) : fFor fi g b env S = match fi env S with | some (ds, S1) => fForL g b ds env S1 | none => none := rfl
@[simp] theorem fCall_eq (n : Nat) (F : Fn) (g : FA) (dd : List D) (env : Env) (S : Sto) : fCall n F g dd env S = match g env S with | some (ds, S1) => (if (ds ++ dd).length = n then F (ds ++ dd) S1 else none) | none => none := rfl
@[simp] theorem fCallN_eq (n i j : Nat) (F : Fn) (h : List D → List D → List D) (g gk : FA) (env : Env) (S : Sto) : fCallN n i j F h g gk env S = match g env S with | some (ds, S1) => (match gk env S1 with | some (es, S2) => (if ds.length = i ∧ es.length = j ∧ (h ds es).length = n then F (h ds es) S2 else none) | none => none) | none => none := rfl
@[simp] theorem fB_eq (g : Fn) (fa : FA) (env : Env) (S : Sto) : fB g fa env S = match fa env S with | some (ds, S1) => g ds S1 | none => none := rfl
@[simp] theorem fM_eq (T : String) (g : GM) (fo : FE) (fa : FA) (env : Env) (S : Sto) : fM T g fo fa env S = match fo env S with | some (a, S1) => (if tyD T S1 a = true then (match fa env S1 with | some (ds, S2) => g a ds S2 | none => none) else none) | none => none := rfl
@[simp] theorem fM0_eq (T : String) (g : GM) (fo : FE) (env : Env) (S : Sto) : fM0 T g fo env S = match fo env S with | some (a, S1) => (if tyD T S1 a = true then g a [] S1 else none) | none => none := rfl
@[simp] theorem gSub_eq (fo fi : FE) (g : GS) (d : D) (env : Env) (S : Sto) : gSub fo fi g d env S = match fo env S with | some (a, S1) => (match fi env S1 with | some (b, S2) => (match g a b d S2 with | some S3 => some (env, S3) | none => none) | none => none) | none => none := rfl
@[simp] theorem fChain_eq (g g' : G2) (fa fb fc : FE) (env : Env) (S : Sto) : fChain g g' fa fb fc env S = match fa env S with | some (a, S1) => (match fb env S1 with | some (b, S2) => (match g a b S2 with | some (.bl true, S3) => (match fc env S3 with | some (c, S4) => g' b c S4 | none => none) | some (.bl false, S3) => some (.bl false, S3) | _ => none) | none => none) | none => none := rfl
@[simp] theorem fDispIx_eq (ns : List Str) (fv : FA) (fk : FE) (env : Env) (S : Sto) : fDispIx ns fv fk env S = match fv env S with | some (ds, S1) => (match fk env S1 with | some (.str x, S2) => (match valKD (mergeKD [] (kvN ns ds)) (Sum.inr x) with | some d => some (d, S2) | none => none) | _ => none) | none => none := rfl
@[simp] theorem fRng1_eq (g : FA) (env : Env) (S : Sto) : fRng1 g env S = match g env S with | some ([.int j], S1) => (if -(2 ^ 62) ≤ j ∧ j < 2 ^ 62 then some (rngD 0 j.toNat, S1) else none) | _ => none := rfl
@[simp] theorem fRng2_eq (g : FA) (env : Env) (S : Sto) : fRng2 g env S = match g env S with | some ([.int i, .int j], S1) => (if -(2 ^ 62) ≤ i ∧ i < 2 ^ 62 ∧ -(2 ^ 62) ≤ j ∧ j < 2 ^ 62 then some (rngD i (j - i).toNat, S1) else none) | _ => none := rfl
@[simp] theorem fIt_eq (f : FE) (env : Env) (S : Sto) : fIt f env S = match f env S with | some (d, S1) => (match d.items with | some ds => some (ds, S1) | none => none) | none => none := rfl
@[simp] theorem fEnum_eq (g : FA) (env : Env) (S : Sto) : fEnum g env S = match g env S with | some ([d], S1) => (match d.items with | some ds => some (enD ds, S1) | none => none) | _ => none := rfl
@[simp] theorem fLc_eq (own : List Nat) (fi : FA) (g : FG) (ft : FT) (fe : FE) (env : Env) (S : Sto) : fLc own fi g ft fe env S = match fi env S with | none => none | some (ds, S1) => if ds.length ≤ 100000 then (match fLcL g ft fe (wipeD env own) ds S1 with | some (ys, S2) => some (.lst ys, S2) | none => none) else none := rfl
@[simp] theorem fYes_eq (env : Env) (S : Sto) : fYes env S = some (true, S) := rfl
@[simp] theorem wipeD_nil (env : Env) : wipeD env [] = env := rfl
@[simp] theorem wipeD_cons (env : Env) (v : Nat) (vs : List Nat) : wipeD env (v :: vs) = (wipeD env vs).set v none := rfl
@[simp] theorem fDNew_eq (env : Env) (S : Sto) : fDNew env S = some (.obj S.length, S ++ [.dct []]) := rfl
@[simp] theorem fAug_eq (i : Nat) (g : G2) (fe : FE) (env : Env) (S : Sto) : fAug i g fe env S = match env[i]? with | some (some a) => (match fe env S with | some (b, S1) => (match g a b S1 with | some (c, S2) => some (.nx, env.set i (some c), S2) | none => none) | none => none) | _ => none := rfl
@[simp] theorem fGet2_eq (fo fk fx : FE) (env : Env) (S : Sto) : fGet2 fo fk fx env S = match fo env S with
  | some (.obj j, S1) => (match S1[j]? with
    | some (.dct _) => (match fk env S1 with
      | some (b, S2) => (match fx env S2 with
        | some (x, S3) => (match S3[j]?, b.tkey with
          | some (.dct kvs), some k => some ((luD kvs k).getD x, S3)
          | _, _ => none)
        | none => none)
      | none => none)
    | _ => none)
  | _ => none := rfl
@[simp] theorem startD_eq (n : Nat) (ds : List D) : startD n ds = ds.map some ++ List.replicate (n - ds.length) none := rfl
@[simp] theorem rep0 {α : Type} (a : α) : List.replicate 0 a = [] := rfl
@[simp] theorem repS {α : Type} (a : α) (n : Nat) : List.replicate (n + 1) a = a :: List.replicate n a := rfl
/-! operators -/
@[simp] theorem gI_int (c : Int → Int → Bool) (g : Int → Int → Int) (i j : Int) (S : Sto) : gI c g (.int i) (.int j) S = if c i j = true then some (.int (g i j), S) else none := rfl
@[simp] theorem gI0_int (g : Int → Int → Int) (i j : Int) (S : Sto) : gI0 g (.int i) (.int j) S = some (.int (g i j), S) := rfl
@[simp] theorem gB0_int (g : Int → Int → Bool) (i j : Int) (S : Sto) : gB0 g (.int i) (.int j) S = some (.bl (g i j), S) := rfl
@[simp] theorem gAdd_int (i j : Int) (S : Sto) : gAdd (.int i) (.int j) S = some (.int (i + j), S) := rfl
@[simp] theorem gAdd_lst (xs ys : List D) (S : Sto) : gAdd (.lst xs) (.lst ys) S = if xs.length + ys.length ≤ 100000 then some (.lst (xs ++ ys), S) else none := rfl
@[simp] theorem gAdd_str (x y : Str) (S : Sto) : gAdd (.str x) (.str y) S = if x.length + y.length ≤ sizeLine then some (.str (x ++ y), S) else none := rfl
@[simp] theorem gNeg_int (i : Int) (S : Sto) : gNeg (.int i) S = some (.int (-i), S) := rfl
@[simp] theorem gEq_int (n : Bool) (i j : Int) (S : Sto) : gEq n (.int i) (.int j) S = some (.bl (n ^^ (i == j)), S) := rfl
@[simp] theorem gEq_str (n : Bool) (i j : Str) (S : Sto) : gEq n (.str i) (.str j) S = some (.bl (n ^^ (i == j)), S) := rfl
@[simp] theorem gEq_bl (n : Bool) (i j : Bool) (S : Sto) : gEq n (.bl i) (.bl j) S = some (.bl (n ^^ (i == j)), S) := rfl
@[simp] theorem gEq_int_str (n : Bool) (i : Int) (j : Str) (S : Sto) : gEq n (.int i) (.str j) S = some (.bl n, S) := by cases n <;> rfl
@[simp] theorem gEq_str_int (n : Bool) (i : Str) (j : Int) (S : Sto) : gEq n (.str i) (.int j) S = some (.bl n, S) := by cases n <;> rfl
@[simp] theorem gIsN_non (n : Bool) (S : Sto) : gIsN n .non .non S = some (.bl (!n), S) := rfl
@[simp] theorem gIsN_int (n : Bool) (i : Int) (S : Sto) : gIsN n (.int i) .non S = some (.bl n, S) := rfl
@[simp] theorem gIsN_tup (n : Bool) (ds : List D) (S : Sto) : gIsN n (.tup ds) .non S = some (.bl n, S) := rfl
@[simp] theorem gIdx_tup (ds : List D) (i : Int) (S : Sto) : gIdx (.tup ds) (.int i) S = (atI ds i).map fun d => (d, S) := by
  show (match atI ds i with | some d => some (d, S) | none => none) = _
  cases atI ds i <;> rfl
@[simp] theorem gIdx_lst (ds : List D) (i : Int) (S : Sto) : gIdx (.lst ds) (.int i) S = (atI ds i).map fun d => (d, S) := by
  show (match atI ds i with | some d => some (d, S) | none => none) = _
  cases atI ds i <;> rfl
@[simp] theorem gIdx_scr (ds : List D) (i : Int) (S : Sto) : gIdx (.scr ds) (.int i) S = (atI ds i).map fun d => (d, S) := by
  show (match atI ds i with | some d => some (d, S) | none => none) = _
  cases atI ds i <;> rfl
theorem gIdx_obj {k : Nat} {S : Sto} {ds : List D} (h : S[k]? = some (.lst ds)) (i : Int) : gIdx (.obj k) (.int i) S = (atI ds i).map fun d => (d, S) := by
  have e1 : gIxD (.obj k) (.int i) S = none := by simp only [gIxD, h]
  have e2 : gIx (.obj k) (.int i) S = match atI ds i with | some d => some (d, S) | none => none := by simp only [gIx, D.seqS, h] <;> (cases atI ds i <;> rfl)
  unfold gIdx
  rw [e1, e2]
  cases atI ds i <;> rfl
theorem gSet_obj {k : Nat} {S : Sto} {ds : List D} {i : Int} {j : Nat} (h : S[k]? = some (.lst ds)) (hj : ixN ds.length i = some j) (d : D) : gSet (.obj k) (.int i) d S = some (S.set k (.lst (ds.set j d))) := by
  have e1 : gSetD (.obj k) (.int i) d S = none := by simp only [gSetD, h]
  have e2 : gSetL (.obj k) (.int i) d S = some (S.set k (.lst (ds.set j d))) := by simp only [gSetL, h, hj]
  unfold gSet
  rw [e1, e2]
  rfl
@[simp] theorem atI_0 {α : Type} (a : α) (l : List α) : atI (a :: l) 0 = some a := atI_nat (j := 0) rfl
@[simp] theorem atI_1 {α : Type} (a b : α) (l : List α) : atI (a :: b :: l) 1 = some b := atI_nat (j := 1) rfl
@[simp] theorem atI_2 {α : Type} (a b c : α) (l : List α) : atI (a :: b :: c :: l) 2 = some c := atI_nat (j := 2) rfl
@[simp] theorem atI_3 {α : Type} (a b c d : α) (l : List α) : atI (a :: b :: c :: d :: l) 3 = some d := atI_nat (j := 3) rfl
/-! isinstance -/
@[simp] theorem kit_tt : kitB "tuple" "tuple" = some true := by decide +kernel
@[simp] theorem kit_it : kitB "int" "tuple" = some false := by decide +kernel
@[simp] theorem kit_st : kitB "str" "tuple" = some false := by decide +kernel
@[simp] theorem kit_bt : kitB "bool" "tuple" = some false := by decide +kernel
@[simp] theorem kit_nt : kitB "NoneType" "tuple" = some false := by decide +kernel
@[simp] theorem kit_lt : kitB "list" "tuple" = some false := by decide +kernel
@[simp] theorem kit_ti : kitB "tuple" "int" = some false := by decide +kernel
@[simp] theorem kit_ii : kitB "int" "int" = some true := by decide +kernel
@[simp] theorem kit_si : kitB "str" "int" = some false := by decide +kernel
@[simp] theorem kit_bi : kitB "bool" "int" = some true := by decide +kernel
@[simp] theorem kit_ni : kitB "NoneType" "int" = some false := by decide +kernel
@[simp] theorem kit_li : kitB "list" "int" = some false := by decide +kernel
@[simp] theorem kit_tb : kitB "tuple" "bool" = some false := by decide +kernel
@[simp] theorem kit_ib : kitB "int" "bool" = some false := by decide +kernel
@[simp] theorem kit_sb : kitB "str" "bool" = some false := by decide +kernel
@[simp] theorem kit_bb : kitB "bool" "bool" = some true := by decide +kernel
@[simp] theorem kit_nb : kitB "NoneType" "bool" = some false := by decide +kernel
@[simp] theorem kit_lb : kitB "list" "bool" = some false := by decide +kernel
@[simp] theorem kit_ts : kitB "tuple" "str" = some false := by decide +kernel
@[simp] theorem kit_is : kitB "int" "str" = some false := by decide +kernel
@[simp] theorem kit_ss : kitB "str" "str" = some true := by decide +kernel
@[simp] theorem kit_bs : kitB "bool" "str" = some false := by decide +kernel
@[simp] theorem kit_ns : kitB "NoneType" "str" = some false := by decide +kernel
@[simp] theorem kit_ls : kitB "list" "str" = some false := by decide +kernel
@[simp] theorem gIsi_eq (a : D) (T : String) (S : Sto) : gIsi [a, .glo (.ty T)] S = match a.ty S with | some t => (kitB t T).map fun b => (.bl b, S) | none => none := rfl
@[simp] theorem ty_non (S : Sto) : D.ty S .non = some "NoneType" := rfl
@[simp] theorem ty_bl (S : Sto) (b : Bool) : D.ty S (.bl b) = some "bool" := rfl
@[simp] theorem ty_int (S : Sto) (i : Int) : D.ty S (.int i) = some "int" := rfl
@[simp] theorem ty_str (S : Sto) (i : Str) : D.ty S (.str i) = some "str" := rfl
@[simp] theorem ty_tup (S : Sto) (i : List D) : D.ty S (.tup i) = some "tuple" := rfl
@[simp] theorem ty_lst (S : Sto) (i : List D) : D.ty S (.lst i) = some "list" := rfl
@[simp] theorem truth_bl (S : Sto) (b : Bool) : D.truth S (.bl b) = some b := rfl
@[simp] theorem gLen_tup (ds : List D) (S : Sto) : gLen [.tup ds] S = some (.int ds.length, S) := rfl
@[simp] theorem gLen_lst (ds : List D) (S : Sto) : gLen [.lst ds] S = some (.int ds.length, S) := rfl
@[simp] theorem gLen_scr (ds : List D) (S : Sto) : gLen [.scr ds] S = some (.int ds.length, S) := rfl
@[simp] theorem gAbs_int (i : Int) (S : Sto) : gAbs [.int i] S = some (.int (if i < 0 then -i else i), S) := rfl
@[simp] theorem gMax2_int (i j : Int) (S : Sto) : gMax2 [.int i, .int j] S = some (.int (if j > i then j else i), S) := rfl
@[simp] theorem gMin2_int (i j : Int) (S : Sto) : gMin2 [.int i, .int j] S = some (.int (if j < i then j else i), S) := rfl
@[simp] theorem gTuple_lst (ds : List D) (S : Sto) : gTuple [.lst ds] S = some (.tup ds, S) := rfl
@[simp] theorem items_tup (ds : List D) : D.items (.tup ds) = some ds := rfl
@[simp] theorem items_lst (ds : List D) : D.items (.lst ds) = some ds := rfl
@[simp] theorem items_scr (ds : List D) : D.items (.scr ds) = some ds := rfl
/-! what is left behind a call -/
@[simp] theorem und_int (n : Nat) (i : Int) : D.und n (.int i) = true := by simp [D.und]
@[simp] theorem und_bl (n : Nat) (i : Bool) : D.und n (.bl i) = true := by simp [D.und]
@[simp] theorem und_str (n : Nat) (i : Str) : D.und n (.str i) = true := by simp [D.und]
@[simp] theorem und_non (n : Nat) : D.und n .non = true := by simp [D.und]
@[simp] theorem und_tup (n : Nat) (ds : List D) : D.und n (.tup ds) = D.undAll n ds := by simp [D.und]
@[simp] theorem und_lst (n : Nat) (ds : List D) : D.und n (.lst ds) = D.undAll n ds := by simp [D.und]
@[simp] theorem undAll_nil (n : Nat) : D.undAll n [] = true := by simp [D.undAll]
@[simp] theorem undAll_cons (n : Nat) (d : D) (ds : List D) : D.undAll n (d :: ds) = (D.und n d && D.undAll n ds) := by simp [D.undAll]
@[simp] theorem undAll_append (n : Nat) (ds es : List D) : D.undAll n (ds ++ es) = (D.undAll n ds && D.undAll n es) := by
  induction ds with
  | nil => simp
  | cons d ds ih => simp [ih, Bool.and_assoc]
theorem gc_of {S S' : Sto} {d : D} (kp : Keeps S S') (h : d.und 0 = true) : gc .drop S d S' = some (d, S'.take S.length) := by
  simp only [gc]
  rw [if_pos kp]
  cases d with
  | obj k => simp [D.und] at h
  | _ => simp only [h, if_true]
@[simp] theorem gc_same {S : Sto} {d : D} (h : d.und 0 = true) : gc .drop S d S = some (d, S) := by rw [gc_of (Keeps.refl S) h, List.take_length]
@[simp] theorem gc_app {S T : Sto} {d : D} (h : d.und 0 = true) : gc .drop S d (S ++ T) = some (d, S) := by rw [gc_of (Keeps.app S T) h, List.take_left]
theorem Keeps.set {S : Sto} {k : Nat} {o : O} (h : o.und 0 = true) : Keeps S (S.set k o) := by
  refine ⟨by simp, fun i hi => ?_⟩
  by_cases e : k = i
  · subst e
    exact .inr ⟨o, List.getElem?_set_self hi, O.und_mono (Nat.zero_le _) h⟩
  · exact .inl (List.getElem?_set_ne e)
theorem gc_set {S : Sto} {k : Nat} {o : O} {d : D} (ho : o.und 0 = true) (h : d.und 0 = true) : gc .drop S d (S.set k o) = some (d, S.set k o) := by
  rw [gc_of (Keeps.set ho) h, List.take_of_length_le (by simp)]
@[simp] theorem gc_newobj {S : Sto} {o : O} (ho : o.und 0 = true) : gc .drop S (.obj S.length) (S ++ [o]) = some (.obj S.length, S ++ [o]) := by
  simp only [gc]
  rw [if_pos (Keeps.app S [o])]
  simp [ho]
theorem runD_rt {md : Md} {n : Nat} {b : FS} {ds : List D} {S S' : Sto} {d : D} {env : Env} (h : b (startD n ds) S = some (.rt d, env, S')) : runD md n b ds S = gc md S d S' := by
  unfold runD
  rw [h]
@[simp] theorem runD_eq (md : Md) (n : Nat) (b : FS) (ds : List D) (S : Sto) : runD md n b ds S = match b (startD n ds) S with | some (.rt d, _, S') => gc md S d S' | some (.nx, _, S') => gc md S .non S' | _ => none := rfl
end J

set_option autoImplicit false
namespace J
open PySem PySem.Spec PyProof.Rows L2
/-! what is wanted behind a reading -/
def Wp {α : Type} (m : Option (α × Sto)) (Q : α → Sto → Prop) : Prop := ∃ a S', m = some (a, S') ∧ Q a S'
structure En where
  nx : Env → Sto → Prop
  rt : D → Sto → Prop
  bk : Env → Sto → Prop
  ct : Env → Sto → Prop
def WpS (m : Option (Fl × Env × Sto)) (E : En) : Prop := match m with
  | some (.nx, e, S) => E.nx e S
  | some (.rt d, _, S) => E.rt d S
  | some (.bk, e, S) => E.bk e S
  | some (.ct, e, S) => E.ct e S
  | some (.xc _ _, _, _) => False
  | none => False
theorem wp_some {α : Type} (a : α) (S : Sto) (Q : α → Sto → Prop) : Wp (some (a, S)) Q = Q a S := by
  apply propext
  constructor
  · rintro ⟨a, S', e, q⟩; cases e; exact q
  · exact fun q => ⟨a, S, rfl, q⟩
theorem wp_none {α : Type} (Q : α → Sto → Prop) : Wp none Q = False := by
  apply propext
  constructor
  · rintro ⟨a, S', e, q⟩; cases e
  · exact False.elim
theorem wp_ite {α : Type} {c : Prop} [Decidable c] (m m' : Option (α × Sto)) (Q : α → Sto → Prop) : Wp (if c then m else m') Q = if c then Wp m Q else Wp m' Q := by split <;> rfl
theorem if_and {c : Prop} [Decidable c] {q : Prop} : (if c then q else False) = (c ∧ q) := by
  apply propext
  constructor
  · intro h; split at h
    · rename_i hc; exact ⟨hc, h⟩
    · exact h.elim
  · rintro ⟨hc, h⟩; rw [if_pos hc]; exact h
theorem wp_map {α β : Type} (o : Option α) (f : α → β × Sto) (Q : β → Sto → Prop) : Wp (o.map f) Q = ∃ a, o = some a ∧ Q (f a).1 (f a).2 := by
  cases o with
  | none => rw [Option.map_none, wp_none]; simp
  | some a => rw [Option.map_some]; simp only [Option.some.injEq, exists_eq_left']; exact wp_some (f a).1 (f a).2 Q
theorem Wp.mono {α : Type} {m : Option (α × Sto)} {Q Q' : α → Sto → Prop} (h : Wp m Q) (k : ∀ a S, Q a S → Q' a S) : Wp m Q' := let ⟨a, S, e, q⟩ := h; ⟨a, S, e, k a S q⟩
structure En.le (E E' : En) : Prop where
  nx : ∀ e S, E.nx e S → E'.nx e S
  rt : ∀ d S, E.rt d S → E'.rt d S
  bk : ∀ e S, E.bk e S → E'.bk e S
  ct : ∀ e S, E.ct e S → E'.ct e S
theorem WpS.mono {m : Option (Fl × Env × Sto)} {E E' : En} (h : WpS m E) (k : E.le E') : WpS m E' := by
  unfold WpS at *
  split at h
  · exact k.nx _ _ h
  · exact k.rt _ _ h
  · exact k.bk _ _ h
  · exact k.ct _ _ h
  · exact h
  · exact h
theorem ws_nx (e : Env) (S : Sto) (E : En) : WpS (some (.nx, e, S)) E = E.nx e S := rfl
theorem ws_none (E : En) : WpS none E = False := rfl
/-! expressions -/
section
variable (env : Env) (S : Sto)
theorem w_var (i : Nat) (Q : D → Sto → Prop) : Wp (fVar i env S) Q = ∃ d, env[i]? = some (some d) ∧ Q d S := by
  unfold fVar
  split
  · rename_i d h; rw [wp_some, h]; simp
  · rename_i h; rw [wp_none]; simp; intro d hd; exact absurd hd (h d)
theorem w_C (d : D) (Q : D → Sto → Prop) : Wp (fC d env S) Q = Q d S := wp_some _ _ _
theorem w_op (g : G2) (fa fb : FE) (Q : D → Sto → Prop) : Wp (fOp g fa fb env S) Q = Wp (fa env S) fun a S1 => Wp (fb env S1) fun b S2 => Wp (g a b S2) Q := by
  unfold fOp
  cases h : fa env S with
  | none => simp only [wp_none]
  | some p => obtain ⟨a, S1⟩ := p; simp only [wp_some]; cases h2 : fb env S1 with
    | none => simp only [wp_none]
    | some p => obtain ⟨b, S2⟩ := p; simp only [wp_some]
theorem w_un (g : D → Sto → Option (D × Sto)) (fa : FE) (Q : D → Sto → Prop) : Wp (fUn g fa env S) Q = Wp (fa env S) fun a S1 => Wp (g a S1) Q := by
  unfold fUn
  cases h : fa env S with
  | none => simp only [wp_none]
  | some p => obtain ⟨a, S1⟩ := p; simp only [wp_some]
theorem w_test (f : FE) (Q : Bool → Sto → Prop) : Wp (fTest f env S) Q = Wp (f env S) fun a S1 => ∃ b, a = .bl b ∧ Q b S1 := by
  unfold fTest
  split
  · rename_i b S1 h; rw [h, wp_some, wp_some]; simp
  · rename_i h
    cases h2 : f env S with
    | none => simp only [wp_none]
    | some p => obtain ⟨a, S1⟩ := p; rw [wp_none, wp_some]; simp only [eq_iff_iff, false_iff]; rintro ⟨b, rfl, _⟩; exact absurd h2 (h b S1)
theorem w_truth (f : FE) (Q : Bool → Sto → Prop) : Wp (fTruth f env S) Q = Wp (f env S) fun a S1 => ∃ b, a.truth S1 = some b ∧ Q b S1 := by
  unfold fTruth
  cases h : f env S with
  | none => simp only [wp_none]
  | some p => obtain ⟨a, S1⟩ := p; simp only [wp_some, wp_map]
theorem w_andT (fa fb : FT) (Q : Bool → Sto → Prop) : Wp (fAndT fa fb env S) Q = Wp (fa env S) fun a S1 => if a = true then Wp (fb env S1) Q else Q false S1 := by
  unfold fAndT
  cases h : fa env S with
  | none => simp only [wp_none]
  | some p => obtain ⟨a, S1⟩ := p; cases a <;> simp [wp_some]
theorem w_orT (fa fb : FT) (Q : Bool → Sto → Prop) : Wp (fOrT fa fb env S) Q = Wp (fa env S) fun a S1 => if a = true then Q true S1 else Wp (fb env S1) Q := by
  unfold fOrT
  cases h : fa env S with
  | none => simp only [wp_none]
  | some p => obtain ⟨a, S1⟩ := p; cases a <;> simp [wp_some]
theorem w_notT (fa : FT) (Q : Bool → Sto → Prop) : Wp (fNotT fa env S) Q = Wp (fa env S) fun a S1 => Q (!a) S1 := by
  unfold fNotT
  cases h : fa env S with
  | none => simp only [wp_none, Option.map_none]
  | some p => obtain ⟨a, S1⟩ := p; simp only [Option.map_some, wp_some]
theorem w_andV (fa fb : FE) (Q : D → Sto → Prop) : Wp (fAndV fa fb env S) Q = Wp (fa env S) fun a S1 => ∃ b, a = .bl b ∧ if b = true then Wp (fb env S1) Q else Q (.bl false) S1 := by
  unfold fAndV
  split
  · rename_i S1 h; rw [h, wp_some]; simp
  · rename_i S1 h; rw [h, wp_some, wp_some]; simp
  · rename_i h1 h2
    cases h3 : fa env S with
    | none => simp only [wp_none]
    | some p => obtain ⟨a, S1⟩ := p; rw [wp_none, wp_some]; simp only [eq_iff_iff, false_iff]; rintro ⟨b, rfl, _⟩; cases b with
      | true => exact absurd h3 (h1 S1)
      | false => exact absurd h3 (h2 S1)
theorem w_orV (fa fb : FE) (Q : D → Sto → Prop) : Wp (fOrV fa fb env S) Q = Wp (fa env S) fun a S1 => ∃ b, a = .bl b ∧ if b = true then Q (.bl true) S1 else Wp (fb env S1) Q := by
  unfold fOrV
  split
  · rename_i S1 h; rw [h, wp_some]; simp
  · rename_i S1 h; rw [h, wp_some, wp_some]; simp
  · rename_i h1 h2
    cases h3 : fa env S with
    | none => simp only [wp_none]
    | some p => obtain ⟨a, S1⟩ := p; rw [wp_none, wp_some]; simp only [eq_iff_iff, false_iff]; rintro ⟨b, rfl, _⟩; cases b with
      | true => exact absurd h3 (h2 S1)
      | false => exact absurd h3 (h1 S1)
theorem w_notV (fa : FE) (Q : D → Sto → Prop) : Wp (fNotV fa env S) Q = Wp (fa env S) fun a S1 => ∃ b, a = .bl b ∧ Q (.bl (!b)) S1 := by
  unfold fNotV
  split
  · rename_i b S1 h; rw [h, wp_some, wp_some]; simp
  · rename_i h
    cases h2 : fa env S with
    | none => simp only [wp_none]
    | some p => obtain ⟨a, S1⟩ := p; rw [wp_none, wp_some]; simp only [eq_iff_iff, false_iff]; rintro ⟨b, rfl, _⟩; exact absurd h2 (h b S1)
theorem w_if (ft : FT) (fa fb : FE) (Q : D → Sto → Prop) : Wp (fIf ft fa fb env S) Q = Wp (ft env S) fun b S1 => if b = true then Wp (fa env S1) Q else Wp (fb env S1) Q := by
  unfold fIf
  cases h : ft env S with
  | none => simp only [wp_none]
  | some p => obtain ⟨a, S1⟩ := p; cases a <;> simp [wp_some]
theorem w_anil (Q : List D → Sto → Prop) : Wp (faNil env S) Q = Q [] S := wp_some _ _ _
theorem w_acons (f : FE) (g : FA) (Q : List D → Sto → Prop) : Wp (faCons f g env S) Q = Wp (f env S) fun d S1 => Wp (g env S1) fun ds S2 => Q (d :: ds) S2 := by
  unfold faCons
  cases h : f env S with
  | none => simp only [wp_none]
  | some p => obtain ⟨a, S1⟩ := p; simp only [wp_some]; cases h2 : g env S1 with
    | none => simp only [wp_none]
    | some p => obtain ⟨b, S2⟩ := p; simp only [wp_some]
theorem w_tup (g : FA) (Q : D → Sto → Prop) : Wp (fTup g env S) Q = Wp (g env S) fun ds S1 => ds.length ≤ 1000 ∧ Q (.tup ds) S1 := by
  unfold fTup
  cases h : g env S with
  | none => simp only [wp_none]
  | some p => obtain ⟨a, S1⟩ := p; simp only [wp_some, wp_ite, wp_none, if_and]
theorem w_lst (g : FA) (Q : D → Sto → Prop) : Wp (fLst g env S) Q = Wp (g env S) fun ds S1 => ds.length ≤ 1000 ∧ Q (.lst ds) S1 := by
  unfold fLst
  cases h : g env S with
  | none => simp only [wp_none]
  | some p => obtain ⟨a, S1⟩ := p; simp only [wp_some, wp_ite, wp_none, if_and]
theorem w_lstN (g : FA) (Q : D → Sto → Prop) : Wp (fLstN g env S) Q = Wp (g env S) fun ds S1 => ds.length ≤ 1000 ∧ Q (.obj S1.length) (S1 ++ [.lst ds]) := by
  unfold fLstN
  cases h : g env S with
  | none => simp only [wp_none]
  | some p => obtain ⟨a, S1⟩ := p; simp only [wp_some, wp_ite, wp_none, if_and]
theorem w_call (n : Nat) (F : Fn) (g : FA) (dd : List D) (Q : D → Sto → Prop) : Wp (fCall n F g dd env S) Q = Wp (g env S) fun ds S1 => (ds ++ dd).length = n ∧ Wp (F (ds ++ dd) S1) Q := by
  unfold fCall
  cases h : g env S with
  | none => simp only [wp_none]
  | some p => obtain ⟨a, S1⟩ := p; simp only [wp_some, wp_ite, wp_none, if_and]
theorem w_callN (n i j : Nat) (F : Fn) (hh : List D → List D → List D) (g gk : FA) (Q : D → Sto → Prop) : Wp (fCallN n i j F hh g gk env S) Q = Wp (g env S) fun ds S1 => Wp (gk env S1) fun es S2 => (ds.length = i ∧ es.length = j ∧ (hh ds es).length = n) ∧ Wp (F (hh ds es) S2) Q := by
  unfold fCallN
  cases h : g env S with
  | none => simp only [wp_none]
  | some p => obtain ⟨a, S1⟩ := p; simp only [wp_some]; cases h2 : gk env S1 with
    | none => simp only [wp_none]
    | some p => obtain ⟨b, S2⟩ := p; simp only [wp_some, wp_ite, wp_none, if_and]
theorem w_B (g : Fn) (fa : FA) (Q : D → Sto → Prop) : Wp (fB g fa env S) Q = Wp (fa env S) fun ds S1 => Wp (g ds S1) Q := by
  unfold fB
  cases h : fa env S with
  | none => simp only [wp_none]
  | some p => obtain ⟨a, S1⟩ := p; simp only [wp_some]
theorem w_M (T : String) (g : GM) (fo : FE) (fa : FA) (Q : D → Sto → Prop) : Wp (fM T g fo fa env S) Q = Wp (fo env S) fun a S1 => tyD T S1 a = true ∧ Wp (fa env S1) fun ds S2 => Wp (g a ds S2) Q := by
  unfold fM
  cases h : fo env S with
  | none => simp only [wp_none]
  | some p =>
    obtain ⟨a, S1⟩ := p
    simp only [wp_some, wp_ite, wp_none]
    cases h2 : fa env S1 with
    | none => simp [wp_none]
    | some p => obtain ⟨b, S2⟩ := p; simp only [wp_some, if_and]
theorem w_M0 (T : String) (g : GM) (fo : FE) (Q : D → Sto → Prop) : Wp (fM0 T g fo env S) Q = Wp (fo env S) fun a S1 => tyD T S1 a = true ∧ Wp (g a [] S1) Q := by
  unfold fM0
  cases h : fo env S with
  | none => simp only [wp_none]
  | some p => obtain ⟨a, S1⟩ := p; simp only [wp_some, wp_ite, wp_none, if_and]
theorem w_rng1 (g : FA) (Q : List D → Sto → Prop) : Wp (fRng1 g env S) Q = Wp (g env S) fun ds S1 => ∃ j, ds = [.int j] ∧ (-(2 ^ 62) ≤ j ∧ j < 2 ^ 62) ∧ Q (rngD 0 j.toNat) S1 := by
  unfold fRng1
  split
  · rename_i j S1 h; rw [h, wp_some, wp_ite, wp_some, wp_none]
    apply propext
    constructor
    · intro z; split at z
      · rename_i c; exact ⟨j, rfl, c, z⟩
      · exact z.elim
    · rintro ⟨k, e, c, q⟩; cases e; rw [if_pos c]; exact q
  · rename_i h
    cases h5 : g env S with
    | none => simp only [wp_none]
    | some p => obtain ⟨c, S3⟩ := p; rw [wp_none, wp_some]; simp only [eq_iff_iff, false_iff]; rintro ⟨k, rfl, _⟩; exact absurd h5 (h k S3)
theorem w_lc (own : List Nat) (fi : FA) (g : FG) (ft : FT) (fe : FE) (Q : D → Sto → Prop) : Wp (fLc own fi g ft fe env S) Q = Wp (fi env S) fun ds S1 => ds.length ≤ 100000 ∧ Wp (fLcL g ft fe (wipeD env own) ds S1) fun ys S2 => Q (.lst ys) S2 := by
  unfold fLc
  cases h : fi env S with
  | none => simp only [wp_none]
  | some p =>
    obtain ⟨ds, S1⟩ := p
    simp only [wp_some, wp_ite, wp_none]
    cases h2 : fLcL g ft fe (wipeD env own) ds S1 with
    | none => simp [wp_none]
    | some p => obtain ⟨b, S2⟩ := p; simp only [wp_some, if_and]
theorem w_yes (Q : Bool → Sto → Prop) : Wp (fYes env S) Q = Q true S := wp_some _ _ _
theorem w_dnew (Q : D → Sto → Prop) : Wp (fDNew env S) Q = Q (.obj S.length) (S ++ [.dct []]) := wp_some _ _ _
theorem w_oNone (Q : Option Int → Sto → Prop) : Wp (foNone env S) Q = Q none S := wp_some _ _ _
theorem w_oSome (f : FE) (Q : Option Int → Sto → Prop) : Wp (foSome f env S) Q = Wp (f env S) fun d S1 => ∃ i, d = .int i ∧ Q (some i) S1 := by
  unfold foSome
  split
  · rename_i i S1 h; rw [h, wp_some, wp_some]; simp
  · rename_i h
    cases h5 : f env S with
    | none => simp only [wp_none]
    | some p => obtain ⟨c, S3⟩ := p; rw [wp_none, wp_some]; simp only [eq_iff_iff, false_iff]; rintro ⟨k, rfl, _⟩; exact absurd h5 (h k S3)
theorem w_slice (f : FE) (fl fh : FO) (Q : D → Sto → Prop) : Wp (fSlice f fl fh env S) Q = Wp (f env S) fun d S1 => Wp (fl env S1) fun lo S2 => Wp (fh env S2) fun hi S3 => Wp (gCut d lo hi S3) Q := by
  unfold fSlice
  cases h : f env S with
  | none => simp only [wp_none]
  | some p =>
    obtain ⟨d, S1⟩ := p
    simp only [wp_some]
    cases h2 : fl env S1 with
    | none => simp only [wp_none]
    | some p =>
      obtain ⟨lo, S2⟩ := p
      simp only [wp_some]
      cases h3 : fh env S2 with
      | none => simp only [wp_none]
      | some p => obtain ⟨hi, S3⟩ := p; simp only [wp_some]
/-! statements -/
variable (E : En)
theorem w_next : WpS (fNext env S) E = E.nx env S := rfl
theorem w_no : WpS (fNone env S) E = False := rfl
theorem w_brk : WpS (fBrk env S) E = E.bk env S := rfl
theorem w_cnt : WpS (fCnt env S) E = E.ct env S := rfl
theorem w_retN : WpS (fRetN env S) E = E.rt .non S := rfl
theorem w_seq (f g : FS) : WpS (fSeq f g env S) E = WpS (f env S) ⟨fun e S1 => WpS (g e S1) E, E.rt, E.bk, E.ct⟩ := by
  unfold fSeq
  cases h : f env S with
  | none => rfl
  | some p => obtain ⟨fl, e, S1⟩ := p; cases fl <;> rfl
theorem w_drop (f : FE) : WpS (fDrop f env S) E = Wp (f env S) fun _ S1 => E.nx env S1 := by
  unfold fDrop
  cases h : f env S with
  | none => rw [wp_none]; rfl
  | some p => obtain ⟨d, S1⟩ := p; rw [wp_some]; rfl
theorem w_ret (f : FE) : WpS (fRet f env S) E = Wp (f env S) fun d S1 => E.rt d S1 := by
  unfold fRet
  cases h : f env S with
  | none => rw [wp_none]; rfl
  | some p => obtain ⟨d, S1⟩ := p; rw [wp_some]; rfl
theorem w_ifS (c : FT) (f g : FS) : WpS (fIfS c f g env S) E = Wp (c env S) fun b S1 => if b = true then WpS (f env S1) E else WpS (g env S1) E := by
  unfold fIfS
  cases h : c env S with
  | none => rw [wp_none]; rfl
  | some p => obtain ⟨d, S1⟩ := p; rw [wp_some]; cases d <;> simp
theorem w_nm (i : Nat) (d : D) (Q : Env → Sto → Prop) : Wp (gNm i d env S) Q = Q (env.set i (some d)) S := wp_some _ _ _
theorem w_sub (fo fi : FE) (g : GS) (d : D) (Q : Env → Sto → Prop) : Wp (gSub fo fi g d env S) Q = Wp (fo env S) fun a S1 => Wp (fi env S1) fun b S2 => ∃ S3, g a b d S2 = some S3 ∧ Q env S3 := by
  unfold gSub
  cases h : fo env S with
  | none => simp only [wp_none]
  | some p =>
    obtain ⟨a, S1⟩ := p
    simp only [wp_some]
    cases h2 : fi env S1 with
    | none => simp only [wp_none]
    | some p =>
      obtain ⟨b, S2⟩ := p
      simp only [wp_some]
      cases h3 : g a b d S2 with
      | none => simp [wp_none]
      | some S3 => simp [wp_some]
theorem w_asg (f : FE) (g : FG) : WpS (fAsg f g env S) E = Wp (f env S) fun d S1 => Wp (g d env S1) fun e S2 => E.nx e S2 := by
  unfold fAsg
  cases h : f env S with
  | none => rw [wp_none]; rfl
  | some p =>
    obtain ⟨d, S1⟩ := p
    rw [wp_some]
    cases h2 : g d env S1 with
    | none => rw [wp_none]; simp only [h2]; rfl
    | some p => obtain ⟨e, S2⟩ := p; rw [wp_some]; simp only [h2]; rfl
theorem w_par (i j : Nat) (g : FA) : WpS (fPar i j g env S) E = Wp (g env S) fun ds S1 => ∃ d e, ds = [d, e] ∧ E.nx ((env.set i (some d)).set j (some e)) S1 := by
  unfold fPar
  split
  · rename_i d e S1 h; rw [h, wp_some]; simp only [ws_nx, eq_iff_iff]; exact ⟨fun q => ⟨d, e, rfl, q⟩, fun ⟨_, _, z, q⟩ => by cases z; exact q⟩
  · rename_i h
    cases h5 : g env S with
    | none => rw [wp_none]; rfl
    | some p => obtain ⟨c, S3⟩ := p; rw [wp_some]; simp only [ws_none, eq_iff_iff, false_iff]; rintro ⟨k, k2, rfl, _⟩; exact absurd h5 (h k k2 S3)
theorem w_for (fi : FA) (g : FG) (b : FS) : WpS (fFor fi g b env S) E = Wp (fi env S) fun ds S1 => WpS (fForL g b ds env S1) E := by
  unfold fFor
  cases h : fi env S with
  | none => rw [wp_none]; rfl
  | some p => obtain ⟨d, S1⟩ := p; rw [wp_some]
theorem w_fornil (g : FG) (b : FS) : WpS (fForL g b [] env S) E = E.nx env S := rfl
theorem w_forcons (g : FG) (b : FS) (d : D) (ds : List D) : WpS (fForL g b (d :: ds) env S) E = Wp (g d env S) fun e S1 => WpS (b e S1) ⟨fun e2 S2 => WpS (fForL g b ds e2 S2) E, E.rt, E.nx, fun e2 S2 => WpS (fForL g b ds e2 S2) E⟩ := by
  rw [fForL]
  cases h : g d env S with
  | none => rw [wp_none]; rfl
  | some p =>
    obtain ⟨e, S1⟩ := p
    rw [wp_some]
    simp only
    cases h2 : b e S1 with
    | none => rfl
    | some p => obtain ⟨fl, e2, S2⟩ := p; cases fl <;> rfl
theorem w_aug (i : Nat) (g : G2) (fe : FE) : WpS (fAug i g fe env S) E = ∃ a, env[i]? = some (some a) ∧ Wp (fe env S) fun b S1 => Wp (g a b S1) fun c S2 => E.nx (env.set i (some c)) S2 := by
  unfold fAug
  split
  · rename_i a h
    rw [h]
    simp only [Option.some.injEq, exists_eq_left']
    cases h1 : fe env S with
    | none => rw [wp_none]; rfl
    | some p =>
      obtain ⟨b, S1⟩ := p
      rw [wp_some]
      cases h2 : g a b S1 with
      | none => rw [wp_none]; simp only [h2]; rfl
      | some p => obtain ⟨c, S2⟩ := p; rw [wp_some]; simp only [h2]; rfl
  · rename_i h; simp only [ws_none, eq_iff_iff, false_iff]; rintro ⟨a, e, _⟩; exact h a e
end
/-- a loop, by what holds between two turns -/
theorem w_for_inv {g : FG} {b : FS} {E : En} (I : Nat → Env → Sto → Prop) {ds : List D} {env : Env} {S : Sto} (h0 : I 0 env S)
    (hs : ∀ i d env S, ds[i]? = some d → I i env S → Wp (g d env S) fun e S1 => WpS (b e S1) ⟨I (i + 1), E.rt, E.nx, I (i + 1)⟩) (hq : ∀ env S, I ds.length env S → E.nx env S) : WpS (fForL g b ds env S) E := by
  have key : ∀ (k : Nat) (env : Env) (S : Sto) (i : Nat), ds.length - i = k → i ≤ ds.length → I i env S → WpS (fForL g b (ds.drop i) env S) E := by
    intro k
    induction k with
    | zero =>
      intro env S i hk hi h
      have e : i = ds.length := by omega
      subst e
      rw [List.drop_length, w_fornil]
      exact hq env S h
    | succ k ih =>
      intro env S i hk hi h
      have hlt : i < ds.length := by omega
      rw [List.drop_eq_getElem_cons hlt, w_forcons]
      refine (hs i ds[i] env S (by simp [hlt]) h).mono fun e S1 q => q.mono ⟨fun e2 S2 z => ih e2 S2 (i + 1) (by omega) (by omega) z, fun _ _ z => z, fun _ _ z => z, fun e2 S2 z => ih e2 S2 (i + 1) (by omega) (by omega) z⟩
  have := key ds.length env S 0 (by omega) (by omega) h0
  simpa using this
/-- a def's run -/
theorem w_run (md : Md) (n : Nat) (b : FS) (ds : List D) (S : Sto) (Q : D → Sto → Prop) : Wp (runD md n b ds S) Q = WpS (b (startD n ds) S) ⟨fun _ S' => Wp (gc md S .non S') Q, fun d S' => Wp (gc md S d S') Q, fun _ _ => False, fun _ _ => False⟩ := by
  unfold runD
  cases h : b (startD n ds) S with
  | none => rw [wp_none]; rfl
  | some p => obtain ⟨fl, e2, S2⟩ := p; cases fl <;> first | rfl | (rw [wp_none]; rfl)
end J

/-! for z in zip(t, u), t and u tuples: each pair is kept -/
namespace Kx
open PySem PySem.Spec PyProof.Rows L2 RZ
open PySem.Sem (wp)
section
variable {prog : Program} {w : World} {A : Around} {E : Value → Shared → Prop} {s : Shared}
end
/-- each pair a new one -/
def ItzN (K : PySem.W.Frag) (a b : Addr) : It :=
  ⟨fun i H => ∃ (xs ys : List V) (x y : V), SqT K H a xs ∧ SqT K H b ys ∧ xs[i]? = some x ∧ ys[i]? = some y,
    fun i H v H' => ∃ T x y, v = .ref T ∧ H T = none ∧ H' = upd H T (.tup [x, y]) ∧ (∀ xs, SqT K H a xs → xs[i]? = some x) ∧ ∀ ys, SqT K H b ys → ys[i]? = some y,
    fun i H => ∃ xs ys : List V, SqT K H a xs ∧ SqT K H b ys ∧ (xs.length ≤ i ∨ ys.length ≤ i)⟩
def iZipN (K : PySem.W.Frag) (ta : TA) : TI := fun σ H R => ta σ H fun vs H1 => ∃ a b xs ys, vs = [.ref a, .ref b] ∧ SqT K H1 a xs ∧ SqT K H1 b ys ∧ R (ItzN K a b) H1
end Kx

set_option autoImplicit false
namespace J
open PySem PySem.Spec PyProof.Rows L2
variable {K : PySem.W.Frag} {P : Program} {w : World} {X : Cx}
/-! sep.join(texts) -/
def D.strs : List D → Option (List Str)
  | [] => some []
  | .str x :: ds => (D.strs ds).map fun xs => x :: xs
  | _ => none
def gJoin : GM := fun a ds S => match a, ds with
  | .str sep, [d] => match d.seqS S with
    | some es => match D.strs es with
      | some ys => if (ys.map (·.length)).sum + ys.length * sep.length ≤ 16777216 then some (.str (Txt.join sep ys), S) else none
      | none => none
    | none => none
  | _, _ => none
end J

set_option autoImplicit false
namespace J
open PySem PySem.Spec PyProof.Rows L2
variable {K : PySem.W.Frag} {P : Program} {w : World} {X : Cx}
/-! sorted(xs), xs data that can be compared place by place -/
noncomputable abbrev srtP (bs : List (V × PyData)) : List (V × PyData) := bs.mergeSort (PySem.W.dataLe false (·.2))
def rSortD (K : PySem.W.Frag) : List V → Hp → VK → Prop := fun vs H Q => ∃ (a : Addr) (bs : List (V × PyData)), vs = [V.ref a] ∧ SqL K H a (bs.map (·.1)) ∧ (∀ b ∈ bs, Dp K H b.1 b.2) ∧ PySem.W.AllAlike (bs.map (·.2)) ∧ PySem.W.Sortable (bs.map (·.2)) ∧ (∀ b ∈ bs, b.2.depth ≤ 60) ∧
  ∀ p, H p = none → Q (.ref p) (upd H p (.lst ((srtP bs).map (·.1))))
/-! sorted(d), d a dict with tuples as keys -/
def rSortK (P : Program) (w : World) (K : PySem.W.Frag) : List V → Hp → VK → Prop := fun vs H Q => ∃ (a : Addr) (xs : List (NestedKey × Addr × V)) (bs : List (V × PyData)), vs = [V.ref a] ∧ H a = some (DictE P w a xs) ∧ KeysOk K H xs ∧ bs.map (·.1) = xs.map (fun x => V.ref x.2.1) ∧ (∀ b ∈ bs, Dp K H b.1 b.2) ∧ PySem.W.AllAlike (bs.map (·.2)) ∧ PySem.W.Sortable (bs.map (·.2)) ∧ (∀ b ∈ bs, b.2.depth ≤ 60) ∧
  ∀ p, H p = none → Q (.ref p) (upd H p (.lst ((srtP bs).map (·.1))))
end J

set_option autoImplicit false
namespace J
open PySem PySem.Spec PyProof.Rows L2 PySem.W
variable {K : PySem.W.Frag} {P : Program} {w : World} {X : Cx}
/-! a dict as a source: its keys are the objects that stand in it -/
mutual
theorem reads_there {h : Heap} : ∀ {v : Value} {d : PyData} {as : List Addr}, Reads h v d as → ∀ a ∈ as, ∃ o, h.get? a = some o
  | _, _, _, .none, a, m => by cases m
  | _, _, _, .bool _, a, m => by cases m
  | _, _, _, .int .., a, m => by cases m
  | _, _, _, .str .., a, m => by cases m
  | _, _, _, .list h1 _ _ q, a, m => by
    rcases List.mem_cons.mp m with z | z
    · exact ⟨_, by rw [z]; exact h1⟩
    · exact readsAll_there q a z
  | _, _, _, .tuple _ _ _ q, a, m => readsAll_there q a m
  | _, _, _, .dict h1 _ _ q q', a, m => by
    rcases List.mem_cons.mp m with z | z
    · exact ⟨_, by rw [z]; exact h1⟩
    · rcases List.mem_append.mp z with z | z
      · exact readsAll_there q a z
      · exact readsAll_there q' a z
theorem readsAll_there {h : Heap} : ∀ {vs : List Value} {ds : List PyData} {as : List Addr}, ReadsAll h vs ds as → ∀ a ∈ as, ∃ o, h.get? a = some o
  | _, _, _, .nil, a, m => by cases m
  | _, _, _, .cons r q, a, m => by
    rcases List.mem_append.mp m with z | z
    · exact reads_there r a z
    · exact readsAll_there q a z
end
end J

namespace J
open PySem PySem.Spec PyProof.Rows L2
open Kx (No noF noX)
/-! {k: v for x in it}, the keys tuples -/
abbrev DcE (kx vx tg iter : Expr) (sc : Scope) (pos : Pos) : Expr := .DictComp kx vx [⟨tg, iter, [], 0⟩] sc pos
section
variable {prog : Program} {w : World} {A : Around} {R : Result → Shared → Prop} {s : Shared} {kx vx tg iter : Expr} {sc : Scope} {pos : Pos}
end
section
variable {Y : Cx}
def tPut (P : Program) (w : World) (K : PySem.W.Frag) (tk tv : TE) (D : Addr) (σ : L2.St) (H : Hp) (Nx : Hp → Prop) : Prop := tk σ H fun y H1 => tv σ H1 fun z H2 => ∃ b xs k, y = .ref b ∧ H2 D = some (DictE P w D xs) ∧ KeysOk K H2 xs ∧ KeyV K H2 (.ref b) k ∧ k.depth ≤ 8 ∧ xs.length < sizeLine ∧ Nx (upd H2 D (DictE P w D (putX xs k b z)))
end
def tDcE (P : Program) (w : World) (K : PySem.W.Frag) (wi : TI) (g : TG) (tk tv : TE) (vs : List Nat) : TE := fun σ H Q => wi σ H fun J H1 => ∀ D, H1 D = none → ∃ W : Nat → Nat → Hp → Prop, (∃ m, W 0 m (upd H1 D (DictE P w D []))) ∧ ∀ i m H, W i m H →
  (J.stop i H ∧ Q (.ref D) H) ∨ (J.go i H ∧ ∃ N1 : Hp → Prop, (∀ H', N1 H' → ∃ m', m' < m ∧ W (i + 1) m' H') ∧ ∀ x H', J.yld i H x H' → g x (wipe σ vs) H' fun σ2 H2 => wipe σ2 vs = wipe σ vs ∧ tPut P w K tk tv D σ2 H2 N1)
section
variable {X : Cx} {kx vx tg iter : Expr} {sc : Scope} {pos : Pos}
end
end J

set_option autoImplicit false
namespace J
open PySem PySem.Spec PyProof.Rows L2
variable {K : PySem.W.Frag} {P : Program} {w : World} {X : Cx}
/-! sorted(e) by values -/
noncomputable def srtD (es : List D) (ps : List PyData) : List D := ((es.zip ps).mergeSort (PySem.W.dataLe false (·.2))).map (·.1)
open Classical in
noncomputable def gSortL (es : List D) (S : Sto) : Option (D × Sto) := match D.pys es with
  | some ps => if PySem.W.AllAlike ps ∧ PySem.W.Sortable ps ∧ (∀ p ∈ ps, p.depth ≤ 60) then some (.lst (srtD es ps), S) else none
  | none => none
noncomputable def gSorted : Fn := fun ds S => match ds with
  | [.obj j] => match S[j]? with
    | some (.lst es) => gSortL es S
    | some (.dct kvs) => gSortL (kvs.map fun p => p.2.1) S
    | _ => none
  | [.lst es] => gSortL es S
  | [.scr es] => gSortL es S
  | _ => none
abbrev T3 := V × D × PyData
def Tri (K : PySem.W.Frag) (H : Hp) (μ : Mp) (t : T3) : Prop := Rv K H μ t.1 t.2.1 ∧ D.py t.2.1 = some t.2.2
def rSortJ (P : Program) (w : World) (K : PySem.W.Frag) : List V → Hp → VK → Prop := fun xs H Q => rSortD K xs H Q ∨ rSortK P w K xs H Q
end J

set_option autoImplicit false
namespace J
open PySem PySem.Spec PyProof.Rows L2
variable {K : PySem.W.Frag} {P : Program} {w : World} {X : Cx}
/-! {k: v for x in it} by values -/
def fDcL (n : Nat) (g : FG) (fk fv : FE) (env : Env) : List D → Sto → Option Sto
  | [], S => some S
  | d :: ds, S => match g d env S with
    | none => none
    | some (env1, S1) => match fk env1 S1 with
      | none => none
      | some (a, S2) => match fv env1 S2 with
        | none => none
        | some (b, S3) => match S3[n]? with
          | some (.dct kvs) => match a.tkey with
            | some k => if kvs.length < 100000 then fDcL n g fk fv env ds (S3.set n (.dct (putD kvs k a b))) else none
            | none => none
          | _ => none
def fDc (own : List Nat) (fi : FA) (g : FG) (fk fv : FE) : FE := fun env S => match fi env S with
  | none => none
  | some (ds, S1) => match fDcL S1.length g fk fv (wipeD env own) ds (S1 ++ [.dct []]) with
    | some S2 => some (.obj S1.length, S2)
    | none => none
end J

set_option autoImplicit false
namespace J
open PySem PySem.Spec PyProof.Rows L2
variable {K : PySem.W.Frag} {P : Program} {w : World} {X : Cx}
/-! zip(t, u) to a name -/
/-! x is True -/
def gIsB (neg : Bool) : G2 := fun a b S => match a, b with
  | .bl x, .bl y => some (.bl (neg ^^ decide (x = y)), S)
  | _, _ => none
end J

set_option autoImplicit false
namespace J
open PySem PySem.Spec PyProof.Rows L2
variable {K : PySem.W.Frag} {P : Program} {w : World} {X : Cx}
/-! len of a dict with tuples as keys -/
def gLenE : Fn := fun ds S => match ds with
  | [.obj k] => match S[k]? with
    | some (.dct kvs) => some (.int kvs.length, S)
    | _ => none
  | _ => none
def rLenE (P : Program) (w : World) (K : PySem.W.Frag) : List V → Hp → VK → Prop := fun xs H Q => ∃ a es, xs = [.ref a] ∧ H a = some (DictE P w a es) ∧ KeysOk K H es ∧ Q (.int es.length) H
end J

namespace RVT
open PySem PySem.Spec PyProof.Rows HT
section
variable {prog : Program} {w : World} {A : Around} {E : Value → Shared → Prop} {s : Shared}
/-! t[::-1], t a tuple -/
end
end RVT
namespace J
open PySem PySem.Spec PyProof.Rows L2
variable {K : PySem.W.Frag} {P : Program} {w : World} {X : Cx}
def tRevT (K : PySem.W.Frag) (te : TE) : TE := fun σ H Q => te σ H fun x H1 => ∃ a xs, x = .ref a ∧ ((SqL K H1 a xs ∧ ∀ p, H1 p = none → Q (.ref p) (upd H1 p (.lst xs.reverse))) ∨ (SqT K H1 a xs ∧ ∀ p, H1 p = none → Q (.ref p) (upd H1 p (.tup xs.reverse))))
def gRevT : D → Sto → Option (D × Sto) := fun d S => match d with
  | .tup ds => some (.tup ds.reverse, S)
  | .lst ds => some (.lst ds.reverse, S)
  | _ => none
end J

set_option autoImplicit false
namespace J
open PySem PySem.Spec PyProof.Rows L2
variable {K : PySem.W.Frag} {P : Program} {w : World} {X : Cx}
/-! texts: order, a sign in a text, iteration -/
def gLeS : G2 := fun a b S => match a, b with
  | .str i, .str j => some (.bl (!decide (j.cps.toList < i.cps.toList)), S)
  | _, _ => none
def gSgn : G2 := fun a b S => match a, b with
  | .str x, .str z => match x.cps.toList with
    | [c] => some (.bl (decide (c ∈ z.cps.toList)), S)
    | _ => none
  | _, _ => none
def sgD (x : Str) : List D := x.cps.toList.map fun c => .str ⟨#[c]⟩
theorem itf_str {H0 : Hp} {μ0 : Mp} {x : Str} : ItF P w K (Its x) (sgD x) μ0 H0 := by
  intro μ H l
  have hl : (sgD x).length = x.cps.size := by rw [sgD, List.length_map, Array.length_toList]
  refine ⟨fun S hr => ⟨fun i hi => ?_, ?_⟩, fun i S v H' d hr h1 y => ?_⟩
  · show i < x.cps.size
    omega
  · show x.cps.size ≤ _
    omega
  · obtain ⟨rfl, c, hc, rfl⟩ := y
    refine ⟨.refl _ _, hr, ?_⟩
    rw [sgD, List.getElem?_map, Array.getElem?_toList, hc] at h1
    cases h1
    exact .str _
def fStr (f : FE) : FA := fun env S => match f env S with
  | some (.str x, S1) => some (sgD x, S1)
  | _ => none
theorem ji_str {tg e : Expr} {f : FE} (he : JE X e f) : JI X tg e (fStr f) := by
  obtain ⟨t, pa, q⟩ := he
  refine ⟨_, pi_str pa, fun σ H μ env S ds S' R hr er hf k => ?_⟩
  unfold fStr at hf
  split at hf
  · rename_i x S1 e1
    cases hf
    refine q σ H μ env S _ _ _ hr er e1 fun v H1 μ1 l hr1 r => ?_
    cases r
    exact ⟨_, rfl, k _ H1 μ1 l hr1 itf_str⟩
  · cases hf
/-! tuple * int -/
def gRepT : G2 := fun a b S => match a, b with
  | .tup ds, .int k => if ds = [] then none else if 2 ≤ k ∧ k ≤ 1000 ∧ ds.length ≤ 1000 then some (.tup (List.replicate k.toNat ds).flatten, S) else none
  | _, _ => none
/-! repr of a text, of a truth value, of all else -/
def gReprD : Fn := fun ds S => match ds with
  | [.str x] => if (reprText x).length ≤ sizeLine then some (.str (reprText x), S) else none
  | [.bl b] => some (.str (if b then "True" else "False"), S)
  | [.int i] => if i.natAbs.log2 < 1920 then some (.str (toString i), S) else none
  | ds => gReprA ds S
def rReprD (K : PySem.W.Frag) : List V → Hp → VK → Prop := fun xs H Q => ((∃ x, xs = [.str x] ∧ (reprText x).length ≤ sizeLine ∧ Q (.str (reprText x)) H) ∨ ∃ b, xs = [.bl b] ∧ Q (.str (if b then "True" else "False")) H) ∨ rReprA K xs H Q
theorem cr_reprD (hg : X.A.guards = some []) (hu : X.A.units + 64 < cLine) : CallR X (.builtin "repr") (rReprD X.K) := by
  intro pins s σ H xs us Q I r h
  rcases h with (⟨x, rfl, hl, q⟩ | ⟨b, rfl, q⟩) | h
  · obtain ⟨u, rfl, ru⟩ := vals1 r
    obtain ⟨t, rfl⟩ := ru
    exact call_repr_gives (typeIs_str s x t) F.slot_str_repr F.entry_str_repr (F.args_str_repr_1 _) (gives_str_repr x t) ⟨.str (reprText x), H, I.tok _, ⟨_, rfl⟩, q⟩ (hx := hl)
  · obtain ⟨u, rfl, ru⟩ := vals1 r
    cases ru
    exact call_repr_gives (PySem.typeIs_bool s b) F.slot_bool_repr F.entry_bool_repr (F.args_bool_repr_1 _) (gives_bool_repr b) ⟨.str (if b then "True" else "False"), H, I.tok _, ⟨_, rfl⟩, q⟩ (hx := by cases b <;> decide)
  · exact cr_reprA hg hu pins s σ H xs us Q I r h
theorem rc_reprD : RC P w K (rReprD K) gReprD := by
  intro H μ S xs ds d S' Q hr rs e k
  unfold gReprD at e
  split at e
  · split at e
    · rename_i c
      cases e
      obtain ⟨x, rfl, rx⟩ := rs.one
      cases rx
      exact .inl (.inl ⟨_, rfl, c, k _ H μ (.refl _ _) hr (.str _)⟩)
    · cases e
  · cases e
    obtain ⟨x, rfl, rx⟩ := rs.one
    cases rx
    exact .inl (.inr ⟨_, rfl, k _ H μ (.refl _ _) hr (.str _)⟩)
  · split at e
    · rename_i c
      cases e
      obtain ⟨x, rfl, rx⟩ := rs.one
      cases rx
      exact .inr (.inl (.inr ⟨_, rfl, c, k _ H μ (.refl _ _) hr (.str _)⟩))
    · cases e
  · exact .inr (rc_reprA H μ S xs ds d S' Q hr rs e k)
/-! dicts with texts as keys, in the store -/
def fDisp (ns : List Str) (fv : FA) : FE := fun env S => match fv env (S ++ [.dks []]) with
  | some (ds, S1) => match S1[S.length]? with
    | some (.dks []) => some (.obj S.length, S1.set S.length (.dks (mergeKD [] (kvN ns ds))))
    | _ => none
  | none => none
def gInK (neg : Bool) : G2 := fun a b S => match a, b with
  | .str z, .obj j => match S[j]? with
    | some (.dks kvs) => some (.bl (neg ^^ (valKD kvs (Sum.inr z)).isSome), S)
    | _ => none
  | _, _ => none
def rInK (neg : Bool) : R2 := fun x y H Q => ∃ (a : Addr) (kvs : List (Key × V)) (z : Str), x = .str z ∧ y = .ref a ∧ H a = some (.dK kvs) ∧ Q (.bl (neg ^^ (valV kvs (Sum.inr z)).isSome)) H
/-- d[x] -/
def gIxK : G2 := fun a b S => match a, b with
  | .obj j, .str z => match S[j]? with
    | some (.dks kvs) => (valKD kvs (Sum.inr z)).map fun d => (d, S)
    | _ => none
  | _, _ => none
/-- d[x] = v -/
def gSetK : GS := fun a b d S => match a, b with
  | .obj j, .str z => match S[j]? with
    | some (.dks kvs) => if kvs.length < 100000 then some (S.set j (.dks (putKD kvs (Sum.inr z) d))) else none
    | _ => none
  | _, _ => none
/-! str(i) -/
def gStr : Fn := fun ds S => match ds with
  | [.int i] => if i.natAbs.log2 < 1920 then some (.str (toString i), S) else none
  | _ => none
/-! x not in CONST -/
end J

namespace L2
open PySem PySem.Spec PyProof.Rows
def rRepT0 (K : PySem.W.Frag) : R2 := fun x y H Q => ∃ l k, x = .ref l ∧ y = .int k ∧ SqT K H l [] ∧ 2 ≤ k ∧ k ≤ 1000 ∧ Q (.ref l) H
section
variable {X : Cx}
end
end L2
namespace J
open PySem PySem.Spec PyProof.Rows L2
variable {K : PySem.W.Frag} {P : Program} {w : World} {X : Cx}
def gRepT2 : G2 := fun a b S => match a, b with
  | .tup [], .int k => if 2 ≤ k ∧ k ≤ 1000 then some (.tup [], S) else none
  | a, b => gRepT a b S
end J

set_option autoImplicit false
namespace J
open PySem PySem.Spec PyProof.Rows L2
variable {K : PySem.W.Frag} {P : Program} {w : World} {X : Cx}
/-! a text's own methods -/
def gAscii : GM := fun a ds S => match a, ds with
  | .str z, [] => some (.bl (Txt.isascii z), S)
  | _, _ => none
def gDigit : GM := fun a ds S => match a, ds with
  | .str z, [] => some (.bl (Txt.isdigit z), S)
  | _, _ => none
def gSplit : GM := fun a ds S => match a, ds with
  | .str z, [.str y] => if (y.length == 0) = false ∧ z.length + 2 ≤ sizeLine then some (.lst ((Txt.split z y).map .str), S) else none
  | _, _ => none
/-! int(text), str(text) -/
def gIntT : Fn := fun ds S => match ds with
  | [.str a] => match PySem.intText? a with
    | some n => if a.length ≤ 640 then some (.int n, S) else none
    | none => none
  | _ => none
def gStrA : Fn := fun ds S => match ds with
  | [.str a] => some (.str a, S)
  | ds => gStr ds S
/-! f-strings of texts and ints -/
def fFmt (f : FE) : FE := fun env S => match f env S with
  | some (.str y, S1) => if y.length ≤ sizeLine then some (.str y, S1) else none
  | some (.int i, S1) => if i.natAbs.log2 < 1920 then some (.str (toString i), S1) else none
  | _ => none
/-- the parts one behind the other -/
def jnS (acc : Str) : List Str → Str
  | [] => acc
  | y :: ys => jnS (acc ++ y) ys
def jnOk (acc : Str) : List Str → Bool
  | [] => true
  | y :: ys => decide ((acc ++ y).length ≤ sizeLine) && jnOk (acc ++ y) ys
def JJ (X : Cx) (es : List Expr) (fa : FA) : Prop := ∃ ts : List TE, PJ X es ts ∧ ∀ (acc : Str) (σ : L2.St) (H : Hp) (μ : Mp) (env : Env) (S : Sto) (ds : List D) (S' : Sto) (ys : List Str) (Q : Str → Hp → Prop), HR X.prog X.w X.K H μ S → ER X.K H μ σ env → fa env S = some (ds, S') → D.strs ds = some ys → jnOk acc ys = true →
  (∀ H' μ', Later μ H μ' H' → HR X.prog X.w X.K H' μ' S' → Q (jnS acc ys) H') → tJs ts acc σ H Q
def fJn (fa : FA) : FE := fun env S => match fa env S with
  | some (ds, S1) => match D.strs ds with
    | some ys => if jnOk Str.empty ys = true then some (.str (jnS Str.empty ys), S1) else none
    | none => none
  | none => none
/-! *e in a display -/
def faStar (f : FE) (g : FA) : FA := fun env S => match f env S with
  | some (.lst ds, S1) => match g env S1 with
    | some (es, S2) => some (ds ++ es, S2)
    | none => none
  | some (.tup ds, S1) => match g env S1 with
    | some (es, S2) => some (ds ++ es, S2)
    | none => none
  | _ => none
/-! CONST.get(z, x) -/
def tKGet (K : PySem.W.Frag) (p : Addr) (ty tx : TE) : TE := fun σ H Q => ty σ H fun y H2 => tx σ H2 fun z H3 => ∃ (zz : Str) (r : Option Value), y = .str zz ∧ PySem.W.nsIn K p zz = some r ∧ (match r with
  | some u0 => ∃ v0, RelV v0 u0 ∧ Q v0 H3
  | none => Q z H3)
def fGetC (kvs : List (Str × D)) (f g : FE) : FE := fun env S => match f env S with
  | some (.str z, S1) => match g env S1 with
    | some (d, S2) => some ((luC kvs z).getD d, S2)
    | none => none
  | _ => none
/-! first, *rest = a list -/
end J
namespace J
open PySem PySem.Spec PyProof.Rows L2
variable {K : PySem.W.Frag} {P : Program} {w : World} {X : Cx}
def tStarG (K : PySem.W.Frag) (t : TGs) : TG := fun v σ H Q => ∃ (l : Addr) (x : V) (rest : List V), v = .ref l ∧ SqL K H l (x :: rest) ∧ rest.length ≤ 10000 ∧ ∀ D, H D = none → t [x, .ref D] σ (upd H D (.lst rest)) Q
def gStar (gs : FGs) : FG := fun d env S => match d with
  | .lst (x :: rest) => if rest.length ≤ 10000 then gs [x, .lst rest] env S else none
  | _ => none
end J

namespace ZM
open PySem PySem.Spec PyProof.Rows L2
/-! zip of a list and a tuple, to two names -/
def ItM (K : PySem.W.Frag) (a b : Addr) : It :=
  ⟨fun i H => ∃ (xs ys : List V) (x y : V), SqL K H a xs ∧ SqT K H b ys ∧ xs[i]? = some x ∧ ys[i]? = some y,
    fun i H v H' => ∃ T x y, v = .ref T ∧ H T = none ∧ H' = upd H T (.tup [x, y]) ∧ (∀ xs, SqL K H a xs → xs[i]? = some x) ∧ ∀ ys, SqT K H b ys → ys[i]? = some y,
    fun i H => ∃ xs ys : List V, SqL K H a xs ∧ SqT K H b ys ∧ i ≤ xs.length ∧ i ≤ ys.length ∧ (i = xs.length ∨ i = ys.length)⟩
def iZipM (K : PySem.W.Frag) (ta : TA) : TI := fun σ H R => ta σ H fun vs H1 => ∃ a b xs ys, vs = [.ref a, .ref b] ∧ SqL K H1 a xs ∧ SqT K H1 b ys ∧ R (ItM K a b) H1
end ZM

set_option autoImplicit false
namespace J
open PySem PySem.Spec PyProof.Rows L2
variable {K : PySem.W.Frag} {P : Program} {w : World} {X : Cx}
def fZipM (g : FA) : FA := fun env S => match g env S with
  | some ([.lst xs, .tup ys], S1) => some (zpD xs ys, S1)
  | _ => none
end J

set_option autoImplicit false
namespace J
open PySem PySem.Spec PyProof.Rows L2
section
variable {env : Env} {S : Sto}
theorem w_tp2 (i j : Nat) (a c : D) (Q : Env → Sto → Prop) : Wp (gTp 2 (gCons (gNm i) (gCons (gNm j) gNil)) (.tup [a, c]) env S) Q = Q ((env.set i (some a)).set j (some c)) S := wp_some _ _ _
theorem w_tp3 (i j k : Nat) (a c d : D) (Q : Env → Sto → Prop) : Wp (gTp 3 (gCons (gNm i) (gCons (gNm j) (gCons (gNm k) gNil))) (.tup [a, c, d]) env S) Q = Q (((env.set i (some a)).set j (some c)).set k (some d)) S := wp_some _ _ _
theorem w_enumZ (fa fb : FE) (Q : List D → Sto → Prop) : Wp (fEnumZ (faCons fa (faCons fb faNil)) env S) Q = Wp (fa env S) fun a S1 => Wp (fb env S1) fun c S2 => ∃ xs, a = .tup xs ∧ ∃ ys, c = .tup ys ∧ Q (ezD xs ys) S2 := by
  unfold fEnumZ
  rw [show Wp (fa env S) (fun a S1 => Wp (fb env S1) fun c S2 => ∃ xs, a = .tup xs ∧ ∃ ys, c = .tup ys ∧ Q (ezD xs ys) S2) = Wp (faCons fa (faCons fb faNil) env S) (fun ds S2 => ∃ xs ys, ds = [.tup xs, .tup ys] ∧ Q (ezD xs ys) S2) by
    simp only [w_acons, w_anil]
    congr 1
    funext a S1
    congr 1
    funext c S2
    apply propext
    constructor
    · rintro ⟨xs, rfl, ys, rfl, q⟩; exact ⟨xs, ys, rfl, q⟩
    · rintro ⟨xs, ys, e, q⟩; cases e; exact ⟨xs, rfl, ys, rfl, q⟩]
  split
  · rename_i xs ys S1 h
    rw [h, wp_some, wp_some]
    apply propext
    exact ⟨fun q => ⟨xs, ys, rfl, q⟩, fun ⟨_, _, e, q⟩ => by cases e; exact q⟩
  · rename_i h
    cases h5 : faCons fa (faCons fb faNil) env S with
    | none => rw [wp_none, wp_none]
    | some p => obtain ⟨c, S3⟩ := p; rw [wp_none, wp_some]; simp only [eq_iff_iff, false_iff]; rintro ⟨k, k2, rfl, _⟩; exact absurd h5 (h k k2 S3)
theorem w_disp1 (fk fv : FE) (Q : D → Sto → Prop) : Wp (fDisp1 fk fv env S) Q = Wp (fk env S) fun k S1 => Wp (fv env S1) fun v S2 => ∃ q, k.tkey = some q ∧ Q (.obj S2.length) (S2 ++ [.dct [(q, k, v)]]) := by
  unfold fDisp1
  cases h1 : fk env S with
  | none => simp only [wp_none]
  | some p =>
    obtain ⟨k, S1⟩ := p
    simp only [wp_some]
    cases h2 : fv env S1 with
    | none => simp only [wp_none]
    | some p =>
      obtain ⟨v, S2⟩ := p
      simp only [wp_some]
      cases h3 : k.tkey with
      | none => simp [wp_none]
      | some q => simp [wp_some]
theorem w_par2 (E : En) (i j : Nat) (fa fb : FE) : WpS (fPar i j (faCons fa (faCons fb faNil)) env S) E = Wp (fa env S) fun a S1 => Wp (fb env S1) fun c S2 => E.nx ((env.set i (some a)).set j (some c)) S2 := by
  rw [w_par]
  simp only [w_acons, w_anil]
  congr 1
  funext a S1
  congr 1
  funext c S2
  apply propext
  constructor
  · rintro ⟨d, e, h, q⟩; cases h; exact q
  · intro q; exact ⟨a, c, rfl, q⟩
end
theorem w_for' {g : FG} {b : FS} {E : En} (I : Nat → Env → Sto → Prop) {ds : List D} {env : Env} {S : Sto} (h0 : I 0 env S)
    (hs : ∀ i d env S, ds[i]? = some d → I i env S → ∀ E' : En, (∀ e S2, I (i + 1) e S2 → E'.nx e S2) → (∀ e S2, I (i + 1) e S2 → E'.ct e S2) → (∀ d S2, E.rt d S2 → E'.rt d S2) → (∀ e S2, E.nx e S2 → E'.bk e S2) → Wp (g d env S) fun e S1 => WpS (b e S1) E') (hq : ∀ env S, I ds.length env S → E.nx env S) : WpS (fForL g b ds env S) E :=
  w_for_inv I h0 (fun i d env S hd h => hs i d env S hd h ⟨I (i + 1), E.rt, E.nx, I (i + 1)⟩ (fun _ _ h => h) (fun _ _ h => h) (fun _ _ h => h) (fun _ _ h => h)) hq
def wz0 := And.intro @w_tp2 (And.intro @w_tp3 (And.intro @w_enumZ (And.intro @w_disp1 (And.intro @w_par2 (And.intro @w_var (And.intro @w_C (And.intro @w_op (And.intro @w_un (And.intro @w_test (And.intro @w_truth (And.intro @w_andT (And.intro @w_orT (And.intro @w_notT (And.intro @w_andV (And.intro @w_orV (And.intro @w_notV (And.intro @w_if (And.intro @w_anil (And.intro @w_acons (And.intro @w_tup (And.intro @w_lst (And.intro @w_lstN (And.intro @w_call (And.intro @w_callN (And.intro @w_B (And.intro @w_M (And.intro @w_M0 (And.intro @w_rng1 (And.intro @w_lc (And.intro @w_yes (And.intro @w_dnew (And.intro @w_next (And.intro @w_no (And.intro @w_brk (And.intro @w_cnt (And.intro @w_retN (And.intro @w_seq (And.intro @w_drop (And.intro @w_ret (And.intro @w_ifS (And.intro @w_nm (And.intro @w_sub (And.intro @w_asg (And.intro @w_for (And.intro @w_aug (And.intro @w_slice (And.intro @w_oNone (And.intro @w_oSome (And.intro @wp_some (And.intro @List.getElem?_cons_zero.{0} (And.intro @List.getElem?_cons_succ.{0} (And.intro @List.set_cons_zero.{0} (And.intro @List.set_cons_succ.{0} (And.intro @Option.some.injEq.{0} (And.intro @exists_eq_left'.{1} (And.intro @D.obj.injEq (And.intro @D.bl.injEq (And.intro @D.int.injEq (And.intro @D.str.injEq (And.intro @D.tup.injEq (And.intro @D.lst.injEq (And.intro @List.cons.injEq.{0} (And.intro @List.append_nil.{0} (And.intro @List.nil_append.{0} (And.intro @List.cons_append.{0} (And.intro @List.length_cons.{0} (And.intro @List.length_nil.{0} (And.intro @Nat.zero_le (And.intro @true_and (And.intro @and_true (And.intro @and_self (And.intro @if_true.{1} (And.intro @Bool.false_eq_true (And.intro @if_false.{0} (And.intro @if_false.{1} (And.intro @Bool.xor_self (And.intro @Bool.xor_false (And.intro @Bool.xor_true (And.intro @Bool.false_xor (And.intro @Bool.true_xor (And.intro @Bool.not_true (@Bool.not_false))))))))))))))))))))))))))))))))))))))))))))))))))))))))))))))))))))))))))))))))))
end J

set_option autoImplicit false
namespace J
open PySem PySem.Spec PyProof.Rows L2
variable {K : PySem.W.Frag} {P : Program} {w : World} {X : Cx}
/-! slices of texts -/
def gCutS (d : D) (lo hi : Option Int) (S : Sto) : Option (D × Sto) := match d with
  | .str z => if z.length ≤ 100000 then some (.str (cutS z lo hi), S) else none
  | _ => none
def fSliceS (f : FE) (fl fh : FO) : FE := fun env S => match f env S with
  | some (d, S1) => match fl env S1 with
    | some (lo, S2) => match fh env S2 with
      | some (hi, S3) => gCutS d lo hi S3
      | none => none
    | none => none
  | none => none
@[simp] theorem fSliceS_eq (f : FE) (fl fh : FO) (env : Env) (S : Sto) : fSliceS f fl fh env S = match f env S with
  | some (d, S1) => (match fl env S1 with
    | some (lo, S2) => (match fh env S2 with
      | some (hi, S3) => gCutS d lo hi S3
      | none => none)
    | none => none)
  | none => none := rfl
/-! a displayed list times a number, as a list that will change -/
def gRepN : G2 := fun a b S => match a, b with
  | .lst ds, .int k => if -1000 ≤ k ∧ k ≤ 1000 ∧ ds.length ≤ 100 then some (.obj S.length, S ++ [.lst (List.replicate k.toNat ds).flatten]) else none
  | _, _ => none
end J

set_option autoImplicit false
namespace J
open PySem PySem.Spec PyProof.Rows L2
variable {K : PySem.W.Frag} {P : Program} {w : World} {X : Cx}
/-! instances: their fields -/
theorem FsR.lookup {H : Hp} {μ : Mp} {n : Str} : ∀ {gs : List (Str × V)} {fs : List (Str × D)}, FsR K H μ gs fs → ∀ {d : D}, fs.lookup n = some d → ∃ v, gs.lookup n = some v ∧ Rv K H μ v d
  | _, _, .nil, _, h => by cases h
  | _, _, .cons (k := k) r q, d, h => by
    rw [List.lookup] at h ⊢
    split at h
    · rename_i e
      cases h
      exact ⟨_, rfl, r⟩
    · exact FsR.lookup q h
theorem FsR.none {H : Hp} {μ : Mp} {n : Str} : ∀ {gs : List (Str × V)} {fs : List (Str × D)}, FsR K H μ gs fs → fs.lookup n = none → gs.lookup n = none
  | _, _, .nil, _ => rfl
  | _, _, .cons (k := k) r q, h => by
    rw [List.lookup] at h ⊢
    split at h
    · cases h
    · exact FsR.none q h
theorem FsR.length {H : Hp} {μ : Mp} : ∀ {gs : List (Str × V)} {fs : List (Str × D)}, FsR K H μ gs fs → gs.length = fs.length
  | _, _, .nil => rfl
  | _, _, .cons r q => by rw [List.length_cons, List.length_cons, FsR.length q]
def putFD (n : Str) (d : D) : List (Str × D) → List (Str × D)
  | [] => [(n, d)]
  | (g, x) :: r => if g = n then (g, d) :: r else (g, x) :: putFD n d r
theorem FsR.put {H : Hp} {μ : Mp} {n : Str} {v : V} {d : D} (rv : Rv K H μ v d) : ∀ {gs : List (Str × V)} {fs : List (Str × D)}, FsR K H μ gs fs → FsR K H μ (putF n v gs) (putFD n d fs)
  | _, _, .nil => .cons rv .nil
  | _, _, .cons (k := k) r q => by
    unfold putF putFD
    split
    · exact .cons rv q
    · exact .cons r (FsR.put rv q)
/-- e.n -/
def gFld (n : Str) : D → Sto → Option (D × Sto) := fun d S => match d with
  | .obj k => match S[k]? with
    | some (.ins _ fs) => match fs.lookup n with
      | some v => some (v, S)
      | none => none
    | _ => none
  | _ => none
/-- o.n = value -/
def fSetFld (x n : Str) (fo fv : FE) : FS := fun env S => match fv env S with
  | some (d, S1) => match fo env S1 with
    | some (.obj k, S2) => match S2[k]? with
      | some (.ins y fs) => if y = x ∧ fs.length < 100 then some (.nx, env, S2.set k (.ins y (putFD n d fs))) else none
      | _ => none
    | _ => none
  | none => none
/-! methods -/
/-- what a method's call keeps; the last arguments may be left out -/
def OkM (P : Program) (w : World) (K : PySem.W.Frag) (mg : Str → Option Value) (base : Heap) (x m : Str) (n : Nat) (dd : List D) (F : Fn) (k : Nat) : Prop :=
  ∃ (C f : Addr) (fd : FuncData) (ps : List Str) (dvs : List V) (ds : List Value), ClsAt K x C ∧ Cls K C ∧ Meth K C m f ∧ Binds K fd ps ds ∧ Vals dvs ds ∧ (∀ H μ, RvAll K H μ dvs dd) ∧ FnOk P w K mg base CX0 k f fd ps (spJ P w K n F)
def fMeth (x m : Str) (n : Nat) (F : Fn) (fo : FE) (fa : FA) (dd : List D) : FE := fun env S => match fo env S with
  | some (.obj k, S1) => match S1[k]? with
    | some (.ins y fs) => if y = x ∧ fs.lookup m = none then (match fa env S1 with
        | some (ds, S2) => if (D.obj k :: (ds ++ dd)).length = n then F (.obj k :: (ds ++ dd)) S2 else none
        | none => none) else none
    | _ => none
  | _ => none
/-! a method with a keyword -/
def OkMK (P : Program) (w : World) (K : PySem.W.Frag) (mg : Str → Option Value) (base : Heap) (x m kw : Str) (i n : Nat) (F : Fn) (k : Nat) : Prop :=
  ∃ (C f : Addr) (fd : FuncData) (ps : List Str), ClsAt K x C ∧ Cls K C ∧ Meth K C m f ∧ KBn K fd ps (i + 1) [kw] (fun us ws => us ++ ws) (fun vs zs => vs ++ zs) ∧ FnOk P w K mg base CX0 k f fd ps (spJ P w K n F)
def tMethN (C : Addr) (m : Str) (n j : Nat) (sp : Sp) (gV : List V → List V → List V) (E : XK) (ta : TE) (t tk : TA) : TE := fun σ H Q => ta σ H fun x H1 => ∃ a dx fs, x = .ref a ∧ H1 a = some (.ins C dx fs) ∧ fs.lookup m = none ∧ t σ H1 fun vs H2 => tk σ H2 fun zs H3 => vs.length + 1 = n ∧ zs.length = j ∧ sp (gV (.ref a :: vs) zs) H3 Q E
def fMethN (x m : Str) (i n : Nat) (F : Fn) (fo : FE) (fa fk : FA) : FE := fun env S => match fo env S with
  | some (.obj k, S1) => match S1[k]? with
    | some (.ins y fs) => if y = x ∧ fs.lookup m = none then (match fa env S1 with
        | some (ds, S2) => (match fk env S2 with
          | some (es, S3) => if ds.length = i ∧ es.length = 1 ∧ (D.obj k :: (ds ++ es)).length = n then F (.obj k :: (ds ++ es)) S3 else none
          | none => none)
        | none => none) else none
    | _ => none
  | _ => none
/-! a new instance -/
def OkI (P : Program) (w : World) (K : PySem.W.Frag) (mg : Str → Option Value) (base : Heap) (x : Str) (n : Nat) (F : Fn) (k : Nat) : Prop :=
  ∃ (C f : Addr) (fd : FuncData) (ps : List Str), mg x = some (.ref C) ∧ ClsAt K x C ∧ Cls K C ∧ Mk K C f ∧ Binds K fd ps [] ∧ FnOk P w K mg base CX0 k f fd ps (spJ P w K n F)
def OkIK (P : Program) (w : World) (K : PySem.W.Frag) (mg : Str → Option Value) (base : Heap) (x kw : Str) (n : Nat) (F : Fn) (k : Nat) : Prop :=
  ∃ (C f : Addr) (fd : FuncData) (ps : List Str), mg x = some (.ref C) ∧ ClsAt K x C ∧ Cls K C ∧ Mk K C f ∧ KBn K fd ps 1 [kw] (fun us ws => us ++ ws) (fun vs zs => vs ++ zs) ∧ FnOk P w K mg base CX0 k f fd ps (spJ P w K n F)
def newI (x : Str) (n : Nat) (F : Fn) (ds : List D) (S : Sto) : Option (D × Sto) := if (D.obj S.length :: ds).length = n then (match F (.obj S.length :: ds) (S ++ [.ins x []]) with
  | some (.non, S') => some (.obj S.length, S')
  | _ => none) else none
def fMake (x : Str) (n : Nat) (F : Fn) (fa : FA) : FE := fun env S => match fa env S with
  | some (ds, S1) => newI x n F ds S1
  | none => none
theorem HR.made {H : Hp} {μ : Mp} {S : Sto} {x : Str} {C p dx : Addr} (hr : HR P w K H μ S) (hC : ClsAt K x C) (hc : Cls K C) (np : H p = none) (nd : H dx = none) (ne : dx ≠ p) :
    ∃ μ', Later μ H μ' (upd (upd H dx (.own p)) p (.ins C dx [])) ∧ HR P w K (upd (upd H dx (.own p)) p (.ins C dx [])) μ' (S ++ [.ins x []]) ∧ Rv K (upd (upd H dx (.own p)) p (.ins C dx [])) μ' (.ref p) (.obj S.length) := by
  obtain ⟨l1, hr1⟩ := hr.new (o := .own p) nd
  have np1 : upd H dx (.own p) p = none := by rw [upd_ne (Ne.symm ne)]; exact np
  obtain ⟨μ2, l2, hr2, e2⟩ := hr1.push (o := .ins x []) (u := .ins C dx []) np1 fun H' μ' l e => ⟨C, dx, [], ⟨hC, hc, fun p hp => by cases hp⟩, e, .nil⟩
  exact ⟨μ2, l1.trans l2, hr2, .obj e2⟩
end J

set_option autoImplicit false
namespace J
open PySem PySem.Spec PyProof.Rows L2
variable {K : PySem.W.Frag} {P : Program} {w : World} {X : Cx}
/-! contracts of methods, by how their arguments may come -/
def BPl (K : PySem.W.Frag) : FuncData → List Str → Prop := fun fd ps => Binds K fd ps []
def BDf (K : PySem.W.Frag) (dd : List D) : FuncData → List Str → Prop := fun fd ps => ∃ (dvs : List V) (ds : List Value), Binds K fd ps ds ∧ Vals dvs ds ∧ ∀ H μ, RvAll K H μ dvs dd
def BBo (K : PySem.W.Frag) (dd : List D) : FuncData → List Str → Prop := fun fd ps => BPl K fd ps ∧ BDf K dd fd ps
def BKw (K : PySem.W.Frag) (i : Nat) (kw : Str) (dd : List D) : FuncData → List Str → Prop := fun fd ps => KBn K fd ps (i + 1) [kw] (fun us ws => us ++ ws) (fun vs zs => vs ++ zs) ∧ BDf K dd fd ps
def OkMB (P : Program) (w : World) (K : PySem.W.Frag) (mg : Str → Option Value) (base : Heap) (x m : Str) (n : Nat) (B : FuncData → List Str → Prop) (F : Fn) (k : Nat) : Prop :=
  ∃ (C f : Addr) (fd : FuncData) (ps : List Str), ClsAt K x C ∧ Cls K C ∧ Meth K C m f ∧ B fd ps ∧ FnOk P w K mg base CX0 k f fd ps (spJ P w K n F)
def OkIB (P : Program) (w : World) (K : PySem.W.Frag) (mg : Str → Option Value) (base : Heap) (x : Str) (n : Nat) (B : FuncData → List Str → Prop) (F : Fn) (k : Nat) : Prop :=
  ∃ (C f : Addr) (fd : FuncData) (ps : List Str), mg x = some (.ref C) ∧ ClsAt K x C ∧ Cls K C ∧ Mk K C f ∧ B fd ps ∧ FnOk P w K mg base CX0 k f fd ps (spJ P w K n F)
section
variable {mg : Str → Option Value} {base : Heap} {x m kw : Str} {n k i : Nat} {F : Fn} {dd : List D}
theorem OkMB.pl (h : OkMB P w K mg base x m n (BPl K) F k) : OkM P w K mg base x m n [] F k := let ⟨C, f, fd, ps, a, b, c, d, e⟩ := h; ⟨C, f, fd, ps, [], [], a, b, c, d, .nil, fun _ _ => .nil, e⟩
theorem OkMB.df (h : OkMB P w K mg base x m n (BDf K dd) F k) : OkM P w K mg base x m n dd F k := let ⟨C, f, fd, ps, a, b, c, ⟨dvs, ds, d1, d2, d3⟩, e⟩ := h; ⟨C, f, fd, ps, dvs, ds, a, b, c, d1, d2, d3, e⟩
theorem OkMB.kd (h : OkMB P w K mg base x m n (BKw K i kw dd) F k) : OkM P w K mg base x m n dd F k := let ⟨C, f, fd, ps, a, b, c, d, e⟩ := h; OkMB.df ⟨C, f, fd, ps, a, b, c, d.2, e⟩
theorem OkMB.kk (h : OkMB P w K mg base x m n (BKw K i kw dd) F k) : OkMK P w K mg base x m kw i n F k := let ⟨C, f, fd, ps, a, b, c, d, e⟩ := h; ⟨C, f, fd, ps, a, b, c, d.1, e⟩
theorem OkIB.pl (h : OkIB P w K mg base x n (BPl K) F k) : OkI P w K mg base x n F k := let ⟨C, f, fd, ps, z, a, b, c, d, e⟩ := h; ⟨C, f, fd, ps, z, a, b, c, d, e⟩
theorem OkIB.kk (h : OkIB P w K mg base x n (BKw K 0 kw dd) F k) : OkIK P w K mg base x kw n F k := let ⟨C, f, fd, ps, z, a, b, c, d, e⟩ := h; ⟨C, f, fd, ps, z, a, b, c, d.1, e⟩
end
/-- what a method's text is -/
def DnM (K : PySem.W.Frag) (x m qual : Str) (st : Stmt) (B : FuncData → List Str → Prop) (ps : List Str) : Prop := ∃ (C f : Addr) (fd : FuncData), Fun K m qual st f fd ∧ ClsAt K x C ∧ Cls K C ∧ Meth K C m f ∧ B fd ps
def DnI (K : PySem.W.Frag) (mg : Str → Option Value) (x qual : Str) (st : Stmt) (B : FuncData → List Str → Prop) (ps : List Str) : Prop := ∃ (C f : Addr) (fd : FuncData), Fun K "__init__" qual st f fd ∧ mg x = some (.ref C) ∧ ClsAt K x C ∧ Cls K C ∧ Mk K C f ∧ B fd ps
def DnMD (K : PySem.W.Frag) (x m qual : Str) (st : Stmt) (dvs : List V) (B : FuncData → List Str → Prop) (ps : List Str) : Prop := ∃ (C f : Addr) (fd : FuncData), FunD K m qual (defArgs st) (defBody st) (defScope st) dvs [] f fd ∧ ClsAt K x C ∧ Cls K C ∧ Meth K C m f ∧ B fd ps
/-! comprehensions over what may change -/
open Classical in
noncomputable def fLcLC (c : Sto → Prop) (g : FG) (ft : FT) (fe : FE) (env : Env) : List D → Sto → Option (List D × Sto)
  | [], S => if c S then some ([], S) else none
  | d :: ds, S => if c S then (match g d env S with
    | none => none
    | some (env1, S1) => match ft env1 S1 with
      | none => none
      | some (false, S2) => fLcLC c g ft fe env ds S2
      | some (true, S2) => match fe env1 S2 with
        | none => none
        | some (y, S3) => match fLcLC c g ft fe env ds S3 with
          | none => none
          | some (ys, S4) => some (y :: ys, S4)) else none
noncomputable def fLcC (own : List Nat) (fi : FAC) (g : FG) (ft : FT) (fe : FE) : FE := fun env S => match fi env S with
  | some (ds, c, S1) => if ds.length ≤ 100000 then (match fLcLC c g ft fe (wipeD env own) ds S1 with
      | some (ys, S2) => some (.lst ys, S2)
      | none => none) else none
  | none => none
/-! del xs[i] -/
def fDelL (fo fi : FE) : FS := fun env S => match fo env S with
  | some (.obj k, S1) => match fi env S1 with
    | some (.int i, S2) => match S2[k]? with
      | some (.lst es) => match ixN es.length i with
        | some j => if -(2 ^ 63) ≤ i ∧ i < 2 ^ 63 then some (.nx, env, S2.set k (.lst (es.eraseIdx j))) else none
        | none => none
      | _ => none
    | _ => none
  | _ => none
/-! range with a step -/
def rngC (lo c : Int) (n : Nat) : List D := (List.range n).map fun (k : Nat) => D.int (lo + (k : Int) * c)
/-- range(i, j, -1) -/
def fRngB (g : FA) : FA := fun env S => match g env S with
  | some ([.int i, .int j, .int c], S1) => if c = -1 ∧ 0 ≤ i ∧ i < 1000000 ∧ 0 ≤ j ∧ j ≤ i then some (rngC i (-1) (i - j).toNat, S1) else none
  | _ => none
/-! {} with texts or ints as keys; d.get(k, x) of such -/
def fDNewK : FE := fun _ S => some (.obj S.length, S ++ [.dks []])
def fGetK (fo fk fx : FE) : FE := fun env S => match fo env S with
  | some (.obj j, S1) => match S1[j]? with
    | some (.dks _) => match fk env S1 with
      | some (.str z, S2) => match fx env S2 with
        | some (x, S3) => match S3[j]? with
          | some (.dks kvs) => some ((valKD kvs (Sum.inr z)).getD x, S3)
          | _ => none
        | none => none
      | _ => none
    | _ => none
  | _ => none
end J

set_option autoImplicit false
namespace J
open PySem PySem.Spec PyProof.Rows L2 Kx
variable {K : PySem.W.Frag} {P : Program} {w : World} {X : Cx}
/-! comprehensions of two clauses over what may change -/
open Classical in
noncomputable def fClLC (c : Sto → Prop) (g : FG) (r : FCl) (env : J.Env) : List D → Sto → Option (List D × Sto)
  | [], S => if c S then some ([], S) else none
  | d :: ds, S => if c S then (match g d env S with
    | none => none
    | some (env1, S1) => match r env1 S1 with
      | none => none
      | some (ys, S2) => match fClLC c g r env ds S2 with
        | none => none
        | some (zs, S3) => some (ys ++ zs, S3)) else none
noncomputable def fClC (fi : FAC) (g : FG) (r : FCl) (vs : List Nat) : FCl := fun env S => match fi env S with
  | none => none
  | some (ds, c, S1) => fClLC c g r (wipeD env vs) ds S1
/-- an iterator that leans on numbers alone -/
def JIX (X : Cx) (tg iter : Expr) (fi : FAC) : Prop := ∃ wi : TI, PI X tg iter wi ∧ ∀ (σ : L2.St) (H : Hp) (μ : Mp) (env : J.Env) (S : Sto) (ds : List D) (c : Sto → Prop) (S' : Sto) (R : It → Hp → Prop), HR X.prog X.w X.K H μ S → ER X.K H μ σ env → fi env S = some (ds, c, S') →
  (∀ T H' μ', Later μ H μ' H' → HR X.prog X.w X.K H' μ' S' → (∀ μ0 H0, (∃ e, μ0.m = μ'.m ++ e) → ItC X.prog X.w X.K T ds c μ0 H0) → R T H') → wi σ H R
noncomputable def fLc2C (own : List Nat) (fi : FAC) (g : FG) (r : FCl) : FE := fun env S => match fi env S with
  | none => none
  | some (ds, c, S1) => match fClLC c g r (wipeD env own) ds S1 with
    | some (ys, S2) => if ys.length ≤ 100000 then some (.lst ys, S2) else none
    | none => none
/-! len of an instance -/
def rLenI (x : Str) (K : PySem.W.Frag) (sp : Sp) : List V → Hp → VK → Prop := fun xs H Q => ∃ a C dx fs, xs = [.ref a] ∧ ClsAt K x C ∧ H a = some (.ins C dx fs) ∧ sp [.ref a] H (fun v H' => ∃ i : Int, v = .int i ∧ 0 ≤ i ∧ i < 2 ^ 63 ∧ Q (.int i) H') (fun _ _ _ => False)
def gLenO (x : Str) (F : Fn) : Fn := fun ds S => match ds with
  | [.obj k] => match S[k]? with
    | some (.ins y _) => if y = x then (match F [.obj k] S with
      | some (.int i, S') => if 0 ≤ i ∧ i < 2 ^ 62 then some (.int i, S') else none
      | _ => none) else none
    | _ => none
  | _ => none
end J

set_option autoImplicit false
namespace J
open PySem PySem.Spec PyProof.Rows L2
variable {K : PySem.W.Frag} {P : Program} {w : World} {X : Cx}
/-! defs whose bodies take reprs: called where no repr is under way -/
structure FnG (P : Program) (w : World) (K : PySem.W.Frag) (mg : Str → Option Value) (base : Heap) (k : Nat) (f : Addr) (fd : FuncData) (ps : List Str) (sp : Sp) : Prop where
  len : ∀ (vs : List V) (H : Hp) (Q : VK) (E : XK), sp vs H Q E → vs.length = ps.length
  run : ∀ (A : Around) (outer : List PySem.Env) (s : Shared) (H : Hp) (args : Args) (us : List Value) (vs : List V) (Q : VK) (E : XK), Room k A → A.guards = some [] → Env0 P w K mg base A outer s H →
    BindsTo s fd args (ps.zip us) → Vals vs us → sp vs H Q E → codeAny (model P w) A (.call (.ref f) args) (CR CX0 outer P w H s Q E) s
def OkFG (P : Program) (w : World) (K : PySem.W.Frag) (mg : Str → Option Value) (base : Heap) (x : Str) (n : Nat) (F : Fn) (k : Nat) : Prop :=
  ∃ (f : Addr) (fd : FuncData) (ps : List Str), mg x = some (.ref f) ∧ PySem.W.keepIn K (.ref f) = true ∧ Binds K fd ps [] ∧ FnG P w K mg base k f fd ps (spJ P w K n F)
def tCallG (sp : Sp) (t : TA) : TE := fun σ H Q => t σ H fun vs H1 => sp vs H1 Q (fun _ _ _ => False)
end J

set_option autoImplicit false
namespace J
open PySem PySem.Spec PyProof.Rows L2
variable {K : PySem.W.Frag} {P : Program} {w : World} {X : Cx}
/-! powers of large numbers -/
def cPowW (i j : Int) : Bool := decide (0 ≤ j) && decide (j ≤ 64) && decide (i.natAbs.log2 < 2000)
theorem op_powW : OpR X (binaryOp .Pow) (rI (fun i j => cPowW i j = true) fun i j => .int (i ^ j.toNat)) := opI fun i j t u s Q E h q => by
  unfold cPowW at h
  simp only [Bool.and_eq_true, decide_eq_true_eq] at h
  refine pow_int h.1.1 ?_ q
  have b : (Builtin.Int.intBits i : Int) ≤ 2001 := by
    unfold Builtin.Int.intBits
    split <;> omega
  have h0 := h.1.1
  have h1 := h.1.2
  have : (Builtin.Int.intBits i : Int) * j ≤ 2001 * 64 := Int.mul_le_mul b h1 h0 (by decide)
  have e : (2001 * 64 : Int) ≤ 2 ^ 27 := by decide
  omega
def gPowW : G2 := gI cPowW fun i j => i ^ j.toNat
theorem je_powW {a b : Expr} {fa fb : FE} {pos : Pos} (ha : JE X a fa) (hb : JE X b fb) : JE X (.BinOp a .Pow b pos) (fOp gPowW fa fb) := je_op op_powW (ro_I fun _ _ h => h) ha hb
end J

set_option autoImplicit false
namespace Kx
open PySem PySem.Spec PyProof.Rows L2
end Kx
namespace J
open PySem PySem.Spec PyProof.Rows L2
/-! constants of the top, checked in the head's fragment -/
/-! what the head says of defs -/
theorem funD_fun {K : PySem.W.Frag} {x qual : Str} {st : Stmt} {kws : List (Str × V)} {f : Addr} {fd : FuncData} (h : FunD K x qual (defArgs st) (defBody st) (defScope st) [] kws f fd) : Fun K x qual st f fd := by
  obtain ⟨oc, od, dV, kV, doc, pm, an, cdv, ct, osl, h1, h2, h3, h4, h5⟩ := h.ex
  rcases h4 with ⟨_, rfl⟩ | ⟨h4, _⟩
  · exact ⟨⟨oc, od, kV, doc, pm, an, cdv, ct, osl, h1, h2, h3⟩, h.kp⟩
  · exact absurd rfl h4
theorem clsAt_of {K : PySem.W.Frag} {x : Str} (h : He.Fa.ok K (.glo x) = true) : ClsAt K x (He.ga K x) := He.eqO_ok h
end J

set_option autoImplicit false
namespace J
open PySem PySem.Spec PyProof.Rows L2
end J

set_option autoImplicit false
namespace J
open PySem PySem.Spec PyProof.Rows L2
variable {K : PySem.W.Frag} {P : Program} {w : World} {X : Cx}
/-! comprehensions whose list will change -/
def fLcN (own : List Nat) (fi : FA) (g : FG) (ft : FT) (fe : FE) : FE := fun env S => match fi env S with
  | none => none
  | some (ds, S1) => if ds.length ≤ 100000 then (match fLcL g ft fe (wipeD env own) ds S1 with
    | some (ys, S2) => some (.obj S2.length, S2 ++ [.lst ys])
    | none => none) else none
noncomputable def fLcCN (own : List Nat) (fi : FAC) (g : FG) (ft : FT) (fe : FE) : FE := fun env S => match fi env S with
  | some (ds, c, S1) => if ds.length ≤ 100000 then (match fLcLC c g ft fe (wipeD env own) ds S1 with
      | some (ys, S2) => some (.obj S2.length, S2 ++ [.lst ys])
      | none => none) else none
  | none => none
end J

set_option autoImplicit false
namespace J
open PySem PySem.Spec PyProof.Rows L2
variable {K : PySem.W.Frag} {P : Program} {w : World} {X : Cx}
/-! list(range(e)) -/
def fLstRg (fa : FE) : FE := fun env S => match fa env S with
  | some (.int n, S1) => if 0 ≤ n ∧ n ≤ 100000 then some (.lst (rngD 0 n.toNat), S1) else none
  | _ => none
/-! sum of a list of ints -/
def D.ints : List D → Option (List Int)
  | [] => some []
  | .int i :: ds => (D.ints ds).map (i :: ·)
  | _ => none
def gSum : Fn := fun ds S => match ds with
  | [.lst es] => match D.ints es with
    | some ns => some (.int ns.sum, S)
    | none => none
  | _ => none
/-! sorted of a dict with texts as keys -/
def keysS : List (Key × D) → Option (List Str)
  | [] => some []
  | (.inr x, _) :: r => (keysS r).map (x :: ·)
  | _ => none
def leS (a b : Str) : Bool := !decide (b.cps.toList < a.cps.toList)
def srtK (l : List Str) : List Str := l.mergeSort leS
def gSortedK : Fn := fun ds S => match ds with
  | [.obj j] => match S[j]? with
    | some (.dks kvs) => match keysS kvs with
      | some ks => if ks.length < 64 then some (.lst ((srtK ks).map .str), S) else none
      | none => none
    | _ => none
  | _ => none
/-! {k: v, ..}.get(e, f) with a number as key too -/
def keyD : D → Option Key
  | .str x => some (Sum.inr x)
  | .int i => some (Sum.inl i)
  | _ => none
def fDispGetK (ns : List Str) (fv : FA) (fk fx : FE) : FE := fun env S => match fv env S with
  | some (ds, S1) => match fk env S1 with
    | some (x, S2) => match keyD x with
      | some q => match fx env S2 with
        | some (z, S3) => some ((valKD (mergeKD [] (kvN ns ds)) q).getD z, S3)
        | none => none
      | none => none
    | none => none
  | none => none
/-! a, b, c = x, y, z -/
def fPar3 (i j l : Nat) (g : FA) : FS := fun env S => match g env S with
  | some ([d, e, f], S1) => some (.nx, ((env.set i (some d)).set j (some e)).set l (some f), S1)
  | _ => none
end J

set_option autoImplicit false
namespace J
open PySem PySem.Spec PyProof.Rows L2
variable {K : PySem.W.Frag} {P : Program} {w : World} {X : Cx}
/-! del d[k], d.pop(k) of a dict with texts as keys -/
def dropKD (kvs : List (Key × D)) (k : Key) : List (Key × D) := kvs.filter fun kv => decide (kv.1 ≠ k)
theorem KvR.drop {H : Hp} {μ : Mp} (k : Key) : ∀ {xs ys}, KvR K H μ xs ys → KvR K H μ (dropK xs k) (dropKD ys k)
  | _, _, .nil => .nil
  | _, _, .cons (k := k') h3 q => by
    unfold dropK dropKD
    rw [List.filter_cons, List.filter_cons]
    by_cases e : k' = k
    · simp only [e, ne_eq, not_true_eq_false, decide_false, Bool.false_eq_true, if_false]
      exact KvR.drop k q
    · simp only [e, ne_eq, not_false_eq_true, decide_true, if_true]
      exact .cons h3 (KvR.drop k q)
def gPopK : G2 := fun a b S => match a, b with
  | .obj j, .str z => match S[j]? with
    | some (.dks kvs) => match valKD kvs (Sum.inr z) with
      | some d => some (d, S.set j (.dks (dropKD kvs (Sum.inr z))))
      | none => none
    | _ => none
  | _, _ => none
def fPopK (fo fk : FE) : FE := fun env S => match fo env S with
  | some (.obj j, S1) => match S1[j]? with
    | some (.dks _) => match fk env S1 with
      | some (b, S2) => gPopK (.obj j) b S2
      | none => none
    | _ => none
  | _ => none
def fDelK (fo fk : FE) : FS := fun env S => match fo env S with
  | some (a, S1) => match fk env S1 with
    | some (b, S2) => match gPopK a b S2 with
      | some (_, S3) => some (.nx, env, S3)
      | none => none
    | none => none
  | none => none
end J

set_option autoImplicit false
namespace J
open PySem PySem.Spec PyProof.Rows L2
variable {K : PySem.W.Frag} {P : Program} {w : World} {X : Cx}
/-! xs.pop(i) -/
def gPopA : GM := fun a ds S => match a, ds with
  | .obj k, [.int i] => match S[k]? with
    | some (.lst es) => match ixN es.length i with
      | some q => match es[q]? with
        | some d => if -(2 ^ 63) ≤ i ∧ i < 2 ^ 63 then some (d, S.set k (.lst (es.eraseIdx q))) else none
        | none => none
      | none => none
    | _ => none
  | _, _ => none
end J

set_option autoImplicit false
namespace L2
open PySem PySem.Spec PyProof.Rows
variable {X : Cx}
def eqs (k : Str) : Value → Bool := fun v => match v with | .str y _ => y.cps.toList == k.cps.toList | _ => false
def rRemS : V → List V → Hp → VK → Prop := fun x xs H Q => ∃ (l : Addr) (ns : List Str) (k : Str) (j : Nat), x = .ref l ∧ xs = [.str k] ∧ H l = some (.lst (ns.map V.str)) ∧ ns[j]? = some k ∧ (∀ m : Nat, m < j → ns[m]? ≠ some k) ∧ Q .non (upd H l (.lst ((ns.eraseIdx j).map V.str)))
end L2
namespace J
open PySem PySem.Spec PyProof.Rows L2
variable {K : PySem.W.Frag} {P : Program} {w : World} {X : Cx}
/-! dict(d) of a dict with texts as keys -/
def gDictK : Fn := fun ds S => match ds with
  | [.obj j] => match S[j]? with
    | some (.dks kvs) => some (.obj S.length, S ++ [.dks kvs])
    | _ => none
  | _ => none
/-! xs.remove(x) of texts -/
def strsD : List D → Option (List Str)
  | [] => some []
  | .str x :: r => (strsD r).map (x :: ·)
  | _ :: _ => none
def gRemS : GM := fun a ds S => match a, ds with
  | .obj k, [.str z] => match S[k]? with
    | some (.lst es) => match strsD es with
      | some ns => if z ∈ ns then some (.non, S.set k (.lst ((ns.eraseIdx (ns.idxOf z)).map .str))) else none
      | none => none
    | _ => none
  | _, _ => none
/-! sorted(xs) of texts -/
noncomputable def gSortedS : Fn := fun ds S => match ds with
  | [.obj j] => match S[j]? with
    | some (.lst es) => match strsD es with
      | some ks => if ks.length < 64 then some (.lst ((srtK ks).map .str), S) else none
      | none => none
    | _ => none
  | _ => none
end J

set_option autoImplicit false
namespace L2
open PySem PySem.Spec PyProof.Rows
variable {X : Cx}
/-! xs.count(True), xs.index(True) of a list of bools -/
def eqb (c : Bool) : Value → Bool := fun v => match v with | .bool b => b == c | _ => false
theorem boolAt : ∀ {ns : List Bool} {us : List Value}, Vals (ns.map V.bl) us → us = ns.map Value.bool
  | [], [], _ => rfl
  | n :: ns, u :: us, .cons h q => by
    have e : u = Value.bool n := h
    rw [e, boolAt q]
    rfl
theorem eqb_count (c : Bool) : ∀ l : List Bool, (l.map Value.bool).countP (eqb c) = l.count c
  | [] => rfl
  | b :: l => by
    rw [List.map_cons, List.countP_cons, List.count_cons, eqb_count c l]
    rfl
def rCntB (K : PySem.W.Frag) : V → List V → Hp → VK → Prop := fun x xs H Q => ∃ (p : Addr) (ns : List Bool) (c : Bool), x = .ref p ∧ xs = [.bl c] ∧ SqL K H p (ns.map V.bl) ∧ Q (.int (ns.count c : Nat)) H
theorem mt_lcountB : MtR X "list.count" (rCntB X.K) := by
  intro pins s σ H x xs v us Q I rx rxs h
  obtain ⟨p, ns, c, rfl, rfl, hs, q⟩ := h
  cases rx
  obtain ⟨u, rfl, ru⟩ := rxs.one
  cases ru
  obtain ⟨its, rv, ⟨⟨cls, dd, data, sl⟩, n, ho, hc, hdn, hd⟩, hlen⟩ := I.list hs
  simp only at hc hd
  subst hc hd
  have hi := boolAt rv
  refine call_meets PySem.F.slot_list_count ⟨_, ho, rfl⟩ PySem.F.entry_list_count (PySem.F.args_list_count_2 _ _)
    (SeqAt.list_countAt p its.toArray n dd sl (.bool c) (eqb c)) ⟨ho, fun y hy => ?_, ?_⟩
  · have hy' : y ∈ its := by simpa using hy
    rw [hi] at hy'
    obtain ⟨b, _, rfl⟩ := List.mem_map.mp hy'
    exact SeqAt.EqAt.bool_bool b c
  have ec : its.toArray.toList.countP (eqb c) = ns.count c := by
    show its.countP (eqb c) = _
    rw [hi]
    exact eqb_count c ns
  refine ⟨.int (ns.count c : Nat), H, I.tok _, ⟨s.toks, ?_⟩, q⟩
  show Value.int ((its.toArray.toList.countP (eqb c) : Nat) : Int) s.toks = Value.int ((ns.count c : Nat) : Int) s.toks
  rw [ec]
def rIdxB (K : PySem.W.Frag) : V → List V → Hp → VK → Prop := fun x xs H Q => ∃ (p : Addr) (ns : List Bool) (c : Bool) (j : Nat), x = .ref p ∧ xs = [.bl c] ∧ SqL K H p (ns.map V.bl) ∧ ns[j]? = some c ∧ (∀ m, m < j → ns[m]? ≠ some c) ∧ j < 100000 ∧ Q (.int (j : Nat)) H
theorem mt_lindexB : MtR X "list.index" (rIdxB X.K) := by
  intro pins s σ H x xs v us Q I rx rxs h
  obtain ⟨p, ns, c, j, rfl, rfl, hs, hj, hno, hsm, q⟩ := h
  cases rx
  obtain ⟨u, rfl, ru⟩ := rxs.one
  cases ru
  obtain ⟨its, rv, ⟨⟨cls, dd, data, sl⟩, n, ho, hc, hdn, hd⟩, hlen⟩ := I.list hs
  simp only at hc hd
  subst hc hd
  have hi := boolAt rv
  have hjn : j < ns.length := (List.getElem?_eq_some_iff.mp hj).1
  have hl : its.length = ns.length := by rw [hi, List.length_map]
  have at_ : ∀ m (hm : m < its.toArray.size) (hm2 : m < ns.length), its.toArray[m] = Value.bool ns[m] := fun m hm hm2 => by
    simp [hi]
  refine call_meets PySem.F.slot_list_index ⟨_, ho, rfl⟩ PySem.F.entry_list_index (PySem.F.args_list_index_2 _ _)
    (SeqAt.list_indexAt p its.toArray n dd sl (.bool c) (eqb c) j (by rw [List.size_toArray, hl]; exact hjn) (by omega) ?_ ?_) ⟨ho, fun y hy => ?_, ?_⟩
  · rw [at_ j _ hjn]
    obtain ⟨h1, h2⟩ := List.getElem?_eq_some_iff.mp hj
    rw [h2]
    exact beq_self_eq_true c
  · intro m hm hmj
    have hm2 : m < ns.length := by omega
    rw [at_ m hm hm2]
    rw [Bool.eq_false_iff]
    intro e
    have e' : ns[m] = c := eq_of_beq e
    exact hno m hmj (by rw [List.getElem?_eq_getElem hm2, e'])
  · have hy' : y ∈ its := by simpa using hy
    rw [hi] at hy'
    obtain ⟨b, _, rfl⟩ := List.mem_map.mp hy'
    exact SeqAt.EqAt.bool_bool b c
  · exact ⟨.int (j : Nat), H, I.tok _, ⟨s.toks, rfl⟩, q⟩
end L2

namespace L2
open PySem PySem.Spec PyProof.Rows
/-- isinstance(e, c), e an exception that is pinned, whatever its dict -/
def rIsO (K : PySem.W.Frag) (D a : Addr) : List V → Hp → VK → Prop := fun xs H Q => ∃ (c : V) (cv : Value) (b : Bool), xs = [.ref a, c] ∧ (∀ u, RelV c u → u = cv) ∧ PySem.W.kitOne K (.ref D) cv = some b ∧ Q (.bl b) H
end L2

set_option autoImplicit false
namespace HotT
open PySem PySem.Spec PyProof.Rows L2 HotX
variable {prog : Program} {w : World} {A : Around} {E : Value → Shared → Prop} {s : Shared}
end HotT

set_option autoImplicit false
namespace HotT
open PySem PySem.Spec PyProof.Rows L2 HotX
/-- over the letters of a text without letters beyond 127 -/
def iStrA (te : TE) : TI := fun σ H R => te σ H fun v H1 => ∃ x : Str, v = .str x ∧ x.cps.all (· < 128) = true ∧ R (Its x) H1
section
variable {X : Cx}
end
end HotT

set_option autoImplicit false
namespace HotT
open PySem PySem.Spec PyProof.Rows L2 HotX
/-! a def called while an exception is handled, whose promise speaks of that exception -/
structure FnP (P : Program) (w : World) (K : PySem.W.Frag) (mg : Str → Option Value) (base : Heap) (CX : CXT) (k : Nat) (f : Addr) (fd : FuncData) (ps : List Str) (sp : Addr × Obj → Sp) : Prop where
  lenP : ∀ p vs H Q E, sp p vs H Q E → vs.length = ps.length
  runP : ∀ (p : Addr × Obj) (A : Around) (outer : List PySem.Env) (s : Shared) (H : Hp) (args : Args) (us : List Value) (vs : List V) (Q : VK) (E : XK), L2H.RoomH k A → L2H.Hot1 A p → L2H.PinOk outer H s p → Env0 P w K mg base A outer s H → BindsTo s fd args (ps.zip us) → Vals vs us → sp p vs H Q E →
    codeAny (model P w) A (.call (.ref f) args) (CR CX outer P w H s Q E) s
section
variable {X : Cx} {CX : CXT} {k : Nat} {f : Addr} {fd : FuncData} {ps : List Str} {sp : Addr × Obj → Sp} {E : L2.St → XK} {x : Str} {q pos : Pos} {e : Expr} {es : List Expr} {t : TA}
end
end HotT

set_option autoImplicit false
namespace J
open PySem PySem.Spec PyProof.Rows L2
variable {K : PySem.W.Frag} {P : Program} {w : World} {X : Cx}
/-! the exception that is handled, as an argument -/
def fIsX (i : Nat) (a : Addr) (b : Bool) : FE := fun env S => match env[i]? with
  | some (some (.glo (.ref a'))) => if a' = a then some (.bl b, S) else none
  | _ => none
/-- a comprehension over a text -/
def fStrA (f : FE) : FA := fun env S => match f env S with
  | some (.str x, S1) => if x.cps.all (· < 128) = true then some (sgD x, S1) else none
  | _ => none
/-! a def that tells the class of the exception that is handled -/
def spK (P : Program) (w : World) (K : PySem.W.Frag) (C : Addr) (word : Str) : Addr × Obj → Sp := fun p vs H Q _ => vs = [.ref p.1] ∧ (∃ d, L2N.Zn (.ref C) d p.2 ∧ (∃ us, p.2.data = .fields us) ∧ ∀ dd, d = some dd → ∃ gs, H dd = some (.xd gs)) ∧
  ∃ μ S, HR P w K H μ S ∧ ∀ H' μ', Later μ H μ' H' → HR P w K H' μ' S → Q (.str word) H'
def OkP (P : Program) (w : World) (K : PySem.W.Frag) (mg : Str → Option Value) (base : Heap) (x : Str) (C : Addr) (word : Str) (k : Nat) : Prop :=
  ∃ (f : Addr) (fd : FuncData) (ps : List Str), mg x = some (.ref f) ∧ PySem.W.keepIn K (.ref f) = true ∧ Binds K fd ps [] ∧ HotT.FnP P w K mg base (L2N.CX P w) k f fd ps (spK P w K C word)
/-! further forms in a suite -/
def JUT (X : Cx) (a : Addr) (cls : Value) (d : Option Addr) (i : Nat) (e : Expr) (f : List (Str × D) → FT) : Prop := ∃ t : TT, PT X e t ∧ ∀ (σ : L2.St) (H : Hp) (μ : Mp) (env : J.Env) (S : Sto) (fs : List (Str × D)) (b : Bool) (S' : Sto) (Q : Bool → Hp → Prop), HR X.prog X.w X.K H μ S → ER X.K H μ σ env →
  σ[i]? = some (some (.ref a)) → XdR X.K H μ d fs → f fs env S = some (b, S') → (∀ H' μ', Later μ H μ' H' → HR X.prog X.w X.K H' μ' S' → Q b H') → t σ H Q
def JUA (X : Cx) (a : Addr) (cls : Value) (d : Option Addr) (i : Nat) (es : List Expr) (f : List (Str × D) → FA) : Prop := ∃ t : TA, PA X es t ∧ ∀ (σ : L2.St) (H : Hp) (μ : Mp) (env : J.Env) (S : Sto) (fs : List (Str × D)) (ds : List D) (S' : Sto) (Q : List V → Hp → Prop), HR X.prog X.w X.K H μ S → ER X.K H μ σ env →
  σ[i]? = some (some (.ref a)) → XdR X.K H μ d fs → f fs env S = some (ds, S') → (∀ vs H' μ', Later μ H μ' H' → HR X.prog X.w X.K H' μ' S' → RvAll X.K H' μ' vs ds → Q vs H') → t σ H Q
end J

namespace PySem
namespace Xst
open PySem.W PySem.Calls PyProof.Rows PySem.HandSPX
open Builtin Builtin.ObjectAttr
variable {pr : Program} {w : World} {A : Around} {R : Result → Shared → Prop} {hz : Heap} {g : Array GenState} {d : Drawn} {t : Nat} {os : OsState} {K : W.Frag} {B : String} {bmB : List Value}
/-- the first field of an own exception over any built-in one -/
theorem put_first {name : Str} {tq : Tok} {v : Value} {x C : Addr} {fw : Array Value} {cl : ClassData} (SF : StoreFacts B bmB "object.__setattr__" "object") (X : K.In hz)
    (xat : hz.get? x = some { cls := .ref C, data := .fields fw }) (cdat : clsIn K C = some cl) (hm : cl.mro = .ref C :: bmB) (ht : excTail bmB bmB = true) (hh : cl.hasDict = true) (ha : findIn K (.ref C) name = some none)
    (kk : ∀ h' tq' dy, (∀ b o, b ≠ x → hz.get? b = some o → h'.get? b = some o) → hz.objs.size ≤ dy → dy ≠ x → h'.get? x = some { cls := .ref C, dict := some dy, data := .fields fw } →
      h'.Ns1 dy (fun y => if y = name then some v else none) → R (.ok (.ret .none)) ⟨h', g, d, tq', os⟩) :
    codeAny (model pr w) A (.call (.builtin "object.__setattr__") ⟨[.ref x, .str name tq, v], []⟩) R ⟨hz, g, d, t, os⟩ := by
  have I : InstAt hz x { cls := .ref C, data := .fields fw } C none := ⟨xat, rfl, rfl, trivial⟩
  have ov : excOver K C bmB = true := by
    unfold excOver
    rw [cdat]
    simp [hm, ht]
  have tkr : takerIn K C name = some none := by
    unfold takerIn
    rw [ha]
    rfl
  have Lc : Looks (model pr w) hz (classData C) cl := looks_clsIn X cdat
  have xne : x ≠ hz.objs.size := Nat.ne_of_lt (Heap.lt_size xat)
  refine osa_openX (s := ⟨hz, g, d, t, os⟩) (r := none) SF X I ov tkr fun b => ?_
  obtain ⟨nm, bs, mro, ns, qn, hd, sn, s2, ab, col, del⟩ := cl
  dsimp only at hh
  subst hh
  simp only
  unfold storeInOwnDict ownDictForStores
  repeat (first | with_reducible refine store_in_new ?_ ?_ | with_reducible refine wpAny_loadPart_at xat ?_ | with_reducible refine Lc.at ?_ | wp_step)
  · exact ⟨_, #[], _, (Heap.get?_update_ne _ _ _ _ xne.symm).trans (Heap.get?_push_at rfl rfl), rfl, fun e he => absurd he (by simp), fun _ => rfl⟩
  · intro h' tq' hn' sb
    have xat1 : (hz.push { cls := .type "dict", data := .dict #[] }).get? x = some { cls := .ref C, data := .fields fw } := Heap.get?_push_of_some _ xat
    refine kk h' tq' hz.objs.size (fun b o bne oat => ?_) (Nat.le_refl _) xne.symm ?_ hn'
    · exact (sb.2 b (Nat.ne_of_lt (Heap.lt_size oat))).trans ((Heap.get?_update_ne _ _ _ _ bne).trans (Heap.get?_push_of_some _ oat))
    · exact (sb.2 x xne).trans (Heap.get?_update_self _ xat1 rfl)
end Xst
end PySem

namespace PySem
namespace XcNoText
open PySem.W PySem.Calls PyProof.Rows PySem.HandSPX
/-! the text of NoText's own __init__ -/
def iA (p1 p2 : Pos) : Arguments := { posonlyargs := [], args := [{ arg := "self", annotation := none, pos := p1 }, { arg := "row", annotation := none, pos := p2 }], vararg := none, kwonlyargs := [], kw_defaults := [], kwarg := none, defaults := [] }
def iB (q1 q2 q3 q4 : Pos) : List Stmt := [.Assign [.Attribute (.Name "self" q1) "row" q2] (.Name "row" q3) q4]
def iS : Scope := { kind := .function, names := [(PySem.Str.ofString "self", .local), (PySem.Str.ofString "row", .local)], isGenerator := false, isCoroutine := false, more := [] }
abbrev bmB : List Value := [.type "ValueError", .type "Exception", .type "BaseException", .type "object"]
/-- what the written part says of NoText, at C, and of its __init__, at fI -/
structure LowTxt (K : Frag) (mg : Str → Option Value) (C fI : Addr) : Prop where
  gC : mg "NoText" = some (.ref C)
  cls : ∃ nm q N bs sn sub ab col dd k0 k1 k2 k3 k5, K.lookup C = some (excClassObj nm q C N bs bmB true sn sub ab col dd k0 k1 k2 k3 k5 "ValueError.__new__")
  sa : findIn K (.ref C) "__setattr__" = some (some (.builtin "object.__setattr__"))
  ga : findIn K (.ref C) "__getattribute__" = some (some (.builtin "BaseException.__getattribute__"))
  gg : findIn K (.ref C) "__getattr__" = some none
  noN : findIn K (.ref C) "row" = some none
  iC : findIn K (.ref C) "__init__" = some (some (.ref fI))
  tC : typeIn K (.ref fI) = some (.type "function")
  kC : keepIn K (.ref C) = true
  exC : subIn K (.ref C) (.type "BaseException") = some true
  tyC : typeIn K (.ref C) = some (.type "type")
  hdC : hasDictIn K C = true
  te : exmOne K (.ref C) (.ref C) = some true
  fn : ∃ (oc : Value) (od : Option Addr) (doc pm : Value) (an : Option Addr) (cdv ct : Value) (osl : Array (Option Value)) (p1 p2 q1 q2 q3 q4 : Pos),
    K.lookup fI = some ⟨oc, od, .func (fnOf "__init__" "NoText.__init__" (iA p1 p2) (iB q1 q2 q3 q4) iS .none .none doc pm an cdv ct), osl⟩ ∧ codeIn K cdv "NoText.__init__" = true
/-- what __init__ leaves of a fresh exception at x -/
structure InitEnd (h h' : Heap) (x C dx t1 : Addr) (v : Value) : Prop where
  keep : ∀ b o, b ≠ x → h.get? b = some o → h'.get? b = some o
  obj : h'.get? x = some { cls := .ref C, dict := some dx, data := .fields #[.ref t1, .none, .none, .none, .bool false, .none] }
  dbig : h.objs.size ≤ dx
  dne : dx ≠ x
  ns : h'.Ns1 dx (fun y => if y = "row" then some v else none)
/-- a made one -/
structure OwnMade (h h' : Heap) (e C d : Addr) (v : Value) : Prop where
  keep : ∀ b o, h.get? b = some o → h'.get? b = some o
  new : h.objs.size ≤ e
  obj : ∃ oe vs, h'.get? e = some oe ∧ oe.cls = .ref C ∧ oe.dict = some d ∧ oe.data = .fields vs ∧ vs[1]? = some .none ∧ vs[2]? = some .none
  dbig : h.objs.size ≤ d
  dne : d ≠ e
  ns : h'.Ns1 d (fun y => if y = "row" then some v else none)
section
variable {prog : Program} {w : World} {A : Around} {E : Value → Shared → Prop} {R : Result → Shared → Prop} {s : Shared} {K : Frag} {mg : Str → Option Value} {C fI : Addr}
end
end XcNoText
end PySem
namespace XcNoText
open PySem PySem.Spec PyProof.Rows L2
section
variable {X : Cx} {C fI : Addr}
/-- NoText(e) -/
def tMkLow (C : Addr) (ta : TA) : L2.St → Hp → XK → Prop := fun σ H Q => ta σ H fun vs H1 => ∃ v, vs = [v] ∧ ∀ d, H1 d = none → Q (.ref C) (some d) (upd H1 d (.xd [(("row" : Str), v)]))
/-- e.row, e the exception that the suite holds (at a; its class cls, its dict d) -/
def tByLow (C : Addr) (a : Addr) (cls : Value) (d : Option Addr) (te : TE) : TE := fun σ H Q => te σ H fun x H1 => x = .ref a ∧ cls = .ref C ∧ ∃ (dd : Addr) (v : V), d = some dd ∧ H1 dd = some (.xd [(("row" : Str), v)]) ∧ Q v H1
end
end XcNoText
namespace J
open PySem PySem.Spec PyProof.Rows L2
variable {X : Cx} {C fI : Addr}
/-- what e.row is -/
def fFldNoText (fs : List (Str × D)) : FE := fun _ S => match fs with
  | [(x, d)] => if x = "row" then some (d, S) else none
  | _ => none
end J

namespace PySem
namespace XcNoBranch
open PySem.W PySem.Calls PyProof.Rows PySem.HandSPX
/-! the text of NoBranch's own __init__ -/
def iA (p1 p2 : Pos) : Arguments := { posonlyargs := [], args := [{ arg := "self", annotation := none, pos := p1 }, { arg := "at", annotation := none, pos := p2 }], vararg := none, kwonlyargs := [], kw_defaults := [], kwarg := none, defaults := [] }
def iB (q1 q2 q3 q4 : Pos) : List Stmt := [.Assign [.Attribute (.Name "self" q1) "at" q2] (.Name "at" q3) q4]
def iS : Scope := { kind := .function, names := [(PySem.Str.ofString "self", .local), (PySem.Str.ofString "at", .local)], isGenerator := false, isCoroutine := false, more := [] }
abbrev bmB : List Value := [.type "IndexError", .type "LookupError", .type "Exception", .type "BaseException", .type "object"]
/-- what the written part says of NoBranch, at C, and of its __init__, at fI -/
structure LowTxt (K : Frag) (mg : Str → Option Value) (C fI : Addr) : Prop where
  gC : mg "NoBranch" = some (.ref C)
  cls : ∃ nm q N bs sn sub ab col dd k0 k1 k2 k3 k5, K.lookup C = some (excClassObj nm q C N bs bmB true sn sub ab col dd k0 k1 k2 k3 k5 "IndexError.__new__")
  sa : findIn K (.ref C) "__setattr__" = some (some (.builtin "object.__setattr__"))
  ga : findIn K (.ref C) "__getattribute__" = some (some (.builtin "BaseException.__getattribute__"))
  gg : findIn K (.ref C) "__getattr__" = some none
  noN : findIn K (.ref C) "at" = some none
  iC : findIn K (.ref C) "__init__" = some (some (.ref fI))
  tC : typeIn K (.ref fI) = some (.type "function")
  kC : keepIn K (.ref C) = true
  exC : subIn K (.ref C) (.type "BaseException") = some true
  tyC : typeIn K (.ref C) = some (.type "type")
  hdC : hasDictIn K C = true
  te : exmOne K (.ref C) (.ref C) = some true
  fn : ∃ (oc : Value) (od : Option Addr) (doc pm : Value) (an : Option Addr) (cdv ct : Value) (osl : Array (Option Value)) (p1 p2 q1 q2 q3 q4 : Pos),
    K.lookup fI = some ⟨oc, od, .func (fnOf "__init__" "NoBranch.__init__" (iA p1 p2) (iB q1 q2 q3 q4) iS .none .none doc pm an cdv ct), osl⟩ ∧ codeIn K cdv "NoBranch.__init__" = true
/-- what __init__ leaves of a fresh exception at x -/
structure InitEnd (h h' : Heap) (x C dx t1 : Addr) (v : Value) : Prop where
  keep : ∀ b o, b ≠ x → h.get? b = some o → h'.get? b = some o
  obj : h'.get? x = some { cls := .ref C, dict := some dx, data := .fields #[.ref t1, .none, .none, .none, .bool false, .none] }
  dbig : h.objs.size ≤ dx
  dne : dx ≠ x
  ns : h'.Ns1 dx (fun y => if y = "at" then some v else none)
/-- a made one -/
structure OwnMade (h h' : Heap) (e C d : Addr) (v : Value) : Prop where
  keep : ∀ b o, h.get? b = some o → h'.get? b = some o
  new : h.objs.size ≤ e
  obj : ∃ oe vs, h'.get? e = some oe ∧ oe.cls = .ref C ∧ oe.dict = some d ∧ oe.data = .fields vs ∧ vs[1]? = some .none ∧ vs[2]? = some .none
  dbig : h.objs.size ≤ d
  dne : d ≠ e
  ns : h'.Ns1 d (fun y => if y = "at" then some v else none)
section
variable {prog : Program} {w : World} {A : Around} {E : Value → Shared → Prop} {R : Result → Shared → Prop} {s : Shared} {K : Frag} {mg : Str → Option Value} {C fI : Addr}
end
end XcNoBranch
end PySem
namespace XcNoBranch
open PySem PySem.Spec PyProof.Rows L2
section
variable {X : Cx} {C fI : Addr}
/-- NoBranch(e) -/
def tMkLow (C : Addr) (ta : TA) : L2.St → Hp → XK → Prop := fun σ H Q => ta σ H fun vs H1 => ∃ v, vs = [v] ∧ ∀ d, H1 d = none → Q (.ref C) (some d) (upd H1 d (.xd [(("at" : Str), v)]))
/-- e.at, e the exception that the suite holds (at a; its class cls, its dict d) -/
def tByLow (C : Addr) (a : Addr) (cls : Value) (d : Option Addr) (te : TE) : TE := fun σ H Q => te σ H fun x H1 => x = .ref a ∧ cls = .ref C ∧ ∃ (dd : Addr) (v : V), d = some dd ∧ H1 dd = some (.xd [(("at" : Str), v)]) ∧ Q v H1
end
end XcNoBranch
namespace J
open PySem PySem.Spec PyProof.Rows L2
variable {X : Cx} {C fI : Addr}
/-- what e.at is -/
def fFldNoBranch (fs : List (Str × D)) : FE := fun _ S => match fs with
  | [(x, d)] => if x = "at" then some (d, S) else none
  | _ => none
end J

set_option autoImplicit false
namespace J
open PySem PySem.Spec PyProof.Rows L2
variable {K : PySem.W.Frag} {P : Program} {w : World} {X : Cx}
def blsD : List D → Option (List Bool)
  | [] => some []
  | .bl b :: r => (blsD r).map (b :: ·)
  | _ => none
theorem blsD_V {H : Hp} {μ : Mp} : ∀ {ds : List D} {xs : List V} {ns : List Bool}, RvAll K H μ xs ds → blsD ds = some ns → xs = ns.map V.bl
  | [], _, ns, .nil, e => by cases e; rfl
  | d :: ds, _, ns, .cons r q, e => by
    cases r with
    | bl b =>
      simp only [blsD] at e
      cases h : blsD ds with
      | none => rw [h] at e; cases e
      | some l => rw [h] at e; cases e; rw [blsD_V q h]; rfl
    | _ => simp [blsD] at e
def gCntB : GM := fun a ds S => match a, ds with
  | .lst xs, [.bl c] => match blsD xs with
    | some ns => some (.int (ns.count c : Nat), S)
    | none => none
  | _, _ => none
theorem rm_cntB : RM P w K (rCntB K) gCntB := by
  intro H μ S x xs a d ds S' Q hr rx rs e k
  unfold gCntB at e
  split at e
  · split at e
    · rename_i ns h
      cases e
      obtain ⟨y, rfl, ry⟩ := rs.one
      cases ry
      cases rx with
      | lst h1 h2 =>
        have ex := blsD_V h2 h
        subst ex
        exact ⟨_, ns, _, rfl, rfl, h1.sq, k _ H μ (.refl _ _) hr (.int _)⟩
    · cases e
  · cases e
def idxB (c : Bool) : List Bool → Nat → Option Nat
  | [], _ => none
  | b :: r, n => if b = c then some n else idxB c r (n + 1)
theorem idxB_ok {c : Bool} : ∀ {l : List Bool} {n j : Nat}, idxB c l n = some j → ∃ i, j = n + i ∧ l[i]? = some c ∧ ∀ m, m < i → l[m]? ≠ some c
  | [], _, _, e => by cases e
  | b :: r, n, j, e => by
    unfold idxB at e
    split at e
    · rename_i h
      cases e
      exact ⟨0, rfl, by rw [h]; rfl, fun m hm => absurd hm (Nat.not_lt_zero _)⟩
    · rename_i h
      obtain ⟨i, h1, h2, h3⟩ := idxB_ok e
      refine ⟨i + 1, by omega, h2, fun m hm => ?_⟩
      cases m with
      | zero => intro z; exact h (by simpa using z)
      | succ m => simpa using h3 m (by omega)
def gIdxB : GM := fun a ds S => match a, ds with
  | .lst xs, [.bl c] => match blsD xs with
    | some ns => match idxB c ns 0 with
      | some j => if j < 100000 then some (.int (j : Nat), S) else none
      | none => none
    | none => none
  | _, _ => none
theorem rm_idxB : RM P w K (rIdxB K) gIdxB := by
  intro H μ S x xs a d ds S' Q hr rx rs e k
  unfold gIdxB at e
  split at e
  · split at e
    · rename_i ns h
      split at e
      · rename_i j hj
        split at e
        · rename_i hl
          cases e
          obtain ⟨y, rfl, ry⟩ := rs.one
          cases ry
          obtain ⟨i, rfl, h2, h3⟩ := idxB_ok hj
          rw [Nat.zero_add] at hl
          cases rx with
          | lst h1 h4 =>
            have ex := blsD_V h4 h
            subst ex
            exact ⟨_, ns, _, i, rfl, rfl, h1.sq, h2, h3, hl, by rw [Nat.zero_add] at k; exact k _ H μ (.refl _ _) hr (.int _)⟩
        · cases e
      · cases e
    · cases e
  · cases e
/-! the answers of isinstance, by what the head tells -/
theorem kit_ty {C : Addr} {T : String} {b : Bool} (h1 : PySem.W.kitMeta T = true) (h3 : PySem.W.subIn K (.ref C) (.type T) = some b) : PySem.W.kitOne K (.ref C) (.type T) = some b := by
  unfold PySem.W.kitOne
  rw [if_neg (by simp)]
  unfold PySem.W.kitCls
  simp only [h1, if_true]
  exact h3
end J

set_option autoImplicit false
namespace L2
open PySem PySem.Spec PyProof.Rows
/-! a text, so many times -/
def strTimes (x : Str) (n : Nat) : Str := ⟨(List.replicate n x.cps).foldl (· ++ ·) #[]⟩
def rRepS : R2 := fun x y H Q => ∃ (z : Str) (n : Nat), x = .str z ∧ y = .int (n : Int) ∧ 2 ≤ n ∧ n ≤ 1000 ∧ 0 < z.length ∧ z.length ≤ 100 ∧ (strTimes z n).length ≤ 100000 ∧ Q (.str (strTimes z n)) H
end L2
namespace J
open PySem PySem.Spec PyProof.Rows L2
variable {K : PySem.W.Frag} {P : Program} {w : World} {X : Cx}
def gRepS : G2 := fun a b S => match a, b with
  | .str z, .int k => if 2 ≤ k.toNat ∧ k.toNat ≤ 1000 ∧ 0 < z.length ∧ z.length ≤ 100 ∧ (strTimes z k.toNat).length ≤ 100000 then some (.str (strTimes z k.toNat), S) else none
  | _, _ => none
end J

set_option autoImplicit false
/-! lambdas without parameters: made, and called in the def that got them (promises of the later layer) -/
namespace J
open PySem PySem.Spec PyProof.Rows L2 LamX
variable {K : PySem.W.Frag} {P : Program} {w : World} {X : Cx}
/-- what the making of a lambda leaves of the abstract heap -/
def Made (H : Hp) (p c : Addr) (ps : Array Value) (pos : Pos) (q : Str) (H1 : Hp) : Prop :=
  (H1 = H ∧ ∃ pos' : Pos, codeAmong pos' ps.toList = some (.ref c)) ∨ (H c = none ∧ H1 = upd (upd H p (.tbl (ps ++ #[rawInt pos.line, rawInt pos.col, .ref c]))) c (CodeO c q))
section
variable {pins : List (Addr × Obj)} {σ : L2.St} {H : Hp} {s : Shared}
end
/-- the context of a lambda's body, what it raises promised by the later layer -/
def lamN (X : Cx) (A : Around) (outer : List PySem.Env) (s : Shared) (H : Hp) (E : XK) (scope : Scope) (f c : Addr) : Cx :=
  (lamCx X A outer s H E scope f c).tr [] fun e s' => wpAny (model X.prog X.w) (A.deeper (lamEnv X scope s.heap.objs.size f c)) (leaving (lamEnv X scope s.heap.objs.size f c) e) (fun _ s'' => L2N.CX X.prog X.w outer H s E e s'') (fun e' s'' => L2N.CX X.prog X.w outer H s E e' s'') s'
section
variable {pins : List (Addr × Obj)} {σ : L2.St} {H HZ : Hp} {s s1 : Shared}
end
end J

set_option autoImplicit false
/-! try with several clauses, each with a name, of one class or of four -/
namespace J
open PySem PySem.Spec PyProof.Rows L2
variable {K : PySem.W.Frag} {P : Program} {w : World} {X : Cx}
/-- what a clause asks of the exception's class -/
def HTest (X : Cx) (te : Expr) (tm : Value → Option Bool) : Prop := ∀ (a : Addr) (oe : Obj) (pn : List (Addr × Obj)) (σ : L2.St) (H : Hp) (s : Shared) (cls : Value) (b : Bool) (Q : Bool → Shared → Prop) (E : Value → Shared → Prop), Inv (X.suite a ((a, oe) :: pn)) [] σ H s → s.heap.get? a = some oe → oe.cls = cls → tm cls = some b →
  (∀ h', (∀ b o, s.heap.get? b = some o → h'.get? b = some o) → Q b { s with heap := h' }) →
  wpAny (model X.prog X.w) (X.A.mark (some (.ref a))) (eval te X.env) (fun c s1 => wpAny (model X.prog X.w) (X.A.mark (some (.ref a))) (excMatches (.ref a) c) Q E s1) E s
/-- what the clauses wish of an exception of the body, one after the other; slot i is the name's -/
def wAsM (i : Nat) (Wout : WX) (D : Ends) : List ((Value → Option Bool) × (Addr → Value → Option Addr → TS)) → WX
  | [] => Wout
  | (tm, ts) :: r => fun cls d σ H => ∃ b, tm cls = some b ∧
    (b = true → ∀ a, H a = none → ts a cls d { nx := fun σ' H' => D.nx (σ'.set i none) H', rt := D.rt, bk := fun σ' H' => D.bk (σ'.set i none) H', ct := fun σ' H' => D.ct (σ'.set i none) H' } (σ.set i (some (.ref a))) H) ∧
    (b = false → wAsM i Wout D r cls d σ H)
inductive HdsAs (X : Cx) (n : Str) : List ExceptHandler → List ((Value → Option Bool) × (Addr → Value → Option Addr → TS)) → Prop
  | nil : HdsAs X n [] []
  | cons {te : Expr} {tm : Value → Option Bool} {ts : Addr → Value → Option Addr → TS} {b₀ : Stmt} {suite : List Stmt} {pos' : Pos} {hds : List ExceptHandler} {l : List ((Value → Option Bool) × (Addr → Value → Option Addr → TS))} (hc : HTest X te tm)
      (hsu : ∀ (a : Addr) (oe : Obj) (cls : Value) (d : Option Addr) (pn : List (Addr × Obj)), L2N.Zn cls d oe → (∃ vs, oe.data = .fields vs) → PSs (X.suite a ((a, oe) :: pn)) (b₀ :: suite) (ts a cls d)) (r : HdsAs X n hds l) :
      HdsAs X n (.ExceptHandler (some te) (some n) (b₀ :: suite) pos' :: hds) ((tm, ts) :: l)
end J

set_option autoImplicit false
/-! a def that calls the lambda that it gets in a try with several clauses; its call with a lambda -/
namespace J
open PySem PySem.Spec PyProof.Rows L2 LamX
variable {K : PySem.W.Frag} {P : Program} {w : World} {X : Cx}
abbrev Su := List (Str × D) → FS
/-- the clauses, one after the other, for the classes of the names all -/
inductive JHds (X : Cx) (i : Nat) (n : Str) (all : List Str) : List ExceptHandler → (Str → Option Su) → Prop
  | nil : JHds X i n all [] (fun _ => none)
  | cons {te : Expr} {tm : Value → Option Bool} {own : List Str} {su : Str → Su} {g : Str → Option Su} {b₀ : Stmt} {suite : List Stmt} {pos' : Pos} {hds : List ExceptHandler} (hc : HTest X te tm)
      (htm : ∀ y C, y ∈ all → X.mg y = some (.ref C) → tm (.ref C) = some (decide (y ∈ own)))
      (hsu : ∀ (y : Str) (C a : Addr) (oe : Obj) (d : Option Addr) (pn : List (Addr × Obj)), y ∈ own → X.mg y = some (.ref C) → L2N.Zn (.ref C) d oe → (∃ vs, oe.data = .fields vs) → JUs (X.suite a ((a, oe) :: pn)) a (.ref C) d i (b₀ :: suite) (su y)) (r : JHds X i n all hds g) :
      JHds X i n all (.ExceptHandler (some te) (some n) (b₀ :: suite) pos' :: hds) (fun y => if y ∈ own then some (su y) else g y)
/-- what must hold when an exception of the body is met -/
def XcJ (X : Cx) (i n : Nat) (all : List Str) (g : Str → Option Su) (Q : VK) (cls : Value) (d : Option Addr) (H : Hp) : Prop :=
  ∃ (μ : Mp) (S : Sto) (y : Str) (C : Addr) (fs : List (Str × D)) (sy : Su) (dv : D) (env' : J.Env) (S' : Sto), X.mg y = some (.ref C) ∧ cls = .ref C ∧ y ∈ all ∧ HR X.prog X.w X.K H μ S ∧ XdR X.K H μ d fs ∧ g y = some sy ∧
    sy fs (List.replicate n none) S = some (.rt dv, env', S') ∧ ∀ v H' μ', Later μ H μ' H' → HR X.prog X.w X.K H' μ' S' → Rv X.K H' μ' v dv → Q v H'
/-- the context of the def that got the lambda -/
abbrev cxG (P : Program) (w : World) (K : PySem.W.Frag) (mg : Str → Option Value) (base : Heap) (Ng : List Str) (x : Str) (st : Stmt) (f0 : Addr) (cdv : Value) (A : Around) (outer : List PySem.Env) (s : Shared) (H : Hp) : Cx := cxOf C8.CX0 P w K mg base Ng x (defScope st) f0 cdv A outer s H C8.E0
/-- what the def makes of a lambda's promise -/
def GivesE (P : Program) (w : World) (K : PySem.W.Frag) (mg : Str → Option Value) (base : Heap) (st : Stmt) (x a : Str) (Ng : List Str) (k i : Nat) (all : List Str) (r : FS) (g : Str → Option Su) : Prop :=
  ∀ (f0 : Addr) (cdv : Value) (A : Around) (outer : List PySem.Env) (s : Shared) (H : Hp) (f c' : Addr) (q : Str) (tl : XK → Hp → VK → Prop), Room k (A.deeper (envOfC x (defScope st) s.heap.objs.size f0 cdv)) →
    (∀ (W : WX) (pn : List (Addr × Obj)) (xe : Value → Shared → Prop) (E : XK) (p1 p2 : Pos), L2N.Takes ((cxG P w K mg base Ng x st f0 cdv A outer s H).tr pn xe) W →
      PE ((cxG P w K mg base Ng x st f0 cdv A outer s H).tr pn xe) (.Call (.Name a p1) [] [] p2) (fun σZ HZ Q => σZ[0]? = some (some (.ref f)) ∧ HZ c' = some (CodeO c' q) ∧ (∀ cls d H', E cls d H' → W cls d σZ H') ∧ tl E HZ Q)) →
    ∃ t, PSs (cxG P w K mg base Ng x st f0 cdv A outer s H) (defBody st) t ∧ ∀ (Q : VK) (H1 : Hp) (E : XK), H1 c' = some (CodeO c' q) →
      (∀ Q' : VK, (∀ (v : V) (H2 : Hp) (μ : Mp) (S : Sto) (dv : D) (env' : J.Env) (S' : Sto), HR P w K H2 μ S → r (List.replicate Ng.length none) S = some (.rt dv, env', S') → (∀ v H' μ', Later μ H2 μ' H' → HR P w K H' μ' S' → Rv K H' μ' v dv → Q v H') → Q' v H2) → tl E H1 Q') →
      (∀ cls d H2, E cls d H2 → XcJ (cxG P w K mg base Ng x st f0 cdv A outer s H) i Ng.length all g Q cls d H2) → t { nx := fun _ H' => Q .non H', rt := Q } (start Ng [.ref f]) H1
end J

set_option autoImplicit false
/-! x(lambda: body): the call of a def that calls what it got -/
namespace J
open PySem PySem.Spec PyProof.Rows L2 LamX
variable {K : PySem.W.Frag} {P : Program} {w : World} {X : Cx}
def fRtV (o : Option (Fl × J.Env × Sto)) : Option (D × Sto) := match o with
  | some (.rt dv, _, S2) => some (dv, S2)
  | _ => none
open Classical in
/-- the lambda called, then what the def makes of it -/
noncomputable def fLam (kT : Nat) (x : Str) (m : Option Str) (q : Str) (fb : FE) (gb : FX) (n : Nat) (all : List Str) (r : FS) (g : Str → Option Su) : FE := fun env S => if S[kT]? = some (.tab x m q) then (match fb env S with
  | some (_, S1) => fRtV (r (List.replicate n none) S1)
  | none => match gb env S with
    | some ((y, fs), S1) => if y ∈ all then (match g y with
      | some sy => fRtV (sy fs (List.replicate n none) S1)
      | none => none) else none
    | none => none) else none
end J

set_option autoImplicit false
/-! an own exception class whose __init__ keeps one field, made by an expression; over any built-in class -/
namespace J
open PySem PySem.Spec PyProof.Rows L2
variable {K : PySem.W.Frag} {P : Program} {w : World} {X : Cx}
/-- what the written part says of the class x, at C, and of its __init__, at fI -/
structure OxT (K : PySem.W.Frag) (mg : Str → Option Value) (x f : Str) (C fI : Addr) (newId : String) (bmB : List Value) (st : Stmt) (qual : Str) : Prop where
  gC : mg x = some (.ref C)
  cls : ∃ nm q N bs sn sub ab col dd k0 k1 k2 k3 k5, K.lookup C = some (excClassObj nm q C N bs bmB true sn sub ab col dd k0 k1 k2 k3 k5 newId)
  sa : PySem.W.findIn K (.ref C) "__setattr__" = some (some (.builtin "object.__setattr__"))
  ga : PySem.W.findIn K (.ref C) "__getattribute__" = some (some (.builtin "BaseException.__getattribute__"))
  gg : PySem.W.findIn K (.ref C) "__getattr__" = some none
  noN : PySem.W.findIn K (.ref C) f = some none
  iC : PySem.W.findIn K (.ref C) "__init__" = some (some (.ref fI))
  tC : PySem.W.typeIn K (.ref fI) = some (.type "function")
  kC : PySem.W.keepIn K (.ref C) = true
  exC : PySem.W.subIn K (.ref C) (.type "BaseException") = some true
  tyC : PySem.W.typeIn K (.ref C) = some (.type "type")
  hdC : PySem.W.hasDictIn K C = true
  te : PySem.W.exmOne K (.ref C) (.ref C) = some true
  fn : ∃ (oc : Value) (od : Option Addr) (kV doc pm : Value) (an : Option Addr) (cdv ct : Value) (osl : Array (Option Value)),
    K.lookup fI = some ⟨oc, od, .func (PySem.W.fnOf "__init__" qual (defArgs st) (defBody st) (defScope st) .none kV doc pm an cdv ct), osl⟩ ∧ PySem.W.codeIn K cdv qual = true ∧ Binds K (PySem.W.fnOf "__init__" qual (defArgs st) (defBody st) (defScope st) .none kV doc pm an cdv ct) ["self", f] []
/-- the context of its body -/
abbrev cxI (P : Program) (w : World) (K : PySem.W.Frag) (mg : Str → Option Value) (base : Heap) (N : List Str) (qual : Str) (st : Stmt) (fI : Addr) (cdv : Value) (A : Around) (outer : List PySem.Env) (s : Shared) (H : Hp) : Cx := cxOf C8.CX0 P w K mg base N qual (defScope st) fI cdv A outer s H C8.E0
section
variable {mg : Str → Option Value} {base : Heap} {x f qual : Str} {C fI : Addr} {newId B initId : String} {bmB : List Value} {st : Stmt} {N : List Str} {k : Nat} {ve : Expr} {q1 q2 q4 : Pos}
end
section
variable {x f qual : Str} {C fI : Addr} {newId B initId : String} {bmB : List Value} {st : Stmt} {N : List Str} {k j : Nat} {a ve : Expr} {p pos q1 q2 q4 : Pos} {fe : FE}
theorem relO_one {f : Str} {v : V} {u : Value} (r : RelV v u) (g : Str) : RelO (List.lookup g [(f, v)]) (if g = f then some u else none) := by
  by_cases h : g = f
  · subst h
    simp [List.lookup]
    exact r
  · have e : (g == f) = false := by simpa using h
    simp [List.lookup, e, h, RelO]
end
section
variable {x f qual : Str} {C fI : Addr} {newId B initId : String} {bmB : List Value} {st : Stmt} {N : List Str} {k j : Nat} {a ve : Expr} {p pos q1 q2 q4 : Pos} {fe fa : FE}
/-- the field's value: the argument, then what __init__ makes of it -/
def fOx (n : Nat) (fa fe : FE) : FE := fun env S => match fa env S with
  | some (d, S1) => fe (none :: some d :: List.replicate (n - 2) none) S1
  | none => none
theorem er_two {H : Hp} {μ : Mp} {xa : Addr} {v : V} {d : D} (r : Rv K H μ v d) (hl : 2 ≤ N.length) : ER K H μ (start N [.ref xa, v]) (none :: some d :: List.replicate (N.length - 2) none) := by
  have h := start_er (N := N) (RvAll.cons (Rv.glo (K := K) (H := H) (μ := μ) (.ref xa)) (.cons r .nil))
  refine ⟨by simp [L2.start] <;> omega, fun i e he => ?_⟩
  match i, he with
  | 0, he => cases he
  | 1, he =>
    cases he
    exact h.ok 1 _ rfl
  | i + 2, he =>
    rw [List.getElem?_cons_succ, List.getElem?_cons_succ, List.getElem?_replicate] at he
    split at he <;> cases he
/-- e.f in a suite, e the exception -/
def fFldOx (f : Str) (fs : List (Str × D)) : FE := fun _ S => match fs with
  | [(y, d)] => if y = f then some (d, S) else none
  | _ => none
end
end J

set_option autoImplicit false
/-! methods that raise -/
namespace J
open PySem PySem.Spec PyProof.Rows L2
variable {K : PySem.W.Frag} {P : Program} {w : World} {X : Cx}
section
variable {CX : CXT} {k : Nat} {f C : Addr} {fd : FuncData} {ps : List Str} {sp : Sp} {dvs : List V} {ds : List Value} {E : L2.St → XK} {m : Str} {pos apos : Pos} {e o : Expr} {es : List Expr} {ta : TE} {t : TA}
def tMethE (C : Addr) (m : Str) (sp : Sp) (dvs : List V) (E : L2.St → XK) (ta : TE) (t : TA) : TE := fun σ H Q => ta σ H fun x H1 => ∃ a dx fs, x = .ref a ∧ H1 a = some (.ins C dx fs) ∧ fs.lookup m = none ∧ t σ H1 fun vs H2 => sp (x :: (vs ++ dvs)) H2 Q (E σ)
end
/-- what a raising method's call keeps -/
def OkMX (P : Program) (w : World) (K : PySem.W.Frag) (mg : Str → Option Value) (base : Heap) (x m : Str) (n : Nat) (dd : List D) (F : Fn) (G : FnX) (k : Nat) : Prop :=
  ∃ (C f : Addr) (fd : FuncData) (ps : List Str) (dvs : List V) (ds : List Value), ClsAt K x C ∧ Cls K C ∧ Meth K C m f ∧ Binds K fd ps ds ∧ Vals dvs ds ∧ (∀ H μ, RvAll K H μ dvs dd) ∧ FnOk P w K mg base (L2N.CX P w) k f fd ps (spX P w K mg n F G)
def OkMBX (P : Program) (w : World) (K : PySem.W.Frag) (mg : Str → Option Value) (base : Heap) (x m : Str) (n : Nat) (B : FuncData → List Str → Prop) (F : Fn) (G : FnX) (k : Nat) : Prop :=
  ∃ (C f : Addr) (fd : FuncData) (ps : List Str), ClsAt K x C ∧ Cls K C ∧ Meth K C m f ∧ B fd ps ∧ FnOk P w K mg base (L2N.CX P w) k f fd ps (spX P w K mg n F G)
section
variable {mg : Str → Option Value} {base : Heap} {x m kw : Str} {n k i : Nat} {F : Fn} {G : FnX} {dd : List D} {B : FuncData → List Str → Prop}
/-- where it raises nothing -/
theorem OkMBX.calm (h : OkMBX P w K mg base x m n B F G k) : OkMB P w K mg base x m n B F k := let ⟨C, f, fd, ps, a, b, c, d, e⟩ := h; ⟨C, f, fd, ps, a, b, c, d, spX_calm e⟩
theorem OkMBX.pl (h : OkMBX P w K mg base x m n (BPl K) F G k) : OkMX P w K mg base x m n [] F G k := let ⟨C, f, fd, ps, a, b, c, d, e⟩ := h; ⟨C, f, fd, ps, [], [], a, b, c, d, .nil, fun _ _ => .nil, e⟩
theorem OkMBX.df (h : OkMBX P w K mg base x m n (BDf K dd) F G k) : OkMX P w K mg base x m n dd F G k := let ⟨C, f, fd, ps, a, b, c, ⟨dvs, ds, d1, d2, d3⟩, e⟩ := h; ⟨C, f, fd, ps, dvs, ds, a, b, c, d1, d2, d3, e⟩
theorem OkMBX.kd (h : OkMBX P w K mg base x m n (BKw K i kw dd) F G k) : OkMX P w K mg base x m n dd F G k := let ⟨C, f, fd, ps, a, b, c, d, e⟩ := h; OkMBX.df ⟨C, f, fd, ps, a, b, c, d.2, e⟩
end
def gMeth (x m : Str) (n : Nat) (G : FnX) (fo : FE) (fa : FA) (dd : List D) : FX := fun env S => match fo env S with
  | some (.obj k, S1) => match S1[k]? with
    | some (.ins y fs) => if y = x ∧ fs.lookup m = none then (match fa env S1 with
        | some (ds, S2) => if (D.obj k :: (ds ++ dd)).length = n then G (.obj k :: (ds ++ dd)) S2 else none
        | none => none) else none
    | _ => none
  | _ => none
section
variable {o e : Expr} {es : List Expr} {x m : Str} {n j k : Nat} {F : Fn} {GX : FnX} {dd : List D} {pos apos : Pos} {fo : FE} {g : FA} {pl : Sem Bool}
end
end J

set_option autoImplicit false
/-! contracts of defs that make lambdas: their own code object is known; the law's end with tables in the store -/
namespace J
open PySem PySem.Spec PyProof.Rows L2 LamX
variable {K : PySem.W.Frag} {P : Program} {w : World} {X : Cx}
/-- the code object of the def at f -/
def CodeOf (K : PySem.W.Frag) (f : Addr) (cdv : Value) : Prop := ∃ (of : Obj) (fd : FuncData), K.lookup f = some of ∧ of.data = .func fd ∧ fd.code = cdv
theorem CodeOf.one {f : Addr} {c d : Value} (h : CodeOf K f c) (h' : CodeOf K f d) : c = d := by
  obtain ⟨o, fd, h1, h2, h3⟩ := h
  obtain ⟨o', fd', g1, g2, g3⟩ := h'
  rw [h1] at g1; cases g1
  rw [h2] at g2; cases g2
  exact h3.symm.trans g3
/-- what the head says of the table of the def x -/
def TabF (K : PySem.W.Frag) (mg : Str → Option Value) (base : Heap) (x : Str) : Prop := ∀ p, TabAt K x none p → ∃ fa c, mg x = some (.ref fa) ∧ CodeOf K fa (.ref c) ∧ TabB base mg c p
theorem TabF.at {mg : Str → Option Value} {base : Heap} {x : Str} {f : Addr} {cdv : Value} (h : TabF K mg base x) (hm : mg x = some (.ref f)) (hc : CodeOf K f cdv) (p : Addr) (t : TabAt K x none p) : ∃ c, cdv = .ref c ∧ TabB base mg c p := by
  obtain ⟨fa, c, h1, h2, h3⟩ := h p t
  cases h1.symm.trans hm
  exact ⟨c, hc.one h2, h3⟩
section
variable {mg : Str → Option Value} {base : Heap} {x qual : Str} {st : Stmt} {f : Addr} {fd : FuncData} {N ps : List Str} {k : Nat} {b : FS} {md : Md}
end
/-! the clauses' tests -/
/-! the law's end, tables in the store -/
end J

set_option autoImplicit false
/-! the end of a law row over a head by facts, with tables of code objects; what the head says of exception classes -/
namespace Kx
open PySem PySem.Spec PyProof.Rows L2 LamX
section
variable {P : Program} {w : World} {K : PySem.W.Frag} {mg : Str → Option Value}
theorem law_atT {mb : Str → Option Value} {fa a : Addr} {t : Shared} {vs : List Value} {ns : List Int} {cs : List (Addr × Addr)}
    (inK : K.In t.heap) (gl : t.heap.Ns mainGlobals mg) (bl : t.heap.Ns builtinsNs mb) (bb : ∀ x : Str, x ≠ "__name__" → mb x = bootBuiltins x) (noL : t.heap.NoLimit) (gn : t.gens = #[])
    (hT : ∀ p ∈ cs, t.heap.get? p.2 = some { cls := .none, data := .fields #[] }) (nT : ∀ p ∈ cs, K.lookup p.2 = none) (C : ∀ p ∈ cs, PySem.W.CodeHd t.heap p.1 p.2)
    (hbm : ∃ (bm : Addr) (ob : Obj), mg "__builtins__" = some (.ref bm) ∧ bm ≠ builtinsNs ∧ t.heap.get? bm = some ob ∧ ob.cls = .type "module" ∧ ob.dict = some builtinsNs ∧ ob.data = .plain)
    (ha : t.heap.get? a = some { cls := .type "list", data := .seq vs.toArray }) (areI : IntsAre vs ns) (few : ns.length ≤ sizeLine)
    (run : ∀ (bs : Heap) (H : Hp), K.In bs → bs.Ns mainGlobals mg → Env0 P w K mg bs callerA [] t H → SqL K H a (ns.map V.int) → (∀ p ∈ cs, TabB bs mg p.1 p.2) → (∀ p ∈ cs, H p.2 = some (.tbl #[])) → a ∉ cs.map (·.2) →
      codeAny (model P w) callerA (.call (.ref fa) ⟨[.ref a], []⟩) (CR CX0 [] P w H t (fun v _ => v = .bl true) fun _ _ _ => False) t) :
    codeAny (model P w) callerA (.call (.ref fa) ⟨[.ref a], []⟩) (fun r s' => r = .ok (.ret (.bool true)) ∧ OldK t.heap s'.heap ∧ s'.os = t.os ∧ AllBare s'.gens) t := by
  have rv := vals_ints areI
  have isT : ∀ b : Addr, b ∈ cs.map (·.2) → t.heap.get? b = some { cls := .none, data := .fields #[] } := fun b hb => by
    obtain ⟨p, hp, e⟩ := List.mem_map.mp hb
    rw [← e]
    exact hT p hp
  have aT : a ∉ cs.map (·.2) := fun z => by
    have q := isT a z
    rw [ha] at q
    cases q
  have go : ∀ H : Hp, (∀ p ∈ cs, H p.2 = some (.tbl #[])) → (∀ b, H b = none ∨ b ∈ cs.map (·.2) ∨ ∃ o xs, H b = some (.frz o (.lst xs))) → SqL K H a (ns.map V.int) → HOk P w H t.heap → (∀ b, H b ≠ none → b = a ∨ b ∈ cs.map (·.2)) → (H a ≠ none → K.lookup a = none) →
      codeAny (model P w) callerA (.call (.ref fa) ⟨[.ref a], []⟩) (fun r s' => r = .ok (.ret (.bool true)) ∧ OldK t.heap s'.heap ∧ s'.os = t.os ∧ AllBare s'.gens) t := by
    intro H hH only sq hok onlyA notK
    have free : ∀ {b : Addr} {o : Obj}, t.heap.get? b = some o → (∀ vs n, o.data ≠ .seq vs n) → o.data ≠ .fields #[] → H b = none := fun {b o} e h1 h2 => Classical.byContradiction fun z => by
      rcases onlyA b z with y | y
      · rw [y, ha] at e
        cases e
        exact h1 _ _ rfl
      · rw [isT b y] at e
        cases e
        exact h2 rfl
    have ns' : ∀ {b : Addr} {m : Str → Option Value}, t.heap.Ns b m → (hidT t.heap H).Ns b m := by
      rintro b m ⟨o, es, ep, e, d, r⟩
      exact ⟨o, es, ep, hidT_get e (free e (fun vs n z => by rw [d] at z; cases z) (fun z => by rw [d] at z; cases z)), d, r⟩
    have inB : K.In (hidT t.heap H) := by
      intro b o e
      refine hidT_get (inK b o e) (Classical.byContradiction fun z => ?_)
      rcases onlyA b z with y | y
      · subst y
        rw [notK z] at e
        cases e
      · obtain ⟨p, hp, ep⟩ := List.mem_map.mp y
        rw [← ep, nT p hp] at e
        cases e
    have md : Mod K mg (hidT t.heap H) := ⟨inB, ns' gl, ⟨mb, ns' bl, bb⟩, by obtain ⟨mc, z1, z2⟩ := noL; exact ⟨mc, ns' z1, z2⟩⟩
    have tb : ∀ p ∈ cs, TabB (hidT t.heap H) mg p.1 p.2 := fun p hp => by
      have hTp := hT p hp
      refine ⟨?_, ?_, fun z => ?_⟩
      · obtain ⟨o, us, file, tf, flags, tg, inF, text, tt, e1, r1, r2, r3, r4, r5, r6, r7, r8, hne⟩ := C p hp
        exact ⟨o, us, file, tf, flags, tg, inF, text, tt, hidT_get e1 (free e1 (fun vs n z => by rw [r2] at z; cases z) (fun z => by rw [r2] at z; cases z; simp at r3)), r1, r2, r3, r4, r5, r6, r7, r8, hne⟩
      · obtain ⟨bm, ob, b1, b2, b3, b4, b5, b6⟩ := hbm
        have nG : bm ≠ mainGlobals := fun q => by
          obtain ⟨o, es, ep, e, hd, _⟩ := gl
          rw [q, e] at b3
          cases b3
          rw [hd] at b6
          cases b6
        have nP : bm ≠ p.2 := fun q => by
          rw [q, hTp] at b3
          cases b3
          cases b6
        exact ⟨bm, ob, b1, b2, nG, nP, hidT_get b3 (free b3 (fun vs n z => by rw [b6] at z; cases z) (fun z => by rw [b6] at z; cases z)), b4, b5, b6⟩
      · obtain ⟨o, es, ep, e, hd, _⟩ := gl
        rw [z, hTp] at e
        cases e
        cases hd
    have env0 : Env0 P w K mg (hidT t.heap H) callerA [] t H :=
      ⟨rfl, md, fun b o e => of_hidT e, Nat.le_of_eq (hidT_size _ _), trivial, fun b hb => absurd (show b ∈ ([] : List Addr) from hb) (by simp), hok, .of_eq gn⟩
    refine codeAny_mono (run _ H inB (ns' gl) env0 sq tb hH aT) fun r s2 out => ?_
    match r, out with
    | .error e, out => exact False.elim out
    | .ok .next, out => exact False.elim out
    | .ok .brk, out => exact False.elim out
    | .ok .cont, out => exact False.elim out
    | .ok (.ret u), ⟨v, H2, os, bare, un, hok2, r2, q2⟩ =>
      have q3 : v = .bl true := q2
      subst q3
      have r3 : u = Value.bool true := r2
      subst r3
      have key : ∀ b o, b ∉ cs.map (·.2) → t.heap.get? b = some o → s2.heap.get? b = some o := fun b o nb e => by
        rcases only b with z | z | ⟨ob, xs, z⟩
        · exact un.keep b o e z (by intro y; exact absurd (show b ∈ ([] : List Addr) from y) (by simp)) (by simp)
        · exact absurd z nb
        · have one := (hok b _ z).1
          have two := (hok2 b _ (un.frzs b ob _ z)).1
          rw [e] at one
          cases one
          exact two
      have grown : ∀ p ∈ cs, ∃ more : Array Value, s2.heap.get? p.2 = some { cls := .none, data := .fields more } := fun p hp => by
        obtain ⟨more, z⟩ := un.tbls p.2 #[] (hH p hp)
        exact ⟨_, hok2 p.2 _ z⟩
      refine ⟨rfl, ⟨fun b o e => ?_, fun b o e => ?_⟩, os, bare⟩
      · by_cases hb : b ∈ cs.map (·.2)
        · obtain ⟨p, hp, ep⟩ := List.mem_map.mp hb
          obtain ⟨more, hm⟩ := grown p hp
          rw [← ep] at e ⊢
          rw [hT p hp] at e
          cases e
          exact .inr (.inl ⟨((C p hp).tab (hT p hp)).isCodeTable, rfl, #[], more, rfl, by rw [Array.empty_append]; exact hm⟩)
        · exact .inl (key b o hb e)
      · by_cases hb : b ∈ cs.map (·.2)
        · obtain ⟨p, hp, ep⟩ := List.mem_map.mp hb
          obtain ⟨more, hm⟩ := grown p hp
          rw [← ep]
          exact ⟨_, hm⟩
        · exact ⟨o, key b o hb e⟩
  have memT : ∀ p ∈ cs, p.2 ∈ cs.map (·.2) := fun p hp => List.mem_map.mpr ⟨p, hp, rfl⟩
  cases look : K.lookup a with
  | some o =>
    have e := inK a o look
    rw [ha] at e
    cases e
    refine go (fun b => if b ∈ cs.map (·.2) then some (.tbl #[]) else none) (fun p hp => if_pos (memT p hp)) (fun b => ?_) (.inr ⟨_, vs.toArray, _, look, rfl, rfl, rfl, by rw [List.size_toArray, areI.length]; exact few, by simpa using rv⟩) (fun b u z => ?_) (fun b z => ?_) fun z => absurd (show (if a ∈ cs.map (·.2) then some (HO.tbl #[]) else none) = none from if_neg aT) z
    · by_cases hb : b ∈ cs.map (·.2)
      · exact .inr (.inl hb)
      · exact .inl (if_neg hb)
    · by_cases hb : b ∈ cs.map (·.2)
      · have z' := (if_pos hb).symm.trans z
        cases z'
        exact isT b hb
      · have z' := (if_neg hb).symm.trans z
        cases z'
    · by_cases hb : b ∈ cs.map (·.2)
      · exact .inr hb
      · exact absurd (if_neg hb) z
  | none =>
    refine go (fun b => if b = a then some (.frz { cls := .type "list", data := .seq vs.toArray } (.lst (ns.map V.int))) else if b ∈ cs.map (·.2) then some (.tbl #[]) else none) (fun p hp => (if_neg (show ¬ p.2 = a from fun z => aT (by rw [← z]; exact memT p hp))).trans (if_pos (memT p hp))) (fun b => ?_)
      (.inl (.inr ⟨{ cls := .type "list", data := .seq vs.toArray }, if_pos rfl⟩)) (fun b u z => ?_) (fun b z => ?_) fun _ => look
    · by_cases hb : b = a
      · exact .inr (.inr ⟨_, _, if_pos hb⟩)
      · by_cases hb2 : b ∈ cs.map (·.2)
        · exact .inr (.inl hb2)
        · exact .inl ((if_neg hb).trans (if_neg hb2))
    · by_cases hb : b = a
      · have z' := (if_pos hb).symm.trans z
        cases z'
        rw [hb]
        exact ⟨ha, by rw [List.length_map]; exact few, vs, _, rv, ha⟩
      · have z1 := (if_neg hb).symm.trans z
        by_cases hb2 : b ∈ cs.map (·.2)
        · have z' := (if_pos hb2).symm.trans z1
          cases z'
          exact isT b hb2
        · have z' := (if_neg hb2).symm.trans z1
          cases z'
    · by_cases hb : b = a
      · exact .inl hb
      · by_cases hb2 : b ∈ cs.map (·.2)
        · exact .inr hb2
        · exact absurd ((if_neg hb).trans (if_neg hb2)) z
end
/-- the end of a law row over a head by facts, tables too, walked at its caller -/
theorem walk_callerT {l : PySem.W.OpenLaw} {n : Nat} {q : Program} {loose : List Str} {XP : (Str → Option Value) → Heap → Prop} {YP : World → Heap → Prop} {d : DefRec}
    (hn : l.most = some n) (hn2 : n ≤ sizeLine) (hdf : d.params.defaults = [])
    (F : ∀ (w : World) (mg : Str → Option Value) (fa : Addr) (h : Heap), YP w h → h.Ns mainGlobals mg → mg d.name = some (.ref fa) → ∃ (K : PySem.W.Frag) (cs : List (Addr × Addr)), K.In h ∧ (∀ p ∈ cs, h.get? p.2 = some { cls := .none, data := .fields #[] }) ∧ (∀ p ∈ cs, K.lookup p.2 = none) ∧ (∀ p ∈ cs, PySem.W.CodeHd h p.1 p.2) ∧
      ∀ (bs : Heap) (H : Hp) (t : Shared) (a : Addr) (ns : List Int), ns.length ≤ n → K.In bs → bs.Ns mainGlobals mg → Env0 l.prog w K mg bs callerA [] t H → SqL K H a (ns.map V.int) → (∀ p ∈ cs, TabB bs mg p.1 p.2) → (∀ p ∈ cs, H p.2 = some (.tbl #[])) → a ∉ cs.map (·.2) →
        codeAny (model l.prog w) callerA (.call (.ref fa) ⟨[.ref a], []⟩) (CR CX0 [] l.prog w H t (fun v _ => v = .bl true) fun _ _ _ => False) t) :
    PySem.W.WalkO q loose XP YP l.row.toRowW d [] (fun f vs => PySem.call f vs) := by
  refine Att.attach_call hn hdf fun w s₀ t mg mb fa o pm cd doc a vs ns G Y ho hd hcd hmg hobj hints hlen hg => ?_
  obtain ⟨K, cs, KX, hT, nT, C, f⟩ := F w mg fa _ Y G.T.g hmg
  exact law_atT KX G.T.g G.T.b G.T.builtins G.T.nolimit hg hT nT C G.T.bmain hobj hints (Nat.le_trans hlen hn2) fun bs H inB gl env0 sq tb hH na => f bs H t a ns hlen inB gl env0 sq tb hH na
end Kx

set_option autoImplicit false
/-! a head's facts over written addresses, empty tables left out; exception classes by facts -/
namespace J
open PySem PySem.Spec PyProof.Rows L2
variable {K : PySem.W.Frag} {h : Heap} {mg : Str → Option Value}
/-! exception classes -/
theorem excB_ok {C : Addr} {bmB : List Value} {newId : String} (e : excB K C bmB newId = true) : ∃ nm q N bs sn sub ab col dd k0 k1 k2 k3 k5, K.lookup C = some (excClassObj nm q C N bs bmB true sn sub ab col dd k0 k1 k2 k3 k5 newId) := by
  unfold excB at e
  split at e
  · rename_i t dd cd sl ho
    simp only [Bool.and_eq_true, decide_eq_true_eq, Bool.not_eq_true'] at e
    obtain ⟨rfl, hm, hd, hdel, hs⟩ := e
    split at hs
    · rename_i k0 k1 k2 k3 n k5 hl
      have := of_decide_eq_true hs
      subst this
      obtain ⟨nm, bs, mro, ns, qn, hdt, sn, sub, ab, col, del⟩ := cd
      dsimp only at hm hd hdel
      subst hm hd hdel
      have hsl : sl = #[k0, k1, k2, k3, some (.builtin n), k5] := by
        rw [← Array.toArray_toList (xs := sl), hl]
      subst hsl
      exact ⟨nm, qn, ns, bs, sn, sub, ab, col, dd, k0, k1, k2, k3, k5, ho⟩
    · cases hs
  · cases e
theorem ox_of (X : K.In h) (G : h.Ns mainGlobals mg) {x f qual : Str} {bmB : List Value} {newId : String} {st : Stmt} {fd : FuncData} (g : (He.Fa.glo x).ok K = true) (b : oxB K x f bmB newId = true) (F : Fun K "__init__" qual st (He.ma K (He.ga K x) "__init__") fd) (hb : Binds K fd ["self", f] []) :
    OxT K mg x f (He.ga K x) (He.ma K (He.ga K x) "__init__") newId bmB st qual := by
  unfold oxB at b
  simp only [Bool.and_eq_true, decide_eq_true_eq] at b
  obtain ⟨b1, b2, b3, b4, b5, b6, b7, b8, b9, b10, b11, b12⟩ := b
  obtain ⟨oc, od, kV, doc, pm, an, cdv, ct, osl, e, lk, hcd⟩ := F.ex
  subst e
  exact ⟨He.glo_ok X G g, excB_ok b1, He.eqO_ok b2, He.eqO_ok b3, He.eqO_ok b4, He.eqO_ok b5, He.eqO_ok b6, b7, b8, b9, b10, b11, b12, oc, od, kV, doc, pm, an, cdv, ct, osl, lk, hcd, hb⟩
theorem excC_of {x : Str} (b : excC_B K x = true) : ExcC K (He.ga K x) := by
  unfold excC_B at b
  simp only [Bool.and_eq_true, decide_eq_true_eq] at b
  obtain ⟨b1, b2, b3, b4, b5, b6, b7, b8⟩ := b
  exact ⟨He.eqO_ok b1, He.eqO_ok b2, b3, b4, He.eqO_ok b5, He.eqO_ok b6, b7, b8⟩
end J

set_option autoImplicit false
/-! the tables of the defs that make lambdas, by facts -/
namespace J
open PySem PySem.Spec PyProof.Rows L2 LamX
variable {K : PySem.W.Frag} {h : Heap} {mg : Str → Option Value}
end J

set_option autoImplicit false
/-! repr and str of an instance; methods that raise and have a default -/
namespace J
open PySem PySem.Spec PyProof.Rows L2 LamX
variable {K : PySem.W.Frag} {P : Program} {w : World} {X : Cx}
/-! repr of an instance -/
def rReprI (x : Str) (K : PySem.W.Frag) (sp : Sp) : List V → Hp → VK → Prop := fun xs H Q => ∃ a C dx fs, xs = [.ref a] ∧ ClsAt K x C ∧ H a = some (.ins C dx fs) ∧ sp [.ref a] H (fun v H' => ∃ z : Str, v = .str z ∧ Q (.str z) H') C8.E0
def gReprO (x : Str) (F : Fn) : Fn := fun ds S => match ds with
  | [.obj k] => match S[k]? with
    | some (.ins y _) => if y = x then (match F [.obj k] S with
      | some (.str z, S') => some (.str z, S')
      | _ => none) else none
    | _ => none
  | _ => none
/-! str of an instance -/
section
open PySem.Calls Builtin Builtin.Str
end
/-! the call -/
def rStrI (x : Str) (K : PySem.W.Frag) (sp : Sp) : List V → Hp → VK → Prop := fun xs H Q => ∃ a C dx fs, xs = [.ref a] ∧ ClsAt K x C ∧ H a = some (.ins C dx fs) ∧ sp [.ref a] H (fun v H' => ∃ z : Str, v = .str z ∧ Q (.str z) H') C8.E0
def gStrO (x : Str) (F : Fn) : Fn := fun ds S => match ds with
  | [.obj k] => match S[k]? with
    | some (.ins y _) => if y = x then (match F [.obj k] S with
      | some (.str z, S') => some (.str z, S')
      | _ => none) else none
    | _ => none
  | _ => none
end J

set_option autoImplicit false
/-! own exception classes under KeyError: made by LookupError's __new__ -/
namespace J
open PySem PySem.Spec PyProof.Rows L2 PySem.F PySem.Calls
section
variable {P : Program} {w : World} {M : Model} {A : Around} {E : Value → Shared → Prop} {h : Heap} {g : Array GenState} {d : Drawn} {t : Nat} {os : OsState} {R : Result → Shared → Prop}
variable {nm q : Str} {C N : Addr} {bs bm bmB : List Value} {sn : List Str} {sub : List Value} {ab hdct : Bool} {col : Option Bool} {dd : Option Addr} {k0 k1 k2 k3 k5 : Option Value} {B newId initId : String}
/-- what the classes above must be -/
structure Abv (bm : List Value) (B : String) : Prop where
  b : bm.contains (.type B) = true
  a : bm.contains (.type "AttributeError") = false
  n : bm.contains (.type "NameError") = false
theorem Abv.b' (v : Abv bm B) (C : Addr) : (Value.ref C :: bm).contains (.type B) = true := by rw [List.contains_cons, v.b, Bool.or_true]
theorem Abv.a' (v : Abv bm B) (C : Addr) : (Value.ref C :: bm).contains (.type "AttributeError") = false := by rw [List.contains_cons, v.a] <;> rfl
theorem Abv.n' (v : Abv bm B) (C : Addr) : (Value.ref C :: bm).contains (.type "NameError") = false := by rw [List.contains_cons, v.n] <;> rfl
end
abbrev bmKey : List Value := [.type "KeyError", .type "LookupError", .type "Exception", .type "BaseException", .type "object"]
theorem storeKey : StoreFacts "KeyError" bmKey "object.__setattr__" "object" :=
  { mro := by rw [mroOf_type]; kernel_rfl, entry := entry_object_sa, kind := by first | decide +kernel | (kernel_rfl) | (rw [isSubtype_type]; kernel_rfl) | (rw [mroOf_type]; kernel_rfl), split := by first | decide +kernel | (kernel_rfl) | (rw [isSubtype_type]; kernel_rfl) | (rw [mroOf_type]; kernel_rfl), hasOwner := by first | decide +kernel | (kernel_rfl) | (rw [isSubtype_type]; kernel_rfl) | (rw [mroOf_type]; kernel_rfl), args := fun a b c => (by unfold argsOk; kernel_rfl), passes := fun self => by kernel_rfl,
    slot := .of (owner := "object") (n := "__setattr__") (by rw [typeLookup_type, builtinLookup_eq_fast]; kernel_rfl) (by first | decide +kernel | (kernel_rfl) | (rw [isSubtype_type]; kernel_rfl) | (rw [mroOf_type]; kernel_rfl)) (by first | decide +kernel | (kernel_rfl) | (rw [isSubtype_type]; kernel_rfl) | (rw [mroOf_type]; kernel_rfl)) (by first | decide +kernel | (kernel_rfl) | (rw [isSubtype_type]; kernel_rfl) | (rw [mroOf_type]; kernel_rfl)) (by first | exact .inl (by first | decide +kernel | (kernel_rfl) | (rw [isSubtype_type]; kernel_rfl) | (rw [mroOf_type]; kernel_rfl)) | exact .inr (by first | decide +kernel | (kernel_rfl) | (rw [isSubtype_type]; kernel_rfl) | (rw [mroOf_type]; kernel_rfl))) (by first | decide +kernel | (kernel_rfl) | (rw [isSubtype_type]; kernel_rfl) | (rw [mroOf_type]; kernel_rfl)) }
theorem abvKey : Abv bmKey "LookupError" := ⟨by decide +kernel, by decide +kernel, by decide +kernel⟩
section
variable {K : PySem.W.Frag} {P : Program} {w : World} {X : Cx}
variable {x f qual : Str} {C fI : Addr} {newId B B2 initId : String} {bmB bmF : List Value} {st : Stmt} {N : List Str} {k j : Nat} {a ve : Expr} {p pos q1 q2 q4 : Pos} {fe fa : FE}
end
end J

set_option autoImplicit false
/-! raise X(): an own exception class without __init__, made without arguments -/
namespace J
open PySem PySem.Spec PyProof.Rows L2
variable {K : PySem.W.Frag} {P : Program} {w : World} {X : Cx}
/-- what the written part says of the class x, at C -/
structure Ox0 (K : PySem.W.Frag) (mg : Str → Option Value) (x : Str) (C : Addr) (newId : String) (bmB : List Value) : Prop where
  gC : mg x = some (.ref C)
  q : PySem.W.excIn K C bmB newId = true
  kC : PySem.W.keepIn K (.ref C) = true
  exC : PySem.W.subIn K (.ref C) (.type "BaseException") = some true
  tyC : PySem.W.typeIn K (.ref C) = some (.type "type")
  te : PySem.W.exmOne K (.ref C) (.ref C) = some true
section
variable {x : Str} {C : Addr} {newId B initId : String} {bmB : List Value} {p pos : Pos}
def fRaise0 (x : Str) : FS := fun env S => some (.xc x [], env, S)
end
theorem ox0_of {h : Heap} {mg : Str → Option Value} (X : K.In h) (G : h.Ns mainGlobals mg) {x : Str} {bmB : List Value} {newId : String} (g : (He.Fa.glo x).ok K = true) (b : ox0B K x bmB newId = true) : Ox0 K mg x (He.ga K x) newId bmB := by
  unfold ox0B at b
  simp only [Bool.and_eq_true, decide_eq_true_eq] at b
  obtain ⟨b1, b2, b3, b4, b5⟩ := b
  exact ⟨He.glo_ok X G g, b1, b2, b3, b4, b5⟩
/-! C(): an instance whose __init__ has defaults alone -/
def fMakeD (x : Str) (n : Nat) (F : Fn) (dd : List D) : FE := fun env S => newI x n F dd S
end J

set_option autoImplicit false
/-! C(k = v) whose __init__ raises; x = e where e raises; expressions that are never come to -/
namespace J
open PySem PySem.Spec PyProof.Rows L2
variable {K : PySem.W.Frag} {P : Program} {w : World} {X : Cx}
section
variable {CX : CXT} {k : Nat} {f C : Addr} {fd : FuncData} {ps ks : List Str} {sp : Sp} {E : L2.St → XK} {x : Str} {p pos : Pos} {kws : List Keyword} {tk : TA} {g : List Value → List Value → List Value} {gV : List V → List V → List V}
def tMakeKE (C : Addr) (m : Nat) (sp : Sp) (gV : List V → List V → List V) (E : L2.St → XK) (tk : TA) : TE := fun σ H Q => tk σ H fun zs H2 => zs.length = m ∧ ∀ x dx, H2 x = none → H2 dx = none → dx ≠ x →
  sp (gV [.ref x] zs) (upd (upd H2 dx (.own x)) x (.ins C dx [])) (fun v H3 => v = .non ∧ Q (.ref x) H3) (E σ)
end
/-- a raising __init__ -/
def OkIBX (P : Program) (w : World) (K : PySem.W.Frag) (mg : Str → Option Value) (base : Heap) (x : Str) (n : Nat) (B : FuncData → List Str → Prop) (F : Fn) (G : FnX) (k : Nat) : Prop :=
  ∃ (C f : Addr) (fd : FuncData) (ps : List Str), mg x = some (.ref C) ∧ ClsAt K x C ∧ Cls K C ∧ Mk K C f ∧ B fd ps ∧ FnOk P w K mg base (L2N.CX P w) k f fd ps (spX P w K mg n F G)
theorem OkIBX.calm {mg : Str → Option Value} {base : Heap} {x : Str} {n k : Nat} {F : Fn} {G : FnX} {B : FuncData → List Str → Prop} (h : OkIBX P w K mg base x n B F G k) : OkIB P w K mg base x n B F k := let ⟨C, f, fd, ps, z, a, b, c, d, e⟩ := h; ⟨C, f, fd, ps, z, a, b, c, d, spX_calm e⟩
def gMake (n : Nat) (x : Str) (G : FnX) (fa : FA) : FX := fun env S => match fa env S with
  | some (ds, S1) => if (D.obj S1.length :: ds).length = n then G (.obj S1.length :: ds) (S1 ++ [.ins x []]) else none
  | none => none
/-- x = e, where e raises -/
def fAsgX (f : FE) (g : FX) (t : FG) : FS := fun env S => match f env S with
  | some _ => fAsg f t env S
  | none => match g env S with
    | some ((x, fs), S1) => some (.xc x fs, env, S1)
    | none => none
end J

set_option autoImplicit false
/-! the truth of an instance by its __len__ -/
namespace J
open PySem PySem.Spec PyProof.Rows L2
variable {K : PySem.W.Frag} {P : Program} {w : World} {X : Cx}
def fTruthO (x : Str) (F : Fn) (f : FE) : FT := fun env S => match f env S with
  | some (.obj k, S1) => match S1[k]? with
    | some (.ins y _) => if y = x then (match F [.obj k] S1 with
      | some (.int i, S2) => if 0 ≤ i ∧ i < 2 ^ 62 then some (i != 0, S2) else none
      | _ => none) else none
    | _ => none
  | _ => none
end J

set_option autoImplicit false
/-! x = e where e raises; expressions never come to; dict comprehensions with texts or ints as keys; dicts unequal; list(d.values()) -/
namespace J
open PySem PySem.Spec PyProof.Rows L2
variable {K : PySem.W.Frag} {P : Program} {w : World} {X : Cx}
/-- an expression that is never come to -/
def fNoneE : FE := fun _ _ => none
def fNoneT : FT := fun _ _ => none
/-- two dicts with texts or ints as keys, both empty: unequal is false -/
def gNeK0 : G2 := fun a b S => match a, b with
  | .obj i, .obj j => match S[i]?, S[j]? with
    | some (.dks []), some (.dks []) => some (.bl false, S)
    | _, _ => none
  | _, _ => none
/-! {k: v for x in it if c} with texts or ints as keys -/
def kyD : D → Option Key
  | .int i => some (Sum.inl i)
  | .str z => some (Sum.inr z)
  | _ => none
def fDkL (n : Nat) (g : FG) (ft : FT) (fk fv : FE) (env : Env) : List D → Sto → Option Sto
  | [], S => some S
  | d :: ds, S => match g d env S with
    | none => none
    | some (env1, S1) => match ft env1 S1 with
      | none => none
      | some (false, S2) => fDkL n g ft fk fv env ds S2
      | some (true, S2) => match fk env1 S2 with
        | none => none
        | some (a, S3) => match fv env1 S3 with
          | none => none
          | some (b, S4) => match S4[n]? with
            | some (.dks kvs) => match kyD a with
              | some k => if kvs.length < 100000 then fDkL n g ft fk fv env ds (S4.set n (.dks (putKD kvs k b))) else none
              | none => none
            | _ => none
def fDk (own : List Nat) (fi : FA) (g : FG) (ft : FT) (fk fv : FE) : FE := fun env S => match fi env S with
  | none => none
  | some (ds, S1) => match fDkL S1.length g ft fk fv (wipeD env own) ds (S1 ++ [.dks []]) with
    | some S2 => some (.obj S1.length, S2)
    | none => none
end J

set_option autoImplicit false
/-! list(d.values()) of a dict with texts or ints as keys -/
namespace J
open PySem PySem.Spec PyProof.Rows L2
variable {K : PySem.W.Frag} {P : Program} {w : World} {X : Cx}
def tListVals (te : TE) : TE := fun σ H Q => te σ H fun x H1 => ∃ (d : Addr) (kvs : List (Key × V)), x = .ref d ∧ H1 d = some (.dK kvs) ∧ ∀ p, H1 p = none → Q (.ref p) (upd H1 p (.lst (kvs.map (·.2))))
section
variable {e : Expr} {te : TE} {p apos cpos pos : Pos}
end
def fListV (f : FE) : FE := fun env S => match f env S with
  | some (.obj k, S1) => match S1[k]? with
    | some (.dks kvs) => some (.lst (kvs.map (·.2)), S1)
    | _ => none
  | _ => none
end J

set_option autoImplicit false
/-! comprehensions over what is empty -/
namespace J
open PySem PySem.Spec PyProof.Rows L2
variable {K : PySem.W.Frag} {P : Program} {w : World} {X : Cx}
/-- {.. for .. in x.f}, where the dict x.f is empty -/
def fDcA0 (i : Nat) (f : Str) : FE := fun env S => match env[i]? with
  | some (some (.obj j)) => match S[j]? with
    | some (.ins _ fs) => match fs.lookup f with
      | some (.obj k) => match S[k]? with
        | some (.dks []) => some (.obj S.length, S ++ [.dks []])
        | _ => none
      | _ => none
    | _ => none
  | _ => none
end J

set_option autoImplicit false
/-! dicts with texts or ints as keys: in, get, set, pop, del, setdefault by either -/
namespace J
open PySem PySem.Spec PyProof.Rows L2
variable {K : PySem.W.Frag} {P : Program} {w : World} {X : Cx}
def rInQ (neg : Bool) : R2 := fun x y H Q => ∃ (a : Addr) (kvs : List (Key × V)) (k : Key), x = kV k ∧ y = .ref a ∧ H a = some (.dK kvs) ∧ Q (.bl (neg ^^ (valV kvs k).isSome)) H
def gInQ (neg : Bool) : G2 := fun a b S => match kyD a, b with
  | some k, .obj j => match S[j]? with
    | some (.dks kvs) => some (.bl (neg ^^ (valKD kvs k).isSome), S)
    | _ => none
  | _, _ => none
/-- d[x] -/
def gIxQ : G2 := fun a b S => match a, kyD b with
  | .obj j, some k => match S[j]? with
    | some (.dks kvs) => (valKD kvs k).map fun d => (d, S)
    | _ => none
  | _, _ => none
/-- d[x] = v -/
def gSetQ : GS := fun a b d S => match a, kyD b with
  | .obj j, some k => match S[j]? with
    | some (.dks kvs) => if kvs.length < 100000 then some (S.set j (.dks (putKD kvs k d))) else none
    | _ => none
  | _, _ => none
/-- d.get(k, x) -/
def fGetQ (fo fk fx : FE) : FE := fun env S => match fo env S with
  | some (.obj j, S1) => match S1[j]? with
    | some (.dks _) => match fk env S1 with
      | some (b, S2) => match kyD b with
        | some k => match fx env S2 with
          | some (x, S3) => match S3[j]? with
            | some (.dks kvs) => some ((valKD kvs k).getD x, S3)
            | _ => none
          | none => none
        | none => none
      | none => none
    | _ => none
  | _ => none
/-- del d[k], d.pop(k) -/
def gPopQ : G2 := fun a b S => match a, kyD b with
  | .obj j, some k => match S[j]? with
    | some (.dks kvs) => match valKD kvs k with
      | some d => some (d, S.set j (.dks (dropKD kvs k)))
      | none => none
    | _ => none
  | _, _ => none
def fDelQ (fo fk : FE) : FS := fun env S => match fo env S with
  | some (a, S1) => match fk env S1 with
    | some (b, S2) => match gPopQ a b S2 with
      | some (_, S3) => some (.nx, env, S3)
      | none => none
    | none => none
  | none => none
/-- d.setdefault(k, x) -/
def fSetdQ (fo fk fx : FE) : FE := fun env S => match fo env S with
  | some (.obj j, S1) => match S1[j]? with
    | some (.dks _) => match fk env S1 with
      | some (b, S2) => match kyD b with
        | some k => match fx env S2 with
          | some (x, S3) => match S3[j]? with
            | some (.dks kvs) => if kvs.length < 100000 then (match valKD kvs k with
              | some d => some (d, S3)
              | none => some (x, S3.set j (.dks (putKD kvs k x)))) else none
            | _ => none
          | none => none
        | none => none
      | none => none
    | _ => none
  | _ => none
end J

set_option autoImplicit false
/-! dicts with texts or ints as keys that stand still while they are gone through: the lock, keys, values, items -/
namespace J
open PySem PySem.Spec PyProof.Rows L2
variable {K : PySem.W.Frag} {P : Program} {w : World} {X : Cx}
def kyV : Key → D
  | .inl i => .int i
  | .inr z => .str z
theorem KvR.at {H : Hp} {μ : Mp} : ∀ {xs ys} {i : Nat} {k v}, KvR K H μ xs ys → xs[i]? = some (k, v) → ∃ d, ys[i]? = some (k, d) ∧ Rv K H μ v d
  | _, _, _, _, _, .nil, e => by simp at e
  | _, _, 0, _, _, .cons h3 q, e => by simp at e; obtain ⟨rfl, rfl⟩ := e; exact ⟨_, rfl, h3⟩
  | _, _, i + 1, _, _, .cons h3 q, e => KvR.at (i := i) q (by simpa using e)
/-- the keys of a locked dict -/
def fItL (f : FE) : FA := fun env S => match f env S with
  | some (.obj k, S1) => match S1[k]? with
    | some (.lks kvs) => some (kvs.map fun p => kyV p.1, S1)
    | _ => none
  | _ => none
/-- .. its values -/
def fItLV (f : FE) : FA := fun env S => match f env S with
  | some (.obj k, S1) => match S1[k]? with
    | some (.lks kvs) => some (kvs.map (·.2), S1)
    | _ => none
  | _ => none
/-- .. its pairs -/
def fItLI (f : FE) : FA := fun env S => match f env S with
  | some (.obj k, S1) => match S1[k]? with
    | some (.lks kvs) => some (kvs.map fun p => .tup [kyV p.1, p.2], S1)
    | _ => none
  | _ => none
/-- the lock: fk tells which dict -/
def fLockE (fk : FE) (f : FE) : FE := fun env S => match fk env S with
  | some (.obj k, _) => match S[k]? with
    | some (.dks kvs) => match f env (S.set k (.lks kvs)) with
      | some (d, S2) => some (d, S2.set k (.dks kvs))
      | none => none
    | _ => none
  | _ => none
def fLockS (fk : FE) (f : FS) : FS := fun env S => match fk env S with
  | some (.obj k, _) => match S[k]? with
    | some (.dks kvs) => match f env (S.set k (.lks kvs)) with
      | some (.xc _ _, _, _) => none
      | some (fl, env', S2) => some (fl, env', S2.set k (.dks kvs))
      | none => none
    | _ => none
  | _ => none
end J

set_option autoImplicit false
/-! the same of dicts with tuples as keys; d[k] of a locked dict -/
namespace J
open PySem PySem.Spec PyProof.Rows L2
variable {K : PySem.W.Frag} {P : Program} {w : World} {X : Cx}
/-- the lock: fk tells which dict -/
def fLockTE (fk : FE) (f : FE) : FE := fun env S => match fk env S with
  | some (.obj k, _) => match S[k]? with
    | some (.dct kvs) => match f env (S.set k (.lck kvs)) with
      | some (d, S2) => some (d, S2.set k (.dct kvs))
      | none => none
    | _ => none
  | _ => none
def fLockTS (fk : FE) (f : FS) : FS := fun env S => match fk env S with
  | some (.obj k, _) => match S[k]? with
    | some (.dct kvs) => match f env (S.set k (.lck kvs)) with
      | some (.xc _ _, _, _) => none
      | some (fl, env', S2) => some (fl, env', S2.set k (.dct kvs))
      | none => none
    | _ => none
  | _ => none
/-- the keys of a locked dict with tuples as keys -/
def fItT (f : FE) : FA := fun env S => match f env S with
  | some (.obj k, S1) => match S1[k]? with
    | some (.lck kvs) => some (kvs.map fun p => p.2.1, S1)
    | _ => none
  | _ => none
/-- d[x] of a locked dict with texts or ints as keys -/
def gIxL : G2 := fun a b S => match a, kyD b with
  | .obj j, some k => match S[j]? with
    | some (.lks kvs) => (valKD kvs k).map fun d => (d, S)
    | _ => none
  | _, _ => none
end J

set_option autoImplicit false
/-! list(d.values()), list(d) of a dict with tuples as keys -/
namespace J
open PySem PySem.Spec PyProof.Rows L2
variable {K : PySem.W.Frag} {P : Program} {w : World} {X : Cx}
def tListValsE (P : Program) (w : World) (te : TE) : TE := fun σ H Q => te σ H fun x H1 => ∃ (d : Addr) (kvs : List (NestedKey × Addr × V)), x = .ref d ∧ H1 d = some (DictE P w d kvs) ∧ ∀ p, H1 p = none → Q (.ref p) (upd H1 p (.lst (kvs.map (·.2.2))))
section
variable {e : Expr} {te : TE} {p apos cpos pos : Pos}
end
def fListVE (f : FE) : FE := fun env S => match f env S with
  | some (.obj k, S1) => match S1[k]? with
    | some (.dct kvs) => some (.lst (kvs.map (·.2.2)), S1)
    | _ => none
  | _ => none
/-- list(d) -/
def rListE (P : Program) (w : World) : List V → Hp → VK → Prop := fun xs H Q => ∃ (a : Addr) (ks : List (NestedKey × Addr × V)), xs = [.ref a] ∧ H a = some (DictE P w a ks) ∧ ∀ p, H p = none → Q (.ref p) (upd H p (.lst (ks.map fun q => V.ref q.2.1)))
def gListE : Fn := fun ds S => match ds with
  | [.obj k] => match S[k]? with
    | some (.dct kvs) => some (.lst (kvs.map fun q => q.2.1), S)
    | _ => none
  | _ => none
end J

set_option autoImplicit false
/-! d.setdefault(k, x) of a dict with tuples as keys -/
namespace J
open PySem PySem.Spec PyProof.Rows L2
variable {K : PySem.W.Frag} {P : Program} {w : World} {X : Cx}
def tSetdE (P : Program) (w : World) (K : PySem.W.Frag) (td ty tx : TE) : TE := fun σ H Q => td σ H fun x H1 => ∃ a xs, x = .ref a ∧ H1 a = some (DictE P w a xs) ∧ KeysOk K H1 xs ∧ ty σ H1 fun y H2 => tx σ H2 fun z H3 => ∃ b xs k, y = .ref b ∧ H3 a = some (DictE P w a xs) ∧ KeysOk K H3 xs ∧ KeyV K H3 (.ref b) k ∧ k.depth ≤ 8 ∧ xs.length < sizeLine ∧
  (∀ v, luX xs k = some v → Q v H3) ∧ (luX xs k = none → Q z (upd H3 a (DictE P w a (putX xs k b z))))
def fSetdT (fo fk fx : FE) : FE := fun env S => match fo env S with
  | some (.obj j, S1) => match S1[j]? with
    | some (.dct _) => match fk env S1 with
      | some (b, S2) => match fx env S2 with
        | some (x, S3) => match S3[j]?, b.tkey with
          | some (.dct kvs), some k => if kvs.length < 100000 then (match luD kvs k with
            | some d => some (d, S3)
            | none => some (x, S3.set j (.dct (putD kvs k b x)))) else none
          | _, _ => none
        | none => none
      | none => none
    | _ => none
  | _ => none
end J

set_option autoImplicit false
/-! {k: v for t0 in i0 for t1 in i1} with texts or ints as keys -/
namespace Kx
open PySem PySem.Spec PyProof.Rows L2
abbrev E2 (kx vx t0 i0 t1 i1 : Expr) (sc : Scope) (pos : Pos) : Expr := .DictComp kx vx [⟨t0, i0, [], 0⟩, ⟨t1, i1, [], 0⟩] sc pos
def endTurnD (e : Expr) (d : Nat) (tg iter kx vx : Expr) (it : Value) (D : Addr) (env : Env) : Sem Fin := do
  standAt iter.pos
  match ← pyNext it with
  | none => pure (.done .next)
  | some v =>
    letOwnedTupleGo tg it v
    assign tg env v
    let mut ok := true
    for c in ([] : List Expr) do
      if ok then ok ← isTrue c env (eval c env)
    if ok then
      (do
        let kv ← eval kx env
        let vv ← holding [kv] (eval vx env)
        standAt { kx.pos with endLine := vx.pos.endLine, endCol := vx.pos.endCol }
        holding [kv, vv] (dictSet D kv vv))
    again (.compLoop e d it (.ref D) env)
section
variable {prog : Program} {w : World} {A : Around} {R : Result → Shared → Prop} {s : Shared} {kx vx t0 i0 t1 i1 : Expr} {sc : Scope} {pos : Pos} {it acc : Value} {D : Addr} {env : Env}
theorem turnD_0 : compTurn (E2 kx vx t0 i0 t1 i1 sc pos) 0 it acc env = midTurn (E2 kx vx t0 i0 t1 i1 sc pos) 0 t0 i0 i1 it acc env := by rfl
theorem turnD_1 : compTurn (E2 kx vx t0 i0 t1 i1 sc pos) 1 it (.ref D) env = endTurnD (E2 kx vx t0 i0 t1 i1 sc pos) 1 t1 i1 kx vx it D env := by rfl
/-- a loop of a clause that has another behind it -/
theorem loop_midD {d : Nat} {tg iter nxt : Expr} (heq : ∀ it, compTurn (E2 kx vx t0 i0 t1 i1 sc pos) d it acc env = midTurn (E2 kx vx t0 i0 t1 i1 sc pos) d tg iter nxt it acc env)
    (fs : ∀ x, foldedSetIterable nxt env x = pure x) (I : Nat → Shared → Prop)
    (turn : ∀ n s, I n s → wpAny (model prog w) A (pyNext it) (fun r s1 => match r with
      | none => R (.ok .next) s1
      | some v => wpAny (model prog w) A (letOwnedTupleGo tg it v) (fun _ s2 => wpAny (model prog w) A (assign tg env v) (fun _ s3 =>
          wpAny (model prog w) A (eval nxt env) (fun x s4 => wpAny (model prog w) A (pyIter x) (fun j s5 =>
            codeAny (model prog w) A (.compStart (E2 kx vx t0 i0 t1 i1 sc pos) (d + 1) j acc env) (fun r s' => match r with
              | .ok _ => ∃ m, m < n ∧ I m s'
              | .error _ => False) s5) No s4) No s3) No s2) No s1) No s)
    (n : Nat) (h : I n s) : codeAny (model prog w) A (.compLoop (E2 kx vx t0 i0 t1 i1 sc pos) d it acc env) R s := by
  refine codeAny_loop rfl I (fun n s hI => ?_) n h
  show wpAny _ A ((compTurn (E2 kx vx t0 i0 t1 i1 sc pos) d it acc env).onRaise (fun x => do noteFrame x env; theTreesLotGoes x)) _ _ s
  refine wpAny_noted ?_
  rw [heq]
  refine wpAny_bind (wpAny_standAt (wpAny_bind (noF (turn n s hI) fun r s1 h1 => ?_)))
  cases r with
  | none => exact wpAny_pure h1
  | some v =>
    refine wpAny_bind (noF h1 fun _ s2 h2 => wpAny_bind (noF h2 fun _ s3 h3 => wpAny_bind (wpAny_tests_nil ?_)))
    refine wpAny_bind (noF h3 fun x s4 h4 => wpAny_bind (wpAny_standAt (wpAny_bind (wpAny_of_eq (fs x) (wpAny_bind (wpAny_holding (noF h4 fun j s5 h5 => ?_)))))))
    refine wpAny_bind (wpAny_runOwn ?_)
    rw [Around.mark_none]
    refine codeAny_mono h5 fun r s' hr => ?_
    cases r with
    | ok f => first | exact wpAny_pure ⟨rfl, hr⟩ | exact wpAny_bind (wpAny_pure (wpAny_pure ⟨rfl, hr⟩))
    | error e => exact hr.elim
theorem loop_endD {d : Nat} {tg iter : Expr} (heq : ∀ it, compTurn (E2 kx vx t0 i0 t1 i1 sc pos) d it (.ref D) env = endTurnD (E2 kx vx t0 i0 t1 i1 sc pos) d tg iter kx vx it D env) (I : Nat → Shared → Prop)
    (turn : ∀ n s, I n s → wpAny (model prog w) A (pyNext it) (fun r s1 => match r with
      | none => R (.ok .next) s1
      | some v => wpAny (model prog w) A (letOwnedTupleGo tg it v) (fun _ s2 => wpAny (model prog w) A (assign tg env v) (fun _ s3 =>
          wpAny (model prog w) A (eval kx env) (fun kv s4 => wpAny (model prog w) A (eval vx env) (fun vv s5 => wpAny (model prog w) A (dictSet D kv vv) (fun _ s6 => ∃ m, m < n ∧ I m s6) No s5) No s4) No s3) No s2) No s1) No s)
    (n : Nat) (h : I n s) : codeAny (model prog w) A (.compLoop (E2 kx vx t0 i0 t1 i1 sc pos) d it (.ref D) env) R s := by
  refine codeAny_loop rfl I (fun n s hI => ?_) n h
  show wpAny _ A ((compTurn (E2 kx vx t0 i0 t1 i1 sc pos) d it (.ref D) env).onRaise (fun x => do noteFrame x env; theTreesLotGoes x)) _ _ s
  refine wpAny_noted ?_
  rw [heq]
  refine wpAny_bind (wpAny_standAt (wpAny_bind (noF (turn n s hI) fun r s1 h1 => ?_)))
  cases r with
  | none => exact wpAny_pure h1
  | some v =>
    refine wpAny_bind (noF h1 fun _ s2 h2 => wpAny_bind (noF h2 fun _ s3 h3 => wpAny_bind (wpAny_tests_nil ?_)))
    exact wpAny_bind (wpAny_bind (noF h3 fun kv s4 h4 => wpAny_bind (wpAny_holding (noF h4 fun vv s5 h5 => wpAny_bind (wpAny_standAt (wpAny_holding (noF h5 fun _ s6 h6 => wpAny_pure ⟨rfl, h6⟩)))))))
theorem start_atD {d : Nat} {g : Comprehension} (hd : ([⟨t0, i0, [], 0⟩, ⟨t1, i1, [], 0⟩] : List Comprehension)[d]? = some g) (ha : g.is_async = 0)
    (h0 : codeAny (model prog w) A (.compLoop (E2 kx vx t0 i0 t1 i1 sc pos) d it acc env) R s)
    (h : wpAny (model prog w) A (pyIter it) (fun j s' => codeAny (model prog w) A (.compLoop (E2 kx vx t0 i0 t1 i1 sc pos) d j acc env) R s') (notedBy (model prog w) A env fun x s' => R (.error x) s') s) :
    codeAny (model prog w) A (.compStart (E2 kx vx t0 i0 t1 i1 sc pos) d it acc env) R s := by
  refine codeAny_of_tree ?_
  show wpAny _ _ ((compStart (E2 kx vx t0 i0 t1 i1 sc pos) d it acc env).onRaise (fun x => do noteFrame x env; standAt theWindowsPlace)) _ _ s
  refine wpAny_notedAt ?_
  have hc : clausesOf (E2 kx vx t0 i0 t1 i1 sc pos) = [⟨t0, i0, [], 0⟩, ⟨t1, i1, [], 0⟩] := rfl
  unfold compStart
  rw [hc, hd]
  simp only [Option.elim, ha]
  show wpAny _ _ (ask >>= _) _ _ s
  refine wpAny_bind (wpAny_askSetting (wpAny_ite ?_))
  split
  · first
      | exact wpAny_bind (wpAny_pure (wpAny_pure (And.intro rfl h0)))
      | exact wpAny_pure (And.intro rfl h0)
  · refine wpAny_bind (wpAny_rule ?_)
    show wpAny _ _ (standAt g.iter.pos >>= _) _ _ s
    exact wpAny_bind (wpAny_standAt (wpAny_bind (wpAny_mono h (fun j s' h' => wpAny_pure (And.intro rfl h')) fun _ _ x => x)))
end
def tEmitD (tk tv : TE) (D : Addr) : Cl := fun σ H Nx => tk σ H fun y H1 => tv σ H1 fun z H2 => ∃ kvs k, y = kV k ∧ H2 D = some (.dK kvs) ∧ kvs.length < sizeLine ∧ Nx (upd H2 D (.dK (putK kvs k z)))
section
variable {Y : Cx} {kx vx t0 i0 t1 i1 : Expr} {sc : Scope} {pos : Pos}
theorem run_midD (hxe : ∀ v s, Y.xe v s → False) (hc : Y.calm = true) {d : Nat} {tg iter nxt : Expr} {g : TG} {t' : Cl} {vs vs' : List Nat} {D it : Addr} {fp : List Addr} {tn : Nat → Heap → Prop} {J : It} {pins : List (Addr × Obj)} {σ : L2.St} {H : Hp} {s : Shared} {Nx : Hp → Prop} {R : Result → Shared → Prop} {W : Nat → Nat → Hp → Prop} {m0 : Nat}
    (heq : ∀ it, compTurn (E2 kx vx t0 i0 t1 i1 sc pos) d it (.ref D) Y.env = midTurn (E2 kx vx t0 i0 t1 i1 sc pos) d tg iter nxt it (.ref D) Y.env) (fs : ∀ x, foldedSetIterable nxt Y.env x = pure x)
    (T : Turn Y.prog Y.w Y.K tg J fp it tn) (pg : PG Y tg g) (rest : PCl Y (E2 kx vx t0 i0 t1 i1 sc pos) (d + 1) nxt D vs' t') (sub : ∀ j ∈ vs', j ∈ vs)
    (fpk : ∀ H' : Hp, (∀ b ∈ fp, H' b = none) → ∀ b ∈ fp, FpOk Y pins H' b) (I : Inv Y pins (wipe σ vs) H s) (st : tn 0 s.heap) (nf : ∀ b ∈ fp, H b = none) (w0 : W 0 m0 H)
    (turn : ∀ i m H, W i m H → (J.stop i H ∧ Nx H) ∨ (J.go i H ∧ ∃ N1 : Hp → Prop, (∀ H', N1 H' → ∃ m', m' < m ∧ W (i + 1) m' H') ∧ ∀ x H', J.yld i H x H' → g x (wipe σ vs) H' fun σ2 H2 => wipe σ2 vs = wipe σ vs ∧ t' σ2 H2 N1))
    (fin : ∀ s' H', Inv Y pins (wipe σ vs) H' s' → Nx H' → R (.ok .next) s') :
    codeAny (model Y.prog Y.w) Y.A (.compLoop (E2 kx vx t0 i0 t1 i1 sc pos) d (.ref it) (.ref D) Y.env) R s := by
  refine loop_midD heq fs (fun n s' => ∃ i H', Inv Y pins (wipe σ vs) H' s' ∧ tn i s'.heap ∧ (∀ b ∈ fp, H' b = none) ∧ W i n H') ?_ m0 ⟨0, H, I, st, nf, w0⟩
  rintro n s5 ⟨i, H5, I5, st5, n5, w5⟩
  rcases turn i n H5 w5 with ⟨stp, nx⟩ | ⟨go, N1, hN1, step⟩
  · refine noF (T.done Y rfl rfl rfl hc i pins s5 _ H5 No I5 (fpk H5 n5) st5 stp) fun r s6 out => ?_
    obtain ⟨rfl, I6⟩ := out
    exact fin s6 H5 I6 nx
  · refine noF (T.item Y rfl rfl rfl hc i pins s5 _ H5 No I5 (fpk H5 n5) st5 go) fun r s6 out => ?_
    obtain ⟨u, rfl, h6⟩ := out
    refine noF h6 fun _ s7 out => ?_
    obtain ⟨x, H7, I7, r7, y7, st7, n7⟩ := out
    have I8 := I7.pinned (fpk H7 n7) (T.obj _ _ st7)
    refine noX hxe (pg.run _ s7 _ H7 x u _ I8 r7 (step x H7 y7)) fun _ s8 out => ?_
    obtain ⟨σ8, H8, I9, hw, q8⟩ := out
    refine noF (rest.run _ s8 σ8 H8 N1 I9 q8) fun xv s9 h9 => noF h9 fun jv s10 h10 => codeAny_mono h10 fun r s' out => ?_
    cases r with
    | error e => exact out.elim
    | ok f =>
      obtain ⟨H', I', nx⟩ := out
      obtain ⟨m', hm, w'⟩ := hN1 H' nx
      have pin' : ∀ b ∈ fp, ∀ o, s7.heap.get? b = some o → s'.heap.get? b = some o ∧ H' b = none := fun b hb o e =>
        let z := I'.pin (b, o) (List.mem_append_right _ (List.mem_append_right _ (mem_pinsAt hb e)))
        ⟨z.1, z.2.1⟩
      have lw : (wipe σ vs).length = (wipe σ8 vs').length := by rw [← hw, wipe_length, wipe_length]
      refine ⟨m', hm, i + 1, H', I'.unpinned.weak lw (wipe_sub hw sub), T.keep _ _ _ st7 fun b hb o e => (pin' b hb o e).1, fun b hb => ?_, w'⟩
      obtain ⟨o, e, _⟩ := T.obj _ _ st7 b hb
      exact (pin' b hb o e).2
theorem run_endD (hxe : ∀ v s, Y.xe v s → False) (hc : Y.calm = true) {d : Nat} {tg iter : Expr} {g : TG} {tk tv : TE} {vs : List Nat} {D it : Addr} {fp : List Addr} {tn : Nat → Heap → Prop} {J : It} {pins : List (Addr × Obj)} {σ : L2.St} {H : Hp} {s : Shared} {Nx : Hp → Prop} {R : Result → Shared → Prop} {W : Nat → Nat → Hp → Prop} {m0 : Nat}
    (heq : ∀ it, compTurn (E2 kx vx t0 i0 t1 i1 sc pos) d it (.ref D) Y.env = endTurnD (E2 kx vx t0 i0 t1 i1 sc pos) d tg iter kx vx it D Y.env)
    (T : Turn Y.prog Y.w Y.K tg J fp it tn) (pg : PG Y tg g) (pk : PE Y kx tk) (pv : PE Y vx tv)
    (fpk : ∀ H' : Hp, (∀ b ∈ fp, H' b = none) → ∀ b ∈ fp, FpOk Y pins H' b) (I : Inv Y pins (wipe σ vs) H s) (st : tn 0 s.heap) (nf : ∀ b ∈ fp, H b = none) (w0 : W 0 m0 H)
    (turn : ∀ i m H, W i m H → (J.stop i H ∧ Nx H) ∨ (J.go i H ∧ ∃ N1 : Hp → Prop, (∀ H', N1 H' → ∃ m', m' < m ∧ W (i + 1) m' H') ∧ ∀ x H', J.yld i H x H' → g x (wipe σ vs) H' fun σ2 H2 => wipe σ2 vs = wipe σ vs ∧ tEmitD tk tv D σ2 H2 N1))
    (fin : ∀ s' H', Inv Y pins (wipe σ vs) H' s' → Nx H' → R (.ok .next) s') :
    codeAny (model Y.prog Y.w) Y.A (.compLoop (E2 kx vx t0 i0 t1 i1 sc pos) d (.ref it) (.ref D) Y.env) R s := by
  refine loop_endD heq (fun n s' => ∃ i H', Inv Y pins (wipe σ vs) H' s' ∧ tn i s'.heap ∧ (∀ b ∈ fp, H' b = none) ∧ W i n H') ?_ m0 ⟨0, H, I, st, nf, w0⟩
  rintro n s5 ⟨i, H5, I5, st5, n5, w5⟩
  rcases turn i n H5 w5 with ⟨stp, nx⟩ | ⟨go, N1, hN1, step⟩
  · refine noF (T.done Y rfl rfl rfl hc i pins s5 _ H5 No I5 (fpk H5 n5) st5 stp) fun r s6 out => ?_
    obtain ⟨rfl, I6⟩ := out
    exact fin s6 H5 I6 nx
  · refine noF (T.item Y rfl rfl rfl hc i pins s5 _ H5 No I5 (fpk H5 n5) st5 go) fun r s6 out => ?_
    obtain ⟨u, rfl, h6⟩ := out
    refine noF h6 fun _ s7 out => ?_
    obtain ⟨x, H7, I7, r7, y7, st7, n7⟩ := out
    have I8 := I7.pinned (fpk H7 n7) (T.obj _ _ st7)
    refine noX hxe (pg.run _ s7 _ H7 x u _ I8 r7 (step x H7 y7)) fun _ s8 out => ?_
    obtain ⟨σ8, H8, I9, hw, q8⟩ := out
    refine noX hxe (pk.run _ s8 σ8 H8 _ I9 q8) fun z s9 out => ?_
    obtain ⟨yk, H9, I10, r9, q9⟩ := out
    refine noX hxe (pv.run _ s9 σ8 H9 _ I10 q9) fun z2 s10 out => ?_
    obtain ⟨yv, H10, I11, r10, kvs, k, ek, hD, hz, nx⟩ := out
    subst ek
    refine d_dictSet (X := Y) I11 hD hz r9 r10 fun s' I' => ?_
    obtain ⟨m', hm, w'⟩ := hN1 _ nx
    have pin' : ∀ b ∈ fp, ∀ o, s7.heap.get? b = some o → s'.heap.get? b = some o ∧ (upd H10 D (.dK (putK kvs k yv))) b = none := fun b hb o e =>
      let z := I'.pin (b, o) (List.mem_append_right _ (List.mem_append_right _ (mem_pinsAt hb e)))
      ⟨z.1, z.2.1⟩
    have lw : (wipe σ vs).length = σ8.length := by rw [← hw, wipe_length]
    refine ⟨m', hm, i + 1, _, I'.unpinned.weak lw (fun j v e => by rw [← hw] at e; exact (wipe_some e).1), T.keep _ _ _ st7 fun b hb o e => (pin' b hb o e).1, fun b hb => ?_, w'⟩
    obtain ⟨o, e, _⟩ := T.obj _ _ st7 b hb
    exact (pin' b hb o e).2
theorem cl_endD (hxe : ∀ v s, Y.xe v s → False) (hc : Y.calm = true) {wi : TI} {g : TG} {tk tv : TE} {vs : List Nat} {D : Addr} (pi : PI Y t1 i1 wi) (pg : PG Y t1 g) (pk : PE Y kx tk) (pv : PE Y vx tv) :
    PCl Y (E2 kx vx t0 i0 t1 i1 sc pos) 1 i1 D vs (tCl wi g (tEmitD tk tv D) vs) := by
  refine ⟨fun pins s σ H Nx I h => ?_⟩
  refine noX hxe (pi.run pins s σ H _ I h) fun x s4 h4 => noX hxe h4 fun jv s5 out => ?_
  obtain ⟨it, fp, tn, J, H5, rfl, I5, T, st5, f5, W, ⟨m0, w0⟩, turn⟩ := out
  have lp := run_endD (kx := kx) (vx := vx) (t0 := t0) (i0 := i0) (t1 := t1) (i1 := i1) (sc := sc) (pos := pos) (d := 1) (iter := i1) (R := fun r s' => match r with
        | .ok _ => ∃ H', Inv Y pins (wipe σ vs) H' s' ∧ Nx H'
        | .error _ => False) hxe hc (fun _ => turnD_1) T pg pk pv (fun H' hn b hb => ⟨hn b hb, (f5 b hb).2⟩) (I5.weak (wipe_length σ vs) (fun j v e => (wipe_some e).1)) st5 (fun b hb => (f5 b hb).1) w0 turn (fun s' H' I' nx => ⟨H', I', nx⟩)
  exact start_atD (g := ⟨t1, i1, [], 0⟩) rfl rfl lp (T.self Y.A 0 _ _ _ st5 lp)
end
def tDc2 (wi : TI) (g : TG) (rest : Addr → Cl) (vs : List Nat) : TE := fun σ H Q => wi σ H fun J H1 => ∀ D, H1 D = none → ∃ W : Nat → Nat → Hp → Prop, (∃ m, W 0 m (upd H1 D (.dK []))) ∧ ∀ i m H, W i m H →
  (J.stop i H ∧ Q (.ref D) H) ∨ (J.go i H ∧ ∃ N1 : Hp → Prop, (∀ H', N1 H' → ∃ m', m' < m ∧ W (i + 1) m' H') ∧ ∀ x H', J.yld i H x H' → g x (wipe σ vs) H' fun σ2 H2 => wipe σ2 vs = wipe σ vs ∧ rest D σ2 H2 N1)
section
variable {X : Cx} {kx vx t0 i0 t1 i1 : Expr} {sc : Scope} {pos : Pos}
theorem pe_dc2 {own : List (Str × Nat)} {vs1 : List Nat} {wi wi1 : TI} {g g1 : TG} {tk tv : TE} (hc : X.calm = true) (hN : X.N.Nodup) (pi0 : PI X t0 i0 wi) (ok : BlkOk X.N X.env.scope sc own)
    (sub1 : ∀ j ∈ vs1, j ∈ own.map (·.2))
    (pg0 : ∀ (s : Shared) (H : Hp) (C : Addr) (cl : List (Str × Addr)) (fp : List Addr), PG (X.blk s H sc (compEnvC sc cl C X.env) fp) t0 g)
    (pi1 : ∀ (s : Shared) (H : Hp) (C : Addr) (cl : List (Str × Addr)) (fp : List Addr), PI (X.blk s H sc (compEnvC sc cl C X.env) fp) t1 i1 wi1)
    (pg1 : ∀ (s : Shared) (H : Hp) (C : Addr) (cl : List (Str × Addr)) (fp : List Addr), PG (X.blk s H sc (compEnvC sc cl C X.env) fp) t1 g1)
    (pk0 : ∀ (s : Shared) (H : Hp) (C : Addr) (cl : List (Str × Addr)) (fp : List Addr), PE (X.blk s H sc (compEnvC sc cl C X.env) fp) kx tk)
    (pv0 : ∀ (s : Shared) (H : Hp) (C : Addr) (cl : List (Str × Addr)) (fp : List Addr), PE (X.blk s H sc (compEnvC sc cl C X.env) fp) vx tv)
    (fs0 : ∀ x, foldedSetIterable i0 X.env x = pure x := by intro _; rfl) (fs1 : ∀ env x, foldedSetIterable i1 env x = pure x := by intro _ _; rfl) :
    PE X (E2 kx vx t0 i0 t1 i1 sc pos) (tDc2 wi g (fun D => tCl wi1 g1 (tEmitD tk tv D) vs1) (own.map (·.2))) := by
  refine ⟨fun pins s σ H Q I h => ?_⟩
  show wpAny (model X.prog X.w) X.A (eval (.DictComp kx vx [⟨t0, i0, [], 0⟩, ⟨t1, i1, [], 0⟩] sc pos) X.env) _ _ s
  rw [arm_eval_DictComp]
  have cells : ∀ y ∈ sc.names, y.2 = .free → ∃ c, X.env.cells.lookup y.1 = some c := by
    intro y hy e
    rcases ok.free y hy e with z | z
    · exact I.ok.has _ (.inl z)
    · exact I.ok.has _ (.inr z)
  refine wpAny_comprehension_free (use := none) rfl fs0 (closure_ok cells) ok.kind (fun y hy e => by rw [ok.uniq y hy, e]) (thn (pi0.run pins s σ H _ I h) fun xv s1 hx => thn hx fun jv s2 out => ?_)
  obtain ⟨it, fp, tn, J, H2, rfl, I2, T, st2, f2, q⟩ := out
  refine wpAny_newObj_type (newEnv_comp ?_)
  generalize hD : s2.heap.objs.size = D
  have freeD : H2 D = none := I2.hok.fresh (Nat.le_of_eq hD)
  obtain ⟨W, ⟨m0, w0⟩, turn⟩ := q D freeD
  generalize hs3 : ({ s2 with heap := s2.heap.push { cls := .type "dict", data := .dict #[] } } : Shared) = s3
  have heap3 : s3.heap = s2.heap.push { cls := .type "dict", data := .dict #[] } := by rw [← hs3]
  have I3 : Inv X pins σ (upd H2 D (.dK [])) s3 := by
    rw [← hs3]
    refine I2.laid (t' := s2.toks) (fun b o e => Heap.get?_push_of_some _ e) (Nat.le_of_eq hD) ?_
    rw [← hD]
    exact dk_empty s2.heap I2.big
  have f3 : ∀ b ∈ fp, FpOk X pins (upd H2 D (.dK [])) b ∧ b < s3.heap.objs.size := by
    intro b hb
    obtain ⟨o, e, _⟩ := T.obj _ _ st2 b hb
    have lt := Heap.lt_size e
    refine ⟨⟨?_, (f2 b hb).2⟩, by rw [heap3, Heap.size_push]; exact Nat.lt_succ_of_lt lt⟩
    rw [upd_ne (by rw [← hD]; exact Nat.ne_of_lt lt)]
    exact (f2 b hb).1
  have st3 : tn 0 s3.heap := T.keep _ _ _ st2 fun b _ o e => by rw [heap3]; exact Heap.get?_push_of_some _ e
  have I4 := block_start I3 ok hN f3
  generalize hcl : cellsFrom (s3.heap.objs.size + 1) sc.names (cloFrom X.env.cells sc.names []) = cl at I4
  have pg := pg0 s3 (upd H2 D (.dK [])) s3.heap.objs.size cl fp
  have Q1 := pi1 s3 (upd H2 D (.dK [])) s3.heap.objs.size cl fp
  have G1 := pg1 s3 (upd H2 D (.dK [])) s3.heap.objs.size cl fp
  have Ek := pk0 s3 (upd H2 D (.dK [])) s3.heap.objs.size cl fp
  have Ev := pv0 s3 (upd H2 D (.dK [])) s3.heap.objs.size cl fp
  show codeAny _ _ (.compStart (E2 kx vx t0 i0 t1 i1 sc pos) 0 (.ref it) (.ref D) (compEnvC sc cl s3.heap.objs.size X.env)) (compPost (model X.prog X.w) X.A X.xe none _ (.ref D) s3.heap.objs.size) { s3 with heap := pushCells (s3.heap.push { cls := .type "dict", data := .dict #[] }) sc.names }
  have nf3 : ∀ b ∈ fp, (upd H2 D (.dK [])) b = none := fun b hb => (f3 b hb).1.1
  generalize hce : compEnvC sc cl s3.heap.objs.size X.env = ce at I4 pg Q1 G1 Ek Ev ⊢
  have atL : ce.locals = s3.heap.objs.size := by subst hce; rfl
  generalize hH3 : upd H2 D (.dK []) = H3 at I3 I4 pg Q1 G1 Ek Ev w0 nf3 f3
  generalize hs4 : ({ s3 with heap := pushCells (s3.heap.push { cls := .type "dict", data := .dict #[] }) sc.names } : Shared) = s4 at I4 ⊢
  have st4 : tn 0 s4.heap := T.keep _ _ _ st3 fun b _ o e => by rw [← hs4]; exact pushCells_keeps _ _ _ _ (Heap.get?_push_of_some _ e)
  have nox : ∀ v t, (X.blk s3 H3 sc ce fp).xe v t → False := fun _ _ z => z
  have C1 : PCl (X.blk s3 H3 sc ce fp) (E2 kx vx t0 i0 t1 i1 sc pos) 1 i1 D vs1 (tCl wi1 g1 (tEmitD tk tv D) vs1) := cl_endD nox hc Q1 G1 Ek Ev
  have stat : ∀ H' : Hp, (∀ b ∈ fp, H' b = none) → ∀ b ∈ fp, FpOk (X.blk s3 H3 sc ce fp) [] H' b := fun H' hn b hb =>
    ⟨hn b hb, (I4.ok.exf b hb).1, I4.ok.exfs b hb, .inl hb, fun x c e => (I4.ok.exf b hb).2 x c e, fun p hp => absurd (show p ∈ ([] : List (Addr × Obj)) ++ [] from hp) (by simp)⟩
  have lp : codeAny (model X.prog X.w) X.A (.compLoop (E2 kx vx t0 i0 t1 i1 sc pos) 0 (.ref it) (.ref D) ce) (compPost (model X.prog X.w) X.A X.xe none (EP X pins σ Q) (.ref D) s3.heap.objs.size) s4 := by
    refine run_midD (Y := X.blk s3 H3 sc ce fp) (pins := []) nox hc (fun _ => turnD_0) (fs1 ce) T pg C1 sub1 stat I4 st4 nf3 w0 turn (fun s6 H5 I6 qq => ?_)
    have I7 : Inv X pins σ H5 s6 := I3.call' (ch := fp) I6.os I6.base I6.hok I6.bare fun b hb => ⟨(f3 b hb).1.2.2.2.1, (f3 b hb).1.2.1, (f3 b hb).1.2.2.2.2.1, (f3 b hb).1.2.2.2.2.2⟩
    have freeC : H5 s3.heap.objs.size = none := by
      have z : H5 ce.locals = none := I6.free
      rw [atL] at z
      exact z
    obtain ⟨mm, hn, _⟩ := I6.loc
    have hn' : s6.heap.Ns ce.locals mm := hn
    rw [atL] at hn'
    obtain ⟨c0, c1, c2, c3, c4, c5⟩ := I3.fpOk (H' := H5) (Nat.le_refl _) freeC
    exact ⟨mm, hn', fun h'' sb => ⟨.ref D, H5, I7.turned (t' := s6.toks) (fun b o hb e => (sb.2 b hb).trans e) c0 c1 c3 c4 c5, rfl, qq⟩⟩
  exact codeAny_compStart_dict lp (T.self X.A 0 _ _ _ st4 lp)
end
end Kx

set_option autoImplicit false
/-! {k: v for x in a for y in b} with texts or ints as keys, by values -/
namespace J
open PySem PySem.Spec PyProof.Rows L2
open Kx (E2 Cl tCl tDc2 tEmitD pe_dc2)
variable {K : PySem.W.Frag} {P : Program} {w : World} {X : Cx}
open Classical in
noncomputable def fD2I (n : Nat) (c : Sto → Prop) (g1 : FG) (fk fv : FE) (env : J.Env) : List D → Sto → Option Sto
  | [], S => if c S then some S else none
  | d :: ds, S => if c S then (match g1 d env S with
    | none => none
    | some (env1, S1) => match fk env1 S1 with
      | none => none
      | some (a, S2) => match fv env1 S2 with
        | none => none
        | some (b, S3) => match S3[n]? with
          | some (.dks kvs) => match kyD a with
            | some k => if kvs.length < 100000 then fD2I n c g1 fk fv env ds (S3.set n (.dks (putKD kvs k b))) else none
            | none => none
          | _ => none) else none
noncomputable def fD2O (n : Nat) (g : FG) (fi1 : FAC) (g1 : FG) (fk fv : FE) (vs1 : List Nat) (env : J.Env) : List D → Sto → Option Sto
  | [], S => some S
  | d :: ds, S => match g d env S with
    | none => none
    | some (env1, S1) => match fi1 env1 S1 with
      | none => none
      | some (es, c, S2) => match fD2I n c g1 fk fv (wipeD env1 vs1) es S2 with
        | none => none
        | some S3 => fD2O n g fi1 g1 fk fv vs1 env ds S3
noncomputable def fDk2 (own vs1 : List Nat) (fi : FA) (g : FG) (fi1 : FAC) (g1 : FG) (fk fv : FE) : FE := fun env S => match fi env S with
  | none => none
  | some (ds, S1) => match fD2O S1.length g fi1 g1 fk fv vs1 (wipeD env own) ds (S1 ++ [.dks []]) with
    | some S2 => some (.obj S1.length, S2)
    | none => none
end J

set_option autoImplicit false
/-! iteration over the values of a dict with tuples as keys that stands still -/
namespace J
open PySem PySem.Spec PyProof.Rows L2
variable {K : PySem.W.Frag} {P : Program} {w : World} {X : Cx}
def ItEV (P : Program) (w : World) (a : Addr) (o : Obj) (xs : List (NestedKey × Addr × V)) : It :=
  ⟨fun i H => H a = some (.frz o (DictE P w a xs)) ∧ i < xs.length, fun i H x H' => H' = H ∧ ∃ k b, xs[i]? = some (k, b, x), fun i H => H a = some (.frz o (DictE P w a xs)) ∧ xs.length ≤ i⟩
def iValsE (P : Program) (w : World) (td : TE) : TI := fun σ H R => td σ H fun x H1 => ∃ a o xs, x = .ref a ∧ H1 a = some (.frz o (DictE P w a xs)) ∧ R (ItEV P w a o xs) H1
/-- the values of a dict that stands still -/
def fItTV (f : FE) : FA := fun env S => match f env S with
  | some (.obj k, S1) => match S1[k]? with
    | some (.lck kvs) => some (kvs.map fun p => p.2.2, S1)
    | _ => none
  | _ => none
end J

set_option autoImplicit false
/-! in, d[k], len of a dict with tuples as keys that stands still -/
namespace J
open PySem PySem.Spec PyProof.Rows L2
variable {K : PySem.W.Frag} {P : Program} {w : World} {X : Cx}
section
variable {pins : List (Addr × Obj)} {σ : L2.St} {H : Hp} {s : Shared} {a : Addr} {o : Obj} {xs : List (NestedKey × Addr × V)}
end
def rLInE (P : Program) (w : World) (K : PySem.W.Frag) (neg : Bool) : R2 := fun x y H Q => ∃ a o b xs k, x = .ref b ∧ y = .ref a ∧ H a = some (.frz o (DictE P w a xs)) ∧ KeysOk K H xs ∧ KeyV K H (.ref b) k ∧ k.depth ≤ 8 ∧ Q (.bl (neg ^^ (luX xs k).isSome)) H
def gInEL (neg : Bool) : G2 := fun a b S => match b with
  | .obj j => match S[j]? with
    | some (.lck kvs) => match a.tkey with
      | some k => some (.bl (neg ^^ (luD kvs k).isSome), S)
      | none => none
    | _ => none
  | _ => none
/-- d[k] of a locked dict -/
def rLIxE (P : Program) (w : World) (K : PySem.W.Frag) : R2 := fun x y H Q => ∃ a o b xs k v, x = .ref a ∧ y = .ref b ∧ H a = some (.frz o (DictE P w a xs)) ∧ KeysOk K H xs ∧ KeyV K H (.ref b) k ∧ k.depth ≤ 8 ∧ luX xs k = some v ∧ Q v H
def gIxEL : G2 := fun a b S => match a with
  | .obj j => match S[j]? with
    | some (.lck kvs) => match b.tkey with
      | some k => match luD kvs k with
        | some d => some (d, S)
        | none => none
      | none => none
    | _ => none
  | _ => none
def gIdxL : G2 := fun a b S => (gIxEL a b S).orElse fun _ => gIdx a b S
/-- len of a locked dict -/
def gLenEL : Fn := fun ds S => match ds with
  | [.obj k] => match S[k]? with
    | some (.lck kvs) => some (.int kvs.length, S)
    | _ => none
  | _ => none
def rLenEL (P : Program) (w : World) (K : PySem.W.Frag) : List V → Hp → VK → Prop := fun xs H Q => ∃ a o es, xs = [.ref a] ∧ H a = some (.frz o (DictE P w a es)) ∧ KeysOk K H es ∧ Q (.int es.length) H
end J

set_option autoImplicit false
/-! {k: v for .. in a list of the store for .. in ..} -/
namespace J
open PySem PySem.Spec PyProof.Rows L2
open Kx (E2 Cl tCl tDc2 tEmitD pe_dc2)
variable {K : PySem.W.Frag} {P : Program} {w : World} {X : Cx}
open Classical in
noncomputable def fD2OC (n : Nat) (c0 : Sto → Prop) (g : FG) (fi1 : FAC) (g1 : FG) (fk fv : FE) (vs1 : List Nat) (env : J.Env) : List D → Sto → Option Sto
  | [], S => if c0 S then some S else none
  | d :: ds, S => if c0 S then (match g d env S with
    | none => none
    | some (env1, S1) => match fi1 env1 S1 with
      | none => none
      | some (es, c, S2) => match fD2I n c g1 fk fv (wipeD env1 vs1) es S2 with
        | none => none
        | some S3 => fD2OC n c0 g fi1 g1 fk fv vs1 env ds S3) else none
noncomputable def fDk2C (own vs1 : List Nat) (fi : FAC) (g : FG) (fi1 : FAC) (g1 : FG) (fk fv : FE) : FE := fun env S => match fi env S with
  | none => none
  | some (ds, c0, S1) => match fD2OC S1.length c0 g fi1 g1 fk fv vs1 (wipeD env own) ds (S1 ++ [.dks []]) with
    | some S2 => some (.obj S1.length, S2)
    | none => none
def QIC (X : Cx) (wi : TI) (fi : FAC) : Prop := ∀ (σ : L2.St) (H : Hp) (μ : Mp) (env : J.Env) (S : Sto) (ds : List D) (c : Sto → Prop) (S' : Sto) (R : It → Hp → Prop), HR X.prog X.w X.K H μ S → ER X.K H μ σ env → fi env S = some (ds, c, S') →
  (∀ T H' μ', Later μ H μ' H' → HR X.prog X.w X.K H' μ' S' → ItC X.prog X.w X.K T ds c μ' H' → R T H') → wi σ H R
end J

set_option autoImplicit false
/-! x = {k: v for .. in .. for .. in ..}: the name takes the dict within the comprehension -/
namespace Kx
open PySem PySem.Spec PyProof.Rows L2
section
variable {X : Cx} {kx vx t0 i0 t1 i1 : Expr} {sc : Scope} {pos : Pos}
theorem core_dc2 {pins : List (Addr × Obj)} {s : Shared} {σ : L2.St} {H : Hp} {Q : VK} {pos' : Pos} {use : Option (Value → Sem Unit)} {Qf : Value → Shared → Prop} {own : List (Str × Nat)} {vs1 : List Nat} {wi wi1 : TI} {g g1 : TG} {tk tv : TE} (hc : X.calm = true) (hN : X.N.Nodup) (I : Inv X pins σ H s) (pi0 : PI X t0 i0 wi) (ok : BlkOk X.N X.env.scope sc own)
    (sub1 : ∀ j ∈ vs1, j ∈ own.map (·.2))
    (pg0 : ∀ (s : Shared) (H : Hp) (C : Addr) (cl : List (Str × Addr)) (fp : List Addr), PG (X.blk s H sc (compEnvC sc cl C X.env) fp) t0 g)
    (pi1 : ∀ (s : Shared) (H : Hp) (C : Addr) (cl : List (Str × Addr)) (fp : List Addr), PI (X.blk s H sc (compEnvC sc cl C X.env) fp) t1 i1 wi1)
    (pg1 : ∀ (s : Shared) (H : Hp) (C : Addr) (cl : List (Str × Addr)) (fp : List Addr), PG (X.blk s H sc (compEnvC sc cl C X.env) fp) t1 g1)
    (pk0 : ∀ (s : Shared) (H : Hp) (C : Addr) (cl : List (Str × Addr)) (fp : List Addr), PE (X.blk s H sc (compEnvC sc cl C X.env) fp) kx tk)
    (pv0 : ∀ (s : Shared) (H : Hp) (C : Addr) (cl : List (Str × Addr)) (fp : List Addr), PE (X.blk s H sc (compEnvC sc cl C X.env) fp) vx tv)
    (fs0 : ∀ x, foldedSetIterable i0 X.env x = pure x) (fs1 : ∀ env x, foldedSetIterable i1 env x = pure x) (h : tDc2 wi g (fun D => tCl wi1 g1 (tEmitD tk tv D) vs1) (own.map (·.2)) σ H Q)
    (out0 : ∀ D C s' m H', Inv X pins σ H' s' → Q (.ref D) H' → s'.heap.Ns C m → FpOk X pins H' C → compPost (model X.prog X.w) X.A X.xe use Qf (.ref D) C (.ok .next) s') :
    wpAny (model X.prog X.w) X.A (comprehension (E2 kx vx t0 i0 t1 i1 sc pos) sc X.env pos' newDict false (eval i0 X.env) use) Qf X.xe s := by
  have cells : ∀ y ∈ sc.names, y.2 = .free → ∃ c, X.env.cells.lookup y.1 = some c := by
    intro y hy e
    rcases ok.free y hy e with z | z
    · exact I.ok.has _ (.inl z)
    · exact I.ok.has _ (.inr z)
  refine wpAny_comprehension_free (use := use) rfl fs0 (closure_ok cells) ok.kind (fun y hy e => by rw [ok.uniq y hy, e]) (thn (pi0.run pins s σ H _ I h) fun xv s1 hx => thn hx fun jv s2 out => ?_)
  obtain ⟨it, fp, tn, J, H2, rfl, I2, T, st2, f2, q⟩ := out
  refine wpAny_newObj_type (newEnv_comp ?_)
  generalize hD : s2.heap.objs.size = D
  have freeD : H2 D = none := I2.hok.fresh (Nat.le_of_eq hD)
  obtain ⟨W, ⟨m0, w0⟩, turn⟩ := q D freeD
  generalize hs3 : ({ s2 with heap := s2.heap.push { cls := .type "dict", data := .dict #[] } } : Shared) = s3
  have heap3 : s3.heap = s2.heap.push { cls := .type "dict", data := .dict #[] } := by rw [← hs3]
  have I3 : Inv X pins σ (upd H2 D (.dK [])) s3 := by
    rw [← hs3]
    refine I2.laid (t' := s2.toks) (fun b o e => Heap.get?_push_of_some _ e) (Nat.le_of_eq hD) ?_
    rw [← hD]
    exact dk_empty s2.heap I2.big
  have f3 : ∀ b ∈ fp, FpOk X pins (upd H2 D (.dK [])) b ∧ b < s3.heap.objs.size := by
    intro b hb
    obtain ⟨o, e, _⟩ := T.obj _ _ st2 b hb
    have lt := Heap.lt_size e
    refine ⟨⟨?_, (f2 b hb).2⟩, by rw [heap3, Heap.size_push]; exact Nat.lt_succ_of_lt lt⟩
    rw [upd_ne (by rw [← hD]; exact Nat.ne_of_lt lt)]
    exact (f2 b hb).1
  have st3 : tn 0 s3.heap := T.keep _ _ _ st2 fun b _ o e => by rw [heap3]; exact Heap.get?_push_of_some _ e
  have I4 := block_start I3 ok hN f3
  generalize hcl : cellsFrom (s3.heap.objs.size + 1) sc.names (cloFrom X.env.cells sc.names []) = cl at I4
  have pg := pg0 s3 (upd H2 D (.dK [])) s3.heap.objs.size cl fp
  have Q1 := pi1 s3 (upd H2 D (.dK [])) s3.heap.objs.size cl fp
  have G1 := pg1 s3 (upd H2 D (.dK [])) s3.heap.objs.size cl fp
  have Ek := pk0 s3 (upd H2 D (.dK [])) s3.heap.objs.size cl fp
  have Ev := pv0 s3 (upd H2 D (.dK [])) s3.heap.objs.size cl fp
  show codeAny _ _ (.compStart (E2 kx vx t0 i0 t1 i1 sc pos) 0 (.ref it) (.ref D) (compEnvC sc cl s3.heap.objs.size X.env)) (compPost (model X.prog X.w) X.A X.xe use Qf (.ref D) s3.heap.objs.size) { s3 with heap := pushCells (s3.heap.push { cls := .type "dict", data := .dict #[] }) sc.names }
  have nf3 : ∀ b ∈ fp, (upd H2 D (.dK [])) b = none := fun b hb => (f3 b hb).1.1
  generalize hce : compEnvC sc cl s3.heap.objs.size X.env = ce at I4 pg Q1 G1 Ek Ev ⊢
  have atL : ce.locals = s3.heap.objs.size := by subst hce; rfl
  generalize hH3 : upd H2 D (.dK []) = H3 at I3 I4 pg Q1 G1 Ek Ev w0 nf3 f3
  generalize hs4 : ({ s3 with heap := pushCells (s3.heap.push { cls := .type "dict", data := .dict #[] }) sc.names } : Shared) = s4 at I4 ⊢
  have st4 : tn 0 s4.heap := T.keep _ _ _ st3 fun b _ o e => by rw [← hs4]; exact pushCells_keeps _ _ _ _ (Heap.get?_push_of_some _ e)
  have nox : ∀ v t, (X.blk s3 H3 sc ce fp).xe v t → False := fun _ _ z => z
  have C1 : PCl (X.blk s3 H3 sc ce fp) (E2 kx vx t0 i0 t1 i1 sc pos) 1 i1 D vs1 (tCl wi1 g1 (tEmitD tk tv D) vs1) := cl_endD nox hc Q1 G1 Ek Ev
  have stat : ∀ H' : Hp, (∀ b ∈ fp, H' b = none) → ∀ b ∈ fp, FpOk (X.blk s3 H3 sc ce fp) [] H' b := fun H' hn b hb =>
    ⟨hn b hb, (I4.ok.exf b hb).1, I4.ok.exfs b hb, .inl hb, fun x c e => (I4.ok.exf b hb).2 x c e, fun p hp => absurd (show p ∈ ([] : List (Addr × Obj)) ++ [] from hp) (by simp)⟩
  have lp : codeAny (model X.prog X.w) X.A (.compLoop (E2 kx vx t0 i0 t1 i1 sc pos) 0 (.ref it) (.ref D) ce) (compPost (model X.prog X.w) X.A X.xe use Qf (.ref D) s3.heap.objs.size) s4 := by
    refine run_midD (Y := X.blk s3 H3 sc ce fp) (pins := []) nox hc (fun _ => turnD_0) (fs1 ce) T pg C1 sub1 stat I4 st4 nf3 w0 turn (fun s6 H5 I6 qq => ?_)
    have I7 : Inv X pins σ H5 s6 := I3.call' (ch := fp) I6.os I6.base I6.hok I6.bare fun b hb => ⟨(f3 b hb).1.2.2.2.1, (f3 b hb).1.2.1, (f3 b hb).1.2.2.2.2.1, (f3 b hb).1.2.2.2.2.2⟩
    have freeC : H5 s3.heap.objs.size = none := by
      have z : H5 ce.locals = none := I6.free
      rw [atL] at z
      exact z
    obtain ⟨mm, hn, _⟩ := I6.loc
    have hn' : s6.heap.Ns ce.locals mm := hn
    rw [atL] at hn'
    exact out0 D s3.heap.objs.size s6 mm H5 I7 qq hn' (I3.fpOk (H' := H5) (Nat.le_refl _) freeC)
  exact codeAny_compStart_dict lp (T.self X.A 0 _ _ _ st4 lp)
theorem ps_setDc2 {i : Nat} {y : Str} {py spos : Pos} {own : List (Str × Nat)} {vs1 : List Nat} {wi wi1 : TI} {g g1 : TG} {tk tv : TE} (hc : X.calm = true) (hN : X.N.Nodup) (hy : X.N[i]? = some y) (hyl : X.env.scope.names.lookup y = some .local)
    (hsw : swapsWith (E2 kx vx t0 i0 t1 i1 sc pos) (some (.Name y py)) spos.line X.env = pure true) (pi0 : PI X t0 i0 wi) (ok : BlkOk X.N X.env.scope sc own)
    (sub1 : ∀ j ∈ vs1, j ∈ own.map (·.2))
    (pg0 : ∀ (s : Shared) (H : Hp) (C : Addr) (cl : List (Str × Addr)) (fp : List Addr), PG (X.blk s H sc (compEnvC sc cl C X.env) fp) t0 g)
    (pi1 : ∀ (s : Shared) (H : Hp) (C : Addr) (cl : List (Str × Addr)) (fp : List Addr), PI (X.blk s H sc (compEnvC sc cl C X.env) fp) t1 i1 wi1)
    (pg1 : ∀ (s : Shared) (H : Hp) (C : Addr) (cl : List (Str × Addr)) (fp : List Addr), PG (X.blk s H sc (compEnvC sc cl C X.env) fp) t1 g1)
    (pk0 : ∀ (s : Shared) (H : Hp) (C : Addr) (cl : List (Str × Addr)) (fp : List Addr), PE (X.blk s H sc (compEnvC sc cl C X.env) fp) kx tk)
    (pv0 : ∀ (s : Shared) (H : Hp) (C : Addr) (cl : List (Str × Addr)) (fp : List Addr), PE (X.blk s H sc (compEnvC sc cl C X.env) fp) vx tv)
    (fs0 : ∀ x, foldedSetIterable i0 X.env x = pure x := by intro _; rfl) (fs1 : ∀ env x, foldedSetIterable i1 env x = pure x := by intro _ _; rfl) :
    PS X (.Assign [.Name y py] (E2 kx vx t0 i0 t1 i1 sc pos) spos) (tAsg (tDc2 wi g (fun D => tCl wi1 g1 (tEmitD tk tv D) vs1) (own.map (·.2))) (gName i)) := by
  refine ⟨fun pins s σ H D0 I h => ?_⟩
  rw [exec_Assign_Name_used _ _ _ _ hsw]
  refine wpAny_bind (wpAny_standAt (wpAny_bind ?_))
  show wpAny _ X.A (evalThenUse (.DictComp kx vx [⟨t0, i0, [], 0⟩, ⟨t1, i1, [], 0⟩] sc pos) X.env (assign (.Name y py) X.env)) _ _ s
  rw [arm_evalThenUse_DictComp]
  have h : tDc2 wi g (fun D => tCl wi1 g1 (tEmitD tk tv D) vs1) (own.map (·.2)) σ H (fun x H1 => gName i x σ H1 D0.nx) := h
  refine wpAny_bind (thn (core_dc2 (Qf := fun _ s' => SP X pins D0 .next s') hc hN I pi0 ok sub1 pg0 pi1 pg1 pk0 pv0 fs0 fs1 h fun L C s' m H' I' q hn f => ?_) fun _ s' hq => wpAny_pure (wpAny_pure hq))
  show wpAny _ _ (assign (.Name y py) X.env (.ref L)) _ _ _
  obtain ⟨c0, c1, c2, c3, c4, c5⟩ := f
  refine wpAny_assign_Name (store_ok2 (v := V.ref L) I' hN hy (.inl hyl) rfl (fun s2 I2 ⟨a, sb, ha⟩ => ?_) (.inr hyl))
  have ne : C ≠ a := by
    rcases ha with z | z
    · rw [z]; exact c1
    · exact fun e => c4 y a z e.symm
  exact ⟨m, hn.sameBut sb ne, fun h3 sb3 => ⟨_, H', I2.turned (t' := s2.toks) (fun b o hb e => (sb3.2 b hb).trans e) c0 c1 c3 c4 c5, q⟩⟩
end
end Kx
namespace J
open PySem PySem.Spec PyProof.Rows L2
open Kx (E2 Cl tCl tDc2 tEmitD ps_setDc2)
variable {X : Cx}
end J

set_option autoImplicit false
/-! lists of the store: extend by one, the sum of two -/
namespace J
open PySem PySem.Spec PyProof.Rows L2
variable {K : PySem.W.Frag} {P : Program} {w : World} {X : Cx}
def lstOf (d : D) (S : Sto) : Option (List D) := match d with
  | .lst bs => some bs
  | .obj j => match S[j]? with
    | some (.lst bs) => some bs
    | _ => none
  | _ => none
theorem lstOf_ok {H : Hp} {μ : Mp} {S : Sto} {v : V} {d : D} {bs : List D} (hr : HR P w K H μ S) (r : Rv K H μ v d) (h : lstOf d S = some bs) : ∃ b zs, v = .ref b ∧ H b = some (.lst zs) ∧ RvAll K H μ zs bs := by
  unfold lstOf at h
  split at h
  · cases h
    cases r with
    | lst h1 h2 => exact ⟨_, _, rfl, h1.1, h2⟩
  · split at h
    · rename_i es e
      cases h
      obtain ⟨p, rfl, h1, ys, h2, h3⟩ := hr.at r e
      exact ⟨p, ys, rfl, h2, h3⟩
    · cases h
  · cases h
def gExtN : GM := fun a ds S => match a, ds with
  | .obj k, [d] => match S[k]?, lstOf d S with
    | some (.lst es), some bs => if es.length + bs.length ≤ 100000 then some (.non, S.set k (.lst (es ++ bs))) else none
    | _, _ => none
  | _, _ => none
/-- the sum of two lists, a new one in the store -/
def gCatN : G2 := fun a b S => match lstOf a S, lstOf b S with
  | some xs, some ys => if xs.length + ys.length ≤ 100000 then some (.obj S.length, S ++ [.lst (xs ++ ys)]) else none
  | _, _ => none
theorem ro_catN : RO P w K rCat gCatN := by
  intro H μ S x y a b d S' Q hr rx ry e k
  unfold gCatN at e
  split at e
  · rename_i xs ys hx hy
    split at e
    · rename_i hl
      cases e
      obtain ⟨p, us, rfl, h1, h2⟩ := lstOf_ok hr rx hx
      obtain ⟨q, vs, rfl, h3, h4⟩ := lstOf_ok hr ry hy
      refine ⟨_, _, _, _, rfl, rfl, h1, h3, by rw [h2.length, h4.length]; exact le100 hl, fun p np => ?_⟩
      obtain ⟨μ2, l2, hr2, e2⟩ := hr.push (o := .lst (xs ++ ys)) (u := .lst (us ++ vs)) np fun H' μ' l e => ⟨_, e, (h2.append h4).later l⟩
      exact k _ _ μ2 l2 hr2 (.obj e2)
    · cases e
  · cases e
theorem je_catN {a b : Expr} {fa fb : FE} {pos : Pos} (ha : JE X a fa) (hb : JE X b fb) : JE X (.BinOp a .Add b pos) (fOp gCatN fa fb) := je_op op_cat ro_catN ha hb
end J

set_option autoImplicit false
/-! the items of a dict with tuples as keys that stands still; list(range(n)) in the store -/
namespace J
open PySem PySem.Spec PyProof.Rows L2
variable {K : PySem.W.Frag} {P : Program} {w : World} {X : Cx}
def ItEI (P : Program) (w : World) (a : Addr) (o : Obj) (xs : List (NestedKey × Addr × V)) : It :=
  ⟨fun i H => H a = some (.frz o (DictE P w a xs)) ∧ i < xs.length, fun i H x H' => ∃ T k b v, xs[i]? = some (k, b, v) ∧ x = .ref T ∧ H T = none ∧ H' = upd H T (.tup [.ref b, v]), fun i H => H a = some (.frz o (DictE P w a xs)) ∧ xs.length ≤ i⟩
def iItemsE (P : Program) (w : World) (td : TE) : TI := fun σ H R => td σ H fun x H1 => ∃ a o xs, x = .ref a ∧ H1 a = some (.frz o (DictE P w a xs)) ∧ R (ItEI P w a o xs) H1
/-- the items of a dict that stands still -/
def fItTI (f : FE) : FA := fun env S => match f env S with
  | some (.obj k, S1) => match S1[k]? with
    | some (.lck kvs) => some (kvs.map fun p => .tup [p.2.1, p.2.2], S1)
    | _ => none
  | _ => none
/-- list(range(e)), in the store -/
def fLstRgN (fa : FE) : FE := fun env S => match fa env S with
  | some (.int n, S1) => if 0 ≤ n ∧ n ≤ 100000 then some (.obj S1.length, S1 ++ [.lst (rngD 0 n.toNat)]) else none
  | _ => none
end J

set_option autoImplicit false
/-! {e: v} with a text or an int as key -/
namespace J
open PySem PySem.Spec PyProof.Rows L2
variable {K : PySem.W.Frag} {P : Program} {w : World} {X : Cx}
def fDisp1Q (fk fv : FE) : FE := fun env S => match fk env (S ++ [.dks []]) with
  | some (kd, S1) => match fv env S1 with
    | some (vd, S2) => match S2[S.length]? with
      | some (.dks []) => match kyD kd with
        | some q => some (.obj S.length, S2.set S.length (.dks [(q, vd)]))
        | none => none
      | _ => none
    | none => none
  | none => none
end J

set_option autoImplicit false
/-! enumerate(d) of a dict with tuples as keys that stands still -/
namespace Kx
open PySem PySem.Spec PyProof.Rows L2
open AutoSeq1 (wpAny_loadPart')
section
variable {prog : Program} {w : World} {A : Around} {E : Value → Shared → Prop} {s : Shared}
end
end Kx

set_option autoImplicit false
/-! enumerate(d), of a dict with tuples as keys that stands still: its walk -/
namespace J
open PySem PySem.Spec PyProof.Rows L2
open AutoSeq1 (wpAny_loadPart')
variable {K : PySem.W.Frag} {P : Program} {w : World} {X : Cx}
def ItEN (P : Program) (w : World) (a : Addr) (o : Obj) (xs : List (NestedKey × Addr × V)) : It :=
  ⟨fun i H => H a = some (.frz o (DictE P w a xs)) ∧ i < xs.length, fun i H v H' => ∃ T k b y, xs[i]? = some (k, b, y) ∧ v = .ref T ∧ H T = none ∧ H' = upd H T (.tup [.int (i : Nat), .ref b]), fun i H => H a = some (.frz o (DictE P w a xs)) ∧ xs.length ≤ i⟩
def iEnumE (P : Program) (w : World) (ta : TA) : TI := fun σ H R => ta σ H fun vs H1 => ∃ a o xs, vs = [.ref a] ∧ H1 a = some (.frz o (DictE P w a xs)) ∧ R (ItEN P w a o xs) H1
/-- enumerate(d), where the dict stands still -/
def fEnumT (g : FA) : FA := fun env S => match g env S with
  | some ([.obj k], S1) => match S1[k]? with
    | some (.lck kvs) => some (enD (kvs.map fun p => p.2.1), S1)
    | _ => none
  | _ => none
end J

set_option autoImplicit false
/-! a comprehension within a comprehension -/
namespace J
open PySem PySem.Spec PyProof.Rows L2
end J

set_option autoImplicit false
/-! dict(pairs), with tuples as keys -/
namespace J
open PySem PySem.Spec PyProof.Rows L2
variable {K : PySem.W.Frag} {P : Program} {w : World} {X : Cx}
def putAllX (xs ps : List (NestedKey × Addr × V)) : List (NestedKey × Addr × V) := ps.foldl (fun acc p => putX acc p.1 p.2.1 p.2.2) xs
def D.pairsT : List D → Option (List (NestedKey × D × D))
  | [] => some []
  | .tup [a, b] :: ds => match a.tkey, D.pairsT ds with
    | some k, some r => some ((k, a, b) :: r)
    | _, _ => none
  | _ => none
def putAllD (xs ps : List (NestedKey × D × D)) : List (NestedKey × D × D) := ps.foldl (fun acc p => putD acc p.1 p.2.1 p.2.2) xs
def gDictT : Fn := fun ds S => match ds with
  | [.lst es] => match D.pairsT es with
    | some r => some (.obj S.length, S ++ [.dct (putAllD [] r)])
    | none => none
  | _ => none
end J

set_option autoImplicit false
/-! xs.index(n) of a list of ints -/
namespace J
open PySem PySem.Spec PyProof.Rows L2
variable {K : PySem.W.Frag} {P : Program} {w : World} {X : Cx}
def eqi (c : Int) : Value → Bool := fun v => match v with | .int b _ => b == c | _ => false
def rIdxI (K : PySem.W.Frag) : V → List V → Hp → VK → Prop := fun x xs H Q => ∃ (p : Addr) (ns : List Int) (c : Int) (j : Nat), x = .ref p ∧ xs = [.int c] ∧ SqL K H p (ns.map V.int) ∧ ns[j]? = some c ∧ (∀ m, m < j → ns[m]? ≠ some c) ∧ j < 100000 ∧ Q (.int (j : Nat)) H
def idxI (c : Int) : List Int → Nat → Option Nat
  | [], _ => none
  | b :: r, n => if b = c then some n else idxI c r (n + 1)
def gIdxI : GM := fun a ds S => match ds with
  | [.int c] => match lstOf a S with
    | some xs => match D.ints xs with
      | some ns => match idxI c ns 0 with
        | some j => if j < 100000 then some (.int (j : Nat), S) else none
        | none => none
      | none => none
    | none => none
  | _ => none
end J

set_option autoImplicit false
/-! a lambda with one parameter -/
namespace J
open PySem PySem.Spec PyProof.Rows L2 LamX
structure LamS1 (sc scope : Scope) (g : Str) : Prop where
  kind : scope.kind = .function
  co : scope.isCoroutine = false
  gen : scope.isGenerator = false
  own : ∀ y ∈ scope.names, (y.2 = .local → y.1 = g) ∧ y.2 ≠ .cell
  par : scope.names.lookup g = some .local
  free : ∀ y ∈ scope.names, y.2 = .free → sc.names.lookup y.1 = some .cell ∨ sc.names.lookup y.1 = some .free
theorem LamS1.has {X : Cx} {scope : Scope} {g : Str} (L : LamS1 X.env.scope scope g) (ok : X.Ok) : ∀ y ∈ scope.names, y.2 = .free → ∃ c, X.env.cells.lookup y.1 = some c := fun y hy e => by
  rcases L.free y hy e with k | k
  · exact ok.has _ (.inl k)
  · exact ok.has _ (.inr k)
section
variable {X : Cx} {pins : List (Addr × Obj)} {σ : L2.St} {H HZ : Hp} {s s1 : Shared}
end
end J

set_option autoImplicit false
/-! a lambda with one parameter, called by a built-in -/
namespace J
open PySem PySem.Spec PyProof.Rows L2 LamX
section
variable {X : Cx} {pins : List (Addr × Obj)} {σ : L2.St} {H : Hp} {s : Shared}
end
end J

set_option autoImplicit false
/-! max(xs, key=f): its loop -/
namespace J
open PySem PySem.Spec PyProof.Rows L2 LamX
section
variable {X : Cx} {pins : List (Addr × Obj)} {σ : L2.St} {H : Hp}
end
end J

set_option autoImplicit false
/-! max(xs, key=f), called -/
namespace J
open PySem PySem.Spec PyProof.Rows L2 LamX
section
variable {X : Cx} {pins : List (Addr × Obj)} {σ : L2.St} {H : Hp}
end
end J

set_option autoImplicit false
/-! max(xs, key=lambda g: d[g]), d a dict with tuples as keys -/
namespace J
open PySem PySem.Spec PyProof.Rows L2 LamX
def keyInts (kvs : List (NestedKey × D × D)) : List D → Option (List Int)
  | [] => some []
  | d :: ds => match d.tkey with
    | some k => match luD kvs k with
      | some (.int n) => (keyInts kvs ds).map (n :: ·)
      | _ => none
    | none => none
/-- the place of the first greatest -/
def FirstMax (ns : List Int) (i : Nat) : Prop := ∃ n, ns[i]? = some n ∧ ∀ j m, ns[j]? = some m → n ≥ m ∧ (j < i → n > m)
theorem FirstMax.one {ns : List Int} {i j : Nat} (h : FirstMax ns i) (h' : FirstMax ns j) : i = j := by
  obtain ⟨n, a, b⟩ := h
  obtain ⟨m, c, d⟩ := h'
  have b1 := b j m c
  have d1 := d i n a
  rcases Nat.lt_trichotomy i j with z | z | z
  · have := d1.2 z; have := b1.1; omega
  · exact z
  · have := b1.2 z; have := d1.1; omega
open Classical in
noncomputable def fMaxK (kT : Nat) (xx : Str) (m : Option Str) (q : Str) (f1 : FE) (i : Nat) : FE := fun env S => match f1 env S with
  | some (.lst ds, S1) => if S1[kT]? = some (.tab xx m q) then (match env[i]? with
    | some (some (.obj k)) => match S1[k]? with
      | some (.dct kvs) => match keyInts kvs ds with
        | some ns => if h : ∃ i d, FirstMax ns i ∧ ds[i]? = some d then some (Classical.choose (Classical.choose_spec h), S1) else none
        | none => none
      | _ => none
    | _ => none) else none
  | _ => none
variable {K : PySem.W.Frag} {P : Program} {w : World} {X : Cx}
end J

set_option autoImplicit false
/-! max(xs, key=lambda g: d[g]): its rule -/
namespace J
open PySem PySem.Spec PyProof.Rows L2 LamX
variable {K : PySem.W.Frag} {P : Program} {w : World} {X : Cx}
end J

set_option autoImplicit false
/-! methods that make lambdas: their code object's table -/
namespace J
open PySem PySem.Spec PyProof.Rows L2 LamX
variable {K : PySem.W.Frag} {P : Program} {w : World} {X : Cx}
/-- what the head says of the table of the method m of the class x -/
def TabM (K : PySem.W.Frag) (mg : Str → Option Value) (base : Heap) (x m : Str) : Prop := ∀ p, TabAt K x (some m) p → ∃ fa c, FnAt K x (some m) fa ∧ CodeOf K fa (.ref c) ∧ TabB base mg c p
theorem TabM.at {mg : Str → Option Value} {base : Heap} {x m : Str} {f : Addr} {cdv : Value} (h : TabM K mg base x m) (hf : FnAt K x (some m) f) (hc : CodeOf K f cdv) (p : Addr) (t : TabAt K x (some m) p) : ∃ c, cdv = .ref c ∧ TabB base mg c p := by
  obtain ⟨fa, c, h1, h2, h3⟩ := h p t
  obtain rfl : f = fa := hf.one h1
  exact ⟨c, hc.one h2, h3⟩
end J

set_option autoImplicit false
/-! the law's end, tables of defs and of methods in the store -/
namespace J
open PySem PySem.Spec PyProof.Rows L2 LamX
variable {K : PySem.W.Frag} {P : Program} {w : World} {X : Cx}
end J

set_option autoImplicit false
/-! xs.index(x) of a list of data -/
namespace J
open PySem PySem.Spec PyProof.Rows L2
variable {K : PySem.W.Frag} {P : Program} {w : World} {X : Cx}
def rIdxP (K : PySem.W.Frag) : V → List V → Hp → VK → Prop := fun x xs H Q => ∃ (ps : List PyData) (c : V) (d q : PyData) (j : Nat), xs = [c] ∧ Dp K H x (.list ps) ∧ Dp K H c d ∧ PyData.canLayAll0 ps = true ∧ d.canLay0 = true ∧ d.depth ≤ 60 ∧ ps[j]? = some q ∧ PyData.eqv q d = true ∧ (∀ m p, m < j → ps[m]? = some p → PyData.eqv p d = false) ∧ j < 100000 ∧ Q (.int (j : Nat)) H
def idxP (d : PyData) : List PyData → Nat → Option Nat
  | [], _ => none
  | p :: r, n => if PyData.eqv p d = true then some n else idxP d r (n + 1)
def gIdxP : GM := fun a ds S => match ds with
  | [c] => match a.pyS S, c.pyS S with
    | some (.list ps), some d => if (PyData.canLayAll0 ps && d.canLay0 && decide (d.depth ≤ 60)) = true then (match idxP d ps 0 with
      | some j => if j < 100000 then some (.int (j : Nat), S) else none
      | none => none) else none
    | _, _ => none
  | _ => none
end J

set_option autoImplicit false
/-! len(set(xs)) of a list of ints -/
namespace J
open PySem PySem.Spec PyProof.Rows L2
variable {K : PySem.W.Frag} {P : Program} {w : World} {X : Cx}
/-- how many there are of them, each once -/
def onceN (ns : List Int) : Nat := (PyProof.Rows.firstMet (fun i => ns.getD i 0) ns.length).length
def tLenSet (K : PySem.W.Frag) (te : TE) : TE := fun σ H Q => te σ H fun x H1 => ∃ (a : Addr) (ns : List Int), x = .ref a ∧ SqL K H1 a (ns.map V.int) ∧ ns.length < 4000 ∧ Q (.int (onceN ns : Nat)) H1
section
variable {e : Expr} {te : TE} {p p2 pos2 pos : Pos}
end
def fLenSet (f : FE) : FE := fun env S => match f env S with
  | some (d, S1) => match lstOf d S1 with
    | some xs => match D.ints xs with
      | some ns => if ns.length < 4000 then some (.int (onceN ns : Nat), S1) else none
      | none => none
    | none => none
  | none => none
end J

set_option autoImplicit false
/-! own exceptions made as values, by position or by keyword: the call of the class -/
namespace J
open PySem PySem.Spec PyProof.Rows L2 PySem.F PySem.Calls
section
variable {P : Program} {w : World} {M : Model} {A : Around} {E : Value → Shared → Prop} {h : Heap} {g : Array GenState} {d : Drawn} {t : Nat} {os : OsState} {R : Result → Shared → Prop}
variable {nm q : Str} {C N : Addr} {bs bm bmB : List Value} {sn : List Str} {sub : List Value} {ab hdct : Bool} {col : Option Bool} {dd : Option Addr} {k0 k1 k2 k3 k5 : Option Value} {B newId initId : String} {kws : List (Str × Value)}
theorem abw_check (F : ExcBaseFacts B newId initId bmB) (v : Abv bm B) {rest : List Value} {Q : Unit → Shared → Prop}
    (cl : h.get? C = some (excClassObj nm q C N bs bm hdct sn sub ab col dd k0 k1 k2 k3 k5 newId)) (z : Q () ⟨h, g, d, t, os⟩) : wpAny M A (checkBuiltinCall newId ⟨.ref C :: rest, kws⟩) Q E ⟨h, g, d, t, os⟩ := by
  have above := v.b' C
  have star := F.noStar
  simp only [checkBuiltinCall, F.newKind, F.newSplit, F.newRow]
  repeat (first
    | refine wpAny_loadPart_at cl ?_
    | (refine wpAny_isSubtype_exc cl ?_; rw [above])
    | refine wpAny_staticBase_exc cl ?_
    | refine wpAny_madeBy_exc cl ?_
    | simp only [bne_self_eq_false, Bool.false_eq_true, if_false]
    | wp_step)
  exact z
theorem abw_new (F : ExcBaseFacts B newId initId bmB) (v : Abv bm B) {rest : List Value} (cl : h.get? C = some (excClassObj nm q C N bs bm hdct sn sub ab col dd k0 k1 k2 k3 k5 newId)) (few : rest.length ≤ sizeLine)
    (z : R (.ok (.ret (.ref (h.objs.size + 1)))) ⟨(h.push { cls := .type "tuple", data := .seq rest.toArray }).push (HandSPX.excO C h.objs.size), g, d, t, os⟩) :
    codeAny (model P w) A (.builtin newId ⟨.ref C :: rest, kws⟩) R ⟨h, g, d, t, os⟩ := by
  have he := F.ends
  have above := v.b' C
  have hrest := few
  have notA := v.a' C
  have notN := v.n' C
  refine codeAny_builtinAt F.entry ?_
  unfold Builtin.«BaseException.__new__»; refine PySem.wpAt_bind ?_
  show PySem.wpAt _ _ _ (stack >>= _) _ _ _; refine PySem.wpAt_bind (PySem.wpAt_stack fun p below => PySem.wpAt_of_wpAny ?_)
  wp_walk
  refine PySem.wpAt_of_wpAny ?_; rw [F.owner]
  repeat (first
    | with_reducible refine wpAny_madeHere_exc F.canon cl ?_
    | with_reducible refine wpAny_loadPart_at cl ?_
    | (with_reducible refine wpAny_isSubtype_exc cl ?_; first | rw [above] | rw [notA] | rw [notN])
    | wp_step)
  show R _ _; rw [Heap.size_push]; exact z
theorem abw_type (F : ExcBaseFacts B newId initId bmB) (v : Abv bm B) {rest : List Value} {fI : Addr} {Q : Fin → Shared → Prop} (cl : h.get? C = some (excClassObj nm q C N bs bm hdct sn sub ab col dd k0 k1 k2 k3 k5 newId))
    (hi : PySem.W.Looks (model P w) h (typeLookup (.ref C) "__init__") (some (.ref fI))) (hb : ∀ self, PySem.W.Looks (model P w) h (bindSpecial (.ref fI) self) (.ref fI, [self])) (few : rest.length ≤ sizeLine)
    (z : codeAny (model P w) A (.call (.ref fI) ⟨.ref (h.objs.size + 1) :: rest, kws⟩) (fun r s' => match r with | .ok (.ret v) => v = .none ∧ Q (.done (.ret (.ref (h.objs.size + 1)))) s' | .ok _ => False | .error e => E e s') ⟨(h.push (PySem.W.kdv_tup rest)).push (HandSPX.excO C h.objs.size), g, d, t, os⟩) :
    wpAny (model P w) A (Builtin.«type.__call__» ⟨.ref C :: rest, kws⟩) Q E ⟨h, g, d, t, os⟩ := by
  have kp : ∀ b o, h.get? b = some o → ((h.push (PySem.W.kdv_tup rest)).push (HandSPX.excO C h.objs.size)).get? b = some o := fun b o e => (Heap.get?_push_of_some _ (Heap.get?_push_of_some _ e))
  have cl2 := kp _ _ cl
  have at1 : ((h.push (PySem.W.kdv_tup rest)).push (HandSPX.excO C h.objs.size)).get? (h.objs.size + 1) = some (HandSPX.excO C h.objs.size) := (by heap_get)
  have self : (Value.ref C :: bm).contains (.ref C) = true := (by simp)
  have ii := hi.keeps kp
  have ib := (hb (.ref (h.objs.size + 1))).keeps kp
  repeat (first
    | with_reducible refine wpAny_loadPart_at cl ?_
    | with_reducible refine wpAny_madeBy_exc cl ?_
    | wp_step)
  refine codeAny_call_builtin_code (Code.quiet_builtin _ F.quiet) (abw_check F v cl (abw_new F v cl few ?_))
  show wpAny _ _ _ _ _ _; unfold isInstance
  repeat (first
    | with_reducible refine wpAny_loadPart_at at1 ?_
    | (with_reducible refine wpAny_isSubtype_exc cl2 ?_; rw [self])
    | wp_step)
  show wpAny _ _ (typeLookup (.ref C) _) _ _ _; refine ii.at (wpAny_holding (wpAny_bind (ib.at (wpAny_bind (wpAny_call (codeAny_mono z fun r s' y => ?_))))))
  cases r with
  | error e => exact y
  | ok f =>
    cases f with
    | ret x =>
      obtain ⟨rfl, y⟩ := y
      first | exact wpAny_pure (wpAny_pure y) | (wp_walk; exact y)
    | next => exact y.elim
    | brk => exact y.elim
    | cont => exact y.elim
theorem abw_call (F : ExcBaseFacts B newId initId bmB) (v : Abv bm B) {rest : List Value} {fI : Addr} (cl : h.get? C = some (excClassObj nm q C N bs bm hdct sn sub ab col dd k0 k1 k2 k3 k5 newId))
    (hi : PySem.W.Looks (model P w) h (typeLookup (.ref C) "__init__") (some (.ref fI))) (hb : ∀ self, PySem.W.Looks (model P w) h (bindSpecial (.ref fI) self) (.ref fI, [self])) (few : rest.length ≤ sizeLine)
    (z : codeAny (model P w) (A.under (.builtin "type.__call__" ⟨.ref C :: rest, kws⟩)) (.call (.ref fI) ⟨.ref (h.objs.size + 1) :: rest, kws⟩) (PySem.W.InitBack (h.objs.size + 1) R) ⟨(h.push (PySem.W.kdv_tup rest)).push (HandSPX.excO C h.objs.size), g, d, t, os⟩) :
    codeAny (model P w) A (.call (.ref C) ⟨rest, kws⟩) R ⟨h, g, d, t, os⟩ := by
  have l1 := tc_lookup
  have l2 := tc_bind (.ref C)
  have ty : (⟨h, g, d, t, os⟩ : Shared).TypeIs (.ref C) "type" := ⟨_, cl, rfl⟩
  refine codeAny_of_tree ?_; show wpAny _ _ (callAny (.ref C) _) _ _ _
  repeat (any_goals (first
    | assumption
    | with_reducible refine wpAny_loadPart_at cl ?_
    | wp_step))
  refine ⟨rfl, codeAny_call_builtin_at (Code.quiet_builtin _ (by decide +kernel)) entry_typeCall (wpAny_check_type_call_sub cl (abw_type F v cl hi hb few (codeAny_mono z fun r s' y => ?_)))⟩
  cases r with
  | error e => exact y
  | ok f => cases f <;> exact y
end
end J

set_option autoImplicit false
/-! own exceptions as values -/
namespace J
open PySem PySem.Spec PyProof.Rows L2
variable {K : PySem.W.Frag} {P : Program} {w : World} {X : Cx}
section
variable {mg : Str → Option Value} {base : Heap} {x f qual : Str} {C fI : Addr} {newId B initId : String} {bmB : List Value} {st : Stmt} {N : List Str} {k : Nat} {ve : Expr} {q1 q2 q4 : Pos}
theorem ox_initG (T : OxT K mg x f C fI newId bmB st qual) (SF : StoreFacts B bmB "object.__setattr__" "object") (ht : PySem.W.excTail bmB bmB = true) (S : FnScope N ["self", f] (defScope st)) (hN0 : N[0]? = some ("self" : Str)) (hv0 : Vis (defScope st) "self")
    (hB : defBody st = [.Assign [.Attribute (.Name "self" q1) f q2] ve q4]) (hsw : ∀ (Z : Cx), swapsWith ve (some (.Attribute (.Name "self" q1) f q2)) q4.line Z.env = pure false) {A : Around} {outer : List PySem.Env} {s : Shared} {H : Hp} {xa t0 : Addr} {v : V} {u : Value} {R : Result → Shared → Prop} (QQ : VK) {args : Args}
    (hbd : ∀ (s : Shared) (kV doc pm : Value) (an : Option Addr) (cdv ct : Value), BindsTo s (PySem.W.fnOf "__init__" qual (defArgs st) (defBody st) (defScope st) .none kV doc pm an cdv ct) args [("self", .ref xa), (f, u)])
    (hr : Room (k + 1) A) (e0 : Env0 P w K mg base A outer s H) (hx : s.heap.get? xa = some (HandSPX.excO C t0)) (nx : H xa = none) (nf : xa ∉ frs outer) (rv : RelV v u)
    (hve : ∀ cdv, Room k (A.deeper (envOfC qual (defScope st) s.heap.objs.size fI cdv)) → ∃ te : TE, PE (cxI P w K mg base N qual st fI cdv A outer s H) ve te ∧ te (start N [.ref xa, v]) H QQ)
    (hq : ∀ (s2 : Shared) (H2 : Hp) (v2 : V) (u2 : Value) (h' : Heap) (tk : Nat) (dx : Addr), Un (frs outer) [] H H2 s.heap s2.heap → HOk P w H2 s2.heap → s2.os = s.os → AllBare s2.gens → RelV v2 u2 → QQ v2 H2 → (∀ b o, b ≠ xa → s2.heap.get? b = some o → h'.get? b = some o) →
      s2.heap.get? xa = some (HandSPX.excO C t0) → h'.get? xa = some { cls := .ref C, dict := some dx, data := .fields #[.ref t0, .none, .none, .none, .bool false, .none] } → s2.heap.objs.size ≤ dx → dx ≠ xa → h'.Ns1 dx (fun y => if y = f then some u2 else none) → R (.ok (.ret .none)) { s2 with heap := h', toks := tk }) :
    codeAny (model P w) A (.call (.ref fI) args) R s := by
  obtain ⟨oc, od, kV, doc, pm, an, cdv, ct, osl, lk, hcd, _⟩ := T.fn
  obtain ⟨nm, q, NN, bs, sn, sub, ab, col, dd, k0, k1, k2, k3, k5, hC⟩ := T.cls
  have hcl : PySem.W.clsIn K C = some { name := nm, bases := bs, mro := .ref C :: bmB, ns := NN, qualname := q, hasDict := true, slotNames := sn, subclasses := sub, abstract := ab, collection := col, hasDel := false } := by unfold PySem.W.clsIn; rw [hC] <;> rfl
  have KX : K.In s.heap := e0.mod.kin.keeps fun b o e => (e0.bs b o e).1
  have lim : s.heap.NoLimit := e0.mod.nolimit.keeps fun b o e => (e0.bs b o e).1
  have hkind : ∀ y ∈ (["self", f] : List Str).zip [Value.ref xa, u], (defScope st).names.lookup y.1 = some .local ∨ ((defScope st).names.lookup y.1 = some .cell ∧ ((cellsFrom (s.heap.objs.size + 1) (defScope st).names []).lookup y.1).isSome = true) := fun ⟨n, v⟩ hy => by
    rcases S.par n (List.of_mem_zip hy).1 with q | q
    · exact .inl q
    · exact .inr ⟨q, PySem.W.cellsFrom_some _ _ _ (.inl q)⟩
  refine codeAny_call_function hr.depth (KX _ _ lk) rfl S.co S.gen rfl (PySem.W.codeRec_of KX hcd) (hbd s kV doc pm an cdv ct _ _ _ _ ?_)
  refine wpAny_newFunctionEnv_cells S.kind hkind fun env he s1 xc => ?_
  subst he
  refine ⟨lim.keeps xc.toInCall.keep, codeAny_func ?_⟩
  have I : Inv (cxI P w K mg base N qual st fI cdv A outer s H) [] (start N [.ref xa, v]) H s1 := inv_start (ps := ["self", f]) (us := [.ref xa, u]) S hr.hd e0 rfl (.cons rfl (.cons rv .nil)) xc
  obtain ⟨te, pe, qe⟩ := hve cdv (hr.deeper _)
  rw [hB]
  refine wpAny_execs_cons (plainObj_wpAny_Assign_Attribute (wpAny_mono (pe.run [] s1 (start N [.ref xa, v]) H QQ I qe) (fun u2 s2 hu => ?_) fun e s' he => ?_) (hsw (cxI P w K mg base N qual st fI cdv A outer s H)))
  · obtain ⟨v2, H2, I2, r2, qq⟩ := hu
    refine wpAny_mono ((pe_var (X := cxI P w K mg base N qual st fI cdv A outer s H) (pos := q1) (i := 0) (x := "self") hN0 hv0 (by decide) (by decide)).run [] s2 _ H2 (fun v H1 => v = .ref xa ∧ H1 = H2) I2 ⟨.ref xa, by unfold L2.start; rfl, rfl, rfl⟩) (fun u3 s3 hu3 => ?_) fun e s' he => ?_
    · obtain ⟨v3, H3, I3, r3, ev, eH⟩ := hu3
      subst ev
      rw [eH] at I3
      obtain rfl : u3 = Value.ref xa := r3
      have hx3 := I3.base.keep xa _ hx nx nf (fun z => nomatch (show xa ∈ ([] : List Addr) from z))
      have X3 : K.In s3.heap := I3.kIn
      obtain ⟨hp, g, d, t, os⟩ := s3
      refine PySem.W.set_plain X3 (ox := HandSPX.excO C t0) (od := none) ⟨hx3, rfl, rfl, trivial⟩ T.sa ?_
      refine PySem.Xst.put_first SF X3 hx3 hcl rfl ht rfl T.noN (fun h₃ tk₃ dx k₃ dn dne hx₃ hn₃ => ?_)
      exact wpAny_execs_nil (hq _ H2 v2 u2 h₃ tk₃ dx I3.base I3.hok I3.os I3.bare r2 qq k₃ hx3 hx₃ dn dne hn₃)
    · exact wpAny_mono he (fun _ _ z => False.elim z) (fun _ _ z => False.elim z)
  · exact wpAny_mono he (fun _ _ z => False.elim z) (fun _ _ z => False.elim z)
end
section
variable {x f qual : Str} {C fI : Addr} {newId B B2 initId : String} {bmB bmF : List Value} {st : Stmt} {N : List Str} {k j : Nat} {ve : Expr} {q1 q2 q4 : Pos} {fe : FE}
open Classical in
/-- the call of the class, whichever way the argument is given: the new exception, tracked -/
theorem ox_made {pins : List (Addr × Obj)} {σ : L2.St} {H1 : Hp} {s1 : Shared} {v : V} {u : Value} {rest : List Value} {kws : List (Str × Value)} {Q : VK} {E : Value → Shared → Prop} (I1 : Inv X pins σ H1 s1) (T : OxT X.K X.mg x f C fI newId bmB st qual) (F : ExcBaseFacts B newId initId bmF) (v0 : Abv bmB B) (SF : StoreFacts B2 bmB "object.__setattr__" "object") (ht : PySem.W.excTail bmB bmB = true) (S : FnScope N ["self", f] (defScope st)) (hN0 : N[0]? = some ("self" : Str)) (hv0 : Vis (defScope st) "self")
    (hB : defBody st = [.Assign [.Attribute (.Name "self" q1) f q2] ve q4]) (hsw : ∀ (Z : Cx), swapsWith ve (some (.Attribute (.Name "self" q1) f q2)) q4.line Z.env = pure false) (hr : Room k X.A) (hj : j + 2 ≤ k)
    (hve : ∀ cdv A outer s H, Room j (A.deeper (envOfC qual (defScope st) s.heap.objs.size fI cdv)) → JE (cxI X.prog X.w X.K X.mg X.base N qual st fI cdv A outer s H) ve fe)
    (hbd : ∀ (xa : Addr) (s : Shared) (kV doc pm : Value) (an : Option Addr) (cdv ct : Value), BindsTo s (PySem.W.fnOf "__init__" qual (defArgs st) (defBody st) (defScope st) .none kV doc pm an cdv ct) ⟨.ref xa :: rest, kws⟩ [("self", .ref xa), (f, u)])
    (few : rest.length ≤ sizeLine) (rv : RelV v u)
    (q1 : ∀ (xa : Addr) (cdv : Value) (A : Around) (outer : List PySem.Env) (s : Shared) (hrm : Room j (A.deeper (envOfC qual (defScope st) s.heap.objs.size fI cdv))), Classical.choose (hve cdv A outer s H1 hrm) (start N [.ref xa, v]) H1 (fun v2 H2 => ∀ dx, H2 xa = none → H2 dx = none → dx ≠ xa → Q (.ref xa) (upd (upd H2 dx (.xd [(f, v2)])) xa (exo xa C (some dx))))) :
    codeAny (model X.prog X.w) X.A (.call (.ref C) ⟨rest, kws⟩) (fun r s' => match r with | .ok (.ret v) => EP X pins σ Q v s' | .ok _ => False | .error e => E e s') s1 := by
  obtain ⟨nm, q, NN, bs, sn, sub, ab, col, dd, k0, k1, k2, k3, k5, hC⟩ := T.cls
  obtain ⟨hp, g, dr, tk, os⟩ := s1
  have kk : ∀ b o, hp.get? b = some o → ((hp.push (PySem.W.kdv_tup rest)).push (HandSPX.excO C hp.objs.size)).get? b = some o := fun b o e => Heap.get?_push_of_some _ (Heap.get?_push_of_some _ e)
  have hget : ((hp.push (PySem.W.kdv_tup rest)).push (HandSPX.excO C hp.objs.size)).get? (hp.objs.size + 1) = some (HandSPX.excO C hp.objs.size) := by heap_get
  have I2 : Inv X pins σ H1 ⟨(hp.push (PySem.W.kdv_tup rest)).push (HandSPX.excO C hp.objs.size), g, dr, tk, os⟩ := I1.kept (t' := tk) kk
  have hsz : hp.objs.size ≤ hp.objs.size + 1 := Nat.le_succ _
  have na : H1 (hp.objs.size + 1) = none := I1.hok.fresh hsz
  have nfx : hp.objs.size + 1 ∉ frs X.stack := fun z => by
    rcases List.mem_cons.mp (I1.stkSub _ z) with e | e
    · have h1 := I1.lt
      rw [← e] at h1
      exact Nat.lt_irrefl _ (Nat.lt_of_lt_of_le h1 hsz)
    · exact I1.nofs hsz e
  have hr2 := hr.mono hj
  refine abw_call F v0 (I1.kIn _ _ hC) (PySem.W.looks_findIn I1.kIn T.iC) (fun self => PySem.W.bind_fn I1.kIn self T.tC) few
    (ox_initG (k := j) T SF ht S hN0 hv0 hB hsw (fun v2 H2 => ∀ dx, H2 (hp.objs.size + 1) = none → H2 dx = none → dx ≠ hp.objs.size + 1 → Q (.ref (hp.objs.size + 1)) (upd (upd H2 dx (.xd [(f, v2)])) (hp.objs.size + 1) (exo (hp.objs.size + 1) C (some dx)))) (hbd _) (hr2.make C rest kws) (I2.env0.make C rest kws) hget na nfx rv
      (fun cdv hrm => ⟨_, (Classical.choose_spec (hve cdv _ X.stack _ H1 hrm)).1, q1 (hp.objs.size + 1) cdv _ X.stack _ hrm⟩) fun s2 H2 v2 u2 h' tk2 dx un hok ho hb r2 qq k₃ hx2 hx₃ dn dne hn₃ => ⟨rfl, ?_⟩)
  obtain ⟨hp2, g2, d2, t2, os2⟩ := s2
  have nH2 : H2 (hp.objs.size + 1) = none := un.free _ _ hget na (by simp)
  have nD : H2 dx = none := hok.fresh dn
  have nha : ∀ {b : Addr} {o : Obj}, hp.get? b = some o → b ≠ hp.objs.size + 1 := fun {b o} z => Nat.ne_of_lt (Nat.lt_of_lt_of_le (Heap.lt_size z) hsz)
  have ndx : ∀ {b : Addr} {o : Obj}, hp2.get? b = some o → b ≠ dx := fun {b o} z => Nat.ne_of_lt (Nat.lt_of_lt_of_le (Heap.lt_size z) dn)
  have at3 : ∀ {b : Addr}, H2 b ≠ none → upd (upd H2 dx (.xd [(f, v2)])) (hp.objs.size + 1) (exo (hp.objs.size + 1) C (some dx)) b = H2 b := fun {b} z => by
    rw [upd_ne (fun e => z (by rw [e]; exact nH2)), upd_ne (fun e => z (by rw [e]; exact nD))]
  have U : Un (frs X.stack) [] H1 (upd (upd H2 dx (.xd [(f, v2)])) (hp.objs.size + 1) (exo (hp.objs.size + 1) C (some dx))) hp h' := {
    keep := fun b o z n hf hx => k₃ b o (nha z) (un.keep b o (kk b o z) n hf hx)
    slot := fun b o z n hf hx => by
      obtain ⟨sl, y⟩ := un.slot b o (kk b o z) n hf hx
      exact ⟨sl, k₃ b _ (nha z) y⟩
    free := fun b o z n hx => by
      obtain ⟨o', y⟩ := un.there b o (kk b o z) hx
      rw [upd_ne (nha z), upd_ne (ndx y)]
      exact un.free b o (kk b o z) n hx
    there := fun b o z hx => by
      obtain ⟨o', y⟩ := un.there b o (kk b o z) hx
      exact ⟨o', k₃ b o' (nha z) y⟩
    tups := fun b xs z => by
      have y := un.tups b xs z
      rw [at3 (by rw [y]; simp)]
      exact y
    frzs := fun b o u z => by
      have y := un.frzs b o u z
      rw [at3 (by rw [y]; simp)]
      exact y
    tbls := fun b ps z => by
      obtain ⟨m, y⟩ := un.tbls b ps z
      exact ⟨m, by rw [at3 (by rw [y]; simp)]; exact y⟩ }
  have hok3 : HOk X.prog X.w (upd (upd H2 dx (.xd [(f, v2)])) (hp.objs.size + 1) (exo (hp.objs.size + 1) C (some dx))) h' := fun b o z => by
    by_cases hba : b = hp.objs.size + 1
    · subst hba
      rw [upd_same] at z
      cases z
      exact exo_ok hx₃
    · rw [upd_ne hba] at z
      by_cases hb : b = dx
      · subst hb
        rw [upd_same] at z
        cases z
        exact ⟨_, hn₃, fun g => relO_one r2 g⟩
      · rw [upd_ne hb] at z
        exact (hok b o z).stay (fun c u hc y => by
            refine k₃ c u (fun e => ?_) y
            rcases hc with hc | hc
            · exact hba (hc.symm.trans e)
            · rw [e, nH2] at hc
              cases hc)
          (fun c hc => by rw [at3 (by rw [hc]; simp)]; exact hc) fun c xs hc => by rw [at3 (by rw [hc]; simp)]; exact hc
  have J : Inv X pins σ (upd (upd H2 dx (.xd [(f, v2)])) (hp.objs.size + 1) (exo (hp.objs.size + 1) C (some dx))) ⟨h', g2, d2, tk2, os2⟩ := I1.call' (ch := []) ho U hok3 hb fun b z => absurd z (by simp)
  exact ⟨.ref (hp.objs.size + 1), _, J, rfl, qq dx nH2 nD dne⟩
end
end J

set_option autoImplicit false
/-! C(e), C(f=e), C() as values; e.f and isinstance of such values -/
namespace J
open PySem PySem.Spec PyProof.Rows L2
variable {K : PySem.W.Frag} {P : Program} {w : World} {X : Cx}
/-- a new exception bears a number -/
theorem HR.madeX {H : Hp} {μ : Mp} {S : Sto} {x f : Str} {C xa dx : Addr} {v : V} {d : D} (hr : HR P w K H μ S) (hC : ClsAt K x C) (rv : Rv K H μ v d) (nx : H xa = none) (nd : H dx = none) (ne : dx ≠ xa) :
    ∃ μ', Later μ H μ' (upd (upd H dx (.xd [(f, v)])) xa (exo xa C (some dx))) ∧ HR P w K (upd (upd H dx (.xd [(f, v)])) xa (exo xa C (some dx))) μ' (S ++ [.exc x [(f, d)]]) ∧ Rv K (upd (upd H dx (.xd [(f, v)])) xa (exo xa C (some dx))) μ' (.ref xa) (.obj S.length) := by
  obtain ⟨l1, hr1⟩ := hr.new (o := .xd [(f, v)]) nd
  have fr := hr.free nd
  have np1 : upd H dx (.xd [(f, v)]) xa = none := by rw [upd_ne (Ne.symm ne)]; exact nx
  obtain ⟨μ2, l2, hr2, e2⟩ := hr1.push (o := .exc x [(f, d)]) (u := exo xa C (some dx)) np1 fun H' μ' l e => by
    obtain ⟨n1, n2, h1⟩ := l.keep dx _ upd_same fr.1
    exact ⟨C, some dx, hC, e, .inr ⟨dx, _, rfl, h1, n1, n2 fr.2, .cons (rv.later (l1.trans l)) .nil⟩⟩
  exact ⟨μ2, l1.trans l2, hr2, .obj e2⟩
theorem HR.madeX0 {H : Hp} {μ : Mp} {S : Sto} {x : Str} {C xa : Addr} (hr : HR P w K H μ S) (hC : ClsAt K x C) (nx : H xa = none) :
    ∃ μ', Later μ H μ' (upd H xa (exo xa C none)) ∧ HR P w K (upd H xa (exo xa C none)) μ' (S ++ [.exc x []]) ∧ Rv K (upd H xa (exo xa C none)) μ' (.ref xa) (.obj S.length) := by
  obtain ⟨μ2, l2, hr2, e2⟩ := hr.push (o := .exc x []) (u := exo xa C none) nx fun H' μ' l e => ⟨C, none, hC, e, .inl ⟨rfl, rfl⟩⟩
  exact ⟨μ2, l2, hr2, .obj e2⟩
def fOxK (n : Nat) (gk : FA) (fe : FE) : FE := fun env S => match gk env S with
  | some ([d], S1) => fe (none :: some d :: List.replicate (n - 2) none) S1
  | _ => none
def fExc (x f : Str) (g : FE) : FE := fun env S => match g env S with
  | some (d, S1) => some (.obj S1.length, S1 ++ [.exc x [(f, d)]])
  | none => none
section
variable {x f qual : Str} {C fI : Addr} {newId B B2 initId : String} {bmB bmF : List Value} {st : Stmt} {N : List Str} {k j : Nat} {a ve : Expr} {p pos q1 q2 q4 : Pos} {fe fa : FE}
open Classical in
theorem je_exc (T : OxT X.K X.mg x f C fI newId bmB st qual) (hC : ClsAt X.K x C) (F : ExcBaseFacts B newId initId bmF) (v0 : Abv bmB B) (SF : StoreFacts B2 bmB "object.__setattr__" "object") (ht : PySem.W.excTail bmB bmB = true) (S : FnScope N ["self", f] (defScope st)) (hN0 : N[0]? = some ("self" : Str)) (hv0 : Vis (defScope st) "self") (hl : 2 ≤ N.length)
    (hB : defBody st = [.Assign [.Attribute (.Name "self" q1) f q2] ve q4]) (hsw : ∀ (Z : Cx), swapsWith ve (some (.Attribute (.Name "self" q1) f q2)) q4.line Z.env = pure false) (hr : Room k X.A) (hj : j + 2 ≤ k)
    (hve : ∀ cdv A outer s H, Room j (A.deeper (envOfC qual (defScope st) s.heap.objs.size fI cdv)) → JE (cxI X.prog X.w X.K X.mg X.base N qual st fI cdv A outer s H) ve fe)
    (hbd : ∀ (xa : Addr) (u : Value) (s : Shared) (kV doc pm : Value) (an : Option Addr) (cdv ct : Value), BindsTo s (PySem.W.fnOf "__init__" qual (defArgs st) (defBody st) (defScope st) .none kV doc pm an cdv ct) ⟨[.ref xa, u], []⟩ [("self", .ref xa), (f, u)])
    (ha : JE X a fa) (hg : Gl X x)
    (hdb : (x == ("__debug__" : Str)) = false := by decide) (he : starEach (a :: []) X.env = (false, eval a X.env) :: starEach [] X.env := by rfl) (hpl : (backTo pos (starEach [] X.env)).any (·.1) = false := by rfl) :
    JE X (.Call (.Name x p) [a] [] pos) (fExc x f (fOx N.length fa fe)) := by
  obtain ⟨ta, pa, qa⟩ := ja_cons ha ja_nil he
  refine ⟨fun σ H Q => ta σ H fun vs H1 => ∃ v, vs = [v] ∧ ∀ (xa : Addr) (cdv : Value) (A : Around) (outer : List PySem.Env) (s : Shared) (hrm : Room j (A.deeper (envOfC qual (defScope st) s.heap.objs.size fI cdv))), Classical.choose (hve cdv A outer s H1 hrm) (start N [.ref xa, v]) H1 (fun v2 H2 => ∀ dx, H2 xa = none → H2 dx = none → dx ≠ xa → Q (.ref xa) (upd (upd H2 dx (.xd [(f, v2)])) xa (exo xa C (some dx)))),
    ⟨fun pins s σ H Q I h => ?_⟩, fun σ H μ env S d S' Q hR er hf kk => ?_⟩
  · refine wpAny_Call_Name_kw (ld_glob I hg T.gC ?_ hdb)
    refine PySem.W.callWith_K (h₀ := X.base) I.ok.mod.kin T.kC (thn (pa.run pos pins s σ H _ I h) fun us s1 ⟨vs, H1, I1, r1, v, ev, q1⟩ => ⟨I1.kIn, ?_⟩) he hpl
    subst ev
    cases r1 with
    | @cons _ v' _ us' rv rn =>
      cases rn
      show wpAny _ _ (call (.ref C) [v']) _ _ _
      refine wpAny_call (codeAny_mono (ox_made (E := fun _ _ => False) (Q := Q) I1 T F v0 SF ht S hN0 hv0 hB hsw hr hj hve (fun xa s kV doc pm an cdv ct => hbd xa v' s kV doc pm an cdv ct) (by show 1 ≤ sizeLine; rw [sizeLine_eq]; omega) rv q1) fun r s' hq => ?_)
      cases r with
      | error e => exact hq.elim
      | ok fl => cases fl <;> first | exact hq | exact hq.elim
  · unfold fExc at hf
    split at hf
    · rename_i d0 S0 e0
      cases hf
      unfold fOx at e0
      split at e0
      · rename_i d1 S1 e1
        refine qa σ H μ env S [d1] S1 _ hR er (by unfold faCons; rw [e1]; rfl) fun vs H1 μ1 l1 hR1 r1 => ?_
        cases r1 with
        | @cons v1 _ _ _ r1 r2 =>
          cases r2
          refine ⟨v1, rfl, fun xa cdv A outer s hrm => ?_⟩
          refine (Classical.choose_spec (hve cdv A outer s H1 hrm)).2 _ H1 μ1 _ S1 d0 S0 _ hR1 (er_two r1 hl) e0 fun v2 H2 μ2 l2 hR2 r2 dx nx nd ne => ?_
          obtain ⟨μ3, l3, hR3, r3⟩ := hR2.madeX (f := f) hC r2 nx nd ne
          exact kk _ _ μ3 (l1.trans (l2.trans l3)) hR3 r3
      · cases e0
    · cases hf
open Classical in
theorem je_excK {kws : List Keyword} {gk : FA} (T : OxT X.K X.mg x f C fI newId bmB st qual) (hC : ClsAt X.K x C) (F : ExcBaseFacts B newId initId bmF) (v0 : Abv bmB B) (SF : StoreFacts B2 bmB "object.__setattr__" "object") (ht : PySem.W.excTail bmB bmB = true) (S : FnScope N ["self", f] (defScope st)) (hN0 : N[0]? = some ("self" : Str)) (hv0 : Vis (defScope st) "self") (hl : 2 ≤ N.length)
    (hB : defBody st = [.Assign [.Attribute (.Name "self" q1) f q2] ve q4]) (hsw : ∀ (Z : Cx), swapsWith ve (some (.Attribute (.Name "self" q1) f q2)) q4.line Z.env = pure false) (hr : Room k X.A) (hj : j + 2 ≤ k)
    (hve : ∀ cdv A outer s H, Room j (A.deeper (envOfC qual (defScope st) s.heap.objs.size fI cdv)) → JE (cxI X.prog X.w X.K X.mg X.base N qual st fI cdv A outer s H) ve fe)
    (hbd : ∀ (xa : Addr) (u : Value) (s : Shared) (kV doc pm : Value) (an : Option Addr) (cdv ct : Value), BindsTo s (PySem.W.fnOf "__init__" qual (defArgs st) (defBody st) (defScope st) .none kV doc pm an cdv ct) ⟨[.ref xa], [(f, u)]⟩ [("self", .ref xa), (f, u)])
    (hkw : JK X kws gk) (hg : Gl X x)
    (hall : (backToKw pos (keywordEach kws X.env)).all (·.1.isSome) = true := by rfl) (hks : (backToKw pos (keywordEach kws X.env)).filterMap (·.1) = [f] := by rfl) (hdb : (x == ("__debug__" : Str)) = false := by decide)
    (hpl : ((backTo pos (starEach [] X.env)).any (·.1) || (backToKw pos (keywordEach kws X.env)).any (·.1.isNone)) = false := by rfl) :
    JE X (.Call (.Name x p) [] kws pos) (fExc x f (fOxK N.length gk fe)) := by
  obtain ⟨ta, pa, qa⟩ := hkw
  refine ⟨fun σ H Q => ta σ H fun vs H1 => ∃ v, vs = [v] ∧ ∀ (xa : Addr) (cdv : Value) (A : Around) (outer : List PySem.Env) (s : Shared) (hrm : Room j (A.deeper (envOfC qual (defScope st) s.heap.objs.size fI cdv))), Classical.choose (hve cdv A outer s H1 hrm) (start N [.ref xa, v]) H1 (fun v2 H2 => ∀ dx, H2 xa = none → H2 dx = none → dx ≠ xa → Q (.ref xa) (upd (upd H2 dx (.xd [(f, v2)])) xa (exo xa C (some dx)))),
    ⟨fun pins s σ H Q I h => ?_⟩, fun σ H μ env S d S' Q hR er hf kk => ?_⟩
  · refine wpAny_Call_Name_kw (ld_glob I hg T.gC ?_ hdb)
    refine PySem.W.callWith_KW0 (h₀ := X.base) I.ok.mod.kin T.kC hall ?_ hpl
    refine thn (pa.run pos pins s σ H _ I h) fun ws s1 ⟨vs, H1, I1, r1, v, ev, q1⟩ => ⟨I1.kIn, ?_⟩
    rw [hks]
    subst ev
    cases r1 with
    | @cons _ v' _ us' rv rn =>
      cases rn
      refine wpAny_call (codeAny_mono (ox_made (E := fun _ _ => False) (Q := Q) (rest := []) (kws := [(f, v')]) I1 T F v0 SF ht S hN0 hv0 hB hsw hr hj hve (fun xa s kV doc pm an cdv ct => hbd xa v' s kV doc pm an cdv ct) (by show 0 ≤ sizeLine; omega) rv q1) fun r s' hq => ?_)
      cases r with
      | error e => exact hq.elim
      | ok fl => cases fl <;> first | exact hq | exact hq.elim
  · unfold fExc at hf
    split at hf
    · rename_i d0 S0 e0
      cases hf
      unfold fOxK at e0
      split at e0
      · rename_i d1 S1 e1
        refine qa σ H μ env S [d1] S1 _ hR er e1 fun vs H1 μ1 l1 hR1 r1 => ?_
        cases r1 with
        | @cons v1 _ _ _ r1 r2 =>
          cases r2
          refine ⟨v1, rfl, fun xa cdv A outer s hrm => ?_⟩
          refine (Classical.choose_spec (hve cdv A outer s H1 hrm)).2 _ H1 μ1 _ S1 d0 S0 _ hR1 (er_two r1 hl) e0 fun v2 H2 μ2 l2 hR2 r2 dx nx nd ne => ?_
          obtain ⟨μ3, l3, hR3, r3⟩ := hR2.madeX (f := f) hC r2 nx nd ne
          exact kk _ _ μ3 (l1.trans (l2.trans l3)) hR3 r3
      · cases e0
    · cases hf
def fExc0 (x : Str) : FE := fun _ S => some (.obj S.length, S ++ [.exc x []])
theorem je_exc0 (F : ExcBaseFacts B newId initId bmB) (T : Ox0 X.K X.mg x C newId bmB) (hC : ClsAt X.K x C) (hg : Gl X x) (hdb : (x == ("__debug__" : Str)) = false := by decide) : JE X (.Call (.Name x p) [] [] pos) (fExc0 x) := by
  refine ⟨fun σ H Q => ∀ a, H a = none → Q (.ref a) (upd H a (exo a C none)), ⟨fun pins s σ H Q I h => ?_⟩, fun σ H μ env S d S' Q hR er hf kk => ?_⟩
  · refine wpAny_Call_Name_kw (ld_glob I hg T.gC ?_ hdb)
    refine PySem.W.callWith_K0 (first := []) I.kIn T.kC ?_
    show wpAny _ _ (call (.ref C) []) _ _ _
    obtain ⟨bm, N, nm, qn, bs, hdct, sn, sub, ab, col, dd, k0, k1, k2, k3, k5, mN, hC, hN, hni, Tl⟩ := exc_obj I.kIn T.q
    refine wpAny_call_exc_subT F Tl hC hN hni (fun h' a hm => ?_) (by show 0 ≤ sizeLine; omega)
    have hn : H a = none := I.hok.gone hm.new
    obtain ⟨t, ht, _, _⟩ := hm.there
    exact ⟨.ref a, upd H a (exo a C none), I.laidN hm.keeps hm.new hn (exo_ok ht), rfl, h a hn⟩
  · cases hf
    intro a na
    obtain ⟨μ3, l3, hR3, r3⟩ := hR.madeX0 hC na
    exact kk _ _ μ3 l3 hR3 r3
end
end J

set_option autoImplicit false
/-! what is asked of an exception that is a value: isinstance, its field -/
namespace J
open PySem PySem.Spec PyProof.Rows L2
variable {K : PySem.W.Frag} {P : Program} {w : World} {X : Cx}
/-- isinstance(e, c), e a tracked exception -/
def rIsV (K : PySem.W.Frag) : List V → Hp → VK → Prop := fun xs H Q => ∃ (a C : Addr) (d : Option Addr) (c : V) (cv : Value) (b : Bool), xs = [.ref a, c] ∧ H a = some (exo a C d) ∧ (d = none ∨ ∃ dd gs, d = some dd ∧ H dd = some (.xd gs)) ∧ ExcC K C ∧ (∀ u, RelV c u → u = cv) ∧ PySem.W.kitOne K (.ref C) cv = some b ∧ Q (.bl b) H
theorem call_isV : CallR X (.builtin "isinstance") (rIsV X.K) := by
  intro pins s σ H xs us Q I r h
  obtain ⟨a, D, d, c, cv, b, rfl, ha, hd, C, hcv, e, q⟩ := h
  obtain ⟨u1, us1, rfl, rx, r1⟩ : ∃ u1 us1, us = u1 :: us1 ∧ RelV (.ref a) u1 ∧ Vals [c] us1 := by
    cases r with
    | cons h q => exact ⟨_, _, rfl, h, q⟩
  obtain ⟨u2, rfl, rt⟩ := r1.one
  obtain rfl : u1 = Value.ref a := rx
  have ec := hcv _ rt
  subst ec
  obtain ⟨t1, ho⟩ := exo_at I.hok ha
  have hcls : (PySem.W.clsIn X.K D).isSome = true := by
    have h := C.hd
    unfold PySem.W.hasDictIn at h
    cases q : PySem.W.clsIn X.K D with
    | none => rw [q] at h; cases h
    | some _ => rfl
  have J : ∃ od, PySem.W.InstAt s.heap a ({ cls := .ref D, dict := d, data := .fields #[.ref t1, .none, .none, .none, .bool false, .none] } : Obj) D od := by
    rcases hd with rfl | ⟨dd, gs, rfl, hx⟩
    · exact ⟨none, ho, rfl, rfl, trivial⟩
    · obtain ⟨mA, ⟨o, es, ep, e1, _⟩, _⟩ := I.hok dd _ hx
      exact ⟨some o, ho, rfl, rfl, e1⟩
  obtain ⟨od, J⟩ := J
  exact PySem.W.kia_one (PySem.W.kitx_exc hcls C.hg C.hk C.hs C.ha C.hn C.ht C.hm) I.kIn J e (fun z => nomatch z) fun tk => ⟨.bl b, H, I.kept (t' := tk) fun _ _ z => z, rfl, q⟩
def fIsV (t : Str → Option Bool) (fe : FE) : FE := fun env S => match fe env S with
  | some (.obj k, S1) => match S1[k]? with
    | some (.exc x _) => match t x with
      | some b => some (.bl b, S1)
      | none => none
    | _ => none
  | _ => none
theorem je_isV {t : Str → Option Bool} {e : Expr} {fe : FE} {c : Str} {v : V} {cv : Value} {p p2 pos : Pos} (hg : Gl X "isinstance") (hm : X.mg "isinstance" = none) (he : JE X e fe) (pc : PE X (.Name c p2) (tC v)) (rc : ∀ u, RelV v u → u = cv)
    (hq : ∀ x C b, t x = some b → ClsAt X.K x C → ExcC X.K C ∧ PySem.W.kitOne X.K (.ref C) cv = some b) (hs : starEach (e :: [.Name c p2]) X.env = (false, eval e X.env) :: starEach [.Name c p2] X.env := by rfl) :
    JE X (.Call (.Name "isinstance" p) [e, .Name c p2] [] pos) (fIsV t fe) := by
  obtain ⟨te, pe, qe⟩ := he
  refine je_of (pe_callB call_isV hg hm (by decide +kernel) (pa_cons pe (pa_cons pc pa_nil rfl) hs) (he := hs)) fun σ H μ env S dv S' Q hr er hf k => ?_
  unfold fIsV at hf
  split at hf
  · rename_i k0 S1 e1
    split at hf
    · rename_i x fs e2
      split at hf
      · rename_i b e3
        cases hf
        refine qe σ H μ env S _ _ _ hr er e1 fun v1 H1 μ1 l1 hr1 r1 => ?_
        obtain ⟨a, rfl, hk, C, d, hC, ha, hd⟩ := hr1.at r1 e2
        obtain ⟨hc, hkit⟩ := hq x C b e3 hC
        refine ⟨a, C, d, v, cv, b, rfl, ha, ?_, hc, rc, hkit, k _ H1 μ1 l1 hr1 (.bl b)⟩
        rcases hd with ⟨z, _⟩ | ⟨dd, gs, z1, z2, _⟩
        · exact .inl z
        · exact .inr ⟨dd, gs, z1, z2⟩
      · cases hf
    · cases hf
  · cases hf
def fFldV (xs : List Str) (f : Str) (fe : FE) : FE := fun env S => match fe env S with
  | some (.obj k, S1) => match S1[k]? with
    | some (.exc x [(y, d)]) => if x ∈ xs ∧ y = f then some (d, S1) else none
    | _ => none
  | _ => none
theorem je_fldV {xs : List Str} {f : Str} {e : Expr} {fe : FE} {pos : Pos} (he : JE X e fe) (hq : ∀ x ∈ xs, ∀ C, ClsAt X.K x C → XfC X.K C ∧ PySem.W.findIn X.K (.ref C) f = some none) (hb : attributeBase e f X.env (eval e X.env) = eval e X.env := by rfl) :
    JE X (.Attribute e f pos) (fFldV xs f fe) := by
  obtain ⟨te, pe, qe⟩ := he
  refine ⟨fun σ H Q => te σ H fun x H1 => ∃ (a C dd : Addr) (v : V), x = .ref a ∧ H1 a = some (exo a C (some dd)) ∧ H1 dd = some (.xd [(f, v)]) ∧ XfC X.K C ∧ PySem.W.findIn X.K (.ref C) f = some none ∧ Q v H1,
    ⟨fun pins s σ H Q I h => ?_⟩, fun σ H μ env S dv S' Q hr er hf k => ?_⟩
  · refine attr_of hb (thn (pe.run pins s σ H _ I h) fun u s1 hh => ?_)
    obtain ⟨x, H1, I1, rx, a, C, dd, v, ex, ha, hd, T, hno, q⟩ := hh
    subst ex
    obtain rfl : u = Value.ref a := rx
    obtain ⟨t1, ho⟩ := exo_at I1.hok ha
    have hx : ObjOk X.prog X.w H1 s1.heap dd (.xd [(f, v)]) := I1.hok dd _ hd
    obtain ⟨mA, hns, hr⟩ := hx
    obtain ⟨od, ho2, hl⟩ := lookIn_ns hns
    have l : List.lookup f [(f, v)] = some v := by simp [List.lookup]
    obtain ⟨u, hu, ru⟩ := RelO.some_of (v := v) (o := mA f) (by rw [← l]; exact hr f)
    have J : PySem.W.InstAt s1.heap a ({ cls := .ref C, dict := some dd, data := .fields #[.ref t1, .none, .none, .none, .bool false, .none] } : Obj) C (some od) := ⟨ho, rfl, rfl, ho2⟩
    exact HandSPX.exc_get I1.kIn J T.ga T.gg T.exC (PySem.W.findObj_own T.hdC hno rfl (by rw [hl, hu])) (handed_of ru) ⟨v, H1, I1.tok _, ru, q⟩
  · unfold fFldV at hf
    split at hf
    · rename_i k0 S1 e1
      split at hf
      · rename_i x y d e2
        split at hf
        · rename_i hc
          cases hf
          obtain ⟨hx, rfl⟩ := hc
          refine qe σ H μ env S _ _ _ hr er e1 fun v1 H1 μ1 l1 hr1 r1 => ?_
          obtain ⟨a, rfl, hk, C, dd0, hC, ha, hd⟩ := hr1.at r1 e2
          obtain ⟨hT, hno⟩ := hq x hx C hC
          rcases hd with ⟨_, z⟩ | ⟨dd, gs, rfl, z2, z3, z4, z5⟩
          · cases z
          · cases z5 with
            | cons rv rest =>
              cases rest
              exact ⟨a, C, dd, _, rfl, ha, z2, hT, hno, k _ H1 μ1 l1 hr1 rv⟩
        · cases hf
      · cases hf
    · cases hf
theorem abv_ValueError : Abv [.type "ValueError", .type "Exception", .type "BaseException", .type "object"] "ValueError" := ⟨by decide +kernel, by decide +kernel, by decide +kernel⟩
theorem abv_IndexError : Abv [.type "IndexError", .type "LookupError", .type "Exception", .type "BaseException", .type "object"] "IndexError" := ⟨by decide +kernel, by decide +kernel, by decide +kernel⟩
theorem abv_LookupError : Abv [.type "LookupError", .type "Exception", .type "BaseException", .type "object"] "LookupError" := ⟨by decide +kernel, by decide +kernel, by decide +kernel⟩
theorem abv_RuntimeError : Abv [.type "RuntimeError", .type "Exception", .type "BaseException", .type "object"] "RuntimeError" := ⟨by decide +kernel, by decide +kernel, by decide +kernel⟩
end J

set_option autoImplicit false
namespace J
open PySem L2
def row_LookupError : Str → Option Bool := fun x => List.lookup x [("NoBase", false), ("NoText", false), ("NoRows", false), ("NoStand", false), ("NoName", false), ("NoNumber", false), ("NoHistory", false), ("NoCommand", false), ("NoPart", true), ("NoRun", true), ("NoBranch", true), ("NoCell", true), ("NoDepth", true), ("NoAnswer", true), ("NotAsked", false), ("Over", false)]
def row_RuntimeError : Str → Option Bool := fun x => List.lookup x [("NoBase", false), ("NoText", false), ("NoRows", false), ("NoStand", false), ("NoName", false), ("NoNumber", false), ("NoHistory", false), ("NoCommand", false), ("NoPart", false), ("NoRun", false), ("NoBranch", false), ("NoCell", false), ("NoDepth", false), ("NoAnswer", false), ("NotAsked", true), ("Over", true)]
def row_ValueError : Str → Option Bool := fun x => List.lookup x [("NoBase", true), ("NoText", true), ("NoRows", true), ("NoStand", true), ("NoName", true), ("NoNumber", true), ("NoHistory", true), ("NoCommand", true), ("NoPart", false), ("NoRun", false), ("NoBranch", false), ("NoCell", false), ("NoDepth", false), ("NoAnswer", false), ("NotAsked", false), ("Over", false)]
def row_KeyError : Str → Option Bool := fun x => List.lookup x [("NoBase", false), ("NoText", false), ("NoRows", false), ("NoStand", false), ("NoName", false), ("NoNumber", false), ("NoHistory", false), ("NoCommand", false), ("NoPart", true), ("NoRun", true), ("NoBranch", false), ("NoCell", false), ("NoDepth", false), ("NoAnswer", false), ("NotAsked", false), ("Over", false)]
def row_IndexError : Str → Option Bool := fun x => List.lookup x [("NoBase", false), ("NoText", false), ("NoRows", false), ("NoStand", false), ("NoName", false), ("NoNumber", false), ("NoHistory", false), ("NoCommand", false), ("NoPart", false), ("NoRun", false), ("NoBranch", true), ("NoCell", true), ("NoDepth", true), ("NoAnswer", false), ("NotAsked", false), ("Over", false)]
def row_NoAnswer : Str → Option Bool := fun x => List.lookup x [("NoBase", false), ("NoText", false), ("NoRows", false), ("NoStand", false), ("NoName", false), ("NoNumber", false), ("NoHistory", false), ("NoCommand", false), ("NoPart", false), ("NoRun", false), ("NoBranch", false), ("NoCell", false), ("NoDepth", false), ("NoAnswer", true), ("NotAsked", false), ("Over", false)]
def row_NotAsked : Str → Option Bool := fun x => List.lookup x [("NoBase", false), ("NoText", false), ("NoRows", false), ("NoStand", false), ("NoName", false), ("NoNumber", false), ("NoHistory", false), ("NoCommand", false), ("NoPart", false), ("NoRun", false), ("NoBranch", false), ("NoCell", false), ("NoDepth", false), ("NoAnswer", false), ("NotAsked", true), ("Over", false)]
def row_Over : Str → Option Bool := fun x => List.lookup x [("NoBase", false), ("NoText", false), ("NoRows", false), ("NoStand", false), ("NoName", false), ("NoNumber", false), ("NoHistory", false), ("NoCommand", false), ("NoPart", false), ("NoRun", false), ("NoBranch", false), ("NoCell", false), ("NoDepth", false), ("NoAnswer", false), ("NotAsked", false), ("Over", true)]
def row_NoBranch : Str → Option Bool := fun x => List.lookup x [("NoBase", false), ("NoText", false), ("NoRows", false), ("NoStand", false), ("NoName", false), ("NoNumber", false), ("NoHistory", false), ("NoCommand", false), ("NoPart", false), ("NoRun", false), ("NoBranch", true), ("NoCell", false), ("NoDepth", false), ("NoAnswer", false), ("NotAsked", false), ("Over", false)]
def row_NoCell : Str → Option Bool := fun x => List.lookup x [("NoBase", false), ("NoText", false), ("NoRows", false), ("NoStand", false), ("NoName", false), ("NoNumber", false), ("NoHistory", false), ("NoCommand", false), ("NoPart", false), ("NoRun", false), ("NoBranch", false), ("NoCell", true), ("NoDepth", false), ("NoAnswer", false), ("NotAsked", false), ("Over", false)]
def row_NoDepth : Str → Option Bool := fun x => List.lookup x [("NoBase", false), ("NoText", false), ("NoRows", false), ("NoStand", false), ("NoName", false), ("NoNumber", false), ("NoHistory", false), ("NoCommand", false), ("NoPart", false), ("NoRun", false), ("NoBranch", false), ("NoCell", false), ("NoDepth", true), ("NoAnswer", false), ("NotAsked", false), ("Over", false)]
def row_NoCommand : Str → Option Bool := fun x => List.lookup x [("NoBase", false), ("NoText", false), ("NoRows", false), ("NoStand", false), ("NoName", false), ("NoNumber", false), ("NoHistory", false), ("NoCommand", true), ("NoPart", false), ("NoRun", false), ("NoBranch", false), ("NoCell", false), ("NoDepth", false), ("NoAnswer", false), ("NotAsked", false), ("Over", false)]
def row_NoPart : Str → Option Bool := fun x => List.lookup x [("NoBase", false), ("NoText", false), ("NoRows", false), ("NoStand", false), ("NoName", false), ("NoNumber", false), ("NoHistory", false), ("NoCommand", false), ("NoPart", true), ("NoRun", false), ("NoBranch", false), ("NoCell", false), ("NoDepth", false), ("NoAnswer", false), ("NotAsked", false), ("Over", false)]
def row_NoRun : Str → Option Bool := fun x => List.lookup x [("NoBase", false), ("NoText", false), ("NoRows", false), ("NoStand", false), ("NoName", false), ("NoNumber", false), ("NoHistory", false), ("NoCommand", false), ("NoPart", false), ("NoRun", true), ("NoBranch", false), ("NoCell", false), ("NoDepth", false), ("NoAnswer", false), ("NotAsked", false), ("Over", false)]
def row_NoName : Str → Option Bool := fun x => List.lookup x [("NoBase", false), ("NoText", false), ("NoRows", false), ("NoStand", false), ("NoName", true), ("NoNumber", false), ("NoHistory", false), ("NoCommand", false), ("NoPart", false), ("NoRun", false), ("NoBranch", false), ("NoCell", false), ("NoDepth", false), ("NoAnswer", false), ("NotAsked", false), ("Over", false)]
def row_NoNumber : Str → Option Bool := fun x => List.lookup x [("NoBase", false), ("NoText", false), ("NoRows", false), ("NoStand", false), ("NoName", false), ("NoNumber", true), ("NoHistory", false), ("NoCommand", false), ("NoPart", false), ("NoRun", false), ("NoBranch", false), ("NoCell", false), ("NoDepth", false), ("NoAnswer", false), ("NotAsked", false), ("Over", false)]
def row_NoHistory : Str → Option Bool := fun x => List.lookup x [("NoBase", false), ("NoText", false), ("NoRows", false), ("NoStand", false), ("NoName", false), ("NoNumber", false), ("NoHistory", true), ("NoCommand", false), ("NoPart", false), ("NoRun", false), ("NoBranch", false), ("NoCell", false), ("NoDepth", false), ("NoAnswer", false), ("NotAsked", false), ("Over", false)]
def row_NoBase : Str → Option Bool := fun x => List.lookup x [("NoBase", true), ("NoText", false), ("NoRows", false), ("NoStand", false), ("NoName", false), ("NoNumber", false), ("NoHistory", false), ("NoCommand", false), ("NoPart", false), ("NoRun", false), ("NoBranch", false), ("NoCell", false), ("NoDepth", false), ("NoAnswer", false), ("NotAsked", false), ("Over", false)]
def row_NoText : Str → Option Bool := fun x => List.lookup x [("NoBase", false), ("NoText", true), ("NoRows", false), ("NoStand", false), ("NoName", false), ("NoNumber", false), ("NoHistory", false), ("NoCommand", false), ("NoPart", false), ("NoRun", false), ("NoBranch", false), ("NoCell", false), ("NoDepth", false), ("NoAnswer", false), ("NotAsked", false), ("Over", false)]
def row_NoRows : Str → Option Bool := fun x => List.lookup x [("NoBase", false), ("NoText", false), ("NoRows", true), ("NoStand", false), ("NoName", false), ("NoNumber", false), ("NoHistory", false), ("NoCommand", false), ("NoPart", false), ("NoRun", false), ("NoBranch", false), ("NoCell", false), ("NoDepth", false), ("NoAnswer", false), ("NotAsked", false), ("Over", false)]
def row_NoStand : Str → Option Bool := fun x => List.lookup x [("NoBase", false), ("NoText", false), ("NoRows", false), ("NoStand", true), ("NoName", false), ("NoNumber", false), ("NoHistory", false), ("NoCommand", false), ("NoPart", false), ("NoRun", false), ("NoBranch", false), ("NoCell", false), ("NoDepth", false), ("NoAnswer", false), ("NotAsked", false), ("Over", false)]
noncomputable def B__law_bag : FS :=
    (fSeq (fAsg (fIf (fTest (fOp gLt (fVar 1) (fB gLen (faCons (fVar 0) faNil)))) (fOp gIdx (fVar 0) (fVar 1)) (fC (.int 0))) (gNm 2))
    (fSeq (fAsg (fIf (fTest (fOp gGe (fB gAbs (faCons (fVar 2) faNil)) (fOp gPowW (fC (.int 10)) (fC (.int 18))))) (fB gAbs (faCons (fVar 2) faNil)) (fC (.int 0))) (gNm 3))
    (fRet (fLstN (faCons (fVar 3) (faCons (fOp (gI (fun _ j => decide (0 < j)) fun i j => i % j) (fOp (gI cMul fun i j => i * j) (fOp gAdd (fOp gAdd (fOp (gI (fun _ j => decide (0 < j)) fun i j => i % j) (fVar 2) (fC (.int 2305843009213693951))) (fOp (gI cMul fun i j => i * j) (fC (.int 7919)) (fVar 1))) (fC (.int 3))) (fC (.int 6700417))) (fC (.int 2305843009213693951))) (faCons (fC (.int 0)) faNil)))))))
noncomputable def F__law_bag : Fn := runD .drop 4 B__law_bag
noncomputable def B__law_take : FS :=
    (fSeq (fIfS (fTest (fOp gGt (fOp gIdx (fVar 0) (fC (.int 0))) (fC (.int 0)))) (fSeq (fAsg (fOp (gI (fun _ j => decide (0 < j)) fun i j => i % j) (fOp gIdx (fVar 0) (fC (.int 0))) (fVar 1)) (gNm 2))
    (fSeq (fAsg (fOp (gI (fun _ j => decide (0 < j) && decide (j < 1073741824)) fun i j => i / j) (fOp gIdx (fVar 0) (fC (.int 0))) (fVar 1)) (gSub (fVar 0) (fC (.int 0)) gSet))
    (fRet (fVar 2)))) fNext)
    (fSeq (fAsg (fOp gAdd (fOp gIdx (fVar 0) (fC (.int 2))) (fC (.int 1))) (gSub (fVar 0) (fC (.int 2)) gSet))
    (fSeq (fAsg (fOp (gI (fun _ j => decide (0 < j)) fun i j => i % j) (fOp gPowW (fOp gAdd (fOp gIdx (fVar 0) (fC (.int 1))) (fOp (gI cMul fun i j => i * j) (fC (.int 1000003)) (fOp gIdx (fVar 0) (fC (.int 2))))) (fC (.int 3))) (fC (.int 2305843009213693921))) (gNm 3))
    (fSeq (fAsg (fOp (gI (fun _ j => decide (0 < j)) fun i j => i % j) (fOp gPowW (fOp gAdd (fVar 3) (fOp (gI cMul fun i j => i * j) (fC (.int 15485863)) (fOp gIdx (fVar 0) (fC (.int 2))))) (fC (.int 2))) (fC (.int 2305843009213693951))) (gNm 3))
    (fRet (fOp (gI (fun _ j => decide (0 < j)) fun i j => i % j) (fOp (gI (fun _ j => decide (0 < j) && decide (j < 1073741824)) fun i j => i / j) (fVar 3) (fC (.int 1024))) (fVar 1)))))))
noncomputable def F__law_take : Fn := runD .drop 4 B__law_take
noncomputable def B__law_any : FS :=
    (fSeq (fAsg (fLst (faCons (fC .non) (faCons (fC (.bl true)) (faCons (fC (.bl false)) (faCons (fC (.int 0)) (faCons (fC (.int 1)) (faCons (fC (.int 2)) (faCons (fUn gNeg (fC (.int 1))) (faCons (fC (.int 3)) (faCons (fOp gPowW (fC (.int 10)) (fC (.int 40))) (faCons (fC (.str "")) (faCons (fC (.str "x")) (faCons (fC (.str "y")) (faCons (fC (.str "z")) (faCons (fC (.str "say")) (faCons (fC (.str "X")) (faCons (fC (.str "f")) (faCons (fLst faNil) (faCons (fTup faNil) (faCons (fTup (faCons (fC (.str "x")) faNil)) (faCons (fLst (faCons (fC (.str "x")) faNil)) faNil))))))))))))))))))))) (gNm 1))
    (fRet (fOp gIdx (fOp gAdd (fVar 1) (fLst (faCons (fTup (faCons (fC (.int 0)) (faCons (fC (.int 0)) (faCons (fC (.int 0)) faNil)))) (faCons (fTup (faCons (fC (.bl true)) (faCons (fC (.int 0)) (faCons (fC (.int 0)) faNil)))) (faCons (fTup (faCons (fTup (faCons (fC (.str "say")) (faCons (fC (.int 1)) faNil))) faNil)) (faCons (fTup (faCons (fC (.str "+")) (faCons (fC (.int 1)) (faCons (fC (.str "x")) faNil)))) (faCons (fC (.str "ninelongs")) (faCons (fTup (faCons (fC (.str "end")) (faCons (fC (.int 0)) faNil))) faNil)))))))) (fCall 2 F__law_take (faCons (fVar 0) (faCons (fC (.int 26)) faNil)) []))))
noncomputable def F__law_any : Fn := runD .drop 2 B__law_any
noncomputable def L__law_kinds_1 : FE :=
    (fOp (gEq false) (fVar 6) (fC (.str "1")))
noncomputable def B__law_kinds : FS :=
    (fSeq (fAsg (fLst (faCons (fIsV row_NoBase (fVar 0)) (faCons (fIsV row_NoText (fVar 0)) (faCons (fIsV row_NoRows (fVar 0)) (faCons (fIsV row_NoStand (fVar 0)) faNil))))) (gNm 1))
    (fSeq (fAsg (fOp gAdd (fVar 1) (fLst (faCons (fIsV row_NoName (fVar 0)) (faCons (fIsV row_NoNumber (fVar 0)) (faCons (fIsV row_NoHistory (fVar 0)) faNil))))) (gNm 1))
    (fSeq (fAsg (fOp gAdd (fVar 1) (fLst (faCons (fIsV row_NoCommand (fVar 0)) (faCons (fIsV row_NoPart (fVar 0)) (faCons (fIsV row_NoRun (fVar 0)) faNil))))) (gNm 1))
    (fSeq (fAsg (fOp gAdd (fVar 1) (fLst (faCons (fIsV row_NoBranch (fVar 0)) (faCons (fIsV row_NoCell (fVar 0)) (faCons (fIsV row_NoDepth (fVar 0)) faNil))))) (gNm 1))
    (fSeq (fAsg (fOp gAdd (fVar 1) (fLst (faCons (fIsV row_NoAnswer (fVar 0)) (faCons (fIsV row_NotAsked (fVar 0)) (faCons (fIsV row_Over (fVar 0)) faNil))))) (gNm 1))
    (fSeq (fAsg (fLst (faCons (fC (.str "NoBase")) (faCons (fC (.str "NoText")) (faCons (fC (.str "NoRows")) (faCons (fC (.str "NoStand")) (faCons (fC (.str "NoName")) (faCons (fC (.str "NoNumber")) (faCons (fC (.str "NoHistory")) (faCons (fC (.str "NoCommand")) (faCons (fC (.str "NoPart")) faNil)))))))))) (gNm 2))
    (fSeq (fAsg (fOp gAdd (fVar 2) (fLst (faCons (fC (.str "NoRun")) (faCons (fC (.str "NoBranch")) (faCons (fC (.str "NoCell")) (faCons (fC (.str "NoDepth")) (faCons (fC (.str "NoAnswer")) (faCons (fC (.str "NotAsked")) (faCons (fC (.str "Over")) faNil))))))))) (gNm 2))
    (fSeq (fAsg (fLst (faCons (fIsV row_ValueError (fVar 0)) (faCons (fIsV row_KeyError (fVar 0)) (faCons (fIsV row_IndexError (fVar 0)) faNil)))) (gNm 3))
    (fSeq (fAsg (fOp gAdd (fVar 3) (fLst (faCons (fIsV row_LookupError (fVar 0)) (faCons (fIsV row_RuntimeError (fVar 0)) faNil)))) (gNm 3))
    (fSeq (fIfS (fTest (fOp (gEq true) (fM "list" gCntB (fVar 1) (faCons (fC (.bl true)) faNil)) (fC (.int 1)))) (fRet (fC (.str "other"))) fNext)
    (fSeq (fAsg (fM "list" gIdxB (fVar 1) (faCons (fC (.bl true)) faNil)) (gNm 4))
    (fSeq (fAsg (fOp gAdd (fOp gAdd (fOp gAdd (fOp gRep (fLst (faCons (fC (.str "10000")) faNil)) (fC (.int 8))) (fOp gRep (fLst (faCons (fC (.str "01010")) faNil)) (fC (.int 2)))) (fOp gRep (fLst (faCons (fC (.str "00110")) faNil)) (fC (.int 3)))) (fLst (faCons (fC (.str "00010")) (faCons (fC (.str "00001")) (faCons (fC (.str "00001")) faNil))))) (gNm 5))
    (fRet (fIf (fTest (fOp (gEq false) (fVar 3) (fLc [6] (fStr (fOp gIdx (fVar 5) (fVar 4))) (gNm 6) fYes L__law_kinds_1))) (fOp gIdx (fVar 2) (fVar 4)) (fC (.str "other"))))))))))))))))
noncomputable def F__law_kinds : Fn := runD .drop 7 B__law_kinds
noncomputable def B__law_field : FS :=
    (fSeq (fIfS (fTest (fOp (gEq false) (fVar 1) (fC (.str "NoBase")))) (fRet (fFldV ["NoBase"] "base" (fVar 0))) fNext)
    (fSeq (fIfS (fTest (fOp (gEq false) (fVar 1) (fC (.str "NoCell")))) (fRet (fFldV ["NoCell"] "cell" (fVar 0))) fNext)
    (fSeq (fIfS (fTest (fOp (gEq false) (fVar 1) (fC (.str "NoDepth")))) (fRet (fFldV ["NoDepth"] "depth" (fVar 0))) fNext)
    (fSeq (fIfS (fTest (fOp (gIn false) (fVar 1) (fTup (faCons (fC (.str "NoText")) (faCons (fC (.str "NoHistory")) (faCons (fC (.str "NoBranch")) faNil)))))) (fRet (fIf (fTest (fOp (gEq false) (fVar 1) (fC (.str "NoText")))) (fFldV ["NoText"] "row" (fVar 0)) (fFldV ["NoHistory", "NoBranch"] "at" (fVar 0)))) fNext)
    (fSeq (fIfS (fTest (fOp (gIn false) (fVar 1) (fTup (faCons (fC (.str "NoName")) (faCons (fC (.str "NoPart")) faNil))))) (fRet (fFldV ["NoName", "NoPart"] "name" (fVar 0))) fNext)
    (fRet (fIf (fTest (fOp (gEq false) (fVar 1) (fC (.str "NoNumber")))) (fFldV ["NoNumber"] "number" (fVar 0)) (fFldV ["NoRun", "NoAnswer", "NotAsked", "Over"] "run" (fVar 0)))))))))
noncomputable def F__law_field : Fn := runD .drop 2 B__law_field
noncomputable def F_copied_n : Nat → Fn
  | 0 => fun _ _ => none
  | n + 1 => runD .drop 2 ((fSeq (fIfS (fTruth (fB gIsi (faCons (fVar 0) (faCons (fC (.glo (.ty "list"))) faNil)))) (fRet (fLc [1] (fIt (fVar 0)) (gNm 1) fYes (fCall 1 (F_copied_n n) (faCons (fVar 1) faNil) []))) fNext)
    (fSeq (fIfS (fTruth (fB gIsi (faCons (fVar 0) (faCons (fC (.glo (.ty "tuple"))) faNil)))) (fRet (fB gTuple (faCons (fLc [1] (fIt (fVar 0)) (gNm 1) fYes (fCall 1 (F_copied_n n) (faCons (fVar 1) faNil) [])) faNil))) fNext)
    (fRet (fVar 0)))))
noncomputable def F_copied : Fn := F_copied_n 5
noncomputable def L_law_1 : FS :=
    (fSeq (fIfS (fOrT (fTest (fOp (gEq true) (fCall 1 F__law_kinds (faCons (fVar 7) faNil) []) (fVar 6))) (fTest (fOp (gEq true) (fCall 1 F__law_kinds (faCons (fVar 8) faNil) []) (fVar 6)))) (fRet (fC (.bl false))) fNext)
    (fIfS (fOrT (fTest (fOp (gEq true) (fB gReprD (faCons (fCall 2 F__law_field (faCons (fVar 7) (faCons (fVar 6) faNil)) []) faNil)) (fB gReprD (faCons (fVar 3) faNil)))) (fTest (fOp (gEq true) (fB gReprD (faCons (fCall 2 F__law_field (faCons (fVar 8) (faCons (fVar 6) faNil)) []) faNil)) (fB gReprD (faCons (fVar 4) faNil))))) (fRet (fC (.bl false))) fNext))
noncomputable def L_law_2 : FE :=
    (fCall 1 F__law_kinds (faCons (fVar 10) faNil) [])
noncomputable def L_law_3 : FE :=
    (fVar 6)
noncomputable def L_law_4 : FS :=
    (fSeq (fAsg (fCall 2 F__law_bag (faCons (fVar 0) (faCons (fVar 1) faNil)) []) (gNm 2))
    (fSeq (fPar 3 4 (faCons (fCall 1 F__law_any (faCons (fVar 2) faNil) []) (faCons (fCall 1 F__law_any (faCons (fVar 2) faNil) []) faNil)))
    (fSeq (fAsg (fLstN (faCons (fTup (faCons (fC (.str "NoBase")) (faCons (fExc "NoBase" "base" (fOx 2 (fVar 3) (fCall 1 F_copied (faCons (fVar 1) faNil) []))) (faCons (fExc "NoBase" "base" (fOxK 2 (faCons (fVar 4) faNil) (fCall 1 F_copied (faCons (fVar 1) faNil) []))) faNil)))) (faCons (fTup (faCons (fC (.str "NoText")) (faCons (fExc "NoText" "row" (fOx 2 (fVar 3) (fVar 1))) (faCons (fExc "NoText" "row" (fOxK 2 (faCons (fVar 4) faNil) (fVar 1))) faNil)))) faNil))) (gNm 5))
    (fSeq (fAsg (fOp gCatN (fVar 5) (fLstN (faCons (fTup (faCons (fC (.str "NoName")) (faCons (fExc "NoName" "name" (fOx 2 (fVar 3) (fCall 1 F_copied (faCons (fVar 1) faNil) []))) (faCons (fExc "NoName" "name" (fOxK 2 (faCons (fVar 4) faNil) (fCall 1 F_copied (faCons (fVar 1) faNil) []))) faNil)))) (faCons (fTup (faCons (fC (.str "NoPart")) (faCons (fExc "NoPart" "name" (fOx 2 (fVar 3) (fCall 1 F_copied (faCons (fVar 1) faNil) []))) (faCons (fExc "NoPart" "name" (fOxK 2 (faCons (fVar 4) faNil) (fCall 1 F_copied (faCons (fVar 1) faNil) []))) faNil)))) faNil)))) (gNm 5))
    (fSeq (fAsg (fOp gCatN (fVar 5) (fLstN (faCons (fTup (faCons (fC (.str "NoNumber")) (faCons (fExc "NoNumber" "number" (fOx 2 (fVar 3) (fCall 1 F_copied (faCons (fVar 1) faNil) []))) (faCons (fExc "NoNumber" "number" (fOxK 2 (faCons (fVar 4) faNil) (fCall 1 F_copied (faCons (fVar 1) faNil) []))) faNil)))) faNil))) (gNm 5))
    (fSeq (fAsg (fOp gCatN (fVar 5) (fLstN (faCons (fTup (faCons (fC (.str "NoHistory")) (faCons (fExc "NoHistory" "at" (fOx 2 (fVar 3) (fVar 1))) (faCons (fExc "NoHistory" "at" (fOxK 2 (faCons (fVar 4) faNil) (fVar 1))) faNil)))) (faCons (fTup (faCons (fC (.str "NoRun")) (faCons (fExc "NoRun" "run" (fOx 2 (fVar 3) (fCall 1 F_copied (faCons (fVar 1) faNil) []))) (faCons (fExc "NoRun" "run" (fOxK 2 (faCons (fVar 4) faNil) (fCall 1 F_copied (faCons (fVar 1) faNil) []))) faNil)))) faNil)))) (gNm 5))
    (fSeq (fAsg (fOp gCatN (fVar 5) (fLstN (faCons (fTup (faCons (fC (.str "NoBranch")) (faCons (fExc "NoBranch" "at" (fOx 2 (fVar 3) (fVar 1))) (faCons (fExc "NoBranch" "at" (fOxK 2 (faCons (fVar 4) faNil) (fVar 1))) faNil)))) (faCons (fTup (faCons (fC (.str "NoCell")) (faCons (fExc "NoCell" "cell" (fOx 2 (fVar 3) (fCall 1 F_copied (faCons (fVar 1) faNil) []))) (faCons (fExc "NoCell" "cell" (fOxK 2 (faCons (fVar 4) faNil) (fCall 1 F_copied (faCons (fVar 1) faNil) []))) faNil)))) faNil)))) (gNm 5))
    (fSeq (fAsg (fOp gCatN (fVar 5) (fLstN (faCons (fTup (faCons (fC (.str "NoDepth")) (faCons (fExc "NoDepth" "depth" (fOx 2 (fVar 3) (fCall 1 F_copied (faCons (fVar 1) faNil) []))) (faCons (fExc "NoDepth" "depth" (fOxK 2 (faCons (fVar 4) faNil) (fCall 1 F_copied (faCons (fVar 1) faNil) []))) faNil)))) (faCons (fTup (faCons (fC (.str "Over")) (faCons (fExc "Over" "run" (fOx 2 (fVar 3) (fVar 1))) (faCons (fExc "Over" "run" (fOxK 2 (faCons (fVar 4) faNil) (fVar 1))) faNil)))) faNil)))) (gNm 5))
    (fSeq (fDrop (fM "list" gApp (fVar 5) (faCons (fTup (faCons (fC (.str "NoAnswer")) (faCons (fExc "NoAnswer" "run" (fOx 2 (fVar 3) (fVar 1))) (faCons (fExc "NoAnswer" "run" (fOxK 2 (faCons (fVar 4) faNil) (fVar 1))) faNil)))) faNil)))
    (fSeq (fDrop (fM "list" gApp (fVar 5) (faCons (fTup (faCons (fC (.str "NotAsked")) (faCons (fExc "NotAsked" "run" (fOx 2 (fVar 3) (fVar 1))) (faCons (fExc "NotAsked" "run" (fOxK 2 (faCons (fVar 4) faNil) (fVar 1))) faNil)))) faNil)))
    (fSeq (fForC (fItO (fVar 5)) (gTp 3 (gCons (gNm 6) (gCons (gNm 7) (gCons (gNm 8) gNil)))) L_law_1)
    (fSeq (fAsg (fLst (faCons (fTup (faCons (fC (.str "NoRows")) (faCons (fExc0 "NoRows") faNil))) (faCons (fTup (faCons (fC (.str "NoStand")) (faCons (fExc0 "NoStand") faNil))) (faCons (fTup (faCons (fC (.str "NoCommand")) (faCons (fExc0 "NoCommand") faNil))) faNil)))) (gNm 9))
    (fIfS (fTest (fOp (gEq true) (fLc [6, 10] (fIt (fVar 9)) (gTp 2 (gCons (gNm 6) (gCons (gNm 10) gNil))) fYes L_law_2) (fLc [6, 10] (fIt (fVar 9)) (gTp 2 (gCons (gNm 6) (gCons (gNm 10) gNil))) fYes L_law_3))) (fRet (fC (.bl false))) fNext)))))))))))))
noncomputable def B_law : FS :=
    (fSeq (fFor (fRng1 (faCons (fB gMax2 (faCons (fC (.int 2)) (faCons (fB gMin2 (faCons (fC (.int 6)) (faCons (fB gLen (faCons (fVar 0) faNil)) faNil))) faNil))) faNil)) (gNm 1) L_law_4)
    (fRet (fC (.bl true))))
noncomputable def F_law : Fn := runD .drop 11 B_law
end J

set_option autoImplicit false
namespace J
open PySem PySem.Spec PyProof.Rows L2
section
variable {P : Program} {w : World} {K : PySem.W.Frag} {mg : Str → Option Value} {base : Heap}
theorem sc_NoAnswer___init__ : FnScope ["self", "run"] ["self", "run"] (defScope s_NoAnswer___init__) := ⟨rfl, rfl, rfl, by decide +kernel, rfl, by decide +kernel, by decide +kernel⟩
theorem sc_NoBase___init__ : FnScope ["self", "base"] ["self", "base"] (defScope s_NoBase___init__) := ⟨rfl, rfl, rfl, by decide +kernel, rfl, by decide +kernel, by decide +kernel⟩
theorem sc_NoBranch___init__ : FnScope ["self", "at"] ["self", "at"] (defScope s_NoBranch___init__) := ⟨rfl, rfl, rfl, by decide +kernel, rfl, by decide +kernel, by decide +kernel⟩
theorem sc_NoCell___init__ : FnScope ["self", "cell"] ["self", "cell"] (defScope s_NoCell___init__) := ⟨rfl, rfl, rfl, by decide +kernel, rfl, by decide +kernel, by decide +kernel⟩
theorem sc_NoDepth___init__ : FnScope ["self", "depth"] ["self", "depth"] (defScope s_NoDepth___init__) := ⟨rfl, rfl, rfl, by decide +kernel, rfl, by decide +kernel, by decide +kernel⟩
theorem sc_NoHistory___init__ : FnScope ["self", "at"] ["self", "at"] (defScope s_NoHistory___init__) := ⟨rfl, rfl, rfl, by decide +kernel, rfl, by decide +kernel, by decide +kernel⟩
theorem sc_NoName___init__ : FnScope ["self", "name"] ["self", "name"] (defScope s_NoName___init__) := ⟨rfl, rfl, rfl, by decide +kernel, rfl, by decide +kernel, by decide +kernel⟩
theorem sc_NoNumber___init__ : FnScope ["self", "number"] ["self", "number"] (defScope s_NoNumber___init__) := ⟨rfl, rfl, rfl, by decide +kernel, rfl, by decide +kernel, by decide +kernel⟩
theorem sc_NoPart___init__ : FnScope ["self", "name"] ["self", "name"] (defScope s_NoPart___init__) := ⟨rfl, rfl, rfl, by decide +kernel, rfl, by decide +kernel, by decide +kernel⟩
theorem sc_NoRun___init__ : FnScope ["self", "run"] ["self", "run"] (defScope s_NoRun___init__) := ⟨rfl, rfl, rfl, by decide +kernel, rfl, by decide +kernel, by decide +kernel⟩
theorem sc_NoText___init__ : FnScope ["self", "row"] ["self", "row"] (defScope s_NoText___init__) := ⟨rfl, rfl, rfl, by decide +kernel, rfl, by decide +kernel, by decide +kernel⟩
theorem sc_NotAsked___init__ : FnScope ["self", "run"] ["self", "run"] (defScope s_NotAsked___init__) := ⟨rfl, rfl, rfl, by decide +kernel, rfl, by decide +kernel, by decide +kernel⟩
theorem sc_Over___init__ : FnScope ["self", "run"] ["self", "run"] (defScope s_Over___init__) := ⟨rfl, rfl, rfl, by decide +kernel, rfl, by decide +kernel, by decide +kernel⟩
theorem sc__law_bag : FnScope ["_law_script", "_law_spot", "_law_great", "_law_digits"] ["_law_script", "_law_spot"] (defScope s__law_bag) := ⟨rfl, rfl, rfl, by decide +kernel, rfl, by decide +kernel, by decide +kernel⟩
theorem ok__law_bag (dn : DnF K mg "_law_bag" s__law_bag ["_law_script", "_law_spot"]) (m_len : mg "len" = none) (m_abs : mg "abs" = none) : OkF P w K mg base "_law_bag" 2 F__law_bag 1 := by
  obtain ⟨f, fd, F, b, g⟩ := dn
  refine ⟨f, fd, _, g, F.kp, b, okJ (N := ["_law_script", "_law_spot", "_law_great", "_law_digits"]) (k := 0) F sc__law_bag fun cdv A outer s H E hr => ?_⟩
  have hu := hr.units
  exact (jss_cons (js_set (i := 2) sc__law_bag.nd rfl (by first | exact Or.inl rfl | exact Or.inr rfl) (je_ifExp (jt_cmpR op_lt ro_B0 (je_var 1) (je_callB call_lenJ rc_len (by rfl) m_len PySem.boot_len (ja_cons (je_var 0) ja_nil)) (nomark _)) (je_sx hu (je_var 0) (je_var 1)) je_int))
    (jss_cons (js_set (i := 3) sc__law_bag.nd rfl (by first | exact Or.inl rfl | exact Or.inr rfl) (je_ifExp (jt_cmpR op_ge ro_B0 (je_callB call_abs rc_abs (by rfl) m_abs (by decide +kernel) (ja_cons (je_var 2) ja_nil)) (je_powW je_int je_int) (nomark _)) (je_callB call_abs rc_abs (by rfl) m_abs (by decide +kernel) (ja_cons (je_var 2) ja_nil)) je_int))
    (jss_one (js_ret (je_lstN (ja_cons (je_var 3) (ja_cons (je_mod (je_mul (je_add (je_add (je_mod (je_var 2) je_int) (je_mul je_int (je_var 1))) je_int) je_int) je_int) (ja_cons je_int ja_nil))))))))
theorem sc__law_take : FnScope ["_law_bag_here", "_law_many", "_law_digit", "_law_mixed"] ["_law_bag_here", "_law_many"] (defScope s__law_take) := ⟨rfl, rfl, rfl, by decide +kernel, rfl, by decide +kernel, by decide +kernel⟩
theorem ok__law_take (dn : DnF K mg "_law_take" s__law_take ["_law_bag_here", "_law_many"])  : OkF P w K mg base "_law_take" 2 F__law_take 1 := by
  obtain ⟨f, fd, F, b, g⟩ := dn
  refine ⟨f, fd, _, g, F.kp, b, okJ (N := ["_law_bag_here", "_law_many", "_law_digit", "_law_mixed"]) (k := 0) F sc__law_take fun cdv A outer s H E hr => ?_⟩
  have hu := hr.units
  exact (jss_cons (js_if (jt_cmpR op_gt ro_B0 (je_sx hu (je_var 0) je_int) je_int (nomark _)) (jss_cons (js_set (i := 2) sc__law_take.nd rfl (by first | exact Or.inl rfl | exact Or.inr rfl) (je_mod (je_sx hu (je_var 0) je_int) (je_var 1)))
    (jss_cons (js_asg (je_fdiv (je_sx hu (je_var 0) je_int) (je_var 1)) (jg_sx hu (je_var 0) je_int))
    (jss_one (js_ret (je_var 2))))) jss_nil)
    (jss_cons (js_asg (je_add (je_sx hu (je_var 0) je_int) je_int) (jg_sx hu (je_var 0) je_int))
    (jss_cons (js_set (i := 3) sc__law_take.nd rfl (by first | exact Or.inl rfl | exact Or.inr rfl) (je_mod (je_powW (je_add (je_sx hu (je_var 0) je_int) (je_mul je_int (je_sx hu (je_var 0) je_int))) je_int) je_int))
    (jss_cons (js_set (i := 3) sc__law_take.nd rfl (by first | exact Or.inl rfl | exact Or.inr rfl) (je_mod (je_powW (je_add (je_var 3) (je_mul je_int (je_sx hu (je_var 0) je_int))) je_int) je_int))
    (jss_one (js_ret (je_mod (je_fdiv (je_var 3) je_int) (je_var 1))))))))
theorem sc__law_any : FnScope ["_law_bag_here", "_law_some"] ["_law_bag_here"] (defScope s__law_any) := ⟨rfl, rfl, rfl, by decide +kernel, rfl, by decide +kernel, by decide +kernel⟩
theorem ok__law_any (dn : DnF K mg "_law_any" s__law_any ["_law_bag_here"]) (h__law_take : OkF P w K mg base "_law_take" 2 F__law_take 1) : OkF P w K mg base "_law_any" 1 F__law_any 2 := by
  obtain ⟨f, fd, F, b, g⟩ := dn
  refine ⟨f, fd, _, g, F.kp, b, okJ (N := ["_law_bag_here", "_law_some"]) (k := 1) F sc__law_any fun cdv A outer s H E hr => ?_⟩
  have hu := hr.units
  exact (jss_cons (js_set (i := 1) sc__law_any.nd rfl (by first | exact Or.inl rfl | exact Or.inr rfl) (je_lst (ja_cons je_non (ja_cons je_bl (ja_cons je_bl (ja_cons je_int (ja_cons je_int (ja_cons je_int (ja_cons (je_neg je_int) (ja_cons je_int (ja_cons (je_powW je_int je_int) (ja_cons je_str (ja_cons je_str (ja_cons je_str (ja_cons je_str (ja_cons je_str (ja_cons je_str (ja_cons je_str (ja_cons (je_lst ja_nil) (ja_cons (je_tup ja_nil) (ja_cons (je_tup (ja_cons je_str ja_nil)) (ja_cons (je_lst (ja_cons je_str ja_nil)) ja_nil))))))))))))))))))))))
    (jss_one (js_ret (je_sx hu (je_add (je_var 1) (je_lst (ja_cons (je_tup (ja_cons je_int (ja_cons je_int (ja_cons je_int ja_nil)))) (ja_cons (je_tup (ja_cons je_bl (ja_cons je_int (ja_cons je_int ja_nil)))) (ja_cons (je_tup (ja_cons (je_tup (ja_cons je_str (ja_cons je_int ja_nil))) ja_nil)) (ja_cons (je_tup (ja_cons je_str (ja_cons je_int (ja_cons je_str ja_nil)))) (ja_cons je_str (ja_cons (je_tup (ja_cons je_str (ja_cons je_int ja_nil))) ja_nil)))))))) (je_callF h__law_take hr (by rfl) (ja_cons (je_var 0) (ja_cons je_int ja_nil)) (by decide))))))
theorem sc__law_kinds : FnScope ["_law_e", "_law_kinds_here", "_law_names", "_law_above", "_law_spot", "_law_due", "_law_sign"] ["_law_e"] (defScope s__law_kinds) := ⟨rfl, rfl, rfl, by decide +kernel, rfl, by decide +kernel, by decide +kernel⟩
theorem ok__law_kinds (dn : DnF K mg "_law_kinds" s__law_kinds ["_law_e"]) (m_isinstance : mg "isinstance" = none) (kv_NoStand : ∃ D, mg "NoStand" = some (.ref D) ∧ ∀ x C b, row_NoStand x = some b → ClsAt K x C → ExcC K C ∧ PySem.W.kitOne K (.ref C) (.ref D) = some b) (kv_NoRows : ∃ D, mg "NoRows" = some (.ref D) ∧ ∀ x C b, row_NoRows x = some b → ClsAt K x C → ExcC K C ∧ PySem.W.kitOne K (.ref C) (.ref D) = some b) (kv_NoText : ∃ D, mg "NoText" = some (.ref D) ∧ ∀ x C b, row_NoText x = some b → ClsAt K x C → ExcC K C ∧ PySem.W.kitOne K (.ref C) (.ref D) = some b) (kv_NoBase : ∃ D, mg "NoBase" = some (.ref D) ∧ ∀ x C b, row_NoBase x = some b → ClsAt K x C → ExcC K C ∧ PySem.W.kitOne K (.ref C) (.ref D) = some b) (kv_NoHistory : ∃ D, mg "NoHistory" = some (.ref D) ∧ ∀ x C b, row_NoHistory x = some b → ClsAt K x C → ExcC K C ∧ PySem.W.kitOne K (.ref C) (.ref D) = some b) (kv_NoNumber : ∃ D, mg "NoNumber" = some (.ref D) ∧ ∀ x C b, row_NoNumber x = some b → ClsAt K x C → ExcC K C ∧ PySem.W.kitOne K (.ref C) (.ref D) = some b) (kv_NoName : ∃ D, mg "NoName" = some (.ref D) ∧ ∀ x C b, row_NoName x = some b → ClsAt K x C → ExcC K C ∧ PySem.W.kitOne K (.ref C) (.ref D) = some b) (kv_NoRun : ∃ D, mg "NoRun" = some (.ref D) ∧ ∀ x C b, row_NoRun x = some b → ClsAt K x C → ExcC K C ∧ PySem.W.kitOne K (.ref C) (.ref D) = some b) (kv_NoPart : ∃ D, mg "NoPart" = some (.ref D) ∧ ∀ x C b, row_NoPart x = some b → ClsAt K x C → ExcC K C ∧ PySem.W.kitOne K (.ref C) (.ref D) = some b) (kv_NoCommand : ∃ D, mg "NoCommand" = some (.ref D) ∧ ∀ x C b, row_NoCommand x = some b → ClsAt K x C → ExcC K C ∧ PySem.W.kitOne K (.ref C) (.ref D) = some b) (kv_NoDepth : ∃ D, mg "NoDepth" = some (.ref D) ∧ ∀ x C b, row_NoDepth x = some b → ClsAt K x C → ExcC K C ∧ PySem.W.kitOne K (.ref C) (.ref D) = some b) (kv_NoCell : ∃ D, mg "NoCell" = some (.ref D) ∧ ∀ x C b, row_NoCell x = some b → ClsAt K x C → ExcC K C ∧ PySem.W.kitOne K (.ref C) (.ref D) = some b) (kv_NoBranch : ∃ D, mg "NoBranch" = some (.ref D) ∧ ∀ x C b, row_NoBranch x = some b → ClsAt K x C → ExcC K C ∧ PySem.W.kitOne K (.ref C) (.ref D) = some b) (kv_Over : ∃ D, mg "Over" = some (.ref D) ∧ ∀ x C b, row_Over x = some b → ClsAt K x C → ExcC K C ∧ PySem.W.kitOne K (.ref C) (.ref D) = some b) (kv_NotAsked : ∃ D, mg "NotAsked" = some (.ref D) ∧ ∀ x C b, row_NotAsked x = some b → ClsAt K x C → ExcC K C ∧ PySem.W.kitOne K (.ref C) (.ref D) = some b) (kv_NoAnswer : ∃ D, mg "NoAnswer" = some (.ref D) ∧ ∀ x C b, row_NoAnswer x = some b → ClsAt K x C → ExcC K C ∧ PySem.W.kitOne K (.ref C) (.ref D) = some b) (m_IndexError : mg "IndexError" = none) (q_IndexError : ∀ x C b, row_IndexError x = some b → ClsAt K x C → ExcC K C ∧ PySem.W.kitOne K (.ref C) (.type "IndexError") = some b) (m_KeyError : mg "KeyError" = none) (q_KeyError : ∀ x C b, row_KeyError x = some b → ClsAt K x C → ExcC K C ∧ PySem.W.kitOne K (.ref C) (.type "KeyError") = some b) (m_ValueError : mg "ValueError" = none) (q_ValueError : ∀ x C b, row_ValueError x = some b → ClsAt K x C → ExcC K C ∧ PySem.W.kitOne K (.ref C) (.type "ValueError") = some b) (m_RuntimeError : mg "RuntimeError" = none) (q_RuntimeError : ∀ x C b, row_RuntimeError x = some b → ClsAt K x C → ExcC K C ∧ PySem.W.kitOne K (.ref C) (.type "RuntimeError") = some b) (m_LookupError : mg "LookupError" = none) (q_LookupError : ∀ x C b, row_LookupError x = some b → ClsAt K x C → ExcC K C ∧ PySem.W.kitOne K (.ref C) (.type "LookupError") = some b) : OkF P w K mg base "_law_kinds" 1 F__law_kinds 1 := by
  obtain ⟨f, fd, F, b, g⟩ := dn
  obtain ⟨D_NoStand, g_NoStand, q_NoStand⟩ := kv_NoStand
  obtain ⟨D_NoRows, g_NoRows, q_NoRows⟩ := kv_NoRows
  obtain ⟨D_NoText, g_NoText, q_NoText⟩ := kv_NoText
  obtain ⟨D_NoBase, g_NoBase, q_NoBase⟩ := kv_NoBase
  obtain ⟨D_NoHistory, g_NoHistory, q_NoHistory⟩ := kv_NoHistory
  obtain ⟨D_NoNumber, g_NoNumber, q_NoNumber⟩ := kv_NoNumber
  obtain ⟨D_NoName, g_NoName, q_NoName⟩ := kv_NoName
  obtain ⟨D_NoRun, g_NoRun, q_NoRun⟩ := kv_NoRun
  obtain ⟨D_NoPart, g_NoPart, q_NoPart⟩ := kv_NoPart
  obtain ⟨D_NoCommand, g_NoCommand, q_NoCommand⟩ := kv_NoCommand
  obtain ⟨D_NoDepth, g_NoDepth, q_NoDepth⟩ := kv_NoDepth
  obtain ⟨D_NoCell, g_NoCell, q_NoCell⟩ := kv_NoCell
  obtain ⟨D_NoBranch, g_NoBranch, q_NoBranch⟩ := kv_NoBranch
  obtain ⟨D_Over, g_Over, q_Over⟩ := kv_Over
  obtain ⟨D_NotAsked, g_NotAsked, q_NotAsked⟩ := kv_NotAsked
  obtain ⟨D_NoAnswer, g_NoAnswer, q_NoAnswer⟩ := kv_NoAnswer
  refine ⟨f, fd, _, g, F.kp, b, okJ (N := ["_law_e", "_law_kinds_here", "_law_names", "_law_above", "_law_spot", "_law_due", "_law_sign"]) (k := 0) F sc__law_kinds fun cdv A outer s H E hr => ?_⟩
  have hu := hr.units
  exact (jss_cons (js_set (i := 1) sc__law_kinds.nd rfl (by first | exact Or.inl rfl | exact Or.inr rfl) (je_lst (ja_cons (je_isV (v := .ref D_NoBase) (cv := .ref D_NoBase) (by rfl) m_isinstance (je_var 0) (pe_glob (v := .ref D_NoBase) (by rfl) g_NoBase rfl) (fun u e => e) q_NoBase) (ja_cons (je_isV (v := .ref D_NoText) (cv := .ref D_NoText) (by rfl) m_isinstance (je_var 0) (pe_glob (v := .ref D_NoText) (by rfl) g_NoText rfl) (fun u e => e) q_NoText) (ja_cons (je_isV (v := .ref D_NoRows) (cv := .ref D_NoRows) (by rfl) m_isinstance (je_var 0) (pe_glob (v := .ref D_NoRows) (by rfl) g_NoRows rfl) (fun u e => e) q_NoRows) (ja_cons (je_isV (v := .ref D_NoStand) (cv := .ref D_NoStand) (by rfl) m_isinstance (je_var 0) (pe_glob (v := .ref D_NoStand) (by rfl) g_NoStand rfl) (fun u e => e) q_NoStand) ja_nil))))))
    (jss_cons (js_set (i := 1) sc__law_kinds.nd rfl (by first | exact Or.inl rfl | exact Or.inr rfl) (je_add (je_var 1) (je_lst (ja_cons (je_isV (v := .ref D_NoName) (cv := .ref D_NoName) (by rfl) m_isinstance (je_var 0) (pe_glob (v := .ref D_NoName) (by rfl) g_NoName rfl) (fun u e => e) q_NoName) (ja_cons (je_isV (v := .ref D_NoNumber) (cv := .ref D_NoNumber) (by rfl) m_isinstance (je_var 0) (pe_glob (v := .ref D_NoNumber) (by rfl) g_NoNumber rfl) (fun u e => e) q_NoNumber) (ja_cons (je_isV (v := .ref D_NoHistory) (cv := .ref D_NoHistory) (by rfl) m_isinstance (je_var 0) (pe_glob (v := .ref D_NoHistory) (by rfl) g_NoHistory rfl) (fun u e => e) q_NoHistory) ja_nil))))))
    (jss_cons (js_set (i := 1) sc__law_kinds.nd rfl (by first | exact Or.inl rfl | exact Or.inr rfl) (je_add (je_var 1) (je_lst (ja_cons (je_isV (v := .ref D_NoCommand) (cv := .ref D_NoCommand) (by rfl) m_isinstance (je_var 0) (pe_glob (v := .ref D_NoCommand) (by rfl) g_NoCommand rfl) (fun u e => e) q_NoCommand) (ja_cons (je_isV (v := .ref D_NoPart) (cv := .ref D_NoPart) (by rfl) m_isinstance (je_var 0) (pe_glob (v := .ref D_NoPart) (by rfl) g_NoPart rfl) (fun u e => e) q_NoPart) (ja_cons (je_isV (v := .ref D_NoRun) (cv := .ref D_NoRun) (by rfl) m_isinstance (je_var 0) (pe_glob (v := .ref D_NoRun) (by rfl) g_NoRun rfl) (fun u e => e) q_NoRun) ja_nil))))))
    (jss_cons (js_set (i := 1) sc__law_kinds.nd rfl (by first | exact Or.inl rfl | exact Or.inr rfl) (je_add (je_var 1) (je_lst (ja_cons (je_isV (v := .ref D_NoBranch) (cv := .ref D_NoBranch) (by rfl) m_isinstance (je_var 0) (pe_glob (v := .ref D_NoBranch) (by rfl) g_NoBranch rfl) (fun u e => e) q_NoBranch) (ja_cons (je_isV (v := .ref D_NoCell) (cv := .ref D_NoCell) (by rfl) m_isinstance (je_var 0) (pe_glob (v := .ref D_NoCell) (by rfl) g_NoCell rfl) (fun u e => e) q_NoCell) (ja_cons (je_isV (v := .ref D_NoDepth) (cv := .ref D_NoDepth) (by rfl) m_isinstance (je_var 0) (pe_glob (v := .ref D_NoDepth) (by rfl) g_NoDepth rfl) (fun u e => e) q_NoDepth) ja_nil))))))
    (jss_cons (js_set (i := 1) sc__law_kinds.nd rfl (by first | exact Or.inl rfl | exact Or.inr rfl) (je_add (je_var 1) (je_lst (ja_cons (je_isV (v := .ref D_NoAnswer) (cv := .ref D_NoAnswer) (by rfl) m_isinstance (je_var 0) (pe_glob (v := .ref D_NoAnswer) (by rfl) g_NoAnswer rfl) (fun u e => e) q_NoAnswer) (ja_cons (je_isV (v := .ref D_NotAsked) (cv := .ref D_NotAsked) (by rfl) m_isinstance (je_var 0) (pe_glob (v := .ref D_NotAsked) (by rfl) g_NotAsked rfl) (fun u e => e) q_NotAsked) (ja_cons (je_isV (v := .ref D_Over) (cv := .ref D_Over) (by rfl) m_isinstance (je_var 0) (pe_glob (v := .ref D_Over) (by rfl) g_Over rfl) (fun u e => e) q_Over) ja_nil))))))
    (jss_cons (js_set (i := 2) sc__law_kinds.nd rfl (by first | exact Or.inl rfl | exact Or.inr rfl) (je_lst (ja_cons je_str (ja_cons je_str (ja_cons je_str (ja_cons je_str (ja_cons je_str (ja_cons je_str (ja_cons je_str (ja_cons je_str (ja_cons je_str ja_nil)))))))))))
    (jss_cons (js_set (i := 2) sc__law_kinds.nd rfl (by first | exact Or.inl rfl | exact Or.inr rfl) (je_add (je_var 2) (je_lst (ja_cons je_str (ja_cons je_str (ja_cons je_str (ja_cons je_str (ja_cons je_str (ja_cons je_str (ja_cons je_str ja_nil))))))))))
    (jss_cons (js_set (i := 3) sc__law_kinds.nd rfl (by first | exact Or.inl rfl | exact Or.inr rfl) (je_lst (ja_cons (je_isV (v := .ty "ValueError") (cv := .type "ValueError") (by rfl) m_isinstance (je_var 0) (pe_bltn (v := .ty "ValueError") (by rfl) m_ValueError (by decide +kernel) rfl) (fun u e => e) q_ValueError) (ja_cons (je_isV (v := .ty "KeyError") (cv := .type "KeyError") (by rfl) m_isinstance (je_var 0) (pe_bltn (v := .ty "KeyError") (by rfl) m_KeyError (by decide +kernel) rfl) (fun u e => e) q_KeyError) (ja_cons (je_isV (v := .ty "IndexError") (cv := .type "IndexError") (by rfl) m_isinstance (je_var 0) (pe_bltn (v := .ty "IndexError") (by rfl) m_IndexError (by decide +kernel) rfl) (fun u e => e) q_IndexError) ja_nil)))))
    (jss_cons (js_set (i := 3) sc__law_kinds.nd rfl (by first | exact Or.inl rfl | exact Or.inr rfl) (je_add (je_var 3) (je_lst (ja_cons (je_isV (v := .ty "LookupError") (cv := .type "LookupError") (by rfl) m_isinstance (je_var 0) (pe_bltn (v := .ty "LookupError") (by rfl) m_LookupError (by decide +kernel) rfl) (fun u e => e) q_LookupError) (ja_cons (je_isV (v := .ty "RuntimeError") (cv := .type "RuntimeError") (by rfl) m_isinstance (je_var 0) (pe_bltn (v := .ty "RuntimeError") (by rfl) m_RuntimeError (by decide +kernel) rfl) (fun u e => e) q_RuntimeError) ja_nil)))))
    (jss_cons (js_if (jt_cmpR (op_neJ hu) ro_neJ (je_bm PySem.F.plainAttrs_list PySem.F.slot_list_count PySem.F.type_list_count mt_lcountB rm_cntB (je_var 1) (ja_cons je_bl ja_nil)) je_int (nomark _)) (jss_one (js_ret je_str)) jss_nil)
    (jss_cons (js_set (i := 4) sc__law_kinds.nd rfl (by first | exact Or.inl rfl | exact Or.inr rfl) (je_bm PySem.F.plainAttrs_list PySem.F.slot_list_index PySem.F.type_list_index mt_lindexB rm_idxB (je_var 1) (ja_cons je_bl ja_nil)))
    (jss_cons (js_set (i := 5) sc__law_kinds.nd rfl (by first | exact Or.inl rfl | exact Or.inr rfl) (je_add (je_add (je_add (je_rep (je_lst (ja_cons je_str ja_nil)) je_int) (je_rep (je_lst (ja_cons je_str ja_nil)) je_int)) (je_rep (je_lst (ja_cons je_str ja_nil)) je_int)) (je_lst (ja_cons je_str (ja_cons je_str (ja_cons je_str ja_nil))))))
    (jss_one (js_ret (je_ifExp (jt_cmpR (op_eqJ hu) ro_eqJ (je_var 3) (je_lc (own := [("_law_sign", 6)]) (by rfl) sc__law_kinds.nd (ji_str (je_sx hu (je_var 5) (je_var 4))) (blkOk_by (N := ["_law_e", "_law_kinds_here", "_law_names", "_law_above", "_law_spot", "_law_due", "_law_sign"]) (sc := defScope s__law_kinds) (by decide +kernel)) (fun _ _ _ _ _ => (jg_name (i := 6) sc__law_kinds.nd rfl (by first | exact Or.inl rfl | exact Or.inr rfl))) (fun _ _ _ _ _ => jts_nil) (fun _ _ _ _ _ => (je_cmpR (op_eqJ hu) ro_eqJ (je_var 6) je_str (nomark _)))) (nomark _)) (je_sx hu (je_var 2) (je_var 4)) je_str)))))))))))))))
theorem sc__law_field : FnScope ["_law_e", "_law_word"] ["_law_e", "_law_word"] (defScope s__law_field) := ⟨rfl, rfl, rfl, by decide +kernel, rfl, by decide +kernel, by decide +kernel⟩
theorem ok__law_field (dn : DnF K mg "_law_field" s__law_field ["_law_e", "_law_word"]) (fv_base : ∀ x ∈ (["NoBase"] : List Str), ∀ C, ClsAt K x C → XfC K C ∧ PySem.W.findIn K (.ref C) "base" = some none) (fv_cell : ∀ x ∈ (["NoCell"] : List Str), ∀ C, ClsAt K x C → XfC K C ∧ PySem.W.findIn K (.ref C) "cell" = some none) (fv_depth : ∀ x ∈ (["NoDepth"] : List Str), ∀ C, ClsAt K x C → XfC K C ∧ PySem.W.findIn K (.ref C) "depth" = some none) (fv_row : ∀ x ∈ (["NoText"] : List Str), ∀ C, ClsAt K x C → XfC K C ∧ PySem.W.findIn K (.ref C) "row" = some none) (fv_at : ∀ x ∈ (["NoHistory", "NoBranch"] : List Str), ∀ C, ClsAt K x C → XfC K C ∧ PySem.W.findIn K (.ref C) "at" = some none) (fv_name : ∀ x ∈ (["NoName", "NoPart"] : List Str), ∀ C, ClsAt K x C → XfC K C ∧ PySem.W.findIn K (.ref C) "name" = some none) (fv_number : ∀ x ∈ (["NoNumber"] : List Str), ∀ C, ClsAt K x C → XfC K C ∧ PySem.W.findIn K (.ref C) "number" = some none) (fv_run : ∀ x ∈ (["NoRun", "NoAnswer", "NotAsked", "Over"] : List Str), ∀ C, ClsAt K x C → XfC K C ∧ PySem.W.findIn K (.ref C) "run" = some none) : OkF P w K mg base "_law_field" 2 F__law_field 1 := by
  obtain ⟨f, fd, F, b, g⟩ := dn
  refine ⟨f, fd, _, g, F.kp, b, okJ (N := ["_law_e", "_law_word"]) (k := 0) F sc__law_field fun cdv A outer s H E hr => ?_⟩
  have hu := hr.units
  exact (jss_cons (js_if (jt_cmpR (op_eqJ hu) ro_eqJ (je_var 1) je_str (nomark _)) (jss_one (js_ret (je_fldV (je_var 0) fv_base))) jss_nil)
    (jss_cons (js_if (jt_cmpR (op_eqJ hu) ro_eqJ (je_var 1) je_str (nomark _)) (jss_one (js_ret (je_fldV (je_var 0) fv_cell))) jss_nil)
    (jss_cons (js_if (jt_cmpR (op_eqJ hu) ro_eqJ (je_var 1) je_str (nomark _)) (jss_one (js_ret (je_fldV (je_var 0) fv_depth))) jss_nil)
    (jss_cons (js_if (jt_in hu (je_var 1) (je_tup (ja_cons je_str (ja_cons je_str (ja_cons je_str ja_nil))))) (jss_one (js_ret (je_ifExp (jt_cmpR (op_eqJ hu) ro_eqJ (je_var 1) je_str (nomark _)) (je_fldV (je_var 0) fv_row) (je_fldV (je_var 0) fv_at)))) jss_nil)
    (jss_cons (js_if (jt_in hu (je_var 1) (je_tup (ja_cons je_str (ja_cons je_str ja_nil)))) (jss_one (js_ret (je_fldV (je_var 0) fv_name))) jss_nil)
    (jss_one (js_ret (je_ifExp (jt_cmpR (op_eqJ hu) ro_eqJ (je_var 1) je_str (nomark _)) (je_fldV (je_var 0) fv_number) (je_fldV (je_var 0) fv_run)))))))))
theorem sc_copied : FnScope ["thing", "item"] ["thing"] (defScope s_copied) := ⟨rfl, rfl, rfl, by decide +kernel, rfl, by decide +kernel, by decide +kernel⟩
theorem ok_copied (dn : DnF K mg "copied" s_copied ["thing"]) (m_isinstance : mg "isinstance" = none) (m_list : mg "list" = none) (m_tuple : mg "tuple" = none) : OkF P w K mg base "copied" 1 F_copied 6 := by
  obtain ⟨f, fd, F, b, g⟩ := dn
  have all : ∀ n, FnOk P w K mg base CX0 (1 + n) f fd ["thing"] (spJ P w K 1 (F_copied_n n)) := by
    intro n
    induction n with
    | zero => exact okF_none
    | succ n ih0 =>
      refine okJ (N := ["thing", "item"]) (k := 1 + n) F sc_copied fun cdv A outer s H E hr => ?_
      have hu := hr.units
      have ih : OkF P w K mg base "copied" 1 (F_copied_n n) (1 + n) := ⟨f, fd, _, g, F.kp, b, ih0⟩
      exact (jss_cons (js_if (jt_truth (je_callB call_isi rc_isi (by rfl) m_isinstance (by decide +kernel) (ja_cons (je_var 0) (ja_cons (je_bltn (v := .ty "list") (by rfl) m_list (by decide +kernel) rfl) ja_nil)))) (jss_one (js_ret (je_lc (own := [("item", 1)]) (by rfl) sc_copied.nd (ji_seq (je_var 0)) (blkOk_by (N := ["thing", "item"]) (sc := defScope s_copied) (by decide +kernel)) (fun _ _ _ _ _ => (jg_name (i := 1) sc_copied.nd rfl (by first | exact Or.inl rfl | exact Or.inr rfl))) (fun _ _ _ _ _ => jts_nil) (fun _ _ _ _ _ => (je_callF ih hr (by rfl) (ja_cons (je_var 1) ja_nil) (by omega)))))) jss_nil)
    (jss_cons (js_if (jt_truth (je_callB call_isi rc_isi (by rfl) m_isinstance (by decide +kernel) (ja_cons (je_var 0) (ja_cons (je_bltn (v := .ty "tuple") (by rfl) m_tuple (by decide +kernel) rfl) ja_nil)))) (jss_one (js_ret (je_callTy call_tuple_of rc_tuple (by rfl) m_tuple (by decide +kernel) (ja_cons (je_lc (own := [("item", 1)]) (by rfl) sc_copied.nd (ji_seq (je_var 0)) (blkOk_by (N := ["thing", "item"]) (sc := defScope s_copied) (by decide +kernel)) (fun _ _ _ _ _ => (jg_name (i := 1) sc_copied.nd rfl (by first | exact Or.inl rfl | exact Or.inr rfl))) (fun _ _ _ _ _ => jts_nil) (fun _ _ _ _ _ => (je_callF ih hr (by rfl) (ja_cons (je_var 1) ja_nil) (by omega)))) ja_nil)))) jss_nil)
    (jss_one (js_ret (je_var 0)))))
  exact ⟨f, fd, _, g, F.kp, b, all 5⟩
theorem sc_law : FnScope ["_law_script", "_law_turn", "_law_bag_here", "_law_one", "_law_other", "_law_pairs", "_law_word", "_law_first", "_law_second", "_law_bare", "_law_e"] ["_law_script"] (defScope s_law) := ⟨rfl, rfl, rfl, by decide +kernel, rfl, by decide +kernel, by decide +kernel⟩
theorem run_law {f : Addr} {fd : FuncData} (F : Fun K "law" "law" s_law f fd) (h__law_bag : OkF P w K mg base "_law_bag" 2 F__law_bag 1) (h__law_any : OkF P w K mg base "_law_any" 1 F__law_any 2) (ca_NoText : ∀ C, mg "NoText" = some (.ref C) → ClsAt K "NoText" C) (x_NoText : ∃ C fI, OxT K mg "NoText" "row" C fI "ValueError.__new__" [.type "ValueError", .type "Exception", .type "BaseException", .type "object"] s_NoText___init__ "NoText.__init__") (ca_NoBase : ∀ C, mg "NoBase" = some (.ref C) → ClsAt K "NoBase" C) (x_NoBase : ∃ C fI, OxT K mg "NoBase" "base" C fI "ValueError.__new__" [.type "ValueError", .type "Exception", .type "BaseException", .type "object"] s_NoBase___init__ "NoBase.__init__") (h_copied : OkF P w K mg base "copied" 1 F_copied 6) (ca_NoPart : ∀ C, mg "NoPart" = some (.ref C) → ClsAt K "NoPart" C) (x_NoPart : ∃ C fI, OxT K mg "NoPart" "name" C fI "LookupError.__new__" [.type "KeyError", .type "LookupError", .type "Exception", .type "BaseException", .type "object"] s_NoPart___init__ "NoPart.__init__") (ca_NoName : ∀ C, mg "NoName" = some (.ref C) → ClsAt K "NoName" C) (x_NoName : ∃ C fI, OxT K mg "NoName" "name" C fI "ValueError.__new__" [.type "ValueError", .type "Exception", .type "BaseException", .type "object"] s_NoName___init__ "NoName.__init__") (ca_NoNumber : ∀ C, mg "NoNumber" = some (.ref C) → ClsAt K "NoNumber" C) (x_NoNumber : ∃ C fI, OxT K mg "NoNumber" "number" C fI "ValueError.__new__" [.type "ValueError", .type "Exception", .type "BaseException", .type "object"] s_NoNumber___init__ "NoNumber.__init__") (ca_NoRun : ∀ C, mg "NoRun" = some (.ref C) → ClsAt K "NoRun" C) (x_NoRun : ∃ C fI, OxT K mg "NoRun" "run" C fI "LookupError.__new__" [.type "KeyError", .type "LookupError", .type "Exception", .type "BaseException", .type "object"] s_NoRun___init__ "NoRun.__init__") (ca_NoHistory : ∀ C, mg "NoHistory" = some (.ref C) → ClsAt K "NoHistory" C) (x_NoHistory : ∃ C fI, OxT K mg "NoHistory" "at" C fI "ValueError.__new__" [.type "ValueError", .type "Exception", .type "BaseException", .type "object"] s_NoHistory___init__ "NoHistory.__init__") (ca_NoCell : ∀ C, mg "NoCell" = some (.ref C) → ClsAt K "NoCell" C) (x_NoCell : ∃ C fI, OxT K mg "NoCell" "cell" C fI "IndexError.__new__" [.type "IndexError", .type "LookupError", .type "Exception", .type "BaseException", .type "object"] s_NoCell___init__ "NoCell.__init__") (ca_NoBranch : ∀ C, mg "NoBranch" = some (.ref C) → ClsAt K "NoBranch" C) (x_NoBranch : ∃ C fI, OxT K mg "NoBranch" "at" C fI "IndexError.__new__" [.type "IndexError", .type "LookupError", .type "Exception", .type "BaseException", .type "object"] s_NoBranch___init__ "NoBranch.__init__") (ca_Over : ∀ C, mg "Over" = some (.ref C) → ClsAt K "Over" C) (x_Over : ∃ C fI, OxT K mg "Over" "run" C fI "RuntimeError.__new__" [.type "RuntimeError", .type "Exception", .type "BaseException", .type "object"] s_Over___init__ "Over.__init__") (ca_NoDepth : ∀ C, mg "NoDepth" = some (.ref C) → ClsAt K "NoDepth" C) (x_NoDepth : ∃ C fI, OxT K mg "NoDepth" "depth" C fI "IndexError.__new__" [.type "IndexError", .type "LookupError", .type "Exception", .type "BaseException", .type "object"] s_NoDepth___init__ "NoDepth.__init__") (ca_NoAnswer : ∀ C, mg "NoAnswer" = some (.ref C) → ClsAt K "NoAnswer" C) (x_NoAnswer : ∃ C fI, OxT K mg "NoAnswer" "run" C fI "LookupError.__new__" [.type "LookupError", .type "Exception", .type "BaseException", .type "object"] s_NoAnswer___init__ "NoAnswer.__init__") (ca_NotAsked : ∀ C, mg "NotAsked" = some (.ref C) → ClsAt K "NotAsked" C) (x_NotAsked : ∃ C fI, OxT K mg "NotAsked" "run" C fI "RuntimeError.__new__" [.type "RuntimeError", .type "Exception", .type "BaseException", .type "object"] s_NotAsked___init__ "NotAsked.__init__") (h__law_kinds : OkF P w K mg base "_law_kinds" 1 F__law_kinds 1) (m_repr : mg "repr" = none) (h__law_field : OkF P w K mg base "_law_field" 2 F__law_field 1) (ca_NoCommand : ∀ C, mg "NoCommand" = some (.ref C) → ClsAt K "NoCommand" C) (x_NoCommand : ∃ C, Ox0 K mg "NoCommand" C "ValueError.__new__" [.type "ValueError", .type "Exception", .type "BaseException", .type "object"]) (ca_NoStand : ∀ C, mg "NoStand" = some (.ref C) → ClsAt K "NoStand" C) (x_NoStand : ∃ C, Ox0 K mg "NoStand" C "ValueError.__new__" [.type "ValueError", .type "Exception", .type "BaseException", .type "object"]) (ca_NoRows : ∀ C, mg "NoRows" = some (.ref C) → ClsAt K "NoRows" C) (x_NoRows : ∃ C, Ox0 K mg "NoRows" C "ValueError.__new__" [.type "ValueError", .type "Exception", .type "BaseException", .type "object"]) (m_range : mg "range" = none) (m_max : mg "max" = none) (m_min : mg "min" = none) (m_len : mg "len" = none) {bs : Heap} (e : bs = base) {H : Hp} {t : Shared} {a : Addr} {ns : List Int} (env0 : Env0 P w K mg bs callerA [] t H) (sq : SqL K H a (ns.map V.int)) (hF : ∃ S', F_law [.scr (ns.map .int)] [] = some (.bl true, S')) :
    codeAny (model P w) callerA (.call (.ref f) ⟨[.ref a], []⟩) (CR CX0 [] P w H t (fun v _ => v = .bl true) fun _ _ _ => False) t := by
  subst e
  obtain ⟨oc, od, kV, doc, pm, an, cdv, ct, osl, rfl, lk, hcd⟩ := F.ex
  obtain ⟨C_NoText, fI_NoText, T_NoText⟩ := x_NoText
  obtain ⟨C_NoBase, fI_NoBase, T_NoBase⟩ := x_NoBase
  obtain ⟨C_NoPart, fI_NoPart, T_NoPart⟩ := x_NoPart
  obtain ⟨C_NoName, fI_NoName, T_NoName⟩ := x_NoName
  obtain ⟨C_NoNumber, fI_NoNumber, T_NoNumber⟩ := x_NoNumber
  obtain ⟨C_NoRun, fI_NoRun, T_NoRun⟩ := x_NoRun
  obtain ⟨C_NoHistory, fI_NoHistory, T_NoHistory⟩ := x_NoHistory
  obtain ⟨C_NoCell, fI_NoCell, T_NoCell⟩ := x_NoCell
  obtain ⟨C_NoBranch, fI_NoBranch, T_NoBranch⟩ := x_NoBranch
  obtain ⟨C_Over, fI_Over, T_Over⟩ := x_Over
  obtain ⟨C_NoDepth, fI_NoDepth, T_NoDepth⟩ := x_NoDepth
  obtain ⟨C_NoAnswer, fI_NoAnswer, T_NoAnswer⟩ := x_NoAnswer
  obtain ⟨C_NotAsked, fI_NotAsked, T_NotAsked⟩ := x_NotAsked
  obtain ⟨C_NoCommand, T_NoCommand⟩ := x_NoCommand
  obtain ⟨C_NoStand, T_NoStand⟩ := x_NoStand
  obtain ⟨C_NoRows, T_NoRows⟩ := x_NoRows
  refine Kx.run_at (k := 8) (N := ["_law_script", "_law_turn", "_law_bag_here", "_law_one", "_law_other", "_law_pairs", "_law_word", "_law_first", "_law_second", "_law_bare", "_law_e"]) (ps := ["_law_script"]) (us := [.ref a]) (vs := [.ref a]) lk hcd sc_law rfl ⟨rfl, by decide, by decide⟩ env0 (.of_eq rfl) (.cons rfl .nil) fun hr => ?_
  have hu := hr.units
  have hg : callerA.guards = some [] := rfl
  exact law_end (N := ["_law_script", "_law_turn", "_law_bag_here", "_law_one", "_law_other", "_law_pairs", "_law_word", "_law_first", "_law_second", "_law_bare", "_law_e"]) ((jss_cons (js_for PassesOwn.never rfl (ji_range1 (by rfl) m_range (ja_cons (je_callB (call_max2 rfl) rc_max2 (by rfl) m_max (by decide +kernel) (ja_cons je_int (ja_cons (je_callB (call_min2 rfl) rc_min2 (by rfl) m_min (by decide +kernel) (ja_cons je_int (ja_cons (je_callB call_lenJ rc_len (by rfl) m_len PySem.boot_len (ja_cons (je_var 0) ja_nil)) ja_nil))) ja_nil))) ja_nil)) (jg_name (i := 1) sc_law.nd rfl (by first | exact Or.inl rfl | exact Or.inr rfl)) (jss_cons (js_set (i := 2) sc_law.nd rfl (by first | exact Or.inl rfl | exact Or.inr rfl) (je_callF h__law_bag hr (by rfl) (ja_cons (je_var 0) (ja_cons (je_var 1) ja_nil)) (by decide)))
    (jss_cons (js_par (i := 3) (j := 4) (by rfl) sc_law.nd rfl rfl (by decide) rfl rfl (ja_cons (je_callF h__law_any hr (by rfl) (ja_cons (je_var 2) ja_nil) (by decide)) (ja_cons (je_callF h__law_any hr (by rfl) (ja_cons (je_var 2) ja_nil) (by decide)) ja_nil)) (by rfl))
    (jss_cons (js_set (i := 5) sc_law.nd rfl (by first | exact Or.inl rfl | exact Or.inr rfl) (je_lstN (ja_cons (je_tup (ja_cons je_str (ja_cons (je_exc (N := ["self", "base"]) (j := 6) T_NoBase (ca_NoBase _ T_NoBase.gC) PySem.F.excBase_ValueError abv_ValueError PySem.F.store_ValueError (by decide +kernel) sc_NoBase___init__ rfl (Or.inl rfl) (by decide) rfl (fun _ => rfl) hr (by decide) (fun cdv A outer s H hr => (je_callF h_copied hr (by rfl) (ja_cons (je_var 1) ja_nil) (by decide))) (fun _ _ _ _ _ _ _ _ _ => .of_eq rfl) (je_var 3) (by rfl)) (ja_cons (je_excK (N := ["self", "base"]) (j := 6) T_NoBase (ca_NoBase _ T_NoBase.gC) PySem.F.excBase_ValueError abv_ValueError PySem.F.store_ValueError (by decide +kernel) sc_NoBase___init__ rfl (Or.inl rfl) (by decide) rfl (fun _ => rfl) hr (by decide) (fun cdv A outer s H hr => (je_callF h_copied hr (by rfl) (ja_cons (je_var 1) ja_nil) (by decide))) (fun _ _ _ _ _ _ _ _ _ => .of_eq rfl) (jk_cons (je_var 4) jk_nil) (by rfl)) ja_nil)))) (ja_cons (je_tup (ja_cons je_str (ja_cons (je_exc (N := ["self", "row"]) (j := 0) T_NoText (ca_NoText _ T_NoText.gC) PySem.F.excBase_ValueError abv_ValueError PySem.F.store_ValueError (by decide +kernel) sc_NoText___init__ rfl (Or.inl rfl) (by decide) rfl (fun _ => rfl) hr (by decide) (fun cdv A outer s H hr => (je_var 1)) (fun _ _ _ _ _ _ _ _ _ => .of_eq rfl) (je_var 3) (by rfl)) (ja_cons (je_excK (N := ["self", "row"]) (j := 0) T_NoText (ca_NoText _ T_NoText.gC) PySem.F.excBase_ValueError abv_ValueError PySem.F.store_ValueError (by decide +kernel) sc_NoText___init__ rfl (Or.inl rfl) (by decide) rfl (fun _ => rfl) hr (by decide) (fun cdv A outer s H hr => (je_var 1)) (fun _ _ _ _ _ _ _ _ _ => .of_eq rfl) (jk_cons (je_var 4) jk_nil) (by rfl)) ja_nil)))) ja_nil))))
    (jss_cons (js_set (i := 5) sc_law.nd rfl (by first | exact Or.inl rfl | exact Or.inr rfl) (je_catN (je_var 5) (je_lstN (ja_cons (je_tup (ja_cons je_str (ja_cons (je_exc (N := ["self", "name"]) (j := 6) T_NoName (ca_NoName _ T_NoName.gC) PySem.F.excBase_ValueError abv_ValueError PySem.F.store_ValueError (by decide +kernel) sc_NoName___init__ rfl (Or.inl rfl) (by decide) rfl (fun _ => rfl) hr (by decide) (fun cdv A outer s H hr => (je_callF h_copied hr (by rfl) (ja_cons (je_var 1) ja_nil) (by decide))) (fun _ _ _ _ _ _ _ _ _ => .of_eq rfl) (je_var 3) (by rfl)) (ja_cons (je_excK (N := ["self", "name"]) (j := 6) T_NoName (ca_NoName _ T_NoName.gC) PySem.F.excBase_ValueError abv_ValueError PySem.F.store_ValueError (by decide +kernel) sc_NoName___init__ rfl (Or.inl rfl) (by decide) rfl (fun _ => rfl) hr (by decide) (fun cdv A outer s H hr => (je_callF h_copied hr (by rfl) (ja_cons (je_var 1) ja_nil) (by decide))) (fun _ _ _ _ _ _ _ _ _ => .of_eq rfl) (jk_cons (je_var 4) jk_nil) (by rfl)) ja_nil)))) (ja_cons (je_tup (ja_cons je_str (ja_cons (je_exc (N := ["self", "name"]) (j := 6) T_NoPart (ca_NoPart _ T_NoPart.gC) PySem.F.excBase_LookupError abvKey storeKey (by decide +kernel) sc_NoPart___init__ rfl (Or.inl rfl) (by decide) rfl (fun _ => rfl) hr (by decide) (fun cdv A outer s H hr => (je_callF h_copied hr (by rfl) (ja_cons (je_var 1) ja_nil) (by decide))) (fun _ _ _ _ _ _ _ _ _ => .of_eq rfl) (je_var 3) (by rfl)) (ja_cons (je_excK (N := ["self", "name"]) (j := 6) T_NoPart (ca_NoPart _ T_NoPart.gC) PySem.F.excBase_LookupError abvKey storeKey (by decide +kernel) sc_NoPart___init__ rfl (Or.inl rfl) (by decide) rfl (fun _ => rfl) hr (by decide) (fun cdv A outer s H hr => (je_callF h_copied hr (by rfl) (ja_cons (je_var 1) ja_nil) (by decide))) (fun _ _ _ _ _ _ _ _ _ => .of_eq rfl) (jk_cons (je_var 4) jk_nil) (by rfl)) ja_nil)))) ja_nil)))))
    (jss_cons (js_set (i := 5) sc_law.nd rfl (by first | exact Or.inl rfl | exact Or.inr rfl) (je_catN (je_var 5) (je_lstN (ja_cons (je_tup (ja_cons je_str (ja_cons (je_exc (N := ["self", "number"]) (j := 6) T_NoNumber (ca_NoNumber _ T_NoNumber.gC) PySem.F.excBase_ValueError abv_ValueError PySem.F.store_ValueError (by decide +kernel) sc_NoNumber___init__ rfl (Or.inl rfl) (by decide) rfl (fun _ => rfl) hr (by decide) (fun cdv A outer s H hr => (je_callF h_copied hr (by rfl) (ja_cons (je_var 1) ja_nil) (by decide))) (fun _ _ _ _ _ _ _ _ _ => .of_eq rfl) (je_var 3) (by rfl)) (ja_cons (je_excK (N := ["self", "number"]) (j := 6) T_NoNumber (ca_NoNumber _ T_NoNumber.gC) PySem.F.excBase_ValueError abv_ValueError PySem.F.store_ValueError (by decide +kernel) sc_NoNumber___init__ rfl (Or.inl rfl) (by decide) rfl (fun _ => rfl) hr (by decide) (fun cdv A outer s H hr => (je_callF h_copied hr (by rfl) (ja_cons (je_var 1) ja_nil) (by decide))) (fun _ _ _ _ _ _ _ _ _ => .of_eq rfl) (jk_cons (je_var 4) jk_nil) (by rfl)) ja_nil)))) ja_nil))))
    (jss_cons (js_set (i := 5) sc_law.nd rfl (by first | exact Or.inl rfl | exact Or.inr rfl) (je_catN (je_var 5) (je_lstN (ja_cons (je_tup (ja_cons je_str (ja_cons (je_exc (N := ["self", "at"]) (j := 0) T_NoHistory (ca_NoHistory _ T_NoHistory.gC) PySem.F.excBase_ValueError abv_ValueError PySem.F.store_ValueError (by decide +kernel) sc_NoHistory___init__ rfl (Or.inl rfl) (by decide) rfl (fun _ => rfl) hr (by decide) (fun cdv A outer s H hr => (je_var 1)) (fun _ _ _ _ _ _ _ _ _ => .of_eq rfl) (je_var 3) (by rfl)) (ja_cons (je_excK (N := ["self", "at"]) (j := 0) T_NoHistory (ca_NoHistory _ T_NoHistory.gC) PySem.F.excBase_ValueError abv_ValueError PySem.F.store_ValueError (by decide +kernel) sc_NoHistory___init__ rfl (Or.inl rfl) (by decide) rfl (fun _ => rfl) hr (by decide) (fun cdv A outer s H hr => (je_var 1)) (fun _ _ _ _ _ _ _ _ _ => .of_eq rfl) (jk_cons (je_var 4) jk_nil) (by rfl)) ja_nil)))) (ja_cons (je_tup (ja_cons je_str (ja_cons (je_exc (N := ["self", "run"]) (j := 6) T_NoRun (ca_NoRun _ T_NoRun.gC) PySem.F.excBase_LookupError abvKey storeKey (by decide +kernel) sc_NoRun___init__ rfl (Or.inl rfl) (by decide) rfl (fun _ => rfl) hr (by decide) (fun cdv A outer s H hr => (je_callF h_copied hr (by rfl) (ja_cons (je_var 1) ja_nil) (by decide))) (fun _ _ _ _ _ _ _ _ _ => .of_eq rfl) (je_var 3) (by rfl)) (ja_cons (je_excK (N := ["self", "run"]) (j := 6) T_NoRun (ca_NoRun _ T_NoRun.gC) PySem.F.excBase_LookupError abvKey storeKey (by decide +kernel) sc_NoRun___init__ rfl (Or.inl rfl) (by decide) rfl (fun _ => rfl) hr (by decide) (fun cdv A outer s H hr => (je_callF h_copied hr (by rfl) (ja_cons (je_var 1) ja_nil) (by decide))) (fun _ _ _ _ _ _ _ _ _ => .of_eq rfl) (jk_cons (je_var 4) jk_nil) (by rfl)) ja_nil)))) ja_nil)))))
    (jss_cons (js_set (i := 5) sc_law.nd rfl (by first | exact Or.inl rfl | exact Or.inr rfl) (je_catN (je_var 5) (je_lstN (ja_cons (je_tup (ja_cons je_str (ja_cons (je_exc (N := ["self", "at"]) (j := 0) T_NoBranch (ca_NoBranch _ T_NoBranch.gC) PySem.F.excBase_IndexError abv_IndexError PySem.F.store_IndexError (by decide +kernel) sc_NoBranch___init__ rfl (Or.inl rfl) (by decide) rfl (fun _ => rfl) hr (by decide) (fun cdv A outer s H hr => (je_var 1)) (fun _ _ _ _ _ _ _ _ _ => .of_eq rfl) (je_var 3) (by rfl)) (ja_cons (je_excK (N := ["self", "at"]) (j := 0) T_NoBranch (ca_NoBranch _ T_NoBranch.gC) PySem.F.excBase_IndexError abv_IndexError PySem.F.store_IndexError (by decide +kernel) sc_NoBranch___init__ rfl (Or.inl rfl) (by decide) rfl (fun _ => rfl) hr (by decide) (fun cdv A outer s H hr => (je_var 1)) (fun _ _ _ _ _ _ _ _ _ => .of_eq rfl) (jk_cons (je_var 4) jk_nil) (by rfl)) ja_nil)))) (ja_cons (je_tup (ja_cons je_str (ja_cons (je_exc (N := ["self", "cell"]) (j := 6) T_NoCell (ca_NoCell _ T_NoCell.gC) PySem.F.excBase_IndexError abv_IndexError PySem.F.store_IndexError (by decide +kernel) sc_NoCell___init__ rfl (Or.inl rfl) (by decide) rfl (fun _ => rfl) hr (by decide) (fun cdv A outer s H hr => (je_callF h_copied hr (by rfl) (ja_cons (je_var 1) ja_nil) (by decide))) (fun _ _ _ _ _ _ _ _ _ => .of_eq rfl) (je_var 3) (by rfl)) (ja_cons (je_excK (N := ["self", "cell"]) (j := 6) T_NoCell (ca_NoCell _ T_NoCell.gC) PySem.F.excBase_IndexError abv_IndexError PySem.F.store_IndexError (by decide +kernel) sc_NoCell___init__ rfl (Or.inl rfl) (by decide) rfl (fun _ => rfl) hr (by decide) (fun cdv A outer s H hr => (je_callF h_copied hr (by rfl) (ja_cons (je_var 1) ja_nil) (by decide))) (fun _ _ _ _ _ _ _ _ _ => .of_eq rfl) (jk_cons (je_var 4) jk_nil) (by rfl)) ja_nil)))) ja_nil)))))
    (jss_cons (js_set (i := 5) sc_law.nd rfl (by first | exact Or.inl rfl | exact Or.inr rfl) (je_catN (je_var 5) (je_lstN (ja_cons (je_tup (ja_cons je_str (ja_cons (je_exc (N := ["self", "depth"]) (j := 6) T_NoDepth (ca_NoDepth _ T_NoDepth.gC) PySem.F.excBase_IndexError abv_IndexError PySem.F.store_IndexError (by decide +kernel) sc_NoDepth___init__ rfl (Or.inl rfl) (by decide) rfl (fun _ => rfl) hr (by decide) (fun cdv A outer s H hr => (je_callF h_copied hr (by rfl) (ja_cons (je_var 1) ja_nil) (by decide))) (fun _ _ _ _ _ _ _ _ _ => .of_eq rfl) (je_var 3) (by rfl)) (ja_cons (je_excK (N := ["self", "depth"]) (j := 6) T_NoDepth (ca_NoDepth _ T_NoDepth.gC) PySem.F.excBase_IndexError abv_IndexError PySem.F.store_IndexError (by decide +kernel) sc_NoDepth___init__ rfl (Or.inl rfl) (by decide) rfl (fun _ => rfl) hr (by decide) (fun cdv A outer s H hr => (je_callF h_copied hr (by rfl) (ja_cons (je_var 1) ja_nil) (by decide))) (fun _ _ _ _ _ _ _ _ _ => .of_eq rfl) (jk_cons (je_var 4) jk_nil) (by rfl)) ja_nil)))) (ja_cons (je_tup (ja_cons je_str (ja_cons (je_exc (N := ["self", "run"]) (j := 0) T_Over (ca_Over _ T_Over.gC) PySem.F.excBase_RuntimeError abv_RuntimeError PySem.F.store_RuntimeError (by decide +kernel) sc_Over___init__ rfl (Or.inl rfl) (by decide) rfl (fun _ => rfl) hr (by decide) (fun cdv A outer s H hr => (je_var 1)) (fun _ _ _ _ _ _ _ _ _ => .of_eq rfl) (je_var 3) (by rfl)) (ja_cons (je_excK (N := ["self", "run"]) (j := 0) T_Over (ca_Over _ T_Over.gC) PySem.F.excBase_RuntimeError abv_RuntimeError PySem.F.store_RuntimeError (by decide +kernel) sc_Over___init__ rfl (Or.inl rfl) (by decide) rfl (fun _ => rfl) hr (by decide) (fun cdv A outer s H hr => (je_var 1)) (fun _ _ _ _ _ _ _ _ _ => .of_eq rfl) (jk_cons (je_var 4) jk_nil) (by rfl)) ja_nil)))) ja_nil)))))
    (jss_cons (js_expr (je_bm PySem.F.plainAttrs_list PySem.F.slot_list_append PySem.F.type_list_append mt_append rm_app (je_var 5) (ja_cons (je_tup (ja_cons je_str (ja_cons (je_exc (N := ["self", "run"]) (j := 0) T_NoAnswer (ca_NoAnswer _ T_NoAnswer.gC) PySem.F.excBase_LookupError abv_LookupError PySem.F.store_LookupError (by decide +kernel) sc_NoAnswer___init__ rfl (Or.inl rfl) (by decide) rfl (fun _ => rfl) hr (by decide) (fun cdv A outer s H hr => (je_var 1)) (fun _ _ _ _ _ _ _ _ _ => .of_eq rfl) (je_var 3) (by rfl)) (ja_cons (je_excK (N := ["self", "run"]) (j := 0) T_NoAnswer (ca_NoAnswer _ T_NoAnswer.gC) PySem.F.excBase_LookupError abv_LookupError PySem.F.store_LookupError (by decide +kernel) sc_NoAnswer___init__ rfl (Or.inl rfl) (by decide) rfl (fun _ => rfl) hr (by decide) (fun cdv A outer s H hr => (je_var 1)) (fun _ _ _ _ _ _ _ _ _ => .of_eq rfl) (jk_cons (je_var 4) jk_nil) (by rfl)) ja_nil)))) ja_nil)))
    (jss_cons (js_expr (je_bm PySem.F.plainAttrs_list PySem.F.slot_list_append PySem.F.type_list_append mt_append rm_app (je_var 5) (ja_cons (je_tup (ja_cons je_str (ja_cons (je_exc (N := ["self", "run"]) (j := 0) T_NotAsked (ca_NotAsked _ T_NotAsked.gC) PySem.F.excBase_RuntimeError abv_RuntimeError PySem.F.store_RuntimeError (by decide +kernel) sc_NotAsked___init__ rfl (Or.inl rfl) (by decide) rfl (fun _ => rfl) hr (by decide) (fun cdv A outer s H hr => (je_var 1)) (fun _ _ _ _ _ _ _ _ _ => .of_eq rfl) (je_var 3) (by rfl)) (ja_cons (je_excK (N := ["self", "run"]) (j := 0) T_NotAsked (ca_NotAsked _ T_NotAsked.gC) PySem.F.excBase_RuntimeError abv_RuntimeError PySem.F.store_RuntimeError (by decide +kernel) sc_NotAsked___init__ rfl (Or.inl rfl) (by decide) rfl (fun _ => rfl) hr (by decide) (fun cdv A outer s H hr => (je_var 1)) (fun _ _ _ _ _ _ _ _ _ => .of_eq rfl) (jk_cons (je_var 4) jk_nil) (by rfl)) ja_nil)))) ja_nil)))
    (jss_cons (js_forC PassesOwn.never rfl (jic_seqO (je_var 5)) (jg_tup (by rfl) (jgs_cons (jg_name (i := 6) sc_law.nd rfl (by first | exact Or.inl rfl | exact Or.inr rfl)) (jgs_cons (jg_name (i := 7) sc_law.nd rfl (by first | exact Or.inl rfl | exact Or.inr rfl)) (jgs_cons (jg_name (i := 8) sc_law.nd rfl (by first | exact Or.inl rfl | exact Or.inr rfl)) jgs_nil)))) (jss_cons (js_if (JW.jt (jw_or (jt_cmpR (op_neJ hu) ro_neJ (je_callF h__law_kinds hr (by rfl) (ja_cons (je_var 7) ja_nil) (by decide)) (je_var 6) (nomark _)) (jw_or1 (jt_cmpR (op_neJ hu) ro_neJ (je_callF h__law_kinds hr (by rfl) (ja_cons (je_var 8) ja_nil) (by decide)) (je_var 6) (nomark _))))) (jss_one (js_ret je_bl)) jss_nil)
    (jss_one (js_if (JW.jt (jw_or (jt_cmpR (op_neJ hu) ro_neJ (je_callB (cr_reprD hg hu) rc_reprD (by rfl) m_repr (by decide +kernel) (ja_cons (je_callF h__law_field hr (by rfl) (ja_cons (je_var 7) (ja_cons (je_var 6) ja_nil)) (by decide)) ja_nil)) (je_callB (cr_reprD hg hu) rc_reprD (by rfl) m_repr (by decide +kernel) (ja_cons (je_var 3) ja_nil)) (nomark _)) (jw_or1 (jt_cmpR (op_neJ hu) ro_neJ (je_callB (cr_reprD hg hu) rc_reprD (by rfl) m_repr (by decide +kernel) (ja_cons (je_callF h__law_field hr (by rfl) (ja_cons (je_var 8) (ja_cons (je_var 6) ja_nil)) (by decide)) ja_nil)) (je_callB (cr_reprD hg hu) rc_reprD (by rfl) m_repr (by decide +kernel) (ja_cons (je_var 4) ja_nil)) (nomark _))))) (jss_one (js_ret je_bl)) jss_nil))))
    (jss_cons (js_set (i := 9) sc_law.nd rfl (by first | exact Or.inl rfl | exact Or.inr rfl) (je_lst (ja_cons (je_tup (ja_cons je_str (ja_cons (je_exc0 PySem.F.excBase_ValueError T_NoRows (ca_NoRows _ T_NoRows.gC) (by rfl)) ja_nil))) (ja_cons (je_tup (ja_cons je_str (ja_cons (je_exc0 PySem.F.excBase_ValueError T_NoStand (ca_NoStand _ T_NoStand.gC) (by rfl)) ja_nil))) (ja_cons (je_tup (ja_cons je_str (ja_cons (je_exc0 PySem.F.excBase_ValueError T_NoCommand (ca_NoCommand _ T_NoCommand.gC) (by rfl)) ja_nil))) ja_nil)))))
    (jss_one (js_if (jt_cmpR (op_neJ hu) ro_neJ (je_lc (own := [("_law_word", 6), ("_law_e", 10)]) (by rfl) sc_law.nd (ji_seq (je_var 9)) (blkOk_by (N := ["_law_script", "_law_turn", "_law_bag_here", "_law_one", "_law_other", "_law_pairs", "_law_word", "_law_first", "_law_second", "_law_bare", "_law_e"]) (sc := defScope s_law) (by decide +kernel)) (fun _ _ _ _ _ => (jg_tup (by rfl) (jgs_cons (jg_name (i := 6) sc_law.nd rfl (by first | exact Or.inl rfl | exact Or.inr rfl)) (jgs_cons (jg_name (i := 10) sc_law.nd rfl (by first | exact Or.inl rfl | exact Or.inr rfl)) jgs_nil)))) (fun _ _ _ _ _ => jts_nil) (fun _ _ _ _ _ => (je_callF h__law_kinds hr (by rfl) (ja_cons (je_var 10) ja_nil) (by decide)))) (je_lc (own := [("_law_word", 6), ("_law_e", 10)]) (by rfl) sc_law.nd (ji_seq (je_var 9)) (blkOk_by (N := ["_law_script", "_law_turn", "_law_bag_here", "_law_one", "_law_other", "_law_pairs", "_law_word", "_law_first", "_law_second", "_law_bare", "_law_e"]) (sc := defScope s_law) (by decide +kernel)) (fun _ _ _ _ _ => (jg_tup (by rfl) (jgs_cons (jg_name (i := 6) sc_law.nd rfl (by first | exact Or.inl rfl | exact Or.inr rfl)) (jgs_cons (jg_name (i := 10) sc_law.nd rfl (by first | exact Or.inl rfl | exact Or.inr rfl)) jgs_nil)))) (fun _ _ _ _ _ => jts_nil) (fun _ _ _ _ _ => (je_var 6))) (nomark _)) (jss_one (js_ret je_bl)) jss_nil)))))))))))))))
    (jss_one (js_ret je_bl)))) sq hF
end
end J

set_option autoImplicit false
/-! the tables of the methods that make lambdas, by facts -/
namespace J
open PySem PySem.Spec PyProof.Rows L2 LamX
variable {K : PySem.W.Frag} {h : Heap} {mg : Str → Option Value}
end J

set_option autoImplicit false
namespace J
open PySem PySem.Spec PyProof.Rows L2
variable {K : PySem.W.Frag}
theorem lookup_mem {row : List (Str × Bool)} {x : Str} {b : Bool} (h : List.lookup x row = some b) : (x, b) ∈ row := by
  induction row with
  | nil => cases h
  | cons p row ih =>
    obtain ⟨y, c⟩ := p
    rw [List.lookup_cons] at h
    split at h
    · rename_i e
      cases h
      rw [eq_of_beq e]
      exact List.mem_cons_self ..
    · exact List.mem_cons_of_mem _ (ih h)
theorem kitRow_ok {y : Str} {row : List (Str × Bool)} (k : kitRowB K y row = true) (a : excAllB K (row.map (·.1)) = true) {x : Str} {C : Addr} {b : Bool} (h : List.lookup x row = some b) (hC : ClsAt K x C) : ExcC K C ∧ PySem.W.kitOne K (.ref C) (.ref (He.ga K y)) = some b := by
  have m := lookup_mem h
  have e1 := List.all_eq_true.mp a x (List.mem_map.mpr ⟨_, m, rfl⟩)
  have e2 := List.all_eq_true.mp k _ m
  have g : He.ga K x = C := by
    unfold He.ga
    rw [show PySem.W.nsIn K mainGlobals x = some (some (.ref C)) from hC]
  rw [← g]
  exact ⟨excC_of e1, of_decide_eq_true e2⟩
theorem kitRowT_ok {t : String} {row : List (Str × Bool)} (k : kitRowT K t row = true) (a : excAllB K (row.map (·.1)) = true) {x : Str} {C : Addr} {b : Bool} (h : List.lookup x row = some b) (hC : ClsAt K x C) : ExcC K C ∧ PySem.W.kitOne K (.ref C) (.type t) = some b := by
  have m := lookup_mem h
  have e1 := List.all_eq_true.mp a x (List.mem_map.mpr ⟨_, m, rfl⟩)
  have e2 := List.all_eq_true.mp k _ m
  have g : He.ga K x = C := by
    unfold He.ga
    rw [show PySem.W.nsIn K mainGlobals x = some (some (.ref C)) from hC]
  rw [← g]
  exact ⟨excC_of e1, of_decide_eq_true e2⟩
theorem clsAt_mg {h : Heap} {mg : Str → Option Value} (X : K.In h) (G : h.Ns mainGlobals mg) {x : Str} (g : (He.Fa.glo x).ok K = true) : ∀ C, mg x = some (.ref C) → ClsAt K x C := fun C hc => by
  cases hc.symm.trans (He.glo_ok X G g)
  exact clsAt_of g
end J

set_option autoImplicit false
namespace J
open PySem PySem.Spec PyProof.Rows L2
theorem hfacts {P : Program} {w : World} {K : PySem.W.Frag} {h : Heap} {mg : Str → Option Value} {fa : Addr} (X : K.In h) (G : h.Ns mainGlobals mg) (hfa' : mg ("law" : Str) = some (.ref fa)) (c : SaysLT hfa hfn hts htf hex w h K) (lt : ∀ ns : List Int, ns.length ≤ 63 → ∃ S', F_law [.scr (ns.map .int)] [] = some (.bl true, S')) {bs : Heap} {H : Hp} {t : Shared} {a : Addr} {ns : List Int} (hn : ns.length ≤ 63) (env0 : Env0 P w K mg bs callerA [] t H) (sq : SqL K H a (ns.map V.int)) (htb : ∀ p ∈ htf.map (He.cT K), LamX.TabB bs mg p.1 p.2) (hH : ∀ p ∈ htf.map (He.cT K), H p.2 = some (.tbl #[])) (hna : a ∉ (htf.map (He.cT K)).map (·.2)) :
    codeAny (model P w) callerA (.call (.ref fa) ⟨[.ref a], []⟩) (CR CX0 [] P w H t (fun v _ => v = .bl true) fun _ _ _ => False) t := by
  have cd := c.t.d
  have e := hfa'.symm.trans (He.glo_ok X G (cd.fact 6 (f := .glo "law") rfl))
  cases e
  have hx := c.more
  unfold hex at hx
  simp only [Bool.and_eq_true, Bool.and_true, and_true] at hx
  obtain ⟨ox_NoAnswer, ox_NoBase, ox_NoBranch, ox_NoCell, ox_NoDepth, ox_NoHistory, ox_NoName, ox_NoNumber, ox_NoPart, ox_NoRun, ox_NoText, ox_NotAsked, ox_Over, ox0_NoCommand, ox0_NoStand, ox0_NoRows, xa_all, kr_NoStand, kr_NoRows, kr_NoText, kr_NoBase, kr_NoHistory, kr_NoNumber, kr_NoName, kr_NoRun, kr_NoPart, kr_NoCommand, kr_NoDepth, kr_NoCell, kr_NoBranch, kr_Over, kr_NotAsked, kr_NoAnswer, kr_IndexError, kr_KeyError, kr_ValueError, kr_RuntimeError, kr_LookupError⟩ := hx
  have m_len := He.free_ok X G (cd.fact 23 (f := .free "len") rfl)
  have m_abs := He.free_ok X G (cd.fact 24 (f := .free "abs") rfl)
  have m_isinstance := He.free_ok X G (cd.fact 25 (f := .free "isinstance") rfl)
  have m_IndexError := He.free_ok X G (cd.fact 26 (f := .free "IndexError") rfl)
  have m_KeyError := He.free_ok X G (cd.fact 27 (f := .free "KeyError") rfl)
  have m_ValueError := He.free_ok X G (cd.fact 28 (f := .free "ValueError") rfl)
  have m_RuntimeError := He.free_ok X G (cd.fact 29 (f := .free "RuntimeError") rfl)
  have m_LookupError := He.free_ok X G (cd.fact 30 (f := .free "LookupError") rfl)
  have m_list := He.free_ok X G (cd.fact 31 (f := .free "list") rfl)
  have m_tuple := He.free_ok X G (cd.fact 32 (f := .free "tuple") rfl)
  have m_repr := He.free_ok X G (cd.fact 33 (f := .free "repr") rfl)
  have m_range := He.free_ok X G (cd.fact 34 (f := .free "range") rfl)
  have m_max := He.free_ok X G (cd.fact 35 (f := .free "max") rfl)
  have m_min := He.free_ok X G (cd.fact 36 (f := .free "min") rfl)
  obtain ⟨_, fd__law_bag⟩ := (cd.def_ 0 (d := ⟨("_law_bag", none), "_law_bag", "_law_bag", defArgs s__law_bag, defBody s__law_bag, defScope s__law_bag, [], []⟩) rfl)
  have dn__law_bag : DnF K mg "_law_bag" s__law_bag ["_law_script", "_law_spot"] := ⟨_, _, funD_fun (st := s__law_bag) fd__law_bag, (funD_fun (st := s__law_bag) fd__law_bag).binds (ps := ["_law_script", "_law_spot"]) fun _ _ _ _ _ _ us hl => match us, hl with | [_, _], _ => rfl, He.glo_ok X G (cd.fact 0 (f := .glo "_law_bag") rfl)⟩
  obtain ⟨_, fd__law_take⟩ := (cd.def_ 1 (d := ⟨("_law_take", none), "_law_take", "_law_take", defArgs s__law_take, defBody s__law_take, defScope s__law_take, [], []⟩) rfl)
  have dn__law_take : DnF K mg "_law_take" s__law_take ["_law_bag_here", "_law_many"] := ⟨_, _, funD_fun (st := s__law_take) fd__law_take, (funD_fun (st := s__law_take) fd__law_take).binds (ps := ["_law_bag_here", "_law_many"]) fun _ _ _ _ _ _ us hl => match us, hl with | [_, _], _ => rfl, He.glo_ok X G (cd.fact 1 (f := .glo "_law_take") rfl)⟩
  obtain ⟨_, fd__law_any⟩ := (cd.def_ 2 (d := ⟨("_law_any", none), "_law_any", "_law_any", defArgs s__law_any, defBody s__law_any, defScope s__law_any, [], []⟩) rfl)
  have dn__law_any : DnF K mg "_law_any" s__law_any ["_law_bag_here"] := ⟨_, _, funD_fun (st := s__law_any) fd__law_any, (funD_fun (st := s__law_any) fd__law_any).binds (ps := ["_law_bag_here"]) fun _ _ _ _ _ _ us hl => match us, hl with | [_], _ => rfl, He.glo_ok X G (cd.fact 2 (f := .glo "_law_any") rfl)⟩
  obtain ⟨_, fd__law_kinds⟩ := (cd.def_ 3 (d := ⟨("_law_kinds", none), "_law_kinds", "_law_kinds", defArgs s__law_kinds, defBody s__law_kinds, defScope s__law_kinds, [], []⟩) rfl)
  have dn__law_kinds : DnF K mg "_law_kinds" s__law_kinds ["_law_e"] := ⟨_, _, funD_fun (st := s__law_kinds) fd__law_kinds, (funD_fun (st := s__law_kinds) fd__law_kinds).binds (ps := ["_law_e"]) fun _ _ _ _ _ _ us hl => match us, hl with | [_], _ => rfl, He.glo_ok X G (cd.fact 3 (f := .glo "_law_kinds") rfl)⟩
  obtain ⟨_, fd__law_field⟩ := (cd.def_ 4 (d := ⟨("_law_field", none), "_law_field", "_law_field", defArgs s__law_field, defBody s__law_field, defScope s__law_field, [], []⟩) rfl)
  have dn__law_field : DnF K mg "_law_field" s__law_field ["_law_e", "_law_word"] := ⟨_, _, funD_fun (st := s__law_field) fd__law_field, (funD_fun (st := s__law_field) fd__law_field).binds (ps := ["_law_e", "_law_word"]) fun _ _ _ _ _ _ us hl => match us, hl with | [_, _], _ => rfl, He.glo_ok X G (cd.fact 4 (f := .glo "_law_field") rfl)⟩
  obtain ⟨_, fd_copied⟩ := (cd.def_ 5 (d := ⟨("copied", none), "copied", "copied", defArgs s_copied, defBody s_copied, defScope s_copied, [], []⟩) rfl)
  have dn_copied : DnF K mg "copied" s_copied ["thing"] := ⟨_, _, funD_fun (st := s_copied) fd_copied, (funD_fun (st := s_copied) fd_copied).binds (ps := ["thing"]) fun _ _ _ _ _ _ us hl => match us, hl with | [_], _ => rfl, He.glo_ok X G (cd.fact 5 (f := .glo "copied") rfl)⟩
  obtain ⟨_, fdx_NoAnswer⟩ := (cd.def_ 7 (d := ⟨("NoAnswer", some "__init__"), "__init__", "NoAnswer.__init__", defArgs s_NoAnswer___init__, defBody s_NoAnswer___init__, defScope s_NoAnswer___init__, [], []⟩) rfl)
  have T_NoAnswer := ox_of X G (cd.fact 20 (f := .glo "NoAnswer") rfl) ox_NoAnswer (funD_fun (st := s_NoAnswer___init__) fdx_NoAnswer) ((funD_fun (st := s_NoAnswer___init__) fdx_NoAnswer).binds (ps := ["self", "run"]) fun _ _ _ _ _ _ us hl => match us, hl with | [_, _], _ => rfl)
  obtain ⟨_, fdx_NoBase⟩ := (cd.def_ 8 (d := ⟨("NoBase", some "__init__"), "__init__", "NoBase.__init__", defArgs s_NoBase___init__, defBody s_NoBase___init__, defScope s_NoBase___init__, [], []⟩) rfl)
  have T_NoBase := ox_of X G (cd.fact 7 (f := .glo "NoBase") rfl) ox_NoBase (funD_fun (st := s_NoBase___init__) fdx_NoBase) ((funD_fun (st := s_NoBase___init__) fdx_NoBase).binds (ps := ["self", "base"]) fun _ _ _ _ _ _ us hl => match us, hl with | [_, _], _ => rfl)
  obtain ⟨_, fdx_NoBranch⟩ := (cd.def_ 9 (d := ⟨("NoBranch", some "__init__"), "__init__", "NoBranch.__init__", defArgs s_NoBranch___init__, defBody s_NoBranch___init__, defScope s_NoBranch___init__, [], []⟩) rfl)
  have T_NoBranch := ox_of X G (cd.fact 17 (f := .glo "NoBranch") rfl) ox_NoBranch (funD_fun (st := s_NoBranch___init__) fdx_NoBranch) ((funD_fun (st := s_NoBranch___init__) fdx_NoBranch).binds (ps := ["self", "at"]) fun _ _ _ _ _ _ us hl => match us, hl with | [_, _], _ => rfl)
  obtain ⟨_, fdx_NoCell⟩ := (cd.def_ 10 (d := ⟨("NoCell", some "__init__"), "__init__", "NoCell.__init__", defArgs s_NoCell___init__, defBody s_NoCell___init__, defScope s_NoCell___init__, [], []⟩) rfl)
  have T_NoCell := ox_of X G (cd.fact 18 (f := .glo "NoCell") rfl) ox_NoCell (funD_fun (st := s_NoCell___init__) fdx_NoCell) ((funD_fun (st := s_NoCell___init__) fdx_NoCell).binds (ps := ["self", "cell"]) fun _ _ _ _ _ _ us hl => match us, hl with | [_, _], _ => rfl)
  obtain ⟨_, fdx_NoDepth⟩ := (cd.def_ 11 (d := ⟨("NoDepth", some "__init__"), "__init__", "NoDepth.__init__", defArgs s_NoDepth___init__, defBody s_NoDepth___init__, defScope s_NoDepth___init__, [], []⟩) rfl)
  have T_NoDepth := ox_of X G (cd.fact 19 (f := .glo "NoDepth") rfl) ox_NoDepth (funD_fun (st := s_NoDepth___init__) fdx_NoDepth) ((funD_fun (st := s_NoDepth___init__) fdx_NoDepth).binds (ps := ["self", "depth"]) fun _ _ _ _ _ _ us hl => match us, hl with | [_, _], _ => rfl)
  obtain ⟨_, fdx_NoHistory⟩ := (cd.def_ 12 (d := ⟨("NoHistory", some "__init__"), "__init__", "NoHistory.__init__", defArgs s_NoHistory___init__, defBody s_NoHistory___init__, defScope s_NoHistory___init__, [], []⟩) rfl)
  have T_NoHistory := ox_of X G (cd.fact 13 (f := .glo "NoHistory") rfl) ox_NoHistory (funD_fun (st := s_NoHistory___init__) fdx_NoHistory) ((funD_fun (st := s_NoHistory___init__) fdx_NoHistory).binds (ps := ["self", "at"]) fun _ _ _ _ _ _ us hl => match us, hl with | [_, _], _ => rfl)
  obtain ⟨_, fdx_NoName⟩ := (cd.def_ 13 (d := ⟨("NoName", some "__init__"), "__init__", "NoName.__init__", defArgs s_NoName___init__, defBody s_NoName___init__, defScope s_NoName___init__, [], []⟩) rfl)
  have T_NoName := ox_of X G (cd.fact 11 (f := .glo "NoName") rfl) ox_NoName (funD_fun (st := s_NoName___init__) fdx_NoName) ((funD_fun (st := s_NoName___init__) fdx_NoName).binds (ps := ["self", "name"]) fun _ _ _ _ _ _ us hl => match us, hl with | [_, _], _ => rfl)
  obtain ⟨_, fdx_NoNumber⟩ := (cd.def_ 14 (d := ⟨("NoNumber", some "__init__"), "__init__", "NoNumber.__init__", defArgs s_NoNumber___init__, defBody s_NoNumber___init__, defScope s_NoNumber___init__, [], []⟩) rfl)
  have T_NoNumber := ox_of X G (cd.fact 12 (f := .glo "NoNumber") rfl) ox_NoNumber (funD_fun (st := s_NoNumber___init__) fdx_NoNumber) ((funD_fun (st := s_NoNumber___init__) fdx_NoNumber).binds (ps := ["self", "number"]) fun _ _ _ _ _ _ us hl => match us, hl with | [_, _], _ => rfl)
  obtain ⟨_, fdx_NoPart⟩ := (cd.def_ 15 (d := ⟨("NoPart", some "__init__"), "__init__", "NoPart.__init__", defArgs s_NoPart___init__, defBody s_NoPart___init__, defScope s_NoPart___init__, [], []⟩) rfl)
  have T_NoPart := ox_of X G (cd.fact 15 (f := .glo "NoPart") rfl) ox_NoPart (funD_fun (st := s_NoPart___init__) fdx_NoPart) ((funD_fun (st := s_NoPart___init__) fdx_NoPart).binds (ps := ["self", "name"]) fun _ _ _ _ _ _ us hl => match us, hl with | [_, _], _ => rfl)
  obtain ⟨_, fdx_NoRun⟩ := (cd.def_ 16 (d := ⟨("NoRun", some "__init__"), "__init__", "NoRun.__init__", defArgs s_NoRun___init__, defBody s_NoRun___init__, defScope s_NoRun___init__, [], []⟩) rfl)
  have T_NoRun := ox_of X G (cd.fact 16 (f := .glo "NoRun") rfl) ox_NoRun (funD_fun (st := s_NoRun___init__) fdx_NoRun) ((funD_fun (st := s_NoRun___init__) fdx_NoRun).binds (ps := ["self", "run"]) fun _ _ _ _ _ _ us hl => match us, hl with | [_, _], _ => rfl)
  obtain ⟨_, fdx_NoText⟩ := (cd.def_ 17 (d := ⟨("NoText", some "__init__"), "__init__", "NoText.__init__", defArgs s_NoText___init__, defBody s_NoText___init__, defScope s_NoText___init__, [], []⟩) rfl)
  have T_NoText := ox_of X G (cd.fact 8 (f := .glo "NoText") rfl) ox_NoText (funD_fun (st := s_NoText___init__) fdx_NoText) ((funD_fun (st := s_NoText___init__) fdx_NoText).binds (ps := ["self", "row"]) fun _ _ _ _ _ _ us hl => match us, hl with | [_, _], _ => rfl)
  obtain ⟨_, fdx_NotAsked⟩ := (cd.def_ 18 (d := ⟨("NotAsked", some "__init__"), "__init__", "NotAsked.__init__", defArgs s_NotAsked___init__, defBody s_NotAsked___init__, defScope s_NotAsked___init__, [], []⟩) rfl)
  have T_NotAsked := ox_of X G (cd.fact 21 (f := .glo "NotAsked") rfl) ox_NotAsked (funD_fun (st := s_NotAsked___init__) fdx_NotAsked) ((funD_fun (st := s_NotAsked___init__) fdx_NotAsked).binds (ps := ["self", "run"]) fun _ _ _ _ _ _ us hl => match us, hl with | [_, _], _ => rfl)
  obtain ⟨_, fdx_Over⟩ := (cd.def_ 19 (d := ⟨("Over", some "__init__"), "__init__", "Over.__init__", defArgs s_Over___init__, defBody s_Over___init__, defScope s_Over___init__, [], []⟩) rfl)
  have T_Over := ox_of X G (cd.fact 22 (f := .glo "Over") rfl) ox_Over (funD_fun (st := s_Over___init__) fdx_Over) ((funD_fun (st := s_Over___init__) fdx_Over).binds (ps := ["self", "run"]) fun _ _ _ _ _ _ us hl => match us, hl with | [_, _], _ => rfl)
  have ca_NoBase : ∀ C, mg "NoBase" = some (.ref C) → ClsAt K "NoBase" C := clsAt_mg X G (cd.fact 7 (f := .glo "NoBase") rfl)
  have ca_NoText : ∀ C, mg "NoText" = some (.ref C) → ClsAt K "NoText" C := clsAt_mg X G (cd.fact 8 (f := .glo "NoText") rfl)
  have ca_NoRows : ∀ C, mg "NoRows" = some (.ref C) → ClsAt K "NoRows" C := clsAt_mg X G (cd.fact 9 (f := .glo "NoRows") rfl)
  have ca_NoStand : ∀ C, mg "NoStand" = some (.ref C) → ClsAt K "NoStand" C := clsAt_mg X G (cd.fact 10 (f := .glo "NoStand") rfl)
  have ca_NoName : ∀ C, mg "NoName" = some (.ref C) → ClsAt K "NoName" C := clsAt_mg X G (cd.fact 11 (f := .glo "NoName") rfl)
  have ca_NoNumber : ∀ C, mg "NoNumber" = some (.ref C) → ClsAt K "NoNumber" C := clsAt_mg X G (cd.fact 12 (f := .glo "NoNumber") rfl)
  have ca_NoHistory : ∀ C, mg "NoHistory" = some (.ref C) → ClsAt K "NoHistory" C := clsAt_mg X G (cd.fact 13 (f := .glo "NoHistory") rfl)
  have ca_NoCommand : ∀ C, mg "NoCommand" = some (.ref C) → ClsAt K "NoCommand" C := clsAt_mg X G (cd.fact 14 (f := .glo "NoCommand") rfl)
  have ca_NoPart : ∀ C, mg "NoPart" = some (.ref C) → ClsAt K "NoPart" C := clsAt_mg X G (cd.fact 15 (f := .glo "NoPart") rfl)
  have ca_NoRun : ∀ C, mg "NoRun" = some (.ref C) → ClsAt K "NoRun" C := clsAt_mg X G (cd.fact 16 (f := .glo "NoRun") rfl)
  have ca_NoBranch : ∀ C, mg "NoBranch" = some (.ref C) → ClsAt K "NoBranch" C := clsAt_mg X G (cd.fact 17 (f := .glo "NoBranch") rfl)
  have ca_NoCell : ∀ C, mg "NoCell" = some (.ref C) → ClsAt K "NoCell" C := clsAt_mg X G (cd.fact 18 (f := .glo "NoCell") rfl)
  have ca_NoDepth : ∀ C, mg "NoDepth" = some (.ref C) → ClsAt K "NoDepth" C := clsAt_mg X G (cd.fact 19 (f := .glo "NoDepth") rfl)
  have ca_NoAnswer : ∀ C, mg "NoAnswer" = some (.ref C) → ClsAt K "NoAnswer" C := clsAt_mg X G (cd.fact 20 (f := .glo "NoAnswer") rfl)
  have ca_NotAsked : ∀ C, mg "NotAsked" = some (.ref C) → ClsAt K "NotAsked" C := clsAt_mg X G (cd.fact 21 (f := .glo "NotAsked") rfl)
  have ca_Over : ∀ C, mg "Over" = some (.ref C) → ClsAt K "Over" C := clsAt_mg X G (cd.fact 22 (f := .glo "Over") rfl)
  have kv_NoStand : ∃ D, mg "NoStand" = some (.ref D) ∧ ∀ x C b, row_NoStand x = some b → ClsAt K x C → ExcC K C ∧ PySem.W.kitOne K (.ref C) (.ref D) = some b := ⟨_, He.glo_ok X G (cd.fact 10 (f := .glo "NoStand") rfl), fun x C b h hC => kitRow_ok kr_NoStand xa_all h hC⟩
  have kv_NoRows : ∃ D, mg "NoRows" = some (.ref D) ∧ ∀ x C b, row_NoRows x = some b → ClsAt K x C → ExcC K C ∧ PySem.W.kitOne K (.ref C) (.ref D) = some b := ⟨_, He.glo_ok X G (cd.fact 9 (f := .glo "NoRows") rfl), fun x C b h hC => kitRow_ok kr_NoRows xa_all h hC⟩
  have kv_NoText : ∃ D, mg "NoText" = some (.ref D) ∧ ∀ x C b, row_NoText x = some b → ClsAt K x C → ExcC K C ∧ PySem.W.kitOne K (.ref C) (.ref D) = some b := ⟨_, He.glo_ok X G (cd.fact 8 (f := .glo "NoText") rfl), fun x C b h hC => kitRow_ok kr_NoText xa_all h hC⟩
  have kv_NoBase : ∃ D, mg "NoBase" = some (.ref D) ∧ ∀ x C b, row_NoBase x = some b → ClsAt K x C → ExcC K C ∧ PySem.W.kitOne K (.ref C) (.ref D) = some b := ⟨_, He.glo_ok X G (cd.fact 7 (f := .glo "NoBase") rfl), fun x C b h hC => kitRow_ok kr_NoBase xa_all h hC⟩
  have kv_NoHistory : ∃ D, mg "NoHistory" = some (.ref D) ∧ ∀ x C b, row_NoHistory x = some b → ClsAt K x C → ExcC K C ∧ PySem.W.kitOne K (.ref C) (.ref D) = some b := ⟨_, He.glo_ok X G (cd.fact 13 (f := .glo "NoHistory") rfl), fun x C b h hC => kitRow_ok kr_NoHistory xa_all h hC⟩
  have kv_NoNumber : ∃ D, mg "NoNumber" = some (.ref D) ∧ ∀ x C b, row_NoNumber x = some b → ClsAt K x C → ExcC K C ∧ PySem.W.kitOne K (.ref C) (.ref D) = some b := ⟨_, He.glo_ok X G (cd.fact 12 (f := .glo "NoNumber") rfl), fun x C b h hC => kitRow_ok kr_NoNumber xa_all h hC⟩
  have kv_NoName : ∃ D, mg "NoName" = some (.ref D) ∧ ∀ x C b, row_NoName x = some b → ClsAt K x C → ExcC K C ∧ PySem.W.kitOne K (.ref C) (.ref D) = some b := ⟨_, He.glo_ok X G (cd.fact 11 (f := .glo "NoName") rfl), fun x C b h hC => kitRow_ok kr_NoName xa_all h hC⟩
  have kv_NoRun : ∃ D, mg "NoRun" = some (.ref D) ∧ ∀ x C b, row_NoRun x = some b → ClsAt K x C → ExcC K C ∧ PySem.W.kitOne K (.ref C) (.ref D) = some b := ⟨_, He.glo_ok X G (cd.fact 16 (f := .glo "NoRun") rfl), fun x C b h hC => kitRow_ok kr_NoRun xa_all h hC⟩
  have kv_NoPart : ∃ D, mg "NoPart" = some (.ref D) ∧ ∀ x C b, row_NoPart x = some b → ClsAt K x C → ExcC K C ∧ PySem.W.kitOne K (.ref C) (.ref D) = some b := ⟨_, He.glo_ok X G (cd.fact 15 (f := .glo "NoPart") rfl), fun x C b h hC => kitRow_ok kr_NoPart xa_all h hC⟩
  have kv_NoCommand : ∃ D, mg "NoCommand" = some (.ref D) ∧ ∀ x C b, row_NoCommand x = some b → ClsAt K x C → ExcC K C ∧ PySem.W.kitOne K (.ref C) (.ref D) = some b := ⟨_, He.glo_ok X G (cd.fact 14 (f := .glo "NoCommand") rfl), fun x C b h hC => kitRow_ok kr_NoCommand xa_all h hC⟩
  have kv_NoDepth : ∃ D, mg "NoDepth" = some (.ref D) ∧ ∀ x C b, row_NoDepth x = some b → ClsAt K x C → ExcC K C ∧ PySem.W.kitOne K (.ref C) (.ref D) = some b := ⟨_, He.glo_ok X G (cd.fact 19 (f := .glo "NoDepth") rfl), fun x C b h hC => kitRow_ok kr_NoDepth xa_all h hC⟩
  have kv_NoCell : ∃ D, mg "NoCell" = some (.ref D) ∧ ∀ x C b, row_NoCell x = some b → ClsAt K x C → ExcC K C ∧ PySem.W.kitOne K (.ref C) (.ref D) = some b := ⟨_, He.glo_ok X G (cd.fact 18 (f := .glo "NoCell") rfl), fun x C b h hC => kitRow_ok kr_NoCell xa_all h hC⟩
  have kv_NoBranch : ∃ D, mg "NoBranch" = some (.ref D) ∧ ∀ x C b, row_NoBranch x = some b → ClsAt K x C → ExcC K C ∧ PySem.W.kitOne K (.ref C) (.ref D) = some b := ⟨_, He.glo_ok X G (cd.fact 17 (f := .glo "NoBranch") rfl), fun x C b h hC => kitRow_ok kr_NoBranch xa_all h hC⟩
  have kv_Over : ∃ D, mg "Over" = some (.ref D) ∧ ∀ x C b, row_Over x = some b → ClsAt K x C → ExcC K C ∧ PySem.W.kitOne K (.ref C) (.ref D) = some b := ⟨_, He.glo_ok X G (cd.fact 22 (f := .glo "Over") rfl), fun x C b h hC => kitRow_ok kr_Over xa_all h hC⟩
  have kv_NotAsked : ∃ D, mg "NotAsked" = some (.ref D) ∧ ∀ x C b, row_NotAsked x = some b → ClsAt K x C → ExcC K C ∧ PySem.W.kitOne K (.ref C) (.ref D) = some b := ⟨_, He.glo_ok X G (cd.fact 21 (f := .glo "NotAsked") rfl), fun x C b h hC => kitRow_ok kr_NotAsked xa_all h hC⟩
  have kv_NoAnswer : ∃ D, mg "NoAnswer" = some (.ref D) ∧ ∀ x C b, row_NoAnswer x = some b → ClsAt K x C → ExcC K C ∧ PySem.W.kitOne K (.ref C) (.ref D) = some b := ⟨_, He.glo_ok X G (cd.fact 20 (f := .glo "NoAnswer") rfl), fun x C b h hC => kitRow_ok kr_NoAnswer xa_all h hC⟩
  have kw_IndexError : ∀ x C b, row_IndexError x = some b → ClsAt K x C → ExcC K C ∧ PySem.W.kitOne K (.ref C) (.type "IndexError") = some b := fun x C b h hC => kitRowT_ok kr_IndexError xa_all h hC
  have kw_KeyError : ∀ x C b, row_KeyError x = some b → ClsAt K x C → ExcC K C ∧ PySem.W.kitOne K (.ref C) (.type "KeyError") = some b := fun x C b h hC => kitRowT_ok kr_KeyError xa_all h hC
  have kw_ValueError : ∀ x C b, row_ValueError x = some b → ClsAt K x C → ExcC K C ∧ PySem.W.kitOne K (.ref C) (.type "ValueError") = some b := fun x C b h hC => kitRowT_ok kr_ValueError xa_all h hC
  have kw_RuntimeError : ∀ x C b, row_RuntimeError x = some b → ClsAt K x C → ExcC K C ∧ PySem.W.kitOne K (.ref C) (.type "RuntimeError") = some b := fun x C b h hC => kitRowT_ok kr_RuntimeError xa_all h hC
  have kw_LookupError : ∀ x C b, row_LookupError x = some b → ClsAt K x C → ExcC K C ∧ PySem.W.kitOne K (.ref C) (.type "LookupError") = some b := fun x C b h hC => kitRowT_ok kr_LookupError xa_all h hC
  have fv_base : ∀ x ∈ (["NoBase"] : List Str), ∀ C, ClsAt K x C → XfC K C ∧ PySem.W.findIn K (.ref C) "base" = some none := by
    intro x hx C hC
    simp only [List.mem_cons, List.not_mem_nil, or_false] at hx
    subst hx
    · have e := hC.one (ca_NoBase _ T_NoBase.gC)
      subst e
      exact ⟨⟨T_NoBase.ga, T_NoBase.gg, T_NoBase.exC, T_NoBase.hdC⟩, T_NoBase.noN⟩
  have fv_row : ∀ x ∈ (["NoText"] : List Str), ∀ C, ClsAt K x C → XfC K C ∧ PySem.W.findIn K (.ref C) "row" = some none := by
    intro x hx C hC
    simp only [List.mem_cons, List.not_mem_nil, or_false] at hx
    subst hx
    · have e := hC.one (ca_NoText _ T_NoText.gC)
      subst e
      exact ⟨⟨T_NoText.ga, T_NoText.gg, T_NoText.exC, T_NoText.hdC⟩, T_NoText.noN⟩
  have fv_name : ∀ x ∈ (["NoName", "NoPart"] : List Str), ∀ C, ClsAt K x C → XfC K C ∧ PySem.W.findIn K (.ref C) "name" = some none := by
    intro x hx C hC
    simp only [List.mem_cons, List.not_mem_nil, or_false] at hx
    rcases hx with rfl | rfl
    · have e := hC.one (ca_NoName _ T_NoName.gC)
      subst e
      exact ⟨⟨T_NoName.ga, T_NoName.gg, T_NoName.exC, T_NoName.hdC⟩, T_NoName.noN⟩
    · have e := hC.one (ca_NoPart _ T_NoPart.gC)
      subst e
      exact ⟨⟨T_NoPart.ga, T_NoPart.gg, T_NoPart.exC, T_NoPart.hdC⟩, T_NoPart.noN⟩
  have fv_number : ∀ x ∈ (["NoNumber"] : List Str), ∀ C, ClsAt K x C → XfC K C ∧ PySem.W.findIn K (.ref C) "number" = some none := by
    intro x hx C hC
    simp only [List.mem_cons, List.not_mem_nil, or_false] at hx
    subst hx
    · have e := hC.one (ca_NoNumber _ T_NoNumber.gC)
      subst e
      exact ⟨⟨T_NoNumber.ga, T_NoNumber.gg, T_NoNumber.exC, T_NoNumber.hdC⟩, T_NoNumber.noN⟩
  have fv_at : ∀ x ∈ (["NoHistory", "NoBranch"] : List Str), ∀ C, ClsAt K x C → XfC K C ∧ PySem.W.findIn K (.ref C) "at" = some none := by
    intro x hx C hC
    simp only [List.mem_cons, List.not_mem_nil, or_false] at hx
    rcases hx with rfl | rfl
    · have e := hC.one (ca_NoHistory _ T_NoHistory.gC)
      subst e
      exact ⟨⟨T_NoHistory.ga, T_NoHistory.gg, T_NoHistory.exC, T_NoHistory.hdC⟩, T_NoHistory.noN⟩
    · have e := hC.one (ca_NoBranch _ T_NoBranch.gC)
      subst e
      exact ⟨⟨T_NoBranch.ga, T_NoBranch.gg, T_NoBranch.exC, T_NoBranch.hdC⟩, T_NoBranch.noN⟩
  have fv_run : ∀ x ∈ (["NoRun", "NoAnswer", "NotAsked", "Over"] : List Str), ∀ C, ClsAt K x C → XfC K C ∧ PySem.W.findIn K (.ref C) "run" = some none := by
    intro x hx C hC
    simp only [List.mem_cons, List.not_mem_nil, or_false] at hx
    rcases hx with rfl | rfl | rfl | rfl
    · have e := hC.one (ca_NoRun _ T_NoRun.gC)
      subst e
      exact ⟨⟨T_NoRun.ga, T_NoRun.gg, T_NoRun.exC, T_NoRun.hdC⟩, T_NoRun.noN⟩
    · have e := hC.one (ca_NoAnswer _ T_NoAnswer.gC)
      subst e
      exact ⟨⟨T_NoAnswer.ga, T_NoAnswer.gg, T_NoAnswer.exC, T_NoAnswer.hdC⟩, T_NoAnswer.noN⟩
    · have e := hC.one (ca_NotAsked _ T_NotAsked.gC)
      subst e
      exact ⟨⟨T_NotAsked.ga, T_NotAsked.gg, T_NotAsked.exC, T_NotAsked.hdC⟩, T_NotAsked.noN⟩
    · have e := hC.one (ca_Over _ T_Over.gC)
      subst e
      exact ⟨⟨T_Over.ga, T_Over.gg, T_Over.exC, T_Over.hdC⟩, T_Over.noN⟩
  have fv_cell : ∀ x ∈ (["NoCell"] : List Str), ∀ C, ClsAt K x C → XfC K C ∧ PySem.W.findIn K (.ref C) "cell" = some none := by
    intro x hx C hC
    simp only [List.mem_cons, List.not_mem_nil, or_false] at hx
    subst hx
    · have e := hC.one (ca_NoCell _ T_NoCell.gC)
      subst e
      exact ⟨⟨T_NoCell.ga, T_NoCell.gg, T_NoCell.exC, T_NoCell.hdC⟩, T_NoCell.noN⟩
  have fv_depth : ∀ x ∈ (["NoDepth"] : List Str), ∀ C, ClsAt K x C → XfC K C ∧ PySem.W.findIn K (.ref C) "depth" = some none := by
    intro x hx C hC
    simp only [List.mem_cons, List.not_mem_nil, or_false] at hx
    subst hx
    · have e := hC.one (ca_NoDepth _ T_NoDepth.gC)
      subst e
      exact ⟨⟨T_NoDepth.ga, T_NoDepth.gg, T_NoDepth.exC, T_NoDepth.hdC⟩, T_NoDepth.noN⟩
  have T0_NoCommand := ox0_of X G (cd.fact 14 (f := .glo "NoCommand") rfl) ox0_NoCommand
  have T0_NoStand := ox0_of X G (cd.fact 10 (f := .glo "NoStand") rfl) ox0_NoStand
  have T0_NoRows := ox0_of X G (cd.fact 9 (f := .glo "NoRows") rfl) ox0_NoRows
  have h__law_bag := ok__law_bag (P := P) (w := w) (mg := mg) (base := bs) dn__law_bag m_len m_abs
  have h__law_take := ok__law_take (P := P) (w := w) (mg := mg) (base := bs) dn__law_take 
  have h__law_any := ok__law_any (P := P) (w := w) (mg := mg) (base := bs) dn__law_any h__law_take
  have h__law_kinds := ok__law_kinds (P := P) (w := w) (mg := mg) (base := bs) dn__law_kinds m_isinstance kv_NoStand kv_NoRows kv_NoText kv_NoBase kv_NoHistory kv_NoNumber kv_NoName kv_NoRun kv_NoPart kv_NoCommand kv_NoDepth kv_NoCell kv_NoBranch kv_Over kv_NotAsked kv_NoAnswer m_IndexError kw_IndexError m_KeyError kw_KeyError m_ValueError kw_ValueError m_RuntimeError kw_RuntimeError m_LookupError kw_LookupError
  have h__law_field := ok__law_field (P := P) (w := w) (mg := mg) (base := bs) dn__law_field fv_base fv_cell fv_depth fv_row fv_at fv_name fv_number fv_run
  have h_copied := ok_copied (P := P) (w := w) (mg := mg) (base := bs) dn_copied m_isinstance m_list  m_tuple
  obtain ⟨_, fd_law⟩ := (cd.def_ 6 (d := ⟨("law", none), "law", "law", defArgs s_law, defBody s_law, defScope s_law, [], []⟩) rfl)
  exact run_law (funD_fun (st := s_law) fd_law) h__law_bag h__law_any ca_NoText ⟨_, _, T_NoText⟩ ca_NoBase ⟨_, _, T_NoBase⟩ h_copied ca_NoPart ⟨_, _, T_NoPart⟩ ca_NoName ⟨_, _, T_NoName⟩ ca_NoNumber ⟨_, _, T_NoNumber⟩ ca_NoRun ⟨_, _, T_NoRun⟩ ca_NoHistory ⟨_, _, T_NoHistory⟩ ca_NoCell ⟨_, _, T_NoCell⟩ ca_NoBranch ⟨_, _, T_NoBranch⟩ ca_Over ⟨_, _, T_Over⟩ ca_NoDepth ⟨_, _, T_NoDepth⟩ ca_NoAnswer ⟨_, _, T_NoAnswer⟩ ca_NotAsked ⟨_, _, T_NotAsked⟩ h__law_kinds m_repr h__law_field ca_NoCommand ⟨_, T0_NoCommand⟩ ca_NoStand ⟨_, T0_NoStand⟩ ca_NoRows ⟨_, T0_NoRows⟩ m_range m_max m_min m_len rfl env0 sq  (lt ns hn)
end J
section
open PySem PySem.W PySem.Calls PyProof.Rows
theorem PySem.Challenge.fin_k22 (lt : ∀ ns : List Int, ns.length ≤ 63 → ∃ S', J.F_law [.scr (ns.map .int)] [] = some (.bl true, S')) : PySem.Challenge.rw_callsover_k22_errors_made.Holds := by
  w_on; refine J.hop fun said => ?_
  refine HandSHeadRun.head_any (r := OpenLaw.row PySem.Challenge.rw_callsover_k22_errors_made) (q := view (OpenLaw.row PySem.Challenge.rw_callsover_k22_errors_made).prog [25]) (H := J.hk) (ob := J.hob) (M := 12000) (loose := J.hnm) (d := HandSHeadRun.topDef (OpenLaw.row PySem.Challenge.rw_callsover_k22_errors_made).prog 25) (kwd := []) J.hob_eq
    (by kernel_rfl) (fun s => by kernel_rfl) J.hrun (by kernel_rfl) (by kernel_rfl) (by kernel_rfl) (by rfl) (by first | assumption | decide +kernel) (by decide +kernel) ⟨rfl, rfl, rfl, rfl, rfl, by decide +kernel⟩ ?hw ?hc
  case hw => w_witness2
  case hc =>
    refine Kx.walk_callerT (l := PySem.Challenge.rw_callsover_k22_errors_made) (n := 63) rfl (by decide) (by kernel_rfl) ?F
    intro w mg fa h Y G hmg0
    obtain ⟨K, KX, c⟩ := Y
    have hmg : mg ("law" : PySem.Str) = some (.ref fa) := by
      have e : (HandSHeadRun.topDef (OpenLaw.row PySem.Challenge.rw_callsover_k22_errors_made).prog 25).name = ("law" : PySem.Str) := by kernel_rfl
      rw [← e]
      exact hmg0
    exact ⟨K, J.htf.map (He.cT K), KX, fun p hp => by
        obtain ⟨q, hq, rfl⟩ := List.mem_map.mp hp
        exact c.empty q hq, fun p hp => by
        obtain ⟨q, hq, rfl⟩ := List.mem_map.mp hp
        exact c.out q hq, fun p hp => by
        obtain ⟨q, hq, rfl⟩ := List.mem_map.mp hp
        exact PySem.W.codeHd_of_K KX (c.hd q hq), fun bs H t a ns hn _ _ env0 sq tb hH na => J.hfacts KX G hmg c lt hn env0 sq tb hH na⟩
end

namespace J
open PySem
@[simp] theorem sw0 : (Str.ofString "x" == Str.ofString "y") = false := by decide +kernel
@[simp] theorem sv0 : (Str.ofString "x" = Str.ofString "y") = False := eq_false (by decide +kernel)
@[simp] theorem sw1 : (Str.ofString "x" == Str.ofString "+") = false := by decide +kernel
@[simp] theorem sv1 : (Str.ofString "x" = Str.ofString "+") = False := eq_false (by decide +kernel)
@[simp] theorem sw2 : (Str.ofString "x" == Str.ofString "-") = false := by decide +kernel
@[simp] theorem sv2 : (Str.ofString "x" = Str.ofString "-") = False := eq_false (by decide +kernel)
@[simp] theorem sw3 : (Str.ofString "x" == Str.ofString "*") = false := by decide +kernel
@[simp] theorem sv3 : (Str.ofString "x" = Str.ofString "*") = False := eq_false (by decide +kernel)
@[simp] theorem sw4 : (Str.ofString "x" == Str.ofString "set") = false := by decide +kernel
@[simp] theorem sv4 : (Str.ofString "x" = Str.ofString "set") = False := eq_false (by decide +kernel)
@[simp] theorem sw5 : (Str.ofString "x" == Str.ofString "if") = false := by decide +kernel
@[simp] theorem sv5 : (Str.ofString "x" = Str.ofString "if") = False := eq_false (by decide +kernel)
@[simp] theorem sw6 : (Str.ofString "x" == Str.ofString "go") = false := by decide +kernel
@[simp] theorem sv6 : (Str.ofString "x" = Str.ofString "go") = False := eq_false (by decide +kernel)
@[simp] theorem sw7 : (Str.ofString "x" == Str.ofString "say") = false := by decide +kernel
@[simp] theorem sv7 : (Str.ofString "x" = Str.ofString "say") = False := eq_false (by decide +kernel)
@[simp] theorem sw8 : (Str.ofString "x" == Str.ofString "ask") = false := by decide +kernel
@[simp] theorem sv8 : (Str.ofString "x" = Str.ofString "ask") = False := eq_false (by decide +kernel)
@[simp] theorem sw9 : (Str.ofString "x" == Str.ofString "read") = false := by decide +kernel
@[simp] theorem sv9 : (Str.ofString "x" = Str.ofString "read") = False := eq_false (by decide +kernel)
@[simp] theorem sw10 : (Str.ofString "x" == Str.ofString "write") = false := by decide +kernel
@[simp] theorem sv10 : (Str.ofString "x" = Str.ofString "write") = False := eq_false (by decide +kernel)
@[simp] theorem sw11 : (Str.ofString "x" == Str.ofString "call") = false := by decide +kernel
@[simp] theorem sv11 : (Str.ofString "x" = Str.ofString "call") = False := eq_false (by decide +kernel)
@[simp] theorem sw12 : (Str.ofString "x" == Str.ofString "end") = false := by decide +kernel
@[simp] theorem sv12 : (Str.ofString "x" = Str.ofString "end") = False := eq_false (by decide +kernel)
@[simp] theorem sw13 : (Str.ofString "x" == Str.ofString "mute") = false := by decide +kernel
@[simp] theorem sv13 : (Str.ofString "x" = Str.ofString "mute") = False := eq_false (by decide +kernel)
@[simp] theorem sw14 : (Str.ofString "x" == Str.ofString "alike") = false := by decide +kernel
@[simp] theorem sv14 : (Str.ofString "x" = Str.ofString "alike") = False := eq_false (by decide +kernel)
@[simp] theorem sw15 : (Str.ofString "x" == Str.ofString "apart") = false := by decide +kernel
@[simp] theorem sv15 : (Str.ofString "x" = Str.ofString "apart") = False := eq_false (by decide +kernel)
@[simp] theorem sw16 : (Str.ofString "y" == Str.ofString "x") = false := by decide +kernel
@[simp] theorem sv16 : (Str.ofString "y" = Str.ofString "x") = False := eq_false (by decide +kernel)
@[simp] theorem sw17 : (Str.ofString "y" == Str.ofString "+") = false := by decide +kernel
@[simp] theorem sv17 : (Str.ofString "y" = Str.ofString "+") = False := eq_false (by decide +kernel)
@[simp] theorem sw18 : (Str.ofString "y" == Str.ofString "-") = false := by decide +kernel
@[simp] theorem sv18 : (Str.ofString "y" = Str.ofString "-") = False := eq_false (by decide +kernel)
@[simp] theorem sw19 : (Str.ofString "y" == Str.ofString "*") = false := by decide +kernel
@[simp] theorem sv19 : (Str.ofString "y" = Str.ofString "*") = False := eq_false (by decide +kernel)
@[simp] theorem sw20 : (Str.ofString "y" == Str.ofString "set") = false := by decide +kernel
@[simp] theorem sv20 : (Str.ofString "y" = Str.ofString "set") = False := eq_false (by decide +kernel)
@[simp] theorem sw21 : (Str.ofString "y" == Str.ofString "if") = false := by decide +kernel
@[simp] theorem sv21 : (Str.ofString "y" = Str.ofString "if") = False := eq_false (by decide +kernel)
@[simp] theorem sw22 : (Str.ofString "y" == Str.ofString "go") = false := by decide +kernel
@[simp] theorem sv22 : (Str.ofString "y" = Str.ofString "go") = False := eq_false (by decide +kernel)
@[simp] theorem sw23 : (Str.ofString "y" == Str.ofString "say") = false := by decide +kernel
@[simp] theorem sv23 : (Str.ofString "y" = Str.ofString "say") = False := eq_false (by decide +kernel)
@[simp] theorem sw24 : (Str.ofString "y" == Str.ofString "ask") = false := by decide +kernel
@[simp] theorem sv24 : (Str.ofString "y" = Str.ofString "ask") = False := eq_false (by decide +kernel)
@[simp] theorem sw25 : (Str.ofString "y" == Str.ofString "read") = false := by decide +kernel
@[simp] theorem sv25 : (Str.ofString "y" = Str.ofString "read") = False := eq_false (by decide +kernel)
@[simp] theorem sw26 : (Str.ofString "y" == Str.ofString "write") = false := by decide +kernel
@[simp] theorem sv26 : (Str.ofString "y" = Str.ofString "write") = False := eq_false (by decide +kernel)
@[simp] theorem sw27 : (Str.ofString "y" == Str.ofString "call") = false := by decide +kernel
@[simp] theorem sv27 : (Str.ofString "y" = Str.ofString "call") = False := eq_false (by decide +kernel)
@[simp] theorem sw28 : (Str.ofString "y" == Str.ofString "end") = false := by decide +kernel
@[simp] theorem sv28 : (Str.ofString "y" = Str.ofString "end") = False := eq_false (by decide +kernel)
@[simp] theorem sw29 : (Str.ofString "y" == Str.ofString "mute") = false := by decide +kernel
@[simp] theorem sv29 : (Str.ofString "y" = Str.ofString "mute") = False := eq_false (by decide +kernel)
@[simp] theorem sw30 : (Str.ofString "y" == Str.ofString "alike") = false := by decide +kernel
@[simp] theorem sv30 : (Str.ofString "y" = Str.ofString "alike") = False := eq_false (by decide +kernel)
@[simp] theorem sw31 : (Str.ofString "y" == Str.ofString "apart") = false := by decide +kernel
@[simp] theorem sv31 : (Str.ofString "y" = Str.ofString "apart") = False := eq_false (by decide +kernel)
@[simp] theorem sw32 : (Str.ofString "+" == Str.ofString "x") = false := by decide +kernel
@[simp] theorem sv32 : (Str.ofString "+" = Str.ofString "x") = False := eq_false (by decide +kernel)
@[simp] theorem sw33 : (Str.ofString "+" == Str.ofString "y") = false := by decide +kernel
@[simp] theorem sv33 : (Str.ofString "+" = Str.ofString "y") = False := eq_false (by decide +kernel)
@[simp] theorem sw34 : (Str.ofString "+" == Str.ofString "-") = false := by decide +kernel
@[simp] theorem sv34 : (Str.ofString "+" = Str.ofString "-") = False := eq_false (by decide +kernel)
@[simp] theorem sw35 : (Str.ofString "+" == Str.ofString "*") = false := by decide +kernel
@[simp] theorem sv35 : (Str.ofString "+" = Str.ofString "*") = False := eq_false (by decide +kernel)
@[simp] theorem sw36 : (Str.ofString "+" == Str.ofString "set") = false := by decide +kernel
@[simp] theorem sv36 : (Str.ofString "+" = Str.ofString "set") = False := eq_false (by decide +kernel)
@[simp] theorem sw37 : (Str.ofString "+" == Str.ofString "if") = false := by decide +kernel
@[simp] theorem sv37 : (Str.ofString "+" = Str.ofString "if") = False := eq_false (by decide +kernel)
@[simp] theorem sw38 : (Str.ofString "+" == Str.ofString "go") = false := by decide +kernel
@[simp] theorem sv38 : (Str.ofString "+" = Str.ofString "go") = False := eq_false (by decide +kernel)
@[simp] theorem sw39 : (Str.ofString "+" == Str.ofString "say") = false := by decide +kernel
@[simp] theorem sv39 : (Str.ofString "+" = Str.ofString "say") = False := eq_false (by decide +kernel)
@[simp] theorem sw40 : (Str.ofString "+" == Str.ofString "ask") = false := by decide +kernel
@[simp] theorem sv40 : (Str.ofString "+" = Str.ofString "ask") = False := eq_false (by decide +kernel)
@[simp] theorem sw41 : (Str.ofString "+" == Str.ofString "read") = false := by decide +kernel
@[simp] theorem sv41 : (Str.ofString "+" = Str.ofString "read") = False := eq_false (by decide +kernel)
@[simp] theorem sw42 : (Str.ofString "+" == Str.ofString "write") = false := by decide +kernel
@[simp] theorem sv42 : (Str.ofString "+" = Str.ofString "write") = False := eq_false (by decide +kernel)
@[simp] theorem sw43 : (Str.ofString "+" == Str.ofString "call") = false := by decide +kernel
@[simp] theorem sv43 : (Str.ofString "+" = Str.ofString "call") = False := eq_false (by decide +kernel)
@[simp] theorem sw44 : (Str.ofString "+" == Str.ofString "end") = false := by decide +kernel
@[simp] theorem sv44 : (Str.ofString "+" = Str.ofString "end") = False := eq_false (by decide +kernel)
@[simp] theorem sw45 : (Str.ofString "+" == Str.ofString "mute") = false := by decide +kernel
@[simp] theorem sv45 : (Str.ofString "+" = Str.ofString "mute") = False := eq_false (by decide +kernel)
@[simp] theorem sw46 : (Str.ofString "+" == Str.ofString "alike") = false := by decide +kernel
@[simp] theorem sv46 : (Str.ofString "+" = Str.ofString "alike") = False := eq_false (by decide +kernel)
@[simp] theorem sw47 : (Str.ofString "+" == Str.ofString "apart") = false := by decide +kernel
@[simp] theorem sv47 : (Str.ofString "+" = Str.ofString "apart") = False := eq_false (by decide +kernel)
@[simp] theorem sw48 : (Str.ofString "-" == Str.ofString "x") = false := by decide +kernel
@[simp] theorem sv48 : (Str.ofString "-" = Str.ofString "x") = False := eq_false (by decide +kernel)
@[simp] theorem sw49 : (Str.ofString "-" == Str.ofString "y") = false := by decide +kernel
@[simp] theorem sv49 : (Str.ofString "-" = Str.ofString "y") = False := eq_false (by decide +kernel)
@[simp] theorem sw50 : (Str.ofString "-" == Str.ofString "+") = false := by decide +kernel
@[simp] theorem sv50 : (Str.ofString "-" = Str.ofString "+") = False := eq_false (by decide +kernel)
@[simp] theorem sw51 : (Str.ofString "-" == Str.ofString "*") = false := by decide +kernel
@[simp] theorem sv51 : (Str.ofString "-" = Str.ofString "*") = False := eq_false (by decide +kernel)
@[simp] theorem sw52 : (Str.ofString "-" == Str.ofString "set") = false := by decide +kernel
@[simp] theorem sv52 : (Str.ofString "-" = Str.ofString "set") = False := eq_false (by decide +kernel)
@[simp] theorem sw53 : (Str.ofString "-" == Str.ofString "if") = false := by decide +kernel
@[simp] theorem sv53 : (Str.ofString "-" = Str.ofString "if") = False := eq_false (by decide +kernel)
@[simp] theorem sw54 : (Str.ofString "-" == Str.ofString "go") = false := by decide +kernel
@[simp] theorem sv54 : (Str.ofString "-" = Str.ofString "go") = False := eq_false (by decide +kernel)
@[simp] theorem sw55 : (Str.ofString "-" == Str.ofString "say") = false := by decide +kernel
@[simp] theorem sv55 : (Str.ofString "-" = Str.ofString "say") = False := eq_false (by decide +kernel)
@[simp] theorem sw56 : (Str.ofString "-" == Str.ofString "ask") = false := by decide +kernel
@[simp] theorem sv56 : (Str.ofString "-" = Str.ofString "ask") = False := eq_false (by decide +kernel)
@[simp] theorem sw57 : (Str.ofString "-" == Str.ofString "read") = false := by decide +kernel
@[simp] theorem sv57 : (Str.ofString "-" = Str.ofString "read") = False := eq_false (by decide +kernel)
@[simp] theorem sw58 : (Str.ofString "-" == Str.ofString "write") = false := by decide +kernel
@[simp] theorem sv58 : (Str.ofString "-" = Str.ofString "write") = False := eq_false (by decide +kernel)
@[simp] theorem sw59 : (Str.ofString "-" == Str.ofString "call") = false := by decide +kernel
@[simp] theorem sv59 : (Str.ofString "-" = Str.ofString "call") = False := eq_false (by decide +kernel)
@[simp] theorem sw60 : (Str.ofString "-" == Str.ofString "end") = false := by decide +kernel
@[simp] theorem sv60 : (Str.ofString "-" = Str.ofString "end") = False := eq_false (by decide +kernel)
@[simp] theorem sw61 : (Str.ofString "-" == Str.ofString "mute") = false := by decide +kernel
@[simp] theorem sv61 : (Str.ofString "-" = Str.ofString "mute") = False := eq_false (by decide +kernel)
@[simp] theorem sw62 : (Str.ofString "-" == Str.ofString "alike") = false := by decide +kernel
@[simp] theorem sv62 : (Str.ofString "-" = Str.ofString "alike") = False := eq_false (by decide +kernel)
@[simp] theorem sw63 : (Str.ofString "-" == Str.ofString "apart") = false := by decide +kernel
@[simp] theorem sv63 : (Str.ofString "-" = Str.ofString "apart") = False := eq_false (by decide +kernel)
@[simp] theorem sw64 : (Str.ofString "*" == Str.ofString "x") = false := by decide +kernel
@[simp] theorem sv64 : (Str.ofString "*" = Str.ofString "x") = False := eq_false (by decide +kernel)
@[simp] theorem sw65 : (Str.ofString "*" == Str.ofString "y") = false := by decide +kernel
@[simp] theorem sv65 : (Str.ofString "*" = Str.ofString "y") = False := eq_false (by decide +kernel)
@[simp] theorem sw66 : (Str.ofString "*" == Str.ofString "+") = false := by decide +kernel
@[simp] theorem sv66 : (Str.ofString "*" = Str.ofString "+") = False := eq_false (by decide +kernel)
@[simp] theorem sw67 : (Str.ofString "*" == Str.ofString "-") = false := by decide +kernel
@[simp] theorem sv67 : (Str.ofString "*" = Str.ofString "-") = False := eq_false (by decide +kernel)
@[simp] theorem sw68 : (Str.ofString "*" == Str.ofString "set") = false := by decide +kernel
@[simp] theorem sv68 : (Str.ofString "*" = Str.ofString "set") = False := eq_false (by decide +kernel)
@[simp] theorem sw69 : (Str.ofString "*" == Str.ofString "if") = false := by decide +kernel
@[simp] theorem sv69 : (Str.ofString "*" = Str.ofString "if") = False := eq_false (by decide +kernel)
@[simp] theorem sw70 : (Str.ofString "*" == Str.ofString "go") = false := by decide +kernel
@[simp] theorem sv70 : (Str.ofString "*" = Str.ofString "go") = False := eq_false (by decide +kernel)
@[simp] theorem sw71 : (Str.ofString "*" == Str.ofString "say") = false := by decide +kernel
@[simp] theorem sv71 : (Str.ofString "*" = Str.ofString "say") = False := eq_false (by decide +kernel)
@[simp] theorem sw72 : (Str.ofString "*" == Str.ofString "ask") = false := by decide +kernel
@[simp] theorem sv72 : (Str.ofString "*" = Str.ofString "ask") = False := eq_false (by decide +kernel)
@[simp] theorem sw73 : (Str.ofString "*" == Str.ofString "read") = false := by decide +kernel
@[simp] theorem sv73 : (Str.ofString "*" = Str.ofString "read") = False := eq_false (by decide +kernel)
@[simp] theorem sw74 : (Str.ofString "*" == Str.ofString "write") = false := by decide +kernel
@[simp] theorem sv74 : (Str.ofString "*" = Str.ofString "write") = False := eq_false (by decide +kernel)
@[simp] theorem sw75 : (Str.ofString "*" == Str.ofString "call") = false := by decide +kernel
@[simp] theorem sv75 : (Str.ofString "*" = Str.ofString "call") = False := eq_false (by decide +kernel)
@[simp] theorem sw76 : (Str.ofString "*" == Str.ofString "end") = false := by decide +kernel
@[simp] theorem sv76 : (Str.ofString "*" = Str.ofString "end") = False := eq_false (by decide +kernel)
@[simp] theorem sw77 : (Str.ofString "*" == Str.ofString "mute") = false := by decide +kernel
@[simp] theorem sv77 : (Str.ofString "*" = Str.ofString "mute") = False := eq_false (by decide +kernel)
@[simp] theorem sw78 : (Str.ofString "*" == Str.ofString "alike") = false := by decide +kernel
@[simp] theorem sv78 : (Str.ofString "*" = Str.ofString "alike") = False := eq_false (by decide +kernel)
@[simp] theorem sw79 : (Str.ofString "*" == Str.ofString "apart") = false := by decide +kernel
@[simp] theorem sv79 : (Str.ofString "*" = Str.ofString "apart") = False := eq_false (by decide +kernel)
@[simp] theorem sw80 : (Str.ofString "set" == Str.ofString "x") = false := by decide +kernel
@[simp] theorem sv80 : (Str.ofString "set" = Str.ofString "x") = False := eq_false (by decide +kernel)
@[simp] theorem sw81 : (Str.ofString "set" == Str.ofString "y") = false := by decide +kernel
@[simp] theorem sv81 : (Str.ofString "set" = Str.ofString "y") = False := eq_false (by decide +kernel)
@[simp] theorem sw82 : (Str.ofString "set" == Str.ofString "+") = false := by decide +kernel
@[simp] theorem sv82 : (Str.ofString "set" = Str.ofString "+") = False := eq_false (by decide +kernel)
@[simp] theorem sw83 : (Str.ofString "set" == Str.ofString "-") = false := by decide +kernel
@[simp] theorem sv83 : (Str.ofString "set" = Str.ofString "-") = False := eq_false (by decide +kernel)
@[simp] theorem sw84 : (Str.ofString "set" == Str.ofString "*") = false := by decide +kernel
@[simp] theorem sv84 : (Str.ofString "set" = Str.ofString "*") = False := eq_false (by decide +kernel)
@[simp] theorem sw85 : (Str.ofString "set" == Str.ofString "if") = false := by decide +kernel
@[simp] theorem sv85 : (Str.ofString "set" = Str.ofString "if") = False := eq_false (by decide +kernel)
@[simp] theorem sw86 : (Str.ofString "set" == Str.ofString "go") = false := by decide +kernel
@[simp] theorem sv86 : (Str.ofString "set" = Str.ofString "go") = False := eq_false (by decide +kernel)
@[simp] theorem sw87 : (Str.ofString "set" == Str.ofString "say") = false := by decide +kernel
@[simp] theorem sv87 : (Str.ofString "set" = Str.ofString "say") = False := eq_false (by decide +kernel)
@[simp] theorem sw88 : (Str.ofString "set" == Str.ofString "ask") = false := by decide +kernel
@[simp] theorem sv88 : (Str.ofString "set" = Str.ofString "ask") = False := eq_false (by decide +kernel)
@[simp] theorem sw89 : (Str.ofString "set" == Str.ofString "read") = false := by decide +kernel
@[simp] theorem sv89 : (Str.ofString "set" = Str.ofString "read") = False := eq_false (by decide +kernel)
@[simp] theorem sw90 : (Str.ofString "set" == Str.ofString "write") = false := by decide +kernel
@[simp] theorem sv90 : (Str.ofString "set" = Str.ofString "write") = False := eq_false (by decide +kernel)
@[simp] theorem sw91 : (Str.ofString "set" == Str.ofString "call") = false := by decide +kernel
@[simp] theorem sv91 : (Str.ofString "set" = Str.ofString "call") = False := eq_false (by decide +kernel)
@[simp] theorem sw92 : (Str.ofString "set" == Str.ofString "end") = false := by decide +kernel
@[simp] theorem sv92 : (Str.ofString "set" = Str.ofString "end") = False := eq_false (by decide +kernel)
@[simp] theorem sw93 : (Str.ofString "set" == Str.ofString "mute") = false := by decide +kernel
@[simp] theorem sv93 : (Str.ofString "set" = Str.ofString "mute") = False := eq_false (by decide +kernel)
@[simp] theorem sw94 : (Str.ofString "set" == Str.ofString "alike") = false := by decide +kernel
@[simp] theorem sv94 : (Str.ofString "set" = Str.ofString "alike") = False := eq_false (by decide +kernel)
@[simp] theorem sw95 : (Str.ofString "set" == Str.ofString "apart") = false := by decide +kernel
@[simp] theorem sv95 : (Str.ofString "set" = Str.ofString "apart") = False := eq_false (by decide +kernel)
@[simp] theorem sw96 : (Str.ofString "if" == Str.ofString "x") = false := by decide +kernel
@[simp] theorem sv96 : (Str.ofString "if" = Str.ofString "x") = False := eq_false (by decide +kernel)
@[simp] theorem sw97 : (Str.ofString "if" == Str.ofString "y") = false := by decide +kernel
@[simp] theorem sv97 : (Str.ofString "if" = Str.ofString "y") = False := eq_false (by decide +kernel)
@[simp] theorem sw98 : (Str.ofString "if" == Str.ofString "+") = false := by decide +kernel
@[simp] theorem sv98 : (Str.ofString "if" = Str.ofString "+") = False := eq_false (by decide +kernel)
@[simp] theorem sw99 : (Str.ofString "if" == Str.ofString "-") = false := by decide +kernel
@[simp] theorem sv99 : (Str.ofString "if" = Str.ofString "-") = False := eq_false (by decide +kernel)
@[simp] theorem sw100 : (Str.ofString "if" == Str.ofString "*") = false := by decide +kernel
@[simp] theorem sv100 : (Str.ofString "if" = Str.ofString "*") = False := eq_false (by decide +kernel)
@[simp] theorem sw101 : (Str.ofString "if" == Str.ofString "set") = false := by decide +kernel
@[simp] theorem sv101 : (Str.ofString "if" = Str.ofString "set") = False := eq_false (by decide +kernel)
@[simp] theorem sw102 : (Str.ofString "if" == Str.ofString "go") = false := by decide +kernel
@[simp] theorem sv102 : (Str.ofString "if" = Str.ofString "go") = False := eq_false (by decide +kernel)
@[simp] theorem sw103 : (Str.ofString "if" == Str.ofString "say") = false := by decide +kernel
@[simp] theorem sv103 : (Str.ofString "if" = Str.ofString "say") = False := eq_false (by decide +kernel)
@[simp] theorem sw104 : (Str.ofString "if" == Str.ofString "ask") = false := by decide +kernel
@[simp] theorem sv104 : (Str.ofString "if" = Str.ofString "ask") = False := eq_false (by decide +kernel)
@[simp] theorem sw105 : (Str.ofString "if" == Str.ofString "read") = false := by decide +kernel
@[simp] theorem sv105 : (Str.ofString "if" = Str.ofString "read") = False := eq_false (by decide +kernel)
@[simp] theorem sw106 : (Str.ofString "if" == Str.ofString "write") = false := by decide +kernel
@[simp] theorem sv106 : (Str.ofString "if" = Str.ofString "write") = False := eq_false (by decide +kernel)
@[simp] theorem sw107 : (Str.ofString "if" == Str.ofString "call") = false := by decide +kernel
@[simp] theorem sv107 : (Str.ofString "if" = Str.ofString "call") = False := eq_false (by decide +kernel)
@[simp] theorem sw108 : (Str.ofString "if" == Str.ofString "end") = false := by decide +kernel
@[simp] theorem sv108 : (Str.ofString "if" = Str.ofString "end") = False := eq_false (by decide +kernel)
@[simp] theorem sw109 : (Str.ofString "if" == Str.ofString "mute") = false := by decide +kernel
@[simp] theorem sv109 : (Str.ofString "if" = Str.ofString "mute") = False := eq_false (by decide +kernel)
@[simp] theorem sw110 : (Str.ofString "if" == Str.ofString "alike") = false := by decide +kernel
@[simp] theorem sv110 : (Str.ofString "if" = Str.ofString "alike") = False := eq_false (by decide +kernel)
@[simp] theorem sw111 : (Str.ofString "if" == Str.ofString "apart") = false := by decide +kernel
@[simp] theorem sv111 : (Str.ofString "if" = Str.ofString "apart") = False := eq_false (by decide +kernel)
@[simp] theorem sw112 : (Str.ofString "go" == Str.ofString "x") = false := by decide +kernel
@[simp] theorem sv112 : (Str.ofString "go" = Str.ofString "x") = False := eq_false (by decide +kernel)
@[simp] theorem sw113 : (Str.ofString "go" == Str.ofString "y") = false := by decide +kernel
@[simp] theorem sv113 : (Str.ofString "go" = Str.ofString "y") = False := eq_false (by decide +kernel)
@[simp] theorem sw114 : (Str.ofString "go" == Str.ofString "+") = false := by decide +kernel
@[simp] theorem sv114 : (Str.ofString "go" = Str.ofString "+") = False := eq_false (by decide +kernel)
@[simp] theorem sw115 : (Str.ofString "go" == Str.ofString "-") = false := by decide +kernel
@[simp] theorem sv115 : (Str.ofString "go" = Str.ofString "-") = False := eq_false (by decide +kernel)
@[simp] theorem sw116 : (Str.ofString "go" == Str.ofString "*") = false := by decide +kernel
@[simp] theorem sv116 : (Str.ofString "go" = Str.ofString "*") = False := eq_false (by decide +kernel)
@[simp] theorem sw117 : (Str.ofString "go" == Str.ofString "set") = false := by decide +kernel
@[simp] theorem sv117 : (Str.ofString "go" = Str.ofString "set") = False := eq_false (by decide +kernel)
@[simp] theorem sw118 : (Str.ofString "go" == Str.ofString "if") = false := by decide +kernel
@[simp] theorem sv118 : (Str.ofString "go" = Str.ofString "if") = False := eq_false (by decide +kernel)
@[simp] theorem sw119 : (Str.ofString "go" == Str.ofString "say") = false := by decide +kernel
@[simp] theorem sv119 : (Str.ofString "go" = Str.ofString "say") = False := eq_false (by decide +kernel)
@[simp] theorem sw120 : (Str.ofString "go" == Str.ofString "ask") = false := by decide +kernel
@[simp] theorem sv120 : (Str.ofString "go" = Str.ofString "ask") = False := eq_false (by decide +kernel)
@[simp] theorem sw121 : (Str.ofString "go" == Str.ofString "read") = false := by decide +kernel
@[simp] theorem sv121 : (Str.ofString "go" = Str.ofString "read") = False := eq_false (by decide +kernel)
@[simp] theorem sw122 : (Str.ofString "go" == Str.ofString "write") = false := by decide +kernel
@[simp] theorem sv122 : (Str.ofString "go" = Str.ofString "write") = False := eq_false (by decide +kernel)
@[simp] theorem sw123 : (Str.ofString "go" == Str.ofString "call") = false := by decide +kernel
@[simp] theorem sv123 : (Str.ofString "go" = Str.ofString "call") = False := eq_false (by decide +kernel)
@[simp] theorem sw124 : (Str.ofString "go" == Str.ofString "end") = false := by decide +kernel
@[simp] theorem sv124 : (Str.ofString "go" = Str.ofString "end") = False := eq_false (by decide +kernel)
@[simp] theorem sw125 : (Str.ofString "go" == Str.ofString "mute") = false := by decide +kernel
@[simp] theorem sv125 : (Str.ofString "go" = Str.ofString "mute") = False := eq_false (by decide +kernel)
@[simp] theorem sw126 : (Str.ofString "go" == Str.ofString "alike") = false := by decide +kernel
@[simp] theorem sv126 : (Str.ofString "go" = Str.ofString "alike") = False := eq_false (by decide +kernel)
@[simp] theorem sw127 : (Str.ofString "go" == Str.ofString "apart") = false := by decide +kernel
@[simp] theorem sv127 : (Str.ofString "go" = Str.ofString "apart") = False := eq_false (by decide +kernel)
@[simp] theorem sw128 : (Str.ofString "say" == Str.ofString "x") = false := by decide +kernel
@[simp] theorem sv128 : (Str.ofString "say" = Str.ofString "x") = False := eq_false (by decide +kernel)
@[simp] theorem sw129 : (Str.ofString "say" == Str.ofString "y") = false := by decide +kernel
@[simp] theorem sv129 : (Str.ofString "say" = Str.ofString "y") = False := eq_false (by decide +kernel)
@[simp] theorem sw130 : (Str.ofString "say" == Str.ofString "+") = false := by decide +kernel
@[simp] theorem sv130 : (Str.ofString "say" = Str.ofString "+") = False := eq_false (by decide +kernel)
@[simp] theorem sw131 : (Str.ofString "say" == Str.ofString "-") = false := by decide +kernel
@[simp] theorem sv131 : (Str.ofString "say" = Str.ofString "-") = False := eq_false (by decide +kernel)
@[simp] theorem sw132 : (Str.ofString "say" == Str.ofString "*") = false := by decide +kernel
@[simp] theorem sv132 : (Str.ofString "say" = Str.ofString "*") = False := eq_false (by decide +kernel)
@[simp] theorem sw133 : (Str.ofString "say" == Str.ofString "set") = false := by decide +kernel
@[simp] theorem sv133 : (Str.ofString "say" = Str.ofString "set") = False := eq_false (by decide +kernel)
@[simp] theorem sw134 : (Str.ofString "say" == Str.ofString "if") = false := by decide +kernel
@[simp] theorem sv134 : (Str.ofString "say" = Str.ofString "if") = False := eq_false (by decide +kernel)
@[simp] theorem sw135 : (Str.ofString "say" == Str.ofString "go") = false := by decide +kernel
@[simp] theorem sv135 : (Str.ofString "say" = Str.ofString "go") = False := eq_false (by decide +kernel)
@[simp] theorem sw136 : (Str.ofString "say" == Str.ofString "ask") = false := by decide +kernel
@[simp] theorem sv136 : (Str.ofString "say" = Str.ofString "ask") = False := eq_false (by decide +kernel)
@[simp] theorem sw137 : (Str.ofString "say" == Str.ofString "read") = false := by decide +kernel
@[simp] theorem sv137 : (Str.ofString "say" = Str.ofString "read") = False := eq_false (by decide +kernel)
@[simp] theorem sw138 : (Str.ofString "say" == Str.ofString "write") = false := by decide +kernel
@[simp] theorem sv138 : (Str.ofString "say" = Str.ofString "write") = False := eq_false (by decide +kernel)
@[simp] theorem sw139 : (Str.ofString "say" == Str.ofString "call") = false := by decide +kernel
@[simp] theorem sv139 : (Str.ofString "say" = Str.ofString "call") = False := eq_false (by decide +kernel)
@[simp] theorem sw140 : (Str.ofString "say" == Str.ofString "end") = false := by decide +kernel
@[simp] theorem sv140 : (Str.ofString "say" = Str.ofString "end") = False := eq_false (by decide +kernel)
@[simp] theorem sw141 : (Str.ofString "say" == Str.ofString "mute") = false := by decide +kernel
@[simp] theorem sv141 : (Str.ofString "say" = Str.ofString "mute") = False := eq_false (by decide +kernel)
@[simp] theorem sw142 : (Str.ofString "say" == Str.ofString "alike") = false := by decide +kernel
@[simp] theorem sv142 : (Str.ofString "say" = Str.ofString "alike") = False := eq_false (by decide +kernel)
@[simp] theorem sw143 : (Str.ofString "say" == Str.ofString "apart") = false := by decide +kernel
@[simp] theorem sv143 : (Str.ofString "say" = Str.ofString "apart") = False := eq_false (by decide +kernel)
@[simp] theorem sw144 : (Str.ofString "ask" == Str.ofString "x") = false := by decide +kernel
@[simp] theorem sv144 : (Str.ofString "ask" = Str.ofString "x") = False := eq_false (by decide +kernel)
@[simp] theorem sw145 : (Str.ofString "ask" == Str.ofString "y") = false := by decide +kernel
@[simp] theorem sv145 : (Str.ofString "ask" = Str.ofString "y") = False := eq_false (by decide +kernel)
@[simp] theorem sw146 : (Str.ofString "ask" == Str.ofString "+") = false := by decide +kernel
@[simp] theorem sv146 : (Str.ofString "ask" = Str.ofString "+") = False := eq_false (by decide +kernel)
@[simp] theorem sw147 : (Str.ofString "ask" == Str.ofString "-") = false := by decide +kernel
@[simp] theorem sv147 : (Str.ofString "ask" = Str.ofString "-") = False := eq_false (by decide +kernel)
@[simp] theorem sw148 : (Str.ofString "ask" == Str.ofString "*") = false := by decide +kernel
@[simp] theorem sv148 : (Str.ofString "ask" = Str.ofString "*") = False := eq_false (by decide +kernel)
@[simp] theorem sw149 : (Str.ofString "ask" == Str.ofString "set") = false := by decide +kernel
@[simp] theorem sv149 : (Str.ofString "ask" = Str.ofString "set") = False := eq_false (by decide +kernel)
@[simp] theorem sw150 : (Str.ofString "ask" == Str.ofString "if") = false := by decide +kernel
@[simp] theorem sv150 : (Str.ofString "ask" = Str.ofString "if") = False := eq_false (by decide +kernel)
@[simp] theorem sw151 : (Str.ofString "ask" == Str.ofString "go") = false := by decide +kernel
@[simp] theorem sv151 : (Str.ofString "ask" = Str.ofString "go") = False := eq_false (by decide +kernel)
@[simp] theorem sw152 : (Str.ofString "ask" == Str.ofString "say") = false := by decide +kernel
@[simp] theorem sv152 : (Str.ofString "ask" = Str.ofString "say") = False := eq_false (by decide +kernel)
@[simp] theorem sw153 : (Str.ofString "ask" == Str.ofString "read") = false := by decide +kernel
@[simp] theorem sv153 : (Str.ofString "ask" = Str.ofString "read") = False := eq_false (by decide +kernel)
@[simp] theorem sw154 : (Str.ofString "ask" == Str.ofString "write") = false := by decide +kernel
@[simp] theorem sv154 : (Str.ofString "ask" = Str.ofString "write") = False := eq_false (by decide +kernel)
@[simp] theorem sw155 : (Str.ofString "ask" == Str.ofString "call") = false := by decide +kernel
@[simp] theorem sv155 : (Str.ofString "ask" = Str.ofString "call") = False := eq_false (by decide +kernel)
@[simp] theorem sw156 : (Str.ofString "ask" == Str.ofString "end") = false := by decide +kernel
@[simp] theorem sv156 : (Str.ofString "ask" = Str.ofString "end") = False := eq_false (by decide +kernel)
@[simp] theorem sw157 : (Str.ofString "ask" == Str.ofString "mute") = false := by decide +kernel
@[simp] theorem sv157 : (Str.ofString "ask" = Str.ofString "mute") = False := eq_false (by decide +kernel)
@[simp] theorem sw158 : (Str.ofString "ask" == Str.ofString "alike") = false := by decide +kernel
@[simp] theorem sv158 : (Str.ofString "ask" = Str.ofString "alike") = False := eq_false (by decide +kernel)
@[simp] theorem sw159 : (Str.ofString "ask" == Str.ofString "apart") = false := by decide +kernel
@[simp] theorem sv159 : (Str.ofString "ask" = Str.ofString "apart") = False := eq_false (by decide +kernel)
@[simp] theorem sw160 : (Str.ofString "read" == Str.ofString "x") = false := by decide +kernel
@[simp] theorem sv160 : (Str.ofString "read" = Str.ofString "x") = False := eq_false (by decide +kernel)
@[simp] theorem sw161 : (Str.ofString "read" == Str.ofString "y") = false := by decide +kernel
@[simp] theorem sv161 : (Str.ofString "read" = Str.ofString "y") = False := eq_false (by decide +kernel)
@[simp] theorem sw162 : (Str.ofString "read" == Str.ofString "+") = false := by decide +kernel
@[simp] theorem sv162 : (Str.ofString "read" = Str.ofString "+") = False := eq_false (by decide +kernel)
@[simp] theorem sw163 : (Str.ofString "read" == Str.ofString "-") = false := by decide +kernel
@[simp] theorem sv163 : (Str.ofString "read" = Str.ofString "-") = False := eq_false (by decide +kernel)
@[simp] theorem sw164 : (Str.ofString "read" == Str.ofString "*") = false := by decide +kernel
@[simp] theorem sv164 : (Str.ofString "read" = Str.ofString "*") = False := eq_false (by decide +kernel)
@[simp] theorem sw165 : (Str.ofString "read" == Str.ofString "set") = false := by decide +kernel
@[simp] theorem sv165 : (Str.ofString "read" = Str.ofString "set") = False := eq_false (by decide +kernel)
@[simp] theorem sw166 : (Str.ofString "read" == Str.ofString "if") = false := by decide +kernel
@[simp] theorem sv166 : (Str.ofString "read" = Str.ofString "if") = False := eq_false (by decide +kernel)
@[simp] theorem sw167 : (Str.ofString "read" == Str.ofString "go") = false := by decide +kernel
@[simp] theorem sv167 : (Str.ofString "read" = Str.ofString "go") = False := eq_false (by decide +kernel)
@[simp] theorem sw168 : (Str.ofString "read" == Str.ofString "say") = false := by decide +kernel
@[simp] theorem sv168 : (Str.ofString "read" = Str.ofString "say") = False := eq_false (by decide +kernel)
@[simp] theorem sw169 : (Str.ofString "read" == Str.ofString "ask") = false := by decide +kernel
@[simp] theorem sv169 : (Str.ofString "read" = Str.ofString "ask") = False := eq_false (by decide +kernel)
@[simp] theorem sw170 : (Str.ofString "read" == Str.ofString "write") = false := by decide +kernel
@[simp] theorem sv170 : (Str.ofString "read" = Str.ofString "write") = False := eq_false (by decide +kernel)
@[simp] theorem sw171 : (Str.ofString "read" == Str.ofString "call") = false := by decide +kernel
@[simp] theorem sv171 : (Str.ofString "read" = Str.ofString "call") = False := eq_false (by decide +kernel)
@[simp] theorem sw172 : (Str.ofString "read" == Str.ofString "end") = false := by decide +kernel
@[simp] theorem sv172 : (Str.ofString "read" = Str.ofString "end") = False := eq_false (by decide +kernel)
@[simp] theorem sw173 : (Str.ofString "read" == Str.ofString "mute") = false := by decide +kernel
@[simp] theorem sv173 : (Str.ofString "read" = Str.ofString "mute") = False := eq_false (by decide +kernel)
@[simp] theorem sw174 : (Str.ofString "read" == Str.ofString "alike") = false := by decide +kernel
@[simp] theorem sv174 : (Str.ofString "read" = Str.ofString "alike") = False := eq_false (by decide +kernel)
@[simp] theorem sw175 : (Str.ofString "read" == Str.ofString "apart") = false := by decide +kernel
@[simp] theorem sv175 : (Str.ofString "read" = Str.ofString "apart") = False := eq_false (by decide +kernel)
@[simp] theorem sw176 : (Str.ofString "write" == Str.ofString "x") = false := by decide +kernel
@[simp] theorem sv176 : (Str.ofString "write" = Str.ofString "x") = False := eq_false (by decide +kernel)
@[simp] theorem sw177 : (Str.ofString "write" == Str.ofString "y") = false := by decide +kernel
@[simp] theorem sv177 : (Str.ofString "write" = Str.ofString "y") = False := eq_false (by decide +kernel)
@[simp] theorem sw178 : (Str.ofString "write" == Str.ofString "+") = false := by decide +kernel
@[simp] theorem sv178 : (Str.ofString "write" = Str.ofString "+") = False := eq_false (by decide +kernel)
@[simp] theorem sw179 : (Str.ofString "write" == Str.ofString "-") = false := by decide +kernel
@[simp] theorem sv179 : (Str.ofString "write" = Str.ofString "-") = False := eq_false (by decide +kernel)
@[simp] theorem sw180 : (Str.ofString "write" == Str.ofString "*") = false := by decide +kernel
@[simp] theorem sv180 : (Str.ofString "write" = Str.ofString "*") = False := eq_false (by decide +kernel)
@[simp] theorem sw181 : (Str.ofString "write" == Str.ofString "set") = false := by decide +kernel
@[simp] theorem sv181 : (Str.ofString "write" = Str.ofString "set") = False := eq_false (by decide +kernel)
@[simp] theorem sw182 : (Str.ofString "write" == Str.ofString "if") = false := by decide +kernel
@[simp] theorem sv182 : (Str.ofString "write" = Str.ofString "if") = False := eq_false (by decide +kernel)
@[simp] theorem sw183 : (Str.ofString "write" == Str.ofString "go") = false := by decide +kernel
@[simp] theorem sv183 : (Str.ofString "write" = Str.ofString "go") = False := eq_false (by decide +kernel)
@[simp] theorem sw184 : (Str.ofString "write" == Str.ofString "say") = false := by decide +kernel
@[simp] theorem sv184 : (Str.ofString "write" = Str.ofString "say") = False := eq_false (by decide +kernel)
@[simp] theorem sw185 : (Str.ofString "write" == Str.ofString "ask") = false := by decide +kernel
@[simp] theorem sv185 : (Str.ofString "write" = Str.ofString "ask") = False := eq_false (by decide +kernel)
@[simp] theorem sw186 : (Str.ofString "write" == Str.ofString "read") = false := by decide +kernel
@[simp] theorem sv186 : (Str.ofString "write" = Str.ofString "read") = False := eq_false (by decide +kernel)
@[simp] theorem sw187 : (Str.ofString "write" == Str.ofString "call") = false := by decide +kernel
@[simp] theorem sv187 : (Str.ofString "write" = Str.ofString "call") = False := eq_false (by decide +kernel)
@[simp] theorem sw188 : (Str.ofString "write" == Str.ofString "end") = false := by decide +kernel
@[simp] theorem sv188 : (Str.ofString "write" = Str.ofString "end") = False := eq_false (by decide +kernel)
@[simp] theorem sw189 : (Str.ofString "write" == Str.ofString "mute") = false := by decide +kernel
@[simp] theorem sv189 : (Str.ofString "write" = Str.ofString "mute") = False := eq_false (by decide +kernel)
@[simp] theorem sw190 : (Str.ofString "write" == Str.ofString "alike") = false := by decide +kernel
@[simp] theorem sv190 : (Str.ofString "write" = Str.ofString "alike") = False := eq_false (by decide +kernel)
@[simp] theorem sw191 : (Str.ofString "write" == Str.ofString "apart") = false := by decide +kernel
@[simp] theorem sv191 : (Str.ofString "write" = Str.ofString "apart") = False := eq_false (by decide +kernel)
@[simp] theorem sw192 : (Str.ofString "call" == Str.ofString "x") = false := by decide +kernel
@[simp] theorem sv192 : (Str.ofString "call" = Str.ofString "x") = False := eq_false (by decide +kernel)
@[simp] theorem sw193 : (Str.ofString "call" == Str.ofString "y") = false := by decide +kernel
@[simp] theorem sv193 : (Str.ofString "call" = Str.ofString "y") = False := eq_false (by decide +kernel)
@[simp] theorem sw194 : (Str.ofString "call" == Str.ofString "+") = false := by decide +kernel
@[simp] theorem sv194 : (Str.ofString "call" = Str.ofString "+") = False := eq_false (by decide +kernel)
@[simp] theorem sw195 : (Str.ofString "call" == Str.ofString "-") = false := by decide +kernel
@[simp] theorem sv195 : (Str.ofString "call" = Str.ofString "-") = False := eq_false (by decide +kernel)
@[simp] theorem sw196 : (Str.ofString "call" == Str.ofString "*") = false := by decide +kernel
@[simp] theorem sv196 : (Str.ofString "call" = Str.ofString "*") = False := eq_false (by decide +kernel)
@[simp] theorem sw197 : (Str.ofString "call" == Str.ofString "set") = false := by decide +kernel
@[simp] theorem sv197 : (Str.ofString "call" = Str.ofString "set") = False := eq_false (by decide +kernel)
@[simp] theorem sw198 : (Str.ofString "call" == Str.ofString "if") = false := by decide +kernel
@[simp] theorem sv198 : (Str.ofString "call" = Str.ofString "if") = False := eq_false (by decide +kernel)
@[simp] theorem sw199 : (Str.ofString "call" == Str.ofString "go") = false := by decide +kernel
@[simp] theorem sv199 : (Str.ofString "call" = Str.ofString "go") = False := eq_false (by decide +kernel)
@[simp] theorem sw200 : (Str.ofString "call" == Str.ofString "say") = false := by decide +kernel
@[simp] theorem sv200 : (Str.ofString "call" = Str.ofString "say") = False := eq_false (by decide +kernel)
@[simp] theorem sw201 : (Str.ofString "call" == Str.ofString "ask") = false := by decide +kernel
@[simp] theorem sv201 : (Str.ofString "call" = Str.ofString "ask") = False := eq_false (by decide +kernel)
@[simp] theorem sw202 : (Str.ofString "call" == Str.ofString "read") = false := by decide +kernel
@[simp] theorem sv202 : (Str.ofString "call" = Str.ofString "read") = False := eq_false (by decide +kernel)
@[simp] theorem sw203 : (Str.ofString "call" == Str.ofString "write") = false := by decide +kernel
@[simp] theorem sv203 : (Str.ofString "call" = Str.ofString "write") = False := eq_false (by decide +kernel)
@[simp] theorem sw204 : (Str.ofString "call" == Str.ofString "end") = false := by decide +kernel
@[simp] theorem sv204 : (Str.ofString "call" = Str.ofString "end") = False := eq_false (by decide +kernel)
@[simp] theorem sw205 : (Str.ofString "call" == Str.ofString "mute") = false := by decide +kernel
@[simp] theorem sv205 : (Str.ofString "call" = Str.ofString "mute") = False := eq_false (by decide +kernel)
@[simp] theorem sw206 : (Str.ofString "call" == Str.ofString "alike") = false := by decide +kernel
@[simp] theorem sv206 : (Str.ofString "call" = Str.ofString "alike") = False := eq_false (by decide +kernel)
@[simp] theorem sw207 : (Str.ofString "call" == Str.ofString "apart") = false := by decide +kernel
@[simp] theorem sv207 : (Str.ofString "call" = Str.ofString "apart") = False := eq_false (by decide +kernel)
@[simp] theorem sw208 : (Str.ofString "end" == Str.ofString "x") = false := by decide +kernel
@[simp] theorem sv208 : (Str.ofString "end" = Str.ofString "x") = False := eq_false (by decide +kernel)
@[simp] theorem sw209 : (Str.ofString "end" == Str.ofString "y") = false := by decide +kernel
@[simp] theorem sv209 : (Str.ofString "end" = Str.ofString "y") = False := eq_false (by decide +kernel)
@[simp] theorem sw210 : (Str.ofString "end" == Str.ofString "+") = false := by decide +kernel
@[simp] theorem sv210 : (Str.ofString "end" = Str.ofString "+") = False := eq_false (by decide +kernel)
@[simp] theorem sw211 : (Str.ofString "end" == Str.ofString "-") = false := by decide +kernel
@[simp] theorem sv211 : (Str.ofString "end" = Str.ofString "-") = False := eq_false (by decide +kernel)
@[simp] theorem sw212 : (Str.ofString "end" == Str.ofString "*") = false := by decide +kernel
@[simp] theorem sv212 : (Str.ofString "end" = Str.ofString "*") = False := eq_false (by decide +kernel)
@[simp] theorem sw213 : (Str.ofString "end" == Str.ofString "set") = false := by decide +kernel
@[simp] theorem sv213 : (Str.ofString "end" = Str.ofString "set") = False := eq_false (by decide +kernel)
@[simp] theorem sw214 : (Str.ofString "end" == Str.ofString "if") = false := by decide +kernel
@[simp] theorem sv214 : (Str.ofString "end" = Str.ofString "if") = False := eq_false (by decide +kernel)
@[simp] theorem sw215 : (Str.ofString "end" == Str.ofString "go") = false := by decide +kernel
@[simp] theorem sv215 : (Str.ofString "end" = Str.ofString "go") = False := eq_false (by decide +kernel)
@[simp] theorem sw216 : (Str.ofString "end" == Str.ofString "say") = false := by decide +kernel
@[simp] theorem sv216 : (Str.ofString "end" = Str.ofString "say") = False := eq_false (by decide +kernel)
@[simp] theorem sw217 : (Str.ofString "end" == Str.ofString "ask") = false := by decide +kernel
@[simp] theorem sv217 : (Str.ofString "end" = Str.ofString "ask") = False := eq_false (by decide +kernel)
@[simp] theorem sw218 : (Str.ofString "end" == Str.ofString "read") = false := by decide +kernel
@[simp] theorem sv218 : (Str.ofString "end" = Str.ofString "read") = False := eq_false (by decide +kernel)
@[simp] theorem sw219 : (Str.ofString "end" == Str.ofString "write") = false := by decide +kernel
@[simp] theorem sv219 : (Str.ofString "end" = Str.ofString "write") = False := eq_false (by decide +kernel)
@[simp] theorem sw220 : (Str.ofString "end" == Str.ofString "call") = false := by decide +kernel
@[simp] theorem sv220 : (Str.ofString "end" = Str.ofString "call") = False := eq_false (by decide +kernel)
@[simp] theorem sw221 : (Str.ofString "end" == Str.ofString "mute") = false := by decide +kernel
@[simp] theorem sv221 : (Str.ofString "end" = Str.ofString "mute") = False := eq_false (by decide +kernel)
@[simp] theorem sw222 : (Str.ofString "end" == Str.ofString "alike") = false := by decide +kernel
@[simp] theorem sv222 : (Str.ofString "end" = Str.ofString "alike") = False := eq_false (by decide +kernel)
@[simp] theorem sw223 : (Str.ofString "end" == Str.ofString "apart") = false := by decide +kernel
@[simp] theorem sv223 : (Str.ofString "end" = Str.ofString "apart") = False := eq_false (by decide +kernel)
@[simp] theorem sw224 : (Str.ofString "mute" == Str.ofString "x") = false := by decide +kernel
@[simp] theorem sv224 : (Str.ofString "mute" = Str.ofString "x") = False := eq_false (by decide +kernel)
@[simp] theorem sw225 : (Str.ofString "mute" == Str.ofString "y") = false := by decide +kernel
@[simp] theorem sv225 : (Str.ofString "mute" = Str.ofString "y") = False := eq_false (by decide +kernel)
@[simp] theorem sw226 : (Str.ofString "mute" == Str.ofString "+") = false := by decide +kernel
@[simp] theorem sv226 : (Str.ofString "mute" = Str.ofString "+") = False := eq_false (by decide +kernel)
@[simp] theorem sw227 : (Str.ofString "mute" == Str.ofString "-") = false := by decide +kernel
@[simp] theorem sv227 : (Str.ofString "mute" = Str.ofString "-") = False := eq_false (by decide +kernel)
@[simp] theorem sw228 : (Str.ofString "mute" == Str.ofString "*") = false := by decide +kernel
@[simp] theorem sv228 : (Str.ofString "mute" = Str.ofString "*") = False := eq_false (by decide +kernel)
@[simp] theorem sw229 : (Str.ofString "mute" == Str.ofString "set") = false := by decide +kernel
@[simp] theorem sv229 : (Str.ofString "mute" = Str.ofString "set") = False := eq_false (by decide +kernel)
@[simp] theorem sw230 : (Str.ofString "mute" == Str.ofString "if") = false := by decide +kernel
@[simp] theorem sv230 : (Str.ofString "mute" = Str.ofString "if") = False := eq_false (by decide +kernel)
@[simp] theorem sw231 : (Str.ofString "mute" == Str.ofString "go") = false := by decide +kernel
@[simp] theorem sv231 : (Str.ofString "mute" = Str.ofString "go") = False := eq_false (by decide +kernel)
@[simp] theorem sw232 : (Str.ofString "mute" == Str.ofString "say") = false := by decide +kernel
@[simp] theorem sv232 : (Str.ofString "mute" = Str.ofString "say") = False := eq_false (by decide +kernel)
@[simp] theorem sw233 : (Str.ofString "mute" == Str.ofString "ask") = false := by decide +kernel
@[simp] theorem sv233 : (Str.ofString "mute" = Str.ofString "ask") = False := eq_false (by decide +kernel)
@[simp] theorem sw234 : (Str.ofString "mute" == Str.ofString "read") = false := by decide +kernel
@[simp] theorem sv234 : (Str.ofString "mute" = Str.ofString "read") = False := eq_false (by decide +kernel)
@[simp] theorem sw235 : (Str.ofString "mute" == Str.ofString "write") = false := by decide +kernel
@[simp] theorem sv235 : (Str.ofString "mute" = Str.ofString "write") = False := eq_false (by decide +kernel)
@[simp] theorem sw236 : (Str.ofString "mute" == Str.ofString "call") = false := by decide +kernel
@[simp] theorem sv236 : (Str.ofString "mute" = Str.ofString "call") = False := eq_false (by decide +kernel)
@[simp] theorem sw237 : (Str.ofString "mute" == Str.ofString "end") = false := by decide +kernel
@[simp] theorem sv237 : (Str.ofString "mute" = Str.ofString "end") = False := eq_false (by decide +kernel)
@[simp] theorem sw238 : (Str.ofString "mute" == Str.ofString "alike") = false := by decide +kernel
@[simp] theorem sv238 : (Str.ofString "mute" = Str.ofString "alike") = False := eq_false (by decide +kernel)
@[simp] theorem sw239 : (Str.ofString "mute" == Str.ofString "apart") = false := by decide +kernel
@[simp] theorem sv239 : (Str.ofString "mute" = Str.ofString "apart") = False := eq_false (by decide +kernel)
@[simp] theorem sw240 : (Str.ofString "alike" == Str.ofString "x") = false := by decide +kernel
@[simp] theorem sv240 : (Str.ofString "alike" = Str.ofString "x") = False := eq_false (by decide +kernel)
@[simp] theorem sw241 : (Str.ofString "alike" == Str.ofString "y") = false := by decide +kernel
@[simp] theorem sv241 : (Str.ofString "alike" = Str.ofString "y") = False := eq_false (by decide +kernel)
@[simp] theorem sw242 : (Str.ofString "alike" == Str.ofString "+") = false := by decide +kernel
@[simp] theorem sv242 : (Str.ofString "alike" = Str.ofString "+") = False := eq_false (by decide +kernel)
@[simp] theorem sw243 : (Str.ofString "alike" == Str.ofString "-") = false := by decide +kernel
@[simp] theorem sv243 : (Str.ofString "alike" = Str.ofString "-") = False := eq_false (by decide +kernel)
@[simp] theorem sw244 : (Str.ofString "alike" == Str.ofString "*") = false := by decide +kernel
@[simp] theorem sv244 : (Str.ofString "alike" = Str.ofString "*") = False := eq_false (by decide +kernel)
@[simp] theorem sw245 : (Str.ofString "alike" == Str.ofString "set") = false := by decide +kernel
@[simp] theorem sv245 : (Str.ofString "alike" = Str.ofString "set") = False := eq_false (by decide +kernel)
@[simp] theorem sw246 : (Str.ofString "alike" == Str.ofString "if") = false := by decide +kernel
@[simp] theorem sv246 : (Str.ofString "alike" = Str.ofString "if") = False := eq_false (by decide +kernel)
@[simp] theorem sw247 : (Str.ofString "alike" == Str.ofString "go") = false := by decide +kernel
@[simp] theorem sv247 : (Str.ofString "alike" = Str.ofString "go") = False := eq_false (by decide +kernel)
@[simp] theorem sw248 : (Str.ofString "alike" == Str.ofString "say") = false := by decide +kernel
@[simp] theorem sv248 : (Str.ofString "alike" = Str.ofString "say") = False := eq_false (by decide +kernel)
@[simp] theorem sw249 : (Str.ofString "alike" == Str.ofString "ask") = false := by decide +kernel
@[simp] theorem sv249 : (Str.ofString "alike" = Str.ofString "ask") = False := eq_false (by decide +kernel)
@[simp] theorem sw250 : (Str.ofString "alike" == Str.ofString "read") = false := by decide +kernel
@[simp] theorem sv250 : (Str.ofString "alike" = Str.ofString "read") = False := eq_false (by decide +kernel)
@[simp] theorem sw251 : (Str.ofString "alike" == Str.ofString "write") = false := by decide +kernel
@[simp] theorem sv251 : (Str.ofString "alike" = Str.ofString "write") = False := eq_false (by decide +kernel)
@[simp] theorem sw252 : (Str.ofString "alike" == Str.ofString "call") = false := by decide +kernel
@[simp] theorem sv252 : (Str.ofString "alike" = Str.ofString "call") = False := eq_false (by decide +kernel)
@[simp] theorem sw253 : (Str.ofString "alike" == Str.ofString "end") = false := by decide +kernel
@[simp] theorem sv253 : (Str.ofString "alike" = Str.ofString "end") = False := eq_false (by decide +kernel)
@[simp] theorem sw254 : (Str.ofString "alike" == Str.ofString "mute") = false := by decide +kernel
@[simp] theorem sv254 : (Str.ofString "alike" = Str.ofString "mute") = False := eq_false (by decide +kernel)
@[simp] theorem sw255 : (Str.ofString "alike" == Str.ofString "apart") = false := by decide +kernel
@[simp] theorem sv255 : (Str.ofString "alike" = Str.ofString "apart") = False := eq_false (by decide +kernel)
@[simp] theorem sw256 : (Str.ofString "apart" == Str.ofString "x") = false := by decide +kernel
@[simp] theorem sv256 : (Str.ofString "apart" = Str.ofString "x") = False := eq_false (by decide +kernel)
@[simp] theorem sw257 : (Str.ofString "apart" == Str.ofString "y") = false := by decide +kernel
@[simp] theorem sv257 : (Str.ofString "apart" = Str.ofString "y") = False := eq_false (by decide +kernel)
@[simp] theorem sw258 : (Str.ofString "apart" == Str.ofString "+") = false := by decide +kernel
@[simp] theorem sv258 : (Str.ofString "apart" = Str.ofString "+") = False := eq_false (by decide +kernel)
@[simp] theorem sw259 : (Str.ofString "apart" == Str.ofString "-") = false := by decide +kernel
@[simp] theorem sv259 : (Str.ofString "apart" = Str.ofString "-") = False := eq_false (by decide +kernel)
@[simp] theorem sw260 : (Str.ofString "apart" == Str.ofString "*") = false := by decide +kernel
@[simp] theorem sv260 : (Str.ofString "apart" = Str.ofString "*") = False := eq_false (by decide +kernel)
@[simp] theorem sw261 : (Str.ofString "apart" == Str.ofString "set") = false := by decide +kernel
@[simp] theorem sv261 : (Str.ofString "apart" = Str.ofString "set") = False := eq_false (by decide +kernel)
@[simp] theorem sw262 : (Str.ofString "apart" == Str.ofString "if") = false := by decide +kernel
@[simp] theorem sv262 : (Str.ofString "apart" = Str.ofString "if") = False := eq_false (by decide +kernel)
@[simp] theorem sw263 : (Str.ofString "apart" == Str.ofString "go") = false := by decide +kernel
@[simp] theorem sv263 : (Str.ofString "apart" = Str.ofString "go") = False := eq_false (by decide +kernel)
@[simp] theorem sw264 : (Str.ofString "apart" == Str.ofString "say") = false := by decide +kernel
@[simp] theorem sv264 : (Str.ofString "apart" = Str.ofString "say") = False := eq_false (by decide +kernel)
@[simp] theorem sw265 : (Str.ofString "apart" == Str.ofString "ask") = false := by decide +kernel
@[simp] theorem sv265 : (Str.ofString "apart" = Str.ofString "ask") = False := eq_false (by decide +kernel)
@[simp] theorem sw266 : (Str.ofString "apart" == Str.ofString "read") = false := by decide +kernel
@[simp] theorem sv266 : (Str.ofString "apart" = Str.ofString "read") = False := eq_false (by decide +kernel)
@[simp] theorem sw267 : (Str.ofString "apart" == Str.ofString "write") = false := by decide +kernel
@[simp] theorem sv267 : (Str.ofString "apart" = Str.ofString "write") = False := eq_false (by decide +kernel)
@[simp] theorem sw268 : (Str.ofString "apart" == Str.ofString "call") = false := by decide +kernel
@[simp] theorem sv268 : (Str.ofString "apart" = Str.ofString "call") = False := eq_false (by decide +kernel)
@[simp] theorem sw269 : (Str.ofString "apart" == Str.ofString "end") = false := by decide +kernel
@[simp] theorem sv269 : (Str.ofString "apart" = Str.ofString "end") = False := eq_false (by decide +kernel)
@[simp] theorem sw270 : (Str.ofString "apart" == Str.ofString "mute") = false := by decide +kernel
@[simp] theorem sv270 : (Str.ofString "apart" = Str.ofString "mute") = False := eq_false (by decide +kernel)
@[simp] theorem sw271 : (Str.ofString "apart" == Str.ofString "alike") = false := by decide +kernel
@[simp] theorem sv271 : (Str.ofString "apart" = Str.ofString "alike") = False := eq_false (by decide +kernel)
end J

namespace Kx
open PySem PySem.Spec PyProof.Rows L2
def stD (r x y : Nat) : PyData := .tuple [.int r, .int x, .int y]
def line (b r x : Nat) (n : Nat) : List PyData := (List.range n).map fun y => stD r x y
def blk (b r : Nat) (n : Nat) : List PyData := (List.range n).flatMap fun x => line b r x b
def flat (b r : Nat) (n : Nat) : List PyData := (List.range n).map fun k => stD r (k / b) (k % b)
def loud (t : List Rw) (n : Nat) : List Nat := (List.range n).filter fun i => !silentAt t i
def stands (t : List Rw) (b : Nat) (n : Nat) : List PyData := (loud t n).flatMap fun r => blk b r b
/-- a list that grows at D keeps the tuples -/
theorem keepT_put {K : PySem.W.Frag} {H : Hp} {D : Addr} {xs ys : List V} (h : H D = some (.lst xs)) : KeepT K H (upd H D (.lst ys)) := fun a zs q => by
  rcases q with (q | ⟨o, q⟩) | q
  · exact .inl (.inl (by rw [upd_ne (show a ≠ D from ne_of q h (by intro z; cases z))]; exact q))
  · exact .inl (.inr ⟨o, by rw [upd_ne (show a ≠ D from ne_of q h (by intro z; cases z))]; exact q⟩)
  · exact .inr q
end Kx

namespace Kx
open PySem PySem.Spec PyProof.Rows L2
def Op.val (x y : Int) : Op → Int
  | .x => x
  | .y => y
  | .n k => k
def sgn (s : Str) (b l r : Int) : Int := if s = "+" then (l + r) % b else if s = "-" then (l - r) % b else (l * r) % b
def Ex.val (b x y : Int) : Ex → Int
  | .o a => a.val x y
  | .t s l r => sgn s b (l.val x y) (r.val x y)
/-- a stand, as data -/
def stI (r x y : Int) : PyData := .tuple [.int r, .int x, .int y]
theorem tyx_tup {K : PySem.W.Frag} {H : Hp} {a : Addr} {xs : List V} (h : SqT K H a xs) : TyX K H (.ref a) (.type "tuple") := by
  rcases h with (h | ⟨o, h⟩) | ⟨o, its, n, h, c, _⟩
  · exact .base (.tup h)
  · exact .fTuple h
  · exact .kTuple h c
theorem tyx_lst {K : PySem.W.Frag} {H : Hp} {a : Addr} {xs : List V} (h : SqL K H a xs) : TyX K H (.ref a) (.type "list") := by
  rcases h with (h | ⟨o, h⟩) | ⟨o, its, n, h, c, _⟩
  · exact .base (.lst h)
  · exact .base (.frz h)
  · exact .kList h c
/-- the class of data -/
def tyName : PyData → String
  | .none => "NoneType"
  | .bool _ => "bool"
  | .int _ => "int"
  | .str _ => "str"
  | .list _ => "list"
  | .tuple _ => "tuple"
  | .dict _ => "dict"
def isInt : PyData → Bool
  | .int _ => true
  | _ => false
def isBelow (top : Int) : PyData → Bool
  | .int i => decide (0 ≤ i) && decide (i < top)
  | _ => false
end Kx

namespace Kx
open PySem PySem.Spec PyProof.Rows L2
/-! silent rows, as mathematics -/
abbrev P3 := Nat × Int × Int
def Pq (b : Int) (x y : Int) : Prop := (0 ≤ x ∧ x < b) ∧ 0 ≤ y ∧ y < b
def stepR (b : Int) (p : P3) : Rw → P3
  | .set v e => if v = "x" then (p.1 + 1, e.val b p.2.1 p.2.2, p.2.2) else (p.1 + 1, p.2.1, e.val b p.2.1 p.2.2)
  | .go r => (r.toNat, p.2.1, p.2.2)
  | .iff e f r => if e.val b p.2.1 p.2.2 = f.val b p.2.1 p.2.2 then (r.toNat, p.2.1, p.2.2) else (p.1 + 1, p.2.1, p.2.2)
  | _ => p
def stp (t : List Rw) (b : Int) (p : P3) : P3 := match t[p.1]? with
  | some r => stepR b p r
  | none => p
def it (t : List Rw) (b : Int) (p : P3) : Nat → P3
  | 0 => p
  | n + 1 => stp t b (it t b p n)
def Ind (t : List Rw) (b : Int) (p : P3) : Prop := p.1 ≤ t.length ∧ Pq b p.2.1 p.2.2
def ptD (p : P3) : PyData := stI p.1 p.2.1 p.2.2
def three3 (p : P3) : List Int := [(p.1 : Int), p.2.1, p.2.2]
/-- the stand that silent rows lead to, or none -/
def res (t : List Rw) (b : Nat) (p : P3) : Option P3 := ((List.range (t.length * b * b + 1)).find? fun n => !silentAt t (it t b p n).1).map fun n => it t b p n
def resD (t : List Rw) (b : Nat) (p : P3) : PyData := match res t b p with
  | some q => ptD q
  | none => stI (-1) 0 0
end Kx

set_option autoImplicit false
namespace J
open PySem L2
open Kx (Op Ex Rw vok silentAt P3)
/-! texts as values -/
def opD : Op → D
  | .x => .str "x"
  | .y => .str "y"
  | .n k => .int k
def exD : Ex → D
  | .o a => opD a
  | .t s a b => .tup [.str s, opD a, opD b]
def rwT : Rw → List D
  | .set v e => [.str v, exD e]
  | .iff e f r => [exD e, exD f, .int r]
  | .go r => [.int r]
  | .say e => [exD e]
  | .ask v => [.str v]
  | .read c v => [.int c, .str v]
  | .write c e => [.int c, exD e]
  | .call n e v => [.str n, exD e, .str v]
  | .fin e => [exD e]
def rwD (r : Rw) : D := .tup (.str r.w :: rwT r)
def txD (t : List Rw) : D := .tup (t.map rwD)
def stD (r x y : Int) : D := .tup [.int r, .int x, .int y]
def ptD (p : P3) : D := stD p.1 p.2.1 p.2.2
@[simp] theorem opD_und (n : Nat) (o : Op) : D.und n (opD o) = true := by cases o <;> simp [opD]
@[simp] theorem exD_und (n : Nat) (o : Ex) : D.und n (exD o) = true := by cases o <;> simp [exD]
@[simp] theorem rwD_und (n : Nat) (o : Rw) : D.und n (rwD o) = true := by cases o <;> simp [rwD, rwT]
@[simp] theorem stD_und (n : Nat) (r x y : Int) : D.und n (stD r x y) = true := by simp [stD]
@[simp] theorem ptD_und (n : Nat) (p : P3) : D.und n (ptD p) = true := by simp [ptD]
theorem undAll_map {α : Type} (f : α → D) (n : Nat) (h : ∀ a, D.und n (f a) = true) : ∀ l : List α, D.undAll n (l.map f) = true
  | [] => by simp
  | a :: l => by simp [h a, undAll_map f n h l]
@[simp] theorem txD_und (n : Nat) (t : List Rw) : D.und n (txD t) = true := by simp [txD]; exact undAll_map _ _ (rwD_und n) t
end J

set_option autoImplicit false
namespace J
open PySem L2
open Kx (Op Ex Rw vok silentAt P3)
theorem atI_map {α : Type} (f : α → D) (l : List α) {i : Nat} {a : α} (h : l[i]? = some a) : atI (l.map f) (i : Int) = some (f a) := atI_nat (by rw [List.getElem?_map, h]; rfl)
/-! the bag of numbers that a law draws from -/
def BagO (n : Nat) (o : O) : Prop := ∃ d m c : Int, o = .lst [.int d, .int m, .int c] ∧ 0 ≤ d ∧ 0 ≤ m ∧ m < 2305843009213693951 ∧ 0 ≤ c ∧ c ≤ n
theorem BagO.mono {n m : Nat} {o : O} (h : BagO n o) (l : n ≤ m) : BagO m o := by
  obtain ⟨d, x, c, e, h1, h2, h3, h4, h5⟩ := h
  exact ⟨d, x, c, e, h1, h2, h3, h4, by omega⟩
theorem BagO.und {n : Nat} {o : O} (h : BagO n o) : o.und 0 = true := by
  obtain ⟨d, x, c, rfl, _⟩ := h
  simp [O.und]
theorem get_set {S : Sto} {k : Nat} {o : O} (h : S[k]? = some o) (o' : O) : (S.set k o')[k]? = some o' := List.getElem?_set_self (List.getElem?_eq_some_iff.mp h).1
theorem gPowW_i (i j : Int) (S : Sto) : gPowW (.int i) (.int j) S = if cPowW i j = true then some (.int (i ^ j.toNat), S) else none := rfl
theorem cPow_small {i j : Int} (h : i.natAbs < 18446744073709551616) (h0 : 0 ≤ j) (h1 : j ≤ 64) : cPowW i j = true := by
  have hl : i.natAbs.log2 < 2000 := by
    by_cases z : i.natAbs = 0
    · rw [z]; decide
    · have := (Nat.log2_lt z (k := 64)).mpr (by omega)
      omega
  unfold cPowW
  rw [decide_eq_true h0, decide_eq_true h1, decide_eq_true hl]
  rfl
theorem bag_eq {ns : List Int} {i : Nat} (hi : i ≤ 1000) (S : Sto) : ∃ o, BagO 0 o ∧ F__law_bag [.scr (ns.map .int), .int i] S = some (.obj S.length, S ++ [o]) := by
  have cell : ∃ c : Int, ∀ e2 e3, (fIf (fTest (fOp gLt (fVar 1) (fB gLen (faCons (fVar 0) faNil)))) (fOp gIdx (fVar 0) (fVar 1)) (fC (.int 0))) [some (.scr (ns.map D.int)), some (.int i), e2, e3] S = some (.int c, S) := by
    by_cases h : i < ns.length
    · refine ⟨ns[i], fun e2 e3 => ?_⟩
      have e : atI (ns.map D.int) (i : Int) = some (.int ns[i]) := atI_map D.int ns (by simp [h])
      simp [h, e]
    · exact ⟨0, fun e2 e3 => by simp [h]⟩
  obtain ⟨c, hc⟩ := cell
  have e18 : (10 : Int) ^ (18 : Int).toNat = 1000000000000000000 := by decide
  have c18 : cPowW 10 18 = true := cPow_small (by decide) (by decide) (by decide)
  obtain ⟨d, hd, ed⟩ : ∃ d : Int, 0 ≤ d ∧ ∀ e3, (fIf (fTest (fOp gGe (fB gAbs (faCons (fVar 2) faNil)) (fOp gPowW (fC (.int 10)) (fC (.int 18))))) (fB gAbs (faCons (fVar 2) faNil)) (fC (.int 0))) [some (.scr (ns.map D.int)), some (.int i), some (.int c), e3] S = some (.int d, S) := by
    by_cases h : (1000000000000000000 : Int) ≤ (if c < 0 then -c else c)
    · exact ⟨if c < 0 then -c else c, by split <;> omega, fun e3 => by simp [h, gPowW_i, c18]⟩
    · exact ⟨0, by omega, fun e3 => by simp [h, gPowW_i, c18]⟩
  refine ⟨.lst [.int d, .int ((c % 2305843009213693951 + 7919 * (i : Int) + 3) * 6700417 % 2305843009213693951), .int 0], ⟨d, _, 0, rfl, hd, Int.emod_nonneg _ (by decide), Int.emod_lt_of_pos _ (by decide), by omega, by omega⟩, ?_⟩
  have m1 : cMul 7919 (i : Int) = true := by simp [cMul]
  have m2 : cMul (c % 2305843009213693951 + 7919 * (i : Int) + 3) 6700417 = true := by simp [cMul]
  have body : B__law_bag (startD 4 [.scr (ns.map .int), .int i]) S = some (.rt (.obj S.length), [some (.scr (ns.map D.int)), some (.int i), some (.int c), some (.int d)], S ++ [.lst [.int d, .int ((c % 2305843009213693951 + 7919 * (i : Int) + 3) * 6700417 % 2305843009213693951), .int 0]]) := by
    unfold B__law_bag
    rw [fSeq_eq, fAsg_eq]
    have hc' := hc none none
    simp only [startD_eq, List.map_cons, List.map_nil, List.length_cons, List.length_nil, Nat.reduceSub, Nat.reduceAdd, repS, rep0, List.cons_append, List.nil_append]
    rw [hc']
    simp only [gNm_eq, List.set_cons_succ, List.set_cons_zero]
    rw [fSeq_eq, fAsg_eq, ed none]
    simp [m1, m2]
  unfold F__law_bag
  rw [runD_rt body]
  exact gc_newobj (by simp [O.und])
section
variable {S : Sto} {k : Nat} {o : O} {n : Nat}
theorem take_eq (hk : S[k]? = some o) (B : BagO n o) (hn : n ≤ 700000) {m : Int} (hm : 0 < m) (hm2 : m ≤ 1000) : ∃ (r : Int) (o' : O), 0 ≤ r ∧ r < m ∧ BagO (n + 1) o' ∧ F__law_take [.obj k, .int m] S = some (.int r, S.set k o') := by
  obtain ⟨d, x, c, rfl, h1, h2, h3, h4, h5⟩ := B
  have i0 := gIdx_obj hk 0
  have i1 := gIdx_obj hk 1
  have i2 := gIdx_obj hk 2
  by_cases hd : 0 < d
  · refine ⟨d % m, .lst [.int (d / m), .int x, .int c], Int.emod_nonneg _ (by omega), Int.emod_lt_of_pos _ hm, ⟨d / m, x, c, rfl, Int.ediv_nonneg h1 (by omega), h2, h3, h4, by omega⟩, ?_⟩
    have s0 : gSet (.obj k) (.int 0) (.int (d / m)) S = some (S.set k (.lst [.int (d / m), .int x, .int c])) := gSet_obj hk (j := 0) rfl _
    have m3 : m < 1073741824 := by omega
    have body : B__law_take (startD 4 [.obj k, .int m]) S = some (.rt (.int (d % m)), [some (.obj k), some (.int m), some (.int (d % m)), none], S.set k (.lst [.int (d / m), .int x, .int c])) := by
      simp [B__law_take, i0, hd, hm, m3, s0]
    unfold F__law_take
    rw [runD_rt body, gc_set (by simp [O.und]) (by simp)]
  · have hd0 : d = 0 := by omega
    subst hd0
    have s2 : gSet (.obj k) (.int 2) (.int (c + 1)) S = some (S.set k (.lst [.int 0, .int x, .int (c + 1)])) := gSet_obj hk (j := 2) rfl _
    have hk2 := get_set hk (.lst [.int 0, .int x, .int (c + 1)])
    have j1 := gIdx_obj hk2 1
    have j2 := gIdx_obj hk2 2
    have c1 : cMul 1000003 (c + 1) = true := by
      unfold cMul
      have e1 : decide (-(2 ^ 64) < (1000003 : Int)) = true := by decide
      have e2 : decide ((1000003 : Int) < 2 ^ 64) = true := by decide
      rw [e1, e2]; rfl
    have c2 : cMul 15485863 (c + 1) = true := by
      unfold cMul
      have e1 : decide (-(2 ^ 64) < (15485863 : Int)) = true := by decide
      have e2 : decide ((15485863 : Int) < 2 ^ 64) = true := by decide
      rw [e1, e2]; rfl
    have p1 : (x + 1000003 * (c + 1)).natAbs < 18446744073709551616 := by omega
    have y0 : 0 ≤ (x + 1000003 * (c + 1)) ^ 3 % 2305843009213693921 := Int.emod_nonneg _ (by decide)
    have y1 : (x + 1000003 * (c + 1)) ^ 3 % 2305843009213693921 < 2305843009213693921 := Int.emod_lt_of_pos _ (by decide)
    have e3 : (3 : Int).toNat = 3 := rfl
    have e2 : (2 : Int).toNat = 2 := rfl
    generalize hy : (x + 1000003 * (c + 1)) ^ 3 % 2305843009213693921 = y at y0 y1
    have p2 : (y + 15485863 * (c + 1)).natAbs < 18446744073709551616 := by omega
    generalize hz : (y + 15485863 * (c + 1)) ^ 2 % 2305843009213693951 = z
    refine ⟨z / 1024 % m, .lst [.int 0, .int x, .int (c + 1)], Int.emod_nonneg _ (by omega), Int.emod_lt_of_pos _ hm, ⟨0, x, c + 1, rfl, by omega, h2, h3, by omega, by omega⟩, ?_⟩
    have body : ∃ env, B__law_take (startD 4 [.obj k, .int m]) S = some (.rt (.int (z / 1024 % m)), env, S.set k (.lst [.int 0, .int x, .int (c + 1)])) := by
      refine ⟨[some (.obj k), some (.int m), none, some (.int z)], ?_⟩
      simp [B__law_take, i0, i2, hm, s2, j1, j2, c1, c2, gPowW_i, cPow_small p1 (j := 3) (by decide) (by decide), cPow_small p2 (j := 2) (by decide) (by decide), e3, e2, hy, hz]
    obtain ⟨env, body⟩ := body
    unfold F__law_take
    rw [runD_rt body, gc_set (by simp [O.und]) (by simp)]
end
end J

set_option autoImplicit false
namespace J
open PySem L2
/-! copies of plain values -/
def cpB : Nat → D → Bool
  | 0, _ => false
  | n + 1, .lst ds => decide (ds.length ≤ 1000) && ds.all (cpB n)
  | n + 1, .tup ds => decide (ds.length ≤ 1000) && ds.all (cpB n)
  | _ + 1, .obj _ => false
  | _ + 1, .scr _ => false
  | _ + 1, .glo _ => false
  | _ + 1, _ => true
theorem undAll_of {ds : List D} (h : ∀ d ∈ ds, d.und 0 = true) : D.undAll 0 ds = true := by
  induction ds with
  | nil => rfl
  | cons d ds ih => simp only [D.undAll, h d (List.mem_cons_self ..), ih fun x hx => h x (List.mem_cons_of_mem _ hx), Bool.and_self]
theorem cp_und : ∀ (n : Nat) (d : D), cpB n d = true → d.und 0 = true := by
  intro n
  induction n with
  | zero => intro d h; cases h
  | succ n ih =>
    intro d h
    cases d with
    | lst ds =>
      simp only [cpB, Bool.and_eq_true, List.all_eq_true] at h
      exact undAll_of fun d hd => ih d (h.2 d hd)
    | tup ds =>
      simp only [cpB, Bool.and_eq_true, List.all_eq_true] at h
      exact undAll_of fun d hd => ih d (h.2 d hd)
    | obj k => cases h
    | scr ds => cases h
    | glo v => cases h
    | _ => rfl
theorem copied_n : ∀ (n : Nat) (d : D), cpB n d = true → ∀ S, F_copied_n n [d] S = some (d, S) := by
  intro n
  induction n with
  | zero => intro d h; cases h
  | succ n ih =>
    intro d h S
    have L : ∀ (e0 : Option D) (xs : List D), (∀ x ∈ xs, cpB n x = true) → fLcL (gNm 1) fYes (fCall 1 (F_copied_n n) (faCons (fVar 1) faNil) []) [e0, none] xs S = some (xs, S) := by
      intro e0 xs
      induction xs with
      | nil => intro _; rfl
      | cons x xs ihx =>
        intro hx
        have e1 := ih x (hx x (List.mem_cons_self ..)) S
        have e2 := ihx fun y hy => hx y (List.mem_cons_of_mem _ hy)
        have e3 : (fCall 1 (F_copied_n n) (faCons (fVar 1) faNil) []) [e0, some x] S = some (x, S) := by simp [e1]
        unfold fLcL
        simp only [gNm_eq, List.set_cons_succ, List.set_cons_zero, fYes, e3, e2]
    have hu := cp_und (n + 1) d h
    cases d with
    | lst ds =>
      simp only [cpB, Bool.and_eq_true, List.all_eq_true, decide_eq_true_eq] at h
      have e := L (some (.lst ds)) ds h.2
      have lc : (fLc [1] (fIt (fVar 0)) (gNm 1) fYes (fCall 1 (F_copied_n n) (faCons (fVar 1) faNil) [])) [some (.lst ds), none] S = some (.lst ds, S) := by
        unfold fLc
        simp only [fIt, fVar_eq, List.getElem?_cons_zero, D.items]
        rw [if_pos (by omega), show wipeD [some (D.lst ds), none] [1] = [some (D.lst ds), none] from rfl, e]
      unfold F_copied_n
      rw [runD_rt (S' := S) (d := .lst ds) (env := [some (.lst ds), none]) (by
        rw [show startD 2 [D.lst ds] = [some (D.lst ds), none] from rfl, fSeq_eq, fIfS_eq, show (fTruth (fB gIsi (faCons (fVar 0) (faCons (fC (.glo (.ty "list"))) faNil)))) [some (D.lst ds), none] S = some (true, S) from rfl]
        simp only [fRet_eq, lc])]
      exact gc_same hu
    | tup ds =>
      simp only [cpB, Bool.and_eq_true, List.all_eq_true, decide_eq_true_eq] at h
      have e := L (some (.tup ds)) ds h.2
      have lc : (fLc [1] (fIt (fVar 0)) (gNm 1) fYes (fCall 1 (F_copied_n n) (faCons (fVar 1) faNil) [])) [some (.tup ds), none] S = some (.lst ds, S) := by
        unfold fLc
        simp only [fIt, fVar_eq, List.getElem?_cons_zero, D.items]
        rw [if_pos (by omega), show wipeD [some (D.tup ds), none] [1] = [some (D.tup ds), none] from rfl, e]
      unfold F_copied_n
      rw [runD_rt (S' := S) (d := .tup ds) (env := [some (.tup ds), none]) (by
        rw [show startD 2 [D.tup ds] = [some (D.tup ds), none] from rfl, fSeq_eq, fIfS_eq, show (fTruth (fB gIsi (faCons (fVar 0) (faCons (fC (.glo (.ty "list"))) faNil)))) [some (D.tup ds), none] S = some (false, S) from rfl]
        simp only [fNext_eq]
        rw [fSeq_eq, fIfS_eq, show (fTruth (fB gIsi (faCons (fVar 0) (faCons (fC (.glo (.ty "tuple"))) faNil)))) [some (D.tup ds), none] S = some (true, S) from rfl]
        simp only [fRet_eq, fB_eq, faCons_eq, faNil_eq, lc, show gTuple [D.lst ds] S = some (.tup ds, S) from rfl])]
      exact gc_same hu
    | obj k => cases h
    | scr ds => cases h
    | glo v => cases h
    | _ =>
      unfold F_copied_n
      first
        | rw [runD_rt (S' := S) (d := .non) (env := [some .non, none]) rfl]; exact gc_same hu
        | (rename_i z; rw [runD_rt (S' := S) (d := .bl z) (env := [some (.bl z), none]) rfl]; exact gc_same hu)
        | (rename_i z; rw [runD_rt (S' := S) (d := .int z) (env := [some (.int z), none]) rfl]; exact gc_same hu)
        | (rename_i z; rw [runD_rt (S' := S) (d := .str z) (env := [some (.str z), none]) rfl]; exact gc_same hu)
theorem copied_eq {d : D} (h : cpB 5 d = true) (S : Sto) : F_copied [d] S = some (d, S) := copied_n 5 d h S
def anyL : List D := [.non, .bl true, .bl false, .int (0), .int (1), .int (2), .int (-1), .int (3), .int (10 ^ 40), .str "", .str "x", .str "y", .str "z", .str "say", .str "X", .str "f", .lst [], .tup [], .tup [.str "x"], .lst [.str "x"], .tup [.int (0), .int (0), .int (0)], .tup [.bl true, .int (0), .int (0)], .tup [.tup [.str "say", .int (1)]], .tup [.str "+", .int (1), .str "x"], .str "ninelongs", .tup [.str "end", .int (0)]]
theorem any_cp : ∀ d ∈ anyL, cpB 5 d = true := by
  intro d hd
  simp only [anyL, List.mem_cons, List.not_mem_nil, or_false] at hd
  rcases hd with rfl | rfl | rfl | rfl | rfl | rfl | rfl | rfl | rfl | rfl | rfl | rfl | rfl | rfl | rfl | rfl | rfl | rfl | rfl | rfl | rfl | rfl | rfl | rfl | rfl | rfl <;> rfl
theorem any_und : ∀ d ∈ anyL, d.und 0 = true := fun d hd => cp_und 5 d (any_cp d hd)
theorem any_eq {S : Sto} {kk n : Nat} {o : O} (hk : S[kk]? = some o) (B : BagO n o) (hn : n ≤ 600000) : ∃ (d : D) (o' : O), d ∈ anyL ∧ BagO (n + 1) o' ∧ F__law_any [.obj kk] S = some (d, S.set kk o') := by
  obtain ⟨r, o1, r0, r1, B1, e1⟩ := take_eq hk B (by omega) (m := 26) (by decide) (by decide)
  obtain ⟨j, rfl⟩ : ∃ j : Nat, r = (j : Int) := ⟨r.toNat, by omega⟩
  have hj : j < anyL.length := by show j < 26; omega
  have mem : anyL[j] ∈ anyL := List.getElem_mem hj
  refine ⟨anyL[j], o1, mem, B1, ?_⟩
  have key : Wp (F__law_any [.obj kk] S) fun d S' => d = anyL[j] ∧ S' = S.set kk o1 := by
    unfold F__law_any
    rw [w_run]
    unfold B__law_any
    have s2 : startD 2 [.obj kk] = [some (.obj kk), none] := by simp
    rw [s2]
    have pw : ∀ S : Sto, gPowW (.int 10) (.int 40) S = some (.int (10 ^ 40), S) := fun S => by kernel_rfl
    have ng : ∀ S : Sto, gNeg (.int 1) S = some (.int (-1), S) := fun S => rfl
    simp only [wz0, Nat.reduceAdd, Nat.reduceLeDiff]
    rw [ng]
    simp only [wz0, Nat.reduceAdd, Nat.reduceLeDiff]
    rw [pw]
    simp only [wz0, Nat.reduceAdd, Nat.reduceLeDiff]
    have ad : ∀ (a b : List D) (S : Sto), a.length + b.length ≤ 100000 → gAdd (.lst a) (.lst b) S = some (.lst (a ++ b), S) := fun a b S h => by
      unfold gAdd
      simp only
      rw [if_pos h]
    rw [ad _ _ _ (by simp)]
    simp only [wz0, Nat.reduceAdd, Nat.reduceLeDiff]
    rw [e1]
    simp only [wz0, Nat.reduceAdd, Nat.reduceLeDiff]
    have gx : gIdx (.lst anyL) (.int (j : Int)) (S.set kk o1) = some (anyL[j], S.set kk o1) := by
      rw [gIdx_lst, atI_nat (List.getElem?_eq_getElem hj)]
      rfl
    have gx' : gIdx (.lst [.non, .bl true, .bl false, .int (0), .int (1), .int (2), .int (-1), .int (3), .int (10 ^ 40), .str "", .str "x", .str "y", .str "z", .str "say", .str "X", .str "f", .lst [], .tup [], .tup [.str "x"], .lst [.str "x"], .tup [.int (0), .int (0), .int (0)], .tup [.bl true, .int (0), .int (0)], .tup [.tup [.str "say", .int (1)]], .tup [.str "+", .int (1), .str "x"], .str "ninelongs", .tup [.str "end", .int (0)]]) (.int (j : Int)) (S.set kk o1) = some (anyL[j], S.set kk o1) := gx
    rw [gx']
    simp only [wz0, Nat.reduceAdd, Nat.reduceLeDiff]
    rw [gc_set B1.und (any_und _ mem), wp_some]
    exact ⟨rfl, rfl⟩
  obtain ⟨d, S', e, rfl, rfl⟩ := key
  exact e
end J

set_option autoImplicit false
namespace J
open PySem L2
theorem isV_eq {t : Str → Option Bool} {k : Nat} {x : Str} {fs : List (Str × D)} {b : Bool} {S : Sto} (hk : S[k]? = some (.exc x fs)) (ht : t x = some b) (e : Env) : fIsV t (fVar 0) (some (.obj k) :: e) S = some (.bl b, S) := by
  unfold fIsV
  simp only [fVar_eq, List.getElem?_cons_zero, hk, ht]
theorem gAddL_lst (xs ys : List D) (S : Sto) : gAdd (.lst xs) (.lst ys) S = if xs.length + ys.length ≤ 100000 then some (.lst (xs ++ ys), S) else none := rfl
def dueL : List D := [.str "10000", .str "10000", .str "10000", .str "10000", .str "10000", .str "10000", .str "10000", .str "10000", .str "01010", .str "01010", .str "00110", .str "00110", .str "00110", .str "00010", .str "00001", .str "00001"]
theorem due_eq (S : Sto) : (gRep (.lst [.str "10000"]) (.int 8) S = some (.lst (List.replicate 8 (.str "10000")), S)) ∧ (gRep (.lst [.str "01010"]) (.int 2) S = some (.lst (List.replicate 2 (.str "01010")), S)) ∧ (gRep (.lst [.str "00110"]) (.int 3) S = some (.lst (List.replicate 3 (.str "00110")), S)) := ⟨by kernel_rfl, by kernel_rfl, by kernel_rfl⟩


theorem kinds_NoBase {k : Nat} {fs : List (Str × D)} {S : Sto} (hk : S[k]? = some (.exc "NoBase" fs)) : F__law_kinds [.obj k] S = some (.str "NoBase", S) := by
  have key : Wp (F__law_kinds [.obj k] S) fun d S' => d = .str "NoBase" ∧ S' = S := by
    unfold F__law_kinds
    rw [w_run]
    unfold B__law_kinds
    have i_NoBase := fun e => isV_eq (t := row_NoBase) (b := true) hk (by kernel_rfl) e
    have i_NoText := fun e => isV_eq (t := row_NoText) (b := false) hk (by kernel_rfl) e
    have i_NoRows := fun e => isV_eq (t := row_NoRows) (b := false) hk (by kernel_rfl) e
    have i_NoStand := fun e => isV_eq (t := row_NoStand) (b := false) hk (by kernel_rfl) e
    have i_NoName := fun e => isV_eq (t := row_NoName) (b := false) hk (by kernel_rfl) e
    have i_NoNumber := fun e => isV_eq (t := row_NoNumber) (b := false) hk (by kernel_rfl) e
    have i_NoHistory := fun e => isV_eq (t := row_NoHistory) (b := false) hk (by kernel_rfl) e
    have i_NoCommand := fun e => isV_eq (t := row_NoCommand) (b := false) hk (by kernel_rfl) e
    have i_NoPart := fun e => isV_eq (t := row_NoPart) (b := false) hk (by kernel_rfl) e
    have i_NoRun := fun e => isV_eq (t := row_NoRun) (b := false) hk (by kernel_rfl) e
    have i_NoBranch := fun e => isV_eq (t := row_NoBranch) (b := false) hk (by kernel_rfl) e
    have i_NoCell := fun e => isV_eq (t := row_NoCell) (b := false) hk (by kernel_rfl) e
    have i_NoDepth := fun e => isV_eq (t := row_NoDepth) (b := false) hk (by kernel_rfl) e
    have i_NoAnswer := fun e => isV_eq (t := row_NoAnswer) (b := false) hk (by kernel_rfl) e
    have i_NotAsked := fun e => isV_eq (t := row_NotAsked) (b := false) hk (by kernel_rfl) e
    have i_Over := fun e => isV_eq (t := row_Over) (b := false) hk (by kernel_rfl) e
    have i_ValueError := fun e => isV_eq (t := row_ValueError) (b := true) hk (by kernel_rfl) e
    have i_KeyError := fun e => isV_eq (t := row_KeyError) (b := false) hk (by kernel_rfl) e
    have i_IndexError := fun e => isV_eq (t := row_IndexError) (b := false) hk (by kernel_rfl) e
    have i_LookupError := fun e => isV_eq (t := row_LookupError) (b := false) hk (by kernel_rfl) e
    have i_RuntimeError := fun e => isV_eq (t := row_RuntimeError) (b := false) hk (by kernel_rfl) e
    have s3 : startD 7 [.obj k] = [some (.obj k), none, none, none, none, none, none] := rfl
    rw [s3]
    simp only [wz0, Nat.reduceAdd, Nat.reduceLeDiff]
    simp only [i_NoBase, i_NoText, i_NoRows, i_NoStand, i_NoName, i_NoNumber, i_NoHistory, i_NoCommand, i_NoPart, i_NoRun, i_NoBranch, i_NoCell, i_NoDepth, i_NoAnswer, i_NotAsked, i_Over, i_ValueError, i_KeyError, i_IndexError, i_LookupError, i_RuntimeError, wp_some, gAddL_lst, List.length_cons, List.length_nil, Nat.reduceAdd, Nat.reduceLeDiff, if_true, List.cons_append, List.nil_append, List.set_cons_succ, List.set_cons_zero, List.getElem?_cons_succ, List.getElem?_cons_zero]
    refine ⟨rfl, ?_⟩
    rw [show gCntB _ _ S = some (.int 1, S) from rfl, wp_some]
    rw [show gEq true (.int 1) (.int 1) S = some (.bl false, S) from by kernel_rfl, wp_some]
    refine ⟨false, rfl, ?_⟩
    rw [if_neg Bool.false_ne_true]
    refine ⟨rfl, ?_⟩
    rw [show gIdxB _ _ S = some (.int 0, S) from rfl, wp_some, (due_eq S).1, wp_some, (due_eq S).2.1, wp_some]
    rw [gAddL_lst, if_pos (by simp), wp_some, (due_eq S).2.2, wp_some, gAddL_lst, if_pos (by simp), wp_some, gAddL_lst, if_pos (by simp), wp_some]
    rw [show fStr _ _ S = some ([.str "1", .str "0", .str "0", .str "0", .str "0"], S) from by kernel_rfl, wp_some]
    refine ⟨by decide, ?_⟩
    rw [show fLcL _ _ _ _ _ S = some ([.bl true, .bl false, .bl false, .bl false, .bl false], S) from by kernel_rfl, wp_some]
    rw [show gEq false _ _ S = some (.bl true, S) from by kernel_rfl, wp_some]
    refine ⟨true, rfl, ?_⟩
    rw [if_pos rfl]
    rw [show gIdx _ (.int 0) S = some (.str "NoBase", S) from by kernel_rfl, wp_some, gc_same rfl, wp_some]
    exact ⟨rfl, rfl⟩
  obtain ⟨d, S', e, rfl, rfl⟩ := key
  exact e
theorem kinds_NoText {k : Nat} {fs : List (Str × D)} {S : Sto} (hk : S[k]? = some (.exc "NoText" fs)) : F__law_kinds [.obj k] S = some (.str "NoText", S) := by
  have key : Wp (F__law_kinds [.obj k] S) fun d S' => d = .str "NoText" ∧ S' = S := by
    unfold F__law_kinds
    rw [w_run]
    unfold B__law_kinds
    have i_NoBase := fun e => isV_eq (t := row_NoBase) (b := false) hk (by kernel_rfl) e
    have i_NoText := fun e => isV_eq (t := row_NoText) (b := true) hk (by kernel_rfl) e
    have i_NoRows := fun e => isV_eq (t := row_NoRows) (b := false) hk (by kernel_rfl) e
    have i_NoStand := fun e => isV_eq (t := row_NoStand) (b := false) hk (by kernel_rfl) e
    have i_NoName := fun e => isV_eq (t := row_NoName) (b := false) hk (by kernel_rfl) e
    have i_NoNumber := fun e => isV_eq (t := row_NoNumber) (b := false) hk (by kernel_rfl) e
    have i_NoHistory := fun e => isV_eq (t := row_NoHistory) (b := false) hk (by kernel_rfl) e
    have i_NoCommand := fun e => isV_eq (t := row_NoCommand) (b := false) hk (by kernel_rfl) e
    have i_NoPart := fun e => isV_eq (t := row_NoPart) (b := false) hk (by kernel_rfl) e
    have i_NoRun := fun e => isV_eq (t := row_NoRun) (b := false) hk (by kernel_rfl) e
    have i_NoBranch := fun e => isV_eq (t := row_NoBranch) (b := false) hk (by kernel_rfl) e
    have i_NoCell := fun e => isV_eq (t := row_NoCell) (b := false) hk (by kernel_rfl) e
    have i_NoDepth := fun e => isV_eq (t := row_NoDepth) (b := false) hk (by kernel_rfl) e
    have i_NoAnswer := fun e => isV_eq (t := row_NoAnswer) (b := false) hk (by kernel_rfl) e
    have i_NotAsked := fun e => isV_eq (t := row_NotAsked) (b := false) hk (by kernel_rfl) e
    have i_Over := fun e => isV_eq (t := row_Over) (b := false) hk (by kernel_rfl) e
    have i_ValueError := fun e => isV_eq (t := row_ValueError) (b := true) hk (by kernel_rfl) e
    have i_KeyError := fun e => isV_eq (t := row_KeyError) (b := false) hk (by kernel_rfl) e
    have i_IndexError := fun e => isV_eq (t := row_IndexError) (b := false) hk (by kernel_rfl) e
    have i_LookupError := fun e => isV_eq (t := row_LookupError) (b := false) hk (by kernel_rfl) e
    have i_RuntimeError := fun e => isV_eq (t := row_RuntimeError) (b := false) hk (by kernel_rfl) e
    have s3 : startD 7 [.obj k] = [some (.obj k), none, none, none, none, none, none] := rfl
    rw [s3]
    simp only [wz0, Nat.reduceAdd, Nat.reduceLeDiff]
    simp only [i_NoBase, i_NoText, i_NoRows, i_NoStand, i_NoName, i_NoNumber, i_NoHistory, i_NoCommand, i_NoPart, i_NoRun, i_NoBranch, i_NoCell, i_NoDepth, i_NoAnswer, i_NotAsked, i_Over, i_ValueError, i_KeyError, i_IndexError, i_LookupError, i_RuntimeError, wp_some, gAddL_lst, List.length_cons, List.length_nil, Nat.reduceAdd, Nat.reduceLeDiff, if_true, List.cons_append, List.nil_append, List.set_cons_succ, List.set_cons_zero, List.getElem?_cons_succ, List.getElem?_cons_zero]
    refine ⟨rfl, ?_⟩
    rw [show gCntB _ _ S = some (.int 1, S) from rfl, wp_some]
    rw [show gEq true (.int 1) (.int 1) S = some (.bl false, S) from by kernel_rfl, wp_some]
    refine ⟨false, rfl, ?_⟩
    rw [if_neg Bool.false_ne_true]
    refine ⟨rfl, ?_⟩
    rw [show gIdxB _ _ S = some (.int 1, S) from rfl, wp_some, (due_eq S).1, wp_some, (due_eq S).2.1, wp_some]
    rw [gAddL_lst, if_pos (by simp), wp_some, (due_eq S).2.2, wp_some, gAddL_lst, if_pos (by simp), wp_some, gAddL_lst, if_pos (by simp), wp_some]
    rw [show fStr _ _ S = some ([.str "1", .str "0", .str "0", .str "0", .str "0"], S) from by kernel_rfl, wp_some]
    refine ⟨by decide, ?_⟩
    rw [show fLcL _ _ _ _ _ S = some ([.bl true, .bl false, .bl false, .bl false, .bl false], S) from by kernel_rfl, wp_some]
    rw [show gEq false _ _ S = some (.bl true, S) from by kernel_rfl, wp_some]
    refine ⟨true, rfl, ?_⟩
    rw [if_pos rfl]
    rw [show gIdx _ (.int 1) S = some (.str "NoText", S) from by kernel_rfl, wp_some, gc_same rfl, wp_some]
    exact ⟨rfl, rfl⟩
  obtain ⟨d, S', e, rfl, rfl⟩ := key
  exact e
theorem kinds_NoRows {k : Nat} {fs : List (Str × D)} {S : Sto} (hk : S[k]? = some (.exc "NoRows" fs)) : F__law_kinds [.obj k] S = some (.str "NoRows", S) := by
  have key : Wp (F__law_kinds [.obj k] S) fun d S' => d = .str "NoRows" ∧ S' = S := by
    unfold F__law_kinds
    rw [w_run]
    unfold B__law_kinds
    have i_NoBase := fun e => isV_eq (t := row_NoBase) (b := false) hk (by kernel_rfl) e
    have i_NoText := fun e => isV_eq (t := row_NoText) (b := false) hk (by kernel_rfl) e
    have i_NoRows := fun e => isV_eq (t := row_NoRows) (b := true) hk (by kernel_rfl) e
    have i_NoStand := fun e => isV_eq (t := row_NoStand) (b := false) hk (by kernel_rfl) e
    have i_NoName := fun e => isV_eq (t := row_NoName) (b := false) hk (by kernel_rfl) e
    have i_NoNumber := fun e => isV_eq (t := row_NoNumber) (b := false) hk (by kernel_rfl) e
    have i_NoHistory := fun e => isV_eq (t := row_NoHistory) (b := false) hk (by kernel_rfl) e
    have i_NoCommand := fun e => isV_eq (t := row_NoCommand) (b := false) hk (by kernel_rfl) e
    have i_NoPart := fun e => isV_eq (t := row_NoPart) (b := false) hk (by kernel_rfl) e
    have i_NoRun := fun e => isV_eq (t := row_NoRun) (b := false) hk (by kernel_rfl) e
    have i_NoBranch := fun e => isV_eq (t := row_NoBranch) (b := false) hk (by kernel_rfl) e
    have i_NoCell := fun e => isV_eq (t := row_NoCell) (b := false) hk (by kernel_rfl) e
    have i_NoDepth := fun e => isV_eq (t := row_NoDepth) (b := false) hk (by kernel_rfl) e
    have i_NoAnswer := fun e => isV_eq (t := row_NoAnswer) (b := false) hk (by kernel_rfl) e
    have i_NotAsked := fun e => isV_eq (t := row_NotAsked) (b := false) hk (by kernel_rfl) e
    have i_Over := fun e => isV_eq (t := row_Over) (b := false) hk (by kernel_rfl) e
    have i_ValueError := fun e => isV_eq (t := row_ValueError) (b := true) hk (by kernel_rfl) e
    have i_KeyError := fun e => isV_eq (t := row_KeyError) (b := false) hk (by kernel_rfl) e
    have i_IndexError := fun e => isV_eq (t := row_IndexError) (b := false) hk (by kernel_rfl) e
    have i_LookupError := fun e => isV_eq (t := row_LookupError) (b := false) hk (by kernel_rfl) e
    have i_RuntimeError := fun e => isV_eq (t := row_RuntimeError) (b := false) hk (by kernel_rfl) e
    have s3 : startD 7 [.obj k] = [some (.obj k), none, none, none, none, none, none] := rfl
    rw [s3]
    simp only [wz0, Nat.reduceAdd, Nat.reduceLeDiff]
    simp only [i_NoBase, i_NoText, i_NoRows, i_NoStand, i_NoName, i_NoNumber, i_NoHistory, i_NoCommand, i_NoPart, i_NoRun, i_NoBranch, i_NoCell, i_NoDepth, i_NoAnswer, i_NotAsked, i_Over, i_ValueError, i_KeyError, i_IndexError, i_LookupError, i_RuntimeError, wp_some, gAddL_lst, List.length_cons, List.length_nil, Nat.reduceAdd, Nat.reduceLeDiff, if_true, List.cons_append, List.nil_append, List.set_cons_succ, List.set_cons_zero, List.getElem?_cons_succ, List.getElem?_cons_zero]
    refine ⟨rfl, ?_⟩
    rw [show gCntB _ _ S = some (.int 1, S) from rfl, wp_some]
    rw [show gEq true (.int 1) (.int 1) S = some (.bl false, S) from by kernel_rfl, wp_some]
    refine ⟨false, rfl, ?_⟩
    rw [if_neg Bool.false_ne_true]
    refine ⟨rfl, ?_⟩
    rw [show gIdxB _ _ S = some (.int 2, S) from rfl, wp_some, (due_eq S).1, wp_some, (due_eq S).2.1, wp_some]
    rw [gAddL_lst, if_pos (by simp), wp_some, (due_eq S).2.2, wp_some, gAddL_lst, if_pos (by simp), wp_some, gAddL_lst, if_pos (by simp), wp_some]
    rw [show fStr _ _ S = some ([.str "1", .str "0", .str "0", .str "0", .str "0"], S) from by kernel_rfl, wp_some]
    refine ⟨by decide, ?_⟩
    rw [show fLcL _ _ _ _ _ S = some ([.bl true, .bl false, .bl false, .bl false, .bl false], S) from by kernel_rfl, wp_some]
    rw [show gEq false _ _ S = some (.bl true, S) from by kernel_rfl, wp_some]
    refine ⟨true, rfl, ?_⟩
    rw [if_pos rfl]
    rw [show gIdx _ (.int 2) S = some (.str "NoRows", S) from by kernel_rfl, wp_some, gc_same rfl, wp_some]
    exact ⟨rfl, rfl⟩
  obtain ⟨d, S', e, rfl, rfl⟩ := key
  exact e
theorem kinds_NoStand {k : Nat} {fs : List (Str × D)} {S : Sto} (hk : S[k]? = some (.exc "NoStand" fs)) : F__law_kinds [.obj k] S = some (.str "NoStand", S) := by
  have key : Wp (F__law_kinds [.obj k] S) fun d S' => d = .str "NoStand" ∧ S' = S := by
    unfold F__law_kinds
    rw [w_run]
    unfold B__law_kinds
    have i_NoBase := fun e => isV_eq (t := row_NoBase) (b := false) hk (by kernel_rfl) e
    have i_NoText := fun e => isV_eq (t := row_NoText) (b := false) hk (by kernel_rfl) e
    have i_NoRows := fun e => isV_eq (t := row_NoRows) (b := false) hk (by kernel_rfl) e
    have i_NoStand := fun e => isV_eq (t := row_NoStand) (b := true) hk (by kernel_rfl) e
    have i_NoName := fun e => isV_eq (t := row_NoName) (b := false) hk (by kernel_rfl) e
    have i_NoNumber := fun e => isV_eq (t := row_NoNumber) (b := false) hk (by kernel_rfl) e
    have i_NoHistory := fun e => isV_eq (t := row_NoHistory) (b := false) hk (by kernel_rfl) e
    have i_NoCommand := fun e => isV_eq (t := row_NoCommand) (b := false) hk (by kernel_rfl) e
    have i_NoPart := fun e => isV_eq (t := row_NoPart) (b := false) hk (by kernel_rfl) e
    have i_NoRun := fun e => isV_eq (t := row_NoRun) (b := false) hk (by kernel_rfl) e
    have i_NoBranch := fun e => isV_eq (t := row_NoBranch) (b := false) hk (by kernel_rfl) e
    have i_NoCell := fun e => isV_eq (t := row_NoCell) (b := false) hk (by kernel_rfl) e
    have i_NoDepth := fun e => isV_eq (t := row_NoDepth) (b := false) hk (by kernel_rfl) e
    have i_NoAnswer := fun e => isV_eq (t := row_NoAnswer) (b := false) hk (by kernel_rfl) e
    have i_NotAsked := fun e => isV_eq (t := row_NotAsked) (b := false) hk (by kernel_rfl) e
    have i_Over := fun e => isV_eq (t := row_Over) (b := false) hk (by kernel_rfl) e
    have i_ValueError := fun e => isV_eq (t := row_ValueError) (b := true) hk (by kernel_rfl) e
    have i_KeyError := fun e => isV_eq (t := row_KeyError) (b := false) hk (by kernel_rfl) e
    have i_IndexError := fun e => isV_eq (t := row_IndexError) (b := false) hk (by kernel_rfl) e
    have i_LookupError := fun e => isV_eq (t := row_LookupError) (b := false) hk (by kernel_rfl) e
    have i_RuntimeError := fun e => isV_eq (t := row_RuntimeError) (b := false) hk (by kernel_rfl) e
    have s3 : startD 7 [.obj k] = [some (.obj k), none, none, none, none, none, none] := rfl
    rw [s3]
    simp only [wz0, Nat.reduceAdd, Nat.reduceLeDiff]
    simp only [i_NoBase, i_NoText, i_NoRows, i_NoStand, i_NoName, i_NoNumber, i_NoHistory, i_NoCommand, i_NoPart, i_NoRun, i_NoBranch, i_NoCell, i_NoDepth, i_NoAnswer, i_NotAsked, i_Over, i_ValueError, i_KeyError, i_IndexError, i_LookupError, i_RuntimeError, wp_some, gAddL_lst, List.length_cons, List.length_nil, Nat.reduceAdd, Nat.reduceLeDiff, if_true, List.cons_append, List.nil_append, List.set_cons_succ, List.set_cons_zero, List.getElem?_cons_succ, List.getElem?_cons_zero]
    refine ⟨rfl, ?_⟩
    rw [show gCntB _ _ S = some (.int 1, S) from rfl, wp_some]
    rw [show gEq true (.int 1) (.int 1) S = some (.bl false, S) from by kernel_rfl, wp_some]
    refine ⟨false, rfl, ?_⟩
    rw [if_neg Bool.false_ne_true]
    refine ⟨rfl, ?_⟩
    rw [show gIdxB _ _ S = some (.int 3, S) from rfl, wp_some, (due_eq S).1, wp_some, (due_eq S).2.1, wp_some]
    rw [gAddL_lst, if_pos (by simp), wp_some, (due_eq S).2.2, wp_some, gAddL_lst, if_pos (by simp), wp_some, gAddL_lst, if_pos (by simp), wp_some]
    rw [show fStr _ _ S = some ([.str "1", .str "0", .str "0", .str "0", .str "0"], S) from by kernel_rfl, wp_some]
    refine ⟨by decide, ?_⟩
    rw [show fLcL _ _ _ _ _ S = some ([.bl true, .bl false, .bl false, .bl false, .bl false], S) from by kernel_rfl, wp_some]
    rw [show gEq false _ _ S = some (.bl true, S) from by kernel_rfl, wp_some]
    refine ⟨true, rfl, ?_⟩
    rw [if_pos rfl]
    rw [show gIdx _ (.int 3) S = some (.str "NoStand", S) from by kernel_rfl, wp_some, gc_same rfl, wp_some]
    exact ⟨rfl, rfl⟩
  obtain ⟨d, S', e, rfl, rfl⟩ := key
  exact e
theorem kinds_NoName {k : Nat} {fs : List (Str × D)} {S : Sto} (hk : S[k]? = some (.exc "NoName" fs)) : F__law_kinds [.obj k] S = some (.str "NoName", S) := by
  have key : Wp (F__law_kinds [.obj k] S) fun d S' => d = .str "NoName" ∧ S' = S := by
    unfold F__law_kinds
    rw [w_run]
    unfold B__law_kinds
    have i_NoBase := fun e => isV_eq (t := row_NoBase) (b := false) hk (by kernel_rfl) e
    have i_NoText := fun e => isV_eq (t := row_NoText) (b := false) hk (by kernel_rfl) e
    have i_NoRows := fun e => isV_eq (t := row_NoRows) (b := false) hk (by kernel_rfl) e
    have i_NoStand := fun e => isV_eq (t := row_NoStand) (b := false) hk (by kernel_rfl) e
    have i_NoName := fun e => isV_eq (t := row_NoName) (b := true) hk (by kernel_rfl) e
    have i_NoNumber := fun e => isV_eq (t := row_NoNumber) (b := false) hk (by kernel_rfl) e
    have i_NoHistory := fun e => isV_eq (t := row_NoHistory) (b := false) hk (by kernel_rfl) e
    have i_NoCommand := fun e => isV_eq (t := row_NoCommand) (b := false) hk (by kernel_rfl) e
    have i_NoPart := fun e => isV_eq (t := row_NoPart) (b := false) hk (by kernel_rfl) e
    have i_NoRun := fun e => isV_eq (t := row_NoRun) (b := false) hk (by kernel_rfl) e
    have i_NoBranch := fun e => isV_eq (t := row_NoBranch) (b := false) hk (by kernel_rfl) e
    have i_NoCell := fun e => isV_eq (t := row_NoCell) (b := false) hk (by kernel_rfl) e
    have i_NoDepth := fun e => isV_eq (t := row_NoDepth) (b := false) hk (by kernel_rfl) e
    have i_NoAnswer := fun e => isV_eq (t := row_NoAnswer) (b := false) hk (by kernel_rfl) e
    have i_NotAsked := fun e => isV_eq (t := row_NotAsked) (b := false) hk (by kernel_rfl) e
    have i_Over := fun e => isV_eq (t := row_Over) (b := false) hk (by kernel_rfl) e
    have i_ValueError := fun e => isV_eq (t := row_ValueError) (b := true) hk (by kernel_rfl) e
    have i_KeyError := fun e => isV_eq (t := row_KeyError) (b := false) hk (by kernel_rfl) e
    have i_IndexError := fun e => isV_eq (t := row_IndexError) (b := false) hk (by kernel_rfl) e
    have i_LookupError := fun e => isV_eq (t := row_LookupError) (b := false) hk (by kernel_rfl) e
    have i_RuntimeError := fun e => isV_eq (t := row_RuntimeError) (b := false) hk (by kernel_rfl) e
    have s3 : startD 7 [.obj k] = [some (.obj k), none, none, none, none, none, none] := rfl
    rw [s3]
    simp only [wz0, Nat.reduceAdd, Nat.reduceLeDiff]
    simp only [i_NoBase, i_NoText, i_NoRows, i_NoStand, i_NoName, i_NoNumber, i_NoHistory, i_NoCommand, i_NoPart, i_NoRun, i_NoBranch, i_NoCell, i_NoDepth, i_NoAnswer, i_NotAsked, i_Over, i_ValueError, i_KeyError, i_IndexError, i_LookupError, i_RuntimeError, wp_some, gAddL_lst, List.length_cons, List.length_nil, Nat.reduceAdd, Nat.reduceLeDiff, if_true, List.cons_append, List.nil_append, List.set_cons_succ, List.set_cons_zero, List.getElem?_cons_succ, List.getElem?_cons_zero]
    refine ⟨rfl, ?_⟩
    rw [show gCntB _ _ S = some (.int 1, S) from rfl, wp_some]
    rw [show gEq true (.int 1) (.int 1) S = some (.bl false, S) from by kernel_rfl, wp_some]
    refine ⟨false, rfl, ?_⟩
    rw [if_neg Bool.false_ne_true]
    refine ⟨rfl, ?_⟩
    rw [show gIdxB _ _ S = some (.int 4, S) from rfl, wp_some, (due_eq S).1, wp_some, (due_eq S).2.1, wp_some]
    rw [gAddL_lst, if_pos (by simp), wp_some, (due_eq S).2.2, wp_some, gAddL_lst, if_pos (by simp), wp_some, gAddL_lst, if_pos (by simp), wp_some]
    rw [show fStr _ _ S = some ([.str "1", .str "0", .str "0", .str "0", .str "0"], S) from by kernel_rfl, wp_some]
    refine ⟨by decide, ?_⟩
    rw [show fLcL _ _ _ _ _ S = some ([.bl true, .bl false, .bl false, .bl false, .bl false], S) from by kernel_rfl, wp_some]
    rw [show gEq false _ _ S = some (.bl true, S) from by kernel_rfl, wp_some]
    refine ⟨true, rfl, ?_⟩
    rw [if_pos rfl]
    rw [show gIdx _ (.int 4) S = some (.str "NoName", S) from by kernel_rfl, wp_some, gc_same rfl, wp_some]
    exact ⟨rfl, rfl⟩
  obtain ⟨d, S', e, rfl, rfl⟩ := key
  exact e
theorem kinds_NoNumber {k : Nat} {fs : List (Str × D)} {S : Sto} (hk : S[k]? = some (.exc "NoNumber" fs)) : F__law_kinds [.obj k] S = some (.str "NoNumber", S) := by
  have key : Wp (F__law_kinds [.obj k] S) fun d S' => d = .str "NoNumber" ∧ S' = S := by
    unfold F__law_kinds
    rw [w_run]
    unfold B__law_kinds
    have i_NoBase := fun e => isV_eq (t := row_NoBase) (b := false) hk (by kernel_rfl) e
    have i_NoText := fun e => isV_eq (t := row_NoText) (b := false) hk (by kernel_rfl) e
    have i_NoRows := fun e => isV_eq (t := row_NoRows) (b := false) hk (by kernel_rfl) e
    have i_NoStand := fun e => isV_eq (t := row_NoStand) (b := false) hk (by kernel_rfl) e
    have i_NoName := fun e => isV_eq (t := row_NoName) (b := false) hk (by kernel_rfl) e
    have i_NoNumber := fun e => isV_eq (t := row_NoNumber) (b := true) hk (by kernel_rfl) e
    have i_NoHistory := fun e => isV_eq (t := row_NoHistory) (b := false) hk (by kernel_rfl) e
    have i_NoCommand := fun e => isV_eq (t := row_NoCommand) (b := false) hk (by kernel_rfl) e
    have i_NoPart := fun e => isV_eq (t := row_NoPart) (b := false) hk (by kernel_rfl) e
    have i_NoRun := fun e => isV_eq (t := row_NoRun) (b := false) hk (by kernel_rfl) e
    have i_NoBranch := fun e => isV_eq (t := row_NoBranch) (b := false) hk (by kernel_rfl) e
    have i_NoCell := fun e => isV_eq (t := row_NoCell) (b := false) hk (by kernel_rfl) e
    have i_NoDepth := fun e => isV_eq (t := row_NoDepth) (b := false) hk (by kernel_rfl) e
    have i_NoAnswer := fun e => isV_eq (t := row_NoAnswer) (b := false) hk (by kernel_rfl) e
    have i_NotAsked := fun e => isV_eq (t := row_NotAsked) (b := false) hk (by kernel_rfl) e
    have i_Over := fun e => isV_eq (t := row_Over) (b := false) hk (by kernel_rfl) e
    have i_ValueError := fun e => isV_eq (t := row_ValueError) (b := true) hk (by kernel_rfl) e
    have i_KeyError := fun e => isV_eq (t := row_KeyError) (b := false) hk (by kernel_rfl) e
    have i_IndexError := fun e => isV_eq (t := row_IndexError) (b := false) hk (by kernel_rfl) e
    have i_LookupError := fun e => isV_eq (t := row_LookupError) (b := false) hk (by kernel_rfl) e
    have i_RuntimeError := fun e => isV_eq (t := row_RuntimeError) (b := false) hk (by kernel_rfl) e
    have s3 : startD 7 [.obj k] = [some (.obj k), none, none, none, none, none, none] := rfl
    rw [s3]
    simp only [wz0, Nat.reduceAdd, Nat.reduceLeDiff]
    simp only [i_NoBase, i_NoText, i_NoRows, i_NoStand, i_NoName, i_NoNumber, i_NoHistory, i_NoCommand, i_NoPart, i_NoRun, i_NoBranch, i_NoCell, i_NoDepth, i_NoAnswer, i_NotAsked, i_Over, i_ValueError, i_KeyError, i_IndexError, i_LookupError, i_RuntimeError, wp_some, gAddL_lst, List.length_cons, List.length_nil, Nat.reduceAdd, Nat.reduceLeDiff, if_true, List.cons_append, List.nil_append, List.set_cons_succ, List.set_cons_zero, List.getElem?_cons_succ, List.getElem?_cons_zero]
    refine ⟨rfl, ?_⟩
    rw [show gCntB _ _ S = some (.int 1, S) from rfl, wp_some]
    rw [show gEq true (.int 1) (.int 1) S = some (.bl false, S) from by kernel_rfl, wp_some]
    refine ⟨false, rfl, ?_⟩
    rw [if_neg Bool.false_ne_true]
    refine ⟨rfl, ?_⟩
    rw [show gIdxB _ _ S = some (.int 5, S) from rfl, wp_some, (due_eq S).1, wp_some, (due_eq S).2.1, wp_some]
    rw [gAddL_lst, if_pos (by simp), wp_some, (due_eq S).2.2, wp_some, gAddL_lst, if_pos (by simp), wp_some, gAddL_lst, if_pos (by simp), wp_some]
    rw [show fStr _ _ S = some ([.str "1", .str "0", .str "0", .str "0", .str "0"], S) from by kernel_rfl, wp_some]
    refine ⟨by decide, ?_⟩
    rw [show fLcL _ _ _ _ _ S = some ([.bl true, .bl false, .bl false, .bl false, .bl false], S) from by kernel_rfl, wp_some]
    rw [show gEq false _ _ S = some (.bl true, S) from by kernel_rfl, wp_some]
    refine ⟨true, rfl, ?_⟩
    rw [if_pos rfl]
    rw [show gIdx _ (.int 5) S = some (.str "NoNumber", S) from by kernel_rfl, wp_some, gc_same rfl, wp_some]
    exact ⟨rfl, rfl⟩
  obtain ⟨d, S', e, rfl, rfl⟩ := key
  exact e
theorem kinds_NoHistory {k : Nat} {fs : List (Str × D)} {S : Sto} (hk : S[k]? = some (.exc "NoHistory" fs)) : F__law_kinds [.obj k] S = some (.str "NoHistory", S) := by
  have key : Wp (F__law_kinds [.obj k] S) fun d S' => d = .str "NoHistory" ∧ S' = S := by
    unfold F__law_kinds
    rw [w_run]
    unfold B__law_kinds
    have i_NoBase := fun e => isV_eq (t := row_NoBase) (b := false) hk (by kernel_rfl) e
    have i_NoText := fun e => isV_eq (t := row_NoText) (b := false) hk (by kernel_rfl) e
    have i_NoRows := fun e => isV_eq (t := row_NoRows) (b := false) hk (by kernel_rfl) e
    have i_NoStand := fun e => isV_eq (t := row_NoStand) (b := false) hk (by kernel_rfl) e
    have i_NoName := fun e => isV_eq (t := row_NoName) (b := false) hk (by kernel_rfl) e
    have i_NoNumber := fun e => isV_eq (t := row_NoNumber) (b := false) hk (by kernel_rfl) e
    have i_NoHistory := fun e => isV_eq (t := row_NoHistory) (b := true) hk (by kernel_rfl) e
    have i_NoCommand := fun e => isV_eq (t := row_NoCommand) (b := false) hk (by kernel_rfl) e
    have i_NoPart := fun e => isV_eq (t := row_NoPart) (b := false) hk (by kernel_rfl) e
    have i_NoRun := fun e => isV_eq (t := row_NoRun) (b := false) hk (by kernel_rfl) e
    have i_NoBranch := fun e => isV_eq (t := row_NoBranch) (b := false) hk (by kernel_rfl) e
    have i_NoCell := fun e => isV_eq (t := row_NoCell) (b := false) hk (by kernel_rfl) e
    have i_NoDepth := fun e => isV_eq (t := row_NoDepth) (b := false) hk (by kernel_rfl) e
    have i_NoAnswer := fun e => isV_eq (t := row_NoAnswer) (b := false) hk (by kernel_rfl) e
    have i_NotAsked := fun e => isV_eq (t := row_NotAsked) (b := false) hk (by kernel_rfl) e
    have i_Over := fun e => isV_eq (t := row_Over) (b := false) hk (by kernel_rfl) e
    have i_ValueError := fun e => isV_eq (t := row_ValueError) (b := true) hk (by kernel_rfl) e
    have i_KeyError := fun e => isV_eq (t := row_KeyError) (b := false) hk (by kernel_rfl) e
    have i_IndexError := fun e => isV_eq (t := row_IndexError) (b := false) hk (by kernel_rfl) e
    have i_LookupError := fun e => isV_eq (t := row_LookupError) (b := false) hk (by kernel_rfl) e
    have i_RuntimeError := fun e => isV_eq (t := row_RuntimeError) (b := false) hk (by kernel_rfl) e
    have s3 : startD 7 [.obj k] = [some (.obj k), none, none, none, none, none, none] := rfl
    rw [s3]
    simp only [wz0, Nat.reduceAdd, Nat.reduceLeDiff]
    simp only [i_NoBase, i_NoText, i_NoRows, i_NoStand, i_NoName, i_NoNumber, i_NoHistory, i_NoCommand, i_NoPart, i_NoRun, i_NoBranch, i_NoCell, i_NoDepth, i_NoAnswer, i_NotAsked, i_Over, i_ValueError, i_KeyError, i_IndexError, i_LookupError, i_RuntimeError, wp_some, gAddL_lst, List.length_cons, List.length_nil, Nat.reduceAdd, Nat.reduceLeDiff, if_true, List.cons_append, List.nil_append, List.set_cons_succ, List.set_cons_zero, List.getElem?_cons_succ, List.getElem?_cons_zero]
    refine ⟨rfl, ?_⟩
    rw [show gCntB _ _ S = some (.int 1, S) from rfl, wp_some]
    rw [show gEq true (.int 1) (.int 1) S = some (.bl false, S) from by kernel_rfl, wp_some]
    refine ⟨false, rfl, ?_⟩
    rw [if_neg Bool.false_ne_true]
    refine ⟨rfl, ?_⟩
    rw [show gIdxB _ _ S = some (.int 6, S) from rfl, wp_some, (due_eq S).1, wp_some, (due_eq S).2.1, wp_some]
    rw [gAddL_lst, if_pos (by simp), wp_some, (due_eq S).2.2, wp_some, gAddL_lst, if_pos (by simp), wp_some, gAddL_lst, if_pos (by simp), wp_some]
    rw [show fStr _ _ S = some ([.str "1", .str "0", .str "0", .str "0", .str "0"], S) from by kernel_rfl, wp_some]
    refine ⟨by decide, ?_⟩
    rw [show fLcL _ _ _ _ _ S = some ([.bl true, .bl false, .bl false, .bl false, .bl false], S) from by kernel_rfl, wp_some]
    rw [show gEq false _ _ S = some (.bl true, S) from by kernel_rfl, wp_some]
    refine ⟨true, rfl, ?_⟩
    rw [if_pos rfl]
    rw [show gIdx _ (.int 6) S = some (.str "NoHistory", S) from by kernel_rfl, wp_some, gc_same rfl, wp_some]
    exact ⟨rfl, rfl⟩
  obtain ⟨d, S', e, rfl, rfl⟩ := key
  exact e
theorem kinds_NoCommand {k : Nat} {fs : List (Str × D)} {S : Sto} (hk : S[k]? = some (.exc "NoCommand" fs)) : F__law_kinds [.obj k] S = some (.str "NoCommand", S) := by
  have key : Wp (F__law_kinds [.obj k] S) fun d S' => d = .str "NoCommand" ∧ S' = S := by
    unfold F__law_kinds
    rw [w_run]
    unfold B__law_kinds
    have i_NoBase := fun e => isV_eq (t := row_NoBase) (b := false) hk (by kernel_rfl) e
    have i_NoText := fun e => isV_eq (t := row_NoText) (b := false) hk (by kernel_rfl) e
    have i_NoRows := fun e => isV_eq (t := row_NoRows) (b := false) hk (by kernel_rfl) e
    have i_NoStand := fun e => isV_eq (t := row_NoStand) (b := false) hk (by kernel_rfl) e
    have i_NoName := fun e => isV_eq (t := row_NoName) (b := false) hk (by kernel_rfl) e
    have i_NoNumber := fun e => isV_eq (t := row_NoNumber) (b := false) hk (by kernel_rfl) e
    have i_NoHistory := fun e => isV_eq (t := row_NoHistory) (b := false) hk (by kernel_rfl) e
    have i_NoCommand := fun e => isV_eq (t := row_NoCommand) (b := true) hk (by kernel_rfl) e
    have i_NoPart := fun e => isV_eq (t := row_NoPart) (b := false) hk (by kernel_rfl) e
    have i_NoRun := fun e => isV_eq (t := row_NoRun) (b := false) hk (by kernel_rfl) e
    have i_NoBranch := fun e => isV_eq (t := row_NoBranch) (b := false) hk (by kernel_rfl) e
    have i_NoCell := fun e => isV_eq (t := row_NoCell) (b := false) hk (by kernel_rfl) e
    have i_NoDepth := fun e => isV_eq (t := row_NoDepth) (b := false) hk (by kernel_rfl) e
    have i_NoAnswer := fun e => isV_eq (t := row_NoAnswer) (b := false) hk (by kernel_rfl) e
    have i_NotAsked := fun e => isV_eq (t := row_NotAsked) (b := false) hk (by kernel_rfl) e
    have i_Over := fun e => isV_eq (t := row_Over) (b := false) hk (by kernel_rfl) e
    have i_ValueError := fun e => isV_eq (t := row_ValueError) (b := true) hk (by kernel_rfl) e
    have i_KeyError := fun e => isV_eq (t := row_KeyError) (b := false) hk (by kernel_rfl) e
    have i_IndexError := fun e => isV_eq (t := row_IndexError) (b := false) hk (by kernel_rfl) e
    have i_LookupError := fun e => isV_eq (t := row_LookupError) (b := false) hk (by kernel_rfl) e
    have i_RuntimeError := fun e => isV_eq (t := row_RuntimeError) (b := false) hk (by kernel_rfl) e
    have s3 : startD 7 [.obj k] = [some (.obj k), none, none, none, none, none, none] := rfl
    rw [s3]
    simp only [wz0, Nat.reduceAdd, Nat.reduceLeDiff]
    simp only [i_NoBase, i_NoText, i_NoRows, i_NoStand, i_NoName, i_NoNumber, i_NoHistory, i_NoCommand, i_NoPart, i_NoRun, i_NoBranch, i_NoCell, i_NoDepth, i_NoAnswer, i_NotAsked, i_Over, i_ValueError, i_KeyError, i_IndexError, i_LookupError, i_RuntimeError, wp_some, gAddL_lst, List.length_cons, List.length_nil, Nat.reduceAdd, Nat.reduceLeDiff, if_true, List.cons_append, List.nil_append, List.set_cons_succ, List.set_cons_zero, List.getElem?_cons_succ, List.getElem?_cons_zero]
    refine ⟨rfl, ?_⟩
    rw [show gCntB _ _ S = some (.int 1, S) from rfl, wp_some]
    rw [show gEq true (.int 1) (.int 1) S = some (.bl false, S) from by kernel_rfl, wp_some]
    refine ⟨false, rfl, ?_⟩
    rw [if_neg Bool.false_ne_true]
    refine ⟨rfl, ?_⟩
    rw [show gIdxB _ _ S = some (.int 7, S) from rfl, wp_some, (due_eq S).1, wp_some, (due_eq S).2.1, wp_some]
    rw [gAddL_lst, if_pos (by simp), wp_some, (due_eq S).2.2, wp_some, gAddL_lst, if_pos (by simp), wp_some, gAddL_lst, if_pos (by simp), wp_some]
    rw [show fStr _ _ S = some ([.str "1", .str "0", .str "0", .str "0", .str "0"], S) from by kernel_rfl, wp_some]
    refine ⟨by decide, ?_⟩
    rw [show fLcL _ _ _ _ _ S = some ([.bl true, .bl false, .bl false, .bl false, .bl false], S) from by kernel_rfl, wp_some]
    rw [show gEq false _ _ S = some (.bl true, S) from by kernel_rfl, wp_some]
    refine ⟨true, rfl, ?_⟩
    rw [if_pos rfl]
    rw [show gIdx _ (.int 7) S = some (.str "NoCommand", S) from by kernel_rfl, wp_some, gc_same rfl, wp_some]
    exact ⟨rfl, rfl⟩
  obtain ⟨d, S', e, rfl, rfl⟩ := key
  exact e
theorem kinds_NoPart {k : Nat} {fs : List (Str × D)} {S : Sto} (hk : S[k]? = some (.exc "NoPart" fs)) : F__law_kinds [.obj k] S = some (.str "NoPart", S) := by
  have key : Wp (F__law_kinds [.obj k] S) fun d S' => d = .str "NoPart" ∧ S' = S := by
    unfold F__law_kinds
    rw [w_run]
    unfold B__law_kinds
    have i_NoBase := fun e => isV_eq (t := row_NoBase) (b := false) hk (by kernel_rfl) e
    have i_NoText := fun e => isV_eq (t := row_NoText) (b := false) hk (by kernel_rfl) e
    have i_NoRows := fun e => isV_eq (t := row_NoRows) (b := false) hk (by kernel_rfl) e
    have i_NoStand := fun e => isV_eq (t := row_NoStand) (b := false) hk (by kernel_rfl) e
    have i_NoName := fun e => isV_eq (t := row_NoName) (b := false) hk (by kernel_rfl) e
    have i_NoNumber := fun e => isV_eq (t := row_NoNumber) (b := false) hk (by kernel_rfl) e
    have i_NoHistory := fun e => isV_eq (t := row_NoHistory) (b := false) hk (by kernel_rfl) e
    have i_NoCommand := fun e => isV_eq (t := row_NoCommand) (b := false) hk (by kernel_rfl) e
    have i_NoPart := fun e => isV_eq (t := row_NoPart) (b := true) hk (by kernel_rfl) e
    have i_NoRun := fun e => isV_eq (t := row_NoRun) (b := false) hk (by kernel_rfl) e
    have i_NoBranch := fun e => isV_eq (t := row_NoBranch) (b := false) hk (by kernel_rfl) e
    have i_NoCell := fun e => isV_eq (t := row_NoCell) (b := false) hk (by kernel_rfl) e
    have i_NoDepth := fun e => isV_eq (t := row_NoDepth) (b := false) hk (by kernel_rfl) e
    have i_NoAnswer := fun e => isV_eq (t := row_NoAnswer) (b := false) hk (by kernel_rfl) e
    have i_NotAsked := fun e => isV_eq (t := row_NotAsked) (b := false) hk (by kernel_rfl) e
    have i_Over := fun e => isV_eq (t := row_Over) (b := false) hk (by kernel_rfl) e
    have i_ValueError := fun e => isV_eq (t := row_ValueError) (b := false) hk (by kernel_rfl) e
    have i_KeyError := fun e => isV_eq (t := row_KeyError) (b := true) hk (by kernel_rfl) e
    have i_IndexError := fun e => isV_eq (t := row_IndexError) (b := false) hk (by kernel_rfl) e
    have i_LookupError := fun e => isV_eq (t := row_LookupError) (b := true) hk (by kernel_rfl) e
    have i_RuntimeError := fun e => isV_eq (t := row_RuntimeError) (b := false) hk (by kernel_rfl) e
    have s3 : startD 7 [.obj k] = [some (.obj k), none, none, none, none, none, none] := rfl
    rw [s3]
    simp only [wz0, Nat.reduceAdd, Nat.reduceLeDiff]
    simp only [i_NoBase, i_NoText, i_NoRows, i_NoStand, i_NoName, i_NoNumber, i_NoHistory, i_NoCommand, i_NoPart, i_NoRun, i_NoBranch, i_NoCell, i_NoDepth, i_NoAnswer, i_NotAsked, i_Over, i_ValueError, i_KeyError, i_IndexError, i_LookupError, i_RuntimeError, wp_some, gAddL_lst, List.length_cons, List.length_nil, Nat.reduceAdd, Nat.reduceLeDiff, if_true, List.cons_append, List.nil_append, List.set_cons_succ, List.set_cons_zero, List.getElem?_cons_succ, List.getElem?_cons_zero]
    refine ⟨rfl, ?_⟩
    rw [show gCntB _ _ S = some (.int 1, S) from rfl, wp_some]
    rw [show gEq true (.int 1) (.int 1) S = some (.bl false, S) from by kernel_rfl, wp_some]
    refine ⟨false, rfl, ?_⟩
    rw [if_neg Bool.false_ne_true]
    refine ⟨rfl, ?_⟩
    rw [show gIdxB _ _ S = some (.int 8, S) from rfl, wp_some, (due_eq S).1, wp_some, (due_eq S).2.1, wp_some]
    rw [gAddL_lst, if_pos (by simp), wp_some, (due_eq S).2.2, wp_some, gAddL_lst, if_pos (by simp), wp_some, gAddL_lst, if_pos (by simp), wp_some]
    rw [show fStr _ _ S = some ([.str "0", .str "1", .str "0", .str "1", .str "0"], S) from by kernel_rfl, wp_some]
    refine ⟨by decide, ?_⟩
    rw [show fLcL _ _ _ _ _ S = some ([.bl false, .bl true, .bl false, .bl true, .bl false], S) from by kernel_rfl, wp_some]
    rw [show gEq false _ _ S = some (.bl true, S) from by kernel_rfl, wp_some]
    refine ⟨true, rfl, ?_⟩
    rw [if_pos rfl]
    rw [show gIdx _ (.int 8) S = some (.str "NoPart", S) from by kernel_rfl, wp_some, gc_same rfl, wp_some]
    exact ⟨rfl, rfl⟩
  obtain ⟨d, S', e, rfl, rfl⟩ := key
  exact e
theorem kinds_NoRun {k : Nat} {fs : List (Str × D)} {S : Sto} (hk : S[k]? = some (.exc "NoRun" fs)) : F__law_kinds [.obj k] S = some (.str "NoRun", S) := by
  have key : Wp (F__law_kinds [.obj k] S) fun d S' => d = .str "NoRun" ∧ S' = S := by
    unfold F__law_kinds
    rw [w_run]
    unfold B__law_kinds
    have i_NoBase := fun e => isV_eq (t := row_NoBase) (b := false) hk (by kernel_rfl) e
    have i_NoText := fun e => isV_eq (t := row_NoText) (b := false) hk (by kernel_rfl) e
    have i_NoRows := fun e => isV_eq (t := row_NoRows) (b := false) hk (by kernel_rfl) e
    have i_NoStand := fun e => isV_eq (t := row_NoStand) (b := false) hk (by kernel_rfl) e
    have i_NoName := fun e => isV_eq (t := row_NoName) (b := false) hk (by kernel_rfl) e
    have i_NoNumber := fun e => isV_eq (t := row_NoNumber) (b := false) hk (by kernel_rfl) e
    have i_NoHistory := fun e => isV_eq (t := row_NoHistory) (b := false) hk (by kernel_rfl) e
    have i_NoCommand := fun e => isV_eq (t := row_NoCommand) (b := false) hk (by kernel_rfl) e
    have i_NoPart := fun e => isV_eq (t := row_NoPart) (b := false) hk (by kernel_rfl) e
    have i_NoRun := fun e => isV_eq (t := row_NoRun) (b := true) hk (by kernel_rfl) e
    have i_NoBranch := fun e => isV_eq (t := row_NoBranch) (b := false) hk (by kernel_rfl) e
    have i_NoCell := fun e => isV_eq (t := row_NoCell) (b := false) hk (by kernel_rfl) e
    have i_NoDepth := fun e => isV_eq (t := row_NoDepth) (b := false) hk (by kernel_rfl) e
    have i_NoAnswer := fun e => isV_eq (t := row_NoAnswer) (b := false) hk (by kernel_rfl) e
    have i_NotAsked := fun e => isV_eq (t := row_NotAsked) (b := false) hk (by kernel_rfl) e
    have i_Over := fun e => isV_eq (t := row_Over) (b := false) hk (by kernel_rfl) e
    have i_ValueError := fun e => isV_eq (t := row_ValueError) (b := false) hk (by kernel_rfl) e
    have i_KeyError := fun e => isV_eq (t := row_KeyError) (b := true) hk (by kernel_rfl) e
    have i_IndexError := fun e => isV_eq (t := row_IndexError) (b := false) hk (by kernel_rfl) e
    have i_LookupError := fun e => isV_eq (t := row_LookupError) (b := true) hk (by kernel_rfl) e
    have i_RuntimeError := fun e => isV_eq (t := row_RuntimeError) (b := false) hk (by kernel_rfl) e
    have s3 : startD 7 [.obj k] = [some (.obj k), none, none, none, none, none, none] := rfl
    rw [s3]
    simp only [wz0, Nat.reduceAdd, Nat.reduceLeDiff]
    simp only [i_NoBase, i_NoText, i_NoRows, i_NoStand, i_NoName, i_NoNumber, i_NoHistory, i_NoCommand, i_NoPart, i_NoRun, i_NoBranch, i_NoCell, i_NoDepth, i_NoAnswer, i_NotAsked, i_Over, i_ValueError, i_KeyError, i_IndexError, i_LookupError, i_RuntimeError, wp_some, gAddL_lst, List.length_cons, List.length_nil, Nat.reduceAdd, Nat.reduceLeDiff, if_true, List.cons_append, List.nil_append, List.set_cons_succ, List.set_cons_zero, List.getElem?_cons_succ, List.getElem?_cons_zero]
    refine ⟨rfl, ?_⟩
    rw [show gCntB _ _ S = some (.int 1, S) from rfl, wp_some]
    rw [show gEq true (.int 1) (.int 1) S = some (.bl false, S) from by kernel_rfl, wp_some]
    refine ⟨false, rfl, ?_⟩
    rw [if_neg Bool.false_ne_true]
    refine ⟨rfl, ?_⟩
    rw [show gIdxB _ _ S = some (.int 9, S) from rfl, wp_some, (due_eq S).1, wp_some, (due_eq S).2.1, wp_some]
    rw [gAddL_lst, if_pos (by simp), wp_some, (due_eq S).2.2, wp_some, gAddL_lst, if_pos (by simp), wp_some, gAddL_lst, if_pos (by simp), wp_some]
    rw [show fStr _ _ S = some ([.str "0", .str "1", .str "0", .str "1", .str "0"], S) from by kernel_rfl, wp_some]
    refine ⟨by decide, ?_⟩
    rw [show fLcL _ _ _ _ _ S = some ([.bl false, .bl true, .bl false, .bl true, .bl false], S) from by kernel_rfl, wp_some]
    rw [show gEq false _ _ S = some (.bl true, S) from by kernel_rfl, wp_some]
    refine ⟨true, rfl, ?_⟩
    rw [if_pos rfl]
    rw [show gIdx _ (.int 9) S = some (.str "NoRun", S) from by kernel_rfl, wp_some, gc_same rfl, wp_some]
    exact ⟨rfl, rfl⟩
  obtain ⟨d, S', e, rfl, rfl⟩ := key
  exact e
theorem kinds_NoBranch {k : Nat} {fs : List (Str × D)} {S : Sto} (hk : S[k]? = some (.exc "NoBranch" fs)) : F__law_kinds [.obj k] S = some (.str "NoBranch", S) := by
  have key : Wp (F__law_kinds [.obj k] S) fun d S' => d = .str "NoBranch" ∧ S' = S := by
    unfold F__law_kinds
    rw [w_run]
    unfold B__law_kinds
    have i_NoBase := fun e => isV_eq (t := row_NoBase) (b := false) hk (by kernel_rfl) e
    have i_NoText := fun e => isV_eq (t := row_NoText) (b := false) hk (by kernel_rfl) e
    have i_NoRows := fun e => isV_eq (t := row_NoRows) (b := false) hk (by kernel_rfl) e
    have i_NoStand := fun e => isV_eq (t := row_NoStand) (b := false) hk (by kernel_rfl) e
    have i_NoName := fun e => isV_eq (t := row_NoName) (b := false) hk (by kernel_rfl) e
    have i_NoNumber := fun e => isV_eq (t := row_NoNumber) (b := false) hk (by kernel_rfl) e
    have i_NoHistory := fun e => isV_eq (t := row_NoHistory) (b := false) hk (by kernel_rfl) e
    have i_NoCommand := fun e => isV_eq (t := row_NoCommand) (b := false) hk (by kernel_rfl) e
    have i_NoPart := fun e => isV_eq (t := row_NoPart) (b := false) hk (by kernel_rfl) e
    have i_NoRun := fun e => isV_eq (t := row_NoRun) (b := false) hk (by kernel_rfl) e
    have i_NoBranch := fun e => isV_eq (t := row_NoBranch) (b := true) hk (by kernel_rfl) e
    have i_NoCell := fun e => isV_eq (t := row_NoCell) (b := false) hk (by kernel_rfl) e
    have i_NoDepth := fun e => isV_eq (t := row_NoDepth) (b := false) hk (by kernel_rfl) e
    have i_NoAnswer := fun e => isV_eq (t := row_NoAnswer) (b := false) hk (by kernel_rfl) e
    have i_NotAsked := fun e => isV_eq (t := row_NotAsked) (b := false) hk (by kernel_rfl) e
    have i_Over := fun e => isV_eq (t := row_Over) (b := false) hk (by kernel_rfl) e
    have i_ValueError := fun e => isV_eq (t := row_ValueError) (b := false) hk (by kernel_rfl) e
    have i_KeyError := fun e => isV_eq (t := row_KeyError) (b := false) hk (by kernel_rfl) e
    have i_IndexError := fun e => isV_eq (t := row_IndexError) (b := true) hk (by kernel_rfl) e
    have i_LookupError := fun e => isV_eq (t := row_LookupError) (b := true) hk (by kernel_rfl) e
    have i_RuntimeError := fun e => isV_eq (t := row_RuntimeError) (b := false) hk (by kernel_rfl) e
    have s3 : startD 7 [.obj k] = [some (.obj k), none, none, none, none, none, none] := rfl
    rw [s3]
    simp only [wz0, Nat.reduceAdd, Nat.reduceLeDiff]
    simp only [i_NoBase, i_NoText, i_NoRows, i_NoStand, i_NoName, i_NoNumber, i_NoHistory, i_NoCommand, i_NoPart, i_NoRun, i_NoBranch, i_NoCell, i_NoDepth, i_NoAnswer, i_NotAsked, i_Over, i_ValueError, i_KeyError, i_IndexError, i_LookupError, i_RuntimeError, wp_some, gAddL_lst, List.length_cons, List.length_nil, Nat.reduceAdd, Nat.reduceLeDiff, if_true, List.cons_append, List.nil_append, List.set_cons_succ, List.set_cons_zero, List.getElem?_cons_succ, List.getElem?_cons_zero]
    refine ⟨rfl, ?_⟩
    rw [show gCntB _ _ S = some (.int 1, S) from rfl, wp_some]
    rw [show gEq true (.int 1) (.int 1) S = some (.bl false, S) from by kernel_rfl, wp_some]
    refine ⟨false, rfl, ?_⟩
    rw [if_neg Bool.false_ne_true]
    refine ⟨rfl, ?_⟩
    rw [show gIdxB _ _ S = some (.int 10, S) from rfl, wp_some, (due_eq S).1, wp_some, (due_eq S).2.1, wp_some]
    rw [gAddL_lst, if_pos (by simp), wp_some, (due_eq S).2.2, wp_some, gAddL_lst, if_pos (by simp), wp_some, gAddL_lst, if_pos (by simp), wp_some]
    rw [show fStr _ _ S = some ([.str "0", .str "0", .str "1", .str "1", .str "0"], S) from by kernel_rfl, wp_some]
    refine ⟨by decide, ?_⟩
    rw [show fLcL _ _ _ _ _ S = some ([.bl false, .bl false, .bl true, .bl true, .bl false], S) from by kernel_rfl, wp_some]
    rw [show gEq false _ _ S = some (.bl true, S) from by kernel_rfl, wp_some]
    refine ⟨true, rfl, ?_⟩
    rw [if_pos rfl]
    rw [show gIdx _ (.int 10) S = some (.str "NoBranch", S) from by kernel_rfl, wp_some, gc_same rfl, wp_some]
    exact ⟨rfl, rfl⟩
  obtain ⟨d, S', e, rfl, rfl⟩ := key
  exact e
theorem kinds_NoCell {k : Nat} {fs : List (Str × D)} {S : Sto} (hk : S[k]? = some (.exc "NoCell" fs)) : F__law_kinds [.obj k] S = some (.str "NoCell", S) := by
  have key : Wp (F__law_kinds [.obj k] S) fun d S' => d = .str "NoCell" ∧ S' = S := by
    unfold F__law_kinds
    rw [w_run]
    unfold B__law_kinds
    have i_NoBase := fun e => isV_eq (t := row_NoBase) (b := false) hk (by kernel_rfl) e
    have i_NoText := fun e => isV_eq (t := row_NoText) (b := false) hk (by kernel_rfl) e
    have i_NoRows := fun e => isV_eq (t := row_NoRows) (b := false) hk (by kernel_rfl) e
    have i_NoStand := fun e => isV_eq (t := row_NoStand) (b := false) hk (by kernel_rfl) e
    have i_NoName := fun e => isV_eq (t := row_NoName) (b := false) hk (by kernel_rfl) e
    have i_NoNumber := fun e => isV_eq (t := row_NoNumber) (b := false) hk (by kernel_rfl) e
    have i_NoHistory := fun e => isV_eq (t := row_NoHistory) (b := false) hk (by kernel_rfl) e
    have i_NoCommand := fun e => isV_eq (t := row_NoCommand) (b := false) hk (by kernel_rfl) e
    have i_NoPart := fun e => isV_eq (t := row_NoPart) (b := false) hk (by kernel_rfl) e
    have i_NoRun := fun e => isV_eq (t := row_NoRun) (b := false) hk (by kernel_rfl) e
    have i_NoBranch := fun e => isV_eq (t := row_NoBranch) (b := false) hk (by kernel_rfl) e
    have i_NoCell := fun e => isV_eq (t := row_NoCell) (b := true) hk (by kernel_rfl) e
    have i_NoDepth := fun e => isV_eq (t := row_NoDepth) (b := false) hk (by kernel_rfl) e
    have i_NoAnswer := fun e => isV_eq (t := row_NoAnswer) (b := false) hk (by kernel_rfl) e
    have i_NotAsked := fun e => isV_eq (t := row_NotAsked) (b := false) hk (by kernel_rfl) e
    have i_Over := fun e => isV_eq (t := row_Over) (b := false) hk (by kernel_rfl) e
    have i_ValueError := fun e => isV_eq (t := row_ValueError) (b := false) hk (by kernel_rfl) e
    have i_KeyError := fun e => isV_eq (t := row_KeyError) (b := false) hk (by kernel_rfl) e
    have i_IndexError := fun e => isV_eq (t := row_IndexError) (b := true) hk (by kernel_rfl) e
    have i_LookupError := fun e => isV_eq (t := row_LookupError) (b := true) hk (by kernel_rfl) e
    have i_RuntimeError := fun e => isV_eq (t := row_RuntimeError) (b := false) hk (by kernel_rfl) e
    have s3 : startD 7 [.obj k] = [some (.obj k), none, none, none, none, none, none] := rfl
    rw [s3]
    simp only [wz0, Nat.reduceAdd, Nat.reduceLeDiff]
    simp only [i_NoBase, i_NoText, i_NoRows, i_NoStand, i_NoName, i_NoNumber, i_NoHistory, i_NoCommand, i_NoPart, i_NoRun, i_NoBranch, i_NoCell, i_NoDepth, i_NoAnswer, i_NotAsked, i_Over, i_ValueError, i_KeyError, i_IndexError, i_LookupError, i_RuntimeError, wp_some, gAddL_lst, List.length_cons, List.length_nil, Nat.reduceAdd, Nat.reduceLeDiff, if_true, List.cons_append, List.nil_append, List.set_cons_succ, List.set_cons_zero, List.getElem?_cons_succ, List.getElem?_cons_zero]
    refine ⟨rfl, ?_⟩
    rw [show gCntB _ _ S = some (.int 1, S) from rfl, wp_some]
    rw [show gEq true (.int 1) (.int 1) S = some (.bl false, S) from by kernel_rfl, wp_some]
    refine ⟨false, rfl, ?_⟩
    rw [if_neg Bool.false_ne_true]
    refine ⟨rfl, ?_⟩
    rw [show gIdxB _ _ S = some (.int 11, S) from rfl, wp_some, (due_eq S).1, wp_some, (due_eq S).2.1, wp_some]
    rw [gAddL_lst, if_pos (by simp), wp_some, (due_eq S).2.2, wp_some, gAddL_lst, if_pos (by simp), wp_some, gAddL_lst, if_pos (by simp), wp_some]
    rw [show fStr _ _ S = some ([.str "0", .str "0", .str "1", .str "1", .str "0"], S) from by kernel_rfl, wp_some]
    refine ⟨by decide, ?_⟩
    rw [show fLcL _ _ _ _ _ S = some ([.bl false, .bl false, .bl true, .bl true, .bl false], S) from by kernel_rfl, wp_some]
    rw [show gEq false _ _ S = some (.bl true, S) from by kernel_rfl, wp_some]
    refine ⟨true, rfl, ?_⟩
    rw [if_pos rfl]
    rw [show gIdx _ (.int 11) S = some (.str "NoCell", S) from by kernel_rfl, wp_some, gc_same rfl, wp_some]
    exact ⟨rfl, rfl⟩
  obtain ⟨d, S', e, rfl, rfl⟩ := key
  exact e
theorem kinds_NoDepth {k : Nat} {fs : List (Str × D)} {S : Sto} (hk : S[k]? = some (.exc "NoDepth" fs)) : F__law_kinds [.obj k] S = some (.str "NoDepth", S) := by
  have key : Wp (F__law_kinds [.obj k] S) fun d S' => d = .str "NoDepth" ∧ S' = S := by
    unfold F__law_kinds
    rw [w_run]
    unfold B__law_kinds
    have i_NoBase := fun e => isV_eq (t := row_NoBase) (b := false) hk (by kernel_rfl) e
    have i_NoText := fun e => isV_eq (t := row_NoText) (b := false) hk (by kernel_rfl) e
    have i_NoRows := fun e => isV_eq (t := row_NoRows) (b := false) hk (by kernel_rfl) e
    have i_NoStand := fun e => isV_eq (t := row_NoStand) (b := false) hk (by kernel_rfl) e
    have i_NoName := fun e => isV_eq (t := row_NoName) (b := false) hk (by kernel_rfl) e
    have i_NoNumber := fun e => isV_eq (t := row_NoNumber) (b := false) hk (by kernel_rfl) e
    have i_NoHistory := fun e => isV_eq (t := row_NoHistory) (b := false) hk (by kernel_rfl) e
    have i_NoCommand := fun e => isV_eq (t := row_NoCommand) (b := false) hk (by kernel_rfl) e
    have i_NoPart := fun e => isV_eq (t := row_NoPart) (b := false) hk (by kernel_rfl) e
    have i_NoRun := fun e => isV_eq (t := row_NoRun) (b := false) hk (by kernel_rfl) e
    have i_NoBranch := fun e => isV_eq (t := row_NoBranch) (b := false) hk (by kernel_rfl) e
    have i_NoCell := fun e => isV_eq (t := row_NoCell) (b := false) hk (by kernel_rfl) e
    have i_NoDepth := fun e => isV_eq (t := row_NoDepth) (b := true) hk (by kernel_rfl) e
    have i_NoAnswer := fun e => isV_eq (t := row_NoAnswer) (b := false) hk (by kernel_rfl) e
    have i_NotAsked := fun e => isV_eq (t := row_NotAsked) (b := false) hk (by kernel_rfl) e
    have i_Over := fun e => isV_eq (t := row_Over) (b := false) hk (by kernel_rfl) e
    have i_ValueError := fun e => isV_eq (t := row_ValueError) (b := false) hk (by kernel_rfl) e
    have i_KeyError := fun e => isV_eq (t := row_KeyError) (b := false) hk (by kernel_rfl) e
    have i_IndexError := fun e => isV_eq (t := row_IndexError) (b := true) hk (by kernel_rfl) e
    have i_LookupError := fun e => isV_eq (t := row_LookupError) (b := true) hk (by kernel_rfl) e
    have i_RuntimeError := fun e => isV_eq (t := row_RuntimeError) (b := false) hk (by kernel_rfl) e
    have s3 : startD 7 [.obj k] = [some (.obj k), none, none, none, none, none, none] := rfl
    rw [s3]
    simp only [wz0, Nat.reduceAdd, Nat.reduceLeDiff]
    simp only [i_NoBase, i_NoText, i_NoRows, i_NoStand, i_NoName, i_NoNumber, i_NoHistory, i_NoCommand, i_NoPart, i_NoRun, i_NoBranch, i_NoCell, i_NoDepth, i_NoAnswer, i_NotAsked, i_Over, i_ValueError, i_KeyError, i_IndexError, i_LookupError, i_RuntimeError, wp_some, gAddL_lst, List.length_cons, List.length_nil, Nat.reduceAdd, Nat.reduceLeDiff, if_true, List.cons_append, List.nil_append, List.set_cons_succ, List.set_cons_zero, List.getElem?_cons_succ, List.getElem?_cons_zero]
    refine ⟨rfl, ?_⟩
    rw [show gCntB _ _ S = some (.int 1, S) from rfl, wp_some]
    rw [show gEq true (.int 1) (.int 1) S = some (.bl false, S) from by kernel_rfl, wp_some]
    refine ⟨false, rfl, ?_⟩
    rw [if_neg Bool.false_ne_true]
    refine ⟨rfl, ?_⟩
    rw [show gIdxB _ _ S = some (.int 12, S) from rfl, wp_some, (due_eq S).1, wp_some, (due_eq S).2.1, wp_some]
    rw [gAddL_lst, if_pos (by simp), wp_some, (due_eq S).2.2, wp_some, gAddL_lst, if_pos (by simp), wp_some, gAddL_lst, if_pos (by simp), wp_some]
    rw [show fStr _ _ S = some ([.str "0", .str "0", .str "1", .str "1", .str "0"], S) from by kernel_rfl, wp_some]
    refine ⟨by decide, ?_⟩
    rw [show fLcL _ _ _ _ _ S = some ([.bl false, .bl false, .bl true, .bl true, .bl false], S) from by kernel_rfl, wp_some]
    rw [show gEq false _ _ S = some (.bl true, S) from by kernel_rfl, wp_some]
    refine ⟨true, rfl, ?_⟩
    rw [if_pos rfl]
    rw [show gIdx _ (.int 12) S = some (.str "NoDepth", S) from by kernel_rfl, wp_some, gc_same rfl, wp_some]
    exact ⟨rfl, rfl⟩
  obtain ⟨d, S', e, rfl, rfl⟩ := key
  exact e
theorem kinds_NoAnswer {k : Nat} {fs : List (Str × D)} {S : Sto} (hk : S[k]? = some (.exc "NoAnswer" fs)) : F__law_kinds [.obj k] S = some (.str "NoAnswer", S) := by
  have key : Wp (F__law_kinds [.obj k] S) fun d S' => d = .str "NoAnswer" ∧ S' = S := by
    unfold F__law_kinds
    rw [w_run]
    unfold B__law_kinds
    have i_NoBase := fun e => isV_eq (t := row_NoBase) (b := false) hk (by kernel_rfl) e
    have i_NoText := fun e => isV_eq (t := row_NoText) (b := false) hk (by kernel_rfl) e
    have i_NoRows := fun e => isV_eq (t := row_NoRows) (b := false) hk (by kernel_rfl) e
    have i_NoStand := fun e => isV_eq (t := row_NoStand) (b := false) hk (by kernel_rfl) e
    have i_NoName := fun e => isV_eq (t := row_NoName) (b := false) hk (by kernel_rfl) e
    have i_NoNumber := fun e => isV_eq (t := row_NoNumber) (b := false) hk (by kernel_rfl) e
    have i_NoHistory := fun e => isV_eq (t := row_NoHistory) (b := false) hk (by kernel_rfl) e
    have i_NoCommand := fun e => isV_eq (t := row_NoCommand) (b := false) hk (by kernel_rfl) e
    have i_NoPart := fun e => isV_eq (t := row_NoPart) (b := false) hk (by kernel_rfl) e
    have i_NoRun := fun e => isV_eq (t := row_NoRun) (b := false) hk (by kernel_rfl) e
    have i_NoBranch := fun e => isV_eq (t := row_NoBranch) (b := false) hk (by kernel_rfl) e
    have i_NoCell := fun e => isV_eq (t := row_NoCell) (b := false) hk (by kernel_rfl) e
    have i_NoDepth := fun e => isV_eq (t := row_NoDepth) (b := false) hk (by kernel_rfl) e
    have i_NoAnswer := fun e => isV_eq (t := row_NoAnswer) (b := true) hk (by kernel_rfl) e
    have i_NotAsked := fun e => isV_eq (t := row_NotAsked) (b := false) hk (by kernel_rfl) e
    have i_Over := fun e => isV_eq (t := row_Over) (b := false) hk (by kernel_rfl) e
    have i_ValueError := fun e => isV_eq (t := row_ValueError) (b := false) hk (by kernel_rfl) e
    have i_KeyError := fun e => isV_eq (t := row_KeyError) (b := false) hk (by kernel_rfl) e
    have i_IndexError := fun e => isV_eq (t := row_IndexError) (b := false) hk (by kernel_rfl) e
    have i_LookupError := fun e => isV_eq (t := row_LookupError) (b := true) hk (by kernel_rfl) e
    have i_RuntimeError := fun e => isV_eq (t := row_RuntimeError) (b := false) hk (by kernel_rfl) e
    have s3 : startD 7 [.obj k] = [some (.obj k), none, none, none, none, none, none] := rfl
    rw [s3]
    simp only [wz0, Nat.reduceAdd, Nat.reduceLeDiff]
    simp only [i_NoBase, i_NoText, i_NoRows, i_NoStand, i_NoName, i_NoNumber, i_NoHistory, i_NoCommand, i_NoPart, i_NoRun, i_NoBranch, i_NoCell, i_NoDepth, i_NoAnswer, i_NotAsked, i_Over, i_ValueError, i_KeyError, i_IndexError, i_LookupError, i_RuntimeError, wp_some, gAddL_lst, List.length_cons, List.length_nil, Nat.reduceAdd, Nat.reduceLeDiff, if_true, List.cons_append, List.nil_append, List.set_cons_succ, List.set_cons_zero, List.getElem?_cons_succ, List.getElem?_cons_zero]
    refine ⟨rfl, ?_⟩
    rw [show gCntB _ _ S = some (.int 1, S) from rfl, wp_some]
    rw [show gEq true (.int 1) (.int 1) S = some (.bl false, S) from by kernel_rfl, wp_some]
    refine ⟨false, rfl, ?_⟩
    rw [if_neg Bool.false_ne_true]
    refine ⟨rfl, ?_⟩
    rw [show gIdxB _ _ S = some (.int 13, S) from rfl, wp_some, (due_eq S).1, wp_some, (due_eq S).2.1, wp_some]
    rw [gAddL_lst, if_pos (by simp), wp_some, (due_eq S).2.2, wp_some, gAddL_lst, if_pos (by simp), wp_some, gAddL_lst, if_pos (by simp), wp_some]
    rw [show fStr _ _ S = some ([.str "0", .str "0", .str "0", .str "1", .str "0"], S) from by kernel_rfl, wp_some]
    refine ⟨by decide, ?_⟩
    rw [show fLcL _ _ _ _ _ S = some ([.bl false, .bl false, .bl false, .bl true, .bl false], S) from by kernel_rfl, wp_some]
    rw [show gEq false _ _ S = some (.bl true, S) from by kernel_rfl, wp_some]
    refine ⟨true, rfl, ?_⟩
    rw [if_pos rfl]
    rw [show gIdx _ (.int 13) S = some (.str "NoAnswer", S) from by kernel_rfl, wp_some, gc_same rfl, wp_some]
    exact ⟨rfl, rfl⟩
  obtain ⟨d, S', e, rfl, rfl⟩ := key
  exact e
theorem kinds_NotAsked {k : Nat} {fs : List (Str × D)} {S : Sto} (hk : S[k]? = some (.exc "NotAsked" fs)) : F__law_kinds [.obj k] S = some (.str "NotAsked", S) := by
  have key : Wp (F__law_kinds [.obj k] S) fun d S' => d = .str "NotAsked" ∧ S' = S := by
    unfold F__law_kinds
    rw [w_run]
    unfold B__law_kinds
    have i_NoBase := fun e => isV_eq (t := row_NoBase) (b := false) hk (by kernel_rfl) e
    have i_NoText := fun e => isV_eq (t := row_NoText) (b := false) hk (by kernel_rfl) e
    have i_NoRows := fun e => isV_eq (t := row_NoRows) (b := false) hk (by kernel_rfl) e
    have i_NoStand := fun e => isV_eq (t := row_NoStand) (b := false) hk (by kernel_rfl) e
    have i_NoName := fun e => isV_eq (t := row_NoName) (b := false) hk (by kernel_rfl) e
    have i_NoNumber := fun e => isV_eq (t := row_NoNumber) (b := false) hk (by kernel_rfl) e
    have i_NoHistory := fun e => isV_eq (t := row_NoHistory) (b := false) hk (by kernel_rfl) e
    have i_NoCommand := fun e => isV_eq (t := row_NoCommand) (b := false) hk (by kernel_rfl) e
    have i_NoPart := fun e => isV_eq (t := row_NoPart) (b := false) hk (by kernel_rfl) e
    have i_NoRun := fun e => isV_eq (t := row_NoRun) (b := false) hk (by kernel_rfl) e
    have i_NoBranch := fun e => isV_eq (t := row_NoBranch) (b := false) hk (by kernel_rfl) e
    have i_NoCell := fun e => isV_eq (t := row_NoCell) (b := false) hk (by kernel_rfl) e
    have i_NoDepth := fun e => isV_eq (t := row_NoDepth) (b := false) hk (by kernel_rfl) e
    have i_NoAnswer := fun e => isV_eq (t := row_NoAnswer) (b := false) hk (by kernel_rfl) e
    have i_NotAsked := fun e => isV_eq (t := row_NotAsked) (b := true) hk (by kernel_rfl) e
    have i_Over := fun e => isV_eq (t := row_Over) (b := false) hk (by kernel_rfl) e
    have i_ValueError := fun e => isV_eq (t := row_ValueError) (b := false) hk (by kernel_rfl) e
    have i_KeyError := fun e => isV_eq (t := row_KeyError) (b := false) hk (by kernel_rfl) e
    have i_IndexError := fun e => isV_eq (t := row_IndexError) (b := false) hk (by kernel_rfl) e
    have i_LookupError := fun e => isV_eq (t := row_LookupError) (b := false) hk (by kernel_rfl) e
    have i_RuntimeError := fun e => isV_eq (t := row_RuntimeError) (b := true) hk (by kernel_rfl) e
    have s3 : startD 7 [.obj k] = [some (.obj k), none, none, none, none, none, none] := rfl
    rw [s3]
    simp only [wz0, Nat.reduceAdd, Nat.reduceLeDiff]
    simp only [i_NoBase, i_NoText, i_NoRows, i_NoStand, i_NoName, i_NoNumber, i_NoHistory, i_NoCommand, i_NoPart, i_NoRun, i_NoBranch, i_NoCell, i_NoDepth, i_NoAnswer, i_NotAsked, i_Over, i_ValueError, i_KeyError, i_IndexError, i_LookupError, i_RuntimeError, wp_some, gAddL_lst, List.length_cons, List.length_nil, Nat.reduceAdd, Nat.reduceLeDiff, if_true, List.cons_append, List.nil_append, List.set_cons_succ, List.set_cons_zero, List.getElem?_cons_succ, List.getElem?_cons_zero]
    refine ⟨rfl, ?_⟩
    rw [show gCntB _ _ S = some (.int 1, S) from rfl, wp_some]
    rw [show gEq true (.int 1) (.int 1) S = some (.bl false, S) from by kernel_rfl, wp_some]
    refine ⟨false, rfl, ?_⟩
    rw [if_neg Bool.false_ne_true]
    refine ⟨rfl, ?_⟩
    rw [show gIdxB _ _ S = some (.int 14, S) from rfl, wp_some, (due_eq S).1, wp_some, (due_eq S).2.1, wp_some]
    rw [gAddL_lst, if_pos (by simp), wp_some, (due_eq S).2.2, wp_some, gAddL_lst, if_pos (by simp), wp_some, gAddL_lst, if_pos (by simp), wp_some]
    rw [show fStr _ _ S = some ([.str "0", .str "0", .str "0", .str "0", .str "1"], S) from by kernel_rfl, wp_some]
    refine ⟨by decide, ?_⟩
    rw [show fLcL _ _ _ _ _ S = some ([.bl false, .bl false, .bl false, .bl false, .bl true], S) from by kernel_rfl, wp_some]
    rw [show gEq false _ _ S = some (.bl true, S) from by kernel_rfl, wp_some]
    refine ⟨true, rfl, ?_⟩
    rw [if_pos rfl]
    rw [show gIdx _ (.int 14) S = some (.str "NotAsked", S) from by kernel_rfl, wp_some, gc_same rfl, wp_some]
    exact ⟨rfl, rfl⟩
  obtain ⟨d, S', e, rfl, rfl⟩ := key
  exact e
theorem kinds_Over {k : Nat} {fs : List (Str × D)} {S : Sto} (hk : S[k]? = some (.exc "Over" fs)) : F__law_kinds [.obj k] S = some (.str "Over", S) := by
  have key : Wp (F__law_kinds [.obj k] S) fun d S' => d = .str "Over" ∧ S' = S := by
    unfold F__law_kinds
    rw [w_run]
    unfold B__law_kinds
    have i_NoBase := fun e => isV_eq (t := row_NoBase) (b := false) hk (by kernel_rfl) e
    have i_NoText := fun e => isV_eq (t := row_NoText) (b := false) hk (by kernel_rfl) e
    have i_NoRows := fun e => isV_eq (t := row_NoRows) (b := false) hk (by kernel_rfl) e
    have i_NoStand := fun e => isV_eq (t := row_NoStand) (b := false) hk (by kernel_rfl) e
    have i_NoName := fun e => isV_eq (t := row_NoName) (b := false) hk (by kernel_rfl) e
    have i_NoNumber := fun e => isV_eq (t := row_NoNumber) (b := false) hk (by kernel_rfl) e
    have i_NoHistory := fun e => isV_eq (t := row_NoHistory) (b := false) hk (by kernel_rfl) e
    have i_NoCommand := fun e => isV_eq (t := row_NoCommand) (b := false) hk (by kernel_rfl) e
    have i_NoPart := fun e => isV_eq (t := row_NoPart) (b := false) hk (by kernel_rfl) e
    have i_NoRun := fun e => isV_eq (t := row_NoRun) (b := false) hk (by kernel_rfl) e
    have i_NoBranch := fun e => isV_eq (t := row_NoBranch) (b := false) hk (by kernel_rfl) e
    have i_NoCell := fun e => isV_eq (t := row_NoCell) (b := false) hk (by kernel_rfl) e
    have i_NoDepth := fun e => isV_eq (t := row_NoDepth) (b := false) hk (by kernel_rfl) e
    have i_NoAnswer := fun e => isV_eq (t := row_NoAnswer) (b := false) hk (by kernel_rfl) e
    have i_NotAsked := fun e => isV_eq (t := row_NotAsked) (b := false) hk (by kernel_rfl) e
    have i_Over := fun e => isV_eq (t := row_Over) (b := true) hk (by kernel_rfl) e
    have i_ValueError := fun e => isV_eq (t := row_ValueError) (b := false) hk (by kernel_rfl) e
    have i_KeyError := fun e => isV_eq (t := row_KeyError) (b := false) hk (by kernel_rfl) e
    have i_IndexError := fun e => isV_eq (t := row_IndexError) (b := false) hk (by kernel_rfl) e
    have i_LookupError := fun e => isV_eq (t := row_LookupError) (b := false) hk (by kernel_rfl) e
    have i_RuntimeError := fun e => isV_eq (t := row_RuntimeError) (b := true) hk (by kernel_rfl) e
    have s3 : startD 7 [.obj k] = [some (.obj k), none, none, none, none, none, none] := rfl
    rw [s3]
    simp only [wz0, Nat.reduceAdd, Nat.reduceLeDiff]
    simp only [i_NoBase, i_NoText, i_NoRows, i_NoStand, i_NoName, i_NoNumber, i_NoHistory, i_NoCommand, i_NoPart, i_NoRun, i_NoBranch, i_NoCell, i_NoDepth, i_NoAnswer, i_NotAsked, i_Over, i_ValueError, i_KeyError, i_IndexError, i_LookupError, i_RuntimeError, wp_some, gAddL_lst, List.length_cons, List.length_nil, Nat.reduceAdd, Nat.reduceLeDiff, if_true, List.cons_append, List.nil_append, List.set_cons_succ, List.set_cons_zero, List.getElem?_cons_succ, List.getElem?_cons_zero]
    refine ⟨rfl, ?_⟩
    rw [show gCntB _ _ S = some (.int 1, S) from rfl, wp_some]
    rw [show gEq true (.int 1) (.int 1) S = some (.bl false, S) from by kernel_rfl, wp_some]
    refine ⟨false, rfl, ?_⟩
    rw [if_neg Bool.false_ne_true]
    refine ⟨rfl, ?_⟩
    rw [show gIdxB _ _ S = some (.int 15, S) from rfl, wp_some, (due_eq S).1, wp_some, (due_eq S).2.1, wp_some]
    rw [gAddL_lst, if_pos (by simp), wp_some, (due_eq S).2.2, wp_some, gAddL_lst, if_pos (by simp), wp_some, gAddL_lst, if_pos (by simp), wp_some]
    rw [show fStr _ _ S = some ([.str "0", .str "0", .str "0", .str "0", .str "1"], S) from by kernel_rfl, wp_some]
    refine ⟨by decide, ?_⟩
    rw [show fLcL _ _ _ _ _ S = some ([.bl false, .bl false, .bl false, .bl false, .bl true], S) from by kernel_rfl, wp_some]
    rw [show gEq false _ _ S = some (.bl true, S) from by kernel_rfl, wp_some]
    refine ⟨true, rfl, ?_⟩
    rw [if_pos rfl]
    rw [show gIdx _ (.int 15) S = some (.str "Over", S) from by kernel_rfl, wp_some, gc_same rfl, wp_some]
    exact ⟨rfl, rfl⟩
  obtain ⟨d, S', e, rfl, rfl⟩ := key
  exact e
end J

set_option autoImplicit false
namespace J
open PySem L2
theorem fldV_eq {xs : List Str} {f x : Str} {k : Nat} {d : D} {S : Sto} (hk : S[k]? = some (.exc x [(f, d)])) (hx : x ∈ xs) (e : Env) : fFldV xs f (fVar 0) (some (.obj k) :: e) S = some (d, S) := by
  unfold fFldV
  simp only [fVar_eq, List.getElem?_cons_zero, hk]
  rw [if_pos ⟨hx, trivial⟩]

theorem field_NoBase {k : Nat} {d : D} {S : Sto} (hk : S[k]? = some (.exc "NoBase" [("base", d)])) (hd : d.und 0 = true) : F__law_field [.obj k, .str "NoBase"] S = some (d, S) := by
  have key : Wp (F__law_field [.obj k, .str "NoBase"] S) fun e S' => e = d ∧ S' = S := by
    unfold F__law_field
    rw [w_run]
    unfold B__law_field
    have s3 : startD 2 [.obj k, .str "NoBase"] = [some (.obj k), some (.str "NoBase")] := rfl
    rw [s3]
    simp only [wz0, Nat.reduceAdd, Nat.reduceLeDiff]
    rw [show gEq false (.str "NoBase") (.str "NoBase") S = some (.bl true, S) from by kernel_rfl, wp_some]
    refine ⟨true, rfl, ?_⟩
    rw [if_pos rfl]
    rw [fldV_eq hk (by decide), wp_some, gc_same hd, wp_some]
    exact ⟨rfl, rfl⟩
  obtain ⟨e, S', h, rfl, rfl⟩ := key
  exact h
theorem field_NoText {k : Nat} {d : D} {S : Sto} (hk : S[k]? = some (.exc "NoText" [("row", d)])) (hd : d.und 0 = true) : F__law_field [.obj k, .str "NoText"] S = some (d, S) := by
  have key : Wp (F__law_field [.obj k, .str "NoText"] S) fun e S' => e = d ∧ S' = S := by
    unfold F__law_field
    rw [w_run]
    unfold B__law_field
    have s3 : startD 2 [.obj k, .str "NoText"] = [some (.obj k), some (.str "NoText")] := rfl
    rw [s3]
    simp only [wz0, Nat.reduceAdd, Nat.reduceLeDiff]
    rw [show gEq false (.str "NoText") (.str "NoBase") S = some (.bl false, S) from by kernel_rfl, wp_some]
    refine ⟨false, rfl, ?_⟩
    rw [if_neg Bool.false_ne_true]
    rw [show gEq false (.str "NoText") (.str "NoCell") S = some (.bl false, S) from by kernel_rfl, wp_some]
    refine ⟨false, rfl, ?_⟩
    rw [if_neg Bool.false_ne_true]
    rw [show gEq false (.str "NoText") (.str "NoDepth") S = some (.bl false, S) from by kernel_rfl, wp_some]
    refine ⟨false, rfl, ?_⟩
    rw [if_neg Bool.false_ne_true]
    rw [show gIn false (.str "NoText") (.tup [.str "NoText", .str "NoHistory", .str "NoBranch"]) S = some (.bl true, S) from by kernel_rfl, wp_some]
    refine ⟨true, rfl, ?_⟩
    rw [if_pos rfl]
    rw [show gEq false (.str "NoText") (.str "NoText") S = some (.bl true, S) from by kernel_rfl, wp_some]
    refine ⟨true, rfl, ?_⟩
    rw [if_pos rfl]
    rw [fldV_eq hk (by decide), wp_some, gc_same hd, wp_some]
    exact ⟨rfl, rfl⟩
  obtain ⟨e, S', h, rfl, rfl⟩ := key
  exact h
theorem field_NoName {k : Nat} {d : D} {S : Sto} (hk : S[k]? = some (.exc "NoName" [("name", d)])) (hd : d.und 0 = true) : F__law_field [.obj k, .str "NoName"] S = some (d, S) := by
  have key : Wp (F__law_field [.obj k, .str "NoName"] S) fun e S' => e = d ∧ S' = S := by
    unfold F__law_field
    rw [w_run]
    unfold B__law_field
    have s3 : startD 2 [.obj k, .str "NoName"] = [some (.obj k), some (.str "NoName")] := rfl
    rw [s3]
    simp only [wz0, Nat.reduceAdd, Nat.reduceLeDiff]
    rw [show gEq false (.str "NoName") (.str "NoBase") S = some (.bl false, S) from by kernel_rfl, wp_some]
    refine ⟨false, rfl, ?_⟩
    rw [if_neg Bool.false_ne_true]
    rw [show gEq false (.str "NoName") (.str "NoCell") S = some (.bl false, S) from by kernel_rfl, wp_some]
    refine ⟨false, rfl, ?_⟩
    rw [if_neg Bool.false_ne_true]
    rw [show gEq false (.str "NoName") (.str "NoDepth") S = some (.bl false, S) from by kernel_rfl, wp_some]
    refine ⟨false, rfl, ?_⟩
    rw [if_neg Bool.false_ne_true]
    rw [show gIn false (.str "NoName") (.tup [.str "NoText", .str "NoHistory", .str "NoBranch"]) S = some (.bl false, S) from by kernel_rfl, wp_some]
    refine ⟨false, rfl, ?_⟩
    rw [if_neg Bool.false_ne_true]
    rw [show gIn false (.str "NoName") (.tup [.str "NoName", .str "NoPart"]) S = some (.bl true, S) from by kernel_rfl, wp_some]
    refine ⟨true, rfl, ?_⟩
    rw [if_pos rfl]
    rw [fldV_eq hk (by decide), wp_some, gc_same hd, wp_some]
    exact ⟨rfl, rfl⟩
  obtain ⟨e, S', h, rfl, rfl⟩ := key
  exact h
theorem field_NoPart {k : Nat} {d : D} {S : Sto} (hk : S[k]? = some (.exc "NoPart" [("name", d)])) (hd : d.und 0 = true) : F__law_field [.obj k, .str "NoPart"] S = some (d, S) := by
  have key : Wp (F__law_field [.obj k, .str "NoPart"] S) fun e S' => e = d ∧ S' = S := by
    unfold F__law_field
    rw [w_run]
    unfold B__law_field
    have s3 : startD 2 [.obj k, .str "NoPart"] = [some (.obj k), some (.str "NoPart")] := rfl
    rw [s3]
    simp only [wz0, Nat.reduceAdd, Nat.reduceLeDiff]
    rw [show gEq false (.str "NoPart") (.str "NoBase") S = some (.bl false, S) from by kernel_rfl, wp_some]
    refine ⟨false, rfl, ?_⟩
    rw [if_neg Bool.false_ne_true]
    rw [show gEq false (.str "NoPart") (.str "NoCell") S = some (.bl false, S) from by kernel_rfl, wp_some]
    refine ⟨false, rfl, ?_⟩
    rw [if_neg Bool.false_ne_true]
    rw [show gEq false (.str "NoPart") (.str "NoDepth") S = some (.bl false, S) from by kernel_rfl, wp_some]
    refine ⟨false, rfl, ?_⟩
    rw [if_neg Bool.false_ne_true]
    rw [show gIn false (.str "NoPart") (.tup [.str "NoText", .str "NoHistory", .str "NoBranch"]) S = some (.bl false, S) from by kernel_rfl, wp_some]
    refine ⟨false, rfl, ?_⟩
    rw [if_neg Bool.false_ne_true]
    rw [show gIn false (.str "NoPart") (.tup [.str "NoName", .str "NoPart"]) S = some (.bl true, S) from by kernel_rfl, wp_some]
    refine ⟨true, rfl, ?_⟩
    rw [if_pos rfl]
    rw [fldV_eq hk (by decide), wp_some, gc_same hd, wp_some]
    exact ⟨rfl, rfl⟩
  obtain ⟨e, S', h, rfl, rfl⟩ := key
  exact h
theorem field_NoNumber {k : Nat} {d : D} {S : Sto} (hk : S[k]? = some (.exc "NoNumber" [("number", d)])) (hd : d.und 0 = true) : F__law_field [.obj k, .str "NoNumber"] S = some (d, S) := by
  have key : Wp (F__law_field [.obj k, .str "NoNumber"] S) fun e S' => e = d ∧ S' = S := by
    unfold F__law_field
    rw [w_run]
    unfold B__law_field
    have s3 : startD 2 [.obj k, .str "NoNumber"] = [some (.obj k), some (.str "NoNumber")] := rfl
    rw [s3]
    simp only [wz0, Nat.reduceAdd, Nat.reduceLeDiff]
    rw [show gEq false (.str "NoNumber") (.str "NoBase") S = some (.bl false, S) from by kernel_rfl, wp_some]
    refine ⟨false, rfl, ?_⟩
    rw [if_neg Bool.false_ne_true]
    rw [show gEq false (.str "NoNumber") (.str "NoCell") S = some (.bl false, S) from by kernel_rfl, wp_some]
    refine ⟨false, rfl, ?_⟩
    rw [if_neg Bool.false_ne_true]
    rw [show gEq false (.str "NoNumber") (.str "NoDepth") S = some (.bl false, S) from by kernel_rfl, wp_some]
    refine ⟨false, rfl, ?_⟩
    rw [if_neg Bool.false_ne_true]
    rw [show gIn false (.str "NoNumber") (.tup [.str "NoText", .str "NoHistory", .str "NoBranch"]) S = some (.bl false, S) from by kernel_rfl, wp_some]
    refine ⟨false, rfl, ?_⟩
    rw [if_neg Bool.false_ne_true]
    rw [show gIn false (.str "NoNumber") (.tup [.str "NoName", .str "NoPart"]) S = some (.bl false, S) from by kernel_rfl, wp_some]
    refine ⟨false, rfl, ?_⟩
    rw [if_neg Bool.false_ne_true]
    rw [show gEq false (.str "NoNumber") (.str "NoNumber") S = some (.bl true, S) from by kernel_rfl, wp_some]
    refine ⟨true, rfl, ?_⟩
    rw [if_pos rfl]
    rw [fldV_eq hk (by decide), wp_some, gc_same hd, wp_some]
    exact ⟨rfl, rfl⟩
  obtain ⟨e, S', h, rfl, rfl⟩ := key
  exact h
theorem field_NoHistory {k : Nat} {d : D} {S : Sto} (hk : S[k]? = some (.exc "NoHistory" [("at", d)])) (hd : d.und 0 = true) : F__law_field [.obj k, .str "NoHistory"] S = some (d, S) := by
  have key : Wp (F__law_field [.obj k, .str "NoHistory"] S) fun e S' => e = d ∧ S' = S := by
    unfold F__law_field
    rw [w_run]
    unfold B__law_field
    have s3 : startD 2 [.obj k, .str "NoHistory"] = [some (.obj k), some (.str "NoHistory")] := rfl
    rw [s3]
    simp only [wz0, Nat.reduceAdd, Nat.reduceLeDiff]
    rw [show gEq false (.str "NoHistory") (.str "NoBase") S = some (.bl false, S) from by kernel_rfl, wp_some]
    refine ⟨false, rfl, ?_⟩
    rw [if_neg Bool.false_ne_true]
    rw [show gEq false (.str "NoHistory") (.str "NoCell") S = some (.bl false, S) from by kernel_rfl, wp_some]
    refine ⟨false, rfl, ?_⟩
    rw [if_neg Bool.false_ne_true]
    rw [show gEq false (.str "NoHistory") (.str "NoDepth") S = some (.bl false, S) from by kernel_rfl, wp_some]
    refine ⟨false, rfl, ?_⟩
    rw [if_neg Bool.false_ne_true]
    rw [show gIn false (.str "NoHistory") (.tup [.str "NoText", .str "NoHistory", .str "NoBranch"]) S = some (.bl true, S) from by kernel_rfl, wp_some]
    refine ⟨true, rfl, ?_⟩
    rw [if_pos rfl]
    rw [show gEq false (.str "NoHistory") (.str "NoText") S = some (.bl false, S) from by kernel_rfl, wp_some]
    refine ⟨false, rfl, ?_⟩
    rw [if_neg Bool.false_ne_true]
    rw [fldV_eq hk (by decide), wp_some, gc_same hd, wp_some]
    exact ⟨rfl, rfl⟩
  obtain ⟨e, S', h, rfl, rfl⟩ := key
  exact h
theorem field_NoRun {k : Nat} {d : D} {S : Sto} (hk : S[k]? = some (.exc "NoRun" [("run", d)])) (hd : d.und 0 = true) : F__law_field [.obj k, .str "NoRun"] S = some (d, S) := by
  have key : Wp (F__law_field [.obj k, .str "NoRun"] S) fun e S' => e = d ∧ S' = S := by
    unfold F__law_field
    rw [w_run]
    unfold B__law_field
    have s3 : startD 2 [.obj k, .str "NoRun"] = [some (.obj k), some (.str "NoRun")] := rfl
    rw [s3]
    simp only [wz0, Nat.reduceAdd, Nat.reduceLeDiff]
    rw [show gEq false (.str "NoRun") (.str "NoBase") S = some (.bl false, S) from by kernel_rfl, wp_some]
    refine ⟨false, rfl, ?_⟩
    rw [if_neg Bool.false_ne_true]
    rw [show gEq false (.str "NoRun") (.str "NoCell") S = some (.bl false, S) from by kernel_rfl, wp_some]
    refine ⟨false, rfl, ?_⟩
    rw [if_neg Bool.false_ne_true]
    rw [show gEq false (.str "NoRun") (.str "NoDepth") S = some (.bl false, S) from by kernel_rfl, wp_some]
    refine ⟨false, rfl, ?_⟩
    rw [if_neg Bool.false_ne_true]
    rw [show gIn false (.str "NoRun") (.tup [.str "NoText", .str "NoHistory", .str "NoBranch"]) S = some (.bl false, S) from by kernel_rfl, wp_some]
    refine ⟨false, rfl, ?_⟩
    rw [if_neg Bool.false_ne_true]
    rw [show gIn false (.str "NoRun") (.tup [.str "NoName", .str "NoPart"]) S = some (.bl false, S) from by kernel_rfl, wp_some]
    refine ⟨false, rfl, ?_⟩
    rw [if_neg Bool.false_ne_true]
    rw [show gEq false (.str "NoRun") (.str "NoNumber") S = some (.bl false, S) from by kernel_rfl, wp_some]
    refine ⟨false, rfl, ?_⟩
    rw [if_neg Bool.false_ne_true]
    rw [fldV_eq hk (by decide), wp_some, gc_same hd, wp_some]
    exact ⟨rfl, rfl⟩
  obtain ⟨e, S', h, rfl, rfl⟩ := key
  exact h
theorem field_NoBranch {k : Nat} {d : D} {S : Sto} (hk : S[k]? = some (.exc "NoBranch" [("at", d)])) (hd : d.und 0 = true) : F__law_field [.obj k, .str "NoBranch"] S = some (d, S) := by
  have key : Wp (F__law_field [.obj k, .str "NoBranch"] S) fun e S' => e = d ∧ S' = S := by
    unfold F__law_field
    rw [w_run]
    unfold B__law_field
    have s3 : startD 2 [.obj k, .str "NoBranch"] = [some (.obj k), some (.str "NoBranch")] := rfl
    rw [s3]
    simp only [wz0, Nat.reduceAdd, Nat.reduceLeDiff]
    rw [show gEq false (.str "NoBranch") (.str "NoBase") S = some (.bl false, S) from by kernel_rfl, wp_some]
    refine ⟨false, rfl, ?_⟩
    rw [if_neg Bool.false_ne_true]
    rw [show gEq false (.str "NoBranch") (.str "NoCell") S = some (.bl false, S) from by kernel_rfl, wp_some]
    refine ⟨false, rfl, ?_⟩
    rw [if_neg Bool.false_ne_true]
    rw [show gEq false (.str "NoBranch") (.str "NoDepth") S = some (.bl false, S) from by kernel_rfl, wp_some]
    refine ⟨false, rfl, ?_⟩
    rw [if_neg Bool.false_ne_true]
    rw [show gIn false (.str "NoBranch") (.tup [.str "NoText", .str "NoHistory", .str "NoBranch"]) S = some (.bl true, S) from by kernel_rfl, wp_some]
    refine ⟨true, rfl, ?_⟩
    rw [if_pos rfl]
    rw [show gEq false (.str "NoBranch") (.str "NoText") S = some (.bl false, S) from by kernel_rfl, wp_some]
    refine ⟨false, rfl, ?_⟩
    rw [if_neg Bool.false_ne_true]
    rw [fldV_eq hk (by decide), wp_some, gc_same hd, wp_some]
    exact ⟨rfl, rfl⟩
  obtain ⟨e, S', h, rfl, rfl⟩ := key
  exact h
theorem field_NoCell {k : Nat} {d : D} {S : Sto} (hk : S[k]? = some (.exc "NoCell" [("cell", d)])) (hd : d.und 0 = true) : F__law_field [.obj k, .str "NoCell"] S = some (d, S) := by
  have key : Wp (F__law_field [.obj k, .str "NoCell"] S) fun e S' => e = d ∧ S' = S := by
    unfold F__law_field
    rw [w_run]
    unfold B__law_field
    have s3 : startD 2 [.obj k, .str "NoCell"] = [some (.obj k), some (.str "NoCell")] := rfl
    rw [s3]
    simp only [wz0, Nat.reduceAdd, Nat.reduceLeDiff]
    rw [show gEq false (.str "NoCell") (.str "NoBase") S = some (.bl false, S) from by kernel_rfl, wp_some]
    refine ⟨false, rfl, ?_⟩
    rw [if_neg Bool.false_ne_true]
    rw [show gEq false (.str "NoCell") (.str "NoCell") S = some (.bl true, S) from by kernel_rfl, wp_some]
    refine ⟨true, rfl, ?_⟩
    rw [if_pos rfl]
    rw [fldV_eq hk (by decide), wp_some, gc_same hd, wp_some]
    exact ⟨rfl, rfl⟩
  obtain ⟨e, S', h, rfl, rfl⟩ := key
  exact h
theorem field_NoDepth {k : Nat} {d : D} {S : Sto} (hk : S[k]? = some (.exc "NoDepth" [("depth", d)])) (hd : d.und 0 = true) : F__law_field [.obj k, .str "NoDepth"] S = some (d, S) := by
  have key : Wp (F__law_field [.obj k, .str "NoDepth"] S) fun e S' => e = d ∧ S' = S := by
    unfold F__law_field
    rw [w_run]
    unfold B__law_field
    have s3 : startD 2 [.obj k, .str "NoDepth"] = [some (.obj k), some (.str "NoDepth")] := rfl
    rw [s3]
    simp only [wz0, Nat.reduceAdd, Nat.reduceLeDiff]
    rw [show gEq false (.str "NoDepth") (.str "NoBase") S = some (.bl false, S) from by kernel_rfl, wp_some]
    refine ⟨false, rfl, ?_⟩
    rw [if_neg Bool.false_ne_true]
    rw [show gEq false (.str "NoDepth") (.str "NoCell") S = some (.bl false, S) from by kernel_rfl, wp_some]
    refine ⟨false, rfl, ?_⟩
    rw [if_neg Bool.false_ne_true]
    rw [show gEq false (.str "NoDepth") (.str "NoDepth") S = some (.bl true, S) from by kernel_rfl, wp_some]
    refine ⟨true, rfl, ?_⟩
    rw [if_pos rfl]
    rw [fldV_eq hk (by decide), wp_some, gc_same hd, wp_some]
    exact ⟨rfl, rfl⟩
  obtain ⟨e, S', h, rfl, rfl⟩ := key
  exact h
theorem field_Over {k : Nat} {d : D} {S : Sto} (hk : S[k]? = some (.exc "Over" [("run", d)])) (hd : d.und 0 = true) : F__law_field [.obj k, .str "Over"] S = some (d, S) := by
  have key : Wp (F__law_field [.obj k, .str "Over"] S) fun e S' => e = d ∧ S' = S := by
    unfold F__law_field
    rw [w_run]
    unfold B__law_field
    have s3 : startD 2 [.obj k, .str "Over"] = [some (.obj k), some (.str "Over")] := rfl
    rw [s3]
    simp only [wz0, Nat.reduceAdd, Nat.reduceLeDiff]
    rw [show gEq false (.str "Over") (.str "NoBase") S = some (.bl false, S) from by kernel_rfl, wp_some]
    refine ⟨false, rfl, ?_⟩
    rw [if_neg Bool.false_ne_true]
    rw [show gEq false (.str "Over") (.str "NoCell") S = some (.bl false, S) from by kernel_rfl, wp_some]
    refine ⟨false, rfl, ?_⟩
    rw [if_neg Bool.false_ne_true]
    rw [show gEq false (.str "Over") (.str "NoDepth") S = some (.bl false, S) from by kernel_rfl, wp_some]
    refine ⟨false, rfl, ?_⟩
    rw [if_neg Bool.false_ne_true]
    rw [show gIn false (.str "Over") (.tup [.str "NoText", .str "NoHistory", .str "NoBranch"]) S = some (.bl false, S) from by kernel_rfl, wp_some]
    refine ⟨false, rfl, ?_⟩
    rw [if_neg Bool.false_ne_true]
    rw [show gIn false (.str "Over") (.tup [.str "NoName", .str "NoPart"]) S = some (.bl false, S) from by kernel_rfl, wp_some]
    refine ⟨false, rfl, ?_⟩
    rw [if_neg Bool.false_ne_true]
    rw [show gEq false (.str "Over") (.str "NoNumber") S = some (.bl false, S) from by kernel_rfl, wp_some]
    refine ⟨false, rfl, ?_⟩
    rw [if_neg Bool.false_ne_true]
    rw [fldV_eq hk (by decide), wp_some, gc_same hd, wp_some]
    exact ⟨rfl, rfl⟩
  obtain ⟨e, S', h, rfl, rfl⟩ := key
  exact h
theorem field_NoAnswer {k : Nat} {d : D} {S : Sto} (hk : S[k]? = some (.exc "NoAnswer" [("run", d)])) (hd : d.und 0 = true) : F__law_field [.obj k, .str "NoAnswer"] S = some (d, S) := by
  have key : Wp (F__law_field [.obj k, .str "NoAnswer"] S) fun e S' => e = d ∧ S' = S := by
    unfold F__law_field
    rw [w_run]
    unfold B__law_field
    have s3 : startD 2 [.obj k, .str "NoAnswer"] = [some (.obj k), some (.str "NoAnswer")] := rfl
    rw [s3]
    simp only [wz0, Nat.reduceAdd, Nat.reduceLeDiff]
    rw [show gEq false (.str "NoAnswer") (.str "NoBase") S = some (.bl false, S) from by kernel_rfl, wp_some]
    refine ⟨false, rfl, ?_⟩
    rw [if_neg Bool.false_ne_true]
    rw [show gEq false (.str "NoAnswer") (.str "NoCell") S = some (.bl false, S) from by kernel_rfl, wp_some]
    refine ⟨false, rfl, ?_⟩
    rw [if_neg Bool.false_ne_true]
    rw [show gEq false (.str "NoAnswer") (.str "NoDepth") S = some (.bl false, S) from by kernel_rfl, wp_some]
    refine ⟨false, rfl, ?_⟩
    rw [if_neg Bool.false_ne_true]
    rw [show gIn false (.str "NoAnswer") (.tup [.str "NoText", .str "NoHistory", .str "NoBranch"]) S = some (.bl false, S) from by kernel_rfl, wp_some]
    refine ⟨false, rfl, ?_⟩
    rw [if_neg Bool.false_ne_true]
    rw [show gIn false (.str "NoAnswer") (.tup [.str "NoName", .str "NoPart"]) S = some (.bl false, S) from by kernel_rfl, wp_some]
    refine ⟨false, rfl, ?_⟩
    rw [if_neg Bool.false_ne_true]
    rw [show gEq false (.str "NoAnswer") (.str "NoNumber") S = some (.bl false, S) from by kernel_rfl, wp_some]
    refine ⟨false, rfl, ?_⟩
    rw [if_neg Bool.false_ne_true]
    rw [fldV_eq hk (by decide), wp_some, gc_same hd, wp_some]
    exact ⟨rfl, rfl⟩
  obtain ⟨e, S', h, rfl, rfl⟩ := key
  exact h
theorem field_NotAsked {k : Nat} {d : D} {S : Sto} (hk : S[k]? = some (.exc "NotAsked" [("run", d)])) (hd : d.und 0 = true) : F__law_field [.obj k, .str "NotAsked"] S = some (d, S) := by
  have key : Wp (F__law_field [.obj k, .str "NotAsked"] S) fun e S' => e = d ∧ S' = S := by
    unfold F__law_field
    rw [w_run]
    unfold B__law_field
    have s3 : startD 2 [.obj k, .str "NotAsked"] = [some (.obj k), some (.str "NotAsked")] := rfl
    rw [s3]
    simp only [wz0, Nat.reduceAdd, Nat.reduceLeDiff]
    rw [show gEq false (.str "NotAsked") (.str "NoBase") S = some (.bl false, S) from by kernel_rfl, wp_some]
    refine ⟨false, rfl, ?_⟩
    rw [if_neg Bool.false_ne_true]
    rw [show gEq false (.str "NotAsked") (.str "NoCell") S = some (.bl false, S) from by kernel_rfl, wp_some]
    refine ⟨false, rfl, ?_⟩
    rw [if_neg Bool.false_ne_true]
    rw [show gEq false (.str "NotAsked") (.str "NoDepth") S = some (.bl false, S) from by kernel_rfl, wp_some]
    refine ⟨false, rfl, ?_⟩
    rw [if_neg Bool.false_ne_true]
    rw [show gIn false (.str "NotAsked") (.tup [.str "NoText", .str "NoHistory", .str "NoBranch"]) S = some (.bl false, S) from by kernel_rfl, wp_some]
    refine ⟨false, rfl, ?_⟩
    rw [if_neg Bool.false_ne_true]
    rw [show gIn false (.str "NotAsked") (.tup [.str "NoName", .str "NoPart"]) S = some (.bl false, S) from by kernel_rfl, wp_some]
    refine ⟨false, rfl, ?_⟩
    rw [if_neg Bool.false_ne_true]
    rw [show gEq false (.str "NotAsked") (.str "NoNumber") S = some (.bl false, S) from by kernel_rfl, wp_some]
    refine ⟨false, rfl, ?_⟩
    rw [if_neg Bool.false_ne_true]
    rw [fldV_eq hk (by decide), wp_some, gc_same hd, wp_some]
    exact ⟨rfl, rfl⟩
  obtain ⟨e, S', h, rfl, rfl⟩ := key
  exact h
end J

namespace Kx
open PySem PySem.Spec PyProof.Rows L2
theorem text_le : ∀ (ts : List Str) (k : Nat) (acc : Str), (textFrom k acc ts).length ≤ acc.length + piled ts
  | [], k, acc => Nat.le_add_right _ _
  | t :: ts, k, acc => by
    have ih := text_le ts (k + 1) (acc ++ (if k > 0 then ", " else "" : String) ++ t)
    rw [strLen_append, strLen_append] at ih
    rw [piled_cons]
    show (textFrom (k + 1) (acc ++ (if k > 0 then ", " else "" : String) ++ t) ts).length ≤ _
    refine Nat.le_trans ih ?_
    have : (Str.ofString (if k > 0 then ", " else "")).length ≤ 2 := by split <;> decide
    omega
theorem list_le (ts : List Str) : (listText ts).length ≤ piled ts + 2 := by
  unfold listText
  rw [strLen_append]
  have h := text_le ts 0 "["
  have h1 : (Str.ofString "[").length = 1 := by decide
  have h2 : (Str.ofString "]").length = 1 := by decide
  rw [h1] at h
  rw [h2]
  omega
def Elt (d : PyData) : Prop := d.showable = true ∧ d.hasDict = false ∧ d.depth ≤ 3 ∧ d.shown.length ≤ 20
def Fine (d : PyData) : Prop := d.showable = true ∧ d.hasDict = false ∧ d.depth ≤ 60 ∧ d.shown.length ≤ sizeLine
/-- the lists that the law holds, with their texts; none of them is the list that holds them -/
def Held (K : PySem.W.Frag) (h : Addr) (H : Hp) (hs : List V) : Prop := ∀ v ∈ hs, ∃ (p l : Addr) (ys : List V) (ds : List PyData), v = .ref p ∧ l ≠ h ∧ H p = some (.tup [.ref l, .str (PyData.list ds).shown]) ∧ H l = some (.lst ys) ∧ DtAll K H ys ds ∧ Fine (.list ds)
theorem Held.same {K : PySem.W.Frag} {h : Addr} {H H' : Hp} {hs : List V} (q : Held K h H hs) (s : Same H H') : Held K h H' hs := fun v hv => by
  obtain ⟨p, l, ys, ds, e, n, h1, h2, h3, h4⟩ := q v hv
  exact ⟨p, l, ys, ds, e, n, s _ _ h1, s _ _ h2, h3.keep (keepT_same s), h4⟩
theorem Held.put {K : PySem.W.Frag} {h : Addr} {H : Hp} {hs xs zs : List V} (q : Held K h H hs) (e : H h = some (.lst xs)) : Held K h (upd H h (.lst zs)) hs := fun v hv => by
  obtain ⟨p, l, ys, ds, ev, n, h1, h2, h3, h4⟩ := q v hv
  have np : p ≠ h := ne_of h1 e (by intro z; cases z)
  exact ⟨p, l, ys, ds, ev, n, by rw [upd_ne np]; exact h1, by rw [upd_ne n]; exact h2, h3.keep (keepT_put e), h4⟩
/-- a new thing b, then what keeps all but b -/
theorem Same.then {b : Addr} {H H1 H2 : Hp} (n : H b = none) (s : Same H H1) (x : SameX b H1 H2) : Same H H2 := fun a o e => x a o (ne_of_none e n) (s a o e)
end Kx

namespace Kx
open PySem PySem.Spec PyProof.Rows L2
/-! short words, their reprs, and names made of letters -/
def sok (s : Str) : Prop := ∀ c ∈ s.cps.toList, c < 1000
def Nm (s : Str) : Prop := s.length ≤ 8 ∧ sok s
def abc : Str := "abcdefghijklmnopqrstuvwxyz"
def Flat1 (d : PyData) : Prop := (∃ k : Int, d = .int k ∧ 0 ≤ k ∧ k < 100) ∨ ∃ s : Str, d = .str s ∧ s.length ≤ 8 ∧ sok s
def Word (w : Str) : Prop := w = "say" ∨ w = "ask" ∨ w = "read" ∨ w = "write" ∨ w = "call" ∨ w = "end" ∨ w = "mute"
end Kx

set_option autoImplicit false
namespace J
open PySem PySem.Spec PyProof.Rows L2
open Kx (Op Ex Rw vok sok Nm)
/-! plain data: ints and lengths bounded by n, depth by k -/
def iB (n : Nat) : Nat := 10 ^ 59 + n
def lB (n : Nat) : Nat := 20 + n
inductive Pd (n : Nat) : Nat → D → Prop
  | non (k : Nat) : Pd n k .non
  | bl (k : Nat) (b : Bool) : Pd n k (.bl b)
  | int (k : Nat) (i : Int) : i.natAbs ≤ iB n → Pd n k (.int i)
  | str (k : Nat) (s : Str) : s.length ≤ 60 → (∀ c ∈ s.cps.toList, c < 0x110000) → Pd n k (.str s)
  | tup (k : Nat) (ds : List D) : ds.length ≤ lB n → (∀ d ∈ ds, Pd n k d) → Pd n (k + 1) (.tup ds)
  | lst (k : Nat) (ds : List D) : ds.length ≤ lB n → (∀ d ∈ ds, Pd n k d) → Pd n (k + 1) (.lst ds)
theorem Pd.mono {n n' : Nat} (hn : n ≤ n') {k : Nat} {d : D} (h : Pd n k d) : ∀ {k' : Nat}, k ≤ k' → Pd n' k' d := by
  induction h with
  | non k => intro k' _; exact .non k'
  | bl k b => intro k' _; exact .bl k' b
  | int k i h => intro k' _; exact .int k' i (Nat.le_trans h (by unfold iB; omega))
  | str k s h1 h2 => intro k' _; exact .str k' s h1 h2
  | tup k ds h1 h2 ih =>
    intro k' hk
    obtain ⟨j, rfl⟩ : ∃ j, k' = j + 1 := ⟨k' - 1, by omega⟩
    exact .tup j ds (Nat.le_trans h1 (by unfold lB; omega)) fun d hd => ih d hd (by omega)
  | lst k ds h1 h2 ih =>
    intro k' hk
    obtain ⟨j, rfl⟩ : ∃ j, k' = j + 1 := ⟨k' - 1, by omega⟩
    exact .lst j ds (Nat.le_trans h1 (by unfold lB; omega)) fun d hd => ih d hd (by omega)
mutual
def cost : D → Nat
  | .tup ds => costs ds + 10
  | .lst ds => costs ds + 10
  | _ => 700
def costs : List D → Nat
  | [] => 0
  | d :: ds => cost d + 2 + costs ds
end
/-- what is to be known of data -/
structure Dn (k m : Nat) (p : PyData) : Prop where
  sh : p.showable = true
  nd : p.hasDict = false
  dep : p.depth ≤ k
  len : p.shown.length ≤ m
  lay : p.canLay0 = true
structure Dns (k m : Nat) (ps : List PyData) : Prop where
  sh : PyData.showableAll ps = true
  nd : PyData.hasDictAll ps = false
  dep : PyData.depthAll ps ≤ k
  len : piled (PyData.shownAll ps) ≤ m
  lay : PyData.canLayAll0 ps = true
theorem dns_cons {k m m' : Nat} {p : PyData} {ps : List PyData} (h : Dn k m p) (q : Dns k m' ps) : Dns k (m + 2 + m') (p :: ps) := by
  obtain ⟨a1, a2, a3, a4, a5⟩ := q
  obtain ⟨b1, b2, b3, b4, b5⟩ := h
  refine ⟨?_, ?_, ?_, ?_, ?_⟩
  · simp only [PyData.showableAll, a1, b1, Bool.and_self]
  · simp only [PyData.hasDictAll, a2, b2, Bool.or_self]
  · simp only [PyData.depthAll]; omega
  · simp only [PyData.shownAll, piled_cons]; omega
  · simp only [PyData.canLayAll0, a5, b5, Bool.and_self]
theorem tup_le (ts : List Str) : (tupleText ts).length ≤ piled ts + 10 := by
  unfold tupleText
  rw [strLen_append, strLen_append]
  have e1 : (Str.ofString "(").length = 1 := by decide
  have e2 : (Str.ofString (if ts.length == 1 then ",)" else ")")).length ≤ 2 := by split <;> decide
  rw [e1]
  by_cases z : ts = []
  · rw [z] at e2 ⊢
    have e3 : (Str.join (Str.ofString ", ") []).length = 0 := rfl
    rw [e3]
    omega
  · have := join_length_add _ z
    omega
theorem dn_tup {k m : Nat} {ps : List PyData} (h : Dns k m ps) : Dn (k + 1) (m + 10) (.tuple ps) := by
  refine ⟨?_, ?_, ?_, ?_, ?_⟩
  · simp only [PyData.showable]; exact h.sh
  · simp only [PyData.hasDict]; exact h.nd
  · simp only [PyData.depth]; have := h.dep; omega
  · simp only [PyData.shown]; have := h.len; have := tup_le (PyData.shownAll ps); omega
  · simp only [PyData.canLay0]; exact h.lay
theorem dn_lst {k m : Nat} {ps : List PyData} (h : Dns k m ps) : Dn (k + 1) (m + 10) (.list ps) := by
  refine ⟨?_, ?_, ?_, ?_, ?_⟩
  · simp only [PyData.showable]; exact h.sh
  · simp only [PyData.hasDict]; exact h.nd
  · simp only [PyData.depth]; have := h.dep; omega
  · simp only [PyData.shown]; have := h.len; have := Kx.list_le (PyData.shownAll ps); omega
  · simp only [PyData.canLay0]; exact h.lay
theorem int_log {n : Nat} (hn : n ≤ 100) {i : Int} (h : i.natAbs ≤ iB n) : i.natAbs.log2 < 1920 ∧ (Str.ofString (toString i)).length ≤ 70 := by
  have h1 : i.natAbs < 10 ^ 60 := by
    unfold iB at h
    have : (10 : Nat) ^ 59 + 100 < 10 ^ 60 := by decide
    omega
  refine ⟨?_, ?_⟩
  · by_cases z : i.natAbs = 0
    · rw [z]; decide
    · refine (Nat.log2_lt z).mpr (Nat.lt_trans h1 (by decide +kernel))
  · have e := PySem.int_text_length_le10 (k := 60) (by decide) h1
    rw [PySem.ofString_length]
    omega
theorem pd_data {n : Nat} (hn : n ≤ 100) {k : Nat} {d : D} (h : Pd n k d) : ∃ p, D.py d = some p ∧ Dn k (cost d) p ∧ D.und 0 d = true := by
  have all : ∀ {k : Nat} (ds : List D), (∀ d ∈ ds, ∃ p, D.py d = some p ∧ Dn k (cost d) p ∧ D.und 0 d = true) → ∃ ps, D.pys ds = some ps ∧ Dns k (costs ds) ps ∧ D.undAll 0 ds = true := by
    intro k ds
    induction ds with
    | nil => intro _; exact ⟨[], rfl, ⟨rfl, rfl, Nat.zero_le _, Nat.le_refl _, rfl⟩, by simp⟩
    | cons d ds ih =>
      intro h
      obtain ⟨p, e1, q1, u1⟩ := h d (List.mem_cons_self ..)
      obtain ⟨ps, e2, q2, u2⟩ := ih fun x hx => h x (List.mem_cons_of_mem _ hx)
      refine ⟨p :: ps, by rw [D.pys, e1, e2], ?_, by simp [u1, u2]⟩
      rw [costs]
      exact dns_cons q1 q2
  induction h with
  | non k => exact ⟨.none, rfl, ⟨rfl, rfl, Nat.zero_le _, by simp [cost, PyData.shown]; decide, rfl⟩, rfl⟩
  | bl k b => exact ⟨.bool b, rfl, ⟨rfl, rfl, Nat.zero_le _, by cases b <;> (simp [cost, PyData.shown]; decide), rfl⟩, rfl⟩
  | int k i h =>
    have := int_log hn h
    refine ⟨.int i, rfl, ⟨?_, rfl, Nat.zero_le _, ?_, rfl⟩, rfl⟩
    · simp only [PyData.showable]; exact decide_eq_true this.1
    · simp only [cost, PyData.shown]; omega
  | str k s h1 h2 =>
    refine ⟨.str s, rfl, ⟨rfl, rfl, Nat.zero_le _, ?_, ?_⟩, rfl⟩
    · have z := StrLaws.reprText_len s fun c hc => Nat.lt_trans (h2 c hc) (by decide)
      simp only [cost, PyData.shown]
      omega
    · show PyData.strOk s = true
      unfold PyData.strOk
      rw [Array.all_eq_true']
      intro c hc
      exact decide_eq_true (h2 c (Array.mem_toList_iff.mpr hc))
  | tup k ds h1 h2 ih =>
    obtain ⟨ps, e, q, u⟩ := all ds ih
    refine ⟨.tuple ps, by rw [D.py, e]; rfl, ?_, by simp [u]⟩
    rw [cost]
    exact dn_tup q
  | lst k ds h1 h2 ih =>
    obtain ⟨ps, e, q, u⟩ := all ds ih
    refine ⟨.list ps, by rw [D.py, e]; rfl, ?_, by simp [u]⟩
    rw [cost]
    exact dn_lst q
section
variable {n k : Nat} {d : D} (hn : n ≤ 100) (h : Pd n k d)
include hn h in
theorem repr_eq (hk : k ≤ 60) (hc : cost d ≤ sizeLine) : ∃ z : Str, ∀ S, gReprD [d] S = some (.str z, S) := by
  obtain ⟨p, e, q, u⟩ := pd_data hn h
  cases h with
  | non k => exact ⟨"None", fun S => rfl⟩
  | bl k b => exact ⟨_, fun S => rfl⟩
  | int k i hi => exact ⟨_, fun S => by simp only [gReprD]; rw [if_pos (int_log hn hi).1]⟩
  | str k s h1 h2 =>
    refine ⟨reprText s, fun S => ?_⟩
    have z := StrLaws.reprText_len s fun c hc => Nat.lt_trans (h2 c hc) (by decide)
    simp only [gReprD]
    rw [if_pos (Nat.le_trans z (by rw [sizeLine_eq]; omega))]
  | tup k ds h1 h2 =>
    obtain ⟨ps, e1, rfl⟩ := Option.map_eq_some_iff.mp (show (D.pys ds).map .tuple = some p from by rw [← e, D.py])
    refine ⟨(PyData.tuple ps).shown, fun S => ?_⟩
    have c : ((PyData.tuple ps).showable && !(PyData.tuple ps).hasDict && decide ((PyData.tuple ps).depth ≤ 60) && decide ((PyData.tuple ps).shown.length ≤ sizeLine)) = true := by
      rw [q.sh, q.nd, decide_eq_true (Nat.le_trans q.dep hk), decide_eq_true (Nat.le_trans q.len hc)]
      rfl
    have e2 : (D.tup ds).pyS S = some (.tuple ps) := e
    show gRepr [.tup ds] S = _
    simp only [gRepr, e2]
    rw [if_pos c]
  | lst k ds h1 h2 =>
    obtain ⟨ps, e1, rfl⟩ := Option.map_eq_some_iff.mp (show (D.pys ds).map .list = some p from by rw [← e, D.py])
    refine ⟨(PyData.list ps).shown, fun S => ?_⟩
    have c : ((PyData.list ps).showable && !(PyData.list ps).hasDict && decide ((PyData.list ps).depth ≤ 60) && decide ((PyData.list ps).shown.length ≤ sizeLine)) = true := by
      rw [q.sh, q.nd, decide_eq_true (Nat.le_trans q.dep hk), decide_eq_true (Nat.le_trans q.len hc)]
      rfl
    have e2 : (D.lst ds).pyS S = some (.list ps) := e
    show gRepr [.lst ds] S = _
    simp only [gRepr, e2]
    rw [if_pos c]
/-! tests of kind -/
end
def tB : D → Bool
  | .tup _ => true
  | _ => false
def sB : D → Bool
  | .str _ => true
  | _ => false
def iB' : D → Bool
  | .int _ => true
  | .bl _ => true
  | _ => false
def bB : D → Bool
  | .bl _ => true
  | _ => false
section
variable {n k : Nat} {d : D} (h : Pd n k d)
include h
end
/-! a text among some -/
def inN (ns : List Str) : D → Bool
  | .str s => ns.any fun q => q == s
  | _ => false
end J

set_option autoImplicit false
namespace J
open PySem L2
theorem pd_str {n k : Nat} {s : Str} (h : (decide (s.length ≤ 60) && s.cps.toList.all fun c => decide (c < 0x110000)) = true) : Pd n k (.str s) := by
  rw [Bool.and_eq_true, decide_eq_true_iff, List.all_eq_true] at h
  exact .str _ _ h.1 fun c hc => of_decide_eq_true (h.2 c hc)
theorem pdl_nil {n k : Nat} : ∀ d ∈ ([] : List D), Pd n k d := fun _ h => by cases h
theorem pdl_cons {n k : Nat} {d : D} {ds : List D} (h : Pd n k d) (q : ∀ d ∈ ds, Pd n k d) : ∀ e ∈ d :: ds, Pd n k e := fun e he => by
  rcases List.mem_cons.mp he with rfl | z
  · exact h
  · exact q e z
theorem any_pd : ∀ d ∈ anyL, Pd 0 2 d :=
  (pdl_cons (.non _)
    (pdl_cons (.bl _ _)
    (pdl_cons (.bl _ _)
    (pdl_cons (.int _ _ (by decide +kernel))
    (pdl_cons (.int _ _ (by decide +kernel))
    (pdl_cons (.int _ _ (by decide +kernel))
    (pdl_cons (.int _ _ (by decide +kernel))
    (pdl_cons (.int _ _ (by decide +kernel))
    (pdl_cons (.int _ _ (by decide +kernel))
    (pdl_cons (pd_str (by decide +kernel))
    (pdl_cons (pd_str (by decide +kernel))
    (pdl_cons (pd_str (by decide +kernel))
    (pdl_cons (pd_str (by decide +kernel))
    (pdl_cons (pd_str (by decide +kernel))
    (pdl_cons (pd_str (by decide +kernel))
    (pdl_cons (pd_str (by decide +kernel))
    (pdl_cons (.lst 1 _ (by decide +kernel) pdl_nil)
    (pdl_cons (.tup 1 _ (by decide +kernel) pdl_nil)
    (pdl_cons (.tup 1 _ (by decide +kernel) (pdl_cons (pd_str (by decide +kernel)) pdl_nil))
    (pdl_cons (.lst 1 _ (by decide +kernel) (pdl_cons (pd_str (by decide +kernel)) pdl_nil))
    (pdl_cons (.tup 1 _ (by decide +kernel) (pdl_cons (.int _ _ (by decide +kernel)) (pdl_cons (.int _ _ (by decide +kernel)) (pdl_cons (.int _ _ (by decide +kernel)) pdl_nil))))
    (pdl_cons (.tup 1 _ (by decide +kernel) (pdl_cons (.bl _ _) (pdl_cons (.int _ _ (by decide +kernel)) (pdl_cons (.int _ _ (by decide +kernel)) pdl_nil))))
    (pdl_cons (.tup 1 _ (by decide +kernel) (pdl_cons (.tup 0 _ (by decide +kernel) (pdl_cons (pd_str (by decide +kernel)) (pdl_cons (.int _ _ (by decide +kernel)) pdl_nil))) pdl_nil))
    (pdl_cons (.tup 1 _ (by decide +kernel) (pdl_cons (pd_str (by decide +kernel)) (pdl_cons (.int _ _ (by decide +kernel)) (pdl_cons (pd_str (by decide +kernel)) pdl_nil))))
    (pdl_cons (pd_str (by decide +kernel))
    (pdl_cons (.tup 1 _ (by decide +kernel) (pdl_cons (pd_str (by decide +kernel)) (pdl_cons (.int _ _ (by decide +kernel)) pdl_nil)))
    pdl_nil))))))))))))))))))))))))))
theorem any_cost : ∀ d ∈ anyL, cost d ≤ 2200 := by
  intro d hd
  simp only [anyL, List.mem_cons, List.not_mem_nil, or_false] at hd
  rcases hd with rfl | rfl | rfl | rfl | rfl | rfl | rfl | rfl | rfl | rfl | rfl | rfl | rfl | rfl | rfl | rfl | rfl | rfl | rfl | rfl | rfl | rfl | rfl | rfl | rfl | rfl <;> simp [cost, costs]
theorem any_repr : ∀ d ∈ anyL, ∃ z : Str, ∀ S, gReprD [d] S = some (.str z, S) := fun d hd => repr_eq (n := 0) (k := 2) (by omega) (any_pd d hd) (by omega) (Nat.le_trans (any_cost d hd) (by rw [sizeLine_eq]; omega))
end J

set_option autoImplicit false
namespace J
open PySem L2
/-- an entry of the pairs, as it is made -/
def IsEnt (d1 d2 : D) (x f : Str) (E : FE) : Prop := ∀ env S, env[3]? = some (some d1) → env[4]? = some (some d2) → E env S = some (.tup [.str x, .obj S.length, .obj (S.length + 1)], S ++ [.exc x [(f, d1)], .exc x [(f, d2)]])
theorem cpv {d : D} (h : cpB 5 d = true) (e0 : Option D) (es : Env) (S : Sto) : (fCall 1 F_copied (faCons (fVar 1) faNil) []) (e0 :: some d :: es) S = some (d, S) := by
  unfold fCall
  simp only [faCons_eq, faNil_eq, fVar_eq, List.getElem?_cons_succ, List.getElem?_cons_zero]
  rw [if_pos (show ([d] ++ [] : List D).length = 1 from rfl)]
  exact copied_eq h S
theorem ent_gen {d1 d2 : D} {x f : Str} {ve : FE} (h1 : ∀ S, ve [none, some d1] S = some (d1, S)) (h2 : ∀ S, ve [none, some d2] S = some (d2, S)) :
    IsEnt d1 d2 x f (fTup (faCons (fC (.str x)) (faCons (fExc x f (fOx 2 (fVar 3) ve)) (faCons (fExc x f (fOxK 2 (faCons (fVar 4) faNil) ve)) faNil)))) := by
  intro env S e3 e4
  have a1 : ∀ S, fExc x f (fOx 2 (fVar 3) ve) env S = some (.obj S.length, S ++ [.exc x [(f, d1)]]) := fun S => by
    unfold fExc fOx
    simp only [fVar_eq, e3]
    rw [show (none :: some d1 :: List.replicate (2 - 2) none : Env) = [none, some d1] from rfl, h1]
  have a2 : ∀ S, fExc x f (fOxK 2 (faCons (fVar 4) faNil) ve) env S = some (.obj S.length, S ++ [.exc x [(f, d2)]]) := fun S => by
    unfold fExc fOxK
    simp only [faCons_eq, faNil_eq, fVar_eq, e4]
    rw [show (none :: some d2 :: List.replicate (2 - 2) none : Env) = [none, some d2] from rfl, h2]
  unfold fTup
  simp only [faCons_eq, faNil_eq, fC_eq, a1, a2, List.length_append, List.length_cons, List.length_nil, List.append_assoc, List.cons_append, List.nil_append]
  first | rfl | (simp; done)
theorem entC {d1 d2 : D} (x f : Str) (h1 : cpB 5 d1 = true) (h2 : cpB 5 d2 = true) : IsEnt d1 d2 x f (fTup (faCons (fC (.str x)) (faCons (fExc x f (fOx 2 (fVar 3) (fCall 1 F_copied (faCons (fVar 1) faNil) []))) (faCons (fExc x f (fOxK 2 (faCons (fVar 4) faNil) (fCall 1 F_copied (faCons (fVar 1) faNil) []))) faNil)))) :=
  ent_gen (cpv h1 none []) (cpv h2 none [])
theorem entV {d1 d2 : D} (x f : Str) : IsEnt d1 d2 x f (fTup (faCons (fC (.str x)) (faCons (fExc x f (fOx 2 (fVar 3) (fVar 1))) (faCons (fExc x f (fOxK 2 (faCons (fVar 4) faNil) (fVar 1))) faNil)))) :=
  ent_gen (fun S => rfl) (fun S => rfl)
def XF : List (Str × Str) := [("NoBase", "base"), ("NoText", "row"), ("NoName", "name"), ("NoPart", "name"), ("NoNumber", "number"), ("NoHistory", "at"), ("NoRun", "run"), ("NoBranch", "at"), ("NoCell", "cell"), ("NoDepth", "depth"), ("Over", "run"), ("NoAnswer", "run"), ("NotAsked", "run")]
/-- what an entry is -/
def Ent (d1 d2 : D) (S : Sto) (e : D) : Prop := ∃ (p : Str × Str) (a b : Nat), p ∈ XF ∧ e = .tup [.str p.1, .obj a, .obj b] ∧ S[a]? = some (.exc p.1 [(p.2, d1)]) ∧ S[b]? = some (.exc p.1 [(p.2, d2)])
structure Good (d1 d2 : D) (S : Sto) (k : Nat) (es : List D) : Prop where
  hk : S[k]? = some (.lst es)
  he : ∀ e ∈ es, Ent d1 d2 S e
  hl : es.length ≤ 100
theorem Ent.app {d1 d2 : D} {S : Sto} {e : D} (h : Ent d1 d2 S e) (T : Sto) : Ent d1 d2 (S ++ T) e := by
  obtain ⟨p, a, b, h1, h2, h3, h4⟩ := h
  exact ⟨p, a, b, h1, h2, by rw [List.getElem?_append_left (List.getElem?_eq_some_iff.mp h3).1]; exact h3, by rw [List.getElem?_append_left (List.getElem?_eq_some_iff.mp h4).1]; exact h4⟩
theorem Ent.new {d1 d2 : D} {x f : Str} (h : (x, f) ∈ XF) (S : Sto) : Ent d1 d2 (S ++ [.exc x [(f, d1)], .exc x [(f, d2)]]) (.tup [.str x, .obj S.length, .obj (S.length + 1)]) :=
  ⟨(x, f), S.length, S.length + 1, h, rfl, by simp, by simp⟩
theorem Ent.set {d1 d2 : D} {S : Sto} {e : D} {k : Nat} {xs ys : List D} (h : Ent d1 d2 S e) (hk : S[k]? = some (.lst xs)) : Ent d1 d2 (S.set k (.lst ys)) e := by
  obtain ⟨p, a, b, h1, h2, h3, h4⟩ := h
  have n : ∀ c {o : O}, S[c]? = some o → (∀ l, o ≠ .lst l) → (S.set k (.lst ys))[c]? = some o := fun c o h z => by
    by_cases e : k = c
    · subst e
      rw [hk] at h
      cases h
      exact absurd rfl (z xs)
    · rw [List.getElem?_set_ne e]
      exact h
  exact ⟨p, a, b, h1, h2, n a h3 (fun l z => by cases z), n b h4 (fun l z => by cases z)⟩
section
variable {d1 d2 : D} {x f x' f' : Str} {E1 E2 : FE} {env : Env} {S : Sto} {n k : Nat} {es : List D}
/-- [e, e'] -/
theorem lst2 (h1 : IsEnt d1 d2 x f E1) (h2 : IsEnt d1 d2 x' f' E2) (m1 : (x, f) ∈ XF) (m2 : (x', f') ∈ XF) (e3 : env[3]? = some (some d1)) (e4 : env[4]? = some (some d2)) :
    ∃ (T : Sto) (k' : Nat) (ys : List D), fLstN (faCons E1 (faCons E2 faNil)) env S = some (.obj k', S ++ T) ∧ (S ++ T)[k']? = some (.lst ys) ∧ ys.length = 2 ∧ ∀ e ∈ ys, Ent d1 d2 (S ++ T) e := by
  refine ⟨[.exc x [(f, d1)], .exc x [(f, d2)]] ++ [.exc x' [(f', d1)], .exc x' [(f', d2)]] ++ [.lst [.tup [.str x, .obj S.length, .obj (S.length + 1)], .tup [.str x', .obj (S.length + 2), .obj (S.length + 2 + 1)]]], S.length + 4, [.tup [.str x, .obj S.length, .obj (S.length + 1)], .tup [.str x', .obj (S.length + 2), .obj (S.length + 2 + 1)]], ?_, by simp, rfl, fun e he => ?_⟩
  · unfold fLstN
    simp only [faCons_eq, faNil_eq, h1 env S e3 e4, h2 env _ e3 e4, List.length_append, List.length_cons, List.length_nil, List.append_assoc, List.cons_append, List.nil_append]
    first | rfl | (simp; done)
  · simp only [List.mem_cons, List.not_mem_nil, or_false] at he
    rw [← List.append_assoc, ← List.append_assoc]
    rcases he with rfl | rfl
    · exact ((Ent.new m1 S).app _).app _
    · have z := Ent.new (d1 := d1) (d2 := d2) m2 (S ++ [.exc x [(f, d1)], .exc x [(f, d2)]])
      rw [List.length_append] at z
      exact z.app _
theorem lst1 (h1 : IsEnt d1 d2 x f E1) (m1 : (x, f) ∈ XF) (e3 : env[3]? = some (some d1)) (e4 : env[4]? = some (some d2)) :
    ∃ (T : Sto) (k' : Nat) (ys : List D), fLstN (faCons E1 faNil) env S = some (.obj k', S ++ T) ∧ (S ++ T)[k']? = some (.lst ys) ∧ ys.length = 1 ∧ ∀ e ∈ ys, Ent d1 d2 (S ++ T) e := by
  refine ⟨[.exc x [(f, d1)], .exc x [(f, d2)]] ++ [.lst [.tup [.str x, .obj S.length, .obj (S.length + 1)]]], S.length + 2, [.tup [.str x, .obj S.length, .obj (S.length + 1)]], ?_, by simp, rfl, fun e he => ?_⟩
  · unfold fLstN
    simp only [faCons_eq, faNil_eq, h1 env S e3 e4, List.length_append, List.length_cons, List.length_nil, List.append_assoc, List.cons_append, List.nil_append]
    first | rfl | (simp; done)
  · simp only [List.mem_cons, List.not_mem_nil, or_false] at he
    rw [← List.append_assoc]
    subst he
    exact (Ent.new m1 S).app _
/-- pairs = [..] -/
theorem st_new {g : FA} (h : ∃ (T : Sto) (k' : Nat) (ys : List D), fLstN g env S = some (.obj k', S ++ T) ∧ (S ++ T)[k']? = some (.lst ys) ∧ ys.length = 2 ∧ ∀ e ∈ ys, Ent d1 d2 (S ++ T) e) :
    ∃ (S' : Sto) (k' : Nat) (ys : List D), fAsg (fLstN g) (gNm 5) env S = some (.nx, env.set 5 (some (.obj k')), S') ∧ Good d1 d2 S' k' ys ∧ ys.length = 2 := by
  obtain ⟨T, k', ys, e1, e2, e3, e4⟩ := h
  refine ⟨S ++ T, k', ys, ?_, ⟨e2, e4, by omega⟩, e3⟩
  rw [fAsg_eq, e1]
  rfl
/-- pairs = pairs + [..] -/
theorem st_cat {g : FA} {m : Nat} (G : Good d1 d2 S k es) (hm : m ≤ 2) (hl : es.length + m ≤ 100) (e5 : env[5]? = some (some (.obj k)))
    (h : ∃ (T : Sto) (k' : Nat) (ys : List D), fLstN g env S = some (.obj k', S ++ T) ∧ (S ++ T)[k']? = some (.lst ys) ∧ ys.length = m ∧ ∀ e ∈ ys, Ent d1 d2 (S ++ T) e) :
    ∃ (S' : Sto) (k' : Nat) (ys : List D), fAsg (fOp gCatN (fVar 5) (fLstN g)) (gNm 5) env S = some (.nx, env.set 5 (some (.obj k')), S') ∧ Good d1 d2 S' k' ys ∧ ys.length = es.length + m := by
  obtain ⟨T, k', ys, e1, e2, e3, e4⟩ := h
  refine ⟨S ++ T ++ [.lst (es ++ ys)], (S ++ T).length, es ++ ys, ?_, ⟨by simp, fun e he => ?_, by simp; omega⟩, by simp; omega⟩
  · have hk : (S ++ T)[k]? = some (.lst es) := by rw [List.getElem?_append_left (List.getElem?_eq_some_iff.mp G.hk).1]; exact G.hk
    rw [fAsg_eq]
    have c : fOp gCatN (fVar 5) (fLstN g) env S = some (.obj (S ++ T).length, S ++ T ++ [.lst (es ++ ys)]) := by
      unfold fOp
      simp only [fVar_eq, e5, e1]
      unfold gCatN
      simp only [show lstOf (.obj k) (S ++ T) = some es from by unfold lstOf; simp only [hk], show lstOf (.obj k') (S ++ T) = some ys from by unfold lstOf; simp only [e2]]
      rw [if_pos (by omega)]
    rw [c]
    rfl
  · rcases List.mem_append.mp he with z | z
    · exact ((G.he e z).app T).app _
    · exact (e4 e z).app _
/-- pairs.append(..) -/
theorem st_app (G : Good d1 d2 S k es) (hl : es.length + 1 ≤ 100) (e5 : env[5]? = some (some (.obj k))) (h1 : IsEnt d1 d2 x f E1) (m1 : (x, f) ∈ XF) (e3 : env[3]? = some (some d1)) (e4 : env[4]? = some (some d2)) :
    ∃ (S' : Sto) (ys : List D), fDrop (fM "list" gApp (fVar 5) (faCons E1 faNil)) env S = some (.nx, env, S') ∧ Good d1 d2 S' k ys ∧ ys.length = es.length + 1 := by
  have hk : (S ++ [O.exc x [(f, d1)], O.exc x [(f, d2)]])[k]? = some (.lst es) := by rw [List.getElem?_append_left (List.getElem?_eq_some_iff.mp G.hk).1]; exact G.hk
  refine ⟨(S ++ [O.exc x [(f, d1)], O.exc x [(f, d2)]]).set k (.lst (es ++ [D.tup [.str x, .obj S.length, .obj (S.length + 1)]])), es ++ [D.tup [.str x, .obj S.length, .obj (S.length + 1)]], ?_, ⟨List.getElem?_set_self (List.getElem?_eq_some_iff.mp hk).1, fun e he => ?_, by simp; omega⟩, by simp⟩
  · rw [fDrop_eq, fM_eq]
    simp only [fVar_eq, e5, faCons_eq, faNil_eq, h1 env S e3 e4]
    rw [if_pos (show tyD "list" S (.obj k) = true from by unfold tyD; simp only [G.hk]; first | rfl | decide)]
    unfold gApp
    simp only [hk]
    rw [if_pos (by omega)]
  · rcases List.mem_append.mp he with z | z
    · exact ((G.he e z).app _).set hk
    · rw [List.mem_singleton.mp z]
      exact (Ent.new m1 S).set hk
end
/-! what is asked of an entry -/
theorem kinds_eq {x f : Str} (h : (x, f) ∈ XF) {k : Nat} {d : D} {S : Sto} (hk : S[k]? = some (.exc x [(f, d)])) : F__law_kinds [.obj k] S = some (.str x, S) := by
  simp only [XF, List.mem_cons, List.not_mem_nil, or_false, Prod.mk.injEq] at h
  rcases h with ⟨rfl, rfl⟩ | ⟨rfl, rfl⟩ | ⟨rfl, rfl⟩ | ⟨rfl, rfl⟩ | ⟨rfl, rfl⟩ | ⟨rfl, rfl⟩ | ⟨rfl, rfl⟩ | ⟨rfl, rfl⟩ | ⟨rfl, rfl⟩ | ⟨rfl, rfl⟩ | ⟨rfl, rfl⟩ | ⟨rfl, rfl⟩ | ⟨rfl, rfl⟩
  · exact kinds_NoBase hk
  · exact kinds_NoText hk
  · exact kinds_NoName hk
  · exact kinds_NoPart hk
  · exact kinds_NoNumber hk
  · exact kinds_NoHistory hk
  · exact kinds_NoRun hk
  · exact kinds_NoBranch hk
  · exact kinds_NoCell hk
  · exact kinds_NoDepth hk
  · exact kinds_Over hk
  · exact kinds_NoAnswer hk
  · exact kinds_NotAsked hk
theorem field_eq {x f : Str} (h : (x, f) ∈ XF) {k : Nat} {d : D} {S : Sto} (hd : d.und 0 = true) (hk : S[k]? = some (.exc x [(f, d)])) : F__law_field [.obj k, .str x] S = some (d, S) := by
  simp only [XF, List.mem_cons, List.not_mem_nil, or_false, Prod.mk.injEq] at h
  rcases h with ⟨rfl, rfl⟩ | ⟨rfl, rfl⟩ | ⟨rfl, rfl⟩ | ⟨rfl, rfl⟩ | ⟨rfl, rfl⟩ | ⟨rfl, rfl⟩ | ⟨rfl, rfl⟩ | ⟨rfl, rfl⟩ | ⟨rfl, rfl⟩ | ⟨rfl, rfl⟩ | ⟨rfl, rfl⟩ | ⟨rfl, rfl⟩ | ⟨rfl, rfl⟩
  · exact field_NoBase hk hd
  · exact field_NoText hk hd
  · exact field_NoName hk hd
  · exact field_NoPart hk hd
  · exact field_NoNumber hk hd
  · exact field_NoHistory hk hd
  · exact field_NoRun hk hd
  · exact field_NoBranch hk hd
  · exact field_NoCell hk hd
  · exact field_NoDepth hk hd
  · exact field_Over hk hd
  · exact field_NoAnswer hk hd
  · exact field_NotAsked hk hd
theorem neS (x : Str) (S : Sto) : gEq true (.str x) (.str x) S = some (.bl false, S) := by
  show (some (D.bl _, S) : Option (D × Sto)) = _
  simp [PyData.eqv]
theorem loop_step {d1 d2 : D} {z1 z2 : Str} (u1 : d1.und 0 = true) (u2 : d2.und 0 = true) (r1 : ∀ S, gReprD [d1] S = some (.str z1, S)) (r2 : ∀ S, gReprD [d2] S = some (.str z2, S)) {S : Sto} {p : Str × Str} {a b : Nat} (hp : p ∈ XF) (ha : S[a]? = some (.exc p.1 [(p.2, d1)])) (hb : S[b]? = some (.exc p.1 [(p.2, d2)])) {env : Env}
    (e3 : env[3]? = some (some d1)) (e4 : env[4]? = some (some d2)) (e6 : env[6]? = some (some (.str p.1))) (e7 : env[7]? = some (some (.obj a))) (e8 : env[8]? = some (some (.obj b))) :
    L_law_1 env S = some (.nx, env, S) := by
  obtain ⟨x, f⟩ := p
  unfold L_law_1
  rw [fSeq_eq, fIfS_eq]
  have c1 : (fOrT (fTest (fOp (gEq true) (fCall 1 F__law_kinds (faCons (fVar 7) faNil) []) (fVar 6))) (fTest (fOp (gEq true) (fCall 1 F__law_kinds (faCons (fVar 8) faNil) []) (fVar 6)))) env S = some (false, S) := by
    simp [e6, e7, e8, kinds_eq hp ha, kinds_eq hp hb, neS]
  have c2 : (fOrT (fTest (fOp (gEq true) (fB gReprD (faCons (fCall 2 F__law_field (faCons (fVar 7) (faCons (fVar 6) faNil)) []) faNil)) (fB gReprD (faCons (fVar 3) faNil)))) (fTest (fOp (gEq true) (fB gReprD (faCons (fCall 2 F__law_field (faCons (fVar 8) (faCons (fVar 6) faNil)) []) faNil)) (fB gReprD (faCons (fVar 4) faNil))))) env S = some (false, S) := by
    simp [e3, e4, e6, e7, e8, field_eq hp u1 ha, field_eq hp u2 hb, r1, r2, neS]
  rw [c1]
  simp only [fNext_eq]
  rw [fIfS_eq, c2]
  rfl
end J

set_option autoImplicit false
namespace J
open PySem PySem.Spec PyProof.Rows L2
theorem seq_nx {f g : FS} {env env' : Env} {S S' : Sto} {E : En} (h : f env S = some (.nx, env', S')) (k : WpS (g env' S') E) : WpS (fSeq f g env S) E := by
  unfold fSeq
  rw [h]
  exact k
theorem rngD_nat (n : Nat) : rngD 0 n = (List.range n).map fun (k : Nat) => D.int (k : Int) := by
  unfold rngD
  simp
theorem rngD_len (lo : Int) (n : Nat) : (rngD lo n).length = n := by simp [rngD]
theorem rng_get {n i : Nat} {d : D} (h : (rngD 0 n)[i]? = some d) : i < n ∧ d = .int (i : Int) := by
  have hi := (List.getElem?_eq_some_iff.mp h).1
  rw [rngD_len] at hi
  rw [rngD_nat, List.getElem?_map, List.getElem?_range hi] at h
  exact ⟨hi, (Option.some.inj h).symm⟩
/-- the loop over the entries -/
theorem loop_eq {L : FS} (hL : L_law_1 = L) {d1 d2 : D} {z1 z2 : Str} (u1 : d1.und 0 = true) (u2 : d2.und 0 = true) (r1 : ∀ S, gReprD [d1] S = some (.str z1, S)) (r2 : ∀ S, gReprD [d2] S = some (.str z2, S)) {S : Sto} {k : Nat} {all : List D} (hk : S[k]? = some (.lst all)) {a0 a1 a2 a5 a9 a10 : Option D} :
    ∀ (es : List D) (f6 f7 f8 : Option D), (∀ e ∈ es, Ent d1 d2 S e) → ∃ g6 g7 g8, fForLC (fun S => S[k]? = some (.lst all)) (gTp 3 (gCons (gNm 6) (gCons (gNm 7) (gCons (gNm 8) gNil)))) L es [a0, a1, a2, some d1, some d2, a5, f6, f7, f8, a9, a10] S = some (.nx, [a0, a1, a2, some d1, some d2, a5, g6, g7, g8, a9, a10], S)
  | [], f6, f7, f8, _ => ⟨f6, f7, f8, by unfold fForLC; rw [if_pos hk]⟩
  | e :: es, f6, f7, f8, h => by
    obtain ⟨p, a, b, hp, rfl, ha, hb⟩ := h e (List.mem_cons_self ..)
    obtain ⟨g6, g7, g8, ih⟩ := loop_eq hL u1 u2 r1 r2 hk es (some (.str p.1)) (some (.obj a)) (some (.obj b)) fun x hx => h x (List.mem_cons_of_mem _ hx)
    refine ⟨g6, g7, g8, ?_⟩
    unfold fForLC
    rw [if_pos hk]
    have g : gTp 3 (gCons (gNm 6) (gCons (gNm 7) (gCons (gNm 8) gNil))) (.tup [.str p.1, .obj a, .obj b]) [a0, a1, a2, some d1, some d2, a5, f6, f7, f8, a9, a10] S = some ([a0, a1, a2, some d1, some d2, a5, some (.str p.1), some (.obj a), some (.obj b), a9, a10], S) := rfl
    rw [g]
    have st := loop_step (env := [a0, a1, a2, some d1, some d2, a5, some (.str p.1), some (.obj a), some (.obj b), a9, a10]) u1 u2 r1 r2 hp ha hb rfl rfl rfl rfl rfl
    rw [hL] at st
    simp only [st]
    exact ih
theorem bare_eq {L2 L3 : FE} (h2 : L_law_2 = L2) (h3 : L_law_3 = L3) {S : Sto} {b c d : Nat} (hb : S[b]? = some (.exc "NoRows" [])) (hc : S[c]? = some (.exc "NoStand" [])) (hd : S[d]? = some (.exc "NoCommand" [])) {a0 a1 a2 a3 a4 a5 a6 a7 a8 a10 : Option D} :
    fLc [6, 10] (fIt (fVar 9)) (gTp 2 (gCons (gNm 6) (gCons (gNm 10) gNil))) fYes L2 [a0, a1, a2, a3, a4, a5, a6, a7, a8, some (.lst [.tup [.str "NoRows", .obj b], .tup [.str "NoStand", .obj c], .tup [.str "NoCommand", .obj d]]), a10] S = some (.lst [.str "NoRows", .str "NoStand", .str "NoCommand"], S) ∧
    fLc [6, 10] (fIt (fVar 9)) (gTp 2 (gCons (gNm 6) (gCons (gNm 10) gNil))) fYes L3 [a0, a1, a2, a3, a4, a5, a6, a7, a8, some (.lst [.tup [.str "NoRows", .obj b], .tup [.str "NoStand", .obj c], .tup [.str "NoCommand", .obj d]]), a10] S = some (.lst [.str "NoRows", .str "NoStand", .str "NoCommand"], S) := by
  subst h2
  subst h3
  have k1 : ∀ e0 e1 e2 e3 e4 e5 e6 e7 e8 e9, L_law_2 [e0, e1, e2, e3, e4, e5, e6, e7, e8, e9, some (.obj b)] S = some (.str "NoRows", S) := fun _ _ _ _ _ _ _ _ _ _ => by
    unfold L_law_2
    simp [kinds_NoRows hb]
  have k2 : ∀ e0 e1 e2 e3 e4 e5 e6 e7 e8 e9, L_law_2 [e0, e1, e2, e3, e4, e5, e6, e7, e8, e9, some (.obj c)] S = some (.str "NoStand", S) := fun _ _ _ _ _ _ _ _ _ _ => by
    unfold L_law_2
    simp [kinds_NoStand hc]
  have k3 : ∀ e0 e1 e2 e3 e4 e5 e6 e7 e8 e9, L_law_2 [e0, e1, e2, e3, e4, e5, e6, e7, e8, e9, some (.obj d)] S = some (.str "NoCommand", S) := fun _ _ _ _ _ _ _ _ _ _ => by
    unfold L_law_2
    simp [kinds_NoCommand hd]
  have n1 : ∀ e0 e1 e2 e3 e4 e5 e6 e7 e8 e9 x, L_law_3 [e0, e1, e2, e3, e4, e5, some e6, e7, e8, e9, x] S = some (e6, S) := fun _ _ _ _ _ _ _ _ _ _ _ => rfl
  constructor
  · unfold fLc
    simp [fIt, D.items, wipeD, fLcL, gTp, gCons, gNil, gNm, fYes, k1, k2, k3]
  · unfold fLc
    simp [fIt, D.items, wipeD, fLcL, gTp, gCons, gNil, gNm, fYes, n1]
/-- one turn -/
theorem turn_step {L1 : FS} {L2 L3 : FE} (hL1 : L_law_1 = L1) (hL2 : L_law_2 = L2) (hL3 : L_law_3 = L3) {ns : List Int} {S : Sto} {i : Nat} (hi : i ≤ 100) {E : En} {e2 e3 e4 e5 e6 e7 e8 e9 e10 : Option D}
    (k : ∀ S' f2 f3 f4 f5 f6 f7 f8 f9 f10, E.nx [some (.scr (ns.map .int)), some (.int (i : Int)), f2, f3, f4, f5, f6, f7, f8, f9, f10] S') :
    WpS (L_law_4 [some (.scr (ns.map .int)), some (.int (i : Int)), e2, e3, e4, e5, e6, e7, e8, e9, e10] S) E := by
  obtain ⟨o, B, eb⟩ := bag_eq (ns := ns) (i := i) (by omega) S
  have b0 : (S ++ [o])[S.length]? = some o := by simp
  obtain ⟨d1, o1, m1, B1, q1⟩ := any_eq b0 B (by omega)
  have b1 := get_set b0 o1
  obtain ⟨d2, o2, m2, B2, q2⟩ := any_eq b1 B1 (by omega)
  obtain ⟨z1, r1⟩ := any_repr d1 m1
  obtain ⟨z2, r2⟩ := any_repr d2 m2
  have c1 := any_cp d1 m1
  have c2 := any_cp d2 m2
  have u1 := any_und d1 m1
  have u2 := any_und d2 m2
  unfold L_law_4
  rw [hL1, hL2, hL3]
  refine seq_nx (env' := [some (.scr (ns.map .int)), some (.int (i : Int)), some (.obj S.length), e3, e4, e5, e6, e7, e8, e9, e10]) (S' := S ++ [o]) ?_ ?_
  · rw [fAsg_eq]
    simp [eb]
  generalize S ++ [o] = Sa at q1 q2 b1
  refine seq_nx (env' := [some (.scr (ns.map .int)), some (.int (i : Int)), some (.obj S.length), some d1, some d2, e5, e6, e7, e8, e9, e10]) (S' := (Sa.set S.length o1).set S.length o2) ?_ ?_
  · unfold fPar
    simp [q1, q2]
  generalize (Sa.set S.length o1).set S.length o2 = S0
  obtain ⟨S1, k1, y1, t1, G1, l1⟩ := st_new (env := [some (.scr (ns.map .int)), some (.int (i : Int)), some (.obj S.length), some d1, some d2, e5, e6, e7, e8, e9, e10]) (S := S0) (lst2 (entC "NoBase" "base" c1 c2) (entV "NoText" "row") (by simp [XF]) (by simp [XF]) rfl rfl)
  refine seq_nx t1 ?_
  obtain ⟨S2, k2, y2, t2, G2, l2⟩ := st_cat (m := 2) (env := [some (.scr (ns.map .int)), some (.int (i : Int)), some (.obj S.length), some d1, some d2, some (.obj k1), e6, e7, e8, e9, e10]) G1 (by omega) (by omega) rfl (lst2 (entC "NoName" "name" c1 c2) (entC "NoPart" "name" c1 c2) (by simp [XF]) (by simp [XF]) rfl rfl)
  refine seq_nx t2 ?_
  obtain ⟨S3, k3, y3, t3, G3, l3⟩ := st_cat (m := 1) (env := [some (.scr (ns.map .int)), some (.int (i : Int)), some (.obj S.length), some d1, some d2, some (.obj k2), e6, e7, e8, e9, e10]) G2 (by omega) (by omega) rfl (lst1 (entC "NoNumber" "number" c1 c2) (by simp [XF]) rfl rfl)
  refine seq_nx t3 ?_
  obtain ⟨S4, k4, y4, t4, G4, l4⟩ := st_cat (m := 2) (env := [some (.scr (ns.map .int)), some (.int (i : Int)), some (.obj S.length), some d1, some d2, some (.obj k3), e6, e7, e8, e9, e10]) G3 (by omega) (by omega) rfl (lst2 (entV "NoHistory" "at") (entC "NoRun" "run" c1 c2) (by simp [XF]) (by simp [XF]) rfl rfl)
  refine seq_nx t4 ?_
  obtain ⟨S5, k5, y5, t5, G5, l5⟩ := st_cat (m := 2) (env := [some (.scr (ns.map .int)), some (.int (i : Int)), some (.obj S.length), some d1, some d2, some (.obj k4), e6, e7, e8, e9, e10]) G4 (by omega) (by omega) rfl (lst2 (entV "NoBranch" "at") (entC "NoCell" "cell" c1 c2) (by simp [XF]) (by simp [XF]) rfl rfl)
  refine seq_nx t5 ?_
  obtain ⟨S6, k6, y6, t6, G6, l6⟩ := st_cat (m := 2) (env := [some (.scr (ns.map .int)), some (.int (i : Int)), some (.obj S.length), some d1, some d2, some (.obj k5), e6, e7, e8, e9, e10]) G5 (by omega) (by omega) rfl (lst2 (entC "NoDepth" "depth" c1 c2) (entV "Over" "run") (by simp [XF]) (by simp [XF]) rfl rfl)
  refine seq_nx t6 ?_
  obtain ⟨S7, y7, t7, G7, l7⟩ := st_app (env := [some (.scr (ns.map .int)), some (.int (i : Int)), some (.obj S.length), some d1, some d2, some (.obj k6), e6, e7, e8, e9, e10]) G6 (by omega) rfl (entV "NoAnswer" "run") (by simp [XF]) rfl rfl
  refine seq_nx t7 ?_
  obtain ⟨S8, y8, t8, G8, l8⟩ := st_app (env := [some (.scr (ns.map .int)), some (.int (i : Int)), some (.obj S.length), some d1, some d2, some (.obj k6), e6, e7, e8, e9, e10]) G7 (by omega) rfl (entV "NotAsked" "run") (by simp [XF]) rfl rfl
  refine seq_nx t8 ?_
  obtain ⟨g6, g7, g8, lp⟩ := loop_eq hL1 u1 u2 r1 r2 G8.hk (a0 := some (.scr (ns.map .int))) (a1 := some (.int (i : Int))) (a2 := some (.obj S.length)) (a5 := some (.obj k6)) (a9 := e9) (a10 := e10) y8 e6 e7 e8 G8.he
  refine seq_nx (env' := [some (.scr (ns.map .int)), some (.int (i : Int)), some (.obj S.length), some d1, some d2, some (.obj k6), g6, g7, g8, e9, e10]) (S' := S8) ?_ ?_
  · unfold fForC fItO
    simp only [fVar_eq, List.set_cons_succ, List.set_cons_zero, List.getElem?_cons_succ, List.getElem?_cons_zero, G8.hk]
    exact lp
  refine seq_nx (env' := [some (.scr (ns.map .int)), some (.int (i : Int)), some (.obj S.length), some d1, some d2, some (.obj k6), g6, g7, g8, some (.lst [.tup [.str "NoRows", .obj S8.length], .tup [.str "NoStand", .obj (S8.length + 1)], .tup [.str "NoCommand", .obj (S8.length + 2)]]), e10]) (S' := S8 ++ [O.exc "NoRows" [], O.exc "NoStand" [], O.exc "NoCommand" []]) ?_ ?_
  · rw [fAsg_eq]
    simp [fExc0]
  have hb := bare_eq hL2 hL3 (S := S8 ++ [O.exc "NoRows" [], O.exc "NoStand" [], O.exc "NoCommand" []]) (b := S8.length) (c := S8.length + 1) (d := S8.length + 2) (by simp) (by simp) (by simp) (a0 := some (.scr (ns.map .int))) (a1 := some (.int (i : Int))) (a2 := some (.obj S.length)) (a3 := some d1) (a4 := some d2) (a5 := some (.obj k6)) (a6 := g6) (a7 := g7) (a8 := g8) (a10 := e10)
  rw [fIfS_eq, show ∀ e S, fTest (fOp (gEq true) (fLc [6, 10] (fIt (fVar 9)) (gTp 2 (gCons (gNm 6) (gCons (gNm 10) gNil))) fYes L2) (fLc [6, 10] (fIt (fVar 9)) (gTp 2 (gCons (gNm 6) (gCons (gNm 10) gNil))) fYes L3)) e S = (match fOp (gEq true) (fLc [6, 10] (fIt (fVar 9)) (gTp 2 (gCons (gNm 6) (gCons (gNm 10) gNil))) fYes L2) (fLc [6, 10] (fIt (fVar 9)) (gTp 2 (gCons (gNm 6) (gCons (gNm 10) gNil))) fYes L3) e S with | some (.bl b, S1) => some (b, S1) | _ => none) from fun _ _ => rfl, fOp_eq, hb.1]
  simp only [hb.2]
  rw [show ∀ S, gEq true (.lst [.str "NoRows", .str "NoStand", .str "NoCommand"]) (.lst [.str "NoRows", .str "NoStand", .str "NoCommand"]) S = some (.bl false, S) from fun S => by kernel_rfl]
  exact k _ _ _ _ _ _ _ _ _ _
theorem law_true (ns : List Int) (h : ns.length ≤ 63) : ∃ S', F_law [.scr (ns.map .int)] [] = some (.bl true, S') := by
  have key : Wp (F_law [.scr (ns.map .int)] []) fun d S' => d = .bl true := by
    unfold F_law
    rw [w_run]
    unfold B_law
    generalize hL4 : L_law_4 = L4'
    have s11 : startD 11 [.scr (ns.map .int)] = [some (.scr (ns.map .int)), none, none, none, none, none, none, none, none, none, none] := by simp
    rw [s11]
    have len : ∀ S : Sto, gLen [.scr (ns.map .int)] S = some (.int ((ns.length : Nat) : Int), S) := fun S => by simp
    obtain ⟨n, hn, er⟩ : ∃ n : Nat, n ≤ 6 ∧ ∀ S : Sto, gMin2 [.int 6, .int ((ns.length : Nat) : Int)] S = some (.int (if (ns.length : Int) < 6 then (ns.length : Int) else 6), S) ∧ gMax2 [.int 2, .int (if (ns.length : Int) < 6 then (ns.length : Int) else 6)] S = some (.int (n : Int), S) := by
      by_cases a : (ns.length : Int) < 6
      · by_cases c : (ns.length : Int) > 2
        · exact ⟨ns.length, by omega, fun S => ⟨by simp, by simp [a, c]⟩⟩
        · exact ⟨2, by omega, fun S => ⟨by simp, by simp [a, c]⟩⟩
      · exact ⟨6, by omega, fun S => ⟨by simp, by simp [a]⟩⟩
    simp only [wz0, Nat.reduceAdd, Nat.reduceLeDiff]
    rw [len]
    simp only [wz0, Nat.reduceAdd, Nat.reduceLeDiff]
    rw [(er _).1]
    simp only [wz0, Nat.reduceAdd, Nat.reduceLeDiff]
    rw [(er _).2]
    simp only [wz0, Nat.reduceAdd, Nat.reduceLeDiff]
    refine ⟨by omega, ?_⟩
    rw [Int.toNat_natCast]
    refine w_for' (fun m env S' => ∃ e1 e2 e3 e4 e5 e6 e7 e8 e9 e10, env = [some (.scr (ns.map .int)), e1, e2, e3, e4, e5, e6, e7, e8, e9, e10]) ⟨_, _, _, _, _, _, _, _, _, _, rfl⟩ ?_ ?_
    · rintro m d env S' hd ⟨e1, e2, e3, e4, e5, e6, e7, e8, e9, e10, rfl⟩ E2 E2nx _ _ _
      obtain ⟨hm, rfl⟩ := rng_get hd
      simp only [wz0, Nat.reduceAdd, Nat.reduceLeDiff]
      rw [← hL4]
      exact turn_step rfl rfl rfl (by omega) fun S2 f2 f3 f4 f5 f6 f7 f8 f9 f10 => E2nx _ _ ⟨_, f2, f3, f4, f5, f6, f7, f8, f9, f10, rfl⟩
    · rintro env S' ⟨e1, e2, e3, e4, e5, e6, e7, e8, e9, e10, rfl⟩
      simp only [wz0, Nat.reduceAdd, Nat.reduceLeDiff]
      rw [gc_of ⟨Nat.zero_le _, fun i hi => by cases hi⟩ (by rfl), wp_some]
  obtain ⟨d, S', e, rfl⟩ := key
  exact ⟨S', e⟩
end J

theorem PySem.Challenge.cw_callsover_k22_errors_made_holds : PySem.Challenge.rw_callsover_k22_errors_made.Holds := by
  exact PySem.Challenge.fin_k22 J.law_true

