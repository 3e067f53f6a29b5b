import PyProof.Rows.All
import Wide.All
import OpenK.AllK
import Wide.FinOn
import HandS.ForMost
import HandS.IsInst
import HandS.Defaults
import HandS.Walk
import HandS.TupAny
import KE.KDictKeyed
import HandS.Exc
import HandS.TryOnly
import HandS.ExcOwn
import HandS.WordsExc
import HandS.CallSlots
import HandS.RaiseMore
import KE.GoesMore
import HandS.Zip
import KE.KDictZip
import HandS.Style
import PyProof.P3In
import KE.KDictDisplayH
import HandS.More
import KE.DataCmp
import HandS.Text
import KE.KExcInit
import HandS.TupSets
import PySem.Challenge.RW_callsover_k06_deeds_and_branches
set_option Elab.async false
set_option linter.all false
set_option maxRecDepth 100000
set_option maxHeartbeats 8000000
set_option autoImplicit false
namespace J
open PySem PySem.Spec PyProof.Rows L2
/-! values and objects without the heap: tuples and lists that nobody changes by value, changed things by number -/
inductive D where
  | non | bl (b : Bool) | int (i : Int) | str (x : Str) | tup (ds : List D) | lst (ds : List D) | scr (ds : List D) | obj (k : Nat) | glo (v : V)
deriving Inhabited
inductive O where
  | lst (ds : List D)
  | dct (kvs : List (NestedKey × D × D))
  | dks (kvs : List (Key × D))
  | lck (kvs : List (NestedKey × D × D))
  | ins (C : Addr) (fs : List (Str × D))
abbrev Sto := List O
abbrev Env := List (Option D)
/-- numbered addresses, and addresses that no data may stand at -/
structure Mp where
  m : List Addr
  x : List Addr
variable {K : PySem.W.Frag}
def LsR (K : PySem.W.Frag) (H : Hp) (μ : Mp) (a : Addr) (xs : List V) : Prop :=
  (Rd H a (.lst xs) ∧ a ∉ μ.m ∧ a ∉ μ.x) ∨
    ∃ (o : Obj) (its : Array Value) (n : Nat), K.lookup a = some o ∧ o.cls = .type "list" ∧ o.dict = none ∧ o.data = .seq its n ∧ its.size ≤ sizeLine ∧ Vals xs its.toList
def TpR (K : PySem.W.Frag) (H : Hp) (μ : Mp) (a : Addr) (xs : List V) : Prop :=
  (Rd H a (.tup xs) ∧ a ∉ μ.m ∧ a ∉ μ.x) ∨
    ∃ (o : Obj) (its : Array Value) (n : Nat), K.lookup a = some o ∧ o.cls = .type "tuple" ∧ o.data = .seq its n ∧ its.size ≤ sizeLine ∧ Vals xs its.toList
def PlR (H : Hp) (μ : Mp) (a : Addr) (xs : List V) : Prop := H a = some (.lst xs) ∧ a ∉ μ.m ∧ a ∉ μ.x
theorem PlR.sq {H : Hp} {μ : Mp} {a : Addr} {xs : List V} (h : PlR H μ a xs) : SqL K H a xs := .inl (.inl h.1)
theorem LsR.sq {H : Hp} {μ : Mp} {a : Addr} {xs : List V} (h : LsR K H μ a xs) : SqL K H a xs := h.imp (fun h => h.1) id
theorem TpR.sq {H : Hp} {μ : Mp} {a : Addr} {xs : List V} (h : TpR K H μ a xs) : SqT K H a xs := h.imp (fun h => h.1) id
mutual
inductive Rv (K : PySem.W.Frag) (H : Hp) (μ : Mp) : V → D → Prop
  | non : Rv K H μ .non .non
  | bl (b : Bool) : Rv K H μ (.bl b) (.bl b)
  | int (i : Int) : Rv K H μ (.int i) (.int i)
  | str (x : Str) : Rv K H μ (.str x) (.str x)
  | tup {a : Addr} {xs : List V} {ds : List D} : TpR K H μ a xs → RvAll K H μ xs ds → Rv K H μ (.ref a) (.tup ds)
  | lst {a : Addr} {xs : List V} {ds : List D} : PlR H μ a xs → RvAll K H μ xs ds → Rv K H μ (.ref a) (.lst ds)
  | scr {a : Addr} {xs : List V} {ds : List D} : LsR K H μ a xs → RvAll K H μ xs ds → Rv K H μ (.ref a) (.scr ds)
  | obj {k : Nat} {a : Addr} : μ.m[k]? = some a → Rv K H μ (.ref a) (.obj k)
  | glo (v : V) : Rv K H μ v (.glo v)
inductive RvAll (K : PySem.W.Frag) (H : Hp) (μ : Mp) : List V → List D → Prop
  | nil : RvAll K H μ [] []
  | cons {v : V} {vs : List V} {d : D} {ds : List D} : Rv K H μ v d → RvAll K H μ vs ds → RvAll K H μ (v :: vs) (d :: ds)
end
/-- what may become of the heap: new numbers, no unnumbered thing changed -/
structure Later (μ : Mp) (H : Hp) (μ' : Mp) (H' : Hp) : Prop where
  ext : ∃ e, μ'.m = μ.m ++ e
  ex : ∀ a, a ∈ μ.x → a ∈ μ'.x
  keep : ∀ a o, H a = some o → a ∉ μ.m → a ∉ μ'.m ∧ (a ∉ μ.x → a ∉ μ'.x) ∧ H' a = some o
  frz : ∀ a o u, H a = some (.frz o u) → H' a = some (.frz o u)
theorem Later.refl (μ : Mp) (H : Hp) : Later μ H μ H := ⟨⟨[], by simp⟩, fun _ h => h, fun _ _ h n => ⟨n, id, h⟩, fun _ _ _ h => h⟩
theorem Later.trans {μ μ1 μ2 : Mp} {H H1 H2 : Hp} (x : Later μ H μ1 H1) (y : Later μ1 H1 μ2 H2) : Later μ H μ2 H2 := by
  refine ⟨?_, fun a h => y.ex a (x.ex a h), fun a o h n => ?_, fun a o u h => y.frz a o u (x.frz a o u h)⟩
  · obtain ⟨e, h1⟩ := x.ext
    obtain ⟨f, h2⟩ := y.ext
    exact ⟨e ++ f, by rw [h2, h1, List.append_assoc]⟩
  · obtain ⟨n1, g1, h1⟩ := x.keep a o h n
    obtain ⟨n2, g2, h2⟩ := y.keep a o h1 n1
    exact ⟨n2, fun z => g2 (g1 z), h2⟩
/-- what data lean on -/
structure Dat (μ : Mp) (H : Hp) (μ' : Mp) (H' : Hp) : Prop where
  ext : ∃ e, μ'.m = μ.m ++ e
  keep : ∀ a o, H a = some o → a ∉ μ.m → a ∉ μ.x → a ∉ μ'.m ∧ a ∉ μ'.x ∧ H' a = some o
theorem Later.dat {μ μ' : Mp} {H H' : Hp} (x : Later μ H μ' H') : Dat μ H μ' H' := ⟨x.ext, fun a o h n nx => let ⟨h1, h2, h3⟩ := x.keep a o h n; ⟨h1, h2 nx, h3⟩⟩
theorem Dat.rd {μ μ' : Mp} {H H' : Hp} (x : Dat μ H μ' H') {a : Addr} {u : HO} (h : Rd H a u ∧ a ∉ μ.m ∧ a ∉ μ.x) : Rd H' a u ∧ a ∉ μ'.m ∧ a ∉ μ'.x := by
  obtain ⟨h, n, nx⟩ := h
  rcases h with h | ⟨o, h⟩
  · obtain ⟨n1, g1, h1⟩ := x.keep _ _ h n nx
    exact ⟨.inl h1, n1, g1⟩
  · obtain ⟨n1, g1, h1⟩ := x.keep _ _ h n nx
    exact ⟨.inr ⟨o, h1⟩, n1, g1⟩
theorem Later.rd {μ μ' : Mp} {H H' : Hp} (x : Later μ H μ' H') {a : Addr} {u : HO} (h : Rd H a u ∧ a ∉ μ.m ∧ a ∉ μ.x) : Rd H' a u ∧ a ∉ μ'.m ∧ a ∉ μ'.x := x.dat.rd h
mutual
theorem Rv.dat {μ μ' : Mp} {H H' : Hp} (s : Dat μ H μ' H') : ∀ {v : V} {d : D}, Rv K H μ v d → Rv K H' μ' v d
  | _, _, .non => .non
  | _, _, .bl b => .bl b
  | _, _, .int i => .int i
  | _, _, .str x => .str x
  | _, _, .tup h q => .tup (h.imp s.rd id) (RvAll.dat s q)
  | _, _, .lst h q => .lst (let z := s.keep _ _ h.1 h.2.1 h.2.2; ⟨z.2.2, z.1, z.2.1⟩) (RvAll.dat s q)
  | _, _, .scr h q => .scr (h.imp s.rd id) (RvAll.dat s q)
  | _, _, .obj h => .obj (by
    obtain ⟨e, z⟩ := s.ext
    rw [z, List.getElem?_append_left (List.getElem?_eq_some_iff.mp h).1]
    exact h)
  | _, _, .glo v => .glo v
theorem RvAll.dat {μ μ' : Mp} {H H' : Hp} (s : Dat μ H μ' H') : ∀ {vs : List V} {ds : List D}, RvAll K H μ vs ds → RvAll K H' μ' vs ds
  | _, _, .nil => .nil
  | _, _, .cons h q => .cons (Rv.dat s h) (RvAll.dat s q)
end
theorem Rv.later {μ μ' : Mp} {H H' : Hp} (s : Later μ H μ' H') {v : V} {d : D} (h : Rv K H μ v d) : Rv K H' μ' v d := h.dat s.dat
theorem RvAll.later {μ μ' : Mp} {H H' : Hp} (s : Later μ H μ' H') {vs : List V} {ds : List D} (h : RvAll K H μ vs ds) : RvAll K H' μ' vs ds := h.dat s.dat
theorem RvAll.length {H : Hp} {μ : Mp} : ∀ {vs : List V} {ds : List D}, RvAll K H μ vs ds → vs.length = ds.length
  | _, _, .nil => rfl
  | _, _, .cons h q => by rw [List.length_cons, List.length_cons, RvAll.length q]
theorem RvAll.get {H : Hp} {μ : Mp} : ∀ {vs : List V} {ds : List D}, RvAll K H μ vs ds → ∀ (i : Nat) {d : D}, ds[i]? = some d → ∃ v, vs[i]? = some v ∧ Rv K H μ v d
  | _, _, .nil, i, _, e => by simp at e
  | _, _, .cons h q, 0, _, e => ⟨_, rfl, (Option.some.inj e) ▸ h⟩
  | _, _, .cons h q, i + 1, _, e => RvAll.get q i e
theorem RvAll.getV {H : Hp} {μ : Mp} : ∀ {vs : List V} {ds : List D}, RvAll K H μ vs ds → ∀ (i : Nat) {v : V}, vs[i]? = some v → ∃ d, ds[i]? = some d ∧ Rv K H μ v d
  | _, _, .nil, i, _, e => by simp at e
  | _, _, .cons h q, 0, _, e => ⟨_, rfl, (Option.some.inj e) ▸ h⟩
  | _, _, .cons h q, i + 1, _, e => RvAll.getV q i e
theorem RvAll.append {H : Hp} {μ : Mp} : ∀ {vs us : List V} {ds es : List D}, RvAll K H μ vs ds → RvAll K H μ us es → RvAll K H μ (vs ++ us) (ds ++ es)
  | _, _, _, _, .nil, q => q
  | _, _, _, _, .cons h r, q => .cons h (RvAll.append r q)
theorem RvAll.drop {H : Hp} {μ : Mp} : ∀ {vs : List V} {ds : List D} (n : Nat), RvAll K H μ vs ds → RvAll K H μ (vs.drop n) (ds.drop n)
  | _, _, 0, h => h
  | _, _, _ + 1, .nil => .nil
  | _, _, n + 1, .cons _ q => RvAll.drop n q
theorem RvAll.take {H : Hp} {μ : Mp} : ∀ {vs : List V} {ds : List D} (n : Nat), RvAll K H μ vs ds → RvAll K H μ (vs.take n) (ds.take n)
  | _, _, 0, _ => .nil
  | _, _, _ + 1, .nil => .nil
  | _, _, n + 1, .cons h q => .cons h (RvAll.take n q)
theorem RvAll.set {H : Hp} {μ : Mp} {v : V} {d : D} (r : Rv K H μ v d) : ∀ {vs : List V} {ds : List D} (n : Nat), RvAll K H μ vs ds → RvAll K H μ (vs.set n v) (ds.set n d)
  | _, _, _, .nil => .nil
  | _, _, 0, .cons _ q => .cons r q
  | _, _, n + 1, .cons h q => .cons h (RvAll.set r n q)
theorem RvAll.dropLast {H : Hp} {μ : Mp} {vs : List V} {ds : List D} (h : RvAll K H μ vs ds) : RvAll K H μ vs.dropLast ds.dropLast := by
  rw [List.dropLast_eq_take, List.dropLast_eq_take, h.length]
  exact h.take _
theorem RvAll.reverse {H : Hp} {μ : Mp} : ∀ {vs : List V} {ds : List D}, RvAll K H μ vs ds → RvAll K H μ vs.reverse ds.reverse
  | _, _, .nil => .nil
  | _, _, .cons h q => by
    rw [List.reverse_cons, List.reverse_cons]
    exact (RvAll.reverse q).append (.cons h .nil)
/-! a dict with tuples as keys, told by its entries -/
def DictE (P : Program) (w : World) (a : Addr) (xs : List (NestedKey × Addr × V)) : HO := .ext fun h => (a == sysModules) = false ∧ xs.length ≤ sizeLine ∧ (xs.map (·.1)).Nodup ∧
  ∃ ys : List (NestedKey × Addr × Value), Paired (fun (p : NestedKey × Addr × V) (q : NestedKey × Addr × Value) => p.1 = q.1 ∧ p.2.1 = q.2.1 ∧ RelV p.2.2 q.2.2) xs ys ∧
    ∃ o es ep, h.get? a = some o ∧ o.ExactDict ∧ o.data = .dict es ep ∧ es.toList = ys.map (entryOfKey (nestedKind P w))
mutual
/-- the key that a value is -/
def D.key : D → Option NestedKey
  | .non => some .none
  | .int i => some (.num i)
  | .str x => some (.text x)
  | .tup ds => (D.keys ds).map .tup
  | _ => none
def D.keys : List D → Option (List NestedKey)
  | [] => some []
  | d :: ds => match D.key d, D.keys ds with
    | some k, some ks => some (k :: ks)
    | _, _ => none
end
inductive KsR (K : PySem.W.Frag) (H : Hp) (μ : Mp) : List (NestedKey × Addr × V) → List (NestedKey × D × D) → Prop
  | nil : KsR K H μ [] []
  | cons {k : NestedKey} {b : Addr} {v : V} {e d : D} {xs ys} : D.key e = some k → k.depth ≤ 8 → Rv K H μ (.ref b) e → Rv K H μ v d → KsR K H μ xs ys → KsR K H μ ((k, b, v) :: xs) ((k, e, d) :: ys)
inductive KvR (K : PySem.W.Frag) (H : Hp) (μ : Mp) : List (Key × V) → List (Key × D) → Prop
  | nil : KvR K H μ [] []
  | cons {k : Key} {v : V} {d : D} {xs ys} : Rv K H μ v d → KvR K H μ xs ys → KvR K H μ ((k, v) :: xs) ((k, d) :: ys)
inductive FsR (K : PySem.W.Frag) (H : Hp) (μ : Mp) : List (Str × V) → List (Str × D) → Prop
  | nil : FsR K H μ [] []
  | cons {k : Str} {v : V} {d : D} {xs ys} : Rv K H μ v d → FsR K H μ xs ys → FsR K H μ ((k, v) :: xs) ((k, d) :: ys)
/-- what stands at a numbered address -/
def OR (P : Program) (w : World) (K : PySem.W.Frag) (H : Hp) (μ : Mp) (a : Addr) : O → Prop
  | .lst ds => ∃ xs, H a = some (.lst xs) ∧ RvAll K H μ xs ds
  | .dct kvs => ∃ xs, H a = some (DictE P w a xs) ∧ KsR K H μ xs kvs
  | .dks kvs => ∃ xs, H a = some (.dK xs) ∧ KvR K H μ xs kvs
  | .lck kvs => ∃ od xs, H a = some (.frz od (DictE P w a xs)) ∧ KsR K H μ xs kvs
  | .ins C fs => ∃ dx gs, H a = some (.ins C dx gs) ∧ FsR K H μ gs fs
theorem KsR.dat {μ μ' : Mp} {H H' : Hp} (s : Dat μ H μ' H') : ∀ {xs ys}, KsR K H μ xs ys → KsR K H' μ' xs ys
  | _, _, .nil => .nil
  | _, _, .cons h0 h1 h2 h3 q => .cons h0 h1 (h2.dat s) (h3.dat s) (KsR.dat s q)
theorem KvR.dat {μ μ' : Mp} {H H' : Hp} (s : Dat μ H μ' H') : ∀ {xs ys}, KvR K H μ xs ys → KvR K H' μ' xs ys
  | _, _, .nil => .nil
  | _, _, .cons h3 q => .cons (h3.dat s) (KvR.dat s q)
theorem FsR.dat {μ μ' : Mp} {H H' : Hp} (s : Dat μ H μ' H') : ∀ {xs ys}, FsR K H μ xs ys → FsR K H' μ' xs ys
  | _, _, .nil => .nil
  | _, _, .cons h3 q => .cons (h3.dat s) (FsR.dat s q)
theorem KsR.later {μ μ' : Mp} {H H' : Hp} (s : Later μ H μ' H') {xs ys} (h : KsR K H μ xs ys) : KsR K H' μ' xs ys := h.dat s.dat
theorem KvR.later {μ μ' : Mp} {H H' : Hp} (s : Later μ H μ' H') {xs ys} (h : KvR K H μ xs ys) : KvR K H' μ' xs ys := h.dat s.dat
theorem FsR.later {μ μ' : Mp} {H H' : Hp} (s : Later μ H μ' H') {xs ys} (h : FsR K H μ xs ys) : FsR K H' μ' xs ys := h.dat s.dat
/-- the numbered things stand -/
structure HR (P : Program) (w : World) (K : PySem.W.Frag) (H : Hp) (μ : Mp) (S : Sto) : Prop where
  len : μ.m.length = S.length
  nd : μ.m.Nodup
  ok : ∀ (k : Nat) (a : Addr) (o : O), μ.m[k]? = some a → S[k]? = some o → OR P w K H μ a o
  there : ∀ a ∈ μ.m, H a ≠ none
  thereX : ∀ a ∈ μ.x, H a ≠ none
  dj : ∀ a ∈ μ.m, a ∉ μ.x
structure ER (K : PySem.W.Frag) (H : Hp) (μ : Mp) (σ : L2.St) (env : Env) : Prop where
  len : σ.length = env.length
  ok : ∀ (i : Nat) (d : D), env[i]? = some (some d) → ∃ v, σ[i]? = some (some v) ∧ Rv K H μ v d
theorem ER.later {μ μ' : Mp} {H H' : Hp} {σ : L2.St} {env : Env} (s : Later μ H μ' H') (e : ER K H μ σ env) : ER K H' μ' σ env :=
  ⟨e.len, fun i d h => let ⟨v, h1, h2⟩ := e.ok i d h; ⟨v, h1, h2.later s⟩⟩
variable {P : Program} {w : World}
theorem HR.free {H : Hp} {μ : Mp} {S : Sto} (h : HR P w K H μ S) {p : Addr} (n : H p = none) : p ∉ μ.m ∧ p ∉ μ.x := ⟨fun z => h.there p z n, fun z => h.thereX p z n⟩
/-- a new unnumbered thing -/
theorem HR.new {H : Hp} {μ : Mp} {S : Sto} {p : Addr} {o : HO} (h : HR P w K H μ S) (n : H p = none) : Later μ H μ (upd H p o) ∧ HR P w K (upd H p o) μ S := by
  have l : Later μ H μ (upd H p o) := ⟨⟨[], by simp⟩, fun _ h => h, fun a u e na => ⟨na, id, by rw [upd_ne (ne_of_none e n)]; exact e⟩, fun a o u e => by rw [upd_ne (ne_of_none e n)]; exact e⟩
  refine ⟨l, h.len, h.nd, fun k a u hk hs => ?_, fun a ha => ?_, fun a ha => ?_, h.dj⟩
  · have ne : a ≠ p := fun z => (h.free n).1 (z ▸ List.mem_of_getElem? hk)
    have q := h.ok k a u hk hs
    cases u with
    | lst ds =>
      obtain ⟨xs, e, r⟩ := q
      exact ⟨xs, by rw [upd_ne ne]; exact e, r.later l⟩
    | dct kvs =>
      obtain ⟨xs, e, r⟩ := q
      exact ⟨xs, by rw [upd_ne ne]; exact e, r.later l⟩
    | dks kvs =>
      obtain ⟨xs, e, r⟩ := q
      exact ⟨xs, by rw [upd_ne ne]; exact e, r.later l⟩
    | lck kvs =>
      obtain ⟨od, xs, e, r⟩ := q
      exact ⟨od, xs, by rw [upd_ne ne]; exact e, r.later l⟩
    | ins C fs =>
      obtain ⟨dx, gs, e, r⟩ := q
      exact ⟨dx, gs, by rw [upd_ne ne]; exact e, r.later l⟩
  · by_cases e : a = p
    · rw [e, upd_same]; simp
    · rw [upd_ne e]; exact h.there a ha
  · by_cases e : a = p
    · rw [e, upd_same]; simp
    · rw [upd_ne e]; exact h.thereX a ha
/-- a later heap that leaves the thing at a as it is -/
theorem OR.dat {μ μ' : Mp} {H H' : Hp} {a : Addr} {o : O} (s : Dat μ H μ' H') (e : H' a = H a) (h : OR P w K H μ a o) : OR P w K H' μ' a o := by
  cases o with
  | lst ds => obtain ⟨xs, e1, r⟩ := h; exact ⟨xs, e.trans e1, r.dat s⟩
  | dct ds => obtain ⟨xs, e1, r⟩ := h; exact ⟨xs, e.trans e1, r.dat s⟩
  | dks ds => obtain ⟨xs, e1, r⟩ := h; exact ⟨xs, e.trans e1, r.dat s⟩
  | lck kvs => obtain ⟨od, xs, e1, r⟩ := h; exact ⟨od, xs, e.trans e1, r.dat s⟩
  | ins C fs => obtain ⟨dx, gs, e1, r⟩ := h; exact ⟨dx, gs, e.trans e1, r.dat s⟩
theorem OR.later {μ μ' : Mp} {H H' : Hp} {a : Addr} {o : O} (s : Later μ H μ' H') (e : H' a = H a) (h : OR P w K H μ a o) : OR P w K H' μ' a o := h.dat s.dat e
end J

set_option autoImplicit false
namespace J
open PySem PySem.Spec PyProof.Rows L2
abbrev FE := Env → Sto → Option (D × Sto)
abbrev FT := Env → Sto → Option (Bool × Sto)
abbrev FA := Env → Sto → Option (List D × Sto)
inductive Fl where
  | nx | rt (d : D) | bk | ct | xc (x : Str) (fs : List (Str × D))
abbrev FS := Env → Sto → Option (Fl × Env × Sto)
/-- an expression computes what f computes -/
def JE (X : Cx) (e : Expr) (f : FE) : Prop := ∃ t : TE, PE X e t ∧ ∀ (σ : L2.St) (H : Hp) (μ : Mp) (env : Env) (S : Sto) (d : D) (S' : Sto) (Q : VK), HR X.prog X.w X.K H μ S → ER X.K H μ σ env → f env S = some (d, S') →
  (∀ v H' μ', Later μ H μ' H' → HR X.prog X.w X.K H' μ' S' → Rv X.K H' μ' v d → Q v H') → t σ H Q
def JT (X : Cx) (e : Expr) (f : FT) : Prop := ∃ t : TT, PT X e t ∧ ∀ (σ : L2.St) (H : Hp) (μ : Mp) (env : Env) (S : Sto) (d : Bool) (S' : Sto) (Q : Bool → Hp → Prop), HR X.prog X.w X.K H μ S → ER X.K H μ σ env → f env S = some (d, S') →
  (∀ H' μ', Later μ H μ' H' → HR X.prog X.w X.K H' μ' S' → Q d H') → t σ H Q
def JW (X : Cx) (e : Expr) (f : FT) : Prop := ∃ t : TT, PW X e t ∧ ∀ (σ : L2.St) (H : Hp) (μ : Mp) (env : Env) (S : Sto) (d : Bool) (S' : Sto) (Q : Bool → Hp → Prop), HR X.prog X.w X.K H μ S → ER X.K H μ σ env → f env S = some (d, S') →
  (∀ H' μ', Later μ H μ' H' → HR X.prog X.w X.K H' μ' S' → Q d H') → t σ H Q
def JA (X : Cx) (es : List Expr) (f : FA) : Prop := ∃ t : TA, PA X es t ∧ ∀ (σ : L2.St) (H : Hp) (μ : Mp) (env : Env) (S : Sto) (ds : List D) (S' : Sto) (Q : List V → Hp → Prop), HR X.prog X.w X.K H μ S → ER X.K H μ σ env → f env S = some (ds, S') →
  (∀ vs H' μ', Later μ H μ' H' → HR X.prog X.w X.K H' μ' S' → RvAll X.K H' μ' vs ds → Q vs H') → t σ H Q
def JK (X : Cx) (ks : List Keyword) (f : FA) : Prop := ∃ t : TA, PK X ks t ∧ ∀ (σ : L2.St) (H : Hp) (μ : Mp) (env : Env) (S : Sto) (ds : List D) (S' : Sto) (Q : List V → Hp → Prop), HR X.prog X.w X.K H μ S → ER X.K H μ σ env → f env S = some (ds, S') →
  (∀ vs H' μ', Later μ H μ' H' → HR X.prog X.w X.K H' μ' S' → RvAll X.K H' μ' vs ds → Q vs H') → t σ H Q
variable {X : Cx}
/-! small readings -/
def fVar (i : Nat) : FE := fun env S => match env[i]? with
  | some (some d) => some (d, S)
  | _ => none
def fC (d : D) : FE := fun _ S => some (d, S)
theorem je_of {e : Expr} {t : TE} {f : FE} (h : PE X e t) (q : ∀ (σ : L2.St) (H : Hp) (μ : Mp) (env : Env) (S : Sto) (d : D) (S' : Sto) (Q : VK), HR X.prog X.w X.K H μ S → ER X.K H μ σ env → f env S = some (d, S') →
  (∀ v H' μ', Later μ H μ' H' → HR X.prog X.w X.K H' μ' S' → Rv X.K H' μ' v d → Q v H') → t σ H Q) : JE X e f := ⟨t, h, q⟩
theorem je_var (i : Nat) {x : Str} {pos : Pos} (hN : X.N[i]? = some x := by rfl) (hv : Vis X.env.scope x := by first | exact Or.inl rfl | exact Or.inr (Or.inl rfl) | exact Or.inr (Or.inr rfl)) (hd : (x == ("__debug__" : Str)) = false := by decide)
    (hcd : (x == ("__classdict__" : Str)) = false := by decide) : JE X (.Name x pos) (fVar i) := by
  refine je_of (pe_var hN hv hd hcd) fun σ H μ env S d S' Q hr er hf q => ?_
  unfold fVar at hf
  cases h : env[i]? with
  | none => rw [h] at hf; cases hf
  | some o =>
    rw [h] at hf
    cases o with
    | none => cases hf
    | some d' =>
      cases hf
      obtain ⟨v, h1, h2⟩ := er.ok i d h
      exact ⟨v, h1, q v H μ (.refl μ H) hr h2⟩
theorem je_const {e : Expr} {v : V} {d : D} (h : PE X e (tC v)) (r : ∀ H μ, Rv X.K H μ v d) : JE X e (fC d) :=
  je_of h fun σ H μ env S d S' Q hr er hf q => by cases hf; exact q v H μ (.refl μ H) hr (r H μ)
theorem je_int {i : Int} {j pos} : JE X (.Constant (.int i) j pos) (fC (.int i)) := je_const pe_int fun _ _ => .int i
theorem je_bl {b : Bool} {j pos} : JE X (.Constant (.bool b) j pos) (fC (.bl b)) := je_const pe_bl fun _ _ => .bl b
theorem je_non {j pos} : JE X (.Constant .none j pos) (fC .non) := je_const pe_non fun _ _ => .non
theorem je_str {x : Str} {j pos} : JE X (.Constant (.str x) j pos) (fC (.str x)) := je_const pe_str fun _ _ => .str x
theorem je_glob {x : Str} {v : V} {u : Value} {d : D} {pos : Pos} (hg : Gl X x) (hm : X.mg x = some u) (r : RelV v u) (rd : ∀ H μ, Rv X.K H μ v d) (hd : (x == ("__debug__" : Str)) = false := by decide) : JE X (.Name x pos) (fC d) :=
  je_const (pe_glob hg hm r hd) rd
theorem je_bltn {x : Str} {v : V} {u : Value} {pos : Pos} (hg : Gl X x) (hm : X.mg x = none) (hv : bootBuiltins x = some u) (r : RelV v u) (hn : x ≠ "__name__" := by decide) (hd : (x == ("__debug__" : Str)) = false := by decide) : JE X (.Name x pos) (fC (.glo v)) :=
  je_const (pe_bltn hg hm hv r hn hd) fun _ _ => .glo v
/-! operators by values -/
abbrev G2 := D → D → Sto → Option (D × Sto)
def RO (P : Program) (w : World) (K : PySem.W.Frag) (r : R2) (g : G2) : Prop := ∀ (H : Hp) (μ : Mp) (S : Sto) (x y : V) (a b d : D) (S' : Sto) (Q : VK), HR P w K H μ S → Rv K H μ x a → Rv K H μ y b → g a b S = some (d, S') →
  (∀ v H' μ', Later μ H μ' H' → HR P w K H' μ' S' → Rv K H' μ' v d → Q v H') → r x y H Q
def fOp (g : G2) (fa fb : FE) : FE := fun env S => match fa env S with
  | none => none
  | some (a, S1) => match fb env S1 with
    | none => none
    | some (b, S2) => g a b S2
def fUn (g : D → Sto → Option (D × Sto)) (fa : FE) : FE := fun env S => match fa env S with
  | none => none
  | some (a, S1) => g a S1
theorem fOp_some {g : G2} {fa fb : FE} {env : Env} {S S' : Sto} {d : D} (h : fOp g fa fb env S = some (d, S')) : ∃ a S1 b S2, fa env S = some (a, S1) ∧ fb env S1 = some (b, S2) ∧ g a b S2 = some (d, S') := by
  unfold fOp at h
  cases h1 : fa env S with
  | none => rw [h1] at h; cases h
  | some p =>
    obtain ⟨a, S1⟩ := p
    rw [h1] at h
    simp only at h
    cases h2 : fb env S1 with
    | none => rw [h2] at h; cases h
    | some q =>
      obtain ⟨b, S2⟩ := q
      rw [h2] at h
      exact ⟨a, S1, b, S2, rfl, h2, h⟩
theorem fUn_some {g : D → Sto → Option (D × Sto)} {fa : FE} {env : Env} {S S' : Sto} {d : D} (h : fUn g fa env S = some (d, S')) : ∃ a S1, fa env S = some (a, S1) ∧ g a S1 = some (d, S') := by
  unfold fUn at h
  cases h1 : fa env S with
  | none => rw [h1] at h; cases h
  | some p =>
    obtain ⟨a, S1⟩ := p
    rw [h1] at h
    exact ⟨a, S1, rfl, h⟩
theorem jop {ta tb : TE} {fa fb : FE} {r : R2} {g : G2} (ro : RO X.prog X.w X.K r g)
    (qa : ∀ (σ : L2.St) (H : Hp) (μ : Mp) (env : Env) (S : Sto) (d : D) (S' : Sto) (Q : VK), HR X.prog X.w X.K H μ S → ER X.K H μ σ env → fa env S = some (d, S') → (∀ v H' μ', Later μ H μ' H' → HR X.prog X.w X.K H' μ' S' → Rv X.K H' μ' v d → Q v H') → ta σ H Q)
    (qb : ∀ (σ : L2.St) (H : Hp) (μ : Mp) (env : Env) (S : Sto) (d : D) (S' : Sto) (Q : VK), HR X.prog X.w X.K H μ S → ER X.K H μ σ env → fb env S = some (d, S') → (∀ v H' μ', Later μ H μ' H' → HR X.prog X.w X.K H' μ' S' → Rv X.K H' μ' v d → Q v H') → tb σ H Q)
    (σ : L2.St) (H : Hp) (μ : Mp) (env : Env) (S : Sto) (d : D) (S' : Sto) (Q : VK) (hr : HR X.prog X.w X.K H μ S) (er : ER X.K H μ σ env) (hf : fOp g fa fb env S = some (d, S')) (q : ∀ v H' μ', Later μ H μ' H' → HR X.prog X.w X.K H' μ' S' → Rv X.K H' μ' v d → Q v H') :
    tOp r ta tb σ H Q := by
  obtain ⟨a, S1, b, S2, h1, h2, h3⟩ := fOp_some hf
  refine qa σ H μ env S a S1 _ hr er h1 fun v1 H1 μ1 l1 hr1 r1 => ?_
  refine qb σ H1 μ1 env S1 b S2 _ hr1 (er.later l1) h2 fun v2 H2 μ2 l2 hr2 r2 => ?_
  exact ro H2 μ2 S2 v1 v2 a b d S' Q hr2 (r1.later l2) r2 h3 fun v H' μ' l => q v H' μ' (l1.trans (l2.trans l))
theorem je_op {op : Operator} {r : R2} {g : G2} {a b : Expr} {fa fb : FE} {pos : Pos} (ho : OpR X (binaryOp op) r) (ro : RO X.prog X.w X.K r g) (ha : JE X a fa) (hb : JE X b fb) : JE X (.BinOp a op b pos) (fOp g fa fb) := by
  obtain ⟨ta, pa, qa⟩ := ha
  obtain ⟨tb, pb, qb⟩ := hb
  exact ⟨_, pe_op ho pa pb, jop ro qa qb⟩
theorem je_cmpR {op : CmpOp} {r : R2} {g : G2} {a b : Expr} {fa fb : FE} {pos : Pos} (ho : OpR X (compareOp op) r) (ro : RO X.prog X.w X.K r g) (ha : JE X a fa) (hb : JE X b fb) (hm : behindInMarks op b = false) : JE X (.Compare a [op] [b] pos) (fOp g fa fb) := by
  obtain ⟨ta, pa, qa⟩ := ha
  obtain ⟨tb, pb, qb⟩ := hb
  exact ⟨_, pe_cmpR ho pa pb hm, jop ro qa qb⟩
def fTest (f : FE) : FT := fun env S => match f env S with
  | some (.bl b, S') => some (b, S')
  | _ => none
theorem fTest_some {f : FE} {env : Env} {S S' : Sto} {b : Bool} (h : fTest f env S = some (b, S')) : f env S = some (.bl b, S') := by
  unfold fTest at h
  split at h
  · rename_i b' S1 e
    cases h
    exact e
  · cases h
theorem jt_cmpR {op : CmpOp} {r : R2} {g : G2} {a b : Expr} {fa fb : FE} {pos : Pos} (ho : OpR X (compareOp op) r) (ro : RO X.prog X.w X.K r g) (ha : JE X a fa) (hb : JE X b fb) (hm : behindInMarks op b = false) : JT X (.Compare a [op] [b] pos) (fTest (fOp g fa fb)) := by
  obtain ⟨ta, pa, qa⟩ := ha
  obtain ⟨tb, pb, qb⟩ := hb
  refine ⟨_, pt_cmpR ho pa pb hm, fun σ H μ env S d S' Q hr er hf q => ?_⟩
  refine jop ro qa qb σ H μ env S _ S' _ hr er (fTest_some hf) fun v H' μ' l h r => ?_
  cases r
  exact ⟨d, rfl, q H' μ' l h⟩
/-- an expression that gives a bool, as a test -/
theorem jt_val {e : Expr} {f : FE} (h : JE X e f) (he : ∀ whole, isTrue e X.env whole = (do let v ← whole; standAt e.pos; holding [v] (truthy v)) := by intro _; rfl) : JT X e (fTest f) := by
  obtain ⟨t, p, q⟩ := h
  refine ⟨_, pt_val p he, fun σ H μ env S d S' Q hr er hf k => ?_⟩
  refine q σ H μ env S _ S' _ hr er (fTest_some hf) fun v H' μ' l h r => ?_
  cases r
  exact ⟨d, rfl, k H' μ' l h⟩
/-- by truth -/
def D.truth (S : Sto) : D → Option Bool
  | .non => some false
  | .bl b => some b
  | .int i => some (i != 0)
  | .str y => if y.length ≤ sizeLine then some ((y.length : Int) != 0) else none
  | .tup ds => some (!ds.isEmpty)
  | .lst ds => some (!ds.isEmpty)
  | .scr ds => some (!ds.isEmpty)
  | .obj k => match S[k]? with
    | some (.lst ds) => some (!ds.isEmpty)
    | some (.dks kvs) => some (!kvs.isEmpty)
    | _ => none
  | .glo _ => none
def fTruth (f : FE) : FT := fun env S => match f env S with
  | some (d, S') => (d.truth S').map fun b => (b, S')
  | none => none
theorem RvAll.empty {K : PySem.W.Frag} {H : Hp} {μ : Mp} {vs : List V} {ds : List D} (h : RvAll K H μ vs ds) : (!ds.isEmpty) = !vs.isEmpty := by cases h <;> rfl
theorem HR.at {P : Program} {w : World} {K : PySem.W.Frag} {H : Hp} {μ : Mp} {S : Sto} {v : V} {k : Nat} {o : O} (hr : HR P w K H μ S) (r : Rv K H μ v (.obj k)) (hk : S[k]? = some o) : ∃ a, v = .ref a ∧ μ.m[k]? = some a ∧ OR P w K H μ a o := by
  cases r with
  | obj h => exact ⟨_, rfl, h, hr.ok k _ o h hk⟩
theorem truth_ok {P : Program} {w : World} {K : PySem.W.Frag} {H : Hp} {μ : Mp} {S : Sto} {v : V} {d : D} {b : Bool} (hr : HR P w K H μ S) (r : Rv K H μ v d) (h : d.truth S = some b) : TruV K v H b := by
  cases r with
  | non => cases h; rfl
  | bl c => cases h; rfl
  | int i => cases h; rfl
  | str y =>
    simp only [D.truth] at h
    split at h
    · cases h
      exact ⟨by assumption, rfl⟩
    · cases h
  | tup h1 h2 => cases h; exact .inr (.inl ⟨_, h1.sq, h2.empty⟩)
  | lst h1 h2 => cases h; exact .inl ⟨_, h1.sq, h2.empty⟩
  | scr h1 h2 => cases h; exact .inl ⟨_, h1.sq, h2.empty⟩
  | @obj k a h1 =>
    simp only [D.truth] at h
    split at h
    · rename_i ds e
      cases h
      obtain ⟨xs, e1, e2⟩ := hr.ok k a _ h1 e
      exact .inl ⟨xs, .inl (.inl e1), e2.empty⟩
    · rename_i ds e
      cases h
      obtain ⟨xs, e1, e2⟩ := hr.ok k a _ h1 e
      exact .inr (.inr ⟨xs, e1, by cases e2 <;> rfl⟩)
    · cases h
  | glo v => cases h
theorem jt_truth {e : Expr} {f : FE} (h : JE X e f) (he : ∀ whole, isTrue e X.env whole = (do let v ← whole; standAt e.pos; holding [v] (truthy v)) := by intro _; rfl) : JT X e (fTruth f) := by
  obtain ⟨t, p, q⟩ := h
  refine ⟨_, pt_truth p he, fun σ H μ env S d S' Q hr er hf k => ?_⟩
  unfold fTruth at hf
  cases h1 : f env S with
  | none => rw [h1] at hf; cases hf
  | some z =>
    obtain ⟨a, S1⟩ := z
    rw [h1] at hf
    simp only at hf
    cases h2 : a.truth S1 with
    | none => rw [h2] at hf; cases hf
    | some c =>
      rw [h2] at hf
      cases hf
      refine q σ H μ env S a _ _ hr er h1 fun v H' μ' l h r => ?_
      exact ⟨d, truth_ok h r h2, k H' μ' l h⟩
/-! and, or, not -/
def fAndT (fa fb : FT) : FT := fun env S => match fa env S with
  | some (true, S1) => fb env S1
  | r => r
def fOrT (fa fb : FT) : FT := fun env S => match fa env S with
  | some (false, S1) => fb env S1
  | r => r
def fNotT (fa : FT) : FT := fun env S => (fa env S).map fun p => (!p.1, p.2)
theorem JW.jt {e : Expr} {f : FT} (h : JW X e f) : JT X e f := let ⟨t, p, q⟩ := h; ⟨t, p.pt, q⟩
theorem jw_and1 {a : Expr} {fa : FT} {pos : Pos} (h : JT X a fa) : JW X (.BoolOp .And [a] pos) fa := let ⟨t, p, q⟩ := h; ⟨t, pw_and1 p, q⟩
theorem jw_or1 {a : Expr} {fa : FT} {pos : Pos} (h : JT X a fa) : JW X (.BoolOp .Or [a] pos) fa := let ⟨t, p, q⟩ := h; ⟨t, pw_or1 p, q⟩
theorem jw_and {a b : Expr} {rest : List Expr} {fa fb : FT} {pos : Pos} (ha : JT X a fa) (hb : JW X (.BoolOp .And (b :: rest) pos) fb) : JW X (.BoolOp .And (a :: b :: rest) pos) (fAndT fa fb) := by
  obtain ⟨ta, pa, qa⟩ := ha
  obtain ⟨tb, pb, qb⟩ := hb
  refine ⟨_, pw_and pa pb, fun σ H μ env S d S' Q hr er hf k => ?_⟩
  unfold fAndT at hf
  cases h1 : fa env S with
  | none => rw [h1] at hf; cases hf
  | some z =>
    obtain ⟨c, S1⟩ := z
    rw [h1] at hf
    refine qa σ H μ env S c S1 _ hr er h1 fun H1 μ1 l h => ?_
    cases c with
    | true => exact qb σ H1 μ1 env S1 d S' Q h (er.later l) hf fun H2 μ2 l2 h2 => k H2 μ2 (l.trans l2) h2
    | false => cases hf; exact k H1 μ1 l h
theorem jw_or {a b : Expr} {rest : List Expr} {fa fb : FT} {pos : Pos} (ha : JT X a fa) (hb : JW X (.BoolOp .Or (b :: rest) pos) fb) : JW X (.BoolOp .Or (a :: b :: rest) pos) (fOrT fa fb) := by
  obtain ⟨ta, pa, qa⟩ := ha
  obtain ⟨tb, pb, qb⟩ := hb
  refine ⟨_, pw_or pa pb, fun σ H μ env S d S' Q hr er hf k => ?_⟩
  unfold fOrT at hf
  cases h1 : fa env S with
  | none => rw [h1] at hf; cases hf
  | some z =>
    obtain ⟨c, S1⟩ := z
    rw [h1] at hf
    refine qa σ H μ env S c S1 _ hr er h1 fun H1 μ1 l h => ?_
    cases c with
    | false => exact qb σ H1 μ1 env S1 d S' Q h (er.later l) hf fun H2 μ2 l2 h2 => k H2 μ2 (l.trans l2) h2
    | true => cases hf; exact k H1 μ1 l h
theorem jt_not {a : Expr} {fa : FT} {pos : Pos} (ha : JT X a fa) : JT X (.UnaryOp .Not a pos) (fNotT fa) := by
  obtain ⟨ta, pa, qa⟩ := ha
  refine ⟨_, pt_not pa, fun σ H μ env S d S' Q hr er hf k => ?_⟩
  unfold fNotT at hf
  cases h1 : fa env S with
  | none => rw [h1] at hf; cases hf
  | some z =>
    obtain ⟨c, S1⟩ := z
    rw [h1] at hf
    cases hf
    exact qa σ H μ env S c S1 _ hr er h1 fun H1 μ1 l h => k H1 μ1 l h
/-- as values: all but the last a bool -/
def fAndV (fa fb : FE) : FE := fun env S => match fa env S with
  | some (.bl true, S1) => fb env S1
  | some (.bl false, S1) => some (.bl false, S1)
  | _ => none
def fOrV (fa fb : FE) : FE := fun env S => match fa env S with
  | some (.bl false, S1) => fb env S1
  | some (.bl true, S1) => some (.bl true, S1)
  | _ => none
def fNotV (fa : FE) : FE := fun env S => match fa env S with
  | some (.bl b, S1) => some (.bl (!b), S1)
  | _ => none
theorem je_one {op} {a : Expr} {f : FE} {pos : Pos} (h : JE X a f) : JE X (.BoolOp op [a] pos) f := let ⟨t, p, q⟩ := h; ⟨t, pe_one p, q⟩
theorem je_and {a b : Expr} {rest : List Expr} {fa fb : FE} {pos : Pos} (ha : JE X a fa) (hb : JE X (.BoolOp .And (b :: rest) pos) fb) : JE X (.BoolOp .And (a :: b :: rest) pos) (fAndV fa fb) := by
  obtain ⟨ta, pa, qa⟩ := ha
  obtain ⟨tb, pb, qb⟩ := hb
  refine ⟨_, pe_and pa pb, fun σ H μ env S d S' Q hr er hf k => ?_⟩
  unfold fAndV at hf
  split at hf
  · rename_i S1 h1
    refine qa σ H μ env S _ S1 _ hr er h1 fun v H1 μ1 l h r => ?_
    cases r
    exact ⟨true, rfl, qb σ H1 μ1 env S1 d S' Q h (er.later l) hf fun v H2 μ2 l2 h2 => k v H2 μ2 (l.trans l2) h2⟩
  · rename_i S1 h1
    cases hf
    refine qa σ H μ env S _ _ _ hr er h1 fun v H1 μ1 l h r => ?_
    cases r
    exact ⟨false, rfl, k _ H1 μ1 l h (.bl false)⟩
  · cases hf
theorem je_or {a b : Expr} {rest : List Expr} {fa fb : FE} {pos : Pos} (ha : JE X a fa) (hb : JE X (.BoolOp .Or (b :: rest) pos) fb) : JE X (.BoolOp .Or (a :: b :: rest) pos) (fOrV fa fb) := by
  obtain ⟨ta, pa, qa⟩ := ha
  obtain ⟨tb, pb, qb⟩ := hb
  refine ⟨_, pe_or pa pb, fun σ H μ env S d S' Q hr er hf k => ?_⟩
  unfold fOrV at hf
  split at hf
  · rename_i S1 h1
    refine qa σ H μ env S _ S1 _ hr er h1 fun v H1 μ1 l h r => ?_
    cases r
    exact ⟨false, rfl, qb σ H1 μ1 env S1 d S' Q h (er.later l) hf fun v H2 μ2 l2 h2 => k v H2 μ2 (l.trans l2) h2⟩
  · rename_i S1 h1
    cases hf
    refine qa σ H μ env S _ _ _ hr er h1 fun v H1 μ1 l h r => ?_
    cases r
    exact ⟨true, rfl, k _ H1 μ1 l h (.bl true)⟩
  · cases hf
theorem je_not {a : Expr} {fa : FE} {pos : Pos} (ha : JE X a fa) : JE X (.UnaryOp .Not a pos) (fNotV fa) := by
  obtain ⟨ta, pa, qa⟩ := ha
  refine ⟨_, pe_not pa, fun σ H μ env S d S' Q hr er hf k => ?_⟩
  unfold fNotV at hf
  split at hf
  · rename_i b S1 h1
    cases hf
    refine qa σ H μ env S _ _ _ hr er h1 fun v H1 μ1 l h r => ?_
    cases r
    exact ⟨b, rfl, k _ H1 μ1 l h (.bl _)⟩
  · cases hf
def fIf (ft : FT) (fa fb : FE) : FE := fun env S => match ft env S with
  | some (true, S1) => fa env S1
  | some (false, S1) => fb env S1
  | none => none
theorem je_ifExp {c a b : Expr} {ft : FT} {fa fb : FE} {pos : Pos} (hc : JT X c ft) (ha : JE X a fa) (hb : JE X b fb) : JE X (.IfExp c a b pos) (fIf ft fa fb) := by
  obtain ⟨tc, pc, qc⟩ := hc
  obtain ⟨ta, pa, qa⟩ := ha
  obtain ⟨tb, pb, qb⟩ := hb
  refine ⟨_, pe_ifExp pc pa pb, fun σ H μ env S d S' Q hr er hf k => ?_⟩
  unfold fIf at hf
  split at hf
  · rename_i S1 h1
    exact qc σ H μ env S _ S1 _ hr er h1 fun H1 μ1 l h => qa σ H1 μ1 env S1 d S' Q h (er.later l) hf fun v H2 μ2 l2 h2 => k v H2 μ2 (l.trans l2) h2
  · rename_i S1 h1
    exact qc σ H μ env S _ S1 _ hr er h1 fun H1 μ1 l h => qb σ H1 μ1 env S1 d S' Q h (er.later l) hf fun v H2 μ2 l2 h2 => k v H2 μ2 (l.trans l2) h2
  · cases hf
/-! arguments and displays -/
def faNil : FA := fun _ S => some ([], S)
def faCons (f : FE) (g : FA) : FA := fun env S => match f env S with
  | none => none
  | some (d, S1) => match g env S1 with
    | none => none
    | some (ds, S2) => some (d :: ds, S2)
theorem faCons_some {f : FE} {g : FA} {env : Env} {S S' : Sto} {ds : List D} (h : faCons f g env S = some (ds, S')) : ∃ d S1 es, f env S = some (d, S1) ∧ g env S1 = some (es, S') ∧ ds = d :: es := by
  unfold faCons at h
  cases h1 : f env S with
  | none => rw [h1] at h; cases h
  | some p =>
    obtain ⟨d, S1⟩ := p
    rw [h1] at h
    simp only at h
    cases h2 : g env S1 with
    | none => rw [h2] at h; cases h
    | some q =>
      obtain ⟨es, S2⟩ := q
      rw [h2] at h
      cases h
      exact ⟨d, S1, es, rfl, h2, rfl⟩
theorem ja_nil : JA X [] faNil := ⟨_, pa_nil, fun σ H μ env S ds S' Q hr er hf k => by cases hf; exact k [] H μ (.refl μ H) hr .nil⟩
theorem ja_cons {e : Expr} {es : List Expr} {f : FE} {g : FA} (ha : JE X e f) (hb : JA X es g) (hs : starEach (e :: es) X.env = (false, eval e X.env) :: starEach es X.env := by rfl) : JA X (e :: es) (faCons f g) := by
  obtain ⟨ta, pa, qa⟩ := ha
  obtain ⟨tb, pb, qb⟩ := hb
  refine ⟨_, pa_cons pa pb hs, fun σ H μ env S ds S' Q hr er hf k => ?_⟩
  obtain ⟨d, S1, es, h1, h2, rfl⟩ := faCons_some hf
  refine qa σ H μ env S d S1 _ hr er h1 fun v H1 μ1 l1 hr1 r1 => ?_
  refine qb σ H1 μ1 env S1 es S' _ hr1 (er.later l1) h2 fun vs H2 μ2 l2 hr2 r2 => ?_
  exact k (v :: vs) H2 μ2 (l1.trans l2) hr2 (.cons (r1.later l2) r2)
theorem jk_nil : JK X [] faNil := ⟨_, pk_nil, fun σ H μ env S ds S' Q hr er hf k => by cases hf; exact k [] H μ (.refl μ H) hr .nil⟩
theorem jk_cons {e : Expr} {kws : List Keyword} {nm : Option Str} {kpos : Pos} {f : FE} {g : FA} (ha : JE X e f) (hb : JK X kws g) : JK X (⟨nm, e, kpos⟩ :: kws) (faCons f g) := by
  obtain ⟨ta, pa, qa⟩ := ha
  obtain ⟨tb, pb, qb⟩ := hb
  refine ⟨_, pk_cons pa pb, fun σ H μ env S ds S' Q hr er hf k => ?_⟩
  obtain ⟨d, S1, es, h1, h2, rfl⟩ := faCons_some hf
  refine qa σ H μ env S d S1 _ hr er h1 fun v H1 μ1 l1 hr1 r1 => ?_
  refine qb σ H1 μ1 env S1 es S' _ hr1 (er.later l1) h2 fun vs H2 μ2 l2 hr2 r2 => ?_
  exact k (v :: vs) H2 μ2 (l1.trans l2) hr2 (.cons (r1.later l2) r2)
def fTup (g : FA) : FE := fun env S => match g env S with
  | some (ds, S') => if ds.length ≤ 1000 then some (.tup ds, S') else none
  | none => none
def fLst (g : FA) : FE := fun env S => match g env S with
  | some (ds, S') => if ds.length ≤ 1000 then some (.lst ds, S') else none
  | none => none
/-- a list that will change -/
def fLstN (g : FA) : FE := fun env S => match g env S with
  | some (ds, S') => if ds.length ≤ 1000 then some (.obj S'.length, S' ++ [.lst ds]) else none
  | none => none
theorem le1000 {n : Nat} (h : n ≤ 1000) : n ≤ sizeLine := Nat.le_of_lt (small1000 h)
theorem je_tup {es : List Expr} {g : FA} {x1 pos} (h : JA X es g) : JE X (.Tuple es x1 pos) (fTup g) := by
  obtain ⟨ta, pa, qa⟩ := h
  refine ⟨_, pe_tup pa, fun σ H μ env S d S' Q hr er hf k => ?_⟩
  unfold fTup at hf
  split at hf
  · rename_i ds S1 h1
    split at hf
    · rename_i hl
      cases hf
      refine qa σ H μ env S ds S' _ hr er h1 fun vs H1 μ1 l1 hr1 r1 => ⟨by rw [r1.length]; exact le1000 hl, fun p np => ?_⟩
      obtain ⟨l2, hr2⟩ := hr1.new (o := .tup vs) np
      exact k _ _ μ1 (l1.trans l2) hr2 (.tup (.inl ⟨.inl upd_same, hr1.free np⟩) (r1.later l2))
    · cases hf
  · cases hf
theorem je_lst {es : List Expr} {g : FA} {pos} (h : JA X es g) : JE X (.List es pos) (fLst g) := by
  obtain ⟨ta, pa, qa⟩ := h
  refine ⟨_, pe_lst pa, fun σ H μ env S d S' Q hr er hf k => ?_⟩
  unfold fLst at hf
  split at hf
  · rename_i ds S1 h1
    split at hf
    · rename_i hl
      cases hf
      refine qa σ H μ env S ds S' _ hr er h1 fun vs H1 μ1 l1 hr1 r1 => ⟨by rw [r1.length]; exact le1000 hl, fun p np => ?_⟩
      obtain ⟨l2, hr2⟩ := hr1.new (o := .lst vs) np
      exact k _ _ μ1 (l1.trans l2) hr2 (.lst ⟨upd_same, hr1.free np⟩ (r1.later l2))
    · cases hf
  · cases hf
/-- a new numbered thing -/
theorem HR.push {P : Program} {w : World} {K : PySem.W.Frag} {H : Hp} {μ : Mp} {S : Sto} {p : Addr} {u : HO} {o : O} (hr : HR P w K H μ S) (np : H p = none) (ho : ∀ H' μ', Later μ H μ' H' → H' p = some u → OR P w K H' μ' p o) :
    ∃ μ', Later μ H μ' (upd H p u) ∧ HR P w K (upd H p u) μ' (S ++ [o]) ∧ μ'.m[S.length]? = some p := by
  have f := hr.free np
  obtain ⟨l0, hr0⟩ := hr.new (o := u) np
  have l : Later μ H ⟨μ.m ++ [p], μ.x⟩ (upd H p u) := ⟨⟨[p], rfl⟩, fun _ h => h, fun a o e n => ⟨fun z => (List.mem_append.mp z).elim n (fun z => ne_of_none e np (List.mem_singleton.mp z)), id, by rw [upd_ne (ne_of_none e np)]; exact e⟩, fun a o u e => by rw [upd_ne (ne_of_none e np)]; exact e⟩
  refine ⟨⟨μ.m ++ [p], μ.x⟩, l, ⟨by simp [hr.len], ?_, fun k a o' hk hs => ?_, fun a ha => ?_, hr0.thereX, fun a ha => (List.mem_append.mp ha).elim (hr.dj a) fun z => by rw [List.mem_singleton.mp z]; exact f.2⟩, by rw [← hr.len]; simp⟩
  · rw [List.nodup_append]
    exact ⟨hr.nd, by simp, fun a ha b hb => by rw [List.mem_singleton.mp hb]; exact fun z => f.1 (z ▸ ha)⟩
  · by_cases hlt : k < μ.m.length
    · have hk' : μ.m[k]? = some a := by rw [← hk]; exact (List.getElem?_append_left hlt).symm
      rw [List.getElem?_append_left (by rw [← hr.len]; exact hlt)] at hs
      have ne : a ≠ p := fun z => f.1 (z ▸ List.mem_of_getElem? hk')
      have q := hr.ok k a o' hk' hs
      exact q.later l (upd_ne ne)
    · have h1 : (μ.m ++ [p])[k]? = some a := hk
      rw [List.getElem?_append_right (by omega)] at h1
      have e : k - μ.m.length = 0 := by
        have := (List.getElem?_eq_some_iff.mp h1).1
        simp at this
        omega
      rw [e] at h1
      have ea : p = a := by simpa using h1
      subst ea
      rw [List.getElem?_append_right (by rw [← hr.len]; omega)] at hs
      rw [← hr.len, e] at hs
      have eo : o = o' := by simpa using hs
      subst eo
      exact ho _ _ l upd_same
  · rcases List.mem_append.mp ha with z | z
    · exact hr0.there a z
    · rw [List.mem_singleton.mp z, upd_same]; simp
theorem je_lstN {es : List Expr} {g : FA} {pos} (h : JA X es g) : JE X (.List es pos) (fLstN g) := by
  obtain ⟨ta, pa, qa⟩ := h
  refine ⟨_, pe_lst pa, fun σ H μ env S d S' Q hr er hf k => ?_⟩
  unfold fLstN at hf
  split at hf
  · rename_i ds S1 h1
    split at hf
    · rename_i hl
      cases hf
      refine qa σ H μ env S ds S1 _ hr er h1 fun vs H1 μ1 l1 hr1 r1 => ⟨by rw [r1.length]; exact le1000 hl, fun p np => ?_⟩
      obtain ⟨μ2, l2, hr2, e2⟩ := hr1.push (o := .lst ds) (u := .lst vs) np fun H' μ' l e => ⟨vs, e, r1.later l⟩
      exact k _ _ μ2 (l1.trans l2) hr2 (.obj e2)
    · cases hf
  · cases hf
end J

set_option autoImplicit false
namespace J
open PySem PySem.Spec PyProof.Rows L2
/-! statements -/
/-- what may be raised -/
def WM (X : Cx) : WX := fun cls d σ H => ∃ W, Takes X W ∧ W cls d σ H
theorem takesM (X : Cx) : Takes X (WM X) := fun u s' x => by
  obtain ⟨a, B, sI, pins, σ, H, cls, d, e, I, nb, up, sky, na, os, ag, W, tk, hw⟩ := x
  exact tk u s' ⟨a, B, sI, pins, σ, H, cls, d, e, I, nb, up, sky, na, os, ag, hw⟩
/-- an exception's own dict -/
def XdR (K : PySem.W.Frag) (H : Hp) (μ : Mp) (d : Option Addr) (fs : List (Str × D)) : Prop := (fs = [] ∧ d = none) ∨ ∃ a gs, d = some a ∧ H a = some (.xd gs) ∧ a ∉ μ.m ∧ FsR K H μ gs fs
theorem XdR.later {K : PySem.W.Frag} {H H' : Hp} {μ μ' : Mp} {d : Option Addr} {fs : List (Str × D)} (l : Later μ H μ' H') (h : XdR K H μ d fs) : XdR K H' μ' d fs := by
  rcases h with h | ⟨a, gs, e1, e2, e3, e4⟩
  · exact .inl h
  · obtain ⟨n1, _, h1⟩ := l.keep a _ e2 e3
    exact .inr ⟨a, gs, e1, h1, n1, e4.later l⟩
def Done (X : Cx) (E : Ends) (fl : Fl) (σ : L2.St) (H : Hp) (μ : Mp) : Prop := match fl with
  | .nx => E.nx σ H
  | .bk => E.bk σ H
  | .ct => E.ct σ H
  | .rt d => ∀ v, Rv X.K H μ v d → E.rt v H
  | .xc x fs => ∀ cls d, X.mg x = some cls → XdR X.K H μ d fs → WM X cls d σ H
def QS (X : Cx) (t : TS) (f : FS) : Prop := ∀ (σ : L2.St) (H : Hp) (μ : Mp) (env : Env) (S : Sto) (fl : Fl) (env' : Env) (S' : Sto) (E : Ends), HR X.prog X.w X.K H μ S → ER X.K H μ σ env → f env S = some (fl, env', S') →
  (∀ σ' H' μ', Later μ H μ' H' → HR X.prog X.w X.K H' μ' S' → ER X.K H' μ' σ' env' → Done X E fl σ' H' μ') → t E σ H
def JS (X : Cx) (st : Stmt) (f : FS) : Prop := ∃ t : TS, PS X st t ∧ QS X t f
def JSs (X : Cx) (st : List Stmt) (f : FS) : Prop := ∃ t : TS, PSs X st t ∧ QS X t f
variable {X : Cx}
def fNext : FS := fun env S => some (.nx, env, S)
def fSeq (f g : FS) : FS := fun env S => match f env S with
  | some (.nx, env1, S1) => g env1 S1
  | r => r
theorem jss_nil : JSs X [] fNext := ⟨_, pss_nil, fun σ H μ env S fl env' S' E hr er hf k => by cases hf; exact k σ H μ (.refl μ H) hr er⟩
theorem qseq {t u : TS} {f g : FS} (h1 : QS X t f) (h2 : QS X u g) : QS X (tSeq t u) (fSeq f g) := by
  intro σ H μ env S fl env' S' E hr er hf k
  unfold fSeq at hf
  split at hf
  · rename_i env1 S1 e1
    refine h1 σ H μ env S .nx env1 S1 { E with nx := u E } hr er e1 fun σ1 H1 μ1 l1 hr1 er1 => ?_
    exact h2 σ1 H1 μ1 env1 S1 fl env' S' E hr1 er1 hf fun σ2 H2 μ2 l2 hr2 er2 => k σ2 H2 μ2 (l1.trans l2) hr2 er2
  · rename_i e1 ne
    refine h1 σ H μ env S fl env' S' { E with nx := u E } hr er hf fun σ1 H1 μ1 l1 hr1 er1 => ?_
    have q := k σ1 H1 μ1 l1 hr1 er1
    cases fl with
    | nx => exact absurd hf (ne env' S')
    | bk => exact q
    | ct => exact q
    | rt d => exact q
    | xc x fs => exact q
theorem jss_cons {st : Stmt} {rest : List Stmt} {f g : FS} (h1 : JS X st f) (h2 : JSs X rest g) : JSs X (st :: rest) (fSeq f g) := by
  obtain ⟨t, p, q⟩ := h1
  obtain ⟨u, p', q'⟩ := h2
  exact ⟨_, pss_cons p p', qseq q q'⟩
theorem jss_one {st : Stmt} {f : FS} (h1 : JS X st f) : JSs X [st] f := let ⟨t, p, q⟩ := h1; ⟨t, pss_one p, q⟩
def fNone : FS := fun _ _ => none
theorem js_never {st : Stmt} : JS X st fNone := ⟨_, ps_never, fun σ H μ env S fl env' S' E hr er hf k => by cases hf⟩
theorem js_pass {pos : Pos} : JS X (.Pass pos) fNext := ⟨_, ps_pass, fun σ H μ env S fl env' S' E hr er hf k => by cases hf; exact k σ H μ (.refl μ H) hr er⟩
def fBrk : FS := fun env S => some (.bk, env, S)
def fCnt : FS := fun env S => some (.ct, env, S)
theorem js_break {pos : Pos} : JS X (.Break pos) fBrk := ⟨_, ps_break, fun σ H μ env S fl env' S' E hr er hf k => by cases hf; exact k σ H μ (.refl μ H) hr er⟩
theorem js_continue {pos : Pos} : JS X (.Continue pos) fCnt := ⟨_, ps_continue, fun σ H μ env S fl env' S' E hr er hf k => by cases hf; exact k σ H μ (.refl μ H) hr er⟩
def fDrop (f : FE) : FS := fun env S => match f env S with
  | some (_, S1) => some (.nx, env, S1)
  | none => none
theorem js_expr {e : Expr} {f : FE} {pos : Pos} (h : JE X e f) (hs : swapsWith e none pos.line X.env = pure false := by rfl) : JS X (.Expr e pos) (fDrop f) := by
  obtain ⟨t, p, q⟩ := h
  refine ⟨_, ps_expr p hs, fun σ H μ env S fl env' S' E hr er hf k => ?_⟩
  unfold fDrop at hf
  split at hf
  · rename_i d S1 e1
    cases hf
    exact q σ H μ env S d _ _ hr er e1 fun v H1 μ1 l1 hr1 r1 => k σ H1 μ1 l1 hr1 (er.later l1)
  · cases hf
def fRet (f : FE) : FS := fun env S => match f env S with
  | some (d, S1) => some (.rt d, env, S1)
  | none => none
theorem js_ret {e : Expr} {f : FE} {pos : Pos} (h : JE X e f) : JS X (.Return (some e) pos) (fRet f) := by
  obtain ⟨t, p, q⟩ := h
  refine ⟨_, ps_ret p, fun σ H μ env S fl env' S' E hr er hf k => ?_⟩
  unfold fRet at hf
  split at hf
  · rename_i d S1 e1
    cases hf
    exact q σ H μ env S d _ _ hr er e1 fun v H1 μ1 l1 hr1 r1 => k σ H1 μ1 l1 hr1 (er.later l1) v r1
  · cases hf
def fRetN : FS := fun env S => some (.rt .non, env, S)
theorem js_retN {pos : Pos} : JS X (.Return none pos) fRetN := ⟨_, ps_retN, fun σ H μ env S fl env' S' E hr er hf k => by cases hf; exact k σ H μ (.refl μ H) hr er _ .non⟩
def fIfS (c : FT) (f g : FS) : FS := fun env S => match c env S with
  | some (true, S1) => f env S1
  | some (false, S1) => g env S1
  | none => none
theorem js_if {c : Expr} {a b : List Stmt} {fc : FT} {f g : FS} {pos : Pos} (hc : JT X c fc) (ha : JSs X a f) (hb : JSs X b g) : JS X (.If c a b pos) (fIfS fc f g) := by
  obtain ⟨tc, pc, qc⟩ := hc
  obtain ⟨ta, pa, qa⟩ := ha
  obtain ⟨tb, pb, qb⟩ := hb
  refine ⟨_, ps_if pc pa pb, fun σ H μ env S fl env' S' E hr er hf k => ?_⟩
  unfold fIfS at hf
  split at hf
  · rename_i S1 e1
    exact qc σ H μ env S _ S1 _ hr er e1 fun H1 μ1 l1 hr1 => qa σ H1 μ1 env S1 fl env' S' E hr1 (er.later l1) hf fun σ2 H2 μ2 l2 hr2 er2 => k σ2 H2 μ2 (l1.trans l2) hr2 er2
  · rename_i S1 e1
    exact qc σ H μ env S _ S1 _ hr er e1 fun H1 μ1 l1 hr1 => qb σ H1 μ1 env S1 fl env' S' E hr1 (er.later l1) hf fun σ2 H2 μ2 l2 hr2 er2 => k σ2 H2 μ2 (l1.trans l2) hr2 er2
  · cases hf
/-! targets -/
abbrev FG := D → Env → Sto → Option (Env × Sto)
def QG (X : Cx) (t : TG) (g : FG) (ws : List Nat) : Prop := ∀ (σ : L2.St) (H : Hp) (μ : Mp) (env : Env) (S : Sto) (v : V) (d : D) (env' : Env) (S' : Sto) (Q : L2.St → Hp → Prop), HR X.prog X.w X.K H μ S → ER X.K H μ σ env → Rv X.K H μ v d → g d env S = some (env', S') →
  (∀ σ' H' μ', Later μ H μ' H' → HR X.prog X.w X.K H' μ' S' → ER X.K H' μ' σ' env' → (σ'.length = σ.length ∧ ∀ j, j ∉ ws → σ'[j]? = σ[j]?) → Q σ' H') → t v σ H Q
def JG (X : Cx) (e : Expr) (g : FG) (ws : List Nat) : Prop := ∃ t : TG, PG X e t ∧ QG X t g ws
abbrev FGs := List D → Env → Sto → Option (Env × Sto)
def JGs (X : Cx) (es : List Expr) (g : FGs) (ws : List Nat) : Prop := ∃ t : TGs, PGs X es t ∧ ∀ (σ : L2.St) (H : Hp) (μ : Mp) (env : Env) (S : Sto) (vs : List V) (ds : List D) (env' : Env) (S' : Sto) (Q : L2.St → Hp → Prop), HR X.prog X.w X.K H μ S → ER X.K H μ σ env → RvAll X.K H μ vs ds → g ds env S = some (env', S') →
  (∀ σ' H' μ', Later μ H μ' H' → HR X.prog X.w X.K H' μ' S' → ER X.K H' μ' σ' env' → (σ'.length = σ.length ∧ ∀ j, j ∉ ws → σ'[j]? = σ[j]?) → Q σ' H') → t vs σ H Q
theorem ER.set {K : PySem.W.Frag} {H : Hp} {μ : Mp} {σ : L2.St} {env : Env} (er : ER K H μ σ env) {v : V} {d : D} (r : Rv K H μ v d) (i : Nat) : ER K H μ (σ.set i (some v)) (env.set i (some d)) := by
  refine ⟨by simp [er.len], fun j e h => ?_⟩
  by_cases hj : i = j
  · subst hj
    have hl : i < env.length := by
      have := (List.getElem?_eq_some_iff.mp h).1
      simpa using this
    rw [List.getElem?_set_self hl] at h
    cases h
    exact ⟨v, List.getElem?_set_self (by rw [er.len]; exact hl), r⟩
  · rw [List.getElem?_set_ne hj] at h
    obtain ⟨u, h1, h2⟩ := er.ok j e h
    exact ⟨u, by rw [List.getElem?_set_ne hj]; exact h1, h2⟩
def gNm (i : Nat) : FG := fun d env S => some (env.set i (some d), S)
theorem qg_name (i : Nat) : QG X (gName i) (gNm i) [i] := fun σ H μ env S v d env' S' Q hr er r hg k => by
  cases hg
  exact k _ H μ (.refl μ H) hr (er.set r i) ⟨by simp, fun j hj => List.getElem?_set_ne (fun z => hj (by simp [z]))⟩
theorem jg_name {i : Nat} {x : Str} {pos : Pos} (hN : X.N.Nodup) (hi : X.N[i]? = some x) (hx : Loc X.env.scope x) (hf : X.fn x = true ∨ X.env.scope.names.lookup x = some .local := by first | exact .inl rfl | exact .inr rfl | assumption) : JG X (.Name x pos) (gNm i) [i] :=
  ⟨_, pg_name hN hi hx hf, qg_name i⟩
def gNil : FGs := fun ds env S => match ds with
  | [] => some (env, S)
  | _ => none
def gCons (g : FG) (h : FGs) : FGs := fun ds env S => match ds with
  | d :: ds => match g d env S with
    | some (env1, S1) => h ds env1 S1
    | none => none
  | [] => none
theorem jgs_nil : JGs X [] gNil [] := ⟨_, pgs_nil, fun σ H μ env S vs ds env' S' Q hr er r hg k => by
  cases r with
  | nil => cases hg; exact ⟨rfl, k σ H μ (.refl μ H) hr er ⟨rfl, fun _ _ => rfl⟩⟩
  | cons r1 r2 => cases hg⟩
theorem jgs_cons {e : Expr} {es : List Expr} {g : FG} {h : FGs} {ws us : List Nat} (h1 : JG X e g ws) (h2 : JGs X es h us) (hs : (assignEach (e :: es) X.env).map (·.2) = assign e X.env :: (assignEach es X.env).map (·.2) := by rfl) : JGs X (e :: es) (gCons g h) (ws ++ us) := by
  obtain ⟨t, p, q⟩ := h1
  obtain ⟨u, p', q'⟩ := h2
  refine ⟨_, pgs_cons p p' hs, fun σ H μ env S vs ds env' S' Q hr er r hg k => ?_⟩
  cases r with
  | nil => cases hg
  | cons r1 r2 =>
    simp only [gCons] at hg
    split at hg
    · rename_i env1 S1 e1
      refine ⟨_, _, rfl, q σ H μ env S _ _ env1 S1 _ hr er r1 e1 fun σ1 H1 μ1 l1 hr1 er1 w1 => ?_⟩
      exact q' σ1 H1 μ1 env1 S1 _ _ env' S' Q hr1 er1 (r2.later l1) hg fun σ2 H2 μ2 l2 hr2 er2 w2 => k σ2 H2 μ2 (l1.trans l2) hr2 er2 ⟨w2.1.trans w1.1, fun j hj => (w2.2 j fun z => hj (List.mem_append_right _ z)).trans (w1.2 j fun z => hj (List.mem_append_left _ z))⟩
    · cases hg
/-- a tuple taken apart -/
def gTp (n : Nat) (h : FGs) : FG := fun d env S => match d with
  | .tup ds => if ds.length = n then h ds env S else none
  | _ => none
theorem jg_tup {es : List Expr} {k : Nat} {h : FGs} {n : Nat} {ws : List Nat} {pos : Pos} (hc : X.calm = true) (hs : JGs X es h ws)
    (hn : (assignEach es X.env).length = n := by rfl) (hst : (assignEach es X.env).findIdx? (·.1) = none := by rfl) : JG X (.Tuple es k pos) (gTp n h) ws := by
  obtain ⟨t, p, q⟩ := hs
  refine ⟨_, pg_tup hc p hn hst, fun σ H μ env S v d env' S' Q hr er r hg kk => ?_⟩
  cases r with
  | tup h1 h2 =>
    simp only [gTp] at hg
    split at hg
    · rename_i hl
      exact ⟨_, _, rfl, h1.sq, h2.length.trans hl, q σ H μ env S _ _ env' S' Q hr er h2 hg kk⟩
    · cases hg
  | _ => cases hg
def fAsg (f : FE) (g : FG) : FS := fun env S => match f env S with
  | some (d, S1) => match g d env S1 with
    | some (env', S2) => some (.nx, env', S2)
    | none => none
  | none => none
theorem qasg {t : TE} {u : TG} {f : FE} {g : FG} {ws : List Nat} (q : ∀ (σ : L2.St) (H : Hp) (μ : Mp) (env : Env) (S : Sto) (d : D) (S' : Sto) (Q : VK), HR X.prog X.w X.K H μ S → ER X.K H μ σ env → f env S = some (d, S') → (∀ v H' μ', Later μ H μ' H' → HR X.prog X.w X.K H' μ' S' → Rv X.K H' μ' v d → Q v H') → t σ H Q) (qg : QG X u g ws) : QS X (tAsg t u) (fAsg f g) := by
  intro σ H μ env S fl env' S' E hr er hf k
  unfold fAsg at hf
  split at hf
  · rename_i d S1 e1
    split at hf
    · rename_i env1 S2 e2
      cases hf
      exact q σ H μ env S d S1 _ hr er e1 fun v H1 μ1 l1 hr1 r1 => qg σ H1 μ1 env S1 v d _ _ _ hr1 (er.later l1) r1 e2 fun σ2 H2 μ2 l2 hr2 er2 _ => k σ2 H2 μ2 (l1.trans l2) hr2 er2
    · cases hf
  · cases hf
theorem js_asg {tg e : Expr} {f : FE} {g : FG} {ws : List Nat} {pos : Pos} (he : JE X e f) (hg : JG X tg g ws) (hs : swapsWithSole [tg] e pos.line X.env = pure false := by rfl) (hw : swappedStores [tg] e X.env = pure none := by rfl)
    (h1 : (assignEach [tg] X.env).map (·.2) = [assign tg X.env] := by rfl) : JS X (.Assign [tg] e pos) (fAsg f g) := by
  obtain ⟨t, p, q⟩ := he
  obtain ⟨u, p', q'⟩ := hg
  exact ⟨_, ps_asg p p' hs hw h1, qasg q q'⟩
theorem js_set {i : Nat} {x : Str} {e : Expr} {f : FE} {pos pos' : Pos} (hN : X.N.Nodup) (hi : X.N[i]? = some x) (hx : Loc X.env.scope x) (he : JE X e f) (hs : swapsWith e (some (.Name x pos')) pos.line X.env = pure false := by rfl) (hf : X.fn x = true ∨ X.env.scope.names.lookup x = some .local := by first | exact .inl rfl | exact .inr rfl | assumption) :
    JS X (.Assign [.Name x pos'] e pos) (fAsg f (gNm i)) := by
  obtain ⟨t, p, q⟩ := he
  exact ⟨_, ps_set hN hi hx p hs hf, qasg q (qg_name i)⟩
/-- a, b = x, y -/
def fPar (i j : Nat) (g : FA) : FS := fun env S => match g env S with
  | some ([d, e], S1) => some (.nx, (env.set i (some d)).set j (some e), S1)
  | _ => none
theorem js_par {i j : Nat} {x y : Str} {a b : Expr} {g : FA} {px py pt pos : Pos} {kt k2 pt2} (hc : X.calm = true) (hN : X.N.Nodup) (hi : X.N[i]? = some x) (hj : X.N[j]? = some y) (hij : i ≠ j)
    (hx : X.env.scope.names.lookup x = some .local) (hy : X.env.scope.names.lookup y = some .local) (ha : JA X [a, b] g)
    (hw : swappedStores [.Tuple [.Name x px, .Name y py] kt pt] (.Tuple [a, b] k2 pt2) X.env = pure (some [x, y]))
    (hs : swapsWithSole [.Tuple [.Name x px, .Name y py] kt pt] (.Tuple [a, b] k2 pt2) pos.line X.env = pure false := by rfl) :
    JS X (.Assign [.Tuple [.Name x px, .Name y py] kt pt] (.Tuple [a, b] k2 pt2) pos) (fPar i j g) := by
  obtain ⟨t, p, q⟩ := ha
  refine ⟨_, ps_par hc hN hi hj hij hx hy p hw hs, fun σ H μ env S fl env' S' E hr er hf k => ?_⟩
  unfold fPar at hf
  split at hf
  · rename_i d e S1 e1
    cases hf
    refine q σ H μ env S _ _ _ hr er e1 fun vs H1 μ1 l1 hr1 r1 => ?_
    cases r1 with
    | cons r1 r2 =>
      cases r2 with
      | cons r2 r3 =>
        cases r3
        exact ⟨_, _, rfl, k _ H1 μ1 l1 hr1 (((er.later l1).set r1 i).set r2 j)⟩
  · cases hf
/-! while -/
def iterN (c : FT) (b : FS) : Nat → FS
  | 0, _, _ => none
  | n + 1, env, S => match c env S with
    | some (true, S1) => match b env S1 with
      | some (.nx, env1, S2) => iterN c b n env1 S2
      | some (.ct, env1, S2) => iterN c b n env1 S2
      | some (.bk, env1, S2) => some (.nx, env1, S2)
      | some (.rt d, env1, S2) => some (.rt d, env1, S2)
      | some (.xc x fs, env1, S2) => some (.xc x fs, env1, S2)
      | none => none
    | some (false, S1) => some (.nx, env, S1)
    | none => none
theorem iterN_mono {c : FT} {b : FS} : ∀ {n : Nat} {env : Env} {S : Sto} {r}, iterN c b n env S = some r → iterN c b (n + 1) env S = some r
  | 0, env, S, r, h => by cases h
  | n + 1, env, S, r, h => by
    rw [iterN] at h ⊢
    split at h
    · rename_i S1 e1
      split at h
      · exact iterN_mono h
      · exact iterN_mono h
      · exact h
      · exact h
      · exact h
      · cases h
    · exact h
    · cases h
theorem iterN_le {c : FT} {b : FS} {n m : Nat} {env : Env} {S : Sto} {r} (h : iterN c b n env S = some r) (l : n ≤ m) : iterN c b m env S = some r := by
  induction l with
  | refl => exact h
  | step _ ih => exact iterN_mono ih
open Classical in
noncomputable def fWhile (c : FT) (b : FS) : FS := fun env S => if h : ∃ r n, iterN c b n env S = some r then some (Classical.choose h) else none
theorem fWhile_of {c : FT} {b : FS} {n : Nat} {env : Env} {S : Sto} {r} (h : iterN c b n env S = some r) : fWhile c b env S = some r := by
  have hx : ∃ r n, iterN c b n env S = some r := ⟨r, n, h⟩
  unfold fWhile
  rw [dif_pos hx]
  obtain ⟨m, hm⟩ := Classical.choose_spec hx
  have h1 := iterN_le h (Nat.le_max_left n m)
  have h2 := iterN_le hm (Nat.le_max_right n m)
  rw [h1] at h2
  exact congrArg some (Option.some.inj h2).symm
theorem fWhile_some {c : FT} {b : FS} {env : Env} {S : Sto} {r} (h : fWhile c b env S = some r) : ∃ n, iterN c b n env S = some r := by
  unfold fWhile at h
  split at h
  · rename_i hx
    obtain ⟨m, hm⟩ := Classical.choose_spec hx
    cases h
    exact ⟨m, hm⟩
  · cases h
/-- a turn -/
theorem fWhile_eq (c : FT) (b : FS) (env : Env) (S : Sto) : fWhile c b env S = match c env S with
    | some (true, S1) => match b env S1 with
      | some (.nx, env1, S2) => fWhile c b env1 S2
      | some (.ct, env1, S2) => fWhile c b env1 S2
      | some (.bk, env1, S2) => some (.nx, env1, S2)
      | some (.rt d, env1, S2) => some (.rt d, env1, S2)
      | some (.xc x fs, env1, S2) => some (.xc x fs, env1, S2)
      | none => none
    | some (false, S1) => some (.nx, env, S1)
    | none => none := by
  cases h : fWhile c b env S with
  | some r =>
    obtain ⟨n, hn⟩ := fWhile_some h
    cases n with
    | zero => cases hn
    | succ n =>
      rw [iterN] at hn
      split at hn
      · rename_i S1 e1
        split at hn
        · exact (fWhile_of hn).symm
        · exact (fWhile_of hn).symm
        · exact hn.symm
        · exact hn.symm
        · exact hn.symm
        · cases hn
      · exact hn.symm
      · cases hn
  | none =>
    have no : ∀ r n, iterN c b n env S ≠ some r := fun r n e => by rw [fWhile_of e] at h; cases h
    split
    · rename_i S1 e1
      split
      · rename_i env1 S2 e2
        cases h2 : fWhile c b env1 S2 with
        | none => rfl
        | some r =>
          obtain ⟨n, hn⟩ := fWhile_some h2
          exact absurd (by rw [iterN, e1]; simp only; rw [e2]; exact hn) (no r (n + 1))
      · rename_i env1 S2 e2
        cases h2 : fWhile c b env1 S2 with
        | none => rfl
        | some r =>
          obtain ⟨n, hn⟩ := fWhile_some h2
          exact absurd (by rw [iterN, e1]; simp only; rw [e2]; exact hn) (no r (n + 1))
      · rename_i env1 S2 e2
        exact absurd (by rw [iterN, e1]; simp only; rw [e2]) (no (.nx, env1, S2) 1)
      · rename_i d env1 S2 e2
        exact absurd (by rw [iterN, e1]; simp only; rw [e2]) (no (.rt d, env1, S2) 1)
      · rename_i x fs env1 S2 e2
        exact absurd (by rw [iterN, e1]; simp only; rw [e2]) (no (.xc x fs, env1, S2) 1)
      · rfl
    · rename_i S1 e1
      exact absurd (by rw [iterN, e1]) (no (.nx, env, S1) 1)
    · rfl
theorem js_while {c : Expr} {body : List Stmt} {fc : FT} {f : FS} {pos : Pos} (hp : PassesOwn (model X.prog X.w) X.A X.env X.xe) (hc : JT X c fc) (hb : JSs X body f) : JS X (.While c body [] pos) (fWhile fc f) := by
  obtain ⟨tc, pc, qc⟩ := hc
  obtain ⟨tb, pb, qb⟩ := hb
  refine ⟨_, ps_while hp pc pb, fun σ H μ env S fl env' S' E hr er hf k => ?_⟩
  obtain ⟨n0, hn0⟩ := fWhile_some hf
  refine ⟨fun n σ1 H1 => ∃ μ1 env1 S1, Later μ H μ1 H1 ∧ HR X.prog X.w X.K H1 μ1 S1 ∧ ER X.K H1 μ1 σ1 env1 ∧ iterN fc f n env1 S1 = some (fl, env', S'), ⟨n0, μ, env, S, .refl μ H, hr, er, hn0⟩, ?_⟩
  rintro n σ1 H1 ⟨μ1, env1, S1, l1, hr1, er1, hn⟩
  cases n with
  | zero => cases hn
  | succ n =>
    rw [iterN] at hn
    split at hn
    · rename_i S2 e2
      refine qc σ1 H1 μ1 env1 S1 true S2 _ hr1 er1 e2 fun H2 μ2 l2 hr2 => ?_
      rw [if_pos rfl]
      refine ⟨fun σ3 H3 => ∃ μ3 env3 S3, Later μ H μ3 H3 ∧ HR X.prog X.w X.K H3 μ3 S3 ∧ ER X.K H3 μ3 σ3 env3 ∧ iterN fc f n env3 S3 = some (fl, env', S'), fun σ3 H3 z => ⟨n, Nat.lt_succ_self n, z⟩, ?_⟩
      split at hn
      · rename_i env3 S3 e3
        exact qb σ1 H2 μ2 env1 S2 _ env3 S3 _ hr2 (er1.later l2) e3 fun σ3 H3 μ3 l3 hr3 er3 => ⟨μ3, env3, S3, l1.trans (l2.trans l3), hr3, er3, hn⟩
      · rename_i env3 S3 e3
        exact qb σ1 H2 μ2 env1 S2 _ env3 S3 _ hr2 (er1.later l2) e3 fun σ3 H3 μ3 l3 hr3 er3 => ⟨μ3, env3, S3, l1.trans (l2.trans l3), hr3, er3, hn⟩
      · rename_i env3 S3 e3
        cases hn
        exact qb σ1 H2 μ2 env1 S2 _ _ _ _ hr2 (er1.later l2) e3 fun σ3 H3 μ3 l3 hr3 er3 => k σ3 H3 μ3 (l1.trans (l2.trans l3)) hr3 er3
      · rename_i d env3 S3 e3
        cases hn
        exact qb σ1 H2 μ2 env1 S2 _ _ _ _ hr2 (er1.later l2) e3 fun σ3 H3 μ3 l3 hr3 er3 => k σ3 H3 μ3 (l1.trans (l2.trans l3)) hr3 er3
      · rename_i x fs env3 S3 e3
        cases hn
        exact qb σ1 H2 μ2 env1 S2 _ _ _ _ hr2 (er1.later l2) e3 fun σ3 H3 μ3 l3 hr3 er3 => k σ3 H3 μ3 (l1.trans (l2.trans l3)) hr3 er3
      · cases hn
    · rename_i S2 e2
      cases hn
      refine qc σ1 H1 μ1 _ S1 false _ _ hr1 er1 e2 fun H2 μ2 l2 hr2 => ?_
      rw [if_neg Bool.false_ne_true]
      exact k σ1 H2 μ2 (l1.trans l2) hr2 (er1.later l2)
    · cases hn
/-! for -/
def ItF (P : Program) (w : World) (K : PySem.W.Frag) (T : It) (ds : List D) (μ0 : Mp) (H0 : Hp) : Prop := ∀ (μ : Mp) (H : Hp), Later μ0 H0 μ H → (∀ S, HR P w K H μ S → (∀ i, i < ds.length → T.go i H) ∧ T.stop ds.length H) ∧
  ∀ (i : Nat) (S : Sto) (x : V) (H' : Hp) (d : D), HR P w K H μ S → ds[i]? = some d → T.yld i H x H' → Later μ H μ H' ∧ HR P w K H' μ S ∧ Rv K H' μ x d
def QI (X : Cx) (wi : TI) (fi : FA) : Prop := ∀ (σ : L2.St) (H : Hp) (μ : Mp) (env : Env) (S : Sto) (ds : List D) (S' : Sto) (R : It → Hp → Prop), HR X.prog X.w X.K H μ S → ER X.K H μ σ env → fi env S = some (ds, S') →
  (∀ T H' μ', Later μ H μ' H' → HR X.prog X.w X.K H' μ' S' → ItF X.prog X.w X.K T ds μ' H' → R T H') → wi σ H R
def JI (X : Cx) (tg iter : Expr) (fi : FA) : Prop := ∃ wi, PI X tg iter wi ∧ QI X wi fi
def fForL (g : FG) (b : FS) : List D → FS
  | [], env, S => some (.nx, env, S)
  | d :: ds, env, S => match g d env S with
    | none => none
    | some (env1, S1) => match b env1 S1 with
      | some (.nx, env2, S2) => fForL g b ds env2 S2
      | some (.ct, env2, S2) => fForL g b ds env2 S2
      | some (.bk, env2, S2) => some (.nx, env2, S2)
      | some (.rt d, env2, S2) => some (.rt d, env2, S2)
      | some (.xc x fs, env2, S2) => some (.xc x fs, env2, S2)
      | none => none
def fFor (fi : FA) (g : FG) (b : FS) : FS := fun env S => match fi env S with
  | some (ds, S1) => fForL g b ds env S1
  | none => none
theorem js_for {tg iter : Expr} {body : List Stmt} {fi : FA} {g : FG} {ws : List Nat} {f : FS} {pos : Pos} (hp : PassesOwn (model X.prog X.w) X.A X.env X.xe) (hc : X.calm = true) (hi : JI X tg iter fi) (hg : JG X tg g ws) (hb : JSs X body f)
    (hs : ∀ x, foldedSetIterable iter X.env x = pure x := by intro _; rfl) : JS X (.For tg iter body [] pos) (fFor fi g f) := by
  obtain ⟨wi, pi, qi⟩ := hi
  obtain ⟨tg', pg, qg⟩ := hg
  obtain ⟨tb, pb, qb⟩ := hb
  refine ⟨_, ps_for hp hc pi pg pb hs, fun σ H μ env S fl env' S' E hr er hf k => ?_⟩
  unfold fFor at hf
  split at hf
  · rename_i ds S1 e1
    refine qi σ H μ env S ds S1 _ hr er e1 fun T H1 μ1 l1 hr1 it => ?_
    refine ⟨fun i n σ2 H2 => n = ds.length - i ∧ i ≤ ds.length ∧ ∃ μ2 env2 S2, Later μ1 H1 μ2 H2 ∧ HR X.prog X.w X.K H2 μ2 S2 ∧ ER X.K H2 μ2 σ2 env2 ∧ fForL g f (ds.drop i) env2 S2 = some (fl, env', S'),
      ⟨ds.length, by simp, Nat.zero_le _, μ1, env, S1, .refl _ _, hr1, er.later l1, hf⟩, ?_⟩
    rintro i n σ2 H2 ⟨rfl, hi, μ2, env2, S2, l2, hr2, er2, hf2⟩
    obtain ⟨it1, it2⟩ := it μ2 H2 l2
    obtain ⟨go, stop⟩ := it1 S2 hr2
    by_cases hlt : i < ds.length
    · refine .inr ⟨go i hlt, fun σ3 H3 => ∃ μ3 env3 S3, Later μ1 H1 μ3 H3 ∧ HR X.prog X.w X.K H3 μ3 S3 ∧ ER X.K H3 μ3 σ3 env3 ∧ fForL g f (ds.drop (i + 1)) env3 S3 = some (fl, env', S'), fun σ3 H3 z => ⟨ds.length - (i + 1), by omega, rfl, hlt, z⟩, fun x H3 y => ?_⟩
      obtain ⟨l3, hr3, r3⟩ := it2 i S2 x H3 ds[i] hr2 (by simp [hlt]) y
      rw [List.drop_eq_getElem_cons hlt, fForL] at hf2
      split at hf2
      · cases hf2
      · rename_i env4 S4 e4
        refine qg σ2 H3 μ2 env2 S2 x ds[i] env4 S4 _ hr3 (er2.later l3) r3 e4 fun σ4 H4 μ4 l4 hr4 er4 _ => ?_
        have L4 := l2.trans (l3.trans l4)
        split at hf2
        · rename_i env5 S5 e5
          exact qb σ4 H4 μ4 env4 S4 _ env5 S5 _ hr4 er4 e5 fun σ5 H5 μ5 l5 hr5 er5 => ⟨μ5, env5, S5, L4.trans l5, hr5, er5, hf2⟩
        · rename_i env5 S5 e5
          exact qb σ4 H4 μ4 env4 S4 _ env5 S5 _ hr4 er4 e5 fun σ5 H5 μ5 l5 hr5 er5 => ⟨μ5, env5, S5, L4.trans l5, hr5, er5, hf2⟩
        · rename_i env5 S5 e5
          cases hf2
          exact qb σ4 H4 μ4 env4 S4 _ _ _ _ hr4 er4 e5 fun σ5 H5 μ5 l5 hr5 er5 => k σ5 H5 μ5 (l1.trans (L4.trans l5)) hr5 er5
        · rename_i d env5 S5 e5
          cases hf2
          exact qb σ4 H4 μ4 env4 S4 _ _ _ _ hr4 er4 e5 fun σ5 H5 μ5 l5 hr5 er5 => k σ5 H5 μ5 (l1.trans (L4.trans l5)) hr5 er5
        · rename_i x fs env5 S5 e5
          cases hf2
          exact qb σ4 H4 μ4 env4 S4 _ _ _ _ hr4 er4 e5 fun σ5 H5 μ5 l5 hr5 er5 => k σ5 H5 μ5 (l1.trans (L4.trans l5)) hr5 er5
        · cases hf2
    · have e : i = ds.length := by omega
      subst e
      rw [List.drop_length, fForL] at hf2
      cases hf2
      exact .inl ⟨stop, k σ2 H2 μ2 (l1.trans l2) hr2 er2⟩
  · cases hf
end J

set_option autoImplicit false
namespace J
open PySem PySem.Spec PyProof.Rows L2
/-! what is left behind a call -/
mutual
def D.und (n : Nat) : D → Bool
  | .tup ds => D.undAll n ds
  | .lst ds => D.undAll n ds
  | .scr ds => D.undAll n ds
  | .obj k => decide (k < n)
  | _ => true
def D.undAll (n : Nat) : List D → Bool
  | [] => true
  | d :: ds => D.und n d && D.undAll n ds
end
def O.und (n : Nat) : O → Bool
  | .lst ds => D.undAll n ds
  | .dct kvs => kvs.all fun p => D.und n p.2.1 && D.und n p.2.2
  | .dks kvs => kvs.all fun p => D.und n p.2
  | .lck kvs => kvs.all fun p => D.und n p.2.1 && D.und n p.2.2
  | .ins _ fs => fs.all fun p => D.und n p.2
mutual
theorem D.und_mono {n m : Nat} (h : n ≤ m) : ∀ {d : D}, d.und n = true → d.und m = true
  | .non, _ => rfl
  | .bl _, _ => rfl
  | .int _, _ => rfl
  | .str _, _ => rfl
  | .glo _, _ => rfl
  | .obj k, e => by simp only [D.und, decide_eq_true_eq] at e ⊢; omega
  | .tup ds, e => by rw [D.und] at e ⊢; exact D.undAll_mono h e
  | .lst ds, e => by rw [D.und] at e ⊢; exact D.undAll_mono h e
  | .scr ds, e => by rw [D.und] at e ⊢; exact D.undAll_mono h e
theorem D.undAll_mono {n m : Nat} (h : n ≤ m) : ∀ {ds : List D}, D.undAll n ds = true → D.undAll m ds = true
  | [], _ => rfl
  | d :: ds, e => by
    rw [D.undAll, Bool.and_eq_true] at e ⊢
    exact ⟨D.und_mono h e.1, D.undAll_mono h e.2⟩
end
variable {K : PySem.W.Frag} {P : Program} {w : World}
mutual
theorem Rv.und {H : Hp} {μ : Mp} : ∀ {v : V} {d : D}, Rv K H μ v d → d.und μ.m.length = true
  | _, _, .non => rfl
  | _, _, .bl b => rfl
  | _, _, .int i => rfl
  | _, _, .str x => rfl
  | _, _, .tup h q => by rw [D.und]; exact RvAll.und q
  | _, _, .lst h q => by rw [D.und]; exact RvAll.und q
  | _, _, .scr h q => by rw [D.und]; exact RvAll.und q
  | _, _, .obj h => by rw [D.und]; exact decide_eq_true (List.getElem?_eq_some_iff.mp h).1
  | _, _, .glo v => rfl
theorem RvAll.und {H : Hp} {μ : Mp} : ∀ {vs : List V} {ds : List D}, RvAll K H μ vs ds → D.undAll μ.m.length ds = true
  | _, _, .nil => rfl
  | _, _, .cons h q => by rw [D.undAll, Rv.und h, RvAll.und q]; rfl
end
/-- fewer numbers: the first n stay -/
structure Short (n : Nat) (μ ν : Mp) : Prop where
  sub : ∀ a, a ∈ ν.m → a ∈ μ.m
  ex : ∀ a, a ∈ ν.x → a ∈ μ.x
  first : ∀ k, k < n → ν.m[k]? = μ.m[k]?
theorem Short.out {n : Nat} {μ ν : Mp} (s : Short n μ ν) {a : Addr} (h : a ∉ μ.m) : a ∉ ν.m := fun z => h (s.sub a z)
mutual
theorem Rv.short {H : Hp} {μ ν : Mp} {n : Nat} (s : Short n μ ν) : ∀ {v : V} {d : D}, Rv K H μ v d → d.und n = true → Rv K H ν v d
  | _, _, .non, _ => .non
  | _, _, .bl b, _ => .bl b
  | _, _, .int i, _ => .int i
  | _, _, .str x, _ => .str x
  | _, _, .tup h q, e => .tup (h.imp (fun z => ⟨z.1, s.out z.2.1, fun q => z.2.2 (s.ex _ q)⟩) id) (RvAll.short s q (by rw [D.und] at e; exact e))
  | _, _, .lst h q, e => .lst ⟨h.1, s.out h.2.1, fun q => h.2.2 (s.ex _ q)⟩ (RvAll.short s q (by rw [D.und] at e; exact e))
  | _, _, .scr h q, e => .scr (h.imp (fun z => ⟨z.1, s.out z.2.1, fun q => z.2.2 (s.ex _ q)⟩) id) (RvAll.short s q (by rw [D.und] at e; exact e))
  | _, _, .obj h, e => .obj (by
    rw [D.und, decide_eq_true_eq] at e
    rw [s.first _ e]
    exact h)
  | _, _, .glo v, _ => .glo v
theorem RvAll.short {H : Hp} {μ ν : Mp} {n : Nat} (s : Short n μ ν) : ∀ {vs : List V} {ds : List D}, RvAll K H μ vs ds → D.undAll n ds = true → RvAll K H ν vs ds
  | _, _, .nil, _ => .nil
  | _, _, .cons h q, e => by
    rw [D.undAll, Bool.and_eq_true] at e
    exact .cons (Rv.short s h e.1) (RvAll.short s q e.2)
end
theorem KsR.short {H : Hp} {μ ν : Mp} {n : Nat} (s : Short n μ ν) : ∀ {xs ys}, KsR K H μ xs ys → (ys.all fun p => D.und n p.2.1 && D.und n p.2.2) = true → KsR K H ν xs ys
  | _, _, .nil, _ => .nil
  | _, _, .cons h0 h1 h2 h3 q, e => by
    rw [List.all_cons, Bool.and_eq_true, Bool.and_eq_true] at e
    exact .cons h0 h1 (h2.short s e.1.1) (h3.short s e.1.2) (KsR.short s q e.2)
theorem KvR.short {H : Hp} {μ ν : Mp} {n : Nat} (s : Short n μ ν) : ∀ {xs ys}, KvR K H μ xs ys → (ys.all fun p => D.und n p.2) = true → KvR K H ν xs ys
  | _, _, .nil, _ => .nil
  | _, _, .cons h3 q, e => by
    rw [List.all_cons, Bool.and_eq_true] at e
    exact .cons (h3.short s e.1) (KvR.short s q e.2)
theorem FsR.short {H : Hp} {μ ν : Mp} {n : Nat} (s : Short n μ ν) : ∀ {xs ys}, FsR K H μ xs ys → (ys.all fun p => D.und n p.2) = true → FsR K H ν xs ys
  | _, _, .nil, _ => .nil
  | _, _, .cons h3 q, e => by
    rw [List.all_cons, Bool.and_eq_true] at e
    exact .cons (h3.short s e.1) (FsR.short s q e.2)
theorem OR.short {H : Hp} {μ ν : Mp} {n : Nat} (s : Short n μ ν) {a : Addr} {o : O} (h : OR P w K H μ a o) (e : o.und n = true) : OR P w K H ν a o := by
  cases o with
  | lst ds => obtain ⟨xs, e1, r⟩ := h; exact ⟨xs, e1, r.short s e⟩
  | dct ds => obtain ⟨xs, e1, r⟩ := h; exact ⟨xs, e1, r.short s e⟩
  | dks ds => obtain ⟨xs, e1, r⟩ := h; exact ⟨xs, e1, r.short s e⟩
  | lck ds => obtain ⟨od, xs, e1, r⟩ := h; exact ⟨od, xs, e1, r.short s e⟩
  | ins C fs => obtain ⟨dx, gs, e1, r⟩ := h; exact ⟨dx, gs, e1, r.short s e⟩
theorem KsR.und {H : Hp} {μ : Mp} : ∀ {xs ys}, KsR K H μ xs ys → (ys.all fun p => D.und μ.m.length p.2.1 && D.und μ.m.length p.2.2) = true
  | _, _, .nil => rfl
  | _, _, .cons h0 h1 h2 h3 q => by
    rw [List.all_cons, Bool.and_eq_true, Bool.and_eq_true]
    exact ⟨⟨h2.und, h3.und⟩, KsR.und q⟩
theorem KvR.und {H : Hp} {μ : Mp} : ∀ {xs ys}, KvR K H μ xs ys → (ys.all fun p => D.und μ.m.length p.2) = true
  | _, _, .nil => rfl
  | _, _, .cons h3 q => by
    rw [List.all_cons, Bool.and_eq_true]
    exact ⟨h3.und, KvR.und q⟩
theorem FsR.und {H : Hp} {μ : Mp} : ∀ {xs ys}, FsR K H μ xs ys → (ys.all fun p => D.und μ.m.length p.2) = true
  | _, _, .nil => rfl
  | _, _, .cons h3 q => by
    rw [List.all_cons, Bool.and_eq_true]
    exact ⟨h3.und, FsR.und q⟩
theorem OR.und {H : Hp} {μ : Mp} {a : Addr} {o : O} (h : OR P w K H μ a o) : o.und μ.m.length = true := by
  cases o with
  | lst ds => obtain ⟨xs, e1, r⟩ := h; exact r.und
  | dct ds => obtain ⟨xs, e1, r⟩ := h; exact r.und
  | dks ds => obtain ⟨xs, e1, r⟩ := h; exact r.und
  | lck ds => obtain ⟨od, xs, e1, r⟩ := h; exact r.und
  | ins C fs => obtain ⟨dx, gs, e1, r⟩ := h; exact r.und
/-- what stood ahead of a call stands, or is told without numbers -/
def Keeps (S S' : Sto) : Prop := S.length ≤ S'.length ∧ ∀ i, i < S.length → S'[i]? = S[i]? ∨ ∃ o, S'[i]? = some o ∧ o.und 0 = true
inductive Md where
  | drop | frz | all | frt | tp
def D.thaw (n : Nat) (S' : Sto) : D → Option D
  | .obj k => match S'[k]? with
    | some (.lst ds) => if n ≤ k ∧ D.undAll 0 ds = true then some (.lst ds) else none
    | _ => none
  | d => if d.und 0 = true then some d else none
def D.thaws (n : Nat) (S' : Sto) : List D → Option (List D)
  | [] => some []
  | d :: ds => match D.thaw n S' d, D.thaws n S' ds with
    | some a, some b => some (a :: b)
    | _, _ => none
open Classical in
noncomputable def gc (md : Md) (S : Sto) (d : D) (S' : Sto) : Option (D × Sto) := match md with
  | .all => some (d, S')
  | .drop => if Keeps S S' then (match d with
      | .obj k => match S'[k]? with
        | some o => if S.length ≤ k then (if o.und 0 = true then some (.obj S.length, S'.take S.length ++ [o]) else none) else some (.obj k, S'.take S.length)
        | none => none
      | d => if d.und 0 = true then some (d, S'.take S.length) else none) else none
  | .frz => if Keeps S S' then (match d with
      | .obj k => match S'[k]? with
        | some (.lst ds) => if S.length ≤ k ∧ D.undAll 0 ds = true then some (.lst ds, S'.take S.length) else none
        | _ => none
      | d => if d.und 0 = true then some (d, S'.take S.length) else none) else none
  | .frt => if Keeps S S' then (match d with
      | .tup es => match D.thaws S.length S' es with
        | some es' => some (.tup es', S'.take S.length)
        | none => none
      | _ => none) else none
  | .tp => if Keeps S S' then (match d with
      | .tup [.obj k, e] => match S'[k]? with
        | some o => if S.length ≤ k ∧ o.und 0 = true ∧ e.und 0 = true then some (.tup [.obj S.length, e], S'.take S.length ++ [o]) else none
        | none => none
      | _ => none) else none
theorem Keeps.refl (S : Sto) : Keeps S S := ⟨Nat.le_refl _, fun _ _ => .inl rfl⟩
theorem Keeps.app (S T : Sto) : Keeps S (S ++ T) := ⟨by simp, fun i h => .inl (List.getElem?_append_left h)⟩
theorem O.und_mono {n m : Nat} (h : n ≤ m) {o : O} (b : o.und n = true) : o.und m = true := by
  cases o with
  | lst ds => exact D.undAll_mono h b
  | dct kvs =>
    simp only [O.und, List.all_eq_true, Bool.and_eq_true] at b ⊢
    exact fun p hp => ⟨D.und_mono h (b p hp).1, D.und_mono h (b p hp).2⟩
  | dks kvs =>
    simp only [O.und, List.all_eq_true] at b ⊢
    exact fun p hp => D.und_mono h (b p hp)
  | lck kvs =>
    simp only [O.und, List.all_eq_true, Bool.and_eq_true] at b ⊢
    exact fun p hp => ⟨D.und_mono h (b p hp).1, D.und_mono h (b p hp).2⟩
  | ins C kvs =>
    simp only [O.und, List.all_eq_true] at b ⊢
    exact fun p hp => D.und_mono h (b p hp)
theorem Keeps.und {H : Hp} {μ : Mp} {S S' : Sto} (hr : HR P w K H μ S) (kp : Keeps S S') {k : Nat} {o : O} (hl : k < S.length) (hs : S'[k]? = some o) : o.und S.length = true := by
  rcases kp.2 k hl with z | ⟨o', z, b⟩
  · have hk : k < μ.m.length := by rw [hr.len]; exact hl
    have := (hr.ok k μ.m[k] o (by simp [hk]) (z ▸ hs)).und
    rw [hr.len] at this
    exact this
  · rw [hs] at z
    cases z
    exact O.und_mono (Nat.zero_le _) b
theorem short_HR {H H' : Hp} {μ μ' : Mp} {S S' : Sto} (hr : HR P w K H μ S) (l : Later μ H μ' H') (hr' : HR P w K H' μ' S') (kp : Keeps S S') : Short S.length μ' μ ∧ HR P w K H' μ (S'.take S.length) ∧ Later μ H μ H' := by
  obtain ⟨e, he⟩ := l.ext
  have sh : Short S.length μ' μ := ⟨fun a h => by rw [he]; exact List.mem_append_left _ h, l.ex, fun k hk => by rw [he, List.getElem?_append_left (by rw [hr.len]; exact hk)]⟩
  refine ⟨sh, ⟨?_, hr.nd, fun k a o hk hs => ?_, fun a ha => hr'.there a (by rw [he]; exact List.mem_append_left _ ha), fun a ha => hr'.thereX a (l.ex a ha), hr.dj⟩, ⟨⟨[], by simp⟩, fun _ h => h, fun a o h n => ⟨n, id, (l.keep a o h n).2.2⟩, l.frz⟩⟩
  · rw [List.length_take, hr.len]
    exact (Nat.min_eq_left kp.1).symm
  · have hl : k < S.length := by rw [← hr.len]; exact (List.getElem?_eq_some_iff.mp hk).1
    rw [List.getElem?_take_of_lt hl] at hs
    have hk' : μ'.m[k]? = some a := by rw [← sh.first k hl]; exact hk
    exact (hr'.ok k a o hk' hs).short sh (kp.und hr hl hs)
theorem fresh_out {H H' : Hp} {μ μ' : Mp} {S S' : Sto} (hr : HR P w K H μ S) (l : Later μ H μ' H') (hr' : HR P w K H' μ' S') {k : Nat} {a : Addr} (hk : μ'.m[k]? = some a) (hle : S.length ≤ k) : a ∉ μ.m ∧ a ∉ μ.x := by
  obtain ⟨e, he⟩ := l.ext
  refine ⟨fun z => ?_, fun z => hr'.dj a (List.mem_of_getElem? hk) (l.ex a z)⟩
  obtain ⟨j, hj⟩ := List.mem_iff_getElem?.mp z
  have hjl := (List.getElem?_eq_some_iff.mp hj).1
  have hj' : μ'.m[j]? = some a := by rw [he, List.getElem?_append_left hjl]; exact hj
  have := (List.getElem?_inj (List.getElem?_eq_some_iff.mp hj').1 hr'.nd).mp (hj'.trans hk.symm)
  rw [hr.len] at hjl
  omega
theorem thaw_rv {H H' : Hp} {μ μ' : Mp} {S S' : Sto} (hr : HR P w K H μ S) (l : Later μ H μ' H') (hr' : HR P w K H' μ' S') (kp : Keeps S S') {v : V} {d d2 : D} (r : Rv K H' μ' v d) (h : D.thaw S.length S' d = some d2) : Rv K H' μ v d2 := by
  obtain ⟨sh, hr2, l2⟩ := short_HR hr l hr' kp
  unfold D.thaw at h
  split at h
  · rename_i k
    split at h
    · rename_i ds eo
      obtain ⟨a, rfl, hk, xs, ha, hds⟩ := hr'.at r eo
      split at h
      · rename_i hle
        cases h
        obtain ⟨na, nx⟩ := fresh_out hr l hr' hk hle.1
        exact .lst ⟨ha, na, nx⟩ (hds.short sh (D.undAll_mono (Nat.zero_le _) hle.2))
      · cases h
    · cases h
  · split at h
    · rename_i hb
      cases h
      exact r.short sh (D.und_mono (Nat.zero_le _) hb)
    · cases h
theorem thaws_rv {H H' : Hp} {μ μ' : Mp} {S S' : Sto} (hr : HR P w K H μ S) (l : Later μ H μ' H') (hr' : HR P w K H' μ' S') (kp : Keeps S S') : ∀ {vs : List V} {ds ds2 : List D}, RvAll K H' μ' vs ds → D.thaws S.length S' ds = some ds2 → RvAll K H' μ vs ds2
  | _, _, _, .nil, h => by cases h; exact .nil
  | _, _, _, .cons (d := d) (ds := ds) r q, h => by
    rw [D.thaws] at h
    split at h
    · rename_i a b h1 h2
      cases h
      exact .cons (thaw_rv hr l hr' kp r h1) (thaws_rv hr l hr' kp q h2)
    · cases h
theorem gc_push {H H' : Hp} {μ μ' : Mp} {S S' : Sto} {k : Nat} {o : O} {v : V} (hr : HR P w K H μ S) (l : Later μ H μ' H') (hr' : HR P w K H' μ' S') (kp : Keeps S S') (r : Rv K H' μ' v (.obj k)) (eo : S'[k]? = some o) (hle : S.length ≤ k) (hb : o.und 0 = true) :
    ∃ μ2, Short 0 μ' μ2 ∧ Later μ H μ2 H' ∧ HR P w K H' μ2 (S'.take S.length ++ [o]) ∧ Rv K H' μ2 v (.obj S.length) := by
  obtain ⟨sh, hr2, l2⟩ := short_HR hr l hr' kp
  obtain ⟨a, rfl, hk, ho⟩ := hr'.at r eo
  obtain ⟨na, nx⟩ := fresh_out hr l hr' hk hle
  have hm : ∀ x ∈ μ.m ++ [a], x ∈ μ'.m := fun x hx => by
    rcases List.mem_append.mp hx with z | z
    · exact sh.sub x z
    · rw [List.mem_singleton.mp z]; exact List.mem_of_getElem? hk
  have s3 : Short S.length μ' ⟨μ.m ++ [a], μ.x⟩ := ⟨hm, l.ex, fun j hj => by
    rw [← sh.first j hj]
    exact List.getElem?_append_left (by rw [hr.len]; exact hj)⟩
  refine ⟨⟨μ.m ++ [a], μ.x⟩, ⟨hm, l.ex, fun j hj => absurd hj (Nat.not_lt_zero j)⟩, ⟨⟨[a], rfl⟩, fun _ h => h, fun b o q n => ⟨fun z => (l.keep b o q n).1 (hm b z), id, (l.keep b o q n).2.2⟩, l.frz⟩, ⟨by rw [List.length_append, List.length_append, hr2.len]; rfl, ?_, fun j b u hj hu => ?_, fun b hb => hr'.there b (hm b hb), hr2.thereX, fun b hb => by
    rcases List.mem_append.mp hb with z | z
    · exact hr.dj b z
    · rw [List.mem_singleton.mp z]; exact nx⟩, .obj (by rw [← hr.len]; simp)⟩
  · rw [List.nodup_append]
    exact ⟨hr.nd, by simp, fun b hb c hc => by rw [List.mem_singleton.mp hc]; exact fun z => na (z ▸ hb)⟩
  · by_cases hlt : j < S.length
    · rw [List.getElem?_append_left (by rw [List.length_take]; have := kp.1; omega), List.getElem?_take_of_lt hlt] at hu
      have hj' : μ'.m[j]? = some b := by rw [← s3.first j hlt]; exact hj
      exact (hr'.ok j b u hj' hu).short s3 (kp.und hr hlt hu)
    · have h1 : (μ.m ++ [a])[j]? = some b := hj
      rw [List.getElem?_append_right (by rw [hr.len]; omega)] at h1
      have e0 : j - μ.m.length = 0 := by
        have := (List.getElem?_eq_some_iff.mp h1).1
        simp at this
        omega
      rw [e0] at h1
      have ea : a = b := by simpa using h1
      subst ea
      have hlen : (S'.take S.length).length = S.length := by rw [List.length_take]; have := kp.1; omega
      rw [List.getElem?_append_right (by omega), hlen, ← hr.len, e0] at hu
      have eu : o = u := by simpa using hu
      subst eu
      exact ho.short s3 (O.und_mono (Nat.zero_le _) hb)
theorem gc_ok {H H' : Hp} {μ μ' : Mp} {S S' S2 : Sto} {d d2 : D} {v : V} {md : Md} (hr : HR P w K H μ S) (l : Later μ H μ' H') (hr' : HR P w K H' μ' S') (r : Rv K H' μ' v d) (h : gc md S d S' = some (d2, S2)) :
    ∃ μ2, Later μ H μ2 H' ∧ HR P w K H' μ2 S2 ∧ Rv K H' μ2 v d2 := by
  cases md with
  | all => cases h; exact ⟨μ', l, hr', r⟩
  | drop =>
    simp only [gc] at h
    split at h
    · rename_i kp
      obtain ⟨sh, hr2, l2⟩ := short_HR hr l hr' kp
      split at h
      · rename_i k
        split at h
        · rename_i o eo
          obtain ⟨a, rfl, hk, ho⟩ := hr'.at r eo
          split at h
          · rename_i hle
            split at h
            · rename_i hb
              cases h
              obtain ⟨na, nx⟩ := fresh_out hr l hr' hk hle
              have hm : ∀ x ∈ μ.m ++ [a], x ∈ μ'.m := fun x hx => by
                rcases List.mem_append.mp hx with z | z
                · exact sh.sub x z
                · rw [List.mem_singleton.mp z]; exact List.mem_of_getElem? hk
              have s3 : Short S.length μ' ⟨μ.m ++ [a], μ.x⟩ := ⟨hm, l.ex, fun j hj => by
                rw [← sh.first j hj]
                exact List.getElem?_append_left (by rw [hr.len]; exact hj)⟩
              refine ⟨⟨μ.m ++ [a], μ.x⟩, ⟨⟨[a], rfl⟩, fun _ h => h, fun b o q n => ⟨fun z => (l.keep b o q n).1 (hm b z), id, (l.keep b o q n).2.2⟩, l.frz⟩, ⟨by rw [List.length_append, List.length_append, hr2.len]; rfl, ?_, fun j b u hj hu => ?_, fun b hb => hr'.there b (hm b hb), hr2.thereX, fun b hb => by
                rcases List.mem_append.mp hb with z | z
                · exact hr.dj b z
                · rw [List.mem_singleton.mp z]; exact nx⟩, .obj (by rw [← hr.len]; simp)⟩
              · rw [List.nodup_append]
                exact ⟨hr.nd, by simp, fun b hb c hc => by rw [List.mem_singleton.mp hc]; exact fun z => na (z ▸ hb)⟩
              · by_cases hlt : j < S.length
                · rw [List.getElem?_append_left (by rw [List.length_take]; have := kp.1; omega), List.getElem?_take_of_lt hlt] at hu
                  have hj' : μ'.m[j]? = some b := by rw [← s3.first j hlt]; exact hj
                  exact (hr'.ok j b u hj' hu).short s3 (kp.und hr hlt hu)
                · have h1 : (μ.m ++ [a])[j]? = some b := hj
                  rw [List.getElem?_append_right (by rw [hr.len]; omega)] at h1
                  have e0 : j - μ.m.length = 0 := by
                    have := (List.getElem?_eq_some_iff.mp h1).1
                    simp at this
                    omega
                  rw [e0] at h1
                  have ea : a = b := by simpa using h1
                  subst ea
                  have hlen : (S'.take S.length).length = S.length := by rw [List.length_take]; have := kp.1; omega
                  rw [List.getElem?_append_right (by omega), hlen, ← hr.len, e0] at hu
                  have eu : o = u := by simpa using hu
                  subst eu
                  exact ho.short s3 (O.und_mono (Nat.zero_le _) hb)
            · cases h
          · rename_i hle
            cases h
            exact ⟨μ, l2, hr2, .obj (by rw [sh.first k (by omega)]; exact hk)⟩
        · cases h
      · split at h
        · rename_i hb
          cases h
          exact ⟨μ, l2, hr2, r.short sh (D.und_mono (Nat.zero_le _) hb)⟩
        · cases h
    · cases h
  | frz =>
    simp only [gc] at h
    split at h
    · rename_i kp
      obtain ⟨sh, hr2, l2⟩ := short_HR hr l hr' kp
      split at h
      · rename_i k
        split at h
        · rename_i ds eo
          obtain ⟨a, rfl, hk, xs, ha, hds⟩ := hr'.at r eo
          split at h
          · rename_i hle
            cases h
            obtain ⟨na, nx⟩ := fresh_out hr l hr' hk hle.1
            exact ⟨μ, l2, hr2, .lst ⟨ha, na, nx⟩ (hds.short sh (D.undAll_mono (Nat.zero_le _) hle.2))⟩
          · cases h
        · cases h
      · split at h
        · rename_i hb
          cases h
          exact ⟨μ, l2, hr2, r.short sh (D.und_mono (Nat.zero_le _) hb)⟩
        · cases h
    · cases h
  | frt =>
    simp only [gc] at h
    split at h
    · rename_i kp
      obtain ⟨sh, hr2, l2⟩ := short_HR hr l hr' kp
      split at h
      · split at h
        · rename_i es' e
          cases h
          cases r with
          | tup h1 h2 => exact ⟨μ, l2, hr2, .tup (h1.imp (fun z => ⟨z.1, sh.out z.2.1, fun q => z.2.2 (sh.ex _ q)⟩) id) (thaws_rv hr l hr' kp h2 e)⟩
        · cases h
      · cases h
    · cases h
  | tp =>
    simp only [gc] at h
    split at h
    · rename_i kp
      split at h
      · rename_i k e
        split at h
        · rename_i o eo
          split at h
          · rename_i hc
            cases h
            cases r with
            | tup h1 h2 =>
              cases h2 with
              | cons r1 q =>
                cases q with
                | cons r2 q2 =>
                  cases q2
                  obtain ⟨μ2, sh, l2, hr2, r3⟩ := gc_push hr l hr' kp r1 eo hc.1 hc.2.1
                  exact ⟨μ2, l2, hr2, .tup (h1.imp (fun z => ⟨z.1, sh.out z.2.1, fun q => z.2.2 (sh.ex _ q)⟩) id) (.cons r3 (.cons (r2.short sh hc.2.2) .nil))⟩
          · cases h
        · cases h
      · cases h
    · cases h
/-! a def's body, and its call -/
abbrev Fn := List D → Sto → Option (D × Sto)
def spJ (P : Program) (w : World) (K : PySem.W.Frag) (n : Nat) (F : Fn) : Sp := fun vs H Q _ => ∃ (μ : Mp) (S : Sto) (ds : List D) (d : D) (S' : Sto), vs.length = n ∧ HR P w K H μ S ∧ RvAll K H μ vs ds ∧ F ds S = some (d, S') ∧
  ∀ v H' μ', Later μ H μ' H' → HR P w K H' μ' S' → Rv K H' μ' v d → Q v H'
def startD (n : Nat) (ds : List D) : Env := ds.map some ++ List.replicate (n - ds.length) none
noncomputable def runD (md : Md) (n : Nat) (b : FS) : Fn := fun ds S => match b (startD n ds) S with
  | some (.rt d, _, S') => gc md S d S'
  | some (.nx, _, S') => gc md S .non S'
  | _ => none
theorem start_er {H : Hp} {μ : Mp} {vs : List V} {ds : List D} {N : List Str} (r : RvAll K H μ vs ds) : ER K H μ (start N vs) (startD N.length ds) := by
  have hl := r.length
  refine ⟨by simp [L2.start, startD, hl], fun i d h => ?_⟩
  unfold startD at h
  by_cases hi : i < ds.length
  · rw [List.getElem?_append_left (by simpa using hi), List.getElem?_map] at h
    cases e : ds[i]? with
    | none => rw [e] at h; cases h
    | some d' =>
      rw [e] at h
      cases h
      obtain ⟨v, h1, h2⟩ := r.get i e
      refine ⟨v, ?_, h2⟩
      unfold L2.start
      rw [List.getElem?_append_left (by simpa [hl] using hi), List.getElem?_map, h1]
      rfl
  · rw [List.getElem?_append_right (by simpa using hi), List.getElem?_replicate] at h
    split at h <;> cases h
theorem okJ {mg : Str → Option Value} {base : Heap} {x qual : Str} {st : Stmt} {f : Addr} {fd : FuncData} {N ps : List Str} {k : Nat} {b : FS} {md : Md} (F : Fun K x qual st f fd) (S : FnScope N ps (defScope st))
    (hb : ∀ (cdv : Value) (A : Around) (outer : List PySem.Env) (s : Shared) (H : Hp) (E : XK), Room k (A.deeper (envOfC qual (defScope st) s.heap.objs.size f cdv)) → JSs (cxOf CX0 P w K mg base N qual (defScope st) f cdv A outer s H E).nox (defBody st) b) :
    FnOk P w K mg base CX0 (k + 1) f fd ps (spJ P w K ps.length (runD md N.length b)) := by
  refine F.ok S (fun vs H Q E h => ?_) (fun cdv A outer s H vs Q E hr h => ?_)
  · obtain ⟨_, _, _, _, _, h, _⟩ := h
    exact h
  · obtain ⟨μ, S0, ds, d, S', hl, hR, r, hf, q⟩ := h
    obtain ⟨t, p, qs⟩ := hb cdv A outer s H E hr
    refine ⟨t, p, ?_⟩
    unfold runD at hf
    split at hf
    · rename_i d1 env1 S1 e1
      refine qs (start N vs) H μ _ S0 _ env1 S1 _ hR (start_er r) e1 fun σ' H' μ' l hR' er' v rv => ?_
      obtain ⟨μ2, l2, h2, r2⟩ := gc_ok hR l hR' rv hf
      exact q v H' μ2 l2 h2 r2
    · rename_i env1 S1 e1
      refine qs (start N vs) H μ _ S0 _ env1 S1 _ hR (start_er r) e1 fun σ' H' μ' l hR' er' => ?_
      obtain ⟨μ2, l2, h2, r2⟩ := gc_ok hR l hR' .non hf
      exact q _ H' μ2 l2 h2 r2
    · cases hf
theorem okJD {mg : Str → Option Value} {base : Heap} {x qual : Str} {params : Arguments} {body : List Stmt} {scope : Scope} {dvs : List V} {kws : List (Str × V)} {f : Addr} {fd : FuncData} {N ps : List Str} {k : Nat} {b : FS} {md : Md} (F : FunD K x qual params body scope dvs kws f fd) (S : FnScope N ps scope)
    (hb : ∀ (cdv : Value) (A : Around) (outer : List PySem.Env) (s : Shared) (H : Hp) (E : XK), Room k (A.deeper (envOfC qual scope s.heap.objs.size f cdv)) → JSs (cxOf CX0 P w K mg base N qual scope f cdv A outer s H E) body b) :
    FnOk P w K mg base CX0 (k + 1) f fd ps (spJ P w K ps.length (runD md N.length b)) := by
  refine F.ok S (fun vs H Q E h => ?_) (fun cdv A outer s H vs Q E hr h => ?_)
  · obtain ⟨_, _, _, _, _, h, _⟩ := h
    exact h
  · obtain ⟨μ, S0, ds, d, S', hl, hR, r, hf, q⟩ := h
    obtain ⟨t, p, qs⟩ := hb cdv A outer s H E hr
    refine ⟨t, p, ?_⟩
    unfold runD at hf
    split at hf
    · rename_i d1 env1 S1 e1
      refine qs (start N vs) H μ _ S0 _ env1 S1 _ hR (start_er r) e1 fun σ' H' μ' l hR' er' v rv => ?_
      obtain ⟨μ2, l2, h2, r2⟩ := gc_ok hR l hR' rv hf
      exact q v H' μ2 l2 h2 r2
    · rename_i env1 S1 e1
      refine qs (start N vs) H μ _ S0 _ env1 S1 _ hR (start_er r) e1 fun σ' H' μ' l hR' er' => ?_
      obtain ⟨μ2, l2, h2, r2⟩ := gc_ok hR l hR' .non hf
      exact q _ H' μ2 l2 h2 r2
    · cases hf
def fCall (n : Nat) (F : Fn) (g : FA) (dd : List D) : FE := fun env S => match g env S with
  | some (ds, S1) => if (ds ++ dd).length = n then F (ds ++ dd) S1 else none
  | none => none
variable {X : Cx}
theorem je_call {k n : Nat} {f : Addr} {fd : FuncData} {ps : List Str} {F : Fn} {dvs : List V} {ds : List Value} {dd : List D} {x : Str} {p pos : Pos} {e : Expr} {es : List Expr} {g : FA} (G : FnOk X.prog X.w X.K X.mg X.base CX0 k f fd ps (spJ X.prog X.w X.K n F)) (hr : Room k X.A) (hg : Gl X x) (hm : X.mg x = some (.ref f)) (hk : PySem.W.keepIn X.K (.ref f) = true) (hb : Binds X.K fd ps ds) (hd : Vals dvs ds)
    (hdd : ∀ H μ, RvAll X.K H μ dvs dd) (ha : JA X (e :: es) g) (hdb : (x == ("__debug__" : Str)) = false := by decide) (he : starEach (e :: es) X.env = (false, eval e X.env) :: starEach es X.env := by rfl) (hpl : (backTo pos (starEach es X.env)).any (·.1) = false := by rfl) :
    JE X (.Call (.Name x p) (e :: es) [] pos) (fCall n F g dd) := by
  obtain ⟨t, pa, q⟩ := ha
  refine ⟨_, pe_call G hr hg hm hk hb hd pass0 pa hdb he hpl, fun σ H μ env S d S' Q hR er hf kk => ?_⟩
  unfold fCall at hf
  split at hf
  · rename_i as S1 e1
    split at hf
    · rename_i hl
      refine q σ H μ env S as S1 _ hR er e1 fun vs H1 μ1 l1 hR1 r1 => ?_
      have r2 := r1.append (hdd H1 μ1)
      exact ⟨μ1, S1, as ++ dd, d, S', r2.length.trans hl, hR1, r2, hf, fun v H' μ' l => kk v H' μ' (l1.trans l)⟩
    · cases hf
  · cases hf
theorem je_call0 {k n : Nat} {f : Addr} {fd : FuncData} {ps : List Str} {F : Fn} {dvs : List V} {ds : List Value} {dd : List D} {x : Str} {p pos : Pos} (G : FnOk X.prog X.w X.K X.mg X.base CX0 k f fd ps (spJ X.prog X.w X.K n F)) (hr : Room k X.A) (hg : Gl X x) (hm : X.mg x = some (.ref f)) (hk : PySem.W.keepIn X.K (.ref f) = true) (hb : Binds X.K fd ps ds) (hd : Vals dvs ds)
    (hdd : ∀ H μ, RvAll X.K H μ dvs dd) (hdb : (x == ("__debug__" : Str)) = false := by decide) : JE X (.Call (.Name x p) [] [] pos) (fCall n F faNil dd) := by
  refine ⟨_, pe_call0 G hr hg hm hk hb hd pass0 hdb, fun σ H μ env S d S' Q hR er hf kk => ?_⟩
  unfold fCall faNil at hf
  simp only at hf
  split at hf
  · rename_i hl
    exact ⟨μ, S, [] ++ dd, d, S', (hdd H μ).length.trans hl, hR, show RvAll X.K H μ ([] ++ dvs) ([] ++ dd) from hdd H μ, hf, kk⟩
  · cases hf
/-- keywords: h puts them -/
def fCallN (n i j : Nat) (F : Fn) (h : List D → List D → List D) (g gk : FA) : FE := fun env S => match g env S with
  | some (ds, S1) => match gk env S1 with
    | some (es, S2) => if ds.length = i ∧ es.length = j ∧ (h ds es).length = n then F (h ds es) S2 else none
    | none => none
  | none => none
theorem je_callN {k n i : Nat} {f : Addr} {fd : FuncData} {ps ks : List Str} {F : Fn} {x : Str} {p pos : Pos} {e : Expr} {es : List Expr} {kws : List Keyword} {g gk : FA} {gU : List Value → List Value → List Value} {gV : List V → List V → List V} {h : List D → List D → List D}
    (G : FnOk X.prog X.w X.K X.mg X.base CX0 k f fd ps (spJ X.prog X.w X.K n F)) (hr : Room k X.A) (hg : Gl X x) (hm : X.mg x = some (.ref f)) (hk : PySem.W.keepIn X.K (.ref f) = true) (hb : KBn X.K fd ps i ks gU gV)
    (hh : ∀ H μ vs ds zs es, RvAll X.K H μ vs ds → RvAll X.K H μ zs es → RvAll X.K H μ (gV vs zs) (h ds es)) (ha : JA X (e :: es) g) (hkw : JK X kws gk)
    (hall : (backToKw pos (keywordEach kws X.env)).all (·.1.isSome) = true := by rfl) (hks : (backToKw pos (keywordEach kws X.env)).filterMap (·.1) = ks := by rfl)
    (hdb : (x == ("__debug__" : Str)) = false := by decide) (he : starEach (e :: es) X.env = (false, eval e X.env) :: starEach es X.env := by rfl)
    (hpl : ((backTo pos (starEach (e :: es) X.env)).any (·.1) || (backToKw pos (keywordEach kws X.env)).any (·.1.isNone)) = false := by rfl) :
    JE X (.Call (.Name x p) (e :: es) kws pos) (fCallN n i ks.length F h g gk) := by
  obtain ⟨t, pa, q⟩ := ha
  obtain ⟨tk, pk, qk⟩ := hkw
  refine ⟨_, pe_callN G hr hg hm hk hb pass0 pa pk hall hks hdb he hpl, fun σ H μ env S d S' Q hR er hf kk => ?_⟩
  unfold fCallN at hf
  split at hf
  · rename_i as S1 e1
    split at hf
    · rename_i bs S2 e2
      split at hf
      · rename_i hl
        refine q σ H μ env S as S1 _ hR er e1 fun vs H1 μ1 l1 hR1 r1 => ?_
        refine qk σ H1 μ1 env S1 bs S2 _ hR1 (er.later l1) e2 fun zs H2 μ2 l2 hR2 r2 => ?_
        have r3 := hh H2 μ2 _ _ _ _ (r1.later l2) r2
        exact ⟨r1.length.trans hl.1, r2.length.trans hl.2.1, μ2, S2, h as bs, d, S', r3.length.trans hl.2.2, hR2, r3, hf, fun v H' μ' l => kk v H' μ' (l1.trans (l2.trans l))⟩
      · cases hf
    · cases hf
  · cases hf
end J

set_option autoImplicit false
namespace J
open PySem PySem.Spec PyProof.Rows L2
variable {K : PySem.W.Frag} {P : Program} {w : World} {X : Cx}
/-! what a loop walks -/
theorem PI.or {tg iter : Expr} {w1 w2 : TI} (h1 : PI X tg iter w1) (h2 : PI X tg iter w2) : PI X tg iter (fun σ H R => w1 σ H R ∨ w2 σ H R) :=
  ⟨fun pins s σ H R I h => h.elim (h1.run pins s σ H R I) (h2.run pins s σ H R I)⟩
theorem RvAll.at {H : Hp} {μ : Mp} {vs : List V} {ds : List D} (h : RvAll K H μ vs ds) {i : Nat} {x : V} {d : D} (hx : vs[i]? = some x) (hd : ds[i]? = some d) : Rv K H μ x d := by
  obtain ⟨v, h1, h2⟩ := h.get i hd
  rw [hx] at h1
  cases h1
  exact h2
theorem itf_tup {H0 : Hp} {μ0 : Mp} {a : Addr} {xs : List V} {ds : List D} (ht : TpR K H0 μ0 a xs) (hd : RvAll K H0 μ0 xs ds) : ItF P w K (Itt K a) ds μ0 H0 := by
  intro μ H l
  have hs : SqT K H a xs := TpR.sq (ht.imp l.rd id)
  have W := walk_tup (K := K) (a := a) (xs := xs)
  have hl := hd.length
  refine ⟨fun S hr => ⟨fun i hi => W.goes i H (by omega) hs, by rw [← hl]; exact W.stops H hs⟩, fun i S x H' d hr h1 y => ?_⟩
  have hi : i < xs.length := by rw [hl]; exact (List.getElem?_eq_some_iff.mp h1).1
  obtain ⟨rfl, hx⟩ := W.yields i H x H' hi hs y
  exact ⟨.refl _ _, hr, (hd.later l).at hx h1⟩
theorem itf_lst {H0 : Hp} {μ0 : Mp} {a : Addr} {xs : List V} {ds : List D} (ht : LsR K H0 μ0 a xs) (hd : RvAll K H0 μ0 xs ds) : ItF P w K (Itl K a) ds μ0 H0 := by
  intro μ H l
  have hs : SqL K H a xs := LsR.sq (ht.imp l.rd id)
  have W := walk_list (K := K) (a := a) (xs := xs)
  have hl := hd.length
  refine ⟨fun S hr => ⟨fun i hi => W.goes i H (by omega) hs, by rw [← hl]; exact W.stops H hs⟩, fun i S x H' d hr h1 y => ?_⟩
  have hi : i < xs.length := by rw [hl]; exact (List.getElem?_eq_some_iff.mp h1).1
  obtain ⟨rfl, hx⟩ := W.yields i H x H' hi hs y
  exact ⟨.refl _ _, hr, (hd.later l).at hx h1⟩
theorem PlR.ls {H : Hp} {μ : Mp} {a : Addr} {xs : List V} (h : PlR H μ a xs) : LsR K H μ a xs := .inl ⟨.inl h.1, h.2⟩
def D.items : D → Option (List D)
  | .tup ds => some ds
  | .lst ds => some ds
  | .scr ds => some ds
  | _ => none
def fIt (f : FE) : FA := fun env S => match f env S with
  | some (d, S1) => match d.items with
    | some ds => some (ds, S1)
    | none => none
  | none => none
theorem fIt_some {f : FE} {env : Env} {S S' : Sto} {ds : List D} (h : fIt f env S = some (ds, S')) : ∃ d, f env S = some (d, S') ∧ d.items = some ds := by
  unfold fIt at h
  split at h
  · rename_i d S1 e1
    split at h
    · rename_i es e2
      cases h
      exact ⟨d, e1, e2⟩
    · cases h
  · cases h
theorem ji_seq {tg e : Expr} {f : FE} (h : JE X e f) : JI X tg e (fIt f) := by
  obtain ⟨t, p, q⟩ := h
  refine ⟨_, PI.or (pi_tup p) (pi_list p), fun σ H μ env S ds S' R hr er hf k => ?_⟩
  obtain ⟨d, e1, e2⟩ := fIt_some hf
  cases d with
  | tup es =>
    cases e2
    refine .inl (q σ H μ env S _ S' _ hr er e1 fun v H1 μ1 l hr1 r => ?_)
    cases r with
    | tup h1 h2 => exact ⟨_, rfl, ⟨_, h1.sq⟩, k _ H1 μ1 l hr1 (itf_tup h1 h2)⟩
  | lst es =>
    cases e2
    refine .inr (q σ H μ env S _ S' _ hr er e1 fun v H1 μ1 l hr1 r => ?_)
    cases r with
    | lst h1 h2 => exact ⟨_, rfl, ⟨_, h1.sq⟩, k _ H1 μ1 l hr1 (itf_lst h1.ls h2)⟩
  | scr es =>
    cases e2
    refine .inr (q σ H μ env S _ S' _ hr er e1 fun v H1 μ1 l hr1 r => ?_)
    cases r with
    | scr h1 h2 => exact ⟨_, rfl, ⟨_, h1.sq⟩, k _ H1 μ1 l hr1 (itf_lst h1 h2)⟩
  | _ => cases e2
def rngD (lo : Int) (n : Nat) : List D := (List.range n).map fun (i : Nat) => .int (lo + (i : Int))
theorem itf_rng {H0 : Hp} {μ0 : Mp} {lo : Int} {n : Nat} : ItF P w K (Itr lo n) (rngD lo n) μ0 H0 := by
  intro μ H l
  have W := walk_range (lo := lo) (n := n)
  have hl : (rngD lo n).length = n := by simp [rngD]
  refine ⟨fun S hr => ⟨fun i hi => W.goes i H (by omega) trivial, by rw [hl]; exact W.stops H trivial⟩, fun i S x H' d hr h1 y => ?_⟩
  have hi : i < n := by rw [← hl]; exact (List.getElem?_eq_some_iff.mp h1).1
  obtain ⟨rfl, rfl⟩ := W.yields i H x H' hi trivial y
  have e : d = .int (lo + i) := by
    unfold rngD at h1
    rw [List.getElem?_map, List.getElem?_range hi] at h1
    exact (Option.some.inj h1).symm
  subst e
  exact ⟨.refl _ _, hr, .int _⟩
def fRng1 (g : FA) : FA := fun env S => match g env S with
  | some ([.int j], S1) => if -(2 ^ 62) ≤ j ∧ j < 2 ^ 62 then some (rngD 0 j.toNat, S1) else none
  | _ => none
def fRng2 (g : FA) : FA := fun env S => match g env S with
  | some ([.int i, .int j], S1) => if -(2 ^ 62) ≤ i ∧ i < 2 ^ 62 ∧ -(2 ^ 62) ≤ j ∧ j < 2 ^ 62 then some (rngD i (j - i).toNat, S1) else none
  | _ => none
theorem ji_range1 {tg a : Expr} {g : FA} {p pos : Pos} (hg : Gl X "range") (hm : X.mg "range" = none) (ha : JA X [a] g) (hs : starEach [a] X.env = [(false, eval a X.env)] := by rfl) : JI X tg (.Call (.Name "range" p) [a] [] pos) (fRng1 g) := by
  obtain ⟨t, pa, q⟩ := ha
  refine ⟨_, pi_range1 hg hm pa hs, fun σ H μ env S ds S' R hr er hf k => ?_⟩
  unfold fRng1 at hf
  split at hf
  · rename_i j S1 e1
    split at hf
    · rename_i hj
      cases hf
      refine q σ H μ env S _ _ _ hr er e1 fun vs H1 μ1 l hr1 r => ?_
      cases r with
      | cons r1 r2 =>
        cases r1
        cases r2
        exact ⟨j, rfl, hj.1, hj.2, k _ H1 μ1 l hr1 itf_rng⟩
    · cases hf
  · cases hf
theorem ji_range2 {tg a b : Expr} {g : FA} {p pos : Pos} (hg : Gl X "range") (hm : X.mg "range" = none) (ha : JA X [a, b] g) (hs : starEach [a, b] X.env = [(false, eval a X.env), (false, eval b X.env)] := by rfl) (hs2 : starEach [b] X.env = [(false, eval b X.env)] := by rfl) : JI X tg (.Call (.Name "range" p) [a, b] [] pos) (fRng2 g) := by
  obtain ⟨t, pa, q⟩ := ha
  refine ⟨_, pi_range2 hg hm pa hs hs2, fun σ H μ env S ds S' R hr er hf k => ?_⟩
  unfold fRng2 at hf
  split at hf
  · rename_i i j S1 e1
    split at hf
    · rename_i hj
      cases hf
      refine q σ H μ env S _ _ _ hr er e1 fun vs H1 μ1 l hr1 r => ?_
      cases r with
      | cons r1 r2 =>
        cases r1
        cases r2 with
        | cons r3 r4 =>
          cases r3
          cases r4
          exact ⟨i, j, rfl, hj, k _ H1 μ1 l hr1 itf_rng⟩
    · cases hf
  · cases hf
/-! comprehensions: a new list that nobody changes -/
def wipeD (env : Env) : List Nat → Env
  | [] => env
  | v :: vs => (wipeD env vs).set v none
theorem wipeD_length (env : Env) : ∀ vs : List Nat, (wipeD env vs).length = env.length
  | [] => rfl
  | v :: vs => by rw [wipeD, List.length_set, wipeD_length env vs]
theorem wipeD_some {env : Env} {i : Nat} {d : D} : ∀ {vs : List Nat}, (wipeD env vs)[i]? = some (some d) → env[i]? = some (some d) ∧ i ∉ vs
  | [], h => ⟨h, by simp⟩
  | v :: vs, h => by
    rw [wipeD] at h
    by_cases hi : v = i
    · subst hi
      by_cases hv : v < (wipeD env vs).length
      · rw [List.getElem?_set_self hv] at h; cases h
      · rw [List.getElem?_eq_none (by simpa using hv)] at h; cases h
    · rw [List.getElem?_set_ne hi] at h
      obtain ⟨h1, h2⟩ := wipeD_some h
      exact ⟨h1, by simp only [List.mem_cons, not_or]; exact ⟨fun e => hi e.symm, h2⟩⟩
theorem ER.wipe {H : Hp} {μ : Mp} {σ : L2.St} {env : Env} (er : ER K H μ σ env) (vs : List Nat) : ER K H μ (wipe σ vs) (wipeD env vs) := by
  refine ⟨by rw [wipe_length, wipeD_length, er.len], fun i d h => ?_⟩
  obtain ⟨h1, h2⟩ := wipeD_some h
  obtain ⟨v, h3, h4⟩ := er.ok i d h1
  exact ⟨v, by rw [wipe_out h2]; exact h3, h4⟩
theorem wipe_in {σ : L2.St} {i : Nat} : ∀ {vs : List Nat}, i ∈ vs → i < σ.length → (wipe σ vs)[i]? = some none
  | [], h, _ => by cases h
  | v :: vs, h, hl => by
    unfold wipe
    by_cases hi : v = i
    · subst hi
      exact List.getElem?_set_self (by rw [wipe_length]; exact hl)
    · rw [List.getElem?_set_ne hi]
      rcases List.mem_cons.mp h with z | z
      · exact absurd z.symm hi
      · exact wipe_in z hl
theorem wipe_eq {σ σ2 : L2.St} {vs : List Nat} (hl : σ2.length = σ.length) (h : ∀ j, j ∉ vs → σ2[j]? = (wipe σ vs)[j]?) : wipe σ2 vs = wipe σ vs := by
  refine List.ext_getElem? fun j => ?_
  by_cases hj : j ∈ vs
  · by_cases hlt : j < σ.length
    · rw [wipe_in hj (by omega), wipe_in hj hlt]
    · rw [List.getElem?_eq_none (by rw [wipe_length]; omega), List.getElem?_eq_none (by rw [wipe_length]; omega)]
  · rw [wipe_out hj, h j hj]
def fLcL (g : FG) (ft : FT) (fe : FE) (env : Env) : List D → Sto → Option (List D × Sto)
  | [], S => some ([], S)
  | d :: ds, S => match g d env S with
    | none => none
    | some (env1, S1) => match ft env1 S1 with
      | none => none
      | some (false, S2) => fLcL g ft fe env ds S2
      | some (true, S2) => match fe env1 S2 with
        | none => none
        | some (y, S3) => match fLcL g ft fe env ds S3 with
          | none => none
          | some (ys, S4) => some (y :: ys, S4)
def fLc (own : List Nat) (fi : FA) (g : FG) (ft : FT) (fe : FE) : FE := fun env S => match fi env S with
  | none => none
  | some (ds, S1) => if ds.length ≤ 100000 then (match fLcL g ft fe (wipeD env own) ds S1 with
    | some (ys, S2) => some (.lst ys, S2)
    | none => none) else none
def fYes : FT := fun _ S => some (true, S)
def JTs (X : Cx) (ifs : List Expr) (f : FT) : Prop := ∃ t : TT, PTs X ifs t ∧ ∀ (σ : L2.St) (H : Hp) (μ : Mp) (env : Env) (S : Sto) (d : Bool) (S' : Sto) (Q : Bool → Hp → Prop), HR X.prog X.w X.K H μ S → ER X.K H μ σ env → f env S = some (d, S') →
  (∀ H' μ', Later μ H μ' H' → HR X.prog X.w X.K H' μ' S' → Q d H') → t σ H Q
theorem jts_nil : JTs X [] fYes := ⟨_, pts_nil, fun σ H μ env S d S' Q hr er hf k => by cases hf; exact k H μ (.refl _ _) hr⟩
theorem jts_one {c : Expr} {f : FT} (h : JT X c f) : JTs X [c] f := let ⟨t, p, q⟩ := h; ⟨t, pts_one p, q⟩
theorem HR.unx {H : Hp} {μ : Mp} {S : Sto} {x : List Addr} (hr : HR P w K H μ S) (hx : ∀ a, a ∈ x → a ∈ μ.x) : HR P w K H ⟨μ.m, x⟩ S := by
  have d : Dat μ H ⟨μ.m, x⟩ H := ⟨⟨[], by simp⟩, fun a o h n nx => ⟨n, fun z => nx (hx a z), h⟩⟩
  exact ⟨hr.len, hr.nd, fun k a o hk hs => (hr.ok k a o hk hs).dat d rfl, hr.there, fun a ha => hr.thereX a (hx a ha), fun a ha z => hr.dj a ha (hx a z)⟩
theorem len100 {n : Nat} (h : n < 100001) : n < sizeLine := Nat.lt_of_lt_of_le h (by decide)
/-- the accumulating list at p -/
theorem HR.acc {H : Hp} {μ : Mp} {S : Sto} {p : Addr} {o : HO} (hr : HR P w K H μ S) (hx : p ∈ μ.x) : HR P w K (upd H p o) μ S ∧ Dat μ H μ (upd H p o) := by
  have nm : p ∉ μ.m := fun z => hr.dj p z hx
  have d : Dat μ H μ (upd H p o) := ⟨⟨[], by simp⟩, fun a u h n nx => ⟨n, nx, by rw [upd_ne (show a ≠ p from fun z => nx (by rw [z]; exact hx))]; exact h⟩⟩
  refine ⟨⟨hr.len, hr.nd, fun k a u hk hs => (hr.ok k a u hk hs).dat d (upd_ne (show a ≠ p from fun z => nm (by rw [← z]; exact List.mem_of_getElem? hk))), fun a ha => ?_, fun a ha => ?_, hr.dj⟩, d⟩
  · rw [upd_ne (show a ≠ p from fun z => nm (by rw [← z]; exact ha))]; exact hr.there a ha
  · by_cases e : a = p
    · rw [e, upd_same]; simp
    · rw [upd_ne e]; exact hr.thereX a ha
section
variable (X : Cx) (scope : Scope)
/-- readings of a block's pieces, whatever its frame -/
def tgB (tg : Expr) : TG := fun v σ H0 Q => ∀ (s : Shared) (H : Hp) (C : Addr) (cl : List (Str × Addr)) (fp : List Addr), ∃ t, PG (X.blk s H scope (compEnvC scope cl C X.env) fp) tg t ∧ t v σ H0 Q
def ttB (ifs : List Expr) : TT := fun σ H0 Q => ∀ (s : Shared) (H : Hp) (C : Addr) (cl : List (Str × Addr)) (fp : List Addr), ∃ t, PTs (X.blk s H scope (compEnvC scope cl C X.env) fp) ifs t ∧ t σ H0 Q
def teB (elt : Expr) : TE := fun σ H0 Q => ∀ (s : Shared) (H : Hp) (C : Addr) (cl : List (Str × Addr)) (fp : List Addr), ∃ t, PE (X.blk s H scope (compEnvC scope cl C X.env) fp) elt t ∧ t σ H0 Q
end
theorem pgB {scope : Scope} {tg : Expr} (s : Shared) (H : Hp) (C : Addr) (cl : List (Str × Addr)) (fp : List Addr) : PG (X.blk s H scope (compEnvC scope cl C X.env) fp) tg (tgB X scope tg) := ⟨fun pins s' σ H' v u Q I r h => let ⟨t, p, q⟩ := h s H C cl fp; p.run pins s' σ H' v u Q I r q⟩
theorem ptB {scope : Scope} {ifs : List Expr} (s : Shared) (H : Hp) (C : Addr) (cl : List (Str × Addr)) (fp : List Addr) : PTs (X.blk s H scope (compEnvC scope cl C X.env) fp) ifs (ttB X scope ifs) := ⟨fun pins s' σ H' Q I h => let ⟨t, p, q⟩ := h s H C cl fp; p.run pins s' σ H' Q I q⟩
theorem peB {scope : Scope} {elt : Expr} (s : Shared) (H : Hp) (C : Addr) (cl : List (Str × Addr)) (fp : List Addr) : PE (X.blk s H scope (compEnvC scope cl C X.env) fp) elt (teB X scope elt) := ⟨fun pins s' σ H' Q I h => let ⟨t, p, q⟩ := h s H C cl fp; p.run pins s' σ H' Q I q⟩
theorem q_lc {elt tg : Expr} {ifs : List Expr} {scope : Scope} {own : List Nat} {fi : FA} {g : FG} {ws : List Nat} {ft : FT} {fe : FE} {wi : TI} (qi : QI X wi fi)
    (hg : ∀ (s : Shared) (H : Hp) (C : Addr) (cl : List (Str × Addr)) (fp : List Addr), JG (X.blk s H scope (compEnvC scope cl C X.env) fp) tg g ws) (ht : ∀ (s : Shared) (H : Hp) (C : Addr) (cl : List (Str × Addr)) (fp : List Addr), JTs (X.blk s H scope (compEnvC scope cl C X.env) fp) ifs ft)
    (he : ∀ (s : Shared) (H : Hp) (C : Addr) (cl : List (Str × Addr)) (fp : List Addr), JE (X.blk s H scope (compEnvC scope cl C X.env) fp) elt fe) (hw : ∀ j, j ∈ ws → j ∈ own)
    (σ : L2.St) (H : Hp) (μ : Mp) (env : Env) (S : Sto) (d : D) (S' : Sto) (Q : VK) (hr : HR X.prog X.w X.K H μ S) (er : ER X.K H μ σ env) (hf : fLc own fi g ft fe env S = some (d, S')) (k : ∀ v H' μ', Later μ H μ' H' → HR X.prog X.w X.K H' μ' S' → Rv X.K H' μ' v d → Q v H') :
    tLc wi (tgB X scope tg) (ttB X scope ifs) (teB X scope elt) own σ H Q := by
  unfold fLc at hf
  split at hf
  · cases hf
  · rename_i ds S1 e1
    split at hf
    · rename_i hlen
      split at hf
      · rename_i ys S2 e2
        cases hf
        refine qi σ H μ env S ds S1 _ hr er e1 fun T H1 μ1 l1 hr1 it p np => ?_
        have pm := hr1.free np
        have er1 := er.later l1
        refine ⟨fun i n H2 => n = ds.length - i ∧ i ≤ ds.length ∧ ∃ μ2 S2 xs acc rest, Later μ1 H1 μ2 H2 ∧ p ∈ μ2.x ∧ HR X.prog X.w X.K H2 μ2 S2 ∧ H2 p = some (.lst xs) ∧ RvAll X.K H2 μ2 xs acc ∧ acc.length ≤ i ∧ fLcL g ft fe (wipeD env own) (ds.drop i) S2 = some (rest, S') ∧ acc ++ rest = ys, ⟨ds.length, by simp, Nat.zero_le _, ?_⟩, ?_⟩
        · obtain ⟨l2, hr2⟩ := hr1.new (o := .lst []) np
          refine ⟨⟨μ1.m, p :: μ1.x⟩, S1, [], [], ys, ⟨⟨[], by simp⟩, fun a h => List.mem_cons_of_mem _ h, fun a o h n => ⟨n, fun nx z => ?_, (l2.keep a o h n).2.2⟩, l2.frz⟩, by simp, ⟨hr2.len, hr2.nd, fun j a o hj ho => ?_, hr2.there, fun a ha => ?_, fun a ha z => ?_⟩, upd_same, .nil, Nat.zero_le _, e2, rfl⟩
          · rcases List.mem_cons.mp z with z | z
            · exact ne_of_none h np z
            · exact nx z
          · have d0 : Dat μ1 H1 ⟨μ1.m, p :: μ1.x⟩ (upd H1 p (.lst [])) := ⟨⟨[], by simp⟩, fun b u h n nx => ⟨n, fun z => (List.mem_cons.mp z).elim (fun z => ne_of_none h np z) nx, by rw [upd_ne (ne_of_none h np)]; exact h⟩⟩
            exact (hr1.ok j a o hj ho).dat d0 (upd_ne (show a ≠ p from fun z => pm.1 (by rw [← z]; exact List.mem_of_getElem? hj)))
          · rcases List.mem_cons.mp ha with z | z
            · rw [z, upd_same]; simp
            · exact hr2.thereX a z
          · rcases List.mem_cons.mp z with z | z
            · exact pm.1 (z ▸ ha)
            · exact hr2.dj a ha z
        · rintro i n H2 ⟨rfl, hi, μ2, S2, xs, acc, rest, l2, hp2, hr2, hD2, rv2, ha2, e3, e4⟩
          obtain ⟨it1, it2⟩ := it μ2 H2 l2
          obtain ⟨go, stop⟩ := it1 S2 hr2
          by_cases hlt : i < ds.length
          · refine .inr ⟨go i hlt, fun H3 => ∃ μ3 S3 xs acc rest, Later μ1 H1 μ3 H3 ∧ p ∈ μ3.x ∧ HR X.prog X.w X.K H3 μ3 S3 ∧ H3 p = some (.lst xs) ∧ RvAll X.K H3 μ3 xs acc ∧ acc.length ≤ i + 1 ∧ fLcL g ft fe (wipeD env own) (ds.drop (i + 1)) S3 = some (rest, S') ∧ acc ++ rest = ys,
              fun H3 z => ⟨ds.length - (i + 1), by omega, rfl, hlt, z⟩, fun x H3 y s0 H0 C0 cl0 fp0 => ?_⟩
            obtain ⟨l3, hr3, r3⟩ := it2 i S2 x H3 ds[i] hr2 (by simp [hlt]) y
            rw [List.drop_eq_getElem_cons hlt, fLcL] at e3
            split at e3
            · cases e3
            · rename_i env4 S4 e5
              obtain ⟨tg', pg, qg⟩ := hg s0 H0 C0 cl0 fp0
              refine ⟨tg', pg, ?_⟩
              have er3 : ER X.K H3 μ2 (wipe σ own) (wipeD env own) := (er1.wipe _).later (l2.trans l3)
              refine qg _ H3 μ2 _ S2 x ds[i] env4 S4 _ hr3 er3 r3 e5 fun σ4 H4 μ4 l4 hr4 er4 w4 => ?_
              refine ⟨wipe_eq ?_ fun j hj => w4.2 j fun z => hj (hw j z), fun s0 H0 C0 cl0 fp0 => ?_⟩
              · rw [w4.1, wipe_length]
              obtain ⟨tt', pt, qt⟩ := ht s0 H0 C0 cl0 fp0
              refine ⟨tt', pt, ?_⟩
              split at e3
              · cases e3
              · rename_i S5 e6
                refine qt σ4 H4 μ4 env4 S4 false S5 _ hr4 er4 e6 fun H5 μ5 l5 hr5 => ?_
                rw [if_neg Bool.false_ne_true]
                have L : Later μ2 H2 μ5 H5 := l3.trans (l4.trans l5)
                exact ⟨μ5, S5, xs, acc, rest, l2.trans L, L.ex p hp2, hr5, (L.keep p _ hD2 (fun z => hr2.dj p z hp2)).2.2, rv2.later L, by omega, e3, e4⟩
              · rename_i S5 e6
                refine qt σ4 H4 μ4 env4 S4 true S5 _ hr4 er4 e6 fun H5 μ5 l5 hr5 => ?_
                rw [if_pos rfl]
                intro s0 H0 C0 cl0 fp0
                obtain ⟨te', pe, qe⟩ := he s0 H0 C0 cl0 fp0
                refine ⟨te', pe, ?_⟩
                split at e3
                · cases e3
                · rename_i y6 S6 e7
                  split at e3
                  · cases e3
                  · rename_i ys6 S7 e8
                    cases e3
                    refine qe σ4 H5 μ5 env4 S5 y6 S6 _ hr5 (er4.later l5) e7 fun v6 H6 μ6 l6 hr6 r6 => ?_
                    have L : Later μ2 H2 μ6 H6 := l3.trans (l4.trans (l5.trans l6))
                    have hD6 := (L.keep p _ hD2 (fun z => hr2.dj p z hp2)).2.2
                    have hp6 := L.ex p hp2
                    have hl6 := rv2.length
                    refine ⟨xs, hD6, len100 (by omega), ?_⟩
                    obtain ⟨hr7, dat7⟩ := hr6.acc (o := .lst (xs ++ [v6])) hp6
                    have l7 : Later μ1 H1 μ6 (upd H6 p (.lst (xs ++ [v6]))) := by
                      have l7 := l2.trans L
                      exact ⟨l7.ext, l7.ex, fun a o h n => let z := l7.keep a o h n; ⟨z.1, z.2.1, by rw [upd_ne (ne_of_none h np)]; exact z.2.2⟩, fun a o u h => by rw [upd_ne (ne_of_none h np)]; exact l7.frz a o u h⟩
                    exact ⟨μ6, S6, xs ++ [v6], acc ++ [y6], ys6, l7, hp6, hr7, upd_same, ((rv2.later L).append (.cons r6 .nil)).dat dat7, by rw [List.length_append]; simp; omega, e8, by rw [List.append_assoc]; exact e4⟩
          · have e : i = ds.length := by omega
            subst e
            rw [List.drop_length, fLcL] at e3
            cases e3
            rw [List.append_nil] at e4
            subst e4
            refine .inl ⟨stop, ?_⟩
            have l8 : Later μ1 H1 ⟨μ2.m, μ1.x⟩ H2 := ⟨l2.ext, fun _ h => h, fun a o h n => ⟨(l2.keep a o h n).1, id, (l2.keep a o h n).2.2⟩, l2.frz⟩
            exact k (.ref p) H2 ⟨μ2.m, μ1.x⟩ (l1.trans l8) (hr2.unx l2.ex) (.lst ⟨hD2, fun z => hr2.dj p z hp2, pm.2⟩ (rv2.dat (show Dat μ2 H2 ⟨μ2.m, μ1.x⟩ H2 from ⟨⟨[], by simp⟩, fun a o h n nx => ⟨n, fun z => nx (l2.ex a z), h⟩⟩)))
      · cases hf
    · cases hf

theorem je_lc {elt tg iter : Expr} {ifs : List Expr} {scope : Scope} {own : List (Str × Nat)} {pos : Pos} {fi : FA} {g : FG} {ws : List Nat} {ft : FT} {fe : FE} (hc : X.calm = true) (hN : X.N.Nodup) (hi : JI X tg iter fi) (ok : BlkOk X.N X.env.scope scope own)
    (hg : ∀ (s : Shared) (H : Hp) (C : Addr) (cl : List (Str × Addr)) (fp : List Addr), JG (X.blk s H scope (compEnvC scope cl C X.env) fp) tg g ws) (ht : ∀ (s : Shared) (H : Hp) (C : Addr) (cl : List (Str × Addr)) (fp : List Addr), JTs (X.blk s H scope (compEnvC scope cl C X.env) fp) ifs ft)
    (he : ∀ (s : Shared) (H : Hp) (C : Addr) (cl : List (Str × Addr)) (fp : List Addr), JE (X.blk s H scope (compEnvC scope cl C X.env) fp) elt fe) (hw : ∀ j, j ∈ ws → j ∈ own.map (·.2) := by decide) (hs : ∀ x, foldedSetIterable iter X.env x = pure x := by intro _; rfl) :
    JE X (.ListComp elt [⟨tg, iter, ifs, 0⟩] scope pos) (fLc (own.map (·.2)) fi g ft fe) := by
  obtain ⟨wi, pi, qi⟩ := hi
  exact ⟨_, pe_lc hc hN pi ok pgB ptB peB hs, q_lc qi hg ht he hw⟩
/-- name = [..] -/
theorem js_setLc {i : Nat} {y : Str} {py : Pos} {elt tg iter : Expr} {ifs : List Expr} {scope : Scope} {own : List (Str × Nat)} {pos spos : Pos} {fi : FA} {g : FG} {ws : List Nat} {ft : FT} {fe : FE} (hc : X.calm = true) (hN : X.N.Nodup) (hy : X.N[i]? = some y) (hyl : X.env.scope.names.lookup y = some .local)
    (hsw : swapsWith (.ListComp elt [⟨tg, iter, ifs, 0⟩] scope pos) (some (.Name y py)) spos.line X.env = pure true) (hi : JI X tg iter fi) (ok : BlkOk X.N X.env.scope scope own)
    (hg : ∀ (s : Shared) (H : Hp) (C : Addr) (cl : List (Str × Addr)) (fp : List Addr), JG (X.blk s H scope (compEnvC scope cl C X.env) fp) tg g ws) (ht : ∀ (s : Shared) (H : Hp) (C : Addr) (cl : List (Str × Addr)) (fp : List Addr), JTs (X.blk s H scope (compEnvC scope cl C X.env) fp) ifs ft)
    (he : ∀ (s : Shared) (H : Hp) (C : Addr) (cl : List (Str × Addr)) (fp : List Addr), JE (X.blk s H scope (compEnvC scope cl C X.env) fp) elt fe) (hw : ∀ j, j ∈ ws → j ∈ own.map (·.2) := by decide) (hs : ∀ x, foldedSetIterable iter X.env x = pure x := by intro _; rfl) :
    JS X (.Assign [.Name y py] (.ListComp elt [⟨tg, iter, ifs, 0⟩] scope pos) spos) (fAsg (fLc (own.map (·.2)) fi g ft fe) (gNm i)) := by
  obtain ⟨wi, pi, qi⟩ := hi
  exact ⟨_, ps_setLc hc hN hy hyl hsw pi ok pgB ptB peB hs, qasg (q_lc qi hg ht he hw) (qg_name i)⟩
end J

set_option autoImplicit false
namespace J
open PySem PySem.Spec PyProof.Rows L2
variable {K : PySem.W.Frag} {P : Program} {w : World} {X : Cx}
/-! arithmetic -/
theorem RO.or {r r' : R2} {g g' : G2} (h : RO P w K r g) (h' : RO P w K r' g') : RO P w K (fun x y H Q => r x y H Q ∨ r' x y H Q) (fun a b S => (g a b S).orElse fun _ => g' a b S) := by
  intro H μ S x y a b d S' Q hr rx ry e k
  cases h1 : g a b S with
  | some p =>
    simp only [h1, Option.orElse_some] at e
    exact .inl (h H μ S x y a b d S' Q hr rx ry (h1.trans e) k)
  | none =>
    simp only [h1, Option.orElse_none] at e
    exact .inr (h' H μ S x y a b d S' Q hr rx ry e k)
def gI (c : Int → Int → Bool) (g : Int → Int → Int) : G2 := fun a b S => match a, b with
  | .int i, .int j => if c i j = true then some (.int (g i j), S) else none
  | _, _ => none
theorem ro_I {c : Int → Int → Bool} {g : Int → Int → Int} {C : Int → Int → Prop} (hc : ∀ i j, c i j = true → C i j) : RO P w K (rI C fun i j => .int (g i j)) (gI c g) := by
  intro H μ S x y a b d S' Q hr rx ry e k
  unfold gI at e
  split at e
  · split at e
    · rename_i hcc
      cases e
      cases rx
      cases ry
      exact ⟨_, _, rfl, rfl, hc _ _ hcc, k _ H μ (.refl _ _) hr (.int _)⟩
    · cases e
  · cases e
def gI0 (g : Int → Int → Int) : G2 := fun a b S => match a, b with
  | .int i, .int j => some (.int (g i j), S)
  | _, _ => none
theorem ro_I0 {g : Int → Int → Int} : RO P w K (rI0 fun i j => .int (g i j)) (gI0 g) := by
  intro H μ S x y a b d S' Q hr rx ry e k
  unfold gI0 at e
  split at e
  · cases e
    cases rx
    cases ry
    exact ⟨_, _, rfl, rfl, k _ H μ (.refl _ _) hr (.int _)⟩
  · cases e
def gB0 (g : Int → Int → Bool) : G2 := fun a b S => match a, b with
  | .int i, .int j => some (.bl (g i j), S)
  | _, _ => none
theorem ro_B0 {g : Int → Int → Bool} : RO P w K (rI0 fun i j => .bl (g i j)) (gB0 g) := by
  intro H μ S x y a b d S' Q hr rx ry e k
  unfold gB0 at e
  split at e
  · cases e
    cases rx
    cases ry
    exact ⟨_, _, rfl, rfl, k _ H μ (.refl _ _) hr (.bl _)⟩
  · cases e
/-! + -/
def gAdd : G2 := fun a b S => match a, b with
  | .int i, .int j => some (.int (i + j), S)
  | .str x, .str y => if x.length + y.length ≤ sizeLine then some (.str (x ++ y), S) else none
  | .lst xs, .lst ys => if xs.length + ys.length ≤ 100000 then some (.lst (xs ++ ys), S) else none
  | .tup xs, .tup ys => if xs.length + ys.length ≤ 100000 then some (.tup (xs ++ ys), S) else none
  | _, _ => none
def rAddJ (K : PySem.W.Frag) : R2 := fun x y H Q => rI0 (fun i j => .int (i + j)) x y H Q ∨ (∃ i j, x = .str i ∧ y = .str j ∧ i.length + j.length ≤ sizeLine ∧ Q (.str (i ++ j)) H) ∨ rCat x y H Q ∨ rCatA K x y H Q
theorem op_addJ : OpR X (binaryOp .Add) (rAddJ X.K) := op_add.or (op_add_str.or (op_cat.or op_catA))
theorem le100 {n : Nat} (h : n ≤ 100000) : n ≤ sizeLine := Nat.le_trans h (by decide)
theorem ro_addJ : RO P w K (rAddJ K) gAdd := by
  intro H μ S x y a b d S' Q hr rx ry e k
  unfold gAdd at e
  split at e
  · cases e
    cases rx
    cases ry
    exact .inl ⟨_, _, rfl, rfl, k _ H μ (.refl _ _) hr (.int _)⟩
  · split at e
    · rename_i hl
      cases e
      cases rx
      cases ry
      exact .inr (.inl ⟨_, _, rfl, rfl, hl, k _ H μ (.refl _ _) hr (.str _)⟩)
    · cases e
  · split at e
    · rename_i hl
      cases e
      cases rx with
      | lst h1 h2 =>
        cases ry with
        | lst h3 h4 =>
          refine .inr (.inr (.inl ⟨_, _, _, _, rfl, rfl, h1.1, h3.1, by rw [h2.length, h4.length]; exact le100 hl, fun p np => ?_⟩))
          obtain ⟨l2, hr2⟩ := hr.new (o := .lst _) np
          exact k _ _ μ l2 hr2 (.lst ⟨upd_same, hr.free np⟩ ((h2.append h4).later l2))
    · cases e
  · split at e
    · rename_i hl
      cases e
      cases rx with
      | tup h1 h2 =>
        cases ry with
        | tup h3 h4 =>
          have n0 := h2.empty
          refine .inr (.inr (.inr ⟨_, _, _, _, rfl, rfl, h1.sq, h3.sq, by rw [h2.length, h4.length]; exact le100 hl, fun z => ?_, fun _ z => ?_, fun _ _ p np => ?_⟩))
          · subst z
            cases h2
            rw [List.nil_append] at k
            exact k _ H μ (.refl _ _) hr (.tup h3 h4)
          · subst z
            cases h4
            rw [List.append_nil] at k
            exact k _ H μ (.refl _ _) hr (.tup h1 h2)
          · obtain ⟨l2, hr2⟩ := hr.new (o := .tup _) np
            exact k _ _ μ l2 hr2 (.tup (.inl ⟨.inl upd_same, hr.free np⟩) ((h2.append h4).later l2))
    · cases e
  · cases e
theorem je_add {a b : Expr} {fa fb : FE} {pos : Pos} (ha : JE X a fa) (hb : JE X b fb) : JE X (.BinOp a .Add b pos) (fOp gAdd fa fb) := je_op op_addJ ro_addJ ha hb
theorem je_sub {a b : Expr} {fa fb : FE} {pos : Pos} (ha : JE X a fa) (hb : JE X b fb) : JE X (.BinOp a .Sub b pos) (fOp (gI0 fun i j => i - j) fa fb) := je_op op_sub ro_I0 ha hb
def cMul (i j : Int) : Bool := (decide (-(2 ^ 64) < i) && decide (i < 2 ^ 64)) || (decide (-(2 ^ 64) < j) && decide (j < 2 ^ 64))
theorem cMul_ok (i j : Int) (h : cMul i j = true) : CMul i j := by
  unfold cMul at h
  simp only [Bool.or_eq_true, Bool.and_eq_true, decide_eq_true_eq] at h
  exact h
theorem je_mul {a b : Expr} {fa fb : FE} {pos : Pos} (ha : JE X a fa) (hb : JE X b fb) : JE X (.BinOp a .Mult b pos) (fOp (gI cMul fun i j => i * j) fa fb) := je_op op_mul (ro_I cMul_ok) ha hb
theorem je_mod {a b : Expr} {fa fb : FE} {pos : Pos} (ha : JE X a fa) (hb : JE X b fb) : JE X (.BinOp a .Mod b pos) (fOp (gI (fun _ j => decide (0 < j)) fun i j => i % j) fa fb) := je_op op_mod (ro_I fun _ _ h => of_decide_eq_true h) ha hb
theorem je_fdiv {a b : Expr} {fa fb : FE} {pos : Pos} (ha : JE X a fa) (hb : JE X b fb) : JE X (.BinOp a .FloorDiv b pos) (fOp (gI (fun _ j => decide (0 < j) && decide (j < 1073741824)) fun i j => i / j) fa fb) :=
  je_op op_fdiv (ro_I fun _ _ h => by simp only [Bool.and_eq_true, decide_eq_true_eq] at h; exact h) ha hb
theorem je_pow {a b : Expr} {fa fb : FE} {pos : Pos} (ha : JE X a fa) (hb : JE X b fb) : JE X (.BinOp a .Pow b pos) (fOp (gI (fun i j => decide (0 ≤ j) && decide (j ≤ 1000000) && decide (i.natAbs < 2 ^ 64)) fun i j => i ^ j.toNat) fa fb) :=
  je_op op_pow (ro_I fun _ _ h => by simp only [Bool.and_eq_true, decide_eq_true_eq] at h; exact ⟨h.1.1, h.1.2, h.2⟩) ha hb
def gNeg (a : D) (S : Sto) : Option (D × Sto) := match a with
  | .int i => some (.int (-i), S)
  | _ => none
theorem je_neg {a : Expr} {fa : FE} {pos : Pos} (ha : JE X a fa) : JE X (.UnaryOp .USub a pos) (fUn gNeg fa) := by
  obtain ⟨t, p, q⟩ := ha
  refine ⟨_, pe_un un_neg p, fun σ H μ env S d S' Q hr er hf k => ?_⟩
  obtain ⟨c, S1, e1, e2⟩ := fUn_some hf
  refine q σ H μ env S c S1 _ hr er e1 fun v H1 μ1 l hr1 r => ?_
  cases r <;> cases e2
  exact ⟨_, rfl, k _ H1 μ1 l hr1 (.int _)⟩
/-! comparisons of whole numbers -/
abbrev gLt : G2 := gB0 fun i j => decide (i < j)
abbrev gLe : G2 := gB0 fun i j => decide (i ≤ j)
abbrev gGt : G2 := gB0 fun i j => decide (j < i)
abbrev gGe : G2 := gB0 fun i j => decide (j ≤ i)
/-! == and != of data -/
mutual
def D.py : D → Option PyData
  | .non => some .none
  | .bl b => some (.bool b)
  | .int i => some (.int i)
  | .str x => some (.str x)
  | .tup ds => (D.pys ds).map .tuple
  | .lst ds => (D.pys ds).map .list
  | .scr ds => (D.pys ds).map .list
  | .obj _ => none
  | .glo _ => none
def D.pys : List D → Option (List PyData)
  | [] => some []
  | d :: ds => match D.py d, D.pys ds with
    | some p, some ps => some (p :: ps)
    | _, _ => none
end
def D.pyS (S : Sto) : D → Option PyData
  | .obj k => match S[k]? with
    | some (.lst ds) => (D.pys ds).map .list
    | _ => none
  | d => d.py
mutual
theorem Rv.dp {H : Hp} {μ : Mp} : ∀ {v : V} {d : D} {p : PyData}, Rv K H μ v d → d.py = some p → Dp K H v p
  | _, _, _, .non, e => by rw [D.py] at e; cases e; exact .non
  | _, _, _, .bl b, e => by rw [D.py] at e; cases e; exact .bl b
  | _, _, _, .int i, e => by rw [D.py] at e; cases e; exact .int i
  | _, _, _, .str x, e => by rw [D.py] at e; cases e; exact .str x
  | _, _, _, .tup h q, e => by
    rw [D.py] at e
    obtain ⟨ps, e1, rfl⟩ := Option.map_eq_some_iff.mp e
    exact .tup h.sq (RvAll.dp q e1)
  | _, _, _, .lst h q, e => by
    rw [D.py] at e
    obtain ⟨ps, e1, rfl⟩ := Option.map_eq_some_iff.mp e
    exact .lst h.sq (RvAll.dp q e1)
  | _, _, _, .scr h q, e => by
    rw [D.py] at e
    obtain ⟨ps, e1, rfl⟩ := Option.map_eq_some_iff.mp e
    exact .lst h.sq (RvAll.dp q e1)
  | _, _, _, .obj h, e => by rw [D.py] at e; cases e
  | _, _, _, .glo v, e => by rw [D.py] at e; cases e
theorem RvAll.dp {H : Hp} {μ : Mp} : ∀ {vs : List V} {ds : List D} {ps : List PyData}, RvAll K H μ vs ds → D.pys ds = some ps → DpAll K H vs ps
  | _, _, _, .nil, e => by rw [D.pys] at e; cases e; exact .nil
  | _, _, _, .cons (d := d) (ds := ds) h q, e => by
    rw [D.pys] at e
    cases h1 : D.py d with
    | none => rw [h1] at e; cases e
    | some p =>
      cases h2 : D.pys ds with
      | none => rw [h1, h2] at e; cases e
      | some ps =>
        rw [h1, h2] at e
        cases e
        exact .cons (Rv.dp h h1) (RvAll.dp q h2)
end
theorem Rv.dpS {H : Hp} {μ : Mp} {S : Sto} {v : V} {d : D} {p : PyData} (hr : HR P w K H μ S) (r : Rv K H μ v d) (e : d.pyS S = some p) : Dp K H v p := by
  cases d with
  | obj k =>
    simp only [D.pyS] at e
    split at e
    · rename_i ds h
      obtain ⟨a, rfl, h1, xs, h2, h3⟩ := hr.at r h
      obtain ⟨ps, e1, rfl⟩ := Option.map_eq_some_iff.mp e
      exact .lst (.inl (.inl h2)) (h3.dp e1)
    · cases e
  | _ => exact r.dp e
def scalP : PyData → PyData → Bool
  | .none, .none => true | .none, .int _ => true | .int _, .none => true | .none, .bool _ => true | .bool _, .none => true | .none, .str _ => true | .str _, .none => true
  | .int _, .int _ => true | .bool _, .bool _ => true | .str _, .str _ => true
  | .int _, .str _ => true | .str _, .int _ => true | .bool _, .str _ => true | .str _, .bool _ => true
  | _, _ => false
def gEq (neg : Bool) : G2 := fun a b S => match a.pyS S, b.pyS S with
  | some p, some q => if (scalP p q || (SeqAt.shaped p && SeqAt.shaped q)) = true then some (.bl (neg ^^ PyData.eqv p q), S) else none
  | _, _ => none
theorem scal_ok {H : Hp} {x y : V} {p q : PyData} (hx : Dp K H x p) (hy : Dp K H y q) (h : scalP p q = true) : scal x y = true ∧ decide (x = y) = PyData.eqv p q := by
  cases hx <;> cases hy <;> first
    | (simp only [scalP] at h; cases h; done)
    | exact ⟨rfl, dec_int⟩
    | exact ⟨rfl, dec_bl⟩
    | exact ⟨rfl, dec_str⟩
    | exact ⟨rfl, by simp [PyData.eqv]⟩
def rEqJ (K : PySem.W.Frag) : R2 := fun x y H Q => rEq x y H Q ∨ rEqD K x y H Q
def rNeJ (K : PySem.W.Frag) : R2 := fun x y H Q => rNe x y H Q ∨ rNeD K x y H Q
theorem ro_eqJ : RO P w K (rEqJ K) (gEq false) := by
  intro H μ S x y a b d S' Q hr rx ry e k
  unfold gEq at e
  split at e
  · rename_i p q h1 h2
    split at e
    · rename_i h
      cases e
      have d1 := Rv.dpS hr rx h1
      have d2 := Rv.dpS hr ry h2
      rcases Bool.or_eq_true _ _ ▸ h with h | h
      · obtain ⟨s1, s2⟩ := scal_ok d1 d2 h
        refine .inl ⟨s1, ?_⟩
        rw [s2]
        have := k (.bl (false ^^ PyData.eqv p q)) H μ (.refl _ _) hr (.bl _)
        rw [Bool.false_xor] at this
        exact this
      · rw [Bool.and_eq_true] at h
        refine .inr ⟨p, q, d1, d2, h.1, h.2, ?_⟩
        have := k (.bl (false ^^ PyData.eqv p q)) H μ (.refl _ _) hr (.bl _)
        rw [Bool.false_xor] at this
        exact this
    · cases e
  · cases e
theorem ro_neJ : RO P w K (rNeJ K) (gEq true) := by
  intro H μ S x y a b d S' Q hr rx ry e k
  unfold gEq at e
  split at e
  · rename_i p q h1 h2
    split at e
    · rename_i h
      cases e
      have d1 := Rv.dpS hr rx h1
      have d2 := Rv.dpS hr ry h2
      rcases Bool.or_eq_true _ _ ▸ h with h | h
      · obtain ⟨s1, s2⟩ := scal_ok d1 d2 h
        refine .inl ⟨s1, ?_⟩
        rw [s2]
        have := k (.bl (true ^^ PyData.eqv p q)) H μ (.refl _ _) hr (.bl _)
        rw [Bool.true_xor] at this
        exact this
      · rw [Bool.and_eq_true] at h
        refine .inr ⟨p, q, d1, d2, h.1, h.2, ?_⟩
        have := k (.bl (true ^^ PyData.eqv p q)) H μ (.refl _ _) hr (.bl _)
        rw [Bool.true_xor] at this
        exact this
    · cases e
  · cases e
theorem op_eqJ (hu : X.A.units + 64 < cLine) : OpR X (compareOp .Eq) (rEqJ X.K) := op_eq.or (op_eqD hu)
theorem op_neJ (hu : X.A.units + 64 < cLine) : OpR X (compareOp .NotEq) (rNeJ X.K) := op_ne.or (op_neD hu)
/-! is None -/
def gIsN (neg : Bool) : G2 := fun a b S => match b with
  | .non => match a with
    | .non => some (.bl (!neg), S)
    | .glo _ => none
    | _ => some (.bl neg, S)
  | _ => none
theorem isN_dec {H : Hp} {μ : Mp} {x : V} {a : D} (r : Rv K H μ x a) : (a = .non ∧ x = .non) ∨ (∃ v, a = .glo v) ∨ (x ≠ .non ∧ a ≠ .non ∧ ∀ v, a ≠ .glo v) := by
  cases r <;> first | exact .inl ⟨rfl, rfl⟩ | exact .inr (.inl ⟨_, rfl⟩) | exact .inr (.inr ⟨(by intro z; cases z), (by intro z; cases z), (by intro v z; cases z)⟩)
theorem gIsN_some {neg : Bool} {a b d : D} {S S' : Sto} (h : gIsN neg a b S = some (d, S')) : b = .non ∧ S' = S ∧ (∀ v, a ≠ .glo v) ∧ ((a = .non ∧ d = .bl (!neg)) ∨ (a ≠ .non ∧ d = .bl neg)) := by
  unfold gIsN at h
  split at h
  · split at h
    · cases h; exact ⟨rfl, rfl, (by intro v z; cases z), .inl ⟨rfl, rfl⟩⟩
    · cases h
    · rename_i h1 h2
      cases h
      exact ⟨rfl, rfl, h2, .inr ⟨h1, rfl⟩⟩
  · cases h
theorem ro_isN : RO P w K (fun x y H Q => y = .non ∧ Q (.bl (decide (x = .non))) H) (gIsN false) := by
  intro H μ S x y a b d S' Q hr rx ry e k
  obtain ⟨rfl, rfl, ng, h⟩ := gIsN_some e
  cases ry
  refine ⟨rfl, ?_⟩
  rcases h with ⟨rfl, rfl⟩ | ⟨h, rfl⟩
  · cases rx
    exact k _ H μ (.refl _ _) hr (.bl _)
  · rcases isN_dec rx with z | ⟨v, z⟩ | z
    · exact absurd z.1 h
    · exact absurd z (ng v)
    · rw [decide_eq_false z.1]
      exact k _ H μ (.refl _ _) hr (.bl _)
theorem ro_notN : RO P w K (fun x y H Q => y = .non ∧ Q (.bl (!decide (x = .non))) H) (gIsN true) := by
  intro H μ S x y a b d S' Q hr rx ry e k
  obtain ⟨rfl, rfl, ng, h⟩ := gIsN_some e
  cases ry
  refine ⟨rfl, ?_⟩
  rcases h with ⟨rfl, rfl⟩ | ⟨h, rfl⟩
  · cases rx
    exact k _ H μ (.refl _ _) hr (.bl _)
  · rcases isN_dec rx with z | ⟨v, z⟩ | z
    · exact absurd z.1 h
    · exact absurd z (ng v)
    · rw [decide_eq_false z.1]
      exact k _ H μ (.refl _ _) hr (.bl _)
/-! x in a list or tuple of flat things, in a text -/
def D.flat : D → Option V
  | .non => some .non
  | .bl b => some (.bl b)
  | .int i => some (.int i)
  | .str x => some (.str x)
  | _ => none
theorem flat_ok {H : Hp} {μ : Mp} {x : V} {a : D} {v : V} (r : Rv K H μ x a) (h : a.flat = some v) : x = v ∧ flatV v = true := by
  cases r <;> cases h <;> exact ⟨rfl, rfl⟩
def D.flats : List D → Option (List V)
  | [] => some []
  | d :: ds => match D.flat d, D.flats ds with
    | some v, some vs => some (v :: vs)
    | _, _ => none
theorem flats_ok {H : Hp} {μ : Mp} : ∀ {xs : List V} {ds : List D} {vs : List V}, RvAll K H μ xs ds → D.flats ds = some vs → xs = vs ∧ vs.all flatV = true
  | _, _, _, .nil, e => by cases e; exact ⟨rfl, rfl⟩
  | _, _, _, .cons (d := d) (ds := ds) h q, e => by
    rw [D.flats] at e
    cases h1 : D.flat d with
    | none => rw [h1] at e; cases e
    | some p =>
      cases h2 : D.flats ds with
      | none => rw [h1, h2] at e; cases e
      | some ps =>
        rw [h1, h2] at e
        cases e
        obtain ⟨e1, e2⟩ := flat_ok h h1
        obtain ⟨e3, e4⟩ := flats_ok q h2
        exact ⟨by rw [e1, e3], by rw [List.all_cons, e2, e4]; rfl⟩
def D.seqS (S : Sto) : D → Option (List D)
  | .obj k => match S[k]? with
    | some (.lst ds) => some ds
    | _ => none
  | d => d.items
theorem seqS_ok {H : Hp} {μ : Mp} {S : Sto} {x : V} {a : D} {ds : List D} (hr : HR P w K H μ S) (r : Rv K H μ x a) (h : a.seqS S = some ds) : ∃ p xs, x = .ref p ∧ (SqL K H p xs ∨ SqT K H p xs) ∧ RvAll K H μ xs ds := by
  cases a with
  | obj k =>
    simp only [D.seqS] at h
    split at h
    · rename_i es e
      cases h
      obtain ⟨p, rfl, h1, xs, h2, h3⟩ := hr.at r e
      exact ⟨p, xs, rfl, .inl (.inl (.inl h2)), h3⟩
    · cases h
  | tup es => cases h; cases r with | tup h1 h2 => exact ⟨_, _, rfl, .inr h1.sq, h2⟩
  | lst es => cases h; cases r with | lst h1 h2 => exact ⟨_, _, rfl, .inl h1.sq, h2⟩
  | scr es => cases h; cases r with | scr h1 h2 => exact ⟨_, _, rfl, .inl h1.sq, h2⟩
  | _ => cases h
def gInS (neg : Bool) : G2 := fun a b S => match a, b with
  | .str x, .str y => some (.bl (neg ^^ !(Builtin.Str.occurrences y x 0 y.length 1).isEmpty), S)
  | a, b => match a.flat, b.seqS S with
    | some v, some ds => match D.flats ds with
      | some vs => some (.bl (neg ^^ inV v vs), S)
      | none => none
    | _, _ => none
def rInJ (K : PySem.W.Frag) : R2 := fun x y H Q => (∃ i j, x = .str i ∧ y = .str j ∧ Q (.bl (!(Builtin.Str.occurrences j i 0 j.length 1).isEmpty)) H) ∨ rIn K false x y H Q
def rNotInJ (K : PySem.W.Frag) : R2 := fun x y H Q => (∃ i j, x = .str i ∧ y = .str j ∧ Q (.bl (!(!(Builtin.Str.occurrences j i 0 j.length 1).isEmpty))) H) ∨ rIn K true x y H Q
theorem op_inJ : OpR X (compareOp .In) (rInJ X.K) := op_in_str.or op_in_seq
theorem op_notInJ : OpR X (compareOp .NotIn) (rNotInJ X.K) := op_notIn_str.or op_notIn_seq
theorem gInS_some {neg : Bool} {a b d : D} {S S' : Sto} (h : gInS neg a b S = some (d, S')) : S' = S ∧ ((∃ x y, a = .str x ∧ b = .str y ∧ d = .bl (neg ^^ !(Builtin.Str.occurrences y x 0 y.length 1).isEmpty)) ∨
    ∃ v ds vs, a.flat = some v ∧ b.seqS S = some ds ∧ D.flats ds = some vs ∧ d = .bl (neg ^^ inV v vs)) := by
  unfold gInS at h
  split at h
  · cases h; exact ⟨rfl, .inl ⟨_, _, rfl, rfl, rfl⟩⟩
  · split at h
    · split at h
      · cases h; exact ⟨rfl, .inr ⟨_, _, _, by assumption, by assumption, by assumption, rfl⟩⟩
      · cases h
    · cases h
theorem ro_inJ : RO P w K (rInJ K) (gInS false) := by
  intro H μ S x y a b d S' Q hr rx ry e k
  obtain ⟨rfl, h⟩ := gInS_some e
  rcases h with ⟨i, j, rfl, rfl, rfl⟩ | ⟨v, ds, vs, h1, h2, h3, rfl⟩
  · cases rx
    cases ry
    have := k _ H μ (.refl _ _) hr (.bl _)
    rw [Bool.false_xor] at this
    exact .inl ⟨i, j, rfl, rfl, this⟩
  · obtain ⟨rfl, f1⟩ := flat_ok rx h1
    obtain ⟨p, xs, rfl, hs, hds⟩ := seqS_ok hr ry h2
    obtain ⟨rfl, f2⟩ := flats_ok hds h3
    have := k _ H μ (.refl _ _) hr (.bl _)
    rw [Bool.false_xor] at this
    exact .inr ⟨p, _, rfl, hs, f1, f2, this⟩
theorem ro_notInJ : RO P w K (rNotInJ K) (gInS true) := by
  intro H μ S x y a b d S' Q hr rx ry e k
  obtain ⟨rfl, h⟩ := gInS_some e
  rcases h with ⟨i, j, rfl, rfl, rfl⟩ | ⟨v, ds, vs, h1, h2, h3, rfl⟩
  · cases rx
    cases ry
    have := k _ H μ (.refl _ _) hr (.bl _)
    rw [Bool.true_xor] at this
    exact .inl ⟨i, j, rfl, rfl, this⟩
  · obtain ⟨rfl, f1⟩ := flat_ok rx h1
    obtain ⟨p, xs, rfl, hs, hds⟩ := seqS_ok hr ry h2
    obtain ⟨rfl, f2⟩ := flats_ok hds h3
    have := k _ H μ (.refl _ _) hr (.bl _)
    rw [Bool.true_xor] at this
    exact .inr ⟨p, _, rfl, hs, f1, f2, this⟩
/-! subscripts -/
def gIx : G2 := fun a b S => match b with
  | .int i => match a with
    | .str z => if z.length ≤ sizeLine then (match atI z.cps.toList i with
      | some c => some (.str ⟨#[c]⟩, S)
      | none => none) else none
    | a => match a.seqS S with
      | some ds => match atI ds i with
        | some d => some (d, S)
        | none => none
      | none => none
  | _ => none
theorem gIx_some {a b d : D} {S S' : Sto} (h : gIx a b S = some (d, S')) : S' = S ∧ ∃ i, b = .int i ∧ ((∃ z c, a = .str z ∧ z.length ≤ sizeLine ∧ atI z.cps.toList i = some c ∧ d = .str ⟨#[c]⟩) ∨ ∃ ds, a.seqS S = some ds ∧ atI ds i = some d) := by
  unfold gIx at h
  split at h
  · split at h
    · split at h
      · split at h
        · cases h; exact ⟨rfl, _, rfl, .inl ⟨_, _, rfl, by assumption, by assumption, rfl⟩⟩
        · cases h
      · cases h
    · split at h
      · split at h
        · cases h; exact ⟨rfl, _, rfl, .inr ⟨_, by assumption, by assumption⟩⟩
        · cases h
      · cases h
  · cases h
theorem atI_rv {H : Hp} {μ : Mp} {xs : List V} {ds : List D} (h : RvAll K H μ xs ds) {i : Int} {d : D} (e : atI ds i = some d) : ∃ v, atI xs i = some v ∧ Rv K H μ v d := by
  unfold atI at e ⊢
  rw [h.length]
  cases h1 : ixN ds.length i with
  | none => rw [h1] at e; cases e
  | some j =>
    rw [h1] at e
    exact h.get j e
theorem ro_ix : RO P w K (rIx K) gIx := by
  intro H μ S x y a b d S' Q hr rx ry e k
  obtain ⟨rfl, i, rfl, h⟩ := gIx_some e
  cases ry
  rcases h with ⟨z, c, rfl, h1, h2, rfl⟩ | ⟨ds, h1, h2⟩
  · cases rx
    exact .inr (.inr ⟨z, i, c, rfl, rfl, h1, h2, k _ H μ (.refl _ _) hr (.str _)⟩)
  · obtain ⟨p, xs, rfl, hs, hds⟩ := seqS_ok hr rx h1
    obtain ⟨v, e1, e2⟩ := atI_rv hds h2
    rcases hs with hs | hs
    · exact .inl ⟨p, xs, i, v, rfl, rfl, hs, e1, k v H μ (.refl _ _) hr e2⟩
    · exact .inr (.inl ⟨p, xs, i, v, rfl, rfl, hs, e1, k v H μ (.refl _ _) hr e2⟩)
theorem je_ixR {a b : Expr} {fa fb : FE} {r : R2} {g : G2} {pos : Pos} (hi : IxR X r) (ro : RO X.prog X.w X.K r g) (ha : JE X a fa) (hb : JE X b fb) (hs : PlainIx b := by exact fun _ _ => rfl) : JE X (.Subscript a b pos) (fOp g fa fb) := by
  obtain ⟨ta, pa, qa⟩ := ha
  obtain ⟨tb, pb, qb⟩ := hb
  exact ⟨_, pe_ix hi pa pb hs, jop ro qa qb⟩
theorem je_ix {a b : Expr} {fa fb : FE} {pos : Pos} (ha : JE X a fa) (hb : JE X b fb) (hs : PlainIx b := by exact fun _ _ => rfl) : JE X (.Subscript a b pos) (fOp gIx fa fb) := je_ixR ix_seq ro_ix ha hb hs
/-! calls of built-ins -/
def RC (P : Program) (w : World) (K : PySem.W.Frag) (r : List V → Hp → VK → Prop) (g : Fn) : Prop := ∀ (H : Hp) (μ : Mp) (S : Sto) (xs : List V) (ds : List D) (d : D) (S' : Sto) (Q : VK), HR P w K H μ S → RvAll K H μ xs ds → g ds S = some (d, S') →
  (∀ v H' μ', Later μ H μ' H' → HR P w K H' μ' S' → Rv K H' μ' v d → Q v H') → r xs H Q
def fB (g : Fn) (fa : FA) : FE := fun env S => match fa env S with
  | some (ds, S1) => g ds S1
  | none => none
theorem jcb {t : TA} {fa : FA} {r : List V → Hp → VK → Prop} {g : Fn} (rc : RC X.prog X.w X.K r g)
    (q : ∀ (σ : L2.St) (H : Hp) (μ : Mp) (env : Env) (S : Sto) (ds : List D) (S' : Sto) (Q : List V → Hp → Prop), HR X.prog X.w X.K H μ S → ER X.K H μ σ env → fa env S = some (ds, S') → (∀ vs H' μ', Later μ H μ' H' → HR X.prog X.w X.K H' μ' S' → RvAll X.K H' μ' vs ds → Q vs H') → t σ H Q)
    (σ : L2.St) (H : Hp) (μ : Mp) (env : Env) (S : Sto) (d : D) (S' : Sto) (Q : VK) (hr : HR X.prog X.w X.K H μ S) (er : ER X.K H μ σ env) (hf : fB g fa env S = some (d, S')) (k : ∀ v H' μ', Later μ H μ' H' → HR X.prog X.w X.K H' μ' S' → Rv X.K H' μ' v d → Q v H') :
    tCB r t σ H Q := by
  unfold fB at hf
  split at hf
  · rename_i ds S1 e1
    exact q σ H μ env S ds S1 _ hr er e1 fun vs H1 μ1 l hr1 r1 => rc H1 μ1 S1 vs ds d S' Q hr1 r1 hf fun v H' μ' l' => k v H' μ' (l.trans l')
  · cases hf
theorem je_callB {x : Str} {id : String} {r : List V → Hp → VK → Prop} {g : Fn} {e : Expr} {es : List Expr} {fa : FA} {p pos : Pos} (hc : CallR X (.builtin id) r) (rc : RC X.prog X.w X.K r g) (hg : Gl X x) (hm : X.mg x = none) (hv : bootBuiltins x = some (.builtin id)) (ha : JA X (e :: es) fa) (hn : x ≠ "__name__" := by decide) (hdb : (x == ("__debug__" : Str)) = false := by decide)
    (he : starEach (e :: es) X.env = (false, eval e X.env) :: starEach es X.env := by rfl) (hpl : (backTo pos (starEach es X.env)).any (·.1) = false := by rfl) : JE X (.Call (.Name x p) (e :: es) [] pos) (fB g fa) := by
  obtain ⟨t, pa, q⟩ := ha
  exact ⟨_, pe_callB hc hg hm hv pa hn hdb he hpl, jcb rc q⟩
theorem je_callTy {x : Str} {T : String} {r : List V → Hp → VK → Prop} {g : Fn} {e : Expr} {es : List Expr} {fa : FA} {p pos : Pos} (hc : CallR X (.type T) r) (rc : RC X.prog X.w X.K r g) (hg : Gl X x) (hm : X.mg x = none) (hv : bootBuiltins x = some (.type T)) (ha : JA X (e :: es) fa) (hn : x ≠ "__name__" := by decide) (hdb : (x == ("__debug__" : Str)) = false := by decide)
    (he : starEach (e :: es) X.env = (false, eval e X.env) :: starEach es X.env := by rfl) (hpl : (backTo pos (starEach es X.env)).any (·.1) = false := by rfl) : JE X (.Call (.Name x p) (e :: es) [] pos) (fB g fa) := by
  obtain ⟨t, pa, q⟩ := ha
  exact ⟨_, pe_callTy hc hg hm hv pa hn hdb he hpl, jcb rc q⟩
theorem RvAll.one {H : Hp} {μ : Mp} {xs : List V} {d : D} (h : RvAll K H μ xs [d]) : ∃ x, xs = [x] ∧ Rv K H μ x d := by
  cases h with
  | cons h q => cases q; exact ⟨_, rfl, h⟩
theorem RvAll.two {H : Hp} {μ : Mp} {xs : List V} {d e : D} (h : RvAll K H μ xs [d, e]) : ∃ x y, xs = [x, y] ∧ Rv K H μ x d ∧ Rv K H μ y e := by
  cases h with
  | cons h q => cases q with
    | cons h2 q => cases q; exact ⟨_, _, rfl, h, h2⟩
def gAbs : Fn := fun ds S => match ds with
  | [.int i] => some (.int (if i < 0 then -i else i), S)
  | _ => none
theorem rc_abs : RC P w K (fun xs H Q => ∃ i, xs = [.int i] ∧ Q (.int (if i < 0 then -i else i)) H) gAbs := by
  intro H μ S xs ds d S' Q hr rs e k
  unfold gAbs at e
  split at e
  · cases e
    obtain ⟨x, rfl, r⟩ := rs.one
    cases r
    exact ⟨_, rfl, k _ H μ (.refl _ _) hr (.int _)⟩
  · cases e
def gMax2 : Fn := fun ds S => match ds with
  | [.int i, .int j] => some (.int (if j > i then j else i), S)
  | _ => none
def gMin2 : Fn := fun ds S => match ds with
  | [.int i, .int j] => some (.int (if j < i then j else i), S)
  | _ => none
theorem rc_max2 : RC P w K (fun xs H Q => ∃ i j, xs = [.int i, .int j] ∧ Q (.int (if j > i then j else i)) H) gMax2 := by
  intro H μ S xs ds d S' Q hr rs e k
  unfold gMax2 at e
  split at e
  · cases e
    obtain ⟨x, y, rfl, r1, r2⟩ := rs.two
    cases r1
    cases r2
    exact ⟨_, _, rfl, k _ H μ (.refl _ _) hr (.int _)⟩
  · cases e
theorem rc_min2 : RC P w K (fun xs H Q => ∃ i j, xs = [.int i, .int j] ∧ Q (.int (if j < i then j else i)) H) gMin2 := by
  intro H μ S xs ds d S' Q hr rs e k
  unfold gMin2 at e
  split at e
  · cases e
    obtain ⟨x, y, rfl, r1, r2⟩ := rs.two
    cases r1
    cases r2
    exact ⟨_, _, rfl, k _ H μ (.refl _ _) hr (.int _)⟩
  · cases e
def gLen : Fn := fun ds S => match ds with
  | [.str z] => if z.length ≤ sizeLine then some (.int z.length, S) else none
  | [.obj k] => match S[k]? with
    | some (.lst ds) => some (.int ds.length, S)
    | some (.dks kvs) => some (.int kvs.length, S)
    | _ => none
  | [d] => match d.items with
    | some es => some (.int es.length, S)
    | none => none
  | _ => none
def rLenJ (K : PySem.W.Frag) : List V → Hp → VK → Prop := fun xs H Q => (∃ p ys, xs = [.ref p] ∧ (SqL K H p ys ∨ SqT K H p ys) ∧ Q (.int ys.length) H) ∨ (∃ z, xs = [.str z] ∧ z.length ≤ sizeLine ∧ Q (.int z.length) H) ∨ ∃ d kvs, xs = [.ref d] ∧ H d = some (.dK kvs) ∧ Q (.int kvs.length) H
theorem KvR.length {H : Hp} {μ : Mp} : ∀ {xs ys}, KvR K H μ xs ys → xs.length = ys.length
  | _, _, .nil => rfl
  | _, _, .cons _ q => by rw [List.length_cons, List.length_cons, KvR.length q]
theorem rc_len : RC P w K (rLenJ K) gLen := by
  intro H μ S xs ds d S' Q hr rs e k
  unfold gLen at e
  split at e
  · split at e
    · cases e
      obtain ⟨x, rfl, r⟩ := rs.one
      cases r
      exact .inr (.inl ⟨_, rfl, by assumption, k _ H μ (.refl _ _) hr (.int _)⟩)
    · cases e
  · split at e
    · rename_i h
      cases e
      obtain ⟨x, rfl, r⟩ := rs.one
      obtain ⟨a, rfl, h1, ys, h2, h3⟩ := hr.at r h
      refine .inl ⟨a, ys, rfl, .inl (.inl (.inl h2)), ?_⟩
      rw [h3.length]
      exact k _ H μ (.refl _ _) hr (.int _)
    · rename_i h
      cases e
      obtain ⟨x, rfl, r⟩ := rs.one
      obtain ⟨a, rfl, h1, ys, h2, h3⟩ := hr.at r h
      refine .inr (.inr ⟨a, ys, rfl, h2, ?_⟩)
      rw [h3.length]
      exact k _ H μ (.refl _ _) hr (.int _)
    · cases e
  · split at e
    · rename_i h
      cases e
      obtain ⟨x, rfl, r⟩ := rs.one
      obtain ⟨p, ys, rfl, hs, hds⟩ := seqS_ok hr r (show D.seqS S _ = some _ by
        cases r <;> first | exact h | (rename_i n1 n2 hk; exact absurd rfl (n2 _)) | cases h)
      refine .inl ⟨p, ys, rfl, hs, ?_⟩
      rw [hds.length]
      exact k _ H μ (.refl _ _) hr (.int _)
    · cases e
  · cases e
theorem call_lenJ : CallR X (.builtin "len") (rLenJ X.K) := call_len_seq.or (call_len_str.or call_lenD)
/-! isinstance -/
def D.ty (S : Sto) : D → Option String
  | .non => some "NoneType"
  | .bl _ => some "bool"
  | .int _ => some "int"
  | .str _ => some "str"
  | .tup _ => some "tuple"
  | .lst _ => some "list"
  | .scr _ => some "list"
  | .obj k => match S[k]? with
    | some (.lst _) => some "list"
    | _ => none
  | .glo _ => none
theorem tyx_tup {H : Hp} {a : Addr} {xs : List V} (h : SqT K H a xs) : TyX K H (.ref a) (.type "tuple") := by
  rcases h with (h | ⟨o, h⟩) | ⟨o, its, n, h, c, _⟩
  · exact .base (.tup h)
  · exact .fTuple h
  · exact .kTuple h c
theorem tyx_lst {H : Hp} {a : Addr} {xs : List V} (h : SqL K H a xs) : TyX K H (.ref a) (.type "list") := by
  rcases h with (h | ⟨o, h⟩) | ⟨o, its, n, h, c, _⟩
  · exact .base (.lst h)
  · exact .base (.frz h)
  · exact .kList h c
theorem ty_ok {H : Hp} {μ : Mp} {S : Sto} {x : V} {a : D} {T : String} (hr : HR P w K H μ S) (r : Rv K H μ x a) (h : a.ty S = some T) : TyX K H x (.type T) := by
  cases r with
  | non => cases h; exact .base .non
  | bl b => cases h; exact .base (.bl b)
  | int i => cases h; exact .base (.int i)
  | str x => cases h; exact .base (.str x)
  | lst h1 q => cases h; exact tyx_lst h1.sq
  | scr h1 q => cases h; exact tyx_lst h1.sq
  | tup h1 q => cases h; exact tyx_tup h1.sq
  | @obj k a h1 =>
    simp only [D.ty] at h
    split at h
    · rename_i ds e
      cases h
      obtain ⟨xs, h2, _⟩ := hr.ok k a _ h1 e
      exact tyx_lst (.inl (.inl h2))
    · cases h
  | glo v => cases h
def gIsi : Fn := fun ds S => match ds with
  | [a, .glo (.ty T)] => match a.ty S with
    | some t => (kitB t T).map fun b => (.bl b, S)
    | none => none
  | _ => none
theorem rc_isi : RC P w K (rIsi K) gIsi := by
  intro H μ S xs ds d S' Q hr rs e k
  unfold gIsi at e
  split at e
  · split at e
    · rename_i t ht
      obtain ⟨b, hb, e2⟩ := Option.map_eq_some_iff.mp e
      cases e2
      obtain ⟨x, y, rfl, r1, r2⟩ := rs.two
      cases r2
      exact ⟨x, _, .type t, _, b, rfl, .ty _, ty_ok hr r1 ht, kit_ty hb, k _ H μ (.refl _ _) hr (.bl b)⟩
    · cases e
  · cases e
/-! all, any, tuple, list -/
def D.bls : List D → Option (List Bool)
  | [] => some []
  | .bl b :: ds => (D.bls ds).map (b :: ·)
  | _ => none
theorem bls_ok {H : Hp} {μ : Mp} : ∀ {xs : List V} {ds : List D} {bs : List Bool}, RvAll K H μ xs ds → D.bls ds = some bs → xs = bs.map V.bl
  | _, _, _, .nil, e => by cases e; rfl
  | _, _, _, .cons (d := d) (ds := ds) h q, e => by
    cases h <;> first
      | (rw [D.bls] at e
         obtain ⟨bs, e1, rfl⟩ := Option.map_eq_some_iff.mp e
         rw [List.map_cons, bls_ok q e1]
         done)
      | (simp only [D.bls] at e; cases e; done)
def gAll : Fn := fun ds S => match ds with
  | [.lst es] => (D.bls es).map fun bs => (.bl (bs.all id), S)
  | _ => none
def gAny : Fn := fun ds S => match ds with
  | [.lst es] => (D.bls es).map fun bs => (.bl (bs.any id), S)
  | _ => none
theorem rc_all : RC P w K (rAll K) gAll := by
  intro H μ S xs ds d S' Q hr rs e k
  unfold gAll at e
  split at e
  · obtain ⟨bs, h1, e2⟩ := Option.map_eq_some_iff.mp e
    cases e2
    obtain ⟨x, rfl, r⟩ := rs.one
    cases r with
    | lst h2 h3 =>
      have := bls_ok h3 h1
      subst this
      exact ⟨_, bs, rfl, h2.sq, k _ H μ (.refl _ _) hr (.bl _)⟩
  · cases e
theorem rc_any : RC P w K (rAny K) gAny := by
  intro H μ S xs ds d S' Q hr rs e k
  unfold gAny at e
  split at e
  · obtain ⟨bs, h1, e2⟩ := Option.map_eq_some_iff.mp e
    cases e2
    obtain ⟨x, rfl, r⟩ := rs.one
    cases r with
    | lst h2 h3 =>
      have := bls_ok h3 h1
      subst this
      exact ⟨_, bs, rfl, h2.sq, k _ H μ (.refl _ _) hr (.bl _)⟩
  · cases e
def D.lsS (S : Sto) : D → Option (List D)
  | .obj k => match S[k]? with
    | some (.lst ds) => some ds
    | _ => none
  | .lst ds => some ds
  | .scr ds => some ds
  | _ => none
theorem lsS_ok {H : Hp} {μ : Mp} {S : Sto} {x : V} {a : D} {ds : List D} (hr : HR P w K H μ S) (r : Rv K H μ x a) (h : a.lsS S = some ds) : ∃ p xs, x = .ref p ∧ SqL K H p xs ∧ RvAll K H μ xs ds := by
  cases a with
  | obj k =>
    simp only [D.lsS] at h
    split at h
    · rename_i es e
      cases h
      obtain ⟨p, rfl, h1, xs, h2, h3⟩ := hr.at r e
      exact ⟨p, xs, rfl, .inl (.inl h2), h3⟩
    · cases h
  | lst es => cases h; cases r with | lst h1 h2 => exact ⟨_, _, rfl, h1.sq, h2⟩
  | scr es => cases h; cases r with | scr h1 h2 => exact ⟨_, _, rfl, h1.sq, h2⟩
  | _ => cases h
def gTuple : Fn := fun ds S => match ds with
  | [.tup es] => some (.tup es, S)
  | [d] => match d.lsS S with
    | some es => some (.tup es, S)
    | none => none
  | _ => none
theorem rc_tuple : RC P w K (fun xs H Q => ∃ p ys, xs = [.ref p] ∧ ((SqL K H p ys ∧ ∀ l, H l = none → Q (.ref l) (upd H l (.tup ys))) ∨ (SqT K H p ys ∧ Q (.ref p) H))) gTuple := by
  intro H μ S xs ds d S' Q hr rs e k
  unfold gTuple at e
  split at e
  · cases e
    obtain ⟨x, rfl, r⟩ := rs.one
    cases r with
    | tup h1 h2 => exact ⟨_, _, rfl, .inr ⟨h1.sq, k _ H μ (.refl _ _) hr (.tup h1 h2)⟩⟩
  · split at e
    · rename_i es h
      cases e
      obtain ⟨x, rfl, r⟩ := rs.one
      obtain ⟨p, ys, rfl, hs, hds⟩ := lsS_ok hr r h
      refine ⟨p, ys, rfl, .inl ⟨hs, fun l hl => ?_⟩⟩
      obtain ⟨l2, hr2⟩ := hr.new (o := .tup ys) hl
      exact k _ _ μ l2 hr2 (.tup (.inl ⟨.inl upd_same, hr.free hl⟩) (hds.later l2))
    · cases e
  · cases e
/-- list(x): a list that nobody changes; one that will change -/
def gList : Fn := fun ds S => match ds with
  | [d] => match d.seqS S with
    | some es => some (.lst es, S)
    | none => none
  | _ => none
def gListN : Fn := fun ds S => match ds with
  | [d] => match d.seqS S with
    | some es => some (.obj S.length, S ++ [.lst es])
    | none => none
  | _ => none
def rListJ (K : PySem.W.Frag) : List V → Hp → VK → Prop := fun xs H Q => ∃ p ys, xs = [.ref p] ∧ (SqL K H p ys ∨ SqT K H p ys) ∧ ∀ l, H l = none → Q (.ref l) (upd H l (.lst ys))
theorem rc_list : RC P w K (rListJ K) gList := by
  intro H μ S xs ds d S' Q hr rs e k
  unfold gList at e
  split at e
  · split at e
    · rename_i es h
      cases e
      obtain ⟨x, rfl, r⟩ := rs.one
      obtain ⟨p, ys, rfl, hs, hds⟩ := seqS_ok hr r h
      refine ⟨p, ys, rfl, hs, fun l hl => ?_⟩
      obtain ⟨l2, hr2⟩ := hr.new (o := .lst ys) hl
      exact k _ _ μ l2 hr2 (.lst ⟨upd_same, hr.free hl⟩ (hds.later l2))
    · cases e
  · cases e
theorem rc_listN : RC P w K (rListJ K) gListN := by
  intro H μ S xs ds d S' Q hr rs e k
  unfold gListN at e
  split at e
  · split at e
    · rename_i es h
      cases e
      obtain ⟨x, rfl, r⟩ := rs.one
      obtain ⟨p, ys, rfl, hs, hds⟩ := seqS_ok hr r h
      refine ⟨p, ys, rfl, hs, fun l hl => ?_⟩
      obtain ⟨μ2, l2, hr2, e2⟩ := hr.push (o := .lst es) (u := .lst ys) hl fun H' μ' l e => ⟨ys, e, hds.later l⟩
      exact k _ _ μ2 l2 hr2 (.obj e2)
    · cases e
  · cases e
theorem call_listJ : CallR X (.type "list") (rListJ X.K) := call_list_of
/-! lists that change: append, pop, extend, x[i] = e -/
theorem HR.put {H : Hp} {μ : Mp} {S : Sto} {k : Nat} {a : Addr} {u : HO} {o : O} (hr : HR P w K H μ S) (hk : μ.m[k]? = some a) (hz : ∀ o u, H a ≠ some (.frz o u)) (ho : ∀ H' : Hp, Dat μ H μ H' → H' a = some u → OR P w K H' μ a o) :
    Later μ H μ (upd H a u) ∧ HR P w K (upd H a u) μ (S.set k o) := by
  have ha : a ∈ μ.m := List.mem_of_getElem? hk
  have l : Later μ H μ (upd H a u) := ⟨⟨[], by simp⟩, fun _ h => h, fun b o h n => ⟨n, id, by rw [upd_ne (show b ≠ a from fun z => n (z ▸ ha))]; exact h⟩, fun b o v h => by rw [upd_ne (show b ≠ a from fun z => hz o v (z ▸ h))]; exact h⟩
  refine ⟨l, ⟨by rw [List.length_set]; exact hr.len, hr.nd, fun j b o' hj hs => ?_, fun b hb => ?_, fun b hb => ?_, hr.dj⟩⟩
  · by_cases e : k = j
    · subst e
      rw [hk] at hj
      cases hj
      rw [List.getElem?_set_self (by rw [← hr.len]; exact (List.getElem?_eq_some_iff.mp hk).1)] at hs
      cases hs
      exact ho _ l.dat upd_same
    · rw [List.getElem?_set_ne e] at hs
      have ne : b ≠ a := fun z => e ((List.getElem?_inj (List.getElem?_eq_some_iff.mp hk).1 hr.nd).mp (by rw [hk, hj, z]))
      exact (hr.ok j b o' hj hs).later l (upd_ne ne)
  · by_cases e : b = a
    · rw [e, upd_same]; simp
    · rw [upd_ne e]; exact hr.there b hb
  · rw [upd_ne (show b ≠ a from fun z => hr.dj a ha (z ▸ hb))]
    exact hr.thereX b hb
/-- a method of a built-in, by values -/
abbrev GM := D → List D → Sto → Option (D × Sto)
def RM (P : Program) (w : World) (K : PySem.W.Frag) (r : V → List V → Hp → VK → Prop) (g : GM) : Prop := ∀ (H : Hp) (μ : Mp) (S : Sto) (x : V) (xs : List V) (a d : D) (ds : List D) (S' : Sto) (Q : VK), HR P w K H μ S → Rv K H μ x a → RvAll K H μ xs ds → g a ds S = some (d, S') →
  (∀ v H' μ', Later μ H μ' H' → HR P w K H' μ' S' → Rv K H' μ' v d → Q v H') → r x xs H Q
/-- the receiver is of that kind -/
def tyD (T : String) (S : Sto) : D → Bool
  | .str _ => T == "str"
  | .obj k => match S[k]? with
    | some (.lst _) => T == "list"
    | some (.dks _) => T == "dict"
    | _ => false
  | .lst _ => T == "list"
  | .scr _ => T == "list"
  | _ => false
theorem tyD_ok {H : Hp} {μ : Mp} {S : Sto} {x : V} {a : D} {T : String} (hr : HR P w K H μ S) (r : Rv K H μ x a) (h : tyD T S a = true) : tyV K T x H := by
  cases r with
  | str z => exact eq_of_beq h
  | lst h1 q => exact .inl ⟨eq_of_beq h, _, h1.sq⟩
  | scr h1 q => exact .inl ⟨eq_of_beq h, _, h1.sq⟩
  | @obj k a h1 =>
    simp only [tyD] at h
    split at h
    · rename_i ds e
      obtain ⟨xs, h2, _⟩ := hr.ok k a _ h1 e
      exact .inl ⟨eq_of_beq h, _, .inl (.inl h2)⟩
    · rename_i ds e
      obtain ⟨xs, h2, _⟩ := hr.ok k a _ h1 e
      exact .inr (.inr (.inl ⟨eq_of_beq h, .inl ⟨_, h2⟩⟩))
    · cases h
  | _ => cases h
def fM (T : String) (g : GM) (fo : FE) (fa : FA) : FE := fun env S => match fo env S with
  | some (a, S1) => if tyD T S1 a = true then (match fa env S1 with
    | some (ds, S2) => g a ds S2
    | none => none) else none
  | none => none
theorem je_bm {T id : String} {name : Str} {r : V → List V → Hp → VK → Prop} {g : GM} {o e : Expr} {es : List Expr} {fo : FE} {fa : FA} {apos cpos : Pos} (pa : PlainAttrs T) (slot : Slot T name id) (hty : typeOf (.builtin id) = pure (.type "method_descriptor")) (hm : MtR X id r) (rm : RM X.prog X.w X.K r g) (ho : JE X o fo) (ha : JA X (e :: es) fa)
    (hbase : attributeBase o name X.env (eval o X.env) = eval o X.env := by rfl)
    (hfew : ((backTo cpos (starEach (e :: es) X.env)).all (fun x => !x.1) && (backToKw cpos (keywordEach [] X.env)).all (fun x => x.1.isSome)
      && decide ((e :: es).length + ([] : List Keyword).length + (if ([] : List Keyword).isEmpty then 0 else 1) < 30)) = true := by rfl)
    (hline : (apos.endLine == cpos.line) = true := by rfl) (hs : starEach (e :: es) X.env = (false, eval e X.env) :: starEach es X.env := by rfl) (hplain : (backTo cpos (starEach es X.env)).any (·.1) = false := by rfl) :
    JE X (.Call (.Attribute o name apos) (e :: es) [] cpos) (fM T g fo fa) := by
  obtain ⟨t, p, q⟩ := ho
  obtain ⟨ta, pa', qa⟩ := ha
  refine ⟨_, pe_bm pa slot hty hm p pa' hbase hfew hline hs hplain, fun σ H μ env S d S' Q hr er hf k => ?_⟩
  unfold fM at hf
  split at hf
  · rename_i a S1 e1
    split at hf
    · rename_i ty
      split at hf
      · rename_i ds S2 e2
        refine q σ H μ env S a S1 _ hr er e1 fun v H1 μ1 l1 hr1 r1 => ⟨tyD_ok hr1 r1 ty, ?_⟩
        refine qa σ H1 μ1 env S1 ds S2 _ hr1 (er.later l1) e2 fun vs H2 μ2 l2 hr2 r2 => ?_
        exact rm H2 μ2 S2 v vs a d ds S' Q hr2 (r1.later l2) r2 hf fun v H' μ' l => k v H' μ' (l1.trans (l2.trans l))
      · cases hf
    · cases hf
  · cases hf
def fM0 (T : String) (g : GM) (fo : FE) : FE := fun env S => match fo env S with
  | some (a, S1) => if tyD T S1 a = true then g a [] S1 else none
  | none => none
theorem je_bm0 {T id : String} {name : Str} {r : V → List V → Hp → VK → Prop} {g : GM} {o : Expr} {fo : FE} {apos cpos : Pos} (pa : PlainAttrs T) (slot : Slot T name id) (hty : typeOf (.builtin id) = pure (.type "method_descriptor")) (hm : MtR X id r) (rm : RM X.prog X.w X.K r g) (ho : JE X o fo)
    (hbase : attributeBase o name X.env (eval o X.env) = eval o X.env := by rfl) (hline : (apos.endLine == cpos.line) = true := by rfl) : JE X (.Call (.Attribute o name apos) [] [] cpos) (fM0 T g fo) := by
  obtain ⟨t, p, q⟩ := ho
  refine ⟨_, pe_bm0 pa slot hty hm p hbase hline, fun σ H μ env S d S' Q hr er hf k => ?_⟩
  unfold fM0 at hf
  split at hf
  · rename_i a S1 e1
    split at hf
    · rename_i ty
      refine q σ H μ env S a S1 _ hr er e1 fun v H1 μ1 l1 hr1 r1 => ⟨tyD_ok hr1 r1 ty, ?_⟩
      exact rm H1 μ1 S1 v [] a d [] S' Q hr1 r1 .nil hf fun v H' μ' l => k v H' μ' (l1.trans l)
    · cases hf
  · cases hf
def gApp : GM := fun a ds S => match a, ds with
  | .obj k, [d] => match S[k]? with
    | some (.lst es) => if es.length < 100000 then some (.non, S.set k (.lst (es ++ [d]))) else none
    | _ => none
  | _, _ => none
theorem rm_app : RM P w K rAppend gApp := by
  intro H μ S x xs a d ds S' Q hr rx rs e k
  unfold gApp at e
  split at e
  · split at e
    · rename_i es h
      split at e
      · rename_i hl
        cases e
        obtain ⟨p, rfl, h1, ys, h2, h3⟩ := hr.at rx h
        obtain ⟨y, rfl, ry⟩ := rs.one
        refine ⟨p, ys, y, rfl, rfl, h2, by rw [h3.length]; exact len100 (by omega), ?_⟩
        obtain ⟨l, hr2⟩ := hr.put (u := .lst (ys ++ [y])) (o := .lst (es ++ [_])) h1 (fun _ _ z => by rw [h2] at z; cases z) fun H' dt e => ⟨_, e, (h3.append (.cons ry .nil)).dat dt⟩
        exact k _ _ μ l hr2 .non
      · cases e
    · cases e
  · cases e
def gPop : GM := fun a ds S => match a, ds with
  | .obj k, [] => match S[k]? with
    | some (.lst es) => match es[es.length - 1]? with
      | some d => some (d, S.set k (.lst es.dropLast))
      | none => none
    | _ => none
  | _, _ => none
theorem rm_pop : RM P w K rPop gPop := by
  intro H μ S x xs a d ds S' Q hr rx rs e k
  unfold gPop at e
  split at e
  · split at e
    · rename_i es h
      split at e
      · rename_i d1 hd
        cases e
        obtain ⟨p, rfl, h1, ys, h2, h3⟩ := hr.at rx h
        cases rs
        have hl := h3.length
        obtain ⟨y, ey, ry⟩ := h3.get _ hd
        refine ⟨p, ys, y, rfl, rfl, h2, by rw [hl]; exact ey, ?_⟩
        obtain ⟨l, hr2⟩ := hr.put (u := .lst ys.dropLast) (o := .lst es.dropLast) h1 (fun _ _ z => by rw [h2] at z; cases z) fun H' dt e => ⟨_, e, h3.dropLast.dat dt⟩
        exact k _ _ μ l hr2 (ry.later l)
      · cases e
    · cases e
  · cases e
def gExt : GM := fun a ds S => match a, ds with
  | .obj k, [.lst bs] => match S[k]? with
    | some (.lst es) => if es.length + bs.length ≤ 100000 then some (.non, S.set k (.lst (es ++ bs))) else none
    | _ => none
  | _, _ => none
theorem rm_ext : RM P w K rExtend gExt := by
  intro H μ S x xs a d ds S' Q hr rx rs e k
  unfold gExt at e
  split at e
  · split at e
    · rename_i es h
      split at e
      · rename_i hl
        cases e
        obtain ⟨p, rfl, h1, ys, h2, h3⟩ := hr.at rx h
        obtain ⟨y, rfl, ry⟩ := rs.one
        cases ry with
        | lst h4 h5 =>
          refine ⟨p, _, ys, _, rfl, rfl, h2, h4.1, by rw [h3.length, h5.length]; exact le100 hl, ?_⟩
          obtain ⟨l, hr2⟩ := hr.put (u := .lst (ys ++ _)) (o := .lst (es ++ _)) h1 (fun _ _ z => by rw [h2] at z; cases z) fun H' dt e => ⟨_, e, (h3.append h5).dat dt⟩
          exact k _ _ μ l hr2 .non
      · cases e
    · cases e
  · cases e
/-- x[i] = e, by values -/
abbrev GS := D → D → D → Sto → Option Sto
def RS (P : Program) (w : World) (K : PySem.W.Frag) (r : TSet) (g : GS) : Prop := ∀ (H : Hp) (μ : Mp) (S : Sto) (o i v : V) (a b d : D) (S' : Sto) (Q : Hp → Prop), HR P w K H μ S → Rv K H μ o a → Rv K H μ i b → Rv K H μ v d → g a b d S = some S' →
  (∀ H' μ', Later μ H μ' H' → HR P w K H' μ' S' → Q H') → r o i v H Q
def gSub (fo fi : FE) (g : GS) : FG := fun d env S => match fo env S with
  | some (a, S1) => match fi env S1 with
    | some (b, S2) => match g a b d S2 with
      | some S3 => some (env, S3)
      | none => none
    | none => none
  | none => none
theorem jg_sub {o i : Expr} {fo fi : FE} {r : TSet} {g : GS} {pos : Pos} (ho : JE X o fo) (hi : JE X i fi) (hs : PSet X r) (rs : RS X.prog X.w X.K r g)
    (ha : ∀ v, assign (.Subscript o i pos) X.env v = (do
      let ov ← holding [v] (eval o X.env)
      let iv ← holding [v, ov] (eval i X.env)
      standAt pos
      holding [v, ov, iv] (setItem ov iv v)
      release [v, ov, iv] []) := by intro _; rfl) : JG X (.Subscript o i pos) (gSub fo fi g) [] := by
  obtain ⟨t, p, q⟩ := ho
  obtain ⟨u, p', q'⟩ := hi
  refine ⟨_, pg_sub p p' hs ha, fun σ H μ env S v d env' S' Q hr er r hg k => ?_⟩
  unfold gSub at hg
  split at hg
  · rename_i a S1 e1
    split at hg
    · rename_i b S2 e2
      split at hg
      · rename_i S3 e3
        cases hg
        refine q σ H μ env S a S1 _ hr er e1 fun x1 H1 μ1 l1 hr1 r1 => ?_
        refine q' σ H1 μ1 env S1 b S2 _ hr1 (er.later l1) e2 fun x2 H2 μ2 l2 hr2 r2 => ?_
        refine rs H2 μ2 S2 x1 x2 v a b d _ _ hr2 (r1.later l2) r2 (r.later (l1.trans l2)) e3 fun H3 μ3 l3 hr3 => ?_
        exact k σ H3 μ3 (l1.trans (l2.trans l3)) hr3 (er.later (l1.trans (l2.trans l3))) ⟨rfl, fun _ _ => rfl⟩
      · cases hg
    · cases hg
  · cases hg
def gSetL : GS := fun a b d S => match a, b with
  | .obj k, .int i => match S[k]? with
    | some (.lst es) => match ixN es.length i with
      | some j => some (S.set k (.lst (es.set j d)))
      | none => none
    | _ => none
  | _, _ => none
theorem rs_list : RS P w K rSetL gSetL := by
  intro H μ S o i v a b d S' Q hr ro ri rv e k
  unfold gSetL at e
  split at e
  · split at e
    · rename_i es h
      split at e
      · rename_i j hj
        cases e
        obtain ⟨p, rfl, h1, ys, h2, h3⟩ := hr.at ro h
        cases ri
        refine ⟨p, ys, _, j, rfl, rfl, h2, by rw [h3.length]; exact hj, ?_⟩
        obtain ⟨l, hr2⟩ := hr.put (u := .lst (ys.set j v)) (o := .lst (es.set j d)) h1 (fun _ _ z => by rw [h2] at z; cases z) fun H' dt e => ⟨_, e, (h3.set rv j).dat dt⟩
        exact k _ μ l hr2
      · cases e
    · cases e
  · cases e
end J

set_option autoImplicit false
namespace J
open PySem PySem.Spec PyProof.Rows L2
variable {K : PySem.W.Frag} {P : Program} {w : World} {X : Cx}
/-! keys, read off the heap -/
mutual
inductive KeyV (K : PySem.W.Frag) (H : Hp) : V → NestedKey → Prop
  | non : KeyV K H .non .none
  | int (i : Int) : KeyV K H (.int i) (.num i)
  | str (x : Str) : KeyV K H (.str x) (.text x)
  | tup {a : Addr} {xs : List V} {ks : List NestedKey} : SqT K H a xs → KeysV K H xs ks → KeyV K H (.ref a) (.tup ks)
inductive KeysV (K : PySem.W.Frag) (H : Hp) : List V → List NestedKey → Prop
  | nil : KeysV K H [] []
  | cons {v : V} {vs : List V} {k : NestedKey} {ks : List NestedKey} : KeyV K H v k → KeysV K H vs ks → KeysV K H (v :: vs) (k :: ks)
end
mutual
theorem Rv.keyV {H : Hp} {μ : Mp} : ∀ {v : V} {d : D} {k : NestedKey}, Rv K H μ v d → D.key d = some k → KeyV K H v k
  | _, _, _, .non, e => by rw [D.key] at e; cases e; exact .non
  | _, _, _, .int i, e => by rw [D.key] at e; cases e; exact .int i
  | _, _, _, .str x, e => by rw [D.key] at e; cases e; exact .str x
  | _, _, _, .tup h q, e => by
    rw [D.key] at e
    obtain ⟨ks, e1, rfl⟩ := Option.map_eq_some_iff.mp e
    exact .tup h.sq (RvAll.keysV q e1)
  | _, _, _, .bl b, e => by simp [D.key] at e
  | _, _, _, .lst h q, e => by simp [D.key] at e
  | _, _, _, .scr h q, e => by simp [D.key] at e
  | _, _, _, .obj h, e => by simp [D.key] at e
  | _, _, _, .glo v, e => by simp [D.key] at e
theorem RvAll.keysV {H : Hp} {μ : Mp} : ∀ {vs : List V} {ds : List D} {ks : List NestedKey}, RvAll K H μ vs ds → D.keys ds = some ks → KeysV K H vs ks
  | _, _, _, .nil, e => by rw [D.keys] at e; cases e; exact .nil
  | _, _, _, .cons (d := d) (ds := ds) h q, e => by
    rw [D.keys] at e
    cases h1 : D.key d with
    | none => rw [h1] at e; cases e
    | some p =>
      cases h2 : D.keys ds with
      | none => rw [h1, h2] at e; cases e
      | some ps =>
        rw [h1, h2] at e
        cases e
        exact .cons (Rv.keyV h h1) (RvAll.keysV q h2)
end
section
variable {pins : List (Addr × Obj)} {σ : L2.St} {H : Hp} {s : Shared}
mutual
theorem KeyV.is (I : Inv X pins σ H s) : ∀ {v : V} {k : NestedKey} {u : Value}, KeyV X.K H v k → RelV v u → NestedIs s.heap k u
  | _, _, _, .non, r => by cases r; exact .none
  | _, _, _, .int i, r => by obtain ⟨t, rfl⟩ := r; exact .int i t
  | _, _, _, .str x, r => by obtain ⟨t, rfl⟩ := r; exact .text x t
  | _, _, _, .tup h q, r => by
    cases r
    obtain ⟨its, rv, ⟨o, ho, hc, n, hd⟩, _⟩ := I.tuple h
    exact .tup ho hc hd (by simpa using KeysV.is I q rv)
theorem KeysV.is (I : Inv X pins σ H s) : ∀ {vs : List V} {ks : List NestedKey} {us : List Value}, KeysV X.K H vs ks → Vals vs us → NestedAll s.heap ks us
  | _, _, _, .nil, r => by cases r; exact .nil
  | _, _, _, .cons h q, r => by
    cases r with
    | cons r1 r2 => exact .cons (KeyV.is I h r1) (KeysV.is I q r2)
end
end
/-- looked up, put -/
def luX (xs : List (NestedKey × Addr × V)) (k : NestedKey) : Option V := (xs.find? fun p => decide (p.1 = k)).map (·.2.2)
def putX (xs : List (NestedKey × Addr × V)) (k : NestedKey) (b : Addr) (v : V) : List (NestedKey × Addr × V) :=
  if (luX xs k).isSome = true then xs.map fun p => if p.1 = k then (p.1, p.2.1, v) else p else xs ++ [(k, b, v)]
abbrev PX := Paired (fun (p : NestedKey × Addr × V) (q : NestedKey × Addr × Value) => p.1 = q.1 ∧ p.2.1 = q.2.1 ∧ RelV p.2.2 q.2.2)
theorem px_lu : ∀ {xs : List (NestedKey × Addr × V)} {ys : List (NestedKey × Addr × Value)} (k : NestedKey), PX xs ys → RelO (luX xs k) ((atKey ys k).map (·.2))
  | _, _, _, .nil => trivial
  | _, _, k, .cons (a := p) (b := q) ⟨h1, h2, h3⟩ t => by
    unfold luX atKey
    rw [List.find?_cons, List.find?_cons, h1]
    by_cases e : q.1 = k
    · simp only [e, decide_true, Option.map_some]
      exact h3
    · simp only [e, decide_false]
      exact px_lu k t
theorem px_keys : ∀ {xs : List (NestedKey × Addr × V)} {ys : List (NestedKey × Addr × Value)}, PX xs ys → xs.map (·.1) = ys.map (·.1)
  | _, _, .nil => rfl
  | _, _, .cons ⟨h1, _, _⟩ t => by rw [List.map_cons, List.map_cons, h1, px_keys t]
theorem px_map {k : NestedKey} {v : V} {u : Value} (r : RelV v u) : ∀ {xs : List (NestedKey × Addr × V)} {ys : List (NestedKey × Addr × Value)}, PX xs ys → PX (xs.map fun p => if p.1 = k then (p.1, p.2.1, v) else p) (ys.map (putAt k u))
  | _, _, .nil => .nil
  | _, _, .cons (a := p) (b := q) ⟨h1, h2, h3⟩ t => by
    rw [List.map_cons, List.map_cons]
    refine .cons ?_ (px_map r t)
    unfold putAt
    by_cases e : q.1 = k
    · rw [if_pos (h1.trans e), if_pos e]; exact ⟨h1, h2, r⟩
    · rw [if_neg (fun z => e (h1.symm.trans z)), if_neg e]; exact ⟨h1, h2, h3⟩
theorem px_append : ∀ {xs xs' : List (NestedKey × Addr × V)} {ys ys' : List (NestedKey × Addr × Value)}, PX xs ys → PX xs' ys' → PX (xs ++ xs') (ys ++ ys')
  | _, _, _, _, .nil, q => q
  | _, _, _, _, .cons h t, q => .cons h (px_append t q)
theorem px_put {xs : List (NestedKey × Addr × V)} {ys : List (NestedKey × Addr × Value)} (h : PX xs ys) (k : NestedKey) (b : Addr) {v : V} {u : Value} (r : RelV v u) : PX (putX xs k b v) (storedH ys k b u) := by
  unfold putX storedH
  have q := (px_lu k h).isSome_eq
  rw [Option.isSome_map] at q
  rw [q]
  split
  · exact px_map r h
  · exact px_append h (.cons ⟨rfl, rfl, r⟩ .nil)
theorem luX_none {xs : List (NestedKey × Addr × V)} {k : NestedKey} (h : luX xs k = none) : k ∉ xs.map (·.1) := by
  unfold luX at h
  rw [Option.map_eq_none_iff, List.find?_eq_none] at h
  intro z
  obtain ⟨p, hp, rfl⟩ := List.mem_map.mp z
  exact h p hp (by simp)
theorem putX_nodup {xs : List (NestedKey × Addr × V)} (h : (xs.map (·.1)).Nodup) (k : NestedKey) (b : Addr) (v : V) : ((putX xs k b v).map (·.1)).Nodup := by
  unfold putX
  split
  · rw [List.map_map]
    have e : ((fun p : NestedKey × Addr × V => p.1) ∘ fun p : NestedKey × Addr × V => if p.1 = k then (p.1, p.2.1, v) else p) = fun p => p.1 := by
      funext p
      show (if p.1 = k then (p.1, p.2.1, v) else p).1 = p.1
      split <;> rfl
    rw [e]
    exact h
  · rename_i hn
    rw [List.map_append, List.nodup_append]
    refine ⟨h, by simp, fun a ha c hc => ?_⟩
    rw [List.map_cons, List.map_nil, List.mem_singleton] at hc
    rw [hc]
    intro z
    have hn' : luX xs k = none := by
      cases q : luX xs k with
      | none => rfl
      | some x => rw [q] at hn; exact absurd rfl hn
    exact luX_none hn' (by rw [← show a = k from z]; exact ha)
theorem putX_len (xs : List (NestedKey × Addr × V)) (k : NestedKey) (b : Addr) (v : V) : (putX xs k b v).length ≤ xs.length + 1 := by
  unfold putX
  split
  · rw [List.length_map]; omega
  · simp
def KeysOk (K : PySem.W.Frag) (H : Hp) (xs : List (NestedKey × Addr × V)) : Prop := ∀ p ∈ xs, KeyV K H (.ref p.2.1) p.1 ∧ p.1.depth ≤ 8
theorem px_mem : ∀ {xs : List (NestedKey × Addr × V)} {ys : List (NestedKey × Addr × Value)}, PX xs ys → ∀ y ∈ ys, ∃ x ∈ xs, x.1 = y.1 ∧ x.2.1 = y.2.1
  | _, _, .nil, y, h => by cases h
  | _, _, .cons (a := p) ⟨h1, h2, _⟩ t, y, h => by
    rcases List.mem_cons.mp h with z | z
    · rw [z]; exact ⟨p, List.mem_cons_self, h1, h2⟩
    · obtain ⟨x, hx, e⟩ := px_mem t y z
      exact ⟨x, List.mem_cons_of_mem _ hx, e⟩
section
variable {pins : List (Addr × Obj)} {σ : L2.St} {H : Hp} {s : Shared} {a : Addr} {xs : List (NestedKey × Addr × V)} {E : Value → Shared → Prop}
theorem dE_ok (I : Inv X pins σ H s) (h : H a = some (DictE X.prog X.w a xs)) (hk : KeysOk X.K H xs) : (a == sysModules) = false ∧ xs.length ≤ sizeLine ∧ (xs.map (·.1)).Nodup ∧ ∃ ys, PX xs ys ∧ s.heap.DictOfH (nestedKind X.prog X.w) a ys := by
  obtain ⟨⟨h1, h2, h3, ys, h4, o, es, ep, h5, h6, h7, h8⟩, _⟩ := I.hok a _ h
  refine ⟨h1, h2, h3, ys, h4, o, es, ep, h5, h6, h7, h8, fun y hy => ?_, by rw [← px_keys h4]; exact h3⟩
  obtain ⟨x, hx, e1, e2⟩ := px_mem h4 y hy
  obtain ⟨q1, q2⟩ := hk x hx
  exact ⟨by rw [← e1, ← e2]; exact q1.is I rfl, by rw [← e1]; exact q2⟩
theorem room8 {A : Around} (hu : A.units + 64 < cLine) : (nestedKind X.prog X.w).room A.in1 := by
  show A.units + 1 + 8 < cLine
  omega
theorem key_is (I : Inv X pins σ H s) {b : Addr} {k : NestedKey} (h : KeyV X.K H (.ref b) k) (hd : k.depth ≤ 8) : (nestedKind X.prog X.w).is s.heap k b := ⟨h.is I rfl, hd⟩
end
def rDIn (P : Program) (w : World) (K : PySem.W.Frag) (neg : Bool) : R2 := fun x y H Q => ∃ a b xs k, x = .ref b ∧ y = .ref a ∧ H a = some (DictE P w a xs) ∧ KeysOk K H xs ∧ KeyV K H (.ref b) k ∧ k.depth ≤ 8 ∧ Q (.bl (neg ^^ (luX xs k).isSome)) H
theorem op_inD (hu : X.A.units + 64 < cLine) : OpR X (compareOp .In) (rDIn X.prog X.w X.K false) := by
  intro pins s σ H x y v u Q I rx ry h
  obtain ⟨a, b, xs, k, rfl, rfl, hd, hk, kv, dp, q⟩ := h
  cases rx
  cases ry
  obtain ⟨h1, h2, h3, ys, h4, h5⟩ := dE_ok I hd hk
  refine wpAny_in_heap (room8 hu) (key_is I kv dp) h1 h5 ?_
  have e := (px_lu k h4).isSome_eq
  rw [Option.isSome_map] at e
  rw [← e]
  rw [Bool.false_xor] at q
  exact ⟨.bl _, H, I.tok _, rfl, q⟩
theorem op_notInD (hu : X.A.units + 64 < cLine) : OpR X (compareOp .NotIn) (rDIn X.prog X.w X.K true) := by
  intro pins s σ H x y v u Q I rx ry h
  obtain ⟨a, b, xs, k, rfl, rfl, hd, hk, kv, dp, q⟩ := h
  cases rx
  cases ry
  obtain ⟨h1, h2, h3, ys, h4, h5⟩ := dE_ok I hd hk
  refine notIn_keyed (room8 hu) (key_is I kv dp) h1 ⟨ys, h5, rfl⟩ ?_
  have e := (px_lu k h4).isSome_eq
  rw [valueAt_pairsH, ← e]
  rw [Bool.true_xor] at q
  exact ⟨.bl _, H, I.tok _, rfl, q⟩
def rDIx (P : Program) (w : World) (K : PySem.W.Frag) : R2 := fun x y H Q => ∃ a b xs k v, x = .ref a ∧ y = .ref b ∧ H a = some (DictE P w a xs) ∧ KeysOk K H xs ∧ KeyV K H (.ref b) k ∧ k.depth ≤ 8 ∧ luX xs k = some v ∧ Q v H
theorem ix_dictE (hu : X.A.units + 64 < cLine) : IxR X (rDIx X.prog X.w X.K) := by
  intro value slice pins s σ H x y v u Q I rx ry h hs
  obtain ⟨a, b, xs, k, z, rfl, rfl, hd, hk, kv, dp, lu, q⟩ := h
  cases rx
  cases ry
  obtain ⟨h1, h2, h3, ys, h4, h5⟩ := dE_ok I hd hk
  obtain ⟨u', hu', ru⟩ := RelO.some_of (v := z) (o := (atKey ys k).map (·.2)) (by rw [← lu]; exact px_lu k h4)
  obtain ⟨p, hp, hp2⟩ := Option.map_eq_some_iff.mp hu'
  have g : wpAny (model X.prog X.w) X.A (getItem (.ref a) (.ref b)) (EP X pins σ Q) X.xe s := by
    refine wpAny_getItem_heap (room8 hu) (key_is I kv dp) h5 hp ?_
    rw [hp2]
    exact ⟨z, H, I.tok _, ru, q⟩
  unfold subscriptTail
  refine wpAny_bind ?_
  rw [getitemInPython_of_ne h5.typeIs.not_modules]
  refine wpAny_bind (wpAny_specialOf h5.typeIs PySem.F.slot_dict_getitem.lookup ?_)
  have fin : wpAny (model X.prog X.w) X.A (subscripted slice false (.ref a) (.ref b)) (fun r s₃ => wpAny (model X.prog X.w) X.A (letTemporaryGo value (.ref a) r >>= fun _ => pure r) (EP X pins σ Q) X.xe s₃) X.xe s := by
    rw [hs]
    exact wpAny_operating (wpAny_mono g (fun r s₃ h₃ => wpAny_bind (wpAny_letTemporaryGo (wpAny_pure h₃))) fun _ _ x => x)
  first
    | exact wpAny_pure (wpAny_bind fin)
    | exact wpAny_bind (wpAny_pure (wpAny_bind fin))
    | exact wpAny_bind fin
def rDSet (P : Program) (w : World) (K : PySem.W.Frag) : TSet := fun o i v H Q => ∃ a b xs k, o = .ref a ∧ i = .ref b ∧ H a = some (DictE P w a xs) ∧ KeysOk K H xs ∧ KeyV K H (.ref b) k ∧ k.depth ≤ 8 ∧ xs.length < sizeLine ∧ Q (upd H a (DictE P w a (putX xs k b v)))
theorem dE_new {P : Program} {w : World} {H' : Hp} {h' : Heap} {a : Addr} {xs : List (NestedKey × Addr × V)} {ys : List (NestedKey × Addr × Value)} (h1 : (a == sysModules) = false) (h2 : xs.length ≤ sizeLine) (h3 : (xs.map (·.1)).Nodup) (h4 : PX xs ys) (h5 : h'.DictOfH (nestedKind P w) a ys) : ObjOk P w H' h' a (DictE P w a xs) := by
  obtain ⟨o, es, ep, h6, h7, h8, h9, _⟩ := h5
  refine ⟨⟨h1, h2, h3, ys, h4, o, es, ep, h6, h7, h8, h9⟩, ⟨o, h6⟩, fun g1 g2 hp k => ?_⟩
  obtain ⟨q1, q2, q3, ys', q4, o', es', ep', q5, q6⟩ := hp
  exact ⟨q1, q2, q3, ys', q4, o', es', ep', k o' q5, q6⟩
theorem set_dictE (hu : X.A.units + 64 < cLine) : PSet X (rDSet X.prog X.w X.K) := by
  intro pins s σ H o i v ov iv u Q I ro ri rv h
  obtain ⟨a, b, xs, k, rfl, rfl, hd, hk, kv, dp, hl, q⟩ := h
  cases ro
  cases ri
  obtain ⟨h1, h2, h3, ys, h4, h5⟩ := dE_ok I hd hk
  have hz : ys.length ≤ sizeLine := by rw [← Paired.length h4]; exact h2
  refine wpAny_setItem_heap (hsz := hz) (room8 hu) (key_is I kv dp) h5 fun h' dd' hs => ?_
  obtain ⟨o', _, _, ho', _⟩ := id dd'
  exact ⟨_, d_write I (by rw [hd]; exact True.intro) hs ⟨o', ho'⟩ (dE_new h1 (by have := putX_len xs k b v; omega) (putX_nodup h3 k b v) (px_put h4 k b rv) dd'), q⟩
def tDNewE (P : Program) (w : World) : TE := fun _ H Q => ∀ p, H p = none → Q (.ref p) (upd H p (DictE P w p []))
theorem pe_dnewE {pos : Pos} : PE X (.Dict [] [] pos) (tDNewE X.prog X.w) := ⟨fun pins s σ H Q I h =>
  wpAny_Dict_empty ⟨.ref s.heap.objs.size, _, I.laid (a := s.heap.objs.size) (o := DictE X.prog X.w s.heap.objs.size []) (t' := s.toks) (fun _ _ q => Heap.get?_push_of_some _ q) (Nat.le_refl _)
    (dE_new (ys := []) (beq_eq_false_iff_ne.mpr (Ne.symm (Nat.ne_of_lt I.big))) (Nat.zero_le _) List.nodup_nil .nil (Heap.DictOfH.new s.heap)), rfl, h _ (I.hok.fresh (Nat.le_refl _))⟩⟩
/-! the same by values -/
theorem KsR.ok {H : Hp} {μ : Mp} : ∀ {xs ys}, KsR K H μ xs ys → KeysOk K H xs
  | _, _, .nil, p, h => by cases h
  | _, _, .cons h0 h1 h2 h3 q, p, h => by
    rcases List.mem_cons.mp h with z | z
    · rw [z]; exact ⟨h2.keyV h0, h1⟩
    · exact KsR.ok q p z
def luD (kvs : List (NestedKey × D × D)) (k : NestedKey) : Option D := (kvs.find? fun p => decide (p.1 = k)).map (·.2.2)
def putD (kvs : List (NestedKey × D × D)) (k : NestedKey) (e d : D) : List (NestedKey × D × D) :=
  if (luD kvs k).isSome = true then kvs.map fun p => if p.1 = k then (p.1, p.2.1, d) else p else kvs ++ [(k, e, d)]
theorem KsR.lu {H : Hp} {μ : Mp} (k : NestedKey) : ∀ {xs ys}, KsR K H μ xs ys → (luX xs k = none ∧ luD ys k = none) ∨ ∃ v d, luX xs k = some v ∧ luD ys k = some d ∧ Rv K H μ v d
  | _, _, .nil => .inl ⟨rfl, rfl⟩
  | _, _, .cons (k := k') h0 h1 h2 h3 q => by
    unfold luX luD
    rw [List.find?_cons, List.find?_cons]
    by_cases e : k' = k
    · simp only [e, decide_true, Option.map_some]
      exact .inr ⟨_, _, rfl, rfl, h3⟩
    · simp only [e, decide_false]
      exact KsR.lu k q
theorem KsR.mapV {H : Hp} {μ : Mp} {k : NestedKey} {v : V} {d : D} (r : Rv K H μ v d) : ∀ {xs ys}, KsR K H μ xs ys → KsR K H μ (xs.map fun p => if p.1 = k then (p.1, p.2.1, v) else p) (ys.map fun p => if p.1 = k then (p.1, p.2.1, d) else p)
  | _, _, .nil => .nil
  | _, _, .cons (k := k') h0 h1 h2 h3 q => by
    rw [List.map_cons, List.map_cons]
    by_cases e : k' = k
    · simp only [e, if_true]
      exact .cons (e ▸ h0) (e ▸ h1) h2 r (KsR.mapV r q)
    · simp only [e, if_false]
      exact .cons h0 h1 h2 h3 (KsR.mapV r q)
theorem KsR.append {H : Hp} {μ : Mp} : ∀ {xs xs' ys ys'}, KsR K H μ xs ys → KsR K H μ xs' ys' → KsR K H μ (xs ++ xs') (ys ++ ys')
  | _, _, _, _, .nil, q => q
  | _, _, _, _, .cons h0 h1 h2 h3 t, q => .cons h0 h1 h2 h3 (KsR.append t q)
theorem KsR.put {H : Hp} {μ : Mp} {xs ys} (h : KsR K H μ xs ys) {k : NestedKey} {b : Addr} {v : V} {e d : D} (hk : D.key e = some k) (hd : k.depth ≤ 8) (rb : Rv K H μ (.ref b) e) (r : Rv K H μ v d) : KsR K H μ (putX xs k b v) (putD ys k e d) := by
  unfold putX putD
  rcases h.lu k with ⟨h1, h2⟩ | ⟨u, c, h1, h2, _⟩
  · rw [h1, h2]
    exact h.append (.cons hk hd rb r .nil)
  · rw [h1, h2]
    exact h.mapV r
theorem KsR.length {H : Hp} {μ : Mp} : ∀ {xs ys}, KsR K H μ xs ys → xs.length = ys.length
  | _, _, .nil => rfl
  | _, _, .cons _ _ _ _ q => by rw [List.length_cons, List.length_cons, KsR.length q]
/-- the key that d is, a tuple -/
def D.tkey (d : D) : Option NestedKey := match d with
  | .tup ds => match D.key (.tup ds) with
    | some k => if k.depth ≤ 8 then some k else none
    | none => none
  | _ => none
theorem tkey_ok {H : Hp} {μ : Mp} {v : V} {d : D} {k : NestedKey} (r : Rv K H μ v d) (h : d.tkey = some k) : ∃ b, v = .ref b ∧ KeyV K H (.ref b) k ∧ k.depth ≤ 8 ∧ D.key d = some k := by
  unfold D.tkey at h
  split at h
  · split at h
    · rename_i k' hk
      split at h
      · rename_i hd
        cases h
        cases r with
        | tup h1 h2 => exact ⟨_, rfl, (Rv.tup h1 h2).keyV hk, hd, hk⟩
      · cases h
    · cases h
  · cases h
def gInD (neg : Bool) : G2 := fun a b S => match b with
  | .obj j => match S[j]? with
    | some (.dct kvs) => match a.tkey with
      | some k => some (.bl (neg ^^ (luD kvs k).isSome), S)
      | none => none
    | _ => none
  | _ => none
theorem KsR.isS {H : Hp} {μ : Mp} {xs ys} (h : KsR K H μ xs ys) (k : NestedKey) : (luX xs k).isSome = (luD ys k).isSome := by
  rcases h.lu k with ⟨h1, h2⟩ | ⟨u, c, h1, h2, _⟩
  · rw [h1, h2]; rfl
  · rw [h1, h2]; rfl
theorem ro_inD {neg : Bool} : RO P w K (rDIn P w K neg) (gInD neg) := by
  intro H μ S x y a b d S' Q hr rx ry e k
  unfold gInD at e
  split at e
  · split at e
    · rename_i kvs h
      split at e
      · rename_i kk hk
        cases e
        obtain ⟨p, rfl, h1, xs, h2, h3⟩ := hr.at ry h
        obtain ⟨c, rfl, h4, h5, h6⟩ := tkey_ok rx hk
        refine ⟨p, c, xs, kk, rfl, rfl, h2, h3.ok, h4, h5, ?_⟩
        rw [h3.isS]
        exact k _ H μ (.refl _ _) hr (.bl _)
      · cases e
    · cases e
  · cases e
/-- in, of a text, a sequence, a dict -/
def gIn (neg : Bool) : G2 := fun a b S => (gInD neg a b S).orElse fun _ => gInS neg a b S
theorem je_in {a b : Expr} {fa fb : FE} {pos : Pos} (hu : X.A.units + 64 < cLine) (ha : JE X a fa) (hb : JE X b fb) (hm : behindInMarks .In b = false := by rfl) : JE X (.Compare a [.In] [b] pos) (fOp (gIn false) fa fb) := je_cmpR ((op_inD hu).or op_inJ) (ro_inD.or ro_inJ) ha hb hm
theorem jt_in {a b : Expr} {fa fb : FE} {pos : Pos} (hu : X.A.units + 64 < cLine) (ha : JE X a fa) (hb : JE X b fb) (hm : behindInMarks .In b = false := by rfl) : JT X (.Compare a [.In] [b] pos) (fTest (fOp (gIn false) fa fb)) := jt_cmpR ((op_inD hu).or op_inJ) (ro_inD.or ro_inJ) ha hb hm
theorem je_notIn {a b : Expr} {fa fb : FE} {pos : Pos} (hu : X.A.units + 64 < cLine) (ha : JE X a fa) (hb : JE X b fb) (hm : behindInMarks .NotIn b = false := by rfl) : JE X (.Compare a [.NotIn] [b] pos) (fOp (gIn true) fa fb) := je_cmpR ((op_notInD hu).or op_notInJ) (ro_inD.or ro_notInJ) ha hb hm
theorem jt_notIn {a b : Expr} {fa fb : FE} {pos : Pos} (hu : X.A.units + 64 < cLine) (ha : JE X a fa) (hb : JE X b fb) (hm : behindInMarks .NotIn b = false := by rfl) : JT X (.Compare a [.NotIn] [b] pos) (fTest (fOp (gIn true) fa fb)) := jt_cmpR ((op_notInD hu).or op_notInJ) (ro_inD.or ro_notInJ) ha hb hm
def gIxD : G2 := fun a b S => match a with
  | .obj j => match S[j]? with
    | some (.dct kvs) => match b.tkey with
      | some k => match luD kvs k with
        | some d => some (d, S)
        | none => none
      | none => none
    | _ => none
  | _ => none
theorem ro_ixD : RO P w K (rDIx P w K) gIxD := by
  intro H μ S x y a b d S' Q hr rx ry e k
  unfold gIxD at e
  split at e
  · split at e
    · rename_i kvs h
      split at e
      · rename_i kk hk
        split at e
        · rename_i d1 hl
          cases e
          obtain ⟨p, rfl, h1, xs, h2, h3⟩ := hr.at rx h
          obtain ⟨c, rfl, h4, h5, h6⟩ := tkey_ok ry hk
          rcases h3.lu kk with ⟨z1, z2⟩ | ⟨u, c', z1, z2, z3⟩
          · rw [z2] at hl; cases hl
          · rw [z2] at hl
            cases hl
            exact ⟨p, c, xs, kk, u, rfl, rfl, h2, h3.ok, h4, h5, z1, k _ H μ (.refl _ _) hr z3⟩
        · cases e
      · cases e
    · cases e
  · cases e
def gIdx : G2 := fun a b S => (gIxD a b S).orElse fun _ => gIx a b S
theorem je_sx {a b : Expr} {fa fb : FE} {pos : Pos} (hu : X.A.units + 64 < cLine) (ha : JE X a fa) (hb : JE X b fb) (hs : PlainIx b := by exact fun _ _ => rfl) : JE X (.Subscript a b pos) (fOp gIdx fa fb) := je_ixR ((ix_dictE hu).or ix_seq) (ro_ixD.or ro_ix) ha hb hs
def gSetD : GS := fun a b d S => match a with
  | .obj j => match S[j]? with
    | some (.dct kvs) => match b.tkey with
      | some k => if kvs.length < 100000 then some (S.set j (.dct (putD kvs k b d))) else none
      | none => none
    | _ => none
  | _ => none
theorem rs_dict : RS P w K (rDSet P w K) gSetD := by
  intro H μ S o i v a b d S' Q hr ro ri rv e k
  unfold gSetD at e
  split at e
  · split at e
    · rename_i kvs h
      split at e
      · rename_i kk hk
        split at e
        · rename_i hl
          cases e
          obtain ⟨p, rfl, h1, xs, h2, h3⟩ := hr.at ro h
          obtain ⟨c, rfl, h4, h5, h6⟩ := tkey_ok ri hk
          refine ⟨p, c, xs, kk, rfl, rfl, h2, h3.ok, h4, h5, by rw [h3.length]; exact len100 (by omega), ?_⟩
          obtain ⟨l, hr2⟩ := hr.put (u := DictE P w p (putX xs kk c v)) (o := .dct (putD kvs kk b d)) h1 (fun _ _ z => by rw [h2] at z; cases z) fun H' dt e => ⟨_, e, (h3.put h6 h5 ri rv).dat dt⟩
          exact k _ μ l hr2
        · cases e
      · cases e
    · cases e
  · cases e
theorem PSet.or {r r' : TSet} (h : PSet X r) (h' : PSet X r') : PSet X (fun o i v H Q => r o i v H Q ∨ r' o i v H Q) := by
  intro pins s σ H o i v ov iv u Q I ro ri rv q
  rcases q with q | q
  · exact h pins s σ H o i v ov iv u Q I ro ri rv q
  · exact h' pins s σ H o i v ov iv u Q I ro ri rv q
theorem RS.or {r r' : TSet} {g g' : GS} (h : RS P w K r g) (h' : RS P w K r' g') : RS P w K (fun o i v H Q => r o i v H Q ∨ r' o i v H Q) (fun a b d S => (g a b d S).orElse fun _ => g' a b d S) := by
  intro H μ S o i v a b d S' Q hr ro ri rv e k
  cases h1 : g a b d S with
  | some p =>
    simp only [h1, Option.orElse_some] at e
    exact .inl (h H μ S o i v a b d S' Q hr ro ri rv (h1.trans e) k)
  | none =>
    simp only [h1, Option.orElse_none] at e
    exact .inr (h' H μ S o i v a b d S' Q hr ro ri rv e k)
def gSet : GS := fun a b d S => (gSetD a b d S).orElse fun _ => gSetL a b d S
theorem jg_sx {o i : Expr} {fo fi : FE} {pos : Pos} (hu : X.A.units + 64 < cLine) (ho : JE X o fo) (hi : JE X i fi)
    (ha : ∀ v, assign (.Subscript o i pos) X.env v = (do
      let ov ← holding [v] (eval o X.env)
      let iv ← holding [v, ov] (eval i X.env)
      standAt pos
      holding [v, ov, iv] (setItem ov iv v)
      release [v, ov, iv] []) := by intro _; rfl) : JG X (.Subscript o i pos) (gSub fo fi gSet) [] := jg_sub ho hi (PSet.or (set_dictE hu) set_list) (RS.or rs_dict rs_list) ha
def fDNew : FE := fun _ S => some (.obj S.length, S ++ [.dct []])
theorem je_dnew {pos : Pos} : JE X (.Dict [] [] pos) fDNew := by
  refine ⟨_, pe_dnewE, fun σ H μ env S d S' Q hr er hf k => ?_⟩
  cases hf
  intro p np
  obtain ⟨μ2, l2, hr2, e2⟩ := hr.push (o := .dct []) (u := DictE X.prog X.w p []) np fun H' μ' l e => ⟨[], e, .nil⟩
  exact k _ _ μ2 l2 hr2 (.obj e2)
/-! d.get(k, x) -/
def tGet2E (P : Program) (w : World) (K : PySem.W.Frag) (td ty tx : TE) : TE := fun σ H Q => td σ H fun x H1 => ∃ a xs, x = .ref a ∧ H1 a = some (DictE P w a xs) ∧ KeysOk K H1 xs ∧ ty σ H1 fun y H2 => tx σ H2 fun z H3 => ∃ b xs k, y = .ref b ∧ H3 a = some (DictE P w a xs) ∧ KeysOk K H3 xs ∧ KeyV K H3 (.ref b) k ∧ k.depth ≤ 8 ∧ Q ((luX xs k).getD z) H3
theorem pe_get2E {o e f : Expr} {td ty tx : TE} {apos cpos : Pos} (hu : X.A.units + 64 < cLine) (ho : PE X o td) (he : PE X e ty) (hf : PE X f tx) (m : M2 X o "get" apos e f cpos) : PE X (.Call (.Attribute o "get" apos) [e, f] [] cpos) (tGet2E X.prog X.w X.K td ty tx) := by
  refine ⟨fun pins s σ H Q I h => ?_⟩
  refine wpAny_Call_method m.base m.few m.line PySem.F.plainAttrs_dict PySem.F.slot_dict_get PySem.F.type_dict_get (thn (ho.run pins s σ H _ I h) fun u s1 ⟨x, H1, I1, rx, a, xs, ex, hd, hk, q1⟩ => ?_)
  subst ex
  obtain rfl : u = Value.ref a := rx
  obtain ⟨h1, h2, h3, ys, h4, h5⟩ := dE_ok I1 hd hk
  obtain ⟨ob, _, _, hob, hex, _⟩ := id h5
  refine ⟨h5.typeIs, fun b q => ?_, ?_⟩
  · cases q; exact ⟨ob, hob, hex.2.1⟩
  rw [m.trees]
  refine Calls.callWith_builtin rfl (Calls.evalArgs_plain (Calls.spliced_cons (thn (he.run pins s1 σ H1 _ I1 q1) fun iv s2 ⟨y, H2, I2, ry, q2⟩ =>
    Calls.spliced_cons (thn (hf.run pins s2 σ H2 _ I2 q2) fun fv s3 ⟨z, H3, I3, rz, b, xs3, k, ey, hd3, hk3, kv, dp, q3⟩ => Calls.spliced_nil ?_))))
  subst ey
  obtain rfl : iv = Value.ref b := ry
  obtain ⟨g1, g2, g3, ys3, g4, g5⟩ := dE_ok I3 hd3 hk3
  refine call_meetsIn PySem.F.slot_dict_get g5.typeIs PySem.F.entry_dict_get (PySem.F.args_dict_get_3 _ _ _) (meetsH_dict_get_default (nestedKind X.prog X.w) a b g1 fv) ⟨room8 hu, k, ys3, key_is I3 kv dp, g5, ?_⟩
  exact ⟨_, H3, I3.tok _, (px_lu k g4).getD rz, q3⟩
def fGet2 (fo fk fx : FE) : FE := fun env S => match fo env S with
  | some (.obj j, S1) => match S1[j]? with
    | some (.dct _) => match fk env S1 with
      | some (b, S2) => match fx env S2 with
        | some (x, S3) => match S3[j]?, b.tkey with
          | some (.dct kvs), some k => some ((luD kvs k).getD x, S3)
          | _, _ => none
        | none => none
      | none => none
    | _ => none
  | _ => none
theorem je_get2 {o e f : Expr} {fo fk fx : FE} {apos cpos : Pos} (hu : X.A.units + 64 < cLine) (ho : JE X o fo) (he : JE X e fk) (hf : JE X f fx) (m : M2 X o "get" apos e f cpos := by exact ⟨rfl, rfl, rfl, rfl⟩) : JE X (.Call (.Attribute o "get" apos) [e, f] [] cpos) (fGet2 fo fk fx) := by
  obtain ⟨to, po, qo⟩ := ho
  obtain ⟨te, pe, qe⟩ := he
  obtain ⟨tf, pf, qf⟩ := hf
  refine ⟨_, pe_get2E hu po pe pf m, fun σ H μ env S d S' Q hr er hf k => ?_⟩
  unfold fGet2 at hf
  split at hf
  · rename_i j S1 e1
    split at hf
    · rename_i kv0 e2
      split at hf
      · rename_i b S2 e3
        split at hf
        · rename_i x S3 e4
          split at hf
          · rename_i kvs kk e5 e6
            cases hf
            refine qo σ H μ env S _ S1 _ hr er e1 fun v1 H1 μ1 l1 hr1 r1 => ?_
            obtain ⟨a, rfl, h1, xs, h2, h3⟩ := hr1.at r1 e2
            refine ⟨a, xs, rfl, h2, h3.ok, ?_⟩
            refine qe σ H1 μ1 env S1 b S2 _ hr1 (er.later l1) e3 fun v2 H2 μ2 l2 hr2 r2 => ?_
            refine qf σ H2 μ2 env S2 x _ _ hr2 (er.later (l1.trans l2)) e4 fun v3 H3 μ3 l3 hr3 r3 => ?_
            obtain ⟨c, rfl, h4, h5, h6⟩ := tkey_ok (r2.later l3) e6
            obtain ⟨a', ea, g1, xs3, g2, g3⟩ := hr3.at (r1.later (l2.trans l3)) e5
            cases ea
            refine ⟨c, xs3, kk, rfl, g2, g3.ok, h4, h5, ?_⟩
            rcases g3.lu kk with ⟨z1, z2⟩ | ⟨u, c', z1, z2, z3⟩
            · rw [z2] at k
              rw [z1]
              exact k _ H3 μ3 (l1.trans (l2.trans l3)) hr3 r3
            · rw [z2] at k
              rw [z1]
              exact k _ H3 μ3 (l1.trans (l2.trans l3)) hr3 z3
          · cases hf
        · cases hf
      · cases hf
    · cases hf
  · cases hf
/-! for k in d, d locked -/
def ItE (P : Program) (w : World) (a : Addr) (o : Obj) (xs : List (NestedKey × Addr × V)) : It :=
  ⟨fun i H => H a = some (.frz o (DictE P w a xs)) ∧ i < xs.length, fun i H x H' => H' = H ∧ ∃ k b v, xs[i]? = some (k, b, v) ∧ x = .ref b, fun i H => H a = some (.frz o (DictE P w a xs)) ∧ xs.length ≤ i⟩
theorem px_get : ∀ {xs : List (NestedKey × Addr × V)} {ys : List (NestedKey × Addr × Value)} {i : Nat} {p}, PX xs ys → xs[i]? = some p → ∃ q, ys[i]? = some q ∧ p.2.1 = q.2.1
  | _, _, _, _, .nil, e => by simp at e
  | _, _, 0, _, .cons ⟨_, h, _⟩ _, e => by simp at e; subst e; exact ⟨_, rfl, h⟩
  | _, _, i + 1, p, .cons _ t, e => by
    obtain ⟨q, h1, h2⟩ := px_get (i := i) (p := p) t (by simpa using e)
    exact ⟨q, by simpa using h1, h2⟩
theorem frzE {pins : List (Addr × Obj)} {σ : L2.St} {H : Hp} {s : Shared} {a : Addr} {o : Obj} {xs : List (NestedKey × Addr × V)} (I : Inv X pins σ H s) (h : H a = some (.frz o (DictE X.prog X.w a xs))) :
    (a == sysModules) = false ∧ s.heap.get? a = some o ∧ o.ExactDict ∧ ∃ (es : Array DictEntry) (ep : Nat), o.data = .dict es ep ∧ es.size = xs.length ∧ ∀ (i : Nat) p, xs[i]? = some p → ∃ en, es[i]? = some en ∧ en.key = .ref p.2.1 := by
  obtain ⟨hd, ⟨h1, h2, h3, ys, h4, o', es, ep, h5, h6, h7, h8⟩, _⟩ := I.hok a _ h
  rw [hd] at h5
  cases h5
  refine ⟨h1, hd, h6, es, ep, h7, ?_, fun i p e => ?_⟩
  · rw [size_of_entries h8]; exact (Paired.length h4).symm
  · obtain ⟨q, e1, e2⟩ := px_get h4 e
    have e3 := entry_at h8 i
    rw [e1] at e3
    exact ⟨_, e3, by rw [e2]; rfl⟩
theorem turn_E {tg : Expr} {a it : Addr} {o : Obj} {es : Array DictEntry} {ep : Nat} {xs : List (NestedKey × Addr × V)} (hod : o.data = .dict es ep) : Turn P w K tg (ItE P w a o xs) [it] it (fun i h => h.IsKeyIter it a i xs.length ep) where
  mem := by simp
  obj := fun i h st b hb => by
    have e : b = it := by simpa using hb
    subst e
    obtain ⟨oi, e, c, dd⟩ := st
    exact ⟨oi, e, fun v z => by rw [dd] at z; cases z⟩
  keep := fun i h h' st k => st.at fun oi e => k it (by simp) oi e
  item := by
    intro X hP hw hK hc i pins s σ H E I hf st hg
    subst hP hw hK
    obtain ⟨hd, hi⟩ := hg
    obtain ⟨f0, f1, f2, f3, f4, f5⟩ := hf it (by simp)
    obtain ⟨hs, hgd, hx, es', ep', hdt, hsz, ent⟩ := frzE I hd
    obtain ⟨rfl, rfl⟩ := dict_ep hod hdt
    obtain ⟨⟨k, b, v⟩, hkv⟩ : ∃ p, xs[i]? = some p := ⟨xs[i], List.getElem?_eq_getElem hi⟩
    obtain ⟨en, hen, hkey⟩ := ent i _ hkv
    refine next_key_item st hgd hdt hsz hen fun h' st' sb => ?_
    have I1 : Inv X pins σ H { s with heap := h' } := I.turned (t' := s.toks) (fun b ob hb e => (sb.2 b hb).trans e) f0 f1 f3 f4 f5
    obtain ⟨oi, e, c, dd⟩ := id st'
    exact ⟨en.key, rfl, go_of (s := { s with heap := h' }) e c dd (by decide) ⟨.ref b, H, I1, hkey, ⟨rfl, k, b, v, hkv, rfl⟩, st', fun b hb => (hf b hb).1⟩⟩
  done := by
    intro X hP hw hK hc i pins s σ H E I hf st hg
    subst hP hw hK
    obtain ⟨hd, hi⟩ := hg
    obtain ⟨f0, f1, f2, f3, f4, f5⟩ := hf it (by simp)
    obtain ⟨hs, hgd, hx, es', ep', hdt, hsz, ent⟩ := frzE I hd
    obtain ⟨rfl, rfl⟩ := dict_ep hod hdt
    exact next_key_end (I.ok.hd hc) st hgd hdt hsz hi fun h' eb => ⟨rfl, I.turned (t' := s.toks) (fun b ob hb e => eb b ob hb e) f0 f1 f3 f4 f5⟩
  self := fun A i s Q E st h => by
    refine wpAny_pyIter_slot st.typeIs F.slot_dict_keyiterator_iter (wpAny_call_entry F.slot_dict_keyiterator_iter st.typeIs F.entry_dict_keyiterator_iter ?_ (F.args_dict_keyiterator_iter_1 _))
    show wpAny _ _ (ret (.ref it)) _ _ s
    exact wpAny_pure ⟨_, rfl, "dict_keyiterator", _, st.typeIs, F.slot_dict_keyiterator_next.lookup, h⟩
def iKeysE (P : Program) (w : World) (td : TE) : TI := fun σ H R => td σ H fun x H1 => ∃ a o xs, x = .ref a ∧ H1 a = some (.frz o (DictE P w a xs)) ∧ R (ItE P w a o xs) H1
theorem pi_keysE {tg e : Expr} {td : TE} (he : PE X e td) : PI X tg e (iKeysE X.prog X.w td) := by
  refine ⟨fun pins s σ H R I h => ?_⟩
  refine thn (he.run pins s σ H _ I h) fun u s1 ⟨x, H1, I1, rx, a, o, xs, ex, hd, q⟩ => ?_
  subst ex
  obtain rfl : u = Value.ref a := rx
  obtain ⟨hs, hgd, hx, es, ep, hdt, hsz, ent⟩ := frzE I1 hd
  refine iter_keys hs hgd hx hdt (pi_one (tk := s1.toks) I1 _ (turn_E hdt) ⟨_, Heap.get?_push_size _ rfl, rfl, ?_⟩ q)
  rw [hsz] <;> rfl
def fForD (i : Nat) (g : FG) (b : FS) : FS := fun env S => match env[i]? with
  | some (some (.obj k)) => match S[k]? with
    | some (.dct kvs) => match fForL g b (kvs.map fun p => p.2.1) env (S.set k (.lck kvs)) with
      | some (.xc _ _, _, _) => none
      | some (fl, env', S') => some (fl, env', S'.set k (.dct kvs))
      | none => none
    | _ => none
  | _ => none
theorem KsR.keyRv {H : Hp} {μ : Mp} : ∀ {xs ys} {i : Nat} {k b v}, KsR K H μ xs ys → xs[i]? = some (k, b, v) → ∃ d, (ys.map fun p => p.2.1)[i]? = some d ∧ Rv K H μ (.ref b) d
  | _, _, _, _, _, _, .nil, e => by simp at e
  | _, _, 0, _, _, _, .cons h0 h1 h2 h3 q, e => by simp at e; obtain ⟨rfl, rfl, rfl⟩ := e; exact ⟨_, rfl, h2⟩
  | _, _, i + 1, _, _, _, .cons h0 h1 h2 h3 q, e => KsR.keyRv (i := i) q (by simpa using e)
theorem js_forD {i : Nat} {x : Str} {p : Pos} {tg : Expr} {body : List Stmt} {g : FG} {ws : List Nat} {f : FS} {pos : Pos} (hN : X.N[i]? = some x) (hv : Vis X.env.scope x) (hp : PassesOwn (model X.prog X.w) X.A X.env X.xe) (hc : X.calm = true) (hg : JG X tg g ws) (hb : JSs X body f)
    (hd : (x == ("__debug__" : Str)) = false := by decide) (hcd : (x == ("__classdict__" : Str)) = false := by decide) (hs : ∀ z, foldedSetIterable (.Name x p) X.env z = pure z := by intro _; rfl) : JS X (.For tg (.Name x p) body [] pos) (fForD i g f) := by
  obtain ⟨tg', pg, qg⟩ := hg
  obtain ⟨tb, pb, qb⟩ := hb
  refine ⟨_, ps_lock (ps_for hp hc (pi_keysE (pe_var hN hv hd hcd)) pg pb hs), fun σ H μ env S fl env' S' E hr er hf k => ?_⟩
  unfold fForD at hf
  split at hf
  · rename_i j ej
    split at hf
    · rename_i kvs es
      split at hf
      · cases hf
      · rename_i fl0 env0 S0 nox e0
        cases hf
        obtain ⟨v0, hv0, rv0⟩ := er.ok i _ ej
        obtain ⟨a, rfl, ha, xs, hx, ks⟩ := hr.at rv0 es
        refine ⟨a, DictE X.prog X.w a xs, hx, True.intro, fun od => ?_⟩
        obtain ⟨lk, hrk⟩ := hr.put (u := .frz od (DictE X.prog X.w a xs)) (o := .lck kvs) ha (fun _ _ z => by rw [hx] at z; cases z) fun H' dt e => ⟨od, xs, e, ks.dat dt⟩
        have ham : a ∈ μ.m := List.mem_of_getElem? ha
        -- the end: unlock
        have fin : ∀ (σ1 : L2.St) (H1 : Hp) (μ1 : Mp), Later μ (upd H a (.frz od (DictE X.prog X.w a xs))) μ1 H1 → HR X.prog X.w X.K H1 μ1 S0 → ER X.K H1 μ1 σ1 env' → H1 a = some (.frz od (DictE X.prog X.w a xs)) ∧ ∀ (E' : Ends), (∀ σ' H' μ', Later μ H μ' H' → HR X.prog X.w X.K H' μ' (S0.set j (.dct kvs)) → ER X.K H' μ' σ' env' → Done X E' fl σ' H' μ') → Done X E' fl σ1 (upd H1 a (DictE X.prog X.w a xs)) μ1 := by
          intro σ1 H1 μ1 l1 hr1 er1
          have h1a := l1.frz a _ _ upd_same
          refine ⟨h1a, fun E' kk => ?_⟩
          obtain ⟨ext, hext⟩ := l1.ext
          have ha1 : μ1.m[j]? = some a := by rw [hext, List.getElem?_append_left (List.getElem?_eq_some_iff.mp ha).1]; exact ha
          have ham1 : a ∈ μ1.m := List.mem_of_getElem? ha1
          have l2 : Later μ H μ1 (upd H1 a (DictE X.prog X.w a xs)) := ⟨l1.ext, l1.ex, fun b o hb n => by
            have ne : b ≠ a := fun z => n (by rw [z]; exact ham)
            have z := l1.keep b o (by rw [upd_ne ne]; exact hb) n
            exact ⟨z.1, z.2.1, by rw [upd_ne ne]; exact z.2.2⟩, fun b o u hb => by
            have ne : b ≠ a := fun z => by rw [z, hx] at hb; cases hb
            rw [upd_ne ne]
            exact l1.frz b o u (by rw [upd_ne ne]; exact hb)⟩
          have d2 : Dat μ1 H1 μ1 (upd H1 a (DictE X.prog X.w a xs)) := ⟨⟨[], by simp⟩, fun b o hb n nx => ⟨n, nx, by rw [upd_ne (show b ≠ a from fun z => n (by rw [z]; exact ham1))]; exact hb⟩⟩
          have hr2 : HR X.prog X.w X.K (upd H1 a (DictE X.prog X.w a xs)) μ1 (S0.set j (.dct kvs)) := by
            refine ⟨by rw [List.length_set]; exact hr1.len, hr1.nd, fun j' b o' hj hs => ?_, fun b hb => ?_, fun b hb => ?_, hr1.dj⟩
            · by_cases e : j = j'
              · subst e
                rw [ha1] at hj
                cases hj
                rw [List.getElem?_set_self (by rw [← hr1.len]; exact (List.getElem?_eq_some_iff.mp ha1).1)] at hs
                cases hs
                exact ⟨xs, upd_same, ks.later l2⟩
              · rw [List.getElem?_set_ne e] at hs
                have ne : b ≠ a := fun z => e ((List.getElem?_inj (List.getElem?_eq_some_iff.mp ha1).1 hr1.nd).mp (by rw [ha1, hj, z]))
                exact (hr1.ok j' b o' hj hs).dat d2 (upd_ne ne)
            · by_cases e : b = a
              · rw [e, upd_same]; simp
              · rw [upd_ne e]; exact hr1.there b hb
            · rw [upd_ne (show b ≠ a from fun z => hr1.dj a ham1 (by rw [← z]; exact hb))]
              exact hr1.thereX b hb
          have er2 : ER X.K (upd H1 a (DictE X.prog X.w a xs)) μ1 σ1 env' := ⟨er1.len, fun i d h => let ⟨v, h1, h2⟩ := er1.ok i d h; ⟨v, h1, h2.dat d2⟩⟩
          have := kk σ1 _ μ1 l2 hr2 er2
          exact this
        have hlen : xs.length = (kvs.map fun p => p.2.1).length := by rw [List.length_map]; exact ks.length
        refine ⟨.ref a, hv0, a, od, xs, rfl, upd_same, ?_⟩
        refine ⟨fun n m σ2 H2 => m = xs.length - n ∧ n ≤ xs.length ∧ ∃ μ2 env2 S2, Later μ (upd H a (.frz od (DictE X.prog X.w a xs))) μ2 H2 ∧ HR X.prog X.w X.K H2 μ2 S2 ∧ ER X.K H2 μ2 σ2 env2 ∧ fForL g f ((kvs.map fun p => p.2.1).drop n) env2 S2 = some (fl, env', S0),
          ⟨xs.length, by simp, Nat.zero_le _, μ, env, _, .refl _ _, hrk, er.later lk, e0⟩, ?_⟩
        rintro n m σ2 H2 ⟨rfl, hn, μ2, env2, S2, l2, hr2, er2, hf2⟩
        have h2a := l2.frz a _ _ upd_same
        by_cases hlt : n < xs.length
        · refine .inr ⟨⟨h2a, hlt⟩, fun σ3 H3 => ∃ μ3 env3 S3, Later μ (upd H a (.frz od (DictE X.prog X.w a xs))) μ3 H3 ∧ HR X.prog X.w X.K H3 μ3 S3 ∧ ER X.K H3 μ3 σ3 env3 ∧ fForL g f ((kvs.map fun p => p.2.1).drop (n + 1)) env3 S3 = some (fl, env', S0), fun σ3 H3 z => ⟨xs.length - (n + 1), by omega, rfl, hlt, z⟩, fun y H3 hy => ?_⟩
          obtain ⟨rfl, k1, b1, v1, hkv, rfl⟩ := hy
          obtain ⟨d, hd1, hd2⟩ := ks.keyRv hkv
          have r3 : Rv X.K H3 μ2 (.ref b1) d := hd2.later (lk.trans l2)
          have hlt' : n < (kvs.map fun p => p.2.1).length := by rw [← hlen]; exact hlt
          have ed : (kvs.map fun p => p.2.1)[n] = d := by
            rw [List.getElem?_eq_getElem hlt'] at hd1
            exact Option.some.inj hd1
          rw [List.drop_eq_getElem_cons hlt', ed, fForL] at hf2
          split at hf2
          · cases hf2
          · rename_i env4 S4 e4
            refine qg σ2 H3 μ2 env2 S2 _ d env4 S4 _ hr2 er2 r3 e4 fun σ4 H4 μ4 l4 hr4 er4 _ => ?_
            have L4 := l2.trans l4
            split at hf2
            · rename_i env5 S5 e5
              exact qb σ4 H4 μ4 env4 S4 _ env5 S5 _ hr4 er4 e5 fun σ5 H5 μ5 l5 hr5 er5 => ⟨μ5, env5, S5, L4.trans l5, hr5, er5, hf2⟩
            · rename_i env5 S5 e5
              exact qb σ4 H4 μ4 env4 S4 _ env5 S5 _ hr4 er4 e5 fun σ5 H5 μ5 l5 hr5 er5 => ⟨μ5, env5, S5, L4.trans l5, hr5, er5, hf2⟩
            · rename_i env5 S5 e5
              cases hf2
              refine qb σ4 H4 μ4 env4 S4 _ _ _ _ hr4 er4 e5 fun σ5 H5 μ5 l5 hr5 er5 => ?_
              obtain ⟨z1, z2⟩ := fin σ5 H5 μ5 (L4.trans l5) hr5 er5
              exact ⟨z1, z2 E k⟩
            · rename_i d5 env5 S5 e5
              cases hf2
              refine qb σ4 H4 μ4 env4 S4 _ _ _ _ hr4 er4 e5 fun σ5 H5 μ5 l5 hr5 er5 v rv => ?_
              obtain ⟨z1, z2⟩ := fin σ5 H5 μ5 (L4.trans l5) hr5 er5
              refine ⟨z1, z2 E k v ?_⟩
              have ham5 : a ∈ μ5.m := by
                obtain ⟨ext, hext⟩ := (L4.trans l5).ext
                rw [hext]; exact List.mem_append_left _ ham
              exact rv.dat ⟨⟨[], by simp⟩, fun b o hb n nx => ⟨n, nx, by rw [upd_ne (show b ≠ a from fun z => n (by rw [z]; exact ham5))]; exact hb⟩⟩
            · rename_i x5 fs5 env5 S5 e5
              cases hf2
              exact (nox x5 fs5 rfl).elim
            · cases hf2
        · have e : n = xs.length := by omega
          subst e
          rw [hlen, List.drop_length, fForL] at hf2
          cases hf2
          obtain ⟨z1, z2⟩ := fin σ2 H2 μ2 l2 hr2 er2
          exact .inl ⟨⟨h2a, Nat.le_refl _⟩, z1, z2 E k⟩
      · cases hf
    · cases hf
  · cases hf
end J

namespace Kx
open PySem PySem.Spec PyProof.Rows L2
open AutoSeq1 (wpAny_loadPart')
theorem enumNewT (l : Addr) (items : Array Value) (n : Nat) (dct : Option Addr) (sl : Array (Option Value)) :
    Meets (Builtin.«enumerate.__new__» ⟨[.type "enumerate", .ref l], []⟩) (fun _ R s => s.heap.get? l = some { cls := .type "tuple", dict := dct, data := .seq items n, slots := sl } ∧
      R (.ok (.ret (.ref (s.heap.push { cls := .type "tuple_iterator", data := .fields #[.ref l, .int 0 0] }).objs.size)))
        { s with heap := (s.heap.push { cls := .type "tuple_iterator", data := .fields #[.ref l, .int 0 0] }).push { cls := .type "enumerate", data := .fields #[.none, .bool false, .ref s.heap.objs.size, rawInt 0, .none, .none] } }) :=
  .of_wp fun prog w A R s h => by
    obtain ⟨hp, g, d, tk, os⟩ := s; obtain ⟨hl, h⟩ := h
    have hsub := sub_enumerate
    have tT : Heap.IsTuple (Shared.heap ⟨hp, g, d, tk, os⟩) l items := ⟨_, hl, rfl, n, rfl⟩
    wp_walk using wpAny_loadPart' hl
    refine wpAny_stack_any fun st => wpAny_pure ?_
    split
    · rename_i c _ _ _ _ _
      cases (c == Value.type "enumerate") <;> (wp_walk using wpAny_loadPart' hl, wpAny_pyIter_tuple tT; exact ⟨_, rfl, h⟩)
    · wp_walk using wpAny_loadPart' hl, wpAny_pyIter_tuple tT
      exact ⟨_, rfl, h⟩
theorem enumCallT {prog : Program} {w : World} {A : Around} {E : Value → Shared → Prop} {s : Shared} {l : Addr} {items : Array Value} {Q : Value → Shared → Prop} (hT : s.heap.IsTuple l items)
    (h : ∀ h', IsEnum h' (s.heap.objs.size + 1) s.heap.objs.size 0 .none → h'.IsTupleIter s.heap.objs.size l 0 → h'.objs.size = s.heap.objs.size + 2 →
      (∀ b o, s.heap.get? b = some o → h'.get? b = some o) → Q (.ref (s.heap.objs.size + 1)) { s with heap := h' }) :
    wpAny (model prog w) A (call (.type "enumerate") [.ref l]) Q E s := by
  obtain ⟨⟨c, dct, dt, sl⟩, hl, hc, n, hd⟩ := hT
  replace hc : c = .type "tuple" := hc
  replace hd : dt = .seq items n := hd
  subst hc hd
  refine callType_new F.called_enumerate (by decide) (F.typeCall_enumerate_1 _) (F.newCall_enumerate_1 _) (fun obj => F.args_object_init_2 obj _) F.entry_enumerate_new (enumNewT l items n dct sl) ⟨hl, ?_⟩
  have hz : (s.heap.push { cls := .type "tuple_iterator", data := .fields #[.ref l, .int 0 0] }).objs.size = s.heap.objs.size + 1 := Heap.size_push ..
  show _ ∧ _
  rw [hz]
  have he : IsEnum ((s.heap.push { cls := .type "tuple_iterator", data := .fields #[.ref l, .int 0 0] }).push
      { cls := .type "enumerate", data := .fields #[.none, .bool false, .ref s.heap.objs.size, rawInt 0, .none, .none] }) (s.heap.objs.size + 1) s.heap.objs.size 0 .none := by
    have q := Heap.get?_push_size (s.heap.push { cls := .type "tuple_iterator", data := .fields #[.ref l, .int 0 0] })
      (o := { cls := .type "enumerate", data := .fields #[.none, .bool false, .ref s.heap.objs.size, rawInt 0, .none, .none] }) rfl
    rw [hz] at q; exact q
  exact ⟨⟨_, he, rfl⟩, h _ he ⟨_, Heap.get?_push_of_some _ (Heap.get?_push_size _ rfl), rfl, rfl⟩ (by rw [Heap.size_push, hz]) fun b o x => Heap.get?_push_of_some _ (Heap.get?_push_of_some _ x)⟩
/-- enumerate(tuple): each item in a new pair -/
def IteT (K : PySem.W.Frag) (a : Addr) : It :=
  ⟨fun i H => ∃ (xs : List V) (x : V), SqT K H a xs ∧ xs[i]? = some x, fun i H v H' => ∃ T x, v = .ref T ∧ H T = none ∧ H' = upd H T (.tup [.int (i : Nat), x]) ∧ ∀ xs, SqT K H a xs → xs[i]? = some x, fun i H => ∃ xs : List V, SqT K H a xs ∧ xs.length ≤ i⟩
theorem turn_enumT {P : Program} {w : World} {K : PySem.W.Frag} {elts : List Expr} {kk : Nat} {tpos : Pos} (a e it : Addr) :
    Turn P w K (.Tuple elts kk tpos) (IteT K a) [e, it] e (fun i h => (∃ old, IsEnum h e it ((i : Nat) : Int) old) ∧ h.IsTupleIter it a i ∧ e ≠ it ∧ a ≠ it ∧ a ≠ e) where
  mem := by simp
  obj := fun i h st b hb => by
    obtain ⟨⟨old, he⟩, ⟨o, ho, hc, hd⟩, _⟩ := st
    have e' : b = e ∨ b = it := by simpa using hb
    rcases e' with z | z
    · rw [z]; exact ⟨_, he, fun v q => nomatch q⟩
    · rw [z]; exact ⟨o, ho, fun v q => by rw [hd] at q; cases q⟩
  keep := fun i h h' st k => let ⟨⟨old, he⟩, hi, hne⟩ := st; ⟨⟨old, k e (by simp) _ he⟩, hi.at fun o q => k it (by simp) o q, hne⟩
  item := by
    intro X hP hw hK hc i pins s σ H E I hf st hg
    subst hP hw hK
    obtain ⟨⟨old, he⟩, hit, hne, hai, hae⟩ := st
    obtain ⟨xs, x, hq, hx⟩ := hg
    obtain ⟨its, rv, p, hz⟩ := I.tuple hq
    obtain ⟨u, hu, ru⟩ := rv.get hx
    have hel : e < s.heap.objs.size := Heap.lt_size he
    have hil : it < s.heap.objs.size := by obtain ⟨_, q, _⟩ := hit; exact Heap.lt_size q
    have hlt : i < its.toArray.size := by
      rw [List.size_toArray]
      exact (List.getElem?_eq_some_iff.mp hu).1
    have D := Draws.tuple (prog := X.prog) (w := X.w) (A := X.A.in1) (I.ok.hd hc) it a hai its.toArray
    refine wpAny_pyNext_enum_itemD D he ⟨hit, p⟩ hlt hne (by simp [hne, Ne.symm hae]) fun y h' tk hy ho hst hT hsz hk => ?_
    have ey : y = u := by
      rw [List.getElem?_toArray] at hy
      rw [hu] at hy
      exact (Option.some.inj hy).symm
    subst ey
    refine ⟨_, rfl, wpAny_letOwnedTupleGo_enum (s := { s with heap := h', toks := tk + 1 }) ho fun h'' he' sb => ?_⟩
    have hT2 : h''.get? s.heap.objs.size = some { cls := .type "tuple", data := .seq #[.int i tk, y] } := (sb.2 _ (Nat.ne_of_gt hel)).trans hT
    have new : ObjOk X.prog X.w (upd H s.heap.objs.size (.tup [.int (i : Nat), x])) h'' s.heap.objs.size (.tup [.int (i : Nat), x]) :=
      ⟨by show 2 ≤ sizeLine; decide, [.int i tk, y], .cons ⟨_, rfl⟩ (.cons ru .nil), ⟨_, hT2, rfl, _, rfl⟩⟩
    have I1 : Inv X pins σ (upd H s.heap.objs.size (.tup [.int (i : Nat), x])) { s with heap := h'', toks := tk + 1 } :=
      I.turnedNew (ch := [e, it]) (fun b ob hb q => (sb.2 b (fun z => hb (by simp [z]))).trans (hk b ob (fun z => hb (by simp [z])) (fun z => hb (by simp [z])) q)) hf (Nat.le_refl _) new
    refine ⟨.ref s.heap.objs.size, _, I1, rfl, ⟨_, x, rfl, I.hok.fresh (Nat.le_refl _), rfl, fun ys hy => by rw [I.tuple_inj hy hq]; exact hx⟩, ⟨⟨y, ?_⟩, hst.1.at fun o q => (sb.2 it (Ne.symm hne)).trans q, hne, hai, hae⟩, fun b hb => ?_⟩
    · have e1 : ((i + 1 : Nat) : Int) = (i : Int) + 1 := by omega
      rw [e1]; exact he'
    · have hb' : b < s.heap.objs.size := by
        have e' : b = e ∨ b = it := by simpa using hb
        rcases e' with z | z
        · rw [z]; exact hel
        · rw [z]; exact hil
      rw [upd_ne (Nat.ne_of_lt hb')]
      exact (hf b hb).1
  done := by
    intro X hP hw hK hc i pins s σ H E I hf st hg
    subst hP hw hK
    obtain ⟨⟨old, he⟩, hit, hne, hai, hae⟩ := st
    obtain ⟨xs, hq, hx⟩ := hg
    obtain ⟨its, rv, p, hz⟩ := I.tuple hq
    obtain ⟨f0, f1, f2, f3, f4, f5⟩ := hf it (by simp)
    have hl := rv.length
    have D : Draws X.prog X.w X.A.in1 it [it, a] i (fun _ _ => False) (fun j h => j = i ∧ h.IsTupleIter it a i ∧ h.IsTuple a its.toArray) :=
      ⟨fun _ _ st => let ⟨o, ho, _⟩ := st.2.1; ⟨o, ho⟩, fun _ _ _ st hk => ⟨st.1, st.2.1.at fun o e => hk it (by simp) o e, st.2.2.at fun o e => hk a (by simp) o e⟩,
        fun j s Q E hj st hQ => absurd st.1 (by omega), fun s Q E st hE => wpAny_nextOf_tuple_end (I.ok.hd hc) st.2.1 st.2.2 (by simp; omega) hE⟩
    exact wpAny_pyNext_enum_endD D he ⟨rfl, hit, p⟩ fun h' eb => ⟨rfl, I.turned (t' := s.toks) (fun b o hb q => eb b o hb q) f0 f1 f3 f4 f5⟩
  self := fun A i s Q E st h => let ⟨⟨_, he⟩, _⟩ := st; wpAny_pyIter_enum he h
/-- enumerate of a list or of a tuple -/
def SqC (K : PySem.W.Frag) (c : Bool) (H : Hp) (a : Addr) (xs : List V) : Prop := match c with
  | true => SqL K H a xs
  | false => SqT K H a xs
def IteC (K : PySem.W.Frag) (c : Bool) (a : Addr) : It := match c with
  | true => Ite K a
  | false => IteT K a
def iEnumS (K : PySem.W.Frag) (ta : TA) : TI := fun σ H R => ta σ H fun vs H1 => ∃ a xs c, vs = [.ref a] ∧ SqC K c H1 a xs ∧ R (IteC K c a) H1
theorem pi_enumS {X : Cx} {e : Expr} {ta : TA} {p pos tpos : Pos} {elts : List Expr} {kk : Nat} (hg : Gl X "enumerate") (hm : X.mg "enumerate" = none) (ha : PA X [e] ta) (hs : starEach [e] X.env = [(false, eval e X.env)] := by rfl) :
    PI X (.Tuple elts kk tpos) (.Call (.Name "enumerate" p) [e] [] pos) (iEnumS X.K ta) := by
  refine ⟨fun pins s σ H R I h => ?_⟩
  refine Call_ (ld_blt I hg hm boot_enumerate (PyProof.Rows.callWith_type1 (thn (ha.run pos pins s σ H _ I h) fun us s1 ⟨vs, H1, I1, r1, q1⟩ => ?_) hs rfl))
  obtain ⟨a, xs, c, ex, hq, q⟩ := q1
  subst ex
  cases r1 with
  | cons r rr =>
    cases rr
    cases r
    have fp : ∀ b ∈ [s1.heap.objs.size + 1, s1.heap.objs.size], FpOk X pins H1 b := fun b hb => by
      have e' : b = s1.heap.objs.size + 1 ∨ b = s1.heap.objs.size := by simpa using hb
      have hle : s1.heap.objs.size ≤ b := by
        rcases e' with z | z
        · rw [z]; exact Nat.le_add_right _ _
        · rw [z]; exact Nat.le_refl _
      exact I1.fpOk hle (I1.hok.fresh hle)
    cases c
    rotate_left
    · replace hq : SqL X.K H1 a xs := hq
      obtain ⟨its, rv, p', hz⟩ := I1.list hq
      refine call_enumerate_list p'.isList fun h' he hit hsz hk => wpAny_pyIter_enum he ?_
      have I2 : Inv X pins σ H1 { s1 with heap := h' } := I1.kept (t' := s1.toks) hk
      exact ⟨s1.heap.objs.size + 1, [s1.heap.objs.size + 1, s1.heap.objs.size], _, _, H1, rfl, I2, turn_enum a (s1.heap.objs.size + 1) s1.heap.objs.size, ⟨⟨.none, he⟩, hit, Nat.succ_ne_self _⟩, fp, q⟩
    · replace hq : SqT X.K H1 a xs := hq
      obtain ⟨its, rv, p', hz⟩ := I1.tuple hq
      have hal : a < s1.heap.objs.size := by obtain ⟨_, q, _⟩ := p'; exact Heap.lt_size q
      refine enumCallT p' fun h' he hit hsz hk => wpAny_pyIter_enum he ?_
      have I2 : Inv X pins σ H1 { s1 with heap := h' } := I1.kept (t' := s1.toks) hk
      exact ⟨s1.heap.objs.size + 1, [s1.heap.objs.size + 1, s1.heap.objs.size], _, _, H1, rfl, I2, turn_enumT a (s1.heap.objs.size + 1) s1.heap.objs.size, ⟨⟨.none, he⟩, hit, Nat.succ_ne_self _, Nat.ne_of_lt hal, Nat.ne_of_lt (Nat.lt_succ_of_lt hal)⟩, fp, q⟩
theorem walk_enumT {K : PySem.W.Frag} {a : Addr} {xs : List V} : Walk (IteT K a) xs.length (fun H => SqT K H a xs) (YPair (fun i => some (.int (i : Nat))) (fun i => xs[i]?)) := by
  refine ⟨fun i _ hi q => ⟨xs, xs[i], q, by simp [hi]⟩, fun _ q => ⟨xs, q, Nat.le_refl _⟩, fun i H v H' _ q y => ?_⟩
  obtain ⟨T, x, h1, h2, h3, h4⟩ := y
  exact ⟨T, .int (i : Nat), x, h1, h2, h3, rfl, h4 xs q⟩
theorem walk_enumC {K : PySem.W.Frag} {c : Bool} {a : Addr} {xs : List V} : Walk (IteC K c a) xs.length (fun H => SqC K c H a xs) (YPair (fun i => some (.int (i : Nat))) (fun i => xs[i]?)) := by
  cases c
  · exact walk_enumT
  · exact walk_enum
end Kx

set_option autoImplicit false
namespace J
open PySem PySem.Spec PyProof.Rows L2
variable {K : PySem.W.Frag} {P : Program} {w : World} {X : Cx}
/-! defs by what they compute -/
def OkF (P : Program) (w : World) (K : PySem.W.Frag) (mg : Str → Option Value) (base : Heap) (x : Str) (n : Nat) (F : Fn) (k : Nat) : Prop :=
  ∃ (f : Addr) (fd : FuncData) (ps : List Str), mg x = some (.ref f) ∧ PySem.W.keepIn K (.ref f) = true ∧ Binds K fd ps [] ∧ FnOk P w K mg base CX0 k f fd ps (spJ P w K n F)
theorem je_callF {j k n : Nat} {F : Fn} {x : Str} {p pos : Pos} {e : Expr} {es : List Expr} {g : FA} (G : OkF X.prog X.w X.K X.mg X.base x n F j) (hr : Room k X.A) (hg : Gl X x) (ha : JA X (e :: es) g) (hj : j ≤ k := by decide) (hdb : (x == ("__debug__" : Str)) = false := by decide) (he : starEach (e :: es) X.env = (false, eval e X.env) :: starEach es X.env := by rfl) (hpl : (backTo pos (starEach es X.env)).any (·.1) = false := by rfl) :
    JE X (.Call (.Name x p) (e :: es) [] pos) (fCall n F g []) := by
  obtain ⟨f, fd, ps, h1, h2, h3, h4⟩ := G
  exact je_call (dvs := []) (ds := []) (h4.mono hj) hr hg h1 h2 h3 .nil (fun _ _ => .nil) ha hdb he hpl
theorem je_callF0 {j k n : Nat} {F : Fn} {x : Str} {p pos : Pos} (G : OkF X.prog X.w X.K X.mg X.base x n F j) (hr : Room k X.A) (hg : Gl X x) (hj : j ≤ k := by decide) (hdb : (x == ("__debug__" : Str)) = false := by decide) :
    JE X (.Call (.Name x p) [] [] pos) (fCall n F faNil []) := by
  obtain ⟨f, fd, ps, h1, h2, h3, h4⟩ := G
  exact je_call0 (dvs := []) (ds := []) (h4.mono hj) hr hg h1 h2 h3 .nil (fun _ _ => .nil) hdb
/-- with one keyword-only parameter, base, whose default is 3 -/
def OkK (P : Program) (w : World) (K : PySem.W.Frag) (mg : Str → Option Value) (base : Heap) (x : Str) (i n : Nat) (F : Fn) (k : Nat) : Prop :=
  ∃ (f : Addr) (fd : FuncData) (ps : List Str), mg x = some (.ref f) ∧ PySem.W.keepIn K (.ref f) = true ∧ KBn K fd ps i [("base" : Str)] (fun us ws => us ++ ws) (fun vs zs => vs ++ zs) ∧ (∃ ds, Vals [.int 3] ds ∧ Binds K fd ps ds) ∧ FnOk P w K mg base CX0 k f fd ps (spJ P w K n F)
theorem je_callK {j k n i : Nat} {F : Fn} {x : Str} {p pos : Pos} {e : Expr} {es : List Expr} {kws : List Keyword} {g gk : FA} (G : OkK X.prog X.w X.K X.mg X.base x i n F j) (hr : Room k X.A) (hg : Gl X x) (ha : JA X (e :: es) g) (hkw : JK X kws gk) (hj : j ≤ k := by decide)
    (hall : (backToKw pos (keywordEach kws X.env)).all (·.1.isSome) = true := by rfl) (hks : (backToKw pos (keywordEach kws X.env)).filterMap (·.1) = [("base" : Str)] := by rfl)
    (hdb : (x == ("__debug__" : Str)) = false := by decide) (he : starEach (e :: es) X.env = (false, eval e X.env) :: starEach es X.env := by rfl)
    (hpl : ((backTo pos (starEach (e :: es) X.env)).any (·.1) || (backToKw pos (keywordEach kws X.env)).any (·.1.isNone)) = false := by rfl) :
    JE X (.Call (.Name x p) (e :: es) kws pos) (fCallN n i 1 F (fun as bs => as ++ bs) g gk) := by
  obtain ⟨f, fd, ps, h1, h2, h3, h5, h4⟩ := G
  exact je_callN (h4.mono hj) hr hg h1 h2 h3 (fun H μ vs ds zs es r1 r2 => r1.append r2) ha hkw hall hks hdb he hpl
theorem je_callD {j k n i : Nat} {F : Fn} {x : Str} {p pos : Pos} {e : Expr} {es : List Expr} {g : FA} (G : OkK X.prog X.w X.K X.mg X.base x i n F j) (hr : Room k X.A) (hg : Gl X x) (ha : JA X (e :: es) g) (hj : j ≤ k := by decide) (hdb : (x == ("__debug__" : Str)) = false := by decide) (he : starEach (e :: es) X.env = (false, eval e X.env) :: starEach es X.env := by rfl) (hpl : (backTo pos (starEach es X.env)).any (·.1) = false := by rfl) :
    JE X (.Call (.Name x p) (e :: es) [] pos) (fCall n F g [.int 3]) := by
  obtain ⟨f, fd, ps, h1, h2, h3, ⟨ds, h5, h6⟩, h4⟩ := G
  exact je_call (h4.mono hj) hr hg h1 h2 h6 h5 (fun _ _ => .cons (.int 3) .nil) ha hdb he hpl
theorem okF_none {mg : Str → Option Value} {base : Heap} {f : Addr} {fd : FuncData} {ps : List Str} {n k : Nat} : FnOk P w K mg base CX0 k f fd ps (spJ P w K n fun _ _ => none) := by
  refine ⟨fun vs H Q E h => ?_, fun A outer s H args us vs Q E hr h0 hb hv h => ?_⟩
  · obtain ⟨_, _, _, _, _, _, _, _, h, _⟩ := h; cases h
  · obtain ⟨_, _, _, _, _, _, _, _, h, _⟩ := h; cases h
/-! dicts with ints and texts as keys -/
def valKD (kvs : List (Key × D)) (k : Key) : Option D := (kvs.find? fun kv => decide (kv.1 = k)).map (·.2)
def putKD (kvs : List (Key × D)) (k : Key) (v : D) : List (Key × D) := if (kvs.any fun kv => decide (kv.1 = k)) = true then kvs.map fun kv => if kv.1 = k then (kv.1, v) else kv else kvs ++ [(k, v)]
def mergeKD (kvs more : List (Key × D)) : List (Key × D) := more.foldl (fun acc kv => putKD acc kv.1 kv.2) kvs
theorem KvR.val {H : Hp} {μ : Mp} (k : Key) : ∀ {xs ys}, KvR K H μ xs ys → (valV xs k = none ∧ valKD ys k = none) ∨ ∃ v d, valV xs k = some v ∧ valKD ys k = some d ∧ Rv K H μ v d
  | _, _, .nil => .inl ⟨rfl, rfl⟩
  | _, _, .cons (k := k') h3 q => by
    unfold valV valKD
    rw [List.find?_cons, List.find?_cons]
    by_cases e : k' = k
    · simp only [e, decide_true, Option.map_some]
      exact .inr ⟨_, _, rfl, rfl, h3⟩
    · simp only [e, decide_false]
      exact KvR.val k q
theorem KvR.anyK {H : Hp} {μ : Mp} (k : Key) : ∀ {xs ys}, KvR K H μ xs ys → (xs.any fun kv => decide (kv.1 = k)) = ys.any fun kv => decide (kv.1 = k)
  | _, _, .nil => rfl
  | _, _, .cons (k := k') h3 q => by rw [List.any_cons, List.any_cons, KvR.anyK k q]
theorem KvR.append {H : Hp} {μ : Mp} : ∀ {xs xs' ys ys'}, KvR K H μ xs ys → KvR K H μ xs' ys' → KvR K H μ (xs ++ xs') (ys ++ ys')
  | _, _, _, _, .nil, q => q
  | _, _, _, _, .cons h t, q => .cons h (KvR.append t q)
theorem KvR.mapV {H : Hp} {μ : Mp} {k : Key} {v : V} {d : D} (r : Rv K H μ v d) : ∀ {xs ys}, KvR K H μ xs ys → KvR K H μ (xs.map fun p => if p.1 = k then (p.1, v) else p) (ys.map fun p => if p.1 = k then (p.1, d) else p)
  | _, _, .nil => .nil
  | _, _, .cons (k := k') h3 q => by
    rw [List.map_cons, List.map_cons]
    by_cases e : k' = k
    · simp only [e, if_true]
      exact .cons r (KvR.mapV r q)
    · simp only [e, if_false]
      exact .cons h3 (KvR.mapV r q)
theorem KvR.put {H : Hp} {μ : Mp} {xs ys} (h : KvR K H μ xs ys) (k : Key) {v : V} {d : D} (r : Rv K H μ v d) : KvR K H μ (putK xs k v) (putKD ys k d) := by
  unfold putK putKD
  rw [h.anyK k]
  split
  · exact h.mapV r
  · exact h.append (.cons r .nil)
theorem KvR.merge {H : Hp} {μ : Mp} {more more'} (m : KvR K H μ more more') : ∀ {xs ys}, KvR K H μ xs ys → KvR K H μ (mergeK xs more) (mergeKD ys more') := by
  induction m with
  | nil => intro xs ys q; exact q
  | cons h t ih => intro xs ys q; exact ih (q.put _ h)
/-- pairs of a display with written texts as keys -/
def JPs (X : Cx) (pos : Pos) (keys : List (Option Expr)) (values : List Expr) (ns : List Str) (f : FA) : Prop := ∃ trs, PPs X pos keys values trs ∧ ∀ (σ : L2.St) (H : Hp) (μ : Mp) (env : Env) (S : Sto) (ds : List D) (S' : Sto) (Q : List (V × V) → Hp → Prop), HR X.prog X.w X.K H μ S → ER X.K H μ σ env → f env S = some (ds, S') →
  (∀ (vs : List V) H' μ', Later μ H μ' H' → HR X.prog X.w X.K H' μ' S' → RvAll X.K H' μ' vs ds → vs.length = ns.length → Q ((ns.zip vs).map fun p => (V.str p.1, p.2)) H') → tPairs trs σ H Q
theorem jps_nil {pos : Pos} : JPs X pos [] [] [] faNil := ⟨_, pps_nil, fun σ H μ env S ds S' Q hr er hf k => by cases hf; exact k [] H μ (.refl _ _) hr .nil rfl⟩
theorem jps_cons {pos p0 : Pos} {j} {x : Str} {v : Expr} {ks : List (Option Expr)} {vs : List Expr} {ns : List Str} {f : FE} {g : FA} (hv : JE X v f) (hr : JPs X pos ks vs ns g) : JPs X pos (some (.Constant (.str x) j p0) :: ks) (v :: vs) (x :: ns) (faCons f g) := by
  obtain ⟨t, p, q⟩ := hv
  obtain ⟨trs, ps, qs⟩ := hr
  refine ⟨_, pps_cons pe_str p ps, fun σ H μ env S ds S' Q hr er hf k => ?_⟩
  obtain ⟨d, S1, es, h1, h2, rfl⟩ := faCons_some hf
  refine q σ H μ env S d S1 _ hr er h1 fun v1 H1 μ1 l1 hr1 r1 => ?_
  refine qs σ H1 μ1 env S1 es S' _ hr1 (er.later l1) h2 fun vs2 H2 μ2 l2 hr2 r2 hl => ?_
  exact k (v1 :: vs2) H2 μ2 (l1.trans l2) hr2 (.cons (r1.later l2) r2) (by rw [List.length_cons, List.length_cons, hl])
def kvN (ns : List Str) (ds : List D) : List (Key × D) := (ns.zip ds).map fun p => (Sum.inr p.1, p.2)
theorem kvN_R {H : Hp} {μ : Mp} : ∀ (ns : List Str) {vs : List V} {ds : List D}, RvAll K H μ vs ds → KvR K H μ ((ns.zip vs).map fun p => ((Sum.inr p.1 : Key), p.2)) (kvN ns ds)
  | [], _, _, _ => by simp [kvN]; exact .nil
  | n :: ns, _, _, .nil => by simp [kvN]; exact .nil
  | n :: ns, _, _, .cons h q => .cons h (kvN_R ns q)
/-- {k: v, ..}[e] -/
def fDispIx (ns : List Str) (fv : FA) (fk : FE) : FE := fun env S => match fv env S with
  | some (ds, S1) => match fk env S1 with
    | some (.str x, S2) => match valKD (mergeKD [] (kvN ns ds)) (Sum.inr x) with
      | some d => some (d, S2)
      | none => none
    | _ => none
  | none => none
theorem HR.ext {H : Hp} {μ : Mp} {S : Sto} {p : Addr} {o : HO} (hr : HR P w K H μ S) (np : H p = none) : Later μ H ⟨μ.m, p :: μ.x⟩ (upd H p o) ∧ HR P w K (upd H p o) ⟨μ.m, p :: μ.x⟩ S := by
  have pm := hr.free np
  obtain ⟨l2, hr2⟩ := hr.new (o := o) np
  have d0 : Dat μ H ⟨μ.m, p :: μ.x⟩ (upd H p o) := ⟨⟨[], by simp⟩, fun b u h n nx => ⟨n, fun z => (List.mem_cons.mp z).elim (fun z => ne_of_none h np z) nx, by rw [upd_ne (ne_of_none h np)]; exact h⟩⟩
  refine ⟨⟨⟨[], by simp⟩, fun a h => List.mem_cons_of_mem _ h, fun a o h n => ⟨n, fun nx z => (List.mem_cons.mp z).elim (fun z => ne_of_none h np z) nx, (l2.keep a o h n).2.2⟩, l2.frz⟩, ⟨hr2.len, hr2.nd, fun j a o hj ho => ?_, hr2.there, fun a ha => ?_, fun a ha z => ?_⟩⟩
  · exact (hr.ok j a o hj ho).dat d0 (upd_ne (show a ≠ p from fun z => pm.1 (by rw [← z]; exact List.mem_of_getElem? hj)))
  · rcases List.mem_cons.mp ha with z | z
    · rw [z, upd_same]; simp
    · exact hr2.thereX a z
  · rcases List.mem_cons.mp z with z | z
    · exact pm.1 (z ▸ ha)
    · exact hr2.dj a ha z
theorem je_dispIx {keys : List (Option Expr)} {values : List Expr} {ns : List Str} {fv : FA} {e : Expr} {fk : FE} {pos dpos : Pos} (hu : X.A.units + 64 < cLine) (h : JPs X dpos keys values ns fv) (hk : JE X e fk) (hall : keys.all (·.isSome) = true := by rfl) (hl : keys.length = values.length := by rfl) (h0 : keys ≠ [] := by exact fun z => by cases z)
    (h15 : keys.length ≤ 15 := by decide) (hn : ns.length ≤ 15 := by decide) (hs : NoSl e := by exact fun _ _ => rfl) : JE X (.Subscript (.Dict keys values dpos) e pos) (fDispIx ns fv fk) := by
  obtain ⟨trs, pp, qp⟩ := h
  obtain ⟨tk, pk, qk⟩ := hk
  refine ⟨_, pe_dget (by omega) (pe_disp pp hall hl h0 h15) pk hs, fun σ H μ env S d S' Q hr er hf k => ?_⟩
  unfold fDispIx at hf
  split at hf
  · rename_i ds S1 e1
    split at hf
    · rename_i x S2 e2
      split at hf
      · rename_i d1 e3
        cases hf
        intro p np
        obtain ⟨l0, hr0⟩ := hr.ext (o := .dK []) np
        refine qp σ _ _ env S ds S1 _ hr0 (er.later l0) e1 fun vs H1 μ1 l1 hr1 r1 hlen => ?_
        have px1 : p ∈ μ1.x := l1.ex p (by simp)
        have pm1 : p ∉ μ1.m := fun z => hr1.dj p z px1
        have hp1 := (l1.keep p _ upd_same (fun z => (hr.free np).1 z)).2.2
        refine ⟨hp1, (ns.zip vs).map fun q => ((Sum.inr q.1 : Key), q.2), ?_, by rw [List.length_map, List.length_zip]; omega, ?_⟩
        · rw [List.map_map]; rfl
        obtain ⟨hr2, dat2⟩ := hr1.acc (o := .dK (mergeK [] ((ns.zip vs).map fun q => ((Sum.inr q.1 : Key), q.2)))) px1
        have er2 : ER X.K _ μ1 σ env := ⟨(er.later (l0.trans l1)).len, fun i d h => let ⟨v, h1, h2⟩ := (er.later (l0.trans l1)).ok i d h; ⟨v, h1, h2.dat dat2⟩⟩
        refine qk σ _ μ1 env S1 _ _ _ hr2 er2 e2 fun v3 H3 μ3 l3 hr3 r3 => ?_
        cases r3
        have hp3 := (l3.keep p _ upd_same pm1).2.2
        have kv := ((kvN_R ns r1).merge (xs := []) .nil).dat (dat2)
        have kv3 := kv.later l3
        rcases kv3.val (Sum.inr x) with ⟨z1, z2⟩ | ⟨u, c, z1, z2, z3⟩
        · rw [z2] at e3; cases e3
        · rw [z2] at e3
          cases e3
          refine ⟨p, u, rfl, ?_, ?_⟩
          · rw [← z1]; exact DGet.k (k := Sum.inr x) hp3
          have lf : Later μ H ⟨μ3.m, μ.x⟩ H3 := by
            have L1 := l0.trans l1
            obtain ⟨e1', h1'⟩ := L1.ext
            obtain ⟨e3', h3'⟩ := l3.ext
            refine ⟨⟨e1' ++ e3', by rw [h3', h1', List.append_assoc]⟩, fun _ h => h, fun a o h n => ?_, fun a o u h => ?_⟩
            · have ne : a ≠ p := ne_of_none h np
              obtain ⟨n1, x1, q1⟩ := L1.keep a o h n
              obtain ⟨n3, x3, q3⟩ := l3.keep a o (by rw [upd_ne ne]; exact q1) n1
              exact ⟨n3, id, q3⟩
            · exact l3.frz a o u (by rw [upd_ne (ne_of_none h np)]; exact L1.frz a o u h)
          have mx : ∀ a, a ∈ μ.x → a ∈ μ3.x := fun a h => l3.ex a ((l0.trans l1).ex a h)
          exact k u H3 ⟨μ3.m, μ.x⟩ lf (hr3.unx mx) (z3.dat (show Dat μ3 H3 ⟨μ3.m, μ.x⟩ H3 from ⟨⟨[], by simp⟩, fun a o h n nx => ⟨n, fun z => nx (mx a z), h⟩⟩))
      · cases hf
    · cases hf
  · cases hf
/-! a < b < c -/
def fChain (g g' : G2) (fa fb fc : FE) : FE := fun env S => match fa env S with
  | some (a, S1) => match fb env S1 with
    | some (b, S2) => match g a b S2 with
      | some (.bl true, S3) => match fc env S3 with
        | some (c, S4) => g' b c S4
        | none => none
      | some (.bl false, S3) => some (.bl false, S3)
      | _ => none
    | none => none
  | none => none
theorem fChain_some {g g' : G2} {fa fb fc : FE} {env : Env} {S S' : Sto} {d : D} (h : fChain g g' fa fb fc env S = some (d, S')) : ∃ a S1 b S2 k S3, fa env S = some (a, S1) ∧ fb env S1 = some (b, S2) ∧ g a b S2 = some (.bl k, S3) ∧ ((k = false ∧ d = .bl false ∧ S' = S3) ∨ (k = true ∧ ∃ c S4, fc env S3 = some (c, S4) ∧ g' b c S4 = some (d, S'))) := by
  unfold fChain at h
  split at h
  · rename_i a S1 e1
    split at h
    · rename_i b S2 e2
      split at h
      · rename_i S3 e3
        split at h
        · rename_i c S4 e4
          exact ⟨a, S1, b, S2, true, S3, e1, e2, e3, .inr ⟨rfl, c, S4, e4, h⟩⟩
        · cases h
      · rename_i S3 e3
        cases h
        exact ⟨a, S1, b, S2, false, _, e1, e2, e3, .inl ⟨rfl, rfl, rfl⟩⟩
      · cases h
    · cases h
  · cases h
section
variable {op op' : CmpOp} {r r' : R2} {g g' : G2} {a b c : Expr} {fa fb fc : FE} {pos : Pos}
theorem jchain {ta tb tc : TE} (ro : RO X.prog X.w X.K r g) (ro' : RO X.prog X.w X.K r' g')
    (qa : ∀ (σ : L2.St) (H : Hp) (μ : Mp) (env : Env) (S : Sto) (d : D) (S' : Sto) (Q : VK), HR X.prog X.w X.K H μ S → ER X.K H μ σ env → fa env S = some (d, S') → (∀ v H' μ', Later μ H μ' H' → HR X.prog X.w X.K H' μ' S' → Rv X.K H' μ' v d → Q v H') → ta σ H Q)
    (qb : ∀ (σ : L2.St) (H : Hp) (μ : Mp) (env : Env) (S : Sto) (d : D) (S' : Sto) (Q : VK), HR X.prog X.w X.K H μ S → ER X.K H μ σ env → fb env S = some (d, S') → (∀ v H' μ', Later μ H μ' H' → HR X.prog X.w X.K H' μ' S' → Rv X.K H' μ' v d → Q v H') → tb σ H Q)
    (qc : ∀ (σ : L2.St) (H : Hp) (μ : Mp) (env : Env) (S : Sto) (d : D) (S' : Sto) (Q : VK), HR X.prog X.w X.K H μ S → ER X.K H μ σ env → fc env S = some (d, S') → (∀ v H' μ', Later μ H μ' H' → HR X.prog X.w X.K H' μ' S' → Rv X.K H' μ' v d → Q v H') → tc σ H Q)
    (σ : L2.St) (H : Hp) (μ : Mp) (env : Env) (S : Sto) (d : D) (S' : Sto) (Q : VK) (hr : HR X.prog X.w X.K H μ S) (er : ER X.K H μ σ env) (hf : fChain g g' fa fb fc env S = some (d, S')) (k : ∀ v H' μ', Later μ H μ' H' → HR X.prog X.w X.K H' μ' S' → Rv X.K H' μ' v d → Q v H') :
    tChain r r' ta tb tc σ H Q := by
  obtain ⟨x, S1, y, S2, kk, S3, h1, h2, h3, h4⟩ := fChain_some hf
  refine qa σ H μ env S x S1 _ hr er h1 fun v1 H1 μ1 l1 hr1 r1 => ?_
  refine qb σ H1 μ1 env S1 y S2 _ hr1 (er.later l1) h2 fun v2 H2 μ2 l2 hr2 r2 => ?_
  refine ro H2 μ2 S2 v1 v2 x y _ S3 _ hr2 (r1.later l2) r2 h3 fun v3 H3 μ3 l3 hr3 r3 => ?_
  cases r3
  have L := l1.trans (l2.trans l3)
  refine ⟨kk, rfl, ?_⟩
  rcases h4 with ⟨rfl, rfl, rfl⟩ | ⟨rfl, z, S4, h5, h6⟩
  · rw [if_neg Bool.false_ne_true]
    exact k _ H3 μ3 L hr3 (.bl false)
  · rw [if_pos rfl]
    refine qc σ H3 μ3 env S3 z S4 _ hr3 (er.later L) h5 fun v4 H4 μ4 l4 hr4 r4 => ?_
    exact ro' H4 μ4 S4 v2 v4 y z d S' Q hr4 (r2.later (l3.trans l4)) r4 h6 fun v H' μ' l => k v H' μ' (L.trans (l4.trans l))
theorem je_chain (ho : OpR X (compareOp op) r) (ho' : OpR X (compareOp op') r') (ro : RO X.prog X.w X.K r g) (ro' : RO X.prog X.w X.K r' g') (ha : JE X a fa) (hb : JE X b fb) (hc : JE X c fc)
    (hm : lastMarks [op, op'] [b, c] = false := by with_unfolding_all rfl) : JE X (.Compare a [op, op'] [b, c] pos) (fChain g g' fa fb fc) := by
  obtain ⟨ta, pa, qa⟩ := ha
  obtain ⟨tb, pb, qb⟩ := hb
  obtain ⟨tc, pc, qc⟩ := hc
  exact ⟨_, pe_chain ho ho' pa pb pc hm, jchain ro ro' qa qb qc⟩
theorem jt_chain (ho : OpR X (compareOp op) r) (ho' : OpR X (compareOp op') r') (ro : RO X.prog X.w X.K r g) (ro' : RO X.prog X.w X.K r' g') (ha : JE X a fa) (hb : JE X b fb) (hc : JE X c fc)
    (hm : lastMarks [op, op'] [b, c] = false := by with_unfolding_all rfl) : JT X (.Compare a [op, op'] [b, c] pos) (fTest (fChain g g' fa fb fc)) := by
  obtain ⟨ta, pa, qa⟩ := ha
  obtain ⟨tb, pb, qb⟩ := hb
  obtain ⟨tc, pc, qc⟩ := hc
  refine ⟨_, pt_chain ho ho' pa pb pc hm, fun σ H μ env S d S' Q hr er hf k => ?_⟩
  refine jchain ro ro' qa qb qc σ H μ env S _ S' _ hr er (fTest_some hf) fun v H' μ' l h r => ?_
  cases r
  exact ⟨d, rfl, k H' μ' l h⟩
end
/-! name += e -/
def fAug (i : Nat) (g : G2) (fe : FE) : FS := fun env S => match env[i]? with
  | some (some a) => match fe env S with
    | some (b, S1) => match g a b S1 with
      | some (c, S2) => some (.nx, env.set i (some c), S2)
      | none => none
    | none => none
  | _ => none
theorem js_aug {i : Nat} {x : Str} {e : Expr} {fe : FE} {op : Operator} {ti : TIp} {g : G2} {pos pos' : Pos} (hN : X.N.Nodup) (hi : X.N[i]? = some x) (hx : Loc X.env.scope x) (he : JE X e fe) (ho : PIp X op ti) (ro : RO X.prog X.w X.K ti g) (hf : X.fn x = true ∨ X.env.scope.names.lookup x = some .local := by first | exact .inl rfl | exact .inr rfl | assumption) :
    JS X (.AugAssign (.Name x pos') op e pos) (fAug i g fe) := by
  obtain ⟨t, p, q⟩ := he
  refine ⟨_, ps_aug hN hi hx p ho hf, fun σ H μ env S fl env' S' E hr er hf k => ?_⟩
  unfold fAug at hf
  split at hf
  · rename_i a ea
    split at hf
    · rename_i b S1 e1
      split at hf
      · rename_i c S2 e2
        cases hf
        obtain ⟨v, hv, rv⟩ := er.ok i a ea
        refine ⟨v, hv, q σ H μ env S b S1 _ hr er e1 fun v1 H1 μ1 l1 hr1 r1 => ?_⟩
        refine ro H1 μ1 S1 v v1 a b c _ _ hr1 (rv.later l1) r1 e2 fun v2 H2 μ2 l2 hr2 r2 => ?_
        exact k _ H2 μ2 (l1.trans l2) hr2 ((er.later (l1.trans l2)).set r2 i)
      · cases hf
    · cases hf
  · cases hf
theorem ro_ipI {f : Int → Int → Int} : RO P w K (ipI f) (gI0 f) := by
  intro H μ S x y a b d S' Q hr rx ry e k
  unfold gI0 at e
  split at e
  · cases e
    cases rx
    cases ry
    exact ⟨_, _, rfl, rfl, k _ H μ (.refl _ _) hr (.int _)⟩
  · cases e
/-! enumerate -/
def enD (ds : List D) : List D := ds.mapIdx fun i d => .tup [.int (i : Int), d]
def fEnum (g : FA) : FA := fun env S => match g env S with
  | some ([d], S1) => match d.items with
    | some ds => some (enD ds, S1)
    | none => none
  | _ => none
theorem itf_en {H0 : Hp} {μ0 : Mp} {a : Addr} {c : Bool} {xs : List V} {ds : List D} (hq : ∀ μ H, Later μ0 H0 μ H → Kx.SqC K c H a xs) (hd : RvAll K H0 μ0 xs ds) : ItF P w K (Kx.IteC K c a) (enD ds) μ0 H0 := by
  intro μ H l
  have hs := hq μ H l
  have W := Kx.walk_enumC (K := K) (c := c) (a := a) (xs := xs)
  have hl := hd.length
  have hl2 : (enD ds).length = xs.length := by rw [enD, List.length_mapIdx, hl]
  refine ⟨fun S hr => ⟨fun i hi => W.goes i H (by omega) hs, by rw [hl2]; exact W.stops H hs⟩, fun i S x H' d hr h1 y => ?_⟩
  have hi : i < xs.length := by rw [← hl2]; exact (List.getElem?_eq_some_iff.mp h1).1
  obtain ⟨T, x1, y1, rfl, hT, rfl, e1, e2⟩ := W.yields i H x H' hi hs y
  cases e1
  obtain ⟨l2, hr2⟩ := hr.new (o := .tup [.int (i : Nat), y1]) hT
  have ed : ∃ d1, ds[i]? = some d1 ∧ d = .tup [.int (i : Int), d1] := by
    rw [enD, List.getElem?_mapIdx] at h1
    obtain ⟨d1, h2, h3⟩ := Option.map_eq_some_iff.mp h1
    exact ⟨d1, h2, h3.symm⟩
  obtain ⟨d1, h2, rfl⟩ := ed
  exact ⟨l2, hr2, .tup (.inl ⟨.inl upd_same, hr.free hT⟩) (.cons (.int _) (.cons (((hd.later l).at e2 h2).later l2) .nil))⟩
theorem ji_enum {e : Expr} {g : FA} {p pos tpos : Pos} {elts : List Expr} {kk : Nat} (hg : Gl X "enumerate") (hm : X.mg "enumerate" = none) (ha : JA X [e] g) (hs : starEach [e] X.env = [(false, eval e X.env)] := by rfl) : JI X (.Tuple elts kk tpos) (.Call (.Name "enumerate" p) [e] [] pos) (fEnum g) := by
  obtain ⟨t, pa, q⟩ := ha
  refine ⟨_, Kx.pi_enumS hg hm pa hs, fun σ H μ env S ds S' R hr er hf k => ?_⟩
  unfold fEnum at hf
  split at hf
  · rename_i d S1 e1
    split at hf
    · rename_i es e2
      cases hf
      refine q σ H μ env S _ _ _ hr er e1 fun vs H1 μ1 l hr1 r => ?_
      obtain ⟨x, rfl, r1⟩ := r.one
      cases r1 with
      | tup h1 h2 => cases e2; exact ⟨_, _, false, rfl, h1.sq, k _ H1 μ1 l hr1 (itf_en (c := false) (fun μ H l => TpR.sq (h1.imp l.rd id)) h2)⟩
      | lst h1 h2 => cases e2; exact ⟨_, _, true, rfl, h1.sq, k _ H1 μ1 l hr1 (itf_en (c := true) (fun μ H l => LsR.sq (h1.ls.imp l.rd id)) h2)⟩
      | scr h1 h2 => cases e2; exact ⟨_, _, true, rfl, h1.sq, k _ H1 μ1 l hr1 (itf_en (c := true) (fun μ H l => LsR.sq (h1.imp l.rd id)) h2)⟩
      | _ => cases e2
    · cases hf
  · cases hf
end J

namespace Kx
open PySem PySem.Spec PyProof.Rows L2
/-! what is carried from heap to heap -/
def Bag (H : Hp) (b : Addr) (n : Nat) : Prop := ∃ (d m : Int) (c : Nat), H b = some (.lst [.int d, .int m, .int c]) ∧ 0 ≤ d ∧ 0 ≤ m ∧ m < 2305843009213693951 ∧ c ≤ n
def SameX (b : Addr) (H H' : Hp) : Prop := ∀ a o, a ≠ b → H a = some o → H' a = some o
theorem pM : (0 : Int) < 2305843009213693951 := by decide
theorem pM2 : (0 : Int) < 2305843009213693921 := by decide
theorem SameX.refl (b : Addr) (H : Hp) : SameX b H H := fun _ _ _ e => e
theorem SameX.trans {b : Addr} {H H1 H2 : Hp} (x : SameX b H H1) (y : SameX b H1 H2) : SameX b H H2 := fun a o n e => y a o n (x a o n e)
theorem SameX.new {b p : Addr} {H : Hp} {o : HO} (h : H p = none) : SameX b H (upd H p o) := fun a u _ e => by
  rw [upd_ne (ne_of_none e h)]
  exact e
theorem same_new {p : Addr} {H : Hp} {o : HO} (h : H p = none) : Same H (upd H p o) := fun a u e => by
  rw [upd_ne (ne_of_none e h)]
  exact e
theorem Same.x {b : Addr} {H H' : Hp} (h : Same H H') : SameX b H H' := fun a o _ e => h a o e
/-- after a new thing, then what keeps all but it -/
theorem SameX.behind {p : Addr} {H H1 : Hp} {o : HO} (h : H p = none) (s : SameX p (upd H p o) H1) : Same H H1 := fun a u e =>
  s a u (ne_of_none e h) (by rw [upd_ne (ne_of_none e h)]; exact e)
theorem Bag.mono {H : Hp} {b : Addr} {n m : Nat} (h : Bag H b n) (l : n ≤ m) : Bag H b m :=
  let ⟨d, x, c, e, h1, h2, h3, h4⟩ := h
  ⟨d, x, c, e, h1, h2, h3, Nat.le_trans h4 l⟩
theorem Bag.new {H : Hp} {b p : Addr} {n : Nat} {o : HO} (h : Bag H b n) (hp : H p = none) : Bag (upd H p o) b n := by
  obtain ⟨d, x, c, e, r⟩ := h
  exact ⟨d, x, c, by rw [upd_ne (ne_of_none e hp)]; exact e, r⟩
theorem Bag.same {H H' : Hp} {b : Addr} {n : Nat} (h : Bag H b n) (s : Same H H') : Bag H' b n :=
  let ⟨d, x, c, e, r⟩ := h
  ⟨d, x, c, s _ _ e, r⟩
theorem Bag.ne {H : Hp} {b p : Addr} {n : Nat} (h : Bag H b n) (hp : H p = none) : p ≠ b := fun z => by
  obtain ⟨d, x, c, e, r⟩ := h
  rw [← z, hp] at e
  cases e
theorem Bag.neT {H : Hp} {b p : Addr} {n : Nat} {xs : List V} (h : Bag H b n) (hp : H p = some (.tup xs)) : p ≠ b := fun z => by
  obtain ⟨d, x, c, e, r⟩ := h
  rw [← z, hp] at e
  cases e
theorem Bag.neF {H : Hp} {b p : Addr} {n : Nat} {o : Obj} {u : HO} (h : Bag H b n) (hp : H p = some (.frz o u)) : p ≠ b := fun z => by
  obtain ⟨d, x, c, e, r⟩ := h
  rw [← z, hp] at e
  cases e
theorem SameX.seq {K : PySem.W.Frag} {H H' : Hp} {a b : Addr} {xs : List V} (e : SameX b H H') (n : a ≠ b) (h : SqL K H a xs) : SqL K H' a xs := by
  rcases h with (h | ⟨o, h⟩) | h
  · exact .inl (.inl (e _ _ n h))
  · exact .inl (.inr ⟨o, e _ _ n h⟩)
  · exact .inr h
/-- tuples that can be read stay -/
def KeepT (K : PySem.W.Frag) (H H' : Hp) : Prop := ∀ a xs, SqT K H a xs → SqT K H' a xs
theorem KeepT.refl (K : PySem.W.Frag) (H : Hp) : KeepT K H H := fun _ _ h => h
theorem KeepT.trans {K : PySem.W.Frag} {H H1 H2 : Hp} (x : KeepT K H H1) (y : KeepT K H1 H2) : KeepT K H H2 := fun a xs h => y a xs (x a xs h)
theorem keepT_same {K : PySem.W.Frag} {H H' : Hp} (s : Same H H') : KeepT K H H' := fun a xs h => by
  rcases h with (h | ⟨o, h⟩) | h
  · exact .inl (.inl (s _ _ h))
  · exact .inl (.inr ⟨o, s _ _ h⟩)
  · exact .inr h
theorem keepT_x {K : PySem.W.Frag} {H H' : Hp} {b : Addr} {n : Nat} (B : Bag H b n) (s : SameX b H H') : KeepT K H H' := fun a xs h => by
  rcases h with (h | ⟨o, h⟩) | h
  · exact .inl (.inl (s _ _ (B.neT h) h))
  · exact .inl (.inr ⟨o, s _ _ (B.neF h) h⟩)
  · exact .inr h
/-! data without lists -/
mutual
inductive Dt (K : PySem.W.Frag) (H : Hp) : V → PyData → Prop
  | non : Dt K H .non .none
  | bl (b : Bool) : Dt K H (.bl b) (.bool b)
  | int (i : Int) : Dt K H (.int i) (.int i)
  | str (x : Str) : Dt K H (.str x) (.str x)
  | tup {a : Addr} {xs : List V} {ds : List PyData} : SqT K H a xs → DtAll K H xs ds → Dt K H (.ref a) (.tuple ds)
inductive DtAll (K : PySem.W.Frag) (H : Hp) : List V → List PyData → Prop
  | nil : DtAll K H [] []
  | cons {v : V} {vs : List V} {d : PyData} {ds : List PyData} : Dt K H v d → DtAll K H vs ds → DtAll K H (v :: vs) (d :: ds)
end
mutual
theorem Dt.keep {K : PySem.W.Frag} {H H' : Hp} (s : KeepT K H H') : ∀ {v : V} {d : PyData}, Dt K H v d → Dt K H' v d
  | _, _, .non => .non
  | _, _, .bl b => .bl b
  | _, _, .int i => .int i
  | _, _, .str x => .str x
  | _, _, .tup h q => .tup (s _ _ h) (DtAll.keep s q)
theorem DtAll.keep {K : PySem.W.Frag} {H H' : Hp} (s : KeepT K H H') : ∀ {vs : List V} {ds : List PyData}, DtAll K H vs ds → DtAll K H' vs ds
  | _, _, .nil => .nil
  | _, _, .cons h q => .cons (Dt.keep s h) (DtAll.keep s q)
end
mutual
theorem Dt.dp {K : PySem.W.Frag} {H : Hp} : ∀ {v : V} {d : PyData}, Dt K H v d → Dp K H v d
  | _, _, .non => .non
  | _, _, .bl b => .bl b
  | _, _, .int i => .int i
  | _, _, .str x => .str x
  | _, _, .tup h q => .tup h (DtAll.dp q)
theorem DtAll.dp {K : PySem.W.Frag} {H : Hp} : ∀ {vs : List V} {ds : List PyData}, DtAll K H vs ds → DpAll K H vs ds
  | _, _, .nil => .nil
  | _, _, .cons h q => .cons (Dt.dp h) (DtAll.dp q)
end
theorem DtAll.length {K : PySem.W.Frag} {H : Hp} : ∀ {vs : List V} {ds : List PyData}, DtAll K H vs ds → vs.length = ds.length
  | _, _, .nil => rfl
  | _, _, .cons h q => by rw [List.length_cons, List.length_cons, DtAll.length q]
theorem DtAll.get {K : PySem.W.Frag} {H : Hp} : ∀ {vs : List V} {ds : List PyData}, DtAll K H vs ds → ∀ (i : Nat) {d : PyData}, ds[i]? = some d → ∃ v, vs[i]? = some v ∧ Dt K H v d
  | _, _, .nil, i, _, e => by simp at e
  | _, _, .cons h q, 0, _, e => ⟨_, rfl, (Option.some.inj e) ▸ h⟩
  | _, _, .cons h q, i + 1, _, e => DtAll.get q i e
theorem DtAll.app {K : PySem.W.Frag} {H : Hp} : ∀ {vs us : List V} {ds es : List PyData}, DtAll K H vs ds → DtAll K H us es → DtAll K H (vs ++ us) (ds ++ es)
  | _, _, _, _, .nil, q => q
  | _, _, _, _, .cons h r, q => .cons h (DtAll.app r q)
theorem dt_new {K : PySem.W.Frag} {H : Hp} {p : Addr} {xs : List V} {ds : List PyData} (hp : H p = none) (h : DtAll K H xs ds) : Dt K (upd H p (.tup xs)) (.ref p) (.tuple ds) :=
  .tup (SqT.of upd_same) (DtAll.keep (keepT_same (same_new hp)) h)
/-! texts as the laws make them -/
inductive Op
  | x
  | y
  | n (k : Int)
inductive Ex
  | o (a : Op)
  | t (s : Str) (a b : Op)
inductive Rw
  | set (v : Str) (e : Ex)
  | iff (e f : Ex) (r : Int)
  | go (r : Int)
  | say (e : Ex)
  | ask (v : Str)
  | read (c : Int) (v : Str)
  | write (c : Int) (e : Ex)
  | call (n : Str) (e : Ex) (v : Str)
  | fin (e : Ex)
def Op.d : Op → PyData
  | .x => .str "x"
  | .y => .str "y"
  | .n k => .int k
def Ex.d : Ex → PyData
  | .o a => a.d
  | .t s a b => .tuple [.str s, a.d, b.d]
def Rw.w : Rw → Str
  | .set _ _ => "set"
  | .iff _ _ _ => "if"
  | .go _ => "go"
  | .say _ => "say"
  | .ask _ => "ask"
  | .read _ _ => "read"
  | .write _ _ => "write"
  | .call _ _ _ => "call"
  | .fin _ => "end"
def Rw.rest : Rw → List PyData
  | .set v e => [.str v, e.d]
  | .iff e f r => [e.d, f.d, .int r]
  | .go r => [.int r]
  | .say e => [e.d]
  | .ask v => [.str v]
  | .read c v => [.int c, .str v]
  | .write c e => [.int c, e.d]
  | .call n e v => [.str n, e.d, .str v]
  | .fin e => [e.d]
def Rw.d (r : Rw) : PyData := .tuple (.str r.w :: r.rest)
def Op.ok (b : Int) : Op → Prop
  | .x => True
  | .y => True
  | .n k => 0 ≤ k ∧ k < b
def Ex.ok (b : Int) : Ex → Prop
  | .o a => a.ok b
  | .t s a c => (s = "+" ∨ s = "-" ∨ s = "*") ∧ a.ok b ∧ c.ok b
def vok (v : Str) : Prop := v = "x" ∨ v = "y"
def Rw.ok (b m : Int) (N : List Str) : Rw → Prop
  | .set v e => vok v ∧ e.ok b
  | .iff e f r => e.ok b ∧ f.ok b ∧ 0 ≤ r ∧ r ≤ m
  | .go r => 0 ≤ r ∧ r ≤ m
  | .say e => e.ok b
  | .ask v => vok v
  | .read c v => (c = 0 ∨ c = 1) ∧ vok v
  | .write c e => (c = 0 ∨ c = 1) ∧ e.ok b
  | .call n e v => n ∈ N ∧ e.ok b ∧ vok v
  | .fin e => e.ok b
def Tx.ok (b : Int) (N : List Str) (t : List Rw) : Prop := ∀ r ∈ t, r.ok b t.length N
def Tx.d (t : List Rw) : PyData := .tuple (t.map Rw.d)
/-! texts read off the heap; what is silent -/
def Rw.silent : Rw → Bool
  | .set _ _ => true
  | .iff _ _ _ => true
  | .go _ => true
  | _ => false
def silentAt (t : List Rw) (i : Nat) : Bool := match t[i]? with
  | some r => r.silent
  | none => false
theorem Rw.w_in (r : Rw) : inV (.str r.w) [.str "set", .str "if", .str "go"] = r.silent := by
  cases r
  · exact (by decide +kernel : inV (V.str "set") [.str "set", .str "if", .str "go"] = true)
  · exact (by decide +kernel : inV (V.str "if") [.str "set", .str "if", .str "go"] = true)
  · exact (by decide +kernel : inV (V.str "go") [.str "set", .str "if", .str "go"] = true)
  · exact (by decide +kernel : inV (V.str "say") [.str "set", .str "if", .str "go"] = false)
  · exact (by decide +kernel : inV (V.str "ask") [.str "set", .str "if", .str "go"] = false)
  · exact (by decide +kernel : inV (V.str "read") [.str "set", .str "if", .str "go"] = false)
  · exact (by decide +kernel : inV (V.str "write") [.str "set", .str "if", .str "go"] = false)
  · exact (by decide +kernel : inV (V.str "call") [.str "set", .str "if", .str "go"] = false)
  · exact (by decide +kernel : inV (V.str "end") [.str "set", .str "if", .str "go"] = false)
theorem dt_tuple {K : PySem.W.Frag} {H : Hp} {v : V} {ds : List PyData} (h : Dt K H v (.tuple ds)) : ∃ a xs, v = .ref a ∧ SqT K H a xs ∧ DtAll K H xs ds := by
  cases h with
  | tup h q => exact ⟨_, _, rfl, h, q⟩
theorem dt_row {K : PySem.W.Frag} {H : Hp} {v : V} {r : Rw} (h : Dt K H v r.d) : ∃ a xs, v = .ref a ∧ SqT K H a (.str r.w :: xs) ∧ DtAll K H xs r.rest := by
  obtain ⟨a, xs, rfl, hs, hd⟩ := dt_tuple h
  cases hd with
  | cons h1 h2 =>
    cases h1
    exact ⟨a, _, rfl, hs, h2⟩
/-- a text's row at a place -/
theorem dt_text {K : PySem.W.Frag} {H : Hp} {v : V} {t : List Rw} (h : Dt K H v (Tx.d t)) : ∃ a xs, v = .ref a ∧ SqT K H a xs ∧ xs.length = t.length ∧ ∀ (i : Nat) (r : Rw), t[i]? = some r → ∃ p ys, xs[i]? = some (.ref p) ∧ SqT K H p (.str r.w :: ys) ∧ DtAll K H ys r.rest := by
  obtain ⟨a, xs, rfl, hs, hd⟩ := dt_tuple h
  refine ⟨a, xs, rfl, hs, by rw [hd.length, List.length_map], fun i r e => ?_⟩
  obtain ⟨v, e1, e2⟩ := hd.get i (d := r.d) (by rw [List.getElem?_map, e]; rfl)
  obtain ⟨p, ys, rfl, h1, h2⟩ := dt_row e2
  exact ⟨p, ys, e1, h1, h2⟩
end Kx

namespace Kx
open PySem PySem.Spec PyProof.Rows L2
/-! repr of data of any depth, where no repr is under way -/
def rRepr (K : PySem.W.Frag) : List V → Hp → VK → Prop := fun xs H Q => ∃ (a : Addr) (d : PyData), xs = [.ref a] ∧ Dp K H (.ref a) d ∧ d.showable = true ∧ d.hasDict = false ∧ d.depth ≤ 60 ∧ d.shown.length ≤ sizeLine ∧ Q (.str d.shown) H
theorem cr_repr {X : Cx} (hg : X.A.guards = some []) (hu : X.A.units + 64 < cLine) : CallR X (.builtin "repr") (rRepr X.K) := by
  intro pins s σ H xs us Q I r h
  obtain ⟨a, d, rfl, hd, sh, nd, dep, sz, q⟩ := h
  obtain ⟨u, rfl, ru⟩ := vals1 r
  cases ru
  obtain ⟨as, rd⟩ := Dp.reads I d _ _ hd rfl
  exact repr_of_reads' (h₀ := s.heap) rd sh (PyData.noDict_hsm nd) hg (by omega) (fun _ _ e => e) (fun h' u tk hk => ⟨.str d.shown, H, I.kept hk, ⟨u, rfl⟩, q⟩) sz
end Kx

namespace Kx
open PySem PySem.Spec PyProof.Rows L2
section
variable {P : Program} {w : World} {K : PySem.W.Frag} {mg : Str → Option Value}
/-- a def's body, walked where one stands as the caller of a law stands: no repr is under way there -/
theorem run_at {bs : Heap} {k : Nat} {f : Addr} {nam qual : Str} {params : Arguments} {body : List Stmt} {scope : Scope} {dV kV doc pm cdv ct oc : Value} {an od : Option Addr} {osl : Array (Option Value)} {N ps : List Str} {A : Around} {outer : List Env} {s : Shared} {H : Hp} {args : Args} {us : List Value} {vs : List V} {Q : VK} {E : XK}
    (lk : K.lookup f = some ⟨oc, od, .func (PySem.W.fnOf nam qual params body scope dV kV doc pm an cdv ct), osl⟩)
    (hcd : PySem.W.codeIn K cdv qual = true) (S : FnScope N ps scope) (hl : vs.length = ps.length) (room : Room (k + 1) A) (env0 : Env0 P w K mg bs A outer s H)
    (bind : BindsTo s (PySem.W.fnOf nam qual params body scope dV kV doc pm an cdv ct) args (ps.zip us)) (rv : Vals vs us)
    (walk : Room k (A.deeper (envOfC qual scope s.heap.objs.size f cdv)) → ∃ t, PSs (cxOf CX0 P w K mg bs N qual scope f cdv A outer s H E) body t ∧ t { nx := fun _ H' => Q .non H', rt := Q } (start N vs) H) :
    codeAny (model P w) A (.call (.ref f) args) (CR CX0 outer P w H s Q E) s := by
  have keep := fun b o (e : bs.get? b = some o) => (env0.bs b o e).1
  have inK : K.In s.heap := env0.mod.kin.keeps keep
  have noL : s.heap.NoLimit := env0.mod.nolimit.keeps keep
  refine codeAny_call_function room.depth (inK _ _ lk) rfl S.co S.gen rfl (PySem.W.codeRec_of inK hcd) (bind _ _ _ _ ?_)
  refine wpAny_newFunctionEnv_cells S.kind (fun p hp => ?_) fun env same s1 made => ?_
  · rcases S.par p.1 (List.of_mem_zip (a := p.1) (b := p.2) hp).1 with z | z
    · exact .inl z
    · exact .inr ⟨z, PySem.W.cellsFrom_some _ _ _ (.inl z)⟩
  subst same
  refine ⟨noL.keeps made.toInCall.keep, codeAny_func ?_⟩
  obtain ⟨t, dv, rd⟩ := walk (room.deeper _)
  have J := inv_start (CX := CX0) (E := E) S room.hd env0 hl rv made
  refine wpAny_mono (dv.run [] s1 (start N vs) H _ J rd) (fun fl s2 out => ?_) fun _ _ z => z
  cases fl with
  | ret u =>
    obtain ⟨v, σ2, H2, J2, r2, q2⟩ := out
    exact ⟨v, H2, J2.os, J2.bare, J2.base, J2.hok, r2, q2⟩
  | next =>
    obtain ⟨σ2, H2, J2, q2⟩ := out
    exact ⟨.non, H2, J2.os, J2.bare, J2.base, J2.hok, rfl, q2⟩
  | brk =>
    obtain ⟨_, _, _, z⟩ := out
    exact z.elim
  | cont =>
    obtain ⟨_, _, _, z⟩ := out
    exact z.elim
/-- the law's call at the head, from its run alone -/
theorem law_at {mb : Str → Option Value} {fa a : Addr} {t : Shared} {vs : List Value} {ns : List Int}
    (inK : K.In t.heap) (gl : t.heap.Ns mainGlobals mg) (bl : t.heap.Ns builtinsNs mb) (bb : ∀ x : Str, x ≠ "__name__" → mb x = bootBuiltins x) (noL : t.heap.NoLimit) (gn : t.gens = #[])
    (ha : t.heap.get? a = some { cls := .type "list", data := .seq vs.toArray }) (areI : IntsAre vs ns) (few : ns.length ≤ sizeLine)
    (run : ∀ (bs : Heap) (H : Hp), K.In bs → bs.Ns mainGlobals mg → Env0 P w K mg bs callerA [] t H → SqL K H a (ns.map V.int) →
      codeAny (model P w) callerA (.call (.ref fa) ⟨[.ref a], []⟩) (CR CX0 [] P w H t (fun v _ => v = .bl true) fun _ _ _ => False) t) :
    codeAny (model P w) callerA (.call (.ref fa) ⟨[.ref a], []⟩) (fun r s' => r = .ok (.ret (.bool true)) ∧ OldK t.heap s'.heap ∧ s'.os = t.os ∧ AllBare s'.gens) t := by
  have rv := vals_ints areI
  have go : ∀ H : Hp, Only H → SqL K H a (ns.map V.int) → HOk P w H t.heap → (∀ b, H b ≠ none → b = a) → (H a ≠ none → K.lookup a = none) →
      codeAny (model P w) callerA (.call (.ref fa) ⟨[.ref a], []⟩) (fun r s' => r = .ok (.ret (.bool true)) ∧ OldK t.heap s'.heap ∧ s'.os = t.os ∧ AllBare s'.gens) t := by
    intro H only sq hok onlyA notK
    have dictFree : ∀ {b : Addr} {o : Obj} {es : Array DictEntry} {ep : Nat}, t.heap.get? b = some o → o.data = .dict es ep → H b = none := by
      intro b o es ep e d
      refine Classical.byContradiction fun z => ?_
      obtain rfl := onlyA b z
      rw [ha] at e
      cases e
      exact Data.noConfusion d
    have ns' : ∀ {b : Addr} {m : Str → Option Value}, t.heap.Ns b m → (hidT t.heap H).Ns b m := by
      rintro b m ⟨o, es, ep, e, d, r⟩
      exact ⟨o, es, ep, hidT_get e (dictFree e d), d, r⟩
    have inB : K.In (hidT t.heap H) := by
      intro b o e
      refine hidT_get (inK b o e) (Classical.byContradiction fun z => ?_)
      obtain rfl := onlyA b z
      rw [notK z] at e
      cases e
    have md : Mod K mg (hidT t.heap H) := ⟨inB, ns' gl, ⟨mb, ns' bl, bb⟩, by obtain ⟨mc, z1, z2⟩ := noL; exact ⟨mc, ns' z1, z2⟩⟩
    have env0 : Env0 P w K mg (hidT t.heap H) callerA [] t H :=
      ⟨rfl, md, fun b o e => of_hidT e, Nat.le_of_eq (hidT_size _ _), trivial, fun b hb => absurd (show b ∈ ([] : List Addr) from hb) (by simp), hok, .of_eq gn⟩
    refine codeAny_mono (run _ H inB (ns' gl) env0 sq) fun r s2 out => ?_
    match r, out with
    | .error e, out => exact False.elim out
    | .ok .next, out => exact False.elim out
    | .ok .brk, out => exact False.elim out
    | .ok .cont, out => exact False.elim out
    | .ok (.ret u), ⟨v, H2, os, bare, un, hok2, r2, q2⟩ =>
      have q3 : v = .bl true := q2
      subst q3
      have r3 : u = Value.bool true := r2
      subst r3
      refine ⟨rfl, OldK.of_keep fun b o e => ?_, os, bare⟩
      rcases only b with z | ⟨ob, xs, z⟩
      · exact un.keep b o e z (by intro y; exact absurd (show b ∈ ([] : List Addr) from y) (by simp)) (by simp)
      · have one := (hok b _ z).1
        have two := (hok2 b _ (un.frzs b ob _ z)).1
        rw [e] at one
        cases one
        exact two
  cases look : K.lookup a with
  | some o =>
    have e := inK a o look
    rw [ha] at e
    cases e
    exact go (fun _ => none) (fun b => .inl rfl) (.inr ⟨_, vs.toArray, _, look, rfl, rfl, rfl, by rw [List.size_toArray, areI.length]; exact few, by simpa using rv⟩) (fun b u z => by have y : (none : Option HO) = some u := z; cases y) (fun b z => absurd rfl z) (fun z => absurd rfl z)
  | none =>
    have at_a : ∀ b, (fun c => if c = a then some (HO.frz { cls := .type "list", data := .seq vs.toArray } (.lst (ns.map V.int))) else none : Hp) b = if b = a then some (HO.frz { cls := .type "list", data := .seq vs.toArray } (.lst (ns.map V.int))) else none := fun _ => rfl
    refine go (fun c => if c = a then some (HO.frz { cls := .type "list", data := .seq vs.toArray } (.lst (ns.map V.int))) else none) (fun b => ?_) (.inl (.inr ⟨{ cls := .type "list", data := .seq vs.toArray }, (at_a a).trans (if_pos rfl)⟩)) (fun b u z => ?_) (fun b z => ?_) (fun _ => look)
    · by_cases hb : b = a
      · exact .inr ⟨_, _, if_pos hb⟩
      · exact .inl (if_neg hb)
    · rw [at_a] at z
      by_cases hb : b = a
      · rw [if_pos hb] at z
        cases z
        subst hb
        exact ⟨ha, by rw [List.length_map]; exact few, vs, _, rv, ha⟩
      · rw [if_neg hb] at z
        cases z
    · by_cases hb : b = a
      · exact hb
      · exact absurd (if_neg hb) z
end
/-- the end of a law row: what k_head leaves, from the law's walk at its caller -/
theorem walk_at_caller {l : PySem.W.OpenLaw} {n : Nat} {q : Program} {loose : List Str} {XP : (Str → Option Value) → Heap → Prop} {YP : World → Heap → Prop} {d : DefRec} {K : Params → PySem.W.Frag}
    (hn : l.most = some n) (hn2 : n ≤ sizeLine) (hdf : d.params.defaults = [])
    (hY : ∀ (w : World) (h : Heap), YP w h → (K w.params).In h)
    (F : ∀ (w : World) (mg : Str → Option Value) (fa : Addr) (h : Heap), (K w.params).In h → h.Ns mainGlobals mg → mg d.name = some (.ref fa) →
      ∀ (bs : Heap) (H : Hp) (t : Shared) (a : Addr) (ns : List Int), ns.length ≤ n → (K w.params).In bs → bs.Ns mainGlobals mg → Env0 l.prog w (K w.params) mg bs callerA [] t H → SqL (K w.params) H a (ns.map V.int) →
        codeAny (model l.prog w) callerA (.call (.ref fa) ⟨[.ref a], []⟩) (CR CX0 [] l.prog w H t (fun v _ => v = .bl true) fun _ _ _ => False) t) :
    PySem.W.WalkO q loose XP YP l.row.toRowW d [] (fun f vs => PySem.call f vs) := by
  refine Att.attach_call hn hdf fun w s₀ t mg mb fa o pm cd doc a vs ns G Y ho hd hcd hmg hobj hints hlen hg => ?_
  exact law_at (hY w _ Y) G.T.g G.T.b G.T.builtins G.T.nolimit hg hobj hints (Nat.le_trans hlen hn2) fun bs H inB gl env0 sq => F w mg fa _ (hY w _ Y) G.T.g hmg bs H t a ns hlen inB gl env0 sq
end Kx

set_option autoImplicit false
namespace J
open PySem PySem.Spec PyProof.Rows L2
variable {K : PySem.W.Frag} {P : Program} {w : World} {X : Cx}
/-! what the top holds -/
def OkC (K : PySem.W.Frag) (mg : Str → Option Value) (x : Str) (d : D) : Prop := ∃ (v : V) (u : Value), mg x = some u ∧ RelV v u ∧ ∀ H μ, Rv K H μ v d
theorem je_globC {x : Str} {d : D} {pos : Pos} (c : OkC X.K X.mg x d) (hg : Gl X x) (hd : (x == ("__debug__" : Str)) = false := by decide) : JE X (.Name x pos) (fC d) := by
  obtain ⟨v, u, h1, h2, h3⟩ := c
  exact je_glob hg h1 h2 h3 hd
def DnF (K : PySem.W.Frag) (mg : Str → Option Value) (x : Str) (st : Stmt) (ps : List Str) : Prop := ∃ (f : Addr) (fd : FuncData), Fun K x x st f fd ∧ Binds K fd ps [] ∧ mg x = some (.ref f)
def DnK (K : PySem.W.Frag) (mg : Str → Option Value) (x : Str) (st : Stmt) (ps : List Str) (i : Nat) : Prop := ∃ (f : Addr) (fd : FuncData), Fun K x x st f fd ∧ KBn K fd ps i [("base" : Str)] (fun us ws => us ++ ws) (fun vs zs => vs ++ zs) ∧ (∃ ds, Vals [.int 3] ds ∧ Binds K fd ps ds) ∧ mg x = some (.ref f)
/-- the law's end -/
theorem ints_rv {H : Hp} {μ : Mp} : ∀ ns : List Int, RvAll K H μ (ns.map V.int) (ns.map D.int)
  | [] => .nil
  | n :: ns => .cons (.int n) (ints_rv ns)
theorem law_end {N : List Str} {body : List Stmt} {b : FS} {a : Addr} {ns : List Int} {H : Hp} {md : Md} (h : JSs X.nox body b) (sq : SqL X.K H a (ns.map V.int)) (hF : ∃ S', runD md N.length b [.scr (ns.map .int)] [] = some (.bl true, S')) :
    ∃ t, PSs X body t ∧ t { nx := fun _ H' => (fun (v : V) (_ : Hp) => v = .bl true) .non H', rt := fun v _ => v = .bl true } (L2.start N [.ref a]) H := by
  obtain ⟨t, p, q⟩ := h
  refine ⟨t, p.nox, ?_⟩
  obtain ⟨S', hf⟩ := hF
  have hr : HR X.prog X.w X.K H ⟨[], []⟩ [] := ⟨rfl, List.nodup_nil, fun k a o hk => by simp at hk, fun a ha => (by cases ha), fun a ha => (by cases ha), fun a ha => (by cases ha)⟩
  have rs : RvAll X.K H ⟨[], []⟩ [.ref a] [.scr (ns.map .int)] := .cons (.scr (sq.imp (fun z => ⟨z, by simp, by simp⟩) id) (ints_rv ns)) .nil
  unfold runD at hf
  split at hf
  · rename_i d1 env1 S1 e1
    refine q (L2.start N [.ref a]) H ⟨[], []⟩ _ [] _ env1 S1 _ hr (start_er rs) e1 fun σ' H' μ' l hR' er' v rv => ?_
    obtain ⟨μ2, l2, h2, r2⟩ := gc_ok hr l hR' rv hf
    cases r2
    rfl
  · rename_i env1 S1 e1
    refine q (L2.start N [.ref a]) H ⟨[], []⟩ _ [] _ env1 S1 _ hr (start_er rs) e1 fun σ' H' μ' l hR' er' => ?_
    obtain ⟨μ2, l2, h2, r2⟩ := gc_ok hr l hR' .non hf
    cases r2
  · cases hf
/-! repr of data -/
def gRepr : Fn := fun ds S => match ds with
  | [d] => match d.pyS S with
    | some p => match p with
      | .tuple _ => if (p.showable && !p.hasDict && decide (p.depth ≤ 60) && decide (p.shown.length ≤ sizeLine)) = true then some (.str p.shown, S) else none
      | .list _ => if (p.showable && !p.hasDict && decide (p.depth ≤ 60) && decide (p.shown.length ≤ sizeLine)) = true then some (.str p.shown, S) else none
      | _ => none
    | none => none
  | _ => none
end J

set_option autoImplicit false
namespace J
open PySem PySem.Spec PyProof.Rows L2
variable {K : PySem.W.Frag} {P : Program} {w : World} {X : Cx}
/-! x.reverse() -/
def gRvM : GM := fun a ds S => match a, ds with
  | .obj k, [] => match S[k]? with
    | some (.lst es) => some (.non, S.set k (.lst es.reverse))
    | _ => none
  | _, _ => none
theorem rm_rev : RM P w K rReverse gRvM := by
  intro H μ S x xs a d ds S' Q hr rx rs e k
  unfold gRvM at e
  split at e
  · split at e
    · rename_i es h
      cases e
      obtain ⟨p, rfl, h1, ys, h2, h3⟩ := hr.at rx h
      cases rs
      refine ⟨p, ys, rfl, rfl, h2, ?_⟩
      obtain ⟨l, hr2⟩ := hr.put (u := .lst ys.reverse) (o := .lst es.reverse) h1 (fun _ _ z => by rw [h2] at z; cases z) fun H' dt e => ⟨_, e, h3.reverse.dat dt⟩
      exact k _ _ μ l hr2 .non
    · cases e
  · cases e
/-! repr -/
theorem cr_reprJ (hg : X.A.guards = some []) (hu : X.A.units + 64 < cLine) : CallR X (.builtin "repr") (Kx.rRepr X.K) := Kx.cr_repr hg hu
theorem dp_ref {H : Hp} {v : V} {p : PyData} (h : Dp K H v p) (c : (∃ ps, p = .tuple ps) ∨ ∃ ps, p = .list ps) : ∃ a, v = .ref a := by
  rcases c with ⟨ps, rfl⟩ | ⟨ps, rfl⟩
  · cases h; exact ⟨_, rfl⟩
  · cases h; exact ⟨_, rfl⟩
theorem rc_repr : RC P w K (Kx.rRepr K) gRepr := by
  intro H μ S xs ds d S' Q hr rs e k
  unfold gRepr at e
  split at e
  · rename_i d1
    obtain ⟨x, rfl, rx⟩ := rs.one
    split at e
    · rename_i p hp
      have dp := rx.dpS hr hp
      split at e
      · rename_i ps
        split at e
        · rename_i c
          cases e
          obtain ⟨a, rfl⟩ := dp_ref dp (.inl ⟨_, rfl⟩)
          simp only [Bool.and_eq_true, decide_eq_true_eq, Bool.not_eq_true'] at c
          exact ⟨a, _, rfl, dp, c.1.1.1, c.1.1.2, c.1.2, c.2, k _ H μ (.refl _ _) hr (.str _)⟩
        · cases e
      · rename_i ps
        split at e
        · rename_i c
          cases e
          obtain ⟨a, rfl⟩ := dp_ref dp (.inr ⟨_, rfl⟩)
          simp only [Bool.and_eq_true, decide_eq_true_eq, Bool.not_eq_true'] at c
          exact ⟨a, _, rfl, dp, c.1.1.1, c.1.1.2, c.1.2, c.2, k _ H μ (.refl _ _) hr (.str _)⟩
        · cases e
      · cases e
    · cases e
  · cases e
/-! walking a list that may change, where it doesn't -/
def ItP (P : Program) (w : World) (K : PySem.W.Frag) (T : It) (ds : List D) (k0 : Nat) (μ0 : Mp) (H0 : Hp) : Prop := ∀ (μ : Mp) (H : Hp), Later μ0 H0 μ H → ∀ S, HR P w K H μ S → S[k0]? = some (.lst ds) →
  ((∀ i, i < ds.length → T.go i H) ∧ T.stop ds.length H) ∧ ∀ (i : Nat) (x : V) (H' : Hp) (d : D), ds[i]? = some d → T.yld i H x H' → Later μ H μ H' ∧ HR P w K H' μ S ∧ Rv K H' μ x d
theorem itp_lst {H0 : Hp} {μ0 : Mp} {a : Addr} {ds : List D} {k0 : Nat} (ha : μ0.m[k0]? = some a) : ItP P w K (Itl K a) ds k0 μ0 H0 := by
  intro μ H l S hr hk
  obtain ⟨e, he⟩ := l.ext
  have ha' : μ.m[k0]? = some a := by rw [he, List.getElem?_append_left (List.getElem?_eq_some_iff.mp ha).1]; exact ha
  obtain ⟨xs, hx, hd⟩ := hr.ok k0 a _ ha' hk
  have hs : SqL K H a xs := .inl (.inl hx)
  have W := walk_list (K := K) (a := a) (xs := xs)
  have hl := hd.length
  refine ⟨⟨fun i hi => W.goes i H (by omega) hs, by rw [← hl]; exact W.stops H hs⟩, fun i x H' d h1 y => ?_⟩
  have hi : i < xs.length := by rw [hl]; exact (List.getElem?_eq_some_iff.mp h1).1
  obtain ⟨rfl, hy⟩ := W.yields i H x H' hi hs y
  exact ⟨.refl _ _, hr, hd.at hy h1⟩
def QIO (X : Cx) (wi : TI) (fo : FE) : Prop := ∀ (σ : L2.St) (H : Hp) (μ : Mp) (env : Env) (S : Sto) (k0 : Nat) (ds : List D) (S' : Sto) (R : It → Hp → Prop), HR X.prog X.w X.K H μ S → ER X.K H μ σ env → fo env S = some (.obj k0, S') → S'[k0]? = some (.lst ds) →
  (∀ T H' μ', Later μ H μ' H' → HR X.prog X.w X.K H' μ' S' → ItP X.prog X.w X.K T ds k0 μ' H' → R T H') → wi σ H R
def JIO (X : Cx) (tg iter : Expr) (fo : FE) : Prop := ∃ wi, PI X tg iter wi ∧ QIO X wi fo
theorem jio_seq {tg e : Expr} {f : FE} (h : JE X e f) : JIO X tg e f := by
  obtain ⟨t, p, q⟩ := h
  refine ⟨_, pi_list p, fun σ H μ env S k0 ds S' R hr er hf hk k => ?_⟩
  refine q σ H μ env S _ S' _ hr er hf fun v H1 μ1 l hr1 r => ?_
  obtain ⟨a, rfl, ha, xs, hx, hd⟩ := hr1.at r hk
  exact ⟨_, rfl, ⟨_, .inl (.inl hx)⟩, k _ H1 μ1 l hr1 (itp_lst ha)⟩
open Classical in
noncomputable def fLcLO (k0 : Nat) (es : List D) (g : FG) (ft : FT) (fe : FE) (env : Env) : List D → Sto → Option (List D × Sto)
  | [], S => if S[k0]? = some (.lst es) then some ([], S) else none
  | d :: ds, S => if S[k0]? = some (.lst es) then (match g d env S with
    | none => none
    | some (env1, S1) => match ft env1 S1 with
      | none => none
      | some (false, S2) => fLcLO k0 es g ft fe env ds S2
      | some (true, S2) => match fe env1 S2 with
        | none => none
        | some (y, S3) => match fLcLO k0 es g ft fe env ds S3 with
          | none => none
          | some (ys, S4) => some (y :: ys, S4)) else none
theorem fLcLO_ok {k0 : Nat} {es : List D} {g : FG} {ft : FT} {fe : FE} {env : Env} {ds : List D} {S : Sto} {r : List D × Sto} (h : fLcLO k0 es g ft fe env ds S = some r) : S[k0]? = some (.lst es) := by
  cases ds with
  | nil =>
    rw [fLcLO] at h
    split at h
    · rename_i c; exact c
    · cases h
  | cons d ds =>
    rw [fLcLO] at h
    split at h
    · rename_i c; exact c
    · cases h
noncomputable def fLcO (own : List Nat) (fo : FE) (g : FG) (ft : FT) (fe : FE) : FE := fun env S => match fo env S with
  | some (.obj k0, S1) => (match S1[k0]? with
    | some (.lst ds) => if ds.length ≤ 100000 then (match fLcLO k0 ds g ft fe (wipeD env own) ds S1 with
      | some (ys, S2) => some (.lst ys, S2)
      | none => none) else none
    | _ => none)
  | _ => none
theorem fLcO_some {own : List Nat} {fo : FE} {g : FG} {ft : FT} {fe : FE} {env : Env} {S S' : Sto} {d : D} (h : fLcO own fo g ft fe env S = some (d, S')) : ∃ k0 S1 ds ys, fo env S = some (.obj k0, S1) ∧ S1[k0]? = some (.lst ds) ∧ ds.length ≤ 100000 ∧ fLcLO k0 ds g ft fe (wipeD env own) ds S1 = some (ys, S') ∧ d = .lst ys := by
  unfold fLcO at h
  split at h
  · rename_i k0 S1 e1
    split at h
    · rename_i ds e2
      split at h
      · rename_i c
        split at h
        · rename_i ys S2 e3
          cases h
          exact ⟨k0, S1, ds, ys, e1, e2, c, e3, rfl⟩
        · cases h
      · cases h
    · cases h
  · cases h
theorem q_lcO {elt tg : Expr} {ifs : List Expr} {scope : Scope} {own : List Nat} {fo : FE} {g : FG} {ws : List Nat} {ft : FT} {fe : FE} {wi : TI} (qi : QIO X wi fo)
    (hg : ∀ (s : Shared) (H : Hp) (C : Addr) (cl : List (Str × Addr)) (fp : List Addr), JG (X.blk s H scope (compEnvC scope cl C X.env) fp) tg g ws) (ht : ∀ (s : Shared) (H : Hp) (C : Addr) (cl : List (Str × Addr)) (fp : List Addr), JTs (X.blk s H scope (compEnvC scope cl C X.env) fp) ifs ft)
    (he : ∀ (s : Shared) (H : Hp) (C : Addr) (cl : List (Str × Addr)) (fp : List Addr), JE (X.blk s H scope (compEnvC scope cl C X.env) fp) elt fe) (hw : ∀ j, j ∈ ws → j ∈ own)
    (σ : L2.St) (H : Hp) (μ : Mp) (env : Env) (S : Sto) (d : D) (S' : Sto) (Q : VK) (hr : HR X.prog X.w X.K H μ S) (er : ER X.K H μ σ env) (hf : fLcO own fo g ft fe env S = some (d, S')) (k : ∀ v H' μ', Later μ H μ' H' → HR X.prog X.w X.K H' μ' S' → Rv X.K H' μ' v d → Q v H') :
    tLc wi (tgB X scope tg) (ttB X scope ifs) (teB X scope elt) own σ H Q := by
  obtain ⟨k0, S1, ds, ys, e1, e0, hlen, e2, rfl⟩ := fLcO_some hf
  refine qi σ H μ env S k0 ds S1 _ hr er e1 e0 fun T H1 μ1 l1 hr1 it p np => ?_
  have pm := hr1.free np
  have er1 := er.later l1
  refine ⟨fun i n H2 => n = ds.length - i ∧ i ≤ ds.length ∧ ∃ μ2 S2 xs acc rest, Later μ1 H1 μ2 H2 ∧ p ∈ μ2.x ∧ HR X.prog X.w X.K H2 μ2 S2 ∧ H2 p = some (.lst xs) ∧ RvAll X.K H2 μ2 xs acc ∧ acc.length ≤ i ∧ fLcLO k0 ds g ft fe (wipeD env own) (ds.drop i) S2 = some (rest, S') ∧ acc ++ rest = ys, ⟨ds.length, by simp, Nat.zero_le _, ?_⟩, ?_⟩
  · obtain ⟨l2, hr2⟩ := hr1.new (o := .lst []) np
    refine ⟨⟨μ1.m, p :: μ1.x⟩, S1, [], [], ys, ⟨⟨[], by simp⟩, fun a h => List.mem_cons_of_mem _ h, fun a o h n => ⟨n, fun nx z => ?_, (l2.keep a o h n).2.2⟩, l2.frz⟩, by simp, ⟨hr2.len, hr2.nd, fun j a o hj ho => ?_, hr2.there, fun a ha => ?_, fun a ha z => ?_⟩, upd_same, .nil, Nat.zero_le _, e2, rfl⟩
    · rcases List.mem_cons.mp z with z | z
      · exact ne_of_none h np z
      · exact nx z
    · have d0 : Dat μ1 H1 ⟨μ1.m, p :: μ1.x⟩ (upd H1 p (.lst [])) := ⟨⟨[], by simp⟩, fun b u h n nx => ⟨n, fun z => (List.mem_cons.mp z).elim (fun z => ne_of_none h np z) nx, by rw [upd_ne (ne_of_none h np)]; exact h⟩⟩
      exact (hr1.ok j a o hj ho).dat d0 (upd_ne (show a ≠ p from fun z => pm.1 (by rw [← z]; exact List.mem_of_getElem? hj)))
    · rcases List.mem_cons.mp ha with z | z
      · rw [z, upd_same]; simp
      · exact hr2.thereX a z
    · rcases List.mem_cons.mp z with z | z
      · exact pm.1 (z ▸ ha)
      · exact hr2.dj a ha z
  · rintro i n H2 ⟨rfl, hi, μ2, S2, xs, acc, rest, l2, hp2, hr2, hD2, rv2, ha2, e3, e4⟩
    have c2 := fLcLO_ok e3
    obtain ⟨⟨go, stop⟩, it2⟩ := it μ2 H2 l2 S2 hr2 c2
    by_cases hlt : i < ds.length
    · refine .inr ⟨go i hlt, fun H3 => ∃ μ3 S3 xs acc rest, Later μ1 H1 μ3 H3 ∧ p ∈ μ3.x ∧ HR X.prog X.w X.K H3 μ3 S3 ∧ H3 p = some (.lst xs) ∧ RvAll X.K H3 μ3 xs acc ∧ acc.length ≤ i + 1 ∧ fLcLO k0 ds g ft fe (wipeD env own) (ds.drop (i + 1)) S3 = some (rest, S') ∧ acc ++ rest = ys,
        fun H3 z => ⟨ds.length - (i + 1), by omega, rfl, hlt, z⟩, fun x H3 y s0 H0 C0 cl0 fp0 => ?_⟩
      obtain ⟨l3, hr3, r3⟩ := it2 i x H3 ds[i] (by simp [hlt]) y
      rw [List.drop_eq_getElem_cons hlt, fLcLO, if_pos c2] at e3
      split at e3
      · cases e3
      · rename_i env4 S4 e5
        obtain ⟨tg', pg, qg⟩ := hg s0 H0 C0 cl0 fp0
        refine ⟨tg', pg, ?_⟩
        have er3 : ER X.K H3 μ2 (wipe σ own) (wipeD env own) := (er1.wipe _).later (l2.trans l3)
        refine qg _ H3 μ2 _ S2 x ds[i] env4 S4 _ hr3 er3 r3 e5 fun σ4 H4 μ4 l4 hr4 er4 w4 => ?_
        refine ⟨wipe_eq ?_ fun j hj => w4.2 j fun z => hj (hw j z), fun s0 H0 C0 cl0 fp0 => ?_⟩
        · rw [w4.1, wipe_length]
        obtain ⟨tt', pt, qt⟩ := ht s0 H0 C0 cl0 fp0
        refine ⟨tt', pt, ?_⟩
        split at e3
        · cases e3
        · rename_i S5 e6
          refine qt σ4 H4 μ4 env4 S4 false S5 _ hr4 er4 e6 fun H5 μ5 l5 hr5 => ?_
          rw [if_neg Bool.false_ne_true]
          have L : Later μ2 H2 μ5 H5 := l3.trans (l4.trans l5)
          exact ⟨μ5, S5, xs, acc, rest, l2.trans L, L.ex p hp2, hr5, (L.keep p _ hD2 (fun z => hr2.dj p z hp2)).2.2, rv2.later L, by omega, e3, e4⟩
        · rename_i S5 e6
          refine qt σ4 H4 μ4 env4 S4 true S5 _ hr4 er4 e6 fun H5 μ5 l5 hr5 => ?_
          rw [if_pos rfl]
          intro s0 H0 C0 cl0 fp0
          obtain ⟨te', pe, qe⟩ := he s0 H0 C0 cl0 fp0
          refine ⟨te', pe, ?_⟩
          split at e3
          · cases e3
          · rename_i y6 S6 e7
            split at e3
            · cases e3
            · rename_i ys6 S7 e8
              cases e3
              refine qe σ4 H5 μ5 env4 S5 y6 S6 _ hr5 (er4.later l5) e7 fun v6 H6 μ6 l6 hr6 r6 => ?_
              have L : Later μ2 H2 μ6 H6 := l3.trans (l4.trans (l5.trans l6))
              have hD6 := (L.keep p _ hD2 (fun z => hr2.dj p z hp2)).2.2
              have hp6 := L.ex p hp2
              have hl6 := rv2.length
              refine ⟨xs, hD6, len100 (by omega), ?_⟩
              obtain ⟨hr7, dat7⟩ := hr6.acc (o := .lst (xs ++ [v6])) hp6
              have l7 : Later μ1 H1 μ6 (upd H6 p (.lst (xs ++ [v6]))) := by
                have l7 := l2.trans L
                exact ⟨l7.ext, l7.ex, fun a o h n => let z := l7.keep a o h n; ⟨z.1, z.2.1, by rw [upd_ne (ne_of_none h np)]; exact z.2.2⟩, fun a o u h => by rw [upd_ne (ne_of_none h np)]; exact l7.frz a o u h⟩
              exact ⟨μ6, S6, xs ++ [v6], acc ++ [y6], ys6, l7, hp6, hr7, upd_same, ((rv2.later L).append (.cons r6 .nil)).dat dat7, by rw [List.length_append]; simp; omega, e8, by rw [List.append_assoc]; exact e4⟩
    · have e : i = ds.length := by omega
      subst e
      rw [List.drop_length, fLcLO, if_pos c2] at e3
      cases e3
      rw [List.append_nil] at e4
      subst e4
      refine .inl ⟨stop, ?_⟩
      have l8 : Later μ1 H1 ⟨μ2.m, μ1.x⟩ H2 := ⟨l2.ext, fun _ h => h, fun a o h n => ⟨(l2.keep a o h n).1, id, (l2.keep a o h n).2.2⟩, l2.frz⟩
      exact k (.ref p) H2 ⟨μ2.m, μ1.x⟩ (l1.trans l8) (hr2.unx l2.ex) (.lst ⟨hD2, fun z => hr2.dj p z hp2, pm.2⟩ (rv2.dat (show Dat μ2 H2 ⟨μ2.m, μ1.x⟩ H2 from ⟨⟨[], by simp⟩, fun a o h n nx => ⟨n, fun z => nx (l2.ex a z), h⟩⟩)))

theorem je_lcO {elt tg iter : Expr} {ifs : List Expr} {scope : Scope} {own : List (Str × Nat)} {pos : Pos} {fo : FE} {g : FG} {ws : List Nat} {ft : FT} {fe : FE} (hc : X.calm = true) (hN : X.N.Nodup) (hi : JIO X tg iter fo) (ok : BlkOk X.N X.env.scope scope own)
    (hg : ∀ (s : Shared) (H : Hp) (C : Addr) (cl : List (Str × Addr)) (fp : List Addr), JG (X.blk s H scope (compEnvC scope cl C X.env) fp) tg g ws) (ht : ∀ (s : Shared) (H : Hp) (C : Addr) (cl : List (Str × Addr)) (fp : List Addr), JTs (X.blk s H scope (compEnvC scope cl C X.env) fp) ifs ft)
    (he : ∀ (s : Shared) (H : Hp) (C : Addr) (cl : List (Str × Addr)) (fp : List Addr), JE (X.blk s H scope (compEnvC scope cl C X.env) fp) elt fe) (hw : ∀ j, j ∈ ws → j ∈ own.map (·.2) := by decide) (hs : ∀ x, foldedSetIterable iter X.env x = pure x := by intro _; rfl) :
    JE X (.ListComp elt [⟨tg, iter, ifs, 0⟩] scope pos) (fLcO (own.map (·.2)) fo g ft fe) := by
  obtain ⟨wi, pi, qi⟩ := hi
  exact ⟨_, pe_lc hc hN pi ok pgB ptB peB hs, q_lcO qi hg ht he hw⟩
end J

set_option autoImplicit false
namespace J
open PySem PySem.Spec PyProof.Rows L2
variable {K : PySem.W.Frag} {P : Program} {w : World} {X : Cx}
/-! slices -/
abbrev FO := Env → Sto → Option (Option Int × Sto)
def JO (X : Cx) (e : Option Expr) (f : FO) : Prop := ∃ t : TO, PO X e t ∧ ∀ (σ : L2.St) (H : Hp) (μ : Mp) (env : Env) (S : Sto) (o : Option Int) (S' : Sto) (Q : Option Int → Hp → Prop), HR X.prog X.w X.K H μ S → ER X.K H μ σ env → f env S = some (o, S') →
  (∀ H' μ', Later μ H μ' H' → HR X.prog X.w X.K H' μ' S' → Q o H') → t σ H Q
def foNone : FO := fun _ S => some (none, S)
def foSome (f : FE) : FO := fun env S => match f env S with
  | some (.int i, S1) => some (some i, S1)
  | _ => none
theorem jo_none : JO X none foNone := ⟨_, po_none, fun σ H μ env S o S' Q hr er hf k => by cases hf; exact k H μ (.refl _ _) hr⟩
theorem jo_some {e : Expr} {f : FE} (h : JE X e f) : JO X (some e) (foSome f) := by
  obtain ⟨t, p, q⟩ := h
  refine ⟨_, po_some p, fun σ H μ env S o S' Q hr er hf k => ?_⟩
  unfold foSome at hf
  split at hf
  · rename_i i S1 e1
    cases hf
    refine q σ H μ env S _ S' _ hr er e1 fun v H1 μ1 l1 hr1 r1 => ?_
    cases r1
    exact ⟨i, rfl, k H1 μ1 l1 hr1⟩
  · cases hf
def cutD (ds : List D) (lo hi : Option Int) : List D := (ds.drop (HT.sIx ds.length 0 lo)).take (HT.sIx ds.length ds.length hi - HT.sIx ds.length 0 lo)
theorem RvAll.cut {H : Hp} {μ : Mp} {vs : List V} {ds : List D} (h : RvAll K H μ vs ds) (lo hi : Option Int) : RvAll K H μ (cutV vs lo hi) (cutD ds lo hi) := by
  unfold cutV cutD
  rw [h.length]
  exact RvAll.take _ (RvAll.drop _ h)
def gCut (d : D) (lo hi : Option Int) (S : Sto) : Option (D × Sto) := match d with
  | .tup ds => some (.tup (cutD ds lo hi), S)
  | d => match d.lsS S with
    | some ds => some (.lst (cutD ds lo hi), S)
    | none => none
def fSlice (f : FE) (fl fh : FO) : FE := fun env S => match f env S with
  | some (d, S1) => match fl env S1 with
    | some (lo, S2) => match fh env S2 with
      | some (hi, S3) => gCut d lo hi S3
      | none => none
    | none => none
  | none => none
theorem je_slice {e : Expr} {lo hi : Option Expr} {f : FE} {fl fh : FO} {p2 pos : Pos} (he : JE X e f) (hl : JO X lo fl) (hh : JO X hi fh) : JE X (.Subscript e (.Slice lo hi none p2) pos) (fSlice f fl fh) := by
  obtain ⟨te, pe, qe⟩ := he
  obtain ⟨tl, pl, ql⟩ := hl
  obtain ⟨th, ph, qh⟩ := hh
  refine ⟨_, pe_slice (sl_tupA.or sl_list) pe pl ph, fun σ H μ env S d S' Q hr er hf k => ?_⟩
  unfold fSlice at hf
  split at hf
  · rename_i d1 S1 e1
    split at hf
    · rename_i o1 S2 e2
      split at hf
      · rename_i o2 S3 e3
        refine qe σ H μ env S d1 S1 _ hr er e1 fun v H1 μ1 l1 hr1 r1 => ?_
        refine ql σ H1 μ1 env S1 o1 S2 _ hr1 (er.later l1) e2 fun H2 μ2 l2 hr2 => ?_
        refine qh σ H2 μ2 env S2 o2 S3 _ hr2 (er.later (l1.trans l2)) e3 fun H3 μ3 l3 hr3 => ?_
        have r3 := (r1.later l2).later l3
        have L := l1.trans (l2.trans l3)
        unfold gCut at hf
        split at hf
        · cases hf
          cases r3 with
          | tup h1 h2 =>
            refine .inl ⟨_, _, rfl, h1.sq, fun c => ?_, fun _ p np => ?_⟩
            · rw [h2.length] at c
              have e : ∀ (es : List D), HT.sIx es.length 0 o1 = 0 → HT.sIx es.length es.length o2 = es.length → cutD es o1 o2 = es := fun es c1 c2 => by
                unfold cutD
                rw [c1, c2, List.drop_zero, Nat.sub_zero, List.take_length]
              rw [e _ c.1 c.2] at k
              exact k _ H3 μ3 L hr3 (.tup h1 h2)
            · obtain ⟨l4, hr4⟩ := hr3.new (o := .tup (cutV _ o1 o2)) np
              exact k _ _ μ3 (L.trans l4) hr4 (.tup (.inl ⟨.inl upd_same, hr3.free np⟩) ((h2.cut o1 o2).later l4))
        · split at hf
          · rename_i es h
            cases hf
            obtain ⟨p, ys, rfl, hs, hds⟩ := lsS_ok hr3 r3 h
            refine .inr ⟨p, ys, rfl, hs, fun q nq => ?_⟩
            obtain ⟨l4, hr4⟩ := hr3.new (o := .lst (cutV ys o1 o2)) nq
            exact k _ _ μ3 (L.trans l4) hr4 (.lst ⟨upd_same, hr3.free nq⟩ ((hds.cut o1 o2).later l4))
          · cases hf
      · cases hf
    · cases hf
  · cases hf
/-- {k: v, ..}.get(e, f) -/
def fDispGet (ns : List Str) (fv : FA) (fk fx : FE) : FE := fun env S => match fv env S with
  | some (ds, S1) => match fk env S1 with
    | some (.str x, S2) => match fx env S2 with
      | some (z, S3) => some ((valKD (mergeKD [] (kvN ns ds)) (Sum.inr x)).getD z, S3)
      | none => none
    | _ => none
  | none => none
theorem je_dispGet {keys : List (Option Expr)} {values : List Expr} {ns : List Str} {fv : FA} {e f : Expr} {fk fx : FE} {apos cpos dpos : Pos} (hu : X.A.units + 64 < cLine) (h : JPs X dpos keys values ns fv) (hk : JE X e fk) (hx : JE X f fx) (hall : keys.all (·.isSome) = true := by rfl) (hl : keys.length = values.length := by rfl) (h0 : keys ≠ [] := by exact fun z => by cases z)
    (h15 : keys.length ≤ 15 := by decide) (hn : ns.length ≤ 15 := by decide) (m : M2 X (.Dict keys values dpos) "get" apos e f cpos := by exact ⟨rfl, rfl, rfl, rfl⟩) : JE X (.Call (.Attribute (.Dict keys values dpos) "get" apos) [e, f] [] cpos) (fDispGet ns fv fk fx) := by
  obtain ⟨trs, pp, qp⟩ := h
  obtain ⟨tk, pk, qk⟩ := hk
  obtain ⟨tx, px, qx⟩ := hx
  refine ⟨_, pe_dget2 (by omega) (pe_disp pp hall hl h0 h15) pk px m, fun σ H μ env S d S' Q hr er hf k => ?_⟩
  unfold fDispGet at hf
  split at hf
  · rename_i ds S1 e1
    split at hf
    · rename_i x S2 e2
      split at hf
      · rename_i z S3 e3
        cases hf
        intro p np
        obtain ⟨l0, hr0⟩ := hr.ext (o := .dK []) np
        refine qp σ _ _ env S ds S1 _ hr0 (er.later l0) e1 fun vs H1 μ1 l1 hr1 r1 hlen => ?_
        have px1 : p ∈ μ1.x := l1.ex p (by simp)
        have pm1 : p ∉ μ1.m := fun z => hr1.dj p z px1
        have hp1 := (l1.keep p _ upd_same (fun z => (hr.free np).1 z)).2.2
        refine ⟨hp1, (ns.zip vs).map fun q => ((Sum.inr q.1 : Key), q.2), ?_, by rw [List.length_map, List.length_zip]; omega, ?_⟩
        · rw [List.map_map]; rfl
        obtain ⟨hr2, dat2⟩ := hr1.acc (o := .dK (mergeK [] ((ns.zip vs).map fun q => ((Sum.inr q.1 : Key), q.2)))) px1
        have er2 : ER X.K _ μ1 σ env := ⟨(er.later (l0.trans l1)).len, fun i d h => let ⟨v, h1, h2⟩ := (er.later (l0.trans l1)).ok i d h; ⟨v, h1, h2.dat dat2⟩⟩
        refine ⟨p, rfl, (.inl ⟨_, .inl upd_same⟩), ?_⟩
        refine qk σ _ μ1 env S1 _ _ _ hr2 er2 e2 fun v3 H3 μ3 l3 hr3 r3 => ?_
        cases r3
        refine qx σ H3 μ3 env S2 z _ _ hr3 (er2.later l3) e3 fun v4 H4 μ4 l4 hr4 r4 => ?_
        have l34 := l3.trans l4
        have hp4 := (l34.keep p _ upd_same pm1).2.2
        have kv := ((kvN_R ns r1).merge (xs := []) .nil).dat (dat2)
        have kv3 := kv.later l34
        refine ⟨_, DGet.k (k := Sum.inr x) hp4, ?_⟩
        have lf : Later μ H ⟨μ4.m, μ.x⟩ H4 := by
          have L1 := l0.trans l1
          obtain ⟨e1', h1'⟩ := L1.ext
          obtain ⟨e3', h3'⟩ := l34.ext
          refine ⟨⟨e1' ++ e3', by rw [h3', h1', List.append_assoc]⟩, fun _ h => h, fun a o h n => ?_, fun a o u h => ?_⟩
          · have ne : a ≠ p := ne_of_none h np
            obtain ⟨n1, x1, q1⟩ := L1.keep a o h n
            obtain ⟨n3, x3, q3⟩ := l34.keep a o (by rw [upd_ne ne]; exact q1) n1
            exact ⟨n3, id, q3⟩
          · exact l34.frz a o u (by rw [upd_ne (ne_of_none h np)]; exact L1.frz a o u h)
        have mx : ∀ a, a ∈ μ.x → a ∈ μ4.x := fun a h => l34.ex a ((l0.trans l1).ex a h)
        have dt : Dat μ4 H4 ⟨μ4.m, μ.x⟩ H4 := ⟨⟨[], by simp⟩, fun a o h n nx => ⟨n, fun z => nx (mx a z), h⟩⟩
        rcases kv3.val (Sum.inr x) with ⟨z1, z2⟩ | ⟨u, c, z1, z2, z3⟩
        · rw [z1]
          rw [z2] at k
          exact k v4 H4 ⟨μ4.m, μ.x⟩ lf (hr4.unx mx) (r4.dat dt)
        · rw [z1]
          rw [z2] at k
          exact k u H4 ⟨μ4.m, μ.x⟩ lf (hr4.unx mx) (z3.dat dt)
      · cases hf
    · cases hf
  · cases hf
end J

/-! enumerate(zip(t, u)) of two tuples, whose pairs are kept -/
namespace Kx
open PySem PySem.Spec PyProof.Rows L2 RZ
open PySem.Sem (wp)
/-- a zip, whatever has become of its last tuple -/
def ZipF (h : Heap) (z TI TO : Addr) : Prop := ∃ (f0 : Value) (f : Bool), h.get? z = some { cls := .type "zip", dict := none, data := .fields #[f0, .bool f, .bool false, .ref TI, .ref TO], slots := #[] } ∧ (f0 = .none ∨ ∃ T : Addr, f0 = rawInt T)
section
variable {prog : Program} {w : World} {A : Around} {E : Value → Shared → Prop} {s : Shared}
theorem alive_any {a : Addr} {Q : Option Obj → Shared → Prop} (h : Q (s.heap.get? a) s) : wpAny (model prog w) A (loadIfAlive a) Q E s := fun _ _ _ => h
/-- its tuple is free: nothing changes; or it is out -/
theorem owned_any {z TI TO : Addr} {Q : Bool → Shared → Prop} (hz : ZipF s.heap z TI TO) (h0 : Q true s) (h1 : ∀ h', ZipF h' z TI TO → Heap.SameBut z s.heap h' → Q false { s with heap := h' }) : wpAny (model prog w) A (Builtin.SmallTypes.ownedTupleIsFree (.ref z)) Q E s := by
  obtain ⟨f0, f, hz, hf⟩ := hz
  unfold Builtin.SmallTypes.ownedTupleIsFree
  rcases hf with rfl | ⟨T, rfl⟩
  · exact wpAny_bind (wpAny_field hz rfl (x := .none) rfl (wpAny_pure h0))
  · refine wpAny_bind (wpAny_field hz rfl (x := rawInt T) rfl ?_)
    show wpAny _ _ (loadIfAlive ((T : Int).toNat) >>= _) _ _ _
    rw [Int.toNat_natCast]
    refine wpAny_bind (alive_any ?_)
    cases e : s.heap.get? T with
    | none =>
      simp only [Option.isNone_none, if_true]
      exact wpAny_pure h0
    | some o =>
      simp only [Option.isNone_some, Bool.false_eq_true, if_false]
      refine wpAny_bind (wpAny_field hz rfl (x := .bool f) rfl ?_)
      cases f with
      | true =>
        rw [if_neg (show ¬ ((Value.bool true != Value.bool true) = true) from Bool.false_ne_true)]
        exact wpAny_pure (h1 s.heap ⟨_, _, hz, .inr ⟨T, rfl⟩⟩ (Heap.SameBut.refl _ _))
      | false =>
        rw [if_pos (show (Value.bool false != Value.bool true) = true from rfl)]
        exact wpAny_bind (wpAny_setField_rec hz (by simp) fun h₁ hz₁ hs₁ => wpAny_pure (h1 h₁ ⟨_, _, hz₁, .inr ⟨T, rfl⟩⟩ hs₁))
theorem ZipF.ext {h h' : Heap} {z TI TO : Addr} (hz : ZipF h z TI TO) (k : ∀ o, h.get? z = some o → h'.get? z = some o) : ZipF h' z TI TO := let ⟨f0, f, e, q⟩ := hz; ⟨f0, f, k _ e, q⟩
theorem ZipF.fld2 {z TI TO : Addr} {Q : Value → Shared → Prop} (hz : ZipF s.heap z TI TO) (h : Q (.bool false) s) : wpAny (model prog w) A (field (.ref z) 2) Q E s := let ⟨f0, f, e, _⟩ := hz; wpAny_field e rfl (x := .bool false) rfl h
theorem ZipF.fld3 {z TI TO : Addr} {Q : Value → Shared → Prop} (hz : ZipF s.heap z TI TO) (h : Q (.ref TI) s) : wpAny (model prog w) A (field (.ref z) 3) Q E s := let ⟨f0, f, e, _⟩ := hz; wpAny_field e rfl (x := .ref TI) rfl h
theorem ZipF.fld4 {z TI TO : Addr} {Q : Value → Shared → Prop} (hz : ZipF s.heap z TI TO) (h : Q (.ref TO) s) : wpAny (model prog w) A (field (.ref z) 4) Q E s := let ⟨f0, f, e, _⟩ := hz; wpAny_field e rfl (x := .ref TO) rfl h
theorem zipA_next_item {z TI TO i1 i2 l1 l2 : Addr} {k1 k2 : Nat} {xs ys : Array Value} {x y : Value} {Q : Value → Shared → Prop} (D : ZipApart z TI TO i1 i2 l1 l2)
    (hz : ZipF s.heap z TI TO) (hTI : IsPair s.heap TI (.ref i1) (.ref i2)) (hTO : ∃ a b, IsPair s.heap TO a b)
    (h1 : s.heap.IsTupleIter i1 l1 k1) (h2 : s.heap.IsTupleIter i2 l2 k2) (hl1 : s.heap.IsTuple l1 xs) (hl2 : s.heap.IsTuple l2 ys) (hx : xs[k1]? = some x) (hy : ys[k2]? = some y)
    (hQ : ∀ h', ZipF h' z TI TO → (∃ a b, IsPair h' TO a b) → h'.IsTupleIter i1 l1 (k1 + 1) → h'.IsTupleIter i2 l2 (k2 + 1) → IsPair h' s.heap.objs.size x y → h'.objs.size = s.heap.objs.size + 1 →
      (∀ c o, c ≠ z → c ≠ TO → c ≠ i1 → c ≠ i2 → s.heap.get? c = some o → h'.get? c = some o) → Q (.ref s.heap.objs.size) { s with heap := h' }) :
    wpAny (model prog w) A (Builtin.«zip.__next__» ⟨[.ref z], []⟩) (fun fin s' => ∃ v, fin = .done (.ret v) ∧ Q v s') E s := by
  obtain ⟨a, b, hTO⟩ := hTO
  show wpAny _ _ (field (.ref z) 2 >>= _) _ _ _
  refine wpAny_bind (hz.fld2 ?_)
  show wpAny _ _ (field (.ref z) 3 >>= _) _ _ _
  refine wpAny_bind (hz.fld3 ?_)
  refine wpAny_bind (wpAny_seqItems hTI rfl ?_)
  show wpAny _ _ (Builtin.SmallTypes.ownedTupleIsFree (.ref z) >>= _) _ _ _
  refine wpAny_bind (owned_any hz ?_ fun h₁ hz₁ hs₁ => ?_)
  · simp only [if_true]
    refine wpAny_bind (wpAny_rule ?_)
    refine wpAny_bind (hz.fld4 ?_)
    obtain ⟨f0, f, hz, hf⟩ := hz
    refine wpAny_bind (wpAny_setField_rec hz (by simp) fun h₁ hz₁ hs₁ => ?_)
    refine wpAny_bind ?_
    simp only [List.zipIdx_cons, List.zipIdx_nil, List.forIn_cons, List.forIn_nil]
    refine wpAny_bind (wpAny_bind (wpAny_onRaise ?_))
    show wpAny _ _ (Builtin.SmallTypes.nextOf (.ref i1) >>= _) _ _ _
    refine wpAny_bind (nextOf_tuple_item (h1.extBut hs₁.extBut D.i1z) (hl1.extBut hs₁.extBut D.l1z) hx fun h₂ h1₂ hs₂ => wpAny_pure ?_)
    have hTO₂ : IsPair h₂ TO a b := hs₂.extBut _ _ D.TOi1 (hs₁.extBut _ _ D.TOz hTO)
    refine wpAny_bind (wpAny_seqItems hTO₂ rfl ?_)
    refine wpAny_bind (wpAny_updateSeq_pair hTO₂ fun h₃ hTO₃ hs₃ => ?_)
    replace hTO₃ : IsPair h₃ TO x b := hTO₃
    refine wpAny_bind (wpAny_letGo (wpAny_pure ?_))
    refine wpAny_bind (wpAny_bind (wpAny_onRaise ?_))
    show wpAny _ _ (Builtin.SmallTypes.nextOf (.ref i2) >>= _) _ _ _
    refine wpAny_bind (nextOf_tuple_item (((h2.extBut hs₁.extBut D.i2z).extBut hs₂.extBut D.i12.symm).extBut hs₃.extBut D.TOi2.symm)
      (((hl2.extBut hs₁.extBut D.l2z).extBut hs₂.extBut D.l2i1).extBut hs₃.extBut D.l2TO) hy fun h₄ h2₄ hs₄ => wpAny_pure ?_)
    have hTO₄ : IsPair h₄ TO x b := hs₄.extBut _ _ D.TOi2 hTO₃
    refine wpAny_bind (wpAny_seqItems hTO₄ rfl ?_)
    refine wpAny_bind (wpAny_updateSeq_pair hTO₄ fun h₅ hTO₅ hs₅ => ?_)
    replace hTO₅ : IsPair h₅ TO x y := hTO₅
    refine wpAny_bind (wpAny_letGo (wpAny_pure (wpAny_pure ?_)))
    refine wpAny_bind (wpAny_seqItems hTO₅ rfl ?_)
    refine wpAny_bind (wpAny_newTuple ?_)
    have hsz : h₅.objs.size = s.heap.objs.size := by rw [hs₅.1, hs₄.1, hs₃.1, hs₂.1, hs₁.1]
    have hz₅ := hs₅.extBut _ _ D.TOz.symm (hs₄.extBut _ _ D.i2z.symm (hs₃.extBut _ _ D.TOz.symm (hs₂.extBut _ _ D.i1z.symm hz₁)))
    have hk₅ : ∀ c o, c ≠ z → c ≠ TO → c ≠ i1 → c ≠ i2 → s.heap.get? c = some o → h₅.get? c = some o := fun c o c1 c2 c3 c4 e =>
      hs₅.extBut _ _ c2 (hs₄.extBut _ _ c4 (hs₃.extBut _ _ c2 (hs₂.extBut _ _ c3 (hs₁.extBut _ _ c1 e))))
    have h1₅ : h₅.IsTupleIter i1 l1 (k1 + 1) := ((h1₂.extBut hs₃.extBut D.TOi1.symm).extBut hs₄.extBut D.i12).extBut hs₅.extBut D.TOi1.symm
    have h2₅ : h₅.IsTupleIter i2 l2 (k2 + 1) := h2₄.extBut hs₅.extBut D.TOi2.symm
    have hzlt : z < h₅.objs.size := Heap.lt_size hz₅
    show wpAny _ _ (Builtin.SmallTypes.ownedTupleHandOut (.ref z) (.ref h₅.objs.size) >>= _) _ _ _
    refine wpAny_bind ?_
    unfold Builtin.SmallTypes.ownedTupleHandOut
    have hz₆ := Heap.get?_push_of_some { cls := .type "tuple", data := .seq #[x, y] } hz₅
    refine wpAny_bind (wpAny_setField_rec hz₆ (by simp) fun h₇ hz₇ hs₇ => ?_)
    refine wpAny_setField_rec hz₇ (by simp) fun h₈ hz₈ hs₈ => ?_
    have up : ∀ c o, c ≠ z → h₅.get? c = some o → h₈.get? c = some o := fun c o c1 e => hs₈.extBut _ _ c1 (hs₇.extBut _ _ c1 (Heap.get?_push_of_some _ e))
    have hT₈ : IsPair h₈ h₅.objs.size x y := hs₈.extBut _ _ (Nat.ne_of_gt hzlt) (hs₇.extBut _ _ (Nat.ne_of_gt hzlt) (Heap.get?_push_size _ rfl))
    have hz8 : h₈.objs.size = h₅.objs.size + 1 := by rw [hs₈.1, hs₇.1, Heap.size_push]
    have hzz : ZipF h₈ z TI TO := ⟨rawInt h₅.objs.size, false, hz₈, .inr ⟨_, rfl⟩⟩
    rw [hsz] at hT₈ hz8
    refine wpAny_pure ⟨_, rfl, ?_⟩
    show Q (.ref h₅.objs.size) _
    rw [hsz]
    exact hQ h₈ hzz ⟨_, _, up _ _ D.TOz hTO₅⟩ (h1₅.at fun o e => up _ o D.i1z e) (h2₅.at fun o e => up _ o D.i2z e) hT₈ hz8 fun c o c1 c2 c3 c4 e => up c o c1 (hk₅ c o c1 c2 c3 c4 e)
  · simp only [Bool.false_eq_true, if_false]
    refine wpAny_bind ?_
    rw [← Array.forIn_toList]
    simp only [List.forIn_cons, List.forIn_nil]
    refine wpAny_bind (wpAny_bind (wpAny_holding ?_))
    show wpAny _ _ (Builtin.SmallTypes.nextOf (.ref i1) >>= _) _ _ _
    refine wpAny_bind (nextOf_tuple_item (s := { s with heap := h₁ }) (h1.extBut hs₁.extBut D.i1z) (hl1.extBut hs₁.extBut D.l1z) hx fun h₂ h1₂ hs₂ => wpAny_pure ?_)
    refine wpAny_pure ?_
    refine wpAny_bind (wpAny_bind (wpAny_holding ?_))
    show wpAny _ _ (Builtin.SmallTypes.nextOf (.ref i2) >>= _) _ _ _
    refine wpAny_bind (nextOf_tuple_item (s := { s with heap := h₂ }) ((h2.extBut hs₁.extBut D.i2z).extBut hs₂.extBut D.i12.symm) ((hl2.extBut hs₁.extBut D.l2z).extBut hs₂.extBut D.l2i1) hy fun h₃ h2₃ hs₃ => wpAny_pure ?_)
    refine wpAny_pure (wpAny_pure ?_)
    show wpAny _ _ (newTuple [x, y] >>= _) _ _ _
    refine wpAny_bind (wpAny_newTuple ?_)
    have hsz : h₃.objs.size = s.heap.objs.size := by rw [hs₃.1, hs₂.1, hs₁.1]
    have hz₃ : ZipF h₃ z TI TO := hz₁.ext fun o e => hs₃.extBut _ _ D.i2z.symm (hs₂.extBut _ _ D.i1z.symm e)
    have hk : ∀ c o, c ≠ z → c ≠ i1 → c ≠ i2 → s.heap.get? c = some o → h₃.get? c = some o := fun c o c1 c2 c3 e => hs₃.extBut _ _ c3 (hs₂.extBut _ _ c2 (hs₁.extBut _ _ c1 e))
    have h1₃ : h₃.IsTupleIter i1 l1 (k1 + 1) := h1₂.extBut hs₃.extBut D.i12
    refine wpAny_pure ⟨_, rfl, ?_⟩
    show Q (.ref h₃.objs.size) _
    have hp : IsPair (h₃.push { cls := .type "tuple", data := .seq #[x, y] }) h₃.objs.size x y := Heap.get?_push_size _ rfl
    have hz4 : (h₃.push { cls := .type "tuple", data := .seq #[x, y] }).objs.size = h₃.objs.size + 1 := Heap.size_push ..
    rw [hsz] at hp hz4 ⊢
    exact hQ _ (hz₃.ext fun o e => Heap.get?_push_of_some _ e) ⟨a, b, Heap.get?_push_of_some _ (hk _ _ D.TOz D.TOi1 D.TOi2 hTO)⟩ (h1₃.at fun o e => Heap.get?_push_of_some _ e) (h2₃.at fun o e => Heap.get?_push_of_some _ e) hp hz4 fun c o c1 _ c3 c4 e => Heap.get?_push_of_some _ (hk c o c1 c3 c4 e)
theorem zipA_next_end {z TI TO i1 i2 l1 l2 : Addr} {k1 k2 : Nat} {xs ys : Array Value} {Q : Fin → Shared → Prop} (hh : A.handled = none) (D : ZipApart z TI TO i1 i2 l1 l2)
    (hz : ZipF s.heap z TI TO) (hTI : IsPair s.heap TI (.ref i1) (.ref i2)) (hTO : ∃ a b, IsPair s.heap TO a b)
    (h1 : s.heap.IsTupleIter i1 l1 k1) (h2 : s.heap.IsTupleIter i2 l2 k2) (hl1 : s.heap.IsTuple l1 xs) (hl2 : s.heap.IsTuple l2 ys) (hend : xs[k1]? = none ∨ ys[k2]? = none)
    (hE : ∀ h' e, (∀ c o, c ≠ z → c ≠ TO → c ≠ i1 → c ≠ i2 → s.heap.get? c = some o → h'.get? c = some o) → (∃ o, h'.get? e = some o ∧ o.cls = .type "StopIteration") → E (.ref e) { s with heap := h' }) :
    wpAny (model prog w) A (Builtin.«zip.__next__» ⟨[.ref z], []⟩) Q E s := by
  obtain ⟨a, b, hTO⟩ := hTO
  show wpAny _ _ (field (.ref z) 2 >>= _) _ _ _
  refine wpAny_bind (hz.fld2 ?_)
  show wpAny _ _ (field (.ref z) 3 >>= _) _ _ _
  refine wpAny_bind (hz.fld3 ?_)
  refine wpAny_bind (wpAny_seqItems hTI rfl ?_)
  show wpAny _ _ (Builtin.SmallTypes.ownedTupleIsFree (.ref z) >>= _) _ _ _
  refine wpAny_bind (owned_any hz ?_ fun h₁ hz₁ hs₁ => ?_)
  · simp only [if_true]
    refine wpAny_bind (wpAny_rule ?_)
    refine wpAny_bind (hz.fld4 ?_)
    obtain ⟨f0, f, hz, hf⟩ := hz
    refine wpAny_bind (wpAny_setField_rec hz (by simp) fun h₁ hz₁ hs₁ => ?_)
    refine wpAny_bind ?_
    simp only [List.zipIdx_cons, List.zipIdx_nil, List.forIn_cons, List.forIn_nil]
    refine wpAny_bind (wpAny_bind (wpAny_onRaise ?_))
    show wpAny _ _ (Builtin.SmallTypes.nextOf (.ref i1) >>= _) _ _ _
    cases hx : xs[k1]? with
    | none =>
      refine wpAny_bind (nextOf_tuple_end hh (h1.extBut hs₁.extBut D.i1z) (hl1.extBut hs₁.extBut D.l1z) hx fun h₂ e hs₂ he => ?_)
      obtain ⟨oe, hoe, hce⟩ := he
      have hz₂ := hs₂ _ _ D.i1z.symm hz₁
      have hez : e ≠ z := fun x => by subst x; rw [hz₂] at hoe; cases hoe; simp at hce
      refine wpAny_setField_rec hz₂ (by simp) fun h₃ _ hs₃ => hE h₃ e (fun c o c1 _ c3 _ x => hs₃.extBut _ _ c1 (hs₂ _ _ c3 (hs₁.extBut _ _ c1 x))) ⟨oe, hs₃.extBut _ _ hez hoe, hce⟩
    | some x =>
      have hy : ys[k2]? = none := by rcases hend with h | h; rw [hx] at h; cases h; exact h
      refine wpAny_bind (nextOf_tuple_item (h1.extBut hs₁.extBut D.i1z) (hl1.extBut hs₁.extBut D.l1z) hx fun h₂ h1₂ hs₂ => wpAny_pure ?_)
      have hTO₂ : IsPair h₂ TO a b := hs₂.extBut _ _ D.TOi1 (hs₁.extBut _ _ D.TOz hTO)
      refine wpAny_bind (wpAny_seqItems hTO₂ rfl ?_)
      refine wpAny_bind (wpAny_updateSeq_pair hTO₂ fun h₃ hTO₃ hs₃ => ?_)
      refine wpAny_bind (wpAny_letGo (wpAny_pure ?_))
      refine wpAny_bind (wpAny_bind (wpAny_onRaise ?_))
      show wpAny _ _ (Builtin.SmallTypes.nextOf (.ref i2) >>= _) _ _ _
      refine wpAny_bind (nextOf_tuple_end hh (((h2.extBut hs₁.extBut D.i2z).extBut hs₂.extBut D.i12.symm).extBut hs₃.extBut D.TOi2.symm)
        (((hl2.extBut hs₁.extBut D.l2z).extBut hs₂.extBut D.l2i1).extBut hs₃.extBut D.l2TO) hy fun h₄ e hs₄ he => ?_)
      obtain ⟨oe, hoe, hce⟩ := he
      have hz₄ := hs₄ _ _ D.i2z.symm (hs₃.extBut _ _ D.TOz.symm (hs₂.extBut _ _ D.i1z.symm hz₁))
      have hez : e ≠ z := fun x => by subst x; rw [hz₄] at hoe; cases hoe; simp at hce
      refine wpAny_setField_rec hz₄ (by simp) fun h₅ _ hs₅ => hE h₅ e (fun c o c1 c2 c3 c4 x => hs₅.extBut _ _ c1 (hs₄ _ _ c4 (hs₃.extBut _ _ c2 (hs₂.extBut _ _ c3 (hs₁.extBut _ _ c1 x))))) ⟨oe, hs₅.extBut _ _ hez hoe, hce⟩
  · simp only [Bool.false_eq_true, if_false]
    refine wpAny_bind ?_
    rw [← Array.forIn_toList]
    simp only [List.forIn_cons, List.forIn_nil]
    refine wpAny_bind (wpAny_bind (wpAny_holding ?_))
    show wpAny _ _ (Builtin.SmallTypes.nextOf (.ref i1) >>= _) _ _ _
    cases hx : xs[k1]? with
    | none =>
      refine wpAny_bind (nextOf_tuple_end (s := { s with heap := h₁ }) hh (h1.extBut hs₁.extBut D.i1z) (hl1.extBut hs₁.extBut D.l1z) hx fun h₂ e hs₂ he => ?_)
      exact hE h₂ e (fun c o c1 _ c2 _ x => hs₂ _ _ c2 (hs₁.extBut _ _ c1 x)) he
    | some x =>
      have hy : ys[k2]? = none := by rcases hend with h | h; rw [hx] at h; cases h; exact h
      refine wpAny_bind (nextOf_tuple_item (s := { s with heap := h₁ }) (h1.extBut hs₁.extBut D.i1z) (hl1.extBut hs₁.extBut D.l1z) hx fun h₂ h1₂ hs₂ => wpAny_pure ?_)
      refine wpAny_pure ?_
      refine wpAny_bind (wpAny_bind (wpAny_holding ?_))
      show wpAny _ _ (Builtin.SmallTypes.nextOf (.ref i2) >>= _) _ _ _
      refine wpAny_bind (nextOf_tuple_end (s := { s with heap := h₂ }) hh ((h2.extBut hs₁.extBut D.i2z).extBut hs₂.extBut D.i12.symm) ((hl2.extBut hs₁.extBut D.l2z).extBut hs₂.extBut D.l2i1) hy fun h₃ e hs₃ he => ?_)
      exact hE h₃ e (fun c o c1 _ c2 c3 x => hs₃ _ _ c3 (hs₂.extBut _ _ c2 (hs₁.extBut _ _ c1 x))) he
/-- enumerate's turn over such a zip -/
theorem enumZ_next_item {e z TI TO i1 i2 l1 l2 : Addr} {i : Nat} {xs ys : Array Value} {x y old : Value} {Q : Option Value → Shared → Prop} (D : ZipApart z TI TO i1 i2 l1 l2) (he : IsEnum s.heap e z i old)
    (hz : ZipF s.heap z TI TO) (hTI : IsPair s.heap TI (.ref i1) (.ref i2)) (hTO : ∃ a b, IsPair s.heap TO a b)
    (h1 : s.heap.IsTupleIter i1 l1 i) (h2 : s.heap.IsTupleIter i2 l2 i) (hl1 : s.heap.IsTuple l1 xs) (hl2 : s.heap.IsTuple l2 ys) (hx : xs[i]? = some x) (hy : ys[i]? = some y)
    (ez : e ≠ z) (eTO : e ≠ TO) (e1 : e ≠ i1) (e2 : e ≠ i2)
    (hQ : ∀ h₁ h', ZipF h₁ z TI TO → (∃ a b, IsPair h₁ TO a b) → h₁.IsTupleIter i1 l1 (i + 1) → h₁.IsTupleIter i2 l2 (i + 1) → IsPair h₁ s.heap.objs.size x y → h₁.objs.size = s.heap.objs.size + 1 →
      (∀ c o, c ≠ z → c ≠ TO → c ≠ i1 → c ≠ i2 → s.heap.get? c = some o → h₁.get? c = some o) → (∀ c o, c ≠ e → h₁.get? c = some o → h'.get? c = some o) → IsEnumOut h' e z ((i : Int) + 1) (.ref s.heap.objs.size) (s.heap.objs.size + 1) →
      h'.get? (s.heap.objs.size + 1) = some { cls := .type "tuple", data := .seq #[.int i s.toks, .ref s.heap.objs.size] } → Q (some (.ref (s.heap.objs.size + 1))) { s with heap := h', toks := s.toks + 1 }) :
    wpAny (model prog w) A (pyNext (.ref e)) Q E s := by
  have hT : s.TypeIs (.ref e) "enumerate" := ⟨_, he, rfl⟩
  unfold pyNext
  refine wpAny_bind (wpAny_attempt (wpAny_callSpecial?_slot (name := Str.ofString "__next__") hT F.slot_enumerate_next
    (wpAny_call_entry F.slot_enumerate_next hT F.entry_enumerate_next ?_ (F.args_enumerate_next_1 _))))
  obtain ⟨hp, g, d, tk, os⟩ := s
  show wpAny _ _ (field (.ref e) 2 >>= _) _ _ _
  refine wpAny_bind (wpAny_field he rfl (x := .ref z) rfl ?_)
  refine wpAny_bind ?_
  have hTz : (⟨hp, g, d, tk, os⟩ : Shared).TypeIs (.ref z) "zip" := let ⟨_, _, q, _⟩ := hz; ⟨_, q, rfl⟩
  unfold Builtin.SmallTypes.nextOf
  refine wpAny_bind (wpAny_callSpecial?_slot (name := Str.ofString "__next__") hTz F.slot_zip_next
    (wpAny_call_entry F.slot_zip_next hTz F.entry_zip_next ?_ (F.args_zip_next_1 _)))
  refine zipA_next_item D hz hTI hTO h1 h2 hl1 hl2 hx hy fun h₁ zz to t1 t2 tp sz kp => ?_
  have he₁ : IsEnum h₁ e z i old := kp _ _ ez eTO e1 e2 he
  have hsz : h₁.objs.size = hp.objs.size + 1 := sz
  refine wpAny_pure ?_
  show wpAny _ _ (field (.ref e) 3 >>= _) _ _ ⟨h₁, g, d, tk, os⟩
  refine wpAny_bind (wpAny_field he₁ rfl (x := rawInt i) rfl ?_)
  show wpAny _ _ (field (.ref e) 4 >>= _) _ _ ⟨h₁, g, d, tk, os⟩
  refine wpAny_bind (wpAny_field he₁ rfl (x := .none) rfl ?_)
  show wpAny _ _ (mkInt i >>= _) _ _ ⟨h₁, g, d, tk, os⟩
  refine wpAny_bind (wpAny_mkInt ?_)
  show wpAny _ _ (setField (.ref e) 3 (rawInt ((i : Int) + 1)) >>= _) _ _ ⟨h₁, g, d, tk + 1, os⟩
  refine wpAny_bind (wpAny_setField_rec he₁ (by simp) fun h₂ he₂ hs₂ => ?_)
  replace hs₂ : Heap.SameBut e h₁ h₂ := hs₂
  replace he₂ : IsEnum h₂ e z ((i : Int) + 1) old := he₂
  show wpAny _ _ (setField (.ref e) 4 .none >>= _) _ _ ⟨h₂, g, d, tk + 1, os⟩
  refine wpAny_bind (wpAny_setField_rec he₂ (by simp) fun h₃ he₃ hs₃ => ?_)
  replace hs₃ : Heap.SameBut e h₂ h₃ := hs₃
  replace he₃ : IsEnum h₃ e z ((i : Int) + 1) old := he₃
  show wpAny _ _ (newTuple [.int i tk, .ref hp.objs.size] >>= _) _ _ ⟨h₃, g, d, tk + 1, os⟩
  refine wpAny_bind (wpAny_newTuple ?_)
  have he₄ : IsEnum (h₃.push { cls := .type "tuple", data := .seq #[.int i tk, .ref hp.objs.size] }) e z ((i : Int) + 1) old := Heap.get?_push_of_some _ he₃
  have hz₃ : h₃.objs.size = hp.objs.size + 1 := by rw [hs₃.1, hs₂.1, hsz]
  have ht₄ : (h₃.push { cls := .type "tuple", data := .seq #[.int i tk, .ref hp.objs.size] }).get? (hp.objs.size + 1) = some { cls := .type "tuple", data := .seq #[.int i tk, .ref hp.objs.size] } := by rw [← hz₃]; exact Heap.get?_push_size _ rfl
  have hk₄ : ∀ c o, c ≠ e → h₁.get? c = some o → (h₃.push { cls := .type "tuple", data := .seq #[.int i tk, .ref hp.objs.size] }).get? c = some o := fun c o hc q => Heap.get?_push_of_some _ (hs₃.extBut c o hc (hs₂.extBut c o hc q))
  generalize hh₄ : h₃.push { cls := .type "tuple", data := .seq #[.int i tk, .ref hp.objs.size] } = h₄ at he₄ ht₄ hk₄
  have hel : e < hp.objs.size + 1 := by have := Heap.lt_size he; exact Nat.lt_succ_of_lt this
  show wpAny _ _ (Builtin.SmallTypes.ownedTupleIsFree (.ref e) >>= _) _ _ ⟨h₄, g, d, tk + 1, os⟩
  rw [hz₃]
  refine wpAny_bind ?_
  unfold Builtin.SmallTypes.ownedTupleIsFree
  refine wpAny_bind (wpAny_field he₄ rfl (x := .none) rfl (wpAny_pure ?_))
  simp only [if_true]
  refine wpAny_bind (wpAny_rule ?_)
  refine wpAny_bind (wpAny_field he₄ rfl (x := old) rfl ?_)
  refine wpAny_bind (wpAny_setField_rec he₄ (by simp) fun h₅ he₅ hs₅ => ?_)
  replace hs₅ : Heap.SameBut e h₄ h₅ := hs₅
  replace he₅ : IsEnum h₅ e z ((i : Int) + 1) (.ref hp.objs.size) := he₅
  show wpAny _ _ (Builtin.SmallTypes.ownedTupleHandOut (.ref e) (.ref (hp.objs.size + 1)) >>= _) _ _ ⟨h₅, g, d, tk + 1, os⟩
  refine wpAny_bind ?_
  unfold Builtin.SmallTypes.ownedTupleHandOut
  refine wpAny_bind (wpAny_setField_rec he₅ (by simp) fun h₆ he₆ hs₆ => ?_)
  replace hs₆ : Heap.SameBut e h₅ h₆ := hs₆
  replace he₆ : IsEnumOut h₆ e z ((i : Int) + 1) (.ref hp.objs.size) (hp.objs.size + 1) := he₆
  refine wpAny_setField_rec he₆ (by simp) fun h₇ he₇ hs₇ => ?_
  replace hs₇ : Heap.SameBut e h₆ h₇ := hs₇
  replace he₇ : IsEnumOut h₇ e z ((i : Int) + 1) (.ref hp.objs.size) (hp.objs.size + 1) := he₇
  have up : ∀ c o, c ≠ e → h₄.get? c = some o → h₇.get? c = some o := fun c o hc q => hs₇.extBut c o hc (hs₆.extBut c o hc (hs₅.extBut c o hc q))
  exact wpAny_bind (wpAny_letGo (wpAny_pure ⟨_, rfl, wpAny_pure (hQ h₁ h₇ zz to t1 t2 tp sz kp (fun c o hc q => up c o hc (hk₄ c o hc q)) he₇ (up _ _ (Nat.ne_of_gt hel) ht₄))⟩))
theorem enumZ_next_end {e z TI TO i1 i2 l1 l2 : Addr} {i : Nat} {xs ys : Array Value} {old : Value} {Q : Option Value → Shared → Prop} (hh : A.handled = none) (D : ZipApart z TI TO i1 i2 l1 l2) (he : IsEnum s.heap e z i old)
    (hz : ZipF s.heap z TI TO) (hTI : IsPair s.heap TI (.ref i1) (.ref i2)) (hTO : ∃ a b, IsPair s.heap TO a b)
    (h1 : s.heap.IsTupleIter i1 l1 i) (h2 : s.heap.IsTupleIter i2 l2 i) (hl1 : s.heap.IsTuple l1 xs) (hl2 : s.heap.IsTuple l2 ys) (hend : xs[i]? = none ∨ ys[i]? = none)
    (hQ : ∀ h', (∀ c o, c ≠ z → c ≠ TO → c ≠ i1 → c ≠ i2 → s.heap.get? c = some o → h'.get? c = some o) → Q none { s with heap := h' }) : wpAny (model prog w) A (pyNext (.ref e)) Q E s := by
  have hT : s.TypeIs (.ref e) "enumerate" := ⟨_, he, rfl⟩
  unfold pyNext
  refine wpAny_bind (wpAny_attempt (wpAny_callSpecial?_slot (name := Str.ofString "__next__") hT F.slot_enumerate_next
    (wpAny_call_entry F.slot_enumerate_next hT F.entry_enumerate_next ?_ (F.args_enumerate_next_1 _))))
  show wpAny _ _ (field (.ref e) 2 >>= _) _ _ _
  refine wpAny_bind (wpAny_field he rfl (x := .ref z) rfl ?_)
  refine wpAny_bind ?_
  have hTz : s.TypeIs (.ref z) "zip" := let ⟨_, _, q, _⟩ := hz; ⟨_, q, rfl⟩
  unfold Builtin.SmallTypes.nextOf
  refine wpAny_bind (wpAny_callSpecial?_slot (name := Str.ofString "__next__") hTz F.slot_zip_next
    (wpAny_call_entry F.slot_zip_next hTz F.entry_zip_next (zipA_next_end hh D hz hTI hTO h1 h2 hl1 hl2 hend fun h' x hk hx' => ?_) (F.args_zip_next_1 _)))
  obtain ⟨o, ho, hc⟩ := hx'
  refine wpAny_bind (wpAny_isInstance (T := "StopIteration") (b := true) ⟨o, ho, hc⟩ isSubtype_stop ?_)
  exact wpAny_pure (hQ _ hk)
end
/-- enumerate(zip(t, u)): each pair in a new pair -/
def IteZ (K : PySem.W.Frag) (a b : Addr) : It :=
  ⟨fun i H => ∃ (xs ys : List V) (x y : V), SqT K H a xs ∧ SqT K H b ys ∧ xs[i]? = some x ∧ ys[i]? = some y,
    fun i H v H' => ∃ T U x y, v = .ref U ∧ H T = none ∧ H U = none ∧ U ≠ T ∧ H' = upd (upd H T (.tup [x, y])) U (.tup [.int (i : Nat), .ref T]) ∧ (∀ xs, SqT K H a xs → xs[i]? = some x) ∧ ∀ ys, SqT K H b ys → ys[i]? = some y,
    fun i H => ∃ xs ys : List V, SqT K H a xs ∧ SqT K H b ys ∧ (xs.length ≤ i ∨ ys.length ≤ i)⟩
theorem turn_enumZ {P : Program} {w : World} {K : PySem.W.Frag} {elts : List Expr} {kk : Nat} {tpos : Pos} {a b e z TI TO i1 i2 : Addr} (D : ZipApart z TI TO i1 i2 a b) (ez : e ≠ z) (eTI : e ≠ TI) (eTO : e ≠ TO) (e1 : e ≠ i1) (e2 : e ≠ i2) :
    Turn P w K (.Tuple elts kk tpos) (IteZ K a b) [e, z, TI, TO, i1, i2] e (fun i h => (∃ old, IsEnum h e z ((i : Nat) : Int) old) ∧ ZipF h z TI TO ∧ IsPair h TI (.ref i1) (.ref i2) ∧ (∃ x y, IsPair h TO x y) ∧ h.IsTupleIter i1 a i ∧ h.IsTupleIter i2 b i) where
  mem := by simp
  obj := fun i h st c hc => by
    obtain ⟨⟨old, he⟩, ⟨f0, f, hz, _⟩, hTI, ⟨x, y, hTO⟩, ⟨o1, q1, _, d1⟩, ⟨o2, q2, _, d2⟩⟩ := st
    have e' : c = e ∨ c = z ∨ c = TI ∨ c = TO ∨ c = i1 ∨ c = i2 := by simpa using hc
    rcases e' with q | q | q | q | q | q
    · rw [q]; exact ⟨_, he, fun v q => nomatch q⟩
    · rw [q]; exact ⟨_, hz, fun v q => nomatch q⟩
    · rw [q]; exact ⟨_, hTI, fun v q => nomatch q⟩
    · rw [q]; exact ⟨_, hTO, fun v q => nomatch q⟩
    · rw [q]; exact ⟨o1, q1, fun v q => by rw [d1] at q; cases q⟩
    · rw [q]; exact ⟨o2, q2, fun v q => by rw [d2] at q; cases q⟩
  keep := fun i h h' st k => by
    obtain ⟨⟨old, he⟩, hz, hTI, ⟨x, y, hTO⟩, h1, h2⟩ := st
    exact ⟨⟨old, k e (by simp) _ he⟩, hz.ext fun o q => k z (by simp) o q, k TI (by simp) _ hTI, ⟨x, y, k TO (by simp) _ hTO⟩, h1.at fun o q => k i1 (by simp) o q, h2.at fun o q => k i2 (by simp) o q⟩
  item := by
    intro X hP hw hK hc i pins s σ H E I hf st hg
    subst hP hw hK
    obtain ⟨⟨old, he⟩, hz, hTI, hTO, h1, h2⟩ := st
    obtain ⟨xs, ys, x, y, hqx, hqy, hx, hy⟩ := hg
    obtain ⟨its, rv, p, _⟩ := I.tuple hqx
    obtain ⟨its2, rv2, p2, _⟩ := I.tuple hqy
    obtain ⟨u, hu, ru⟩ := rv.get hx
    obtain ⟨u2, hu2, ru2⟩ := rv2.get hy
    have hel : e < s.heap.objs.size := Heap.lt_size he
    have hzl : z < s.heap.objs.size := by obtain ⟨_, _, q, _⟩ := hz; exact Heap.lt_size q
    have hTIl : TI < s.heap.objs.size := Heap.lt_size hTI
    have hTOl : TO < s.heap.objs.size := by obtain ⟨_, _, q⟩ := hTO; exact Heap.lt_size q
    have h1l : i1 < s.heap.objs.size := by obtain ⟨_, q, _⟩ := h1; exact Heap.lt_size q
    have h2l : i2 < s.heap.objs.size := by obtain ⟨_, q, _⟩ := h2; exact Heap.lt_size q
    refine enumZ_next_item D he hz hTI hTO h1 h2 p p2 (x := u) (y := u2) (by simpa using hu) (by simpa using hu2) ez eTO e1 e2 fun h₁ h' z1 t1 n1 n2 tp sz k1 k2 eo tq => ?_
    refine ⟨_, rfl, wpAny_letOwnedTupleGo_enum (s := { s with heap := h', toks := s.toks + 1 }) eo fun h'' he' sb => ?_⟩
    have up : ∀ c o, c ≠ e → h₁.get? c = some o → h''.get? c = some o := fun c o hc q => (sb.2 c hc).trans (k2 c o hc q)
    have new1 : ObjOk X.prog X.w (upd H s.heap.objs.size (.tup [x, y])) h₁ s.heap.objs.size (.tup [x, y]) :=
      ⟨by show 2 ≤ sizeLine; decide, [u, u2], .cons ru (.cons ru2 .nil), ⟨_, tp, rfl, _, rfl⟩⟩
    have I1 : Inv X pins σ (upd H s.heap.objs.size (.tup [x, y])) { s with heap := h₁ } :=
      I.turnedNew (t' := s.toks) (ch := [e, z, TI, TO, i1, i2]) (fun c o hb q => k1 c o (fun q' => hb (by simp [q'])) (fun q' => hb (by simp [q'])) (fun q' => hb (by simp [q'])) (fun q' => hb (by simp [q'])) q) hf (Nat.le_refl _) new1
    have hT2 : h''.get? (s.heap.objs.size + 1) = some { cls := .type "tuple", data := .seq #[.int i s.toks, .ref s.heap.objs.size] } := (sb.2 _ (Nat.ne_of_gt (Nat.lt_succ_of_lt hel))).trans tq
    have new2 : ObjOk X.prog X.w (upd (upd H s.heap.objs.size (.tup [x, y])) (s.heap.objs.size + 1) (.tup [.int (i : Nat), .ref s.heap.objs.size])) h'' (s.heap.objs.size + 1) (.tup [.int (i : Nat), .ref s.heap.objs.size]) :=
      ⟨by show 2 ≤ sizeLine; decide, [.int i s.toks, .ref s.heap.objs.size], .cons ⟨_, rfl⟩ (.cons rfl .nil), ⟨_, hT2, rfl, _, rfl⟩⟩
    have hf1 : ∀ c ∈ [e], FpOk X pins (upd H s.heap.objs.size (.tup [x, y])) c := fun c hcm => by
      have ce : c = e := by simpa using hcm
      subst ce
      have z := hf c (by simp)
      exact ⟨by rw [upd_ne (Nat.ne_of_lt hel)]; exact z.1, z.2⟩
    have sz' : ({ s with heap := h₁ } : Shared).heap.objs.size = s.heap.objs.size + 1 := sz
    have I2 : Inv X pins σ (upd (upd H s.heap.objs.size (.tup [x, y])) (s.heap.objs.size + 1) (.tup [.int (i : Nat), .ref s.heap.objs.size])) { s with heap := h'', toks := s.toks + 1 } :=
      I1.turnedNew (t' := s.toks + 1) (ch := [e]) (fun c o hb q => up c o (fun q' => hb (by simp [q'])) q) hf1 (Nat.le_of_eq sz') new2
    refine ⟨.ref (s.heap.objs.size + 1), _, I2, rfl, ⟨_, _, x, y, rfl, I.hok.fresh (Nat.le_refl _), I.hok.fresh (Nat.le_succ _), Nat.succ_ne_self _, rfl, fun l hl => by rw [I.tuple_inj hl hqx]; exact hx, fun l hl => by rw [I.tuple_inj hl hqy]; exact hy⟩,
      ⟨⟨.ref s.heap.objs.size, ?_⟩, z1.ext fun o q => up _ o (Ne.symm ez) q, up _ _ (Ne.symm eTI) (k1 _ _ D.TIz D.TITO D.TIi1 D.TIi2 hTI), ?_, n1.at fun o q => up _ o (Ne.symm e1) q, n2.at fun o q => up _ o (Ne.symm e2) q⟩, fun c hcm => ?_⟩
    · have e1' : ((i + 1 : Nat) : Int) = (i : Int) + 1 := by omega
      rw [e1']; exact he'
    · obtain ⟨v1, v2, q⟩ := t1
      exact ⟨v1, v2, up _ _ (Ne.symm eTO) q⟩
    · have hlt : c < s.heap.objs.size := by
        have e' : c = e ∨ c = z ∨ c = TI ∨ c = TO ∨ c = i1 ∨ c = i2 := by simpa using hcm
        rcases e' with q | q | q | q | q | q
        · rw [q]; exact hel
        · rw [q]; exact hzl
        · rw [q]; exact hTIl
        · rw [q]; exact hTOl
        · rw [q]; exact h1l
        · rw [q]; exact h2l
      rw [upd_ne (Nat.ne_of_lt (Nat.lt_succ_of_lt hlt)), upd_ne (Nat.ne_of_lt hlt)]
      exact (hf c hcm).1
  done := by
    intro X hP hw hK hc i pins s σ H E I hf st hg
    subst hP hw hK
    obtain ⟨⟨old, he⟩, hz, hTI, hTO, h1, h2⟩ := st
    obtain ⟨xs, ys, hqx, hqy, hend⟩ := hg
    obtain ⟨its, rv, p, _⟩ := I.tuple hqx
    obtain ⟨its2, rv2, p2, _⟩ := I.tuple hqy
    have l1 := rv.length
    have l2 := rv2.length
    have hn : its.toArray[i]? = none ∨ its2.toArray[i]? = none := by
      rcases hend with q | q
      · exact .inl (by simp; omega)
      · exact .inr (by simp; omega)
    exact enumZ_next_end (I.ok.hd hc) D he hz hTI hTO h1 h2 p p2 hn fun h' hk => ⟨rfl, I.turnedL (t' := s.toks) (ch := [e, z, TI, TO, i1, i2]) (fun c o hb q =>
      hk c o (fun q' => hb (by simp [q'])) (fun q' => hb (by simp [q'])) (fun q' => hb (by simp [q'])) (fun q' => hb (by simp [q'])) q) hf⟩
  self := fun A i s Q E st h => let ⟨⟨_, he⟩, _⟩ := st; wpAny_pyIter_enum he h
/-- enumerate of what zip made -/
theorem enumNewZ (z TI TO : Addr) :
    Meets (Builtin.«enumerate.__new__» ⟨[.type "enumerate", .ref z], []⟩) (fun _ R s => IsZip s.heap z TI TO .none ∧
      R (.ok (.ret (.ref s.heap.objs.size))) { s with heap := s.heap.push { cls := .type "enumerate", data := .fields #[.none, .bool false, .ref z, rawInt 0, .none, .none] } }) :=
  .of_wp fun prog w A R s h => by
    obtain ⟨hp, g, d, tk, os⟩ := s; obtain ⟨hl, h⟩ := h
    have hsub := sub_enumerate
    have tZ : IsZip (Shared.heap ⟨hp, g, d, tk, os⟩) z TI TO .none := hl
    wp_walk using wpAny_pyIter_zip tZ, AutoSeq1.wpAny_loadPart' hl
    refine wpAny_stack_any fun st => wpAny_pure ?_
    split
    · rename_i c _ _ _ _ _
      cases (c == Value.type "enumerate") <;> (wp_walk using wpAny_pyIter_zip tZ, AutoSeq1.wpAny_loadPart' hl; exact ⟨_, rfl, h⟩)
    · wp_walk using wpAny_pyIter_zip tZ, AutoSeq1.wpAny_loadPart' hl
      exact ⟨_, rfl, h⟩
theorem enumCallZ {prog : Program} {w : World} {A : Around} {E : Value → Shared → Prop} {s : Shared} {z TI TO : Addr} {Q : Value → Shared → Prop} (hz : IsZip s.heap z TI TO .none)
    (h : ∀ h', IsEnum h' s.heap.objs.size z 0 .none → h'.objs.size = s.heap.objs.size + 1 → (∀ b o, s.heap.get? b = some o → h'.get? b = some o) → Q (.ref s.heap.objs.size) { s with heap := h' }) :
    wpAny (model prog w) A (call (.type "enumerate") [.ref z]) Q E s := by
  refine callType_new F.called_enumerate (by decide) (F.typeCall_enumerate_1 _) (F.newCall_enumerate_1 _) (fun obj => F.args_object_init_2 obj _) F.entry_enumerate_new (enumNewZ z TI TO) ⟨hz, ?_⟩
  have he : IsEnum (s.heap.push { cls := .type "enumerate", data := .fields #[.none, .bool false, .ref z, rawInt 0, .none, .none] }) s.heap.objs.size z 0 .none := Heap.get?_push_size _ rfl
  exact ⟨⟨_, he, rfl⟩, h _ he (Heap.size_push ..) fun b o x => Heap.get?_push_of_some _ x⟩
def iEnumZ (K : PySem.W.Frag) (ta : TA) : TI := fun σ H R => ta σ H fun vs H1 => ∃ a b xs ys, vs = [.ref a, .ref b] ∧ SqT K H1 a xs ∧ SqT K H1 b ys ∧ R (IteZ K a b) H1
theorem pi_enumZ {X : Cx} {e e2 : Expr} {ta : TA} {p pos pz posz tpos : Pos} {elts : List Expr} {kk : Nat} (hg : Gl X "enumerate") (hm : X.mg "enumerate" = none) (hgz : Gl X "zip") (hmz : X.mg "zip" = none) (ha : PA X [e, e2] ta)
    (hs0 : starEach [.Call (.Name "zip" pz) [e, e2] [] posz] X.env = [(false, eval (.Call (.Name "zip" pz) [e, e2] [] posz) X.env)] := by rfl) (hs : starEach [e, e2] X.env = (false, eval e X.env) :: starEach [e2] X.env := by rfl) (hpl : (backTo posz (starEach [e2] X.env)).any (·.1) = false := by rfl) :
    PI X (.Tuple elts kk tpos) (.Call (.Name "enumerate" p) [.Call (.Name "zip" pz) [e, e2] [] posz] [] pos) (iEnumZ X.K ta) := by
  refine ⟨fun pins s σ H R I h => ?_⟩
  refine Call_ (ld_blt I hg hm boot_enumerate (PyProof.Rows.callWith_type1 ?_ hs0 rfl))
  rw [hs0]
  refine Calls.spliced_cons ?_
  refine Call_ (ld_blt I hgz hmz PyProof.Rows.boot_zip (PyProof.Rows.callWith_type1 (thn (ha.run posz pins s σ H _ I h) fun us s1 ⟨vs, H1, I1, r1, q1⟩ => ?_) hs hpl))
  obtain ⟨a, b, xs, ys, ex, hqx, hqy, q⟩ := q1
  subst ex
  cases r1 with
  | cons r rr =>
    cases rr with
    | cons r' rr =>
      cases rr
      cases r
      cases r'
      obtain ⟨its, rv, p1, _⟩ := I1.tuple hqx
      obtain ⟨its2, rv2, p2, _⟩ := I1.tuple hqy
      obtain ⟨o1, ho1, _⟩ := id p1
      obtain ⟨o2, ho2, _⟩ := id p2
      refine call_zipT (show s1.heap.IsTuple a its.toArray from p1) (show s1.heap.IsTuple b its2.toArray from p2) fun h' hz hTI hTO h1 h2 hsz hk => ?_
      refine Calls.spliced_nil ?_
      have I2 : Inv X pins σ H1 { s1 with heap := h' } := I1.kept (t' := s1.toks) hk
      refine enumCallZ (s := { s1 with heap := h' }) hz fun h'' he hsz2 hk2 => wpAny_pyIter_enum he ?_
      have I3 : Inv X pins σ H1 { s1 with heap := h'' } := I2.kept (t' := s1.toks) hk2
      have se : ({ s1 with heap := h' } : Shared).heap.objs.size = s1.heap.objs.size + 5 := hsz
      have fresh6 : ∀ c, c ∈ [s1.heap.objs.size + 5, s1.heap.objs.size + 4, s1.heap.objs.size + 2, s1.heap.objs.size + 3, s1.heap.objs.size, s1.heap.objs.size + 1] → FpOk X pins H1 c := fun c hcm => by
        have hle : s1.heap.objs.size ≤ c := by
          have e' : c = s1.heap.objs.size + 5 ∨ c = s1.heap.objs.size + 4 ∨ c = s1.heap.objs.size + 2 ∨ c = s1.heap.objs.size + 3 ∨ c = s1.heap.objs.size ∨ c = s1.heap.objs.size + 1 := by simpa using hcm
          rcases e' with z | z | z | z | z | z
          · rw [z]; exact Nat.le_add_right _ _
          · rw [z]; exact Nat.le_add_right _ _
          · rw [z]; exact Nat.le_add_right _ _
          · rw [z]; exact Nat.le_add_right _ _
          · rw [z]; exact Nat.le_refl _
          · rw [z]; exact Nat.le_add_right _ _
        exact I1.fpOk hle (I1.hok.fresh hle)
      rw [se] at he ⊢
      have ne : ∀ {i j : Nat}, i ≠ j → s1.heap.objs.size + i ≠ s1.heap.objs.size + j := fun h q => h (Nat.add_left_cancel q)
      exact ⟨s1.heap.objs.size + 5, [s1.heap.objs.size + 5, s1.heap.objs.size + 4, s1.heap.objs.size + 2, s1.heap.objs.size + 3, s1.heap.objs.size, s1.heap.objs.size + 1], _, _, H1, rfl, I3,
        turn_enumZ (PySem.W.ktu_apart s1.heap.objs.size a b (Heap.lt_size ho1) (Heap.lt_size ho2)) (ne (by decide)) (ne (by decide)) (ne (by decide)) (Nat.ne_of_gt (Nat.lt_add_of_pos_right (by decide))) (ne (by decide)),
        ⟨⟨.none, he⟩, ⟨.none, false, hk2 _ _ hz, .inl rfl⟩, hk2 _ _ hTI, ⟨_, _, hk2 _ _ hTO⟩, h1.at fun o q => hk2 _ o q, h2.at fun o q => hk2 _ o q⟩, fresh6, q⟩
end Kx

set_option autoImplicit false
namespace J
open PySem PySem.Spec PyProof.Rows L2
variable {K : PySem.W.Frag} {P : Program} {w : World} {X : Cx}
/-! x in a list or tuple of data -/
def rInP (K : PySem.W.Frag) (neg : Bool) : R2 := fun x y H Q => ∃ p ps, Dp K H x p ∧ (Dp K H y (.list ps) ∨ Dp K H y (.tuple ps)) ∧ PyData.canLayAll0 ps = true ∧ p.canLay0 = true ∧ p.depth ≤ 60 ∧ Q (.bl (neg ^^ ps.any fun q => PyData.eqv q p)) H
theorem op_inP (hu : X.A.units + 64 < cLine) : OpR X (compareOp .In) (rInP X.K false) := by
  intro pins s σ H x y v u Q I rx ry h
  obtain ⟨p, ps, h1, h2, h3, h4, h5, q⟩ := h
  rw [Bool.false_xor] at q
  obtain ⟨as, r1⟩ := Dp.reads I p x v h1 rx
  have room : X.A.units + 1 + min (PyData.depthAll ps) p.depth < cLine := by have := Nat.min_le_right (PyData.depthAll ps) p.depth; omega
  rcases h2 with h2 | h2
  · obtain ⟨bs, r2⟩ := Dp.reads I _ y u h2 ry
    exact SeqAt.in_list_reads r2 r1 h3 h4 room ⟨.bl _, H, I, rfl, q⟩
  · obtain ⟨bs, r2⟩ := Dp.reads I _ y u h2 ry
    exact SeqAt.in_tuple_reads r2 r1 h3 h4 room ⟨.bl _, H, I, rfl, q⟩
theorem op_notInP (hu : X.A.units + 64 < cLine) : OpR X (compareOp .NotIn) (rInP X.K true) := by
  intro pins s σ H x y v u Q I rx ry h
  obtain ⟨p, ps, h1, h2, h3, h4, h5, q⟩ := h
  rw [Bool.true_xor] at q
  obtain ⟨as, r1⟩ := Dp.reads I p x v h1 rx
  have room : X.A.units + 1 + min (PyData.depthAll ps) p.depth < cLine := by have := Nat.min_le_right (PyData.depthAll ps) p.depth; omega
  rcases h2 with h2 | h2
  · obtain ⟨bs, r2⟩ := Dp.reads I _ y u h2 ry
    exact SeqAt.notIn_list_reads r2 r1 h3 h4 room ⟨.bl _, H, I, rfl, q⟩
  · obtain ⟨bs, r2⟩ := Dp.reads I _ y u h2 ry
    exact SeqAt.notIn_tuple_reads r2 r1 h3 h4 room ⟨.bl _, H, I, rfl, q⟩
def gInP (neg : Bool) : G2 := fun a b S => match a.pyS S, b.pyS S with
  | some p, some (.list ps) => if (PyData.canLayAll0 ps && p.canLay0 && decide (p.depth ≤ 60)) = true then some (.bl (neg ^^ ps.any fun q => PyData.eqv q p), S) else none
  | some p, some (.tuple ps) => if (PyData.canLayAll0 ps && p.canLay0 && decide (p.depth ≤ 60)) = true then some (.bl (neg ^^ ps.any fun q => PyData.eqv q p), S) else none
  | _, _ => none
theorem ro_inP {neg : Bool} : RO P w K (rInP K neg) (gInP neg) := by
  intro H μ S x y a b d S' Q hr rx ry e k
  unfold gInP at e
  split at e
  · rename_i p ps h1 h2
    split at e
    · rename_i c
      cases e
      simp only [Bool.and_eq_true, decide_eq_true_eq] at c
      exact ⟨p, ps, rx.dpS hr h1, .inl (ry.dpS hr h2), c.1.1, c.1.2, c.2, k _ H μ (.refl _ _) hr (.bl _)⟩
    · cases e
  · rename_i p ps h1 h2
    split at e
    · rename_i c
      cases e
      simp only [Bool.and_eq_true, decide_eq_true_eq] at c
      exact ⟨p, ps, rx.dpS hr h1, .inr (ry.dpS hr h2), c.1.1, c.1.2, c.2, k _ H μ (.refl _ _) hr (.bl _)⟩
    · cases e
  · cases e
theorem je_inP {a b : Expr} {fa fb : FE} {pos : Pos} (hu : X.A.units + 64 < cLine) (ha : JE X a fa) (hb : JE X b fb) (hm : behindInMarks .In b = false := by rfl) : JE X (.Compare a [.In] [b] pos) (fOp (gInP false) fa fb) := je_cmpR (op_inP hu) ro_inP ha hb hm
theorem je_notInP {a b : Expr} {fa fb : FE} {pos : Pos} (hu : X.A.units + 64 < cLine) (ha : JE X a fa) (hb : JE X b fb) (hm : behindInMarks .NotIn b = false := by rfl) : JE X (.Compare a [.NotIn] [b] pos) (fOp (gInP true) fa fb) := je_cmpR (op_notInP hu) ro_inP ha hb hm
theorem jt_inP {a b : Expr} {fa fb : FE} {pos : Pos} (hu : X.A.units + 64 < cLine) (ha : JE X a fa) (hb : JE X b fb) (hm : behindInMarks .In b = false := by rfl) : JT X (.Compare a [.In] [b] pos) (fTest (fOp (gInP false) fa fb)) := jt_cmpR (op_inP hu) ro_inP ha hb hm
theorem jt_notInP {a b : Expr} {fa fb : FE} {pos : Pos} (hu : X.A.units + 64 < cLine) (ha : JE X a fa) (hb : JE X b fb) (hm : behindInMarks .NotIn b = false := by rfl) : JT X (.Compare a [.NotIn] [b] pos) (fTest (fOp (gInP true) fa fb)) := jt_cmpR (op_notInP hu) ro_inP ha hb hm
/-! repr of None, of an int, of data -/
def gReprA : Fn := fun ds S => match ds with
  | [.non] => some (.str "None", S)
  | [.int i] => if i.natAbs < 2 ^ 1000 then some (.str (toString i), S) else none
  | ds => gRepr ds S
def rReprA (K : PySem.W.Frag) : List V → Hp → VK → Prop := fun xs H Q => ((xs = [.non] ∧ Q (.str "None") H) ∨ ∃ i, xs = [.int i] ∧ i.natAbs.log2 < 1920 ∧ Q (.str (toString i)) H) ∨ Kx.rRepr K xs H Q
theorem cr_reprA (hg : X.A.guards = some []) (hu : X.A.units + 64 < cLine) : CallR X (.builtin "repr") (rReprA X.K) := by
  intro pins s σ H xs us Q I r h
  rcases h with (⟨rfl, q⟩ | h) | h
  · obtain ⟨u, rfl, ru⟩ := vals1 r
    cases ru
    exact call_repr_gives (T := "NoneType") (id := "NoneType.__repr__") rfl F.slot_NoneType_repr F.entry_NoneType_repr (F.args_NoneType_repr_1 _) gives_none_repr ⟨.str "None", H, I.tok _, ⟨_, rfl⟩, q⟩
  · exact SkE.call_repr_int pins s σ H xs us Q I r h
  · exact cr_reprJ hg hu pins s σ H xs us Q I r h
theorem log2_of {n : Nat} (h : n < 2 ^ 1000) : n.log2 < 1920 := by
  by_cases z : n = 0
  · subst z; decide
  · exact Nat.lt_of_lt_of_le ((Nat.log2_lt z).mpr h) (by decide)
theorem rc_reprA : RC P w K (rReprA K) gReprA := by
  intro H μ S xs ds d S' Q hr rs e k
  unfold gReprA at e
  split at e
  · cases e
    obtain ⟨x, rfl, rx⟩ := rs.one
    cases rx
    exact .inl (.inl ⟨rfl, k _ H μ (.refl _ _) hr (.str _)⟩)
  · split at e
    · rename_i c
      cases e
      obtain ⟨x, rfl, rx⟩ := rs.one
      cases rx
      exact .inl (.inr ⟨_, rfl, log2_of c, k _ H μ (.refl _ _) hr (.str _)⟩)
    · cases e
  · exact .inr (rc_repr H μ S xs ds d S' Q hr rs e k)
/-! int(b) -/
def gInt1 : Fn := fun ds S => match ds with
  | [.bl b] => some (.int (if b then 1 else 0), S)
  | [.int i] => some (.int i, S)
  | _ => none
theorem rc_int1 : RC P w K (fun xs H Q => (∃ i, xs = [.int i] ∧ Q (.int i) H) ∨ ∃ k, xs = [.bl k] ∧ Q (.int (if k then 1 else 0)) H) gInt1 := by
  intro H μ S xs ds d S' Q hr rs e k
  unfold gInt1 at e
  split at e
  · cases e
    obtain ⟨x, rfl, rx⟩ := rs.one
    cases rx
    exact .inr ⟨_, rfl, k _ H μ (.refl _ _) hr (.int _)⟩
  · cases e
    obtain ⟨x, rfl, rx⟩ := rs.one
    cases rx
    exact .inl ⟨_, rfl, k _ H μ (.refl _ _) hr (.int _)⟩
  · cases e
/-! xs[::-1] -/
def gRevV : D → Sto → Option (D × Sto) := fun d S => match d.lsS S with
  | some ds => some (.lst ds.reverse, S)
  | none => none
def gRevN : D → Sto → Option (D × Sto) := fun d S => match d.lsS S with
  | some ds => some (.obj S.length, S ++ [.lst ds.reverse])
  | none => none
theorem je_revV {e : Expr} {f : FE} {k : Nat} {p1 p2 p3 pos : Pos} (h : JE X e f) : JE X (.Subscript e (.Slice none none (some (.UnaryOp .USub (.Constant (.int 1) k p1) p2)) p3) pos) (fUn gRevV f) := by
  obtain ⟨t, p, q⟩ := h
  refine ⟨_, pe_revL p, fun σ H μ env S d S' Q hr er hf kk => ?_⟩
  obtain ⟨a, S1, h1, h2⟩ := fUn_some hf
  refine q σ H μ env S a S1 _ hr er h1 fun v H1 μ1 l1 hr1 r1 => ?_
  unfold gRevV at h2
  split at h2
  · rename_i ds hd
    cases h2
    obtain ⟨p, ys, rfl, hs, hds⟩ := lsS_ok hr1 r1 hd
    refine ⟨p, ys, rfl, hs, fun q nq => ?_⟩
    obtain ⟨l4, hr4⟩ := hr1.new (o := .lst ys.reverse) nq
    exact kk _ _ μ1 (l1.trans l4) hr4 (.lst ⟨upd_same, hr1.free nq⟩ (hds.reverse.later l4))
  · cases h2
theorem je_revN {e : Expr} {f : FE} {k : Nat} {p1 p2 p3 pos : Pos} (h : JE X e f) : JE X (.Subscript e (.Slice none none (some (.UnaryOp .USub (.Constant (.int 1) k p1) p2)) p3) pos) (fUn gRevN f) := by
  obtain ⟨t, p, q⟩ := h
  refine ⟨_, pe_revL p, fun σ H μ env S d S' Q hr er hf kk => ?_⟩
  obtain ⟨a, S1, h1, h2⟩ := fUn_some hf
  refine q σ H μ env S a S1 _ hr er h1 fun v H1 μ1 l1 hr1 r1 => ?_
  unfold gRevN at h2
  split at h2
  · rename_i ds hd
    cases h2
    obtain ⟨p, ys, rfl, hs, hds⟩ := lsS_ok hr1 r1 hd
    refine ⟨p, ys, rfl, hs, fun q nq => ?_⟩
    obtain ⟨μ2, l2, hr2, e2⟩ := hr1.push (o := .lst ds.reverse) (u := .lst ys.reverse) nq fun H' μ' l e => ⟨_, e, hds.reverse.later l⟩
    exact kk _ _ μ2 (l1.trans l2) hr2 (.obj e2)
  · cases h2
/-! enumerate(zip(t, u)), zip(t, u) -/
def ezD (xs ys : List D) : List D := (xs.zip ys).mapIdx fun i p => .tup [.int (i : Int), .tup [p.1, p.2]]
def fEnumZ (g : FA) : FA := fun env S => match g env S with
  | some ([.tup xs, .tup ys], S1) => some (ezD xs ys, S1)
  | _ => none
theorem itf_ez {H0 : Hp} {μ0 : Mp} {a b : Addr} {xs ys : List V} {ds es : List D} (ha : TpR K H0 μ0 a xs) (hb : TpR K H0 μ0 b ys) (hd : RvAll K H0 μ0 xs ds) (he : RvAll K H0 μ0 ys es) : ItF P w K (Kx.IteZ K a b) (ezD ds es) μ0 H0 := by
  intro μ H l
  have sa : SqT K H a xs := TpR.sq (ha.imp l.rd id)
  have sb : SqT K H b ys := TpR.sq (hb.imp l.rd id)
  have l1 := hd.length
  have l2 := he.length
  have hl : (ezD ds es).length = min xs.length ys.length := by rw [ezD, List.length_mapIdx, List.length_zip, l1, l2]
  refine ⟨fun S hr => ⟨fun i hi => ?_, ?_⟩, fun i S x H' d hr h1 y => ?_⟩
  · have h1 : i < xs.length := by omega
    have h2 : i < ys.length := by omega
    exact ⟨xs, ys, xs[i], ys[i], sa, sb, by simp [h1], by simp [h2]⟩
  · exact ⟨xs, ys, sa, sb, by omega⟩
  · obtain ⟨T, U, u, v, rfl, hT, hU, ne, rfl, q1, q2⟩ := y
    have e1 := q1 xs sa
    have e2 := q2 ys sb
    obtain ⟨d1, d2, g1, g2, rfl⟩ : ∃ d1 d2, ds[i]? = some d1 ∧ es[i]? = some d2 ∧ d = .tup [.int (i : Int), .tup [d1, d2]] := by
      rw [ezD, List.getElem?_mapIdx] at h1
      obtain ⟨pp, h2, h3⟩ := Option.map_eq_some_iff.mp h1
      rw [List.getElem?_zip_eq_some] at h2
      exact ⟨pp.1, pp.2, h2.1, h2.2, h3.symm⟩
    obtain ⟨l3, hr3⟩ := hr.new (o := .tup [u, v]) hT
    have hU' : upd H T (.tup [u, v]) U = none := by rw [upd_ne ne]; exact hU
    obtain ⟨l4, hr4⟩ := hr3.new (o := .tup [.int (i : Nat), .ref T]) hU'
    refine ⟨l3.trans l4, hr4, .tup (.inl ⟨.inl upd_same, hr3.free hU'⟩) (.cons (.int _) (.cons ?_ .nil))⟩
    have t1 : Rv K (upd H T (.tup [u, v])) μ (.ref T) (.tup [d1, d2]) := .tup (.inl ⟨.inl upd_same, hr.free hT⟩) (.cons (((hd.later l).at e1 g1).later l3) (.cons (((he.later l).at e2 g2).later l3) .nil))
    exact t1.later l4
theorem ji_enumZ {e e2 : Expr} {g : FA} {p pos pz posz tpos : Pos} {elts : List Expr} {kk : Nat} (hg : Gl X "enumerate") (hm : X.mg "enumerate" = none) (hgz : Gl X "zip") (hmz : X.mg "zip" = none) (ha : JA X [e, e2] g)
    (hs0 : starEach [.Call (.Name "zip" pz) [e, e2] [] posz] X.env = [(false, eval (.Call (.Name "zip" pz) [e, e2] [] posz) X.env)] := by rfl) (hs : starEach [e, e2] X.env = (false, eval e X.env) :: starEach [e2] X.env := by rfl) (hpl : (backTo posz (starEach [e2] X.env)).any (·.1) = false := by rfl) :
    JI X (.Tuple elts kk tpos) (.Call (.Name "enumerate" p) [.Call (.Name "zip" pz) [e, e2] [] posz] [] pos) (fEnumZ g) := by
  obtain ⟨t, pa, q⟩ := ha
  refine ⟨_, Kx.pi_enumZ hg hm hgz hmz pa hs0 hs hpl, fun σ H μ env S ds S' R hr er hf k => ?_⟩
  unfold fEnumZ at hf
  split at hf
  · rename_i xs ys S1 e1
    cases hf
    refine q σ H μ env S _ _ _ hr er e1 fun vs H1 μ1 l hr1 r => ?_
    cases r with
    | cons r1 r =>
      cases r with
      | cons r2 r =>
        cases r
        cases r1 with
        | tup h1 h2 =>
          cases r2 with
          | tup h3 h4 => exact ⟨_, _, _, _, rfl, h1.sq, h3.sq, k _ H1 μ1 l hr1 (itf_ez h1 h3 h2 h4)⟩
  · cases hf
def zpD (xs ys : List D) : List D := (xs.zip ys).map fun p => .tup [p.1, p.2]
def fZip (g : FA) : FA := fun env S => match g env S with
  | some ([.tup xs, .tup ys], S1) => some (zpD xs ys, S1)
  | _ => none
theorem itf_zp {H0 : Hp} {μ0 : Mp} {a b : Addr} {xs ys : List V} {ds es : List D} (ha : TpR K H0 μ0 a xs) (hb : TpR K H0 μ0 b ys) (hd : RvAll K H0 μ0 xs ds) (he : RvAll K H0 μ0 ys es) : ItF P w K (RZ.ItzT K a b) (zpD ds es) μ0 H0 := by
  intro μ H l
  have sa : SqT K H a xs := TpR.sq (ha.imp l.rd id)
  have sb : SqT K H b ys := TpR.sq (hb.imp l.rd id)
  have l1 := hd.length
  have l2 := he.length
  have hl : (zpD ds es).length = min xs.length ys.length := by rw [zpD, List.length_map, List.length_zip, l1, l2]
  refine ⟨fun S hr => ⟨fun i hi => ?_, ?_⟩, fun i S x H' d hr h1 y => ?_⟩
  · have h1 : i < xs.length := by omega
    have h2 : i < ys.length := by omega
    exact ⟨xs, ys, xs[i], ys[i], sa, sb, by simp [h1], by simp [h2]⟩
  · exact ⟨xs, ys, sa, sb, by omega⟩
  · obtain ⟨T, u, v, rfl, hT, rfl, q1, q2⟩ := y
    have e1 := q1 xs sa
    have e2 := q2 ys sb
    obtain ⟨d1, d2, g1, g2, rfl⟩ : ∃ d1 d2, ds[i]? = some d1 ∧ es[i]? = some d2 ∧ d = .tup [d1, d2] := by
      rw [zpD, List.getElem?_map] at h1
      obtain ⟨pp, h2, h3⟩ := Option.map_eq_some_iff.mp h1
      rw [List.getElem?_zip_eq_some] at h2
      exact ⟨pp.1, pp.2, h2.1, h2.2, h3.symm⟩
    obtain ⟨l3, hr3⟩ := hr.new (o := .tup [u, v]) hT
    exact ⟨l3, hr3, .tup (.inl ⟨.inl upd_same, hr.free hT⟩) (.cons (((hd.later l).at e1 g1).later l3) (.cons (((he.later l).at e2 g2).later l3) .nil))⟩
theorem ji_zip {e e2 : Expr} {g : FA} {p pos tpos : Pos} {elts : List Expr} {kk : Nat} (hg : Gl X "zip") (hm : X.mg "zip" = none) (ha : JA X [e, e2] g)
    (hs : starEach [e, e2] X.env = (false, eval e X.env) :: starEach [e2] X.env := by rfl) (hpl : (backTo pos (starEach [e2] X.env)).any (·.1) = false := by rfl) : JI X (.Tuple elts kk tpos) (.Call (.Name "zip" p) [e, e2] [] pos) (fZip g) := by
  obtain ⟨t, pa, q⟩ := ha
  refine ⟨_, RZ.pi_zipA hg hm pa hs hpl, fun σ H μ env S ds S' R hr er hf k => ?_⟩
  unfold fZip at hf
  split at hf
  · rename_i xs ys S1 e1
    cases hf
    refine q σ H μ env S _ _ _ hr er e1 fun vs H1 μ1 l hr1 r => ?_
    cases r with
    | cons r1 r =>
      cases r with
      | cons r2 r =>
        cases r
        cases r1 with
        | tup h1 h2 =>
          cases r2 with
          | tup h3 h4 => exact ⟨_, _, _, _, rfl, .inr ⟨h1.sq, h3.sq, k _ H1 μ1 l hr1 (itf_zp h1 h3 h2 h4)⟩⟩
  · cases hf
/-! {k: v} with a tuple as its key -/
def tDispE1 (P : Program) (w : World) (K : PySem.W.Frag) (tk tv : TE) : TE := fun σ H Q => ∀ p, H p = none → tPairs [(tk, tv)] σ (upd H p (DictE P w p [])) fun ps H2 => H2 p = some (DictE P w p []) ∧ ∃ b k y, ps = [(.ref b, y)] ∧ KeyV K H2 (.ref b) k ∧ k.depth ≤ 8 ∧ Q (.ref p) (upd H2 p (DictE P w p [(k, b, y)]))
theorem pe_dispE1 {pos : Pos} {ke ve : Expr} {tk tv : TE} (hu : X.A.units + 64 < cLine) (hk : PE X ke tk) (hv : PE X ve tv) : PE X (.Dict [some ke] [ve] pos) (tDispE1 X.prog X.w X.K tk tv) := by
  refine ⟨fun pins s σ H Q I q => ?_⟩
  have hn := I.hok.fresh (Nat.le_refl s.heap.objs.size)
  have I1 := I.laid (a := s.heap.objs.size) (o := DictE X.prog X.w s.heap.objs.size []) (h' := s.heap.push { cls := .type "dict", data := .dict #[] }) (t' := s.toks) (fun _ _ q => Heap.get?_push_of_some _ q) (Nat.le_refl _)
    (dE_new (ys := []) (beq_eq_false_iff_ne.mpr (Ne.symm (Nat.ne_of_lt I.big))) (Nat.zero_le _) List.nodup_nil .nil (Heap.DictOfH.new s.heap))
  have room : (nestedKind X.prog X.w).room X.A := by
    show X.A.units + 8 < cLine
    omega
  rw [arm_eval_Dict, zip_pairTrees [some ke] [ve] X.env pos rfl rfl, dictDisplay_pairs (pairTrees [some ke] [ve] X.env pos) (by simp [pairTrees]) (by show 1 < 17; decide)]
  refine wpAny_bind (wpAny_standAt (wpAny_bind (wpAny_subDictH (knd := nestedKind X.prog X.w) (Q := fun d s' => wpAny (model X.prog X.w) X.A (pure (Value.ref d)) (EP X pins σ Q) X.xe s') room (by show 1 ≤ 15; decide) ?_)))
  refine thn ((pps_cons hk hv pps_nil).run pins _ σ _ _ I1 (q _ hn)) fun ws s2 ⟨ps, H2, I2, rel, e, b, k, y, ep, kv, dp, q2⟩ => ?_
  subst ep
  cases rel with
  | @cons _ pr _ _ h t =>
    cases t
    obtain ⟨h1, h2⟩ := h
    obtain ⟨kv1, vv1⟩ := pr
    have h1' : kv1 = Value.ref b := h1
    subst h1'
    obtain ⟨z1, z2, z3, ys, z4, z5⟩ := dE_ok I2 e (fun p hp => by cases hp)
    cases z4
    refine ⟨[(k, b, vv1)], ⟨rfl, rfl, key_is I2 kv dp, trivial⟩, z5, fun h' tk' dd hs => wpAny_pure ⟨.ref s.heap.objs.size, _, ?_, rfl, q2⟩⟩
    obtain ⟨o', _, _, ho', _⟩ := id dd
    exact d_write I2 (by rw [e]; exact True.intro) hs ⟨o', ho'⟩ (dE_new z1 (by show 1 ≤ sizeLine; decide) (by simp) (.cons ⟨rfl, rfl, h2⟩ .nil) dd)
/-- what is laid aside becomes numbered -/
theorem HR.adopt {H : Hp} {μ : Mp} {S : Sto} {p : Addr} {u : HO} {o : O} {x : List Addr} (hr : HR P w K H μ S) (hp : p ∈ μ.x) (hx : ∀ a, a ∈ x → a ∈ μ.x) (px : p ∉ x) (ho : ∀ H' μ', Dat μ H μ' H' → H' p = some u → OR P w K H' μ' p o) :
    Dat μ H ⟨μ.m ++ [p], x⟩ (upd H p u) ∧ HR P w K (upd H p u) ⟨μ.m ++ [p], x⟩ (S ++ [o]) ∧ (μ.m ++ [p])[S.length]? = some p := by
  have pm : p ∉ μ.m := fun z => hr.dj p z hp
  have d : Dat μ H ⟨μ.m ++ [p], x⟩ (upd H p u) := ⟨⟨[p], rfl⟩, fun a o h n nx => ⟨fun z => (List.mem_append.mp z).elim n (fun z => nx (by rw [List.mem_singleton.mp z]; exact hp)), fun z => nx (hx a z), by rw [upd_ne (show a ≠ p from fun z => nx (by rw [z]; exact hp))]; exact h⟩⟩
  refine ⟨d, ⟨by simp [hr.len], ?_, fun k a o' hk hs => ?_, fun a ha => ?_, fun a ha => ?_, fun a ha z => ?_⟩, by rw [← hr.len]; simp⟩
  · rw [List.nodup_append]
    exact ⟨hr.nd, by simp, fun a ha b hb => by rw [List.mem_singleton.mp hb]; exact fun z => pm (z ▸ ha)⟩
  · by_cases hlt : k < μ.m.length
    · have hk' : μ.m[k]? = some a := by rw [← hk]; exact (List.getElem?_append_left hlt).symm
      rw [List.getElem?_append_left (by rw [← hr.len]; exact hlt)] at hs
      have ne : a ≠ p := fun z => pm (z ▸ List.mem_of_getElem? hk')
      exact (hr.ok k a o' hk' hs).dat d (upd_ne ne)
    · have h1 : (μ.m ++ [p])[k]? = some a := hk
      rw [List.getElem?_append_right (by omega)] at h1
      have e : k - μ.m.length = 0 := by
        have := (List.getElem?_eq_some_iff.mp h1).1
        simp at this
        omega
      rw [e] at h1
      have ea : p = a := by simpa using h1
      subst ea
      rw [List.getElem?_append_right (by rw [← hr.len]; omega)] at hs
      rw [← hr.len, e] at hs
      have eo : o = o' := by simpa using hs
      subst eo
      exact ho _ _ d upd_same
  · rcases List.mem_append.mp ha with z | z
    · rw [upd_ne (show a ≠ p from fun q => pm (q ▸ z))]; exact hr.there a z
    · rw [List.mem_singleton.mp z, upd_same]; simp
  · rw [upd_ne (show a ≠ p from fun q => px (q ▸ ha))]; exact hr.thereX a (hx a ha)
  · rcases List.mem_append.mp ha with y | y
    · exact hr.dj a y (hx a z)
    · rw [List.mem_singleton.mp y] at z; exact px z
def fDisp1 (fk fv : FE) : FE := fun env S => match fk env S with
  | some (k, S1) => match fv env S1 with
    | some (v, S2) => match k.tkey with
      | some q => some (.obj S2.length, S2 ++ [.dct [(q, k, v)]])
      | none => none
    | none => none
  | none => none
theorem je_disp1 {pos : Pos} {ke ve : Expr} {fk fv : FE} (hu : X.A.units + 64 < cLine) (hk : JE X ke fk) (hv : JE X ve fv) : JE X (.Dict [some ke] [ve] pos) (fDisp1 fk fv) := by
  obtain ⟨tk, pk, qk⟩ := hk
  obtain ⟨tv, pv, qv⟩ := hv
  refine ⟨_, pe_dispE1 hu pk pv, fun σ H μ env S d S' Q hr er hf kk => ?_⟩
  unfold fDisp1 at hf
  split at hf
  · rename_i kd S1 e1
    split at hf
    · rename_i vd S2 e2
      split at hf
      · rename_i q hq
        cases hf
        intro p np
        obtain ⟨l0, hr0⟩ := hr.ext (o := DictE X.prog X.w p []) np
        refine qk σ _ _ env S kd S1 _ hr0 (er.later l0) e1 fun v1 H1 μ1 l1 hr1 r1 => ?_
        refine qv σ H1 μ1 env S1 vd S2 _ hr1 (er.later (l0.trans l1)) e2 fun v2 H2 μ2 l2 hr2 r2 => ?_
        have L := l1.trans l2
        have px2 : p ∈ μ2.x := L.ex p (by simp)
        have hp2 := (L.keep p _ upd_same (fun z => (hr.free np).1 z)).2.2
        have r1' := r1.later l2
        obtain ⟨b, rfl, kv, kd8, kq⟩ := tkey_ok r1' hq
        refine ⟨hp2, b, q, v2, rfl, kv, kd8, ?_⟩
        have mx : ∀ a, a ∈ μ.x → a ∈ μ2.x := fun a h => L.ex a (by simp [h])
        obtain ⟨dt, hr3, e3⟩ := hr2.adopt (u := DictE X.prog X.w p [(q, b, v2)]) (o := .dct [(q, kd, vd)]) px2 mx (hr.free np).2 fun H' μ' dt e => ⟨_, e, .cons kq kd8 (r1'.dat dt) (r2.dat dt) .nil⟩
        refine kk _ _ ⟨μ2.m ++ [p], μ.x⟩ ?_ hr3 (.obj e3)
        obtain ⟨ea, ha⟩ := (l0.trans L).ext
        refine ⟨⟨ea ++ [p], by show μ2.m ++ [p] = _; rw [ha, List.append_assoc]⟩, fun _ h => h, fun a o h n => ?_, fun a o u h => ?_⟩
        · have ne : a ≠ p := ne_of_none h np
          obtain ⟨n1, x1, q1⟩ := (l0.trans L).keep a o h n
          exact ⟨fun z => (List.mem_append.mp z).elim n1 (fun z => ne (List.mem_singleton.mp z)), id, by rw [upd_ne ne]; exact q1⟩
        · rw [upd_ne (ne_of_none h np)]
          exact (l0.trans L).frz a o u h
      · cases hf
    · cases hf
  · cases hf
end J

set_option autoImplicit false
namespace J
open PySem PySem.Spec PyProof.Rows L2
variable {K : PySem.W.Frag} {P : Program} {w : World} {X : Cx}
/-! a dict of the module, told by its entries: text keys -/
inductive EntR (K : PySem.W.Frag) : List DictEntry → List (Str × D) → Prop
  | nil : EntR K [] []
  | cons {e : DictEntry} {es : List DictEntry} {x : Str} {t : Tok} {v : V} {d : D} {kvs : List (Str × D)} : e.key = .str x t → RelV v e.val → (∀ H μ, Rv K H μ v d) → EntR K es kvs → EntR K (e :: es) ((x, d) :: kvs)
def luC (kvs : List (Str × D)) (z : Str) : Option D := (kvs.find? fun p => p.1 == z).map (·.2)
theorem EntR.ref {es : List DictEntry} {kvs : List (Str × D)} (h : EntR K es kvs) : es.any (·.refKey) = false := by
  induction h with
  | nil => rfl
  | cons e1 _ _ _ ih => rw [List.any_cons, ih, Bool.or_false]; unfold DictEntry.refKey; rw [e1]
theorem isStr_beq (x z : Str) (t : Tok) : (Value.str x t).isStr z = (x == z) := by
  unfold Value.isStr
  rfl
theorem EntR.find {es : List DictEntry} {kvs : List (Str × D)} (h : EntR K es kvs) (z : Str) : (∃ e v d, es.find? (·.key.isStr z) = some e ∧ luC kvs z = some d ∧ RelV v e.val ∧ ∀ H μ, Rv K H μ v d) ∨ (es.find? (·.key.isStr z) = none ∧ luC kvs z = none) := by
  induction h with
  | nil => exact .inr ⟨rfl, rfl⟩
  | @cons e es x t v d kvs e1 r rv _ ih =>
    unfold luC
    rw [List.find?_cons, List.find?_cons, e1, isStr_beq]
    cases c : x == z with
    | true => exact .inl ⟨e, v, d, rfl, rfl, r, rv⟩
    | false => exact ih
structure OkD (K : PySem.W.Frag) (w : World) (mg : Str → Option Value) (x : Str) (kvs : List (Str × D)) : Prop where
  ex : ∃ (p : Addr) (es : Array DictEntry) (n : Nat), mg x = some (.ref p) ∧ K.lookup p = some ⟨.type "dict", none, .dict es n, #[]⟩ ∧ PySem.W.KeysLit w.params es.toList ∧ (p == sysModules) = false ∧ EntR K es.toList kvs
theorem ns_of {p : Addr} {es : Array DictEntry} {n : Nat} {kvs : List (Str × D)} (h : K.lookup p = some ⟨.type "dict", none, .dict es n, #[]⟩) (r : EntR K es.toList kvs) (z : Str) : (∃ u v d, PySem.W.nsIn K p z = some (some u) ∧ luC kvs z = some d ∧ RelV v u ∧ ∀ H μ, Rv K H μ v d) ∨ (PySem.W.nsIn K p z = some none ∧ luC kvs z = none) := by
  rcases r.find z with ⟨e, v, d, h1, h2, h3, h4⟩ | ⟨h1, h2⟩
  · exact .inl ⟨e.val, v, d, by unfold PySem.W.nsIn; rw [h]; dsimp only; rw [h1], h2, h3, h4⟩
  · exact .inr ⟨by unfold PySem.W.nsIn; rw [h]; dsimp only; rw [h1, r.ref]; rfl, h2⟩
/-- z in CONST -/
def fInC (neg : Bool) (kvs : List (Str × D)) (f : FE) : FE := fun env S => match f env S with
  | some (.str z, S1) => some (.bl (neg ^^ (luC kvs z).isSome), S1)
  | _ => none
theorem fInC_some {neg : Bool} {kvs : List (Str × D)} {f : FE} {env : Env} {S S' : Sto} {d : D} (h : fInC neg kvs f env S = some (d, S')) : ∃ z, f env S = some (.str z, S') ∧ d = .bl (neg ^^ (luC kvs z).isSome) := by
  unfold fInC at h
  split at h
  · rename_i z S1 e; cases h; exact ⟨z, e, rfl⟩
  · cases h
def rInC (K : PySem.W.Frag) (p : Addr) (neg : Bool) : R2 := fun x y H Q => y = .ref p ∧ ∃ z r, x = .str z ∧ PySem.W.nsIn K p z = some r ∧ Q (.bl (neg ^^ r.isSome)) H
theorem op_inC {p : Addr} {es : Array DictEntry} {n : Nat} (hl : X.K.lookup p = some ⟨.type "dict", none, .dict es n, #[]⟩) (hk : PySem.W.KeysLit X.w.params es.toList) (lo : (p == sysModules) = false) : OpR X (compareOp .In) (rInC X.K p false) := by
  intro pins s σ H x y v u Q I rx ry h
  obtain ⟨rfl, z, r, rfl, e, q⟩ := h
  obtain ⟨t, rfl⟩ := rx
  obtain rfl : u = Value.ref p := ry
  rw [Bool.false_xor] at q
  exact wpAny_in_of (strKind_is X.prog X.w z t) lo (PySem.W.mapOf_K (prog := X.prog) I.kIn hl hk) (by rw [PySem.W.find_K hl e]; exact ⟨.bl _, H, I.tok _, rfl, q⟩)
theorem mm_in {x : Str} {p : Addr} {fc : FE} {pos : Pos} (hg : Gl X x) (hm : X.mg x = some (.ref p)) (hd : (x == ("__debug__" : Str)) = false) : PE X (.Name x pos) (tC (.ref p)) := pe_glob hg hm rfl hd
theorem je_inC {x : Str} {a : Expr} {f : FE} {kvs : List (Str × D)} {p1 pos : Pos} (c : OkD X.K X.w X.mg x kvs) (hg : Gl X x) (ha : JE X a f) (hd : (x == ("__debug__" : Str)) = false := by decide) (hm : behindInMarks .In (.Name x p1) = false := by rfl) : JE X (.Compare a [.In] [.Name x p1] pos) (fInC false kvs f) := by
  obtain ⟨p, es, n, h1, h2, h3, h4, h5⟩ := c.ex
  obtain ⟨t, pa, q⟩ := ha
  refine ⟨_, pe_cmpR (op_inC h2 h3 h4) pa (pe_glob hg h1 (v := .ref p) rfl hd) hm, fun σ H μ env S d S' Q hr er hf k => ?_⟩
  obtain ⟨z, e1, rfl⟩ := fInC_some hf
  refine q σ H μ env S _ S' _ hr er e1 fun v H1 μ1 l1 hr1 r1 => ?_
  cases r1
  rcases ns_of h2 h5 z with ⟨u, v, d, g1, g2, _, _⟩ | ⟨g1, g2⟩
  · rw [g2] at k
    exact ⟨rfl, z, _, rfl, g1, k _ H1 μ1 l1 hr1 (.bl _)⟩
  · rw [g2] at k
    exact ⟨rfl, z, _, rfl, g1, k _ H1 μ1 l1 hr1 (.bl _)⟩
theorem jt_inC {x : Str} {a : Expr} {f : FE} {kvs : List (Str × D)} {p1 pos : Pos} (c : OkD X.K X.w X.mg x kvs) (hg : Gl X x) (ha : JE X a f) (hd : (x == ("__debug__" : Str)) = false := by decide) (hm : behindInMarks .In (.Name x p1) = false := by rfl) : JT X (.Compare a [.In] [.Name x p1] pos) (fTest (fInC false kvs f)) := by
  obtain ⟨p, es, n, h1, h2, h3, h4, h5⟩ := c.ex
  obtain ⟨t, pa, q⟩ := ha
  refine ⟨_, pt_cmpR (op_inC h2 h3 h4) pa (pe_glob hg h1 (v := .ref p) rfl hd) hm, fun σ H μ env S d S' Q hr er hf k => ?_⟩
  obtain ⟨z, e1, e2⟩ := fInC_some (fTest_some hf)
  cases e2
  refine q σ H μ env S _ S' _ hr er e1 fun v H1 μ1 l1 hr1 r1 => ?_
  cases r1
  rcases ns_of h2 h5 z with ⟨u, v, d, g1, g2, _, _⟩ | ⟨g1, g2⟩
  · rw [g2] at k
    exact ⟨rfl, z, _, rfl, g1, _, rfl, k H1 μ1 l1 hr1⟩
  · rw [g2] at k
    exact ⟨rfl, z, _, rfl, g1, _, rfl, k H1 μ1 l1 hr1⟩
/-- CONST[z] -/
def fIxC (kvs : List (Str × D)) (f : FE) : FE := fun env S => match f env S with
  | some (.str z, S1) => match luC kvs z with
    | some d => some (d, S1)
    | none => none
  | _ => none
theorem fIxC_some {kvs : List (Str × D)} {f : FE} {env : Env} {S S' : Sto} {d : D} (h : fIxC kvs f env S = some (d, S')) : ∃ z, f env S = some (.str z, S') ∧ luC kvs z = some d := by
  unfold fIxC at h
  split at h
  · rename_i z S1 e
    split at h
    · rename_i d1 e1; cases h; exact ⟨z, e, e1⟩
    · cases h
  · cases h
theorem je_ixC {x : Str} {a : Expr} {f : FE} {kvs : List (Str × D)} {p1 pos : Pos} (c : OkD X.K X.w X.mg x kvs) (hg : Gl X x) (ha : JE X a f) (hd : (x == ("__debug__" : Str)) = false := by decide) (hs : NoSl a := by exact fun _ _ => rfl) : JE X (.Subscript (.Name x p1) a pos) (fIxC kvs f) := by
  obtain ⟨p, es, n, h1, h2, h3, h4, h5⟩ := c.ex
  obtain ⟨t, pa, q⟩ := ha
  refine ⟨_, pe_ix ix_kdict (pe_glob hg h1 (v := .ref p) rfl hd) pa hs, fun σ H μ env S d S' Q hr er hf k => ?_⟩
  obtain ⟨z, e1, e2⟩ := fIxC_some hf
  refine q σ H μ env S _ S' _ hr er e1 fun v H1 μ1 l1 hr1 r1 => ?_
  cases r1
  rcases ns_of h2 h5 z with ⟨u, v, d', g1, g2, g3, g4⟩ | ⟨g1, g2⟩
  · rw [g2] at e2
    cases e2
    exact ⟨p, z, v, rfl, rfl, ⟨es, n, u, h2, h3, g1, g3⟩, k v H1 μ1 l1 hr1 (g4 _ _)⟩
  · rw [g2] at e2; cases e2
end J

set_option autoImplicit false
namespace J
open PySem PySem.Spec PyProof.Rows L2
section

/-- a list extended by a tuple of whatever parts -/
theorem ext_tup {ys zs : Array Value} {D2 : Option Addr} {l2 : Array (Option Value)} (a : Addr) (m : Nat) (t : Addr) (m2 : Nat) (short : ¬(!ys.isEmpty && Builtin.List.listTooLong (ys.size + zs.size)) = true) (z1 : ys.size ≤ sizeLine) (z2 : ys.size + zs.size ≤ sizeLine + 1) :
    Meets (Builtin.«list.extend» ⟨[.ref a, .ref t], []⟩)
      (fun _ R s => s.heap.get? a = some ⟨.type "list", none, .seq ys m, #[]⟩ ∧ s.heap.get? t = some ⟨.type "tuple", D2, .seq zs m2, l2⟩ ∧
        R (.ok (.ret Value.none)) { s with heap := s.heap.update a (Obj.mapSeq fun x => x ++ zs), toks := s.toks }) :=
  .of_wp fun prog w A R s hh => by
    obtain ⟨hp, g, d, tk, os⟩ := s
    obtain ⟨ha, ht, hh⟩ := hh
    have g1 := AutoSeq1.sub_tuple_tuple
    have g2 := AutoSeq1.sub_list_list
    have g3 := AutoSeq1.sub_tuple_list
    have g4 := AutoSeq1.sub_list_tuple
    have zz : (ys ++ zs).size ≤ sizeLine + 1 := by
      rw [Array.size_append]
      exact z2
    wp_walk using (wpAny_updateSeq ha rfl (hz := z1) (_hz' := zz)), AutoSeq1.wpAny_loadPart' ha, AutoSeq1.wpAny_loadPart' ht
    exact ⟨_, rfl, hh⟩
end
section
variable {X : Cx} {K : PySem.W.Frag} {P : Program} {w : World}
def rExtT (K : PySem.W.Frag) : V → List V → Hp → VK → Prop := fun x vs H Q => ∃ l b xs zs, x = .ref l ∧ vs = [.ref b] ∧ H l = some (.lst xs) ∧ SqT K H b zs ∧ xs.length + zs.length ≤ sizeLine ∧ Q .non (upd H l (.lst (xs ++ zs)))
theorem mt_extT : MtM X "list.extend" (rExtT X.K) := by
  intro pins s σ H x vs v us Q I rx rv hh
  obtain ⟨l, b, xs, zs, rfl, rfl, hl, hb, hz, q⟩ := hh
  cases rx
  obtain ⟨u, rfl, ru⟩ := rv.one
  cases ru
  obtain ⟨z, its, n, r, hn, e⟩ := I.lstM hl
  obtain ⟨its2, r2, ⟨⟨c2, d2, dt2, s2⟩, e2, hc, n2, hd⟩, hz2⟩ := I.tuple hb
  have len2 := r2.length
  simp only at hc hd
  subst hc
  subst hd
  have sum : its.toArray.size + its2.toArray.size ≤ sizeLine := by
    simp only [List.size_toArray]
    omega
  have short : ¬ (!its.toArray.isEmpty && Builtin.List.listTooLong (its.toArray.size + its2.toArray.size)) = true := by
    rw [notLongL sum, Bool.and_false]
    exact Bool.false_ne_true
  refine call_meets F.slot_list_extend ⟨_, e, rfl⟩ F.entry_list_extend (F.args_list_extend_2 _ _) (ext_tup l n b n2 short (by omega) (by omega)) ⟨e, e2, ?_⟩
  refine ⟨.non, _, I.lset (its' := its ++ its2) hl e (by simp) (r.append r2) ?_, rfl, q⟩
  rw [List.length_append]
  omega
/-- xs.extend(t), by values -/
def gExtT : GM := fun a ds S => match a, ds with
  | .obj k, [.tup bs] => match S[k]? with
    | some (.lst es) => if es.length + bs.length ≤ 100000 then some (.non, S.set k (.lst (es ++ bs))) else none
    | _ => none
  | _, _ => none
theorem rm_extT : RM P w K (rExtT K) gExtT := by
  intro H μ S x xs a d ds S' Q hr rx rs e k
  unfold gExtT at e
  split at e
  · split at e
    · rename_i es h
      split at e
      · rename_i hl
        cases e
        obtain ⟨p, rfl, h1, ys, h2, h3⟩ := hr.at rx h
        obtain ⟨y, rfl, ry⟩ := rs.one
        cases ry with
        | tup h4 h5 =>
          refine ⟨p, _, ys, _, rfl, rfl, h2, h4.sq, by rw [h3.length, h5.length]; exact le100 hl, ?_⟩
          obtain ⟨l, hr2⟩ := hr.put (u := .lst (ys ++ _)) (o := .lst (es ++ _)) h1 (fun _ _ z => by rw [h2] at z; cases z) fun H' dt e => ⟨_, e, (h3.append h5).dat dt⟩
          exact k _ _ μ l hr2 .non
      · cases e
    · cases e
  · cases e
end
end J

set_option autoImplicit false
namespace J
open PySem PySem.Spec PyProof.Rows L2
variable {K : PySem.W.Frag} {P : Program} {w : World} {X : Cx}
/-! defs that may raise -/
abbrev Xv := Str × List (Str × D)
abbrev FnX := List D → Sto → Option (Xv × Sto)
abbrev FX := J.Env → Sto → Option (Xv × Sto)
def spX (P : Program) (w : World) (K : PySem.W.Frag) (mg : Str → Option Value) (n : Nat) (F : Fn) (G : FnX) : Sp := fun vs H Q E => ∃ (μ : Mp) (S : Sto) (ds : List D), vs.length = n ∧ HR P w K H μ S ∧ RvAll K H μ vs ds ∧
  ((∃ d S', F ds S = some (d, S') ∧ ∀ v H' μ', Later μ H μ' H' → HR P w K H' μ' S' → Rv K H' μ' v d → Q v H') ∨
    ∃ x fs S', G ds S = some ((x, fs), S') ∧ ∀ cls d H' μ', mg x = some cls → Later μ H μ' H' → HR P w K H' μ' S' → XdR K H' μ' d fs → E cls d H')
open Classical in
noncomputable def runX (n : Nat) (b : FS) : FnX := fun ds S => match b (startD n ds) S with
  | some (.xc x fs, _, S') => if Keeps S S' ∧ (fs.all fun p => D.und 0 p.2) = true then some ((x, fs), S'.take S.length) else none
  | _ => none
theorem all_und_mono {n : Nat} : ∀ {fs : List (Str × D)}, (fs.all fun p => D.und 0 p.2) = true → (fs.all fun p => D.und n p.2) = true
  | [], _ => rfl
  | p :: fs, h => by
    rw [List.all_cons, Bool.and_eq_true] at h ⊢
    exact ⟨D.und_mono (Nat.zero_le _) h.1, all_und_mono h.2⟩
theorem XdR.short {H : Hp} {μ ν : Mp} {n : Nat} {d : Option Addr} {fs : List (Str × D)} (s : Short n μ ν) (h : XdR K H μ d fs) (u : (fs.all fun p => D.und 0 p.2) = true) : XdR K H ν d fs := by
  rcases h with h | ⟨a, gs, e1, e2, e3, e4⟩
  · exact .inl h
  · exact .inr ⟨a, gs, e1, e2, s.out e3, e4.short s (all_und_mono u)⟩
theorem okX {mg : Str → Option Value} {base : Heap} {x qual : Str} {st : Stmt} {f : Addr} {fd : FuncData} {N ps : List Str} {k : Nat} {b : FS} {md : Md} (F : Fun K x qual st f fd) (S : FnScope N ps (defScope st))
    (hb : ∀ (cdv : Value) (A : Around) (outer : List PySem.Env) (s : Shared) (H : Hp) (E : XK), Room k (A.deeper (envOfC qual (defScope st) s.heap.objs.size f cdv)) → JSs (cxOf (L2.CX P w) P w K mg base N qual (defScope st) f cdv A outer s H E) (defBody st) b) :
    FnOk P w K mg base (L2.CX P w) (k + 1) f fd ps (spX P w K mg ps.length (runD md N.length b) (runX N.length b)) := by
  refine F.okX S (fun vs H Q E h => ?_) (fun cdv A outer s H vs Q E hr h => ?_)
  · obtain ⟨_, _, _, h, _⟩ := h
    exact h
  · obtain ⟨μ, S0, ds, hl, hR, r, h⟩ := h
    obtain ⟨t, p, qs⟩ := hb cdv A outer s H E hr
    refine ⟨t, p, ?_⟩
    rcases h with ⟨d, S', hf, q⟩ | ⟨y, fs, S', hf, q⟩
    · unfold runD at hf
      split at hf
      · rename_i d1 env1 S1 e1
        refine qs (start N vs) H μ _ S0 _ env1 S1 _ hR (start_er r) e1 fun σ' H' μ' l hR' er' v rv => ?_
        obtain ⟨μ2, l2, h2, r2⟩ := gc_ok hR l hR' rv hf
        exact q v H' μ2 l2 h2 r2
      · rename_i env1 S1 e1
        refine qs (start N vs) H μ _ S0 _ env1 S1 _ hR (start_er r) e1 fun σ' H' μ' l hR' er' => ?_
        obtain ⟨μ2, l2, h2, r2⟩ := gc_ok hR l hR' .non hf
        exact q _ H' μ2 l2 h2 r2
      · cases hf
    · unfold runX at hf
      split at hf
      · rename_i y1 fs1 env1 S1 e1
        split at hf
        · rename_i hk
          cases hf
          refine qs (start N vs) H μ _ S0 _ env1 S1 _ hR (start_er r) e1 fun σ' H' μ' l hR' er' cls d hm xd => ?_
          obtain ⟨sh, h2, l2⟩ := short_HR hR l hR' hk.1
          exact ⟨fun cls d _ H => E cls d H, takes_of rfl rfl rfl rfl, q cls d H' μ hm l2 h2 (xd.short sh hk.2)⟩
        · cases hf
      · cases hf
/-- where it raises nothing -/
theorem spX_calm {mg : Str → Option Value} {base : Heap} {f : Addr} {fd : FuncData} {ps : List Str} {k n : Nat} {F : Fn} {G : FnX} (h : FnOk P w K mg base (L2.CX P w) k f fd ps (spX P w K mg n F G)) : FnOk P w K mg base CX0 k f fd ps (spJ P w K n F) := by
  refine ⟨fun vs H Q E q => ?_, fun A outer s H args us vs Q E hr h0 hb hv q => ?_⟩
  · obtain ⟨μ, S, ds, d, S', hl, hR, r, hf, q⟩ := q
    exact h.len vs H Q (fun _ _ _ => False) ⟨μ, S, ds, hl, hR, r, .inl ⟨d, S', hf, q⟩⟩
  · obtain ⟨μ, S, ds, d, S', hl, hR, r, hf, q⟩ := q
    refine codeAny_mono (h.run A outer s H args us vs Q (fun _ _ _ => False) hr h0 hb hv ⟨μ, S, ds, hl, hR, r, .inl ⟨d, S', hf, q⟩⟩) fun r s' z => ?_
    cases r with
    | error e =>
      obtain ⟨_, _, _, _, _, _, _, _, _, _, _, _, z⟩ := z
      exact z.elim
    | ok fl => cases fl <;> exact z
/-! an expression that raises -/
def JX (X : Cx) (e : Expr) (g : FX) : Prop := ∃ t : TE, PE X e t ∧ ∀ (σ : L2.St) (H : Hp) (μ : Mp) (env : J.Env) (S : Sto) (x : Str) (fs : List (Str × D)) (S' : Sto) (Q : VK), HR X.prog X.w X.K H μ S → ER X.K H μ σ env → g env S = some ((x, fs), S') →
  (∀ cls d H' μ', X.mg x = some cls → Later μ H μ' H' → HR X.prog X.w X.K H' μ' S' → XdR X.K H' μ' d fs → WM X cls d σ H') → t σ H Q
def JXA (X : Cx) (es : List Expr) (g : FX) : Prop := ∃ t : TA, PA X es t ∧ ∀ (σ : L2.St) (H : Hp) (μ : Mp) (env : J.Env) (S : Sto) (x : Str) (fs : List (Str × D)) (S' : Sto) (Q : List V → Hp → Prop), HR X.prog X.w X.K H μ S → ER X.K H μ σ env → g env S = some ((x, fs), S') →
  (∀ cls d H' μ', X.mg x = some cls → Later μ H μ' H' → HR X.prog X.w X.K H' μ' S' → XdR X.K H' μ' d fs → WM X cls d σ H') → t σ H Q
theorem jxa_hd {e : Expr} {es : List Expr} {g : FX} {f : FA} (he : JX X e g) (hb : JA X es f) (hs : starEach (e :: es) X.env = (false, eval e X.env) :: starEach es X.env := by rfl) : JXA X (e :: es) g := by
  obtain ⟨ta, pa, qa⟩ := he
  obtain ⟨tb, pb, qb⟩ := hb
  exact ⟨_, pa_cons pa pb hs, fun σ H μ env S x fs S' Q hr er hf k => qa σ H μ env S x fs S' _ hr er hf k⟩
def gxTl (f : FE) (g : FX) : FX := fun env S => match f env S with
  | some (_, S1) => g env S1
  | none => none
theorem jxa_tl {e : Expr} {es : List Expr} {f : FE} {g : FX} (he : JE X e f) (hb : JXA X es g) (hs : starEach (e :: es) X.env = (false, eval e X.env) :: starEach es X.env := by rfl) : JXA X (e :: es) (gxTl f g) := by
  obtain ⟨ta, pa, qa⟩ := he
  obtain ⟨tb, pb, qb⟩ := hb
  refine ⟨_, pa_cons pa pb hs, fun σ H μ env S x fs S' Q hr er hf k => ?_⟩
  unfold gxTl at hf
  split at hf
  · rename_i d S1 e1
    refine qa σ H μ env S d S1 _ hr er e1 fun v H1 μ1 l1 hr1 r1 => ?_
    exact qb σ H1 μ1 env S1 x fs S' _ hr1 (er.later l1) hf fun cls d H' μ' hm l => k cls d H' μ' hm (l1.trans l)
  · cases hf
/-- an index of what raises -/
theorem jx_sx {a b : Expr} {g : FX} {fb : FE} {pos : Pos} (ha : JX X a g) (hb : JE X b fb) (hs : PlainIx b := by exact fun _ _ => rfl) : JX X (.Subscript a b pos) g := by
  obtain ⟨ta, pa, qa⟩ := ha
  obtain ⟨tb, pb, qb⟩ := hb
  exact ⟨_, pe_ix ix_seq pa pb hs, fun σ H μ env S x fs S' Q hr er hf k => qa σ H μ env S x fs S' _ hr er hf k⟩
/-! calls whose arguments raise -/
theorem jx_callFA {j k n : Nat} {F : Fn} {x : Str} {p pos : Pos} {e : Expr} {es : List Expr} {g : FX} (G : OkF X.prog X.w X.K X.mg X.base x n F j) (hr : Room k X.A) (hg : Gl X x) (ha : JXA X (e :: es) g) (hj : j ≤ k := by decide) (hdb : (x == ("__debug__" : Str)) = false := by decide) (he : starEach (e :: es) X.env = (false, eval e X.env) :: starEach es X.env := by rfl) (hpl : (backTo pos (starEach es X.env)).any (·.1) = false := by rfl) :
    JX X (.Call (.Name x p) (e :: es) [] pos) g := by
  obtain ⟨f, fd, ps, h1, h2, h3, h4⟩ := G
  obtain ⟨ta, pa, qa⟩ := ha
  exact ⟨_, pe_call (dvs := []) (ds := []) (h4.mono hj) hr hg h1 h2 h3 .nil pass0 pa hdb he hpl, fun σ H μ env S y fs S' Q hR er hf kk => qa σ H μ env S y fs S' _ hR er hf kk⟩
theorem jx_callKA {j k n i : Nat} {F : Fn} {x : Str} {p pos : Pos} {e : Expr} {es : List Expr} {kws : List Keyword} {g : FX} {gk : FA} (G : OkK X.prog X.w X.K X.mg X.base x i n F j) (hr : Room k X.A) (hg : Gl X x) (ha : JXA X (e :: es) g) (hkw : JK X kws gk) (hj : j ≤ k := by decide)
    (hall : (backToKw pos (keywordEach kws X.env)).all (·.1.isSome) = true := by rfl) (hks : (backToKw pos (keywordEach kws X.env)).filterMap (·.1) = [("base" : Str)] := by rfl)
    (hdb : (x == ("__debug__" : Str)) = false := by decide) (he : starEach (e :: es) X.env = (false, eval e X.env) :: starEach es X.env := by rfl)
    (hpl : ((backTo pos (starEach (e :: es) X.env)).any (·.1) || (backToKw pos (keywordEach kws X.env)).any (·.1.isNone)) = false := by rfl) :
    JX X (.Call (.Name x p) (e :: es) kws pos) g := by
  obtain ⟨f, fd, ps, h1, h2, h3, h5, h4⟩ := G
  obtain ⟨ta, pa, qa⟩ := ha
  obtain ⟨tk, pk, qk⟩ := hkw
  exact ⟨_, pe_callN (h4.mono hj) hr hg h1 h2 h3 pass0 pa pk hall hks hdb he hpl, fun σ H μ env S y fs S' Q hR er hf kk => qa σ H μ env S y fs S' _ hR er hf kk⟩
/-! calls that raise -/
def OkFX (P : Program) (w : World) (K : PySem.W.Frag) (mg : Str → Option Value) (base : Heap) (x : Str) (n : Nat) (F : Fn) (G : FnX) (k : Nat) : Prop :=
  ∃ (f : Addr) (fd : FuncData) (ps : List Str), mg x = some (.ref f) ∧ PySem.W.keepIn K (.ref f) = true ∧ Binds K fd ps [] ∧ FnOk P w K mg base (L2.CX P w) k f fd ps (spX P w K mg n F G)
def OkKX (P : Program) (w : World) (K : PySem.W.Frag) (mg : Str → Option Value) (base : Heap) (x : Str) (i n : Nat) (F : Fn) (G : FnX) (k : Nat) : Prop :=
  ∃ (f : Addr) (fd : FuncData) (ps : List Str), mg x = some (.ref f) ∧ PySem.W.keepIn K (.ref f) = true ∧ KBn K fd ps i [("base" : Str)] (fun us ws => us ++ ws) (fun vs zs => vs ++ zs) ∧ (∃ ds, Vals [.int 3] ds ∧ Binds K fd ps ds) ∧ FnOk P w K mg base (L2.CX P w) k f fd ps (spX P w K mg n F G)
theorem OkFX.calm {mg : Str → Option Value} {base : Heap} {x : Str} {n k : Nat} {F : Fn} {G : FnX} (h : OkFX P w K mg base x n F G k) : OkF P w K mg base x n F k := let ⟨f, fd, ps, h1, h2, h3, h4⟩ := h; ⟨f, fd, ps, h1, h2, h3, spX_calm h4⟩
theorem OkKX.calm {mg : Str → Option Value} {base : Heap} {x : Str} {i n k : Nat} {F : Fn} {G : FnX} (h : OkKX P w K mg base x i n F G k) : OkK P w K mg base x i n F k := let ⟨f, fd, ps, h1, h2, h3, h5, h4⟩ := h; ⟨f, fd, ps, h1, h2, h3, h5, spX_calm h4⟩
def gCall (n : Nat) (G : FnX) (g : FA) (dd : List D) : FX := fun env S => match g env S with
  | some (ds, S1) => if (ds ++ dd).length = n then G (ds ++ dd) S1 else none
  | none => none
def gCallN (n i j : Nat) (G : FnX) (h : List D → List D → List D) (g gk : FA) : FX := fun env S => match g env S with
  | some (ds, S1) => match gk env S1 with
    | some (es, S2) => if ds.length = i ∧ es.length = j ∧ (h ds es).length = n then G (h ds es) S2 else none
    | none => none
  | none => none
theorem jx_callF {j k n : Nat} {F : Fn} {GX : FnX} {x : Str} {p pos : Pos} {e : Expr} {es : List Expr} {g : FA} (G : OkFX X.prog X.w X.K X.mg X.base x n F GX j) (hr : Room k X.A) (hg : Gl X x) (ha : JA X (e :: es) g) (hj : j ≤ k := by decide) (hdb : (x == ("__debug__" : Str)) = false := by decide) (he : starEach (e :: es) X.env = (false, eval e X.env) :: starEach es X.env := by rfl) (hpl : (backTo pos (starEach es X.env)).any (·.1) = false := by rfl) :
    JX X (.Call (.Name x p) (e :: es) [] pos) (gCall n GX g []) := by
  obtain ⟨f, fd, ps, h1, h2, h3, h4⟩ := G
  obtain ⟨ta, pa, qa⟩ := ha
  refine ⟨_, pe_callS (h4.mono hj) hr hg h1 h2 h3 (fun σ => passAt (takesM X) σ) pa hdb he hpl, fun σ H μ env S y fs S' Q hR er hf kk => ?_⟩
  unfold gCall at hf
  split at hf
  · rename_i as S1 e1
    split at hf
    · rename_i hl
      refine qa σ H μ env S as S1 _ hR er e1 fun vs H1 μ1 l1 hR1 r1 => ?_
      rw [List.append_nil] at hf hl
      exact ⟨μ1, S1, as, r1.length.trans hl, hR1, r1, .inr ⟨y, fs, S', hf, fun cls d H' μ' hm l => kk cls d H' μ' hm (l1.trans l)⟩⟩
    · cases hf
  · cases hf
/-- keywords, and what is raised is wished for at the slots -/
def tCallNS (n m : Nat) (sp : Sp) (gV : List V → List V → List V) (E : L2.St → XK) (t tk : TA) : TE := fun σ H Q => t σ H fun vs H1 => tk σ H1 fun zs H2 => vs.length = n ∧ zs.length = m ∧ sp (gV vs zs) H2 Q (E σ)
theorem pe_callNS {CX : CXT} {k n : Nat} {f : Addr} {fd : FuncData} {ps ks : List Str} {sp : Sp} {E : L2.St → XK} {x : Str} {p pos : Pos} {e : Expr} {es : List Expr} {kws : List Keyword} {t tk : TA} {g : List Value → List Value → List Value} {gV : List V → List V → List V}
    (F : FnOk X.prog X.w X.K X.mg X.base CX k f fd ps sp) (hr : Room k X.A) (hg : Gl X x) (hm : X.mg x = some (.ref f)) (hk : PySem.W.keepIn X.K (.ref f) = true) (hb : KBn X.K fd ps n ks g gV) (hx : ∀ σ, PassesAt CX X σ (E σ))
    (ha : PA X (e :: es) t) (hkw : PK X kws tk) (hall : (backToKw pos (keywordEach kws X.env)).all (·.1.isSome) = true) (hks : (backToKw pos (keywordEach kws X.env)).filterMap (·.1) = ks)
    (hdb : (x == ("__debug__" : Str)) = false) (he : starEach (e :: es) X.env = (false, eval e X.env) :: starEach es X.env)
    (hpl : ((backTo pos (starEach (e :: es) X.env)).any (·.1) || (backToKw pos (keywordEach kws X.env)).any (·.1.isNone)) = false) :
    PE X (.Call (.Name x p) (e :: es) kws pos) (tCallNS n ks.length sp gV E t tk) := by
  refine ⟨fun pins s σ H Q I h => wpAny_Call_Name_kw (ld_glob I hg hm ?_ hdb)⟩
  refine PySem.W.callWith_KW (h₀ := X.base) I.ok.mod.kin hk hall (thn (ha.run pos pins s σ H _ I h) fun us s1 ⟨vs, H1, I1, r, q⟩ => ?_) hpl he
  refine thn (hkw.run pos pins s1 σ H1 _ I1 q) fun ws s2 ⟨zs, H2, I2, rz, l1, l2, q2⟩ => ⟨I2.kIn, ?_⟩
  rw [hks]
  have rr := hb.rel r rz
  refine wpAny_call (codeAny_mono (F.run X.A X.stack s2 H2 ⟨us, ks.zip ws⟩ (g us ws) (gV vs zs) Q (E σ) hr I2.env0 (hb.to s2 us ws I2.kIn (r.length.symm.trans l1) (rz.length.symm.trans l2)) rr q2) fun out s3 hq => ?_)
  cases out with
  | error u => exact hx σ pins H2 s2 u s3 I2 hq
  | ok fl =>
    cases fl with
    | ret u => exact I2.after hq
    | next => exact False.elim hq
    | brk => exact False.elim hq
    | cont => exact False.elim hq
theorem jx_callK {j k n i : Nat} {F : Fn} {GX : FnX} {x : Str} {p pos : Pos} {e : Expr} {es : List Expr} {kws : List Keyword} {g gk : FA} (G : OkKX X.prog X.w X.K X.mg X.base x i n F GX j) (hr : Room k X.A) (hg : Gl X x) (ha : JA X (e :: es) g) (hkw : JK X kws gk) (hj : j ≤ k := by decide)
    (hall : (backToKw pos (keywordEach kws X.env)).all (·.1.isSome) = true := by rfl) (hks : (backToKw pos (keywordEach kws X.env)).filterMap (·.1) = [("base" : Str)] := by rfl)
    (hdb : (x == ("__debug__" : Str)) = false := by decide) (he : starEach (e :: es) X.env = (false, eval e X.env) :: starEach es X.env := by rfl)
    (hpl : ((backTo pos (starEach (e :: es) X.env)).any (·.1) || (backToKw pos (keywordEach kws X.env)).any (·.1.isNone)) = false := by rfl) :
    JX X (.Call (.Name x p) (e :: es) kws pos) (gCallN n i 1 GX (fun as bs => as ++ bs) g gk) := by
  obtain ⟨f, fd, ps, h1, h2, h3, h5, h4⟩ := G
  obtain ⟨ta, pa, qa⟩ := ha
  obtain ⟨tk, pk, qk⟩ := hkw
  refine ⟨_, pe_callNS (h4.mono hj) hr hg h1 h2 h3 (fun σ => passAt (takesM X) σ) pa pk hall hks hdb he hpl, fun σ H μ env S y fs S' Q hR er hf kk => ?_⟩
  unfold gCallN at hf
  split at hf
  · rename_i as S1 e1
    split at hf
    · rename_i bs S2 e2
      split at hf
      · rename_i hl
        refine qa σ H μ env S as S1 _ hR er e1 fun vs H1 μ1 l1 hR1 r1 => ?_
        refine qk σ H1 μ1 env S1 bs S2 _ hR1 (er.later l1) e2 fun zs H2 μ2 l2 hR2 r2 => ?_
        have r3 := (r1.later l2).append r2
        exact ⟨r1.length.trans hl.1, r2.length.trans hl.2.1, μ2, S2, as ++ bs, r3.length.trans hl.2.2, hR2, r3, .inr ⟨y, fs, S', hf, fun cls d H' μ' hm l => kk cls d H' μ' hm (l1.trans (l2.trans l))⟩⟩
      · cases hf
    · cases hf
  · cases hf
/-! statements -/
def fRaise (x : Str) (f : Str) (fe : FE) : FS := fun env S => match fe env S with
  | some (d, S1) => some (.xc x [(f, d)], env, S1)
  | none => none
/-- raise x(e) by what makes the exception -/
theorem js_raise {e : Expr} {t : L2.St → Hp → XK → Prop} {x f : Str} {fe : FE} {C : Addr} {pos : Pos} (hc : X.calm = true) (hm : X.mg x = some (.ref C)) (hp : PMk X e t)
    (hq : ∀ (σ : L2.St) (H : Hp) (μ : Mp) (env : J.Env) (S : Sto) (d : D) (S' : Sto) (Q : XK), HR X.prog X.w X.K H μ S → ER X.K H μ σ env → fe env S = some (d, S') →
      (∀ v H' μ', Later μ H μ' H' → HR X.prog X.w X.K H' μ' S' → Rv X.K H' μ' v d → ∀ a, H' a = none → Q (.ref C) (some a) (upd H' a (.xd [(f, v)]))) → t σ H Q) :
    JS X (.Raise (some e) none pos) (fRaise x f fe) := by
  refine ⟨_, ps_raise hc (takesM X) hp, fun σ H μ env S fl env' S' E hr er hf k => ?_⟩
  unfold fRaise at hf
  split at hf
  · rename_i d S1 e1
    cases hf
    refine hq σ H μ env S d _ _ hr er e1 fun v H1 μ1 l1 hr1 r1 a na => ?_
    obtain ⟨l2, hr2⟩ := hr1.new (o := .xd [(f, v)]) na
    exact k σ _ μ1 (l1.trans l2) hr2 (er.later (l1.trans l2)) (.ref C) (some a) hm (.inr ⟨a, _, rfl, upd_same, (hr1.free na).1, .cons (r1.later l2) .nil⟩)
  · cases hf
theorem pe_or {e : Expr} {t u : TE} (h1 : PE X e t) (h2 : PE X e u) : PE X e (fun σ H Q => t σ H Q ∨ u σ H Q) := ⟨fun pins s σ H Q I h => h.elim (h1.run pins s σ H Q I) (h2.run pins s σ H Q I)⟩
def fDropX (f : FE) (g : FX) : FS := fun env S => match f env S with
  | some (_, S1) => some (.nx, env, S1)
  | none => match g env S with
    | some ((x, fs), S1) => some (.xc x fs, env, S1)
    | none => none
def fRetX (f : FE) (g : FX) : FS := fun env S => match f env S with
  | some (d, S1) => some (.rt d, env, S1)
  | none => match g env S with
    | some ((x, fs), S1) => some (.xc x fs, env, S1)
    | none => none
theorem js_exprX {e : Expr} {f : FE} {g : FX} {pos : Pos} (h : JE X e f) (hx : JX X e g) (hs : swapsWith e none pos.line X.env = pure false := by rfl) : JS X (.Expr e pos) (fDropX f g) := by
  obtain ⟨t, p, q⟩ := h
  obtain ⟨u, p', q'⟩ := hx
  refine ⟨_, ps_expr (pe_or p p') hs, fun σ H μ env S fl env' S' E hr er hf k => ?_⟩
  unfold fDropX at hf
  split at hf
  · rename_i d S1 e1
    cases hf
    exact .inl (q σ H μ env S d _ _ hr er e1 fun v H1 μ1 l1 hr1 r1 => k σ H1 μ1 l1 hr1 (er.later l1))
  · split at hf
    · rename_i x fs S1 e1
      cases hf
      exact .inr (q' σ H μ env S x fs _ _ hr er e1 fun cls d H1 μ1 hm l1 hr1 xd => k σ H1 μ1 l1 hr1 (er.later l1) cls d hm xd)
    · cases hf
theorem js_retX {e : Expr} {f : FE} {g : FX} {pos : Pos} (h : JE X e f) (hx : JX X e g) : JS X (.Return (some e) pos) (fRetX f g) := by
  obtain ⟨t, p, q⟩ := h
  obtain ⟨u, p', q'⟩ := hx
  refine ⟨_, ps_ret (pe_or p p'), fun σ H μ env S fl env' S' E hr er hf k => ?_⟩
  unfold fRetX at hf
  split at hf
  · rename_i d S1 e1
    cases hf
    exact .inl (q σ H μ env S d _ _ hr er e1 fun v H1 μ1 l1 hr1 r1 => k σ H1 μ1 l1 hr1 (er.later l1) v r1)
  · split at hf
    · rename_i x fs S1 e1
      cases hf
      exact .inr (q' σ H μ env S x fs _ _ hr er e1 fun cls d H1 μ1 hm l1 hr1 xd => k σ H1 μ1 l1 hr1 (er.later l1) cls d hm xd)
    · cases hf
/-! an except suite: what it may know of the exception -/
def JU (X : Cx) (a : Addr) (cls : Value) (d : Option Addr) (i : Nat) (e : Expr) (f : List (Str × D) → FE) : Prop := ∃ t : TE, PE X e t ∧ ∀ (σ : L2.St) (H : Hp) (μ : Mp) (env : J.Env) (S : Sto) (fs : List (Str × D)) (dv : D) (S' : Sto) (Q : VK), HR X.prog X.w X.K H μ S → ER X.K H μ σ env →
  σ[i]? = some (some (.ref a)) → XdR X.K H μ d fs → f fs env S = some (dv, S') → (∀ v H' μ', Later μ H μ' H' → HR X.prog X.w X.K H' μ' S' → Rv X.K H' μ' v dv → Q v H') → t σ H Q
theorem ju_of {a : Addr} {cls : Value} {d : Option Addr} {i : Nat} {e : Expr} {f : FE} (h : JE X e f) : JU X a cls d i e (fun _ => f) := let ⟨t, p, q⟩ := h; ⟨t, p, fun σ H μ env S fs dv S' Q hr er _ _ hf k => q σ H μ env S dv S' Q hr er hf k⟩
theorem ju_cmp {a : Addr} {cls : Value} {d : Option Addr} {i : Nat} {op : CmpOp} {r : R2} {g : G2} {e b : Expr} {f : List (Str × D) → FE} {fb : FE} {pos : Pos} (ho : OpR X (compareOp op) r) (ro : RO X.prog X.w X.K r g) (ha : JU X a cls d i e f) (hb : JE X b fb) (hm : behindInMarks op b = false) :
    JU X a cls d i (.Compare e [op] [b] pos) (fun fs => fOp g (f fs) fb) := by
  obtain ⟨ta, pa, qa⟩ := ha
  obtain ⟨tb, pb, qb⟩ := hb
  refine ⟨_, pe_cmpR ho pa pb hm, fun σ H μ env S fs dv S' Q hr er h1 h2 hf k => ?_⟩
  obtain ⟨x, S1, y, S2, e1, e2, e3⟩ := fOp_some hf
  refine qa σ H μ env S fs x S1 _ hr er h1 h2 e1 fun v1 H1 μ1 l1 hr1 r1 => ?_
  refine qb σ H1 μ1 env S1 y S2 _ hr1 (er.later l1) e2 fun v2 H2 μ2 l2 hr2 r2 => ?_
  exact ro H2 μ2 S2 v1 v2 x y dv S' Q hr2 (r1.later l2) r2 e3 fun v H' μ' l => k v H' μ' (l1.trans (l2.trans l))
/-- a suite's block -/
def JUs (X : Cx) (a : Addr) (cls : Value) (d : Option Addr) (i : Nat) (st : List Stmt) (f : List (Str × D) → FS) : Prop := ∃ t : TS, PSs X st t ∧ ∀ (σ : L2.St) (H : Hp) (μ : Mp) (env : J.Env) (S : Sto) (fs : List (Str × D)) (fl : Fl) (env' : J.Env) (S' : Sto) (E : Ends), HR X.prog X.w X.K H μ S → ER X.K H μ σ env →
  σ[i]? = some (some (.ref a)) → XdR X.K H μ d fs → f fs env S = some (fl, env', S') → (∀ σ' H' μ', Later μ H μ' H' → HR X.prog X.w X.K H' μ' S' → ER X.K H' μ' σ' env' → Done X E fl σ' H' μ') → t E σ H
theorem jus_ret {a : Addr} {cls : Value} {d : Option Addr} {i : Nat} {e : Expr} {f : List (Str × D) → FE} {pos : Pos} (h : JU X a cls d i e f) : JUs X a cls d i [.Return (some e) pos] (fun fs => fRet (f fs)) := by
  obtain ⟨t, p, q⟩ := h
  refine ⟨_, pss_one (ps_ret p), fun σ H μ env S fs fl env' S' E hr er h1 h2 hf k => ?_⟩
  unfold fRet at hf
  dsimp only at hf
  split at hf
  · rename_i dv S1 e1
    cases hf
    exact q σ H μ env S fs dv _ _ hr er h1 h2 e1 fun v H1 μ1 l1 hr1 r1 => k σ H1 μ1 l1 hr1 (er.later l1) v r1
  · cases hf
/-! try: body, except x as n: suite, whose suite returns -/
def fTry (i : Nat) (x : Str) (b : FS) (s : List (Str × D) → FS) : FS := fun env S => match b env S with
  | some (.xc y fs, env1, S1) => if y = x ∧ i < env1.length then (match s fs (env1.set i none) S1 with
      | some (.rt d, env2, S2) => some (.rt d, env2, S2)
      | _ => none) else none
  | r => r
open Classical in
/-- the body's reading, whatever is around -/
theorem body_all {body : List Stmt} {b : FS} (hb : ∀ (pn : List (Addr × Obj)) (xe : Value → Shared → Prop), PassesOwn (model X.prog X.w) X.A X.env xe → JSs (X.tr pn xe) body b) :
    ∃ tb : WX → TS, (∀ (W : WX) (pn : List (Addr × Obj)) (xe : Value → Shared → Prop), Takes (X.tr pn xe) W → PassesOwn (model X.prog X.w) X.A X.env xe → PSs (X.tr pn xe) body (tb W)) ∧
      ∀ (W : WX) (σ : L2.St) (H : Hp) (μ : Mp) (env : J.Env) (S : Sto) (fl : Fl) (env' : J.Env) (S' : Sto) (E : Ends), HR X.prog X.w X.K H μ S → ER X.K H μ σ env → b env S = some (fl, env', S') →
        (∀ σ' H' μ', Later μ H μ' H' → HR X.prog X.w X.K H' μ' S' → ER X.K H' μ' σ' env' → match fl with
          | .nx => E.nx σ' H'
          | .bk => E.bk σ' H'
          | .ct => E.ct σ' H'
          | .rt d => ∀ v, Rv X.K H' μ' v d → E.rt v H'
          | .xc x fs => ∀ cls d, X.mg x = some cls → XdR X.K H' μ' d fs → W cls d σ' H') → tb W E σ H := by
  refine ⟨fun W E σ H => ∀ (pn : List (Addr × Obj)) (xe : Value → Shared → Prop), Takes (X.tr pn xe) W → ∀ (ho : PassesOwn (model X.prog X.w) X.A X.env xe), Classical.choose (hb pn xe ho) E σ H, fun W pn xe tk ho => ⟨fun pins s σ H E I h => ?_⟩, fun W σ H μ env S fl env' S' E hr er hf k pn xe tk ho => ?_⟩
  · exact (Classical.choose_spec (hb pn xe ho)).1.run pins s σ H E I (h pn xe tk ho)
  · refine (Classical.choose_spec (hb pn xe ho)).2 σ H μ env S fl env' S' E hr er hf fun σ' H' μ' l hr' er' => ?_
    have q := k σ' H' μ' l hr' er'
    cases fl with
    | nx => exact q
    | bk => exact q
    | ct => exact q
    | rt d => exact q
    | xc y fs => exact fun cls d hm xd => ⟨W, tk, q cls d hm xd⟩
open Classical in
theorem js_try_as {i : Nat} {x n : Str} {C : Addr} {body suite : List Stmt} {b₀ : Stmt} {np pos pos' : Pos} {b : FS} {su : List (Str × D) → FS} (hs : X.stack = X.env :: X.outer) (hf : X.env.frame = some X.env.locals) (hN : X.N.Nodup) (hi : X.N[i]? = some n) (hln : X.env.kindOf n = some .local)
    (hc : Names X x (.ref C)) (hm : X.mg x = some (.ref C)) (te : PySem.W.exmOne X.K (.ref C) (.ref C) = some true)
    (hb : ∀ (pn : List (Addr × Obj)) (xe : Value → Shared → Prop), PassesOwn (model X.prog X.w) X.A X.env xe → JSs (X.tr pn xe) body b)
    (hsu : ∀ (a : Addr) (oe : Obj) (cls : Value) (d : Option Addr) (pn : List (Addr × Obj)), cls = .ref C → Zc cls d oe → (∃ vs, oe.data = .fields vs) → JUs (X.suite a ((a, oe) :: pn)) a cls d i (b₀ :: suite) su) :
    JS X (.Try body [.ExceptHandler (some (.Name x np)) (some n) (b₀ :: suite) pos'] [] [] pos) (fTry i x b su) := by
  obtain ⟨tb, p1, p2⟩ := body_all hb
  have no : Takes X (fun _ _ _ _ => False) := fun _ _ z => by
    obtain ⟨_, _, _, _, _, _, _, _, _, _, _, _, _, _, _, _, z⟩ := z
    exact z.elim
  refine ⟨_, ps_try_as (ts := fun a cls d E σ H => ∃ hc : cls = .ref C, ∀ (oe : Obj) (pn : List (Addr × Obj)) (hz : Zc cls d oe) (hv : ∃ vs, oe.data = .fields vs), Classical.choose (hsu a oe cls d pn hc hz hv) E σ H) (Wout := fun _ _ _ _ => False) hs hf hN hi hln hc no p1 (fun a oe cls d pn hz hv => ⟨fun pins s σ H E I h => ?_⟩), fun σ H μ env S fl env' S' E hr er hf k => ?_⟩
  · obtain ⟨hC, h⟩ := h
    exact (Classical.choose_spec (hsu a oe cls d pn hC hz hv)).1.run pins s σ H E I (h oe pn hz hv)
  · unfold fTry at hf
    split at hf
    · rename_i y fs env1 S1 e1
      split at hf
      · rename_i ey
        obtain ⟨rfl, hi1⟩ := ey
        split at hf
        · rename_i dv env2 S2 e2
          cases hf
          refine p2 _ σ H μ env S _ env1 S1 E hr er e1 fun σ1 H1 μ1 l1 hr1 er1 cls d hm1 xd => ?_
          rw [hm] at hm1
          cases hm1
          refine ⟨true, te, fun _ a na => ⟨rfl, fun oe pn hz hv => ?_⟩, fun q => nomatch q⟩
          have hlen : i < σ1.length := by rw [er1.len]; exact hi1
          refine (Classical.choose_spec (hsu a oe (.ref C) d pn rfl hz hv)).2 (σ1.set i (some (.ref a))) H1 μ1 (env1.set i none) S1 fs _ _ _ _ hr1 ?_ (List.getElem?_set_self hlen) xd e2 fun σ2 H2 μ2 l2 hr2 er2 v rv => ?_
          · refine ⟨by simp [er1.len], fun j e h => ?_⟩
            by_cases hj : i = j
            · subst hj
              rw [List.getElem?_set_self hi1] at h
              cases h
            · rw [List.getElem?_set_ne hj] at h
              obtain ⟨u, h1, h2⟩ := er1.ok j e h
              exact ⟨u, by rw [List.getElem?_set_ne hj]; exact h1, h2⟩
          · exact k σ2 H2 μ2 (l1.trans l2) hr2 er2 v rv
        · cases hf
      · cases hf
    · rename_i ne
      refine p2 _ σ H μ env S fl env' S' E hr er hf fun σ1 H1 μ1 l1 hr1 er1 => ?_
      have q := k σ1 H1 μ1 l1 hr1 er1
      cases fl with
      | nx => exact q
      | bk => exact q
      | ct => exact q
      | rt d => exact q
      | xc y fs => exact (ne y fs env' S' hf).elim
/-- try: body, except x: suite, whose suite returns -/
def fTryO (x : Str) (b : FS) (s : FS) : FS := fun env S => match b env S with
  | some (.xc y fs, env1, S1) => if y = x then (match s env1 S1 with
      | some (.rt d, env2, S2) => some (.rt d, env2, S2)
      | _ => none) else none
  | r => r
open Classical in
theorem js_try_only {x : Str} {C : Addr} {body suite : List Stmt} {b₀ : Stmt} {np pos pos' : Pos} {b su : FS} (hs : X.stack = X.env :: X.outer) (hf : X.env.frame = some X.env.locals)
    (hc : Names X x (.ref C)) (hm : X.mg x = some (.ref C)) (te : PySem.W.exmOne X.K (.ref C) (.ref C) = some true)
    (hb : ∀ (pn : List (Addr × Obj)) (xe : Value → Shared → Prop), PassesOwn (model X.prog X.w) X.A X.env xe → JSs (X.tr pn xe) body b)
    (hsu : ∀ (a : Addr) (oe : Obj) (pn : List (Addr × Obj)), JSs (X.suite a ((a, oe) :: pn)) (b₀ :: suite) su) :
    JS X (.Try body [.ExceptHandler (some (.Name x np)) none (b₀ :: suite) pos'] [] [] pos) (fTryO x b su) := by
  obtain ⟨tb, p1, p2⟩ := body_all hb
  have no : Takes X (fun _ _ _ _ => False) := fun _ _ z => by
    obtain ⟨_, _, _, _, _, _, _, _, _, _, _, _, _, _, _, _, z⟩ := z
    exact z.elim
  refine ⟨_, ps_try_only (ts := fun a cls d E σ H => ∀ (oe : Obj) (pn : List (Addr × Obj)), Classical.choose (hsu a oe pn) E σ H) (Wout := fun _ _ _ _ => False) hs hf hc no p1 (fun a oe cls d pn hz hv => ⟨fun pins s σ H E I h => ?_⟩), fun σ H μ env S fl env' S' E hr er hf k => ?_⟩
  · exact (Classical.choose_spec (hsu a oe pn)).1.run pins s σ H E I (h oe pn)
  · unfold fTryO at hf
    split at hf
    · rename_i y fs env1 S1 e1
      split at hf
      · rename_i ey
        subst ey
        split at hf
        · rename_i dv env2 S2 e2
          cases hf
          refine p2 _ σ H μ env S _ env1 S1 E hr er e1 fun σ1 H1 μ1 l1 hr1 er1 cls d hm1 xd => ?_
          rw [hm] at hm1
          cases hm1
          refine ⟨true, te, fun _ a na oe pn => ?_, fun q => nomatch q⟩
          refine (Classical.choose_spec (hsu a oe pn)).2 σ1 H1 μ1 env1 S1 _ _ _ E hr1 er1 e2 fun σ2 H2 μ2 l2 hr2 er2 v rv => ?_
          exact k σ2 H2 μ2 (l1.trans l2) hr2 er2 v rv
        · cases hf
      · cases hf
    · rename_i ne
      refine p2 _ σ H μ env S fl env' S' E hr er hf fun σ1 H1 μ1 l1 hr1 er1 => ?_
      have q := k σ1 H1 μ1 l1 hr1 er1
      cases fl with
      | nx => exact q
      | bk => exact q
      | ct => exact q
      | rt d => exact q
      | xc y fs => exact (ne y fs env' S' hf).elim
end J

namespace Kx
open PySem PySem.Spec PyProof.Rows L2
abbrev E3 (elt t0 i0 t1 i1 t2 i2 : Expr) (sc : Scope) (pos : Pos) : Expr := .ListComp elt [⟨t0, i0, [], 0⟩, ⟨t1, i1, [], 0⟩, ⟨t2, i2, [], 0⟩] sc pos
def midTurn (e : Expr) (d : Nat) (tg iter nxt : Expr) (it acc : Value) (env : Env) : Sem Fin := do
  standAt iter.pos
  match ← pyNext it with
  | none => pure (.done .next)
  | some v =>
    letOwnedTupleGo tg it v
    assign tg env v
    let mut ok := true
    for c in ([] : List Expr) do
      if ok then ok ← isTrue c env (eval c env)
    if ok then
      let x ← eval nxt env
      standAt nxt.pos
      let x ← foldedSetIterable nxt env x
      let _ ← runOwn (.compStart e (d + 1) (← holding [x] (pyIter x)) acc env) env
    again (.compLoop e d it acc env)
def endTurn (e : Expr) (d : Nat) (tg iter elt : Expr) (it acc : Value) (env : Env) : Sem Fin := do
  standAt iter.pos
  match ← pyNext it with
  | none => pure (.done .next)
  | some v =>
    letOwnedTupleGo tg it v
    assign tg env v
    let mut ok := true
    for c in ([] : List Expr) do
      if ok then ok ← isTrue c env (eval c env)
    if ok then
      (do let _ ← call (.builtin "list.append") [acc, ← eval elt env])
    again (.compLoop e d it acc env)
section
variable {prog : Program} {w : World} {A : Around} {R : Result → Shared → Prop} {s : Shared} {elt t0 i0 t1 i1 t2 i2 : Expr} {sc : Scope} {pos : Pos} {it acc : Value} {env : Env}
theorem turn3_0 : compTurn (E3 elt t0 i0 t1 i1 t2 i2 sc pos) 0 it acc env = midTurn (E3 elt t0 i0 t1 i1 t2 i2 sc pos) 0 t0 i0 i1 it acc env := by rfl
theorem turn3_1 : compTurn (E3 elt t0 i0 t1 i1 t2 i2 sc pos) 1 it acc env = midTurn (E3 elt t0 i0 t1 i1 t2 i2 sc pos) 1 t1 i1 i2 it acc env := by rfl
theorem turn3_2 : compTurn (E3 elt t0 i0 t1 i1 t2 i2 sc pos) 2 it acc env = endTurn (E3 elt t0 i0 t1 i1 t2 i2 sc pos) 2 t2 i2 elt it acc env := by rfl
abbrev No : Value → Shared → Prop := fun _ _ => False
theorem noF {α : Type} {t : Sem α} {Q Q' : α → Shared → Prop} {M : Model} {E : Value → Shared → Prop} (h : wpAny M A t Q No s) (hQ : ∀ a s, Q a s → Q' a s) : wpAny M A t Q' E s := wpAny_mono h hQ fun _ _ z => z.elim
/-- a loop of a clause that has another behind it -/
theorem loop_mid {d : Nat} {tg iter nxt : Expr} (heq : ∀ it, compTurn (E3 elt t0 i0 t1 i1 t2 i2 sc pos) d it acc env = midTurn (E3 elt t0 i0 t1 i1 t2 i2 sc pos) d tg iter nxt it acc env)
    (fs : ∀ x, foldedSetIterable nxt env x = pure x) (I : Nat → Shared → Prop)
    (turn : ∀ n s, I n s → wpAny (model prog w) A (pyNext it) (fun r s1 => match r with
      | none => R (.ok .next) s1
      | some v => wpAny (model prog w) A (letOwnedTupleGo tg it v) (fun _ s2 => wpAny (model prog w) A (assign tg env v) (fun _ s3 =>
          wpAny (model prog w) A (eval nxt env) (fun x s4 => wpAny (model prog w) A (pyIter x) (fun j s5 =>
            codeAny (model prog w) A (.compStart (E3 elt t0 i0 t1 i1 t2 i2 sc pos) (d + 1) j acc env) (fun r s' => match r with
              | .ok _ => ∃ m, m < n ∧ I m s'
              | .error _ => False) s5) No s4) No s3) No s2) No s1) No s)
    (n : Nat) (h : I n s) : codeAny (model prog w) A (.compLoop (E3 elt t0 i0 t1 i1 t2 i2 sc pos) d it acc env) R s := by
  refine codeAny_loop rfl I (fun n s hI => ?_) n h
  show wpAny _ A ((compTurn (E3 elt t0 i0 t1 i1 t2 i2 sc pos) d it acc env).onRaise (fun x => do noteFrame x env; theTreesLotGoes x)) _ _ s
  refine wpAny_noted ?_
  rw [heq]
  refine wpAny_bind (wpAny_standAt (wpAny_bind (noF (turn n s hI) fun r s1 h1 => ?_)))
  cases r with
  | none => exact wpAny_pure h1
  | some v =>
    refine wpAny_bind (noF h1 fun _ s2 h2 => wpAny_bind (noF h2 fun _ s3 h3 => wpAny_bind (wpAny_tests_nil ?_)))
    refine wpAny_bind (noF h3 fun x s4 h4 => wpAny_bind (wpAny_standAt (wpAny_bind (wpAny_of_eq (fs x) (wpAny_bind (wpAny_holding (noF h4 fun j s5 h5 => ?_)))))))
    refine wpAny_bind (wpAny_runOwn ?_)
    rw [Around.mark_none]
    refine codeAny_mono h5 fun r s' hr => ?_
    cases r with
    | ok f => first | exact wpAny_pure ⟨rfl, hr⟩ | exact wpAny_bind (wpAny_pure (wpAny_pure ⟨rfl, hr⟩))
    | error e => exact hr.elim
theorem loop_end {d : Nat} {tg iter : Expr} (heq : ∀ it, compTurn (E3 elt t0 i0 t1 i1 t2 i2 sc pos) d it acc env = endTurn (E3 elt t0 i0 t1 i1 t2 i2 sc pos) d tg iter elt it acc env) (I : Nat → Shared → Prop)
    (turn : ∀ n s, I n s → wpAny (model prog w) A (pyNext it) (fun r s1 => match r with
      | none => R (.ok .next) s1
      | some v => wpAny (model prog w) A (letOwnedTupleGo tg it v) (fun _ s2 => wpAny (model prog w) A (assign tg env v) (fun _ s3 =>
          wpAny (model prog w) A (eval elt env) (fun x s4 => wpAny (model prog w) A (call (.builtin "list.append") [acc, x]) (fun _ s5 => ∃ m, m < n ∧ I m s5) No s4) No s3) No s2) No s1) No s)
    (n : Nat) (h : I n s) : codeAny (model prog w) A (.compLoop (E3 elt t0 i0 t1 i1 t2 i2 sc pos) d it acc env) R s := by
  refine codeAny_loop rfl I (fun n s hI => ?_) n h
  show wpAny _ A ((compTurn (E3 elt t0 i0 t1 i1 t2 i2 sc pos) d it acc env).onRaise (fun x => do noteFrame x env; theTreesLotGoes x)) _ _ s
  refine wpAny_noted ?_
  rw [heq]
  refine wpAny_bind (wpAny_standAt (wpAny_bind (noF (turn n s hI) fun r s1 h1 => ?_)))
  cases r with
  | none => exact wpAny_pure h1
  | some v =>
    refine wpAny_bind (noF h1 fun _ s2 h2 => wpAny_bind (noF h2 fun _ s3 h3 => wpAny_bind (wpAny_tests_nil ?_)))
    exact wpAny_bind (wpAny_bind (noF h3 fun x s4 h4 => wpAny_bind (noF h4 fun _ s5 h5 => wpAny_pure (wpAny_pure ⟨rfl, h5⟩))))
theorem start_at {d : Nat} {g : Comprehension} (hd : ([⟨t0, i0, [], 0⟩, ⟨t1, i1, [], 0⟩, ⟨t2, i2, [], 0⟩] : List Comprehension)[d]? = some g) (ha : g.is_async = 0)
    (h0 : codeAny (model prog w) A (.compLoop (E3 elt t0 i0 t1 i1 t2 i2 sc pos) d it acc env) R s)
    (h : wpAny (model prog w) A (pyIter it) (fun j s' => codeAny (model prog w) A (.compLoop (E3 elt t0 i0 t1 i1 t2 i2 sc pos) d j acc env) R s') (notedBy (model prog w) A env fun x s' => R (.error x) s') s) :
    codeAny (model prog w) A (.compStart (E3 elt t0 i0 t1 i1 t2 i2 sc pos) d it acc env) R s := by
  refine codeAny_of_tree ?_
  show wpAny _ _ ((compStart (E3 elt t0 i0 t1 i1 t2 i2 sc pos) d it acc env).onRaise (fun x => do noteFrame x env; standAt theWindowsPlace)) _ _ s
  refine wpAny_notedAt ?_
  have hc : clausesOf (E3 elt t0 i0 t1 i1 t2 i2 sc pos) = [⟨t0, i0, [], 0⟩, ⟨t1, i1, [], 0⟩, ⟨t2, i2, [], 0⟩] := rfl
  unfold compStart
  rw [hc, hd]
  simp only [Option.elim, ha]
  show wpAny _ _ (ask >>= _) _ _ s
  refine wpAny_bind (wpAny_askSetting (wpAny_ite ?_))
  split
  · first
      | exact wpAny_bind (wpAny_pure (wpAny_pure (And.intro rfl h0)))
      | exact wpAny_pure (And.intro rfl h0)
  · refine wpAny_bind (wpAny_rule ?_)
    show wpAny _ _ (standAt g.iter.pos >>= _) _ _ s
    exact wpAny_bind (wpAny_standAt (wpAny_bind (wpAny_mono h (fun j s' h' => wpAny_pure (And.intro rfl h')) fun _ _ x => x)))
end
end Kx

namespace Kx
open PySem PySem.Spec PyProof.Rows L2
abbrev Cl := L2.St → Hp → (Hp → Prop) → Prop
/-- a clause and those behind it, run within one turn of the clause ahead -/
structure PCl (Y : Cx) (e : Expr) (d : Nat) (iter : Expr) (D : Addr) (vs : List Nat) (t : Cl) : Prop where
  run : ∀ (pins : List (Addr × Obj)) (s : Shared) (σ : L2.St) (H : Hp) (Nx : Hp → Prop), Inv Y pins σ H s → t σ H Nx →
    wpAny (model Y.prog Y.w) Y.A (eval iter Y.env) (fun x s4 => wpAny (model Y.prog Y.w) Y.A (pyIter x) (fun j s5 =>
      codeAny (model Y.prog Y.w) Y.A (.compStart e d j (.ref D) Y.env) (fun r s' => match r with
        | .ok _ => ∃ H', Inv Y pins (wipe σ vs) H' s' ∧ Nx H'
        | .error _ => False) s5) No s4) No s
def tCl (wi : TI) (g : TG) (rest : Cl) (vs : List Nat) : Cl := fun σ H Nx => wi σ H fun J H1 => ∃ W : Nat → Nat → Hp → Prop, (∃ m, W 0 m H1) ∧ ∀ i m H, W i m H →
  (J.stop i H ∧ Nx H) ∨ (J.go i H ∧ ∃ N1 : Hp → Prop, (∀ H', N1 H' → ∃ m', m' < m ∧ W (i + 1) m' H') ∧ ∀ x H', J.yld i H x H' → g x (wipe σ vs) H' fun σ2 H2 => wipe σ2 vs = wipe σ vs ∧ rest σ2 H2 N1)
def tEmit (te : TE) (D : Addr) : Cl := fun σ H Nx => te σ H fun y H1 => ∃ acc, H1 D = some (.lst acc) ∧ acc.length < sizeLine ∧ Nx (upd H1 D (.lst (acc ++ [y])))
section
variable {Y : Cx} {elt t0 i0 t1 i1 t2 i2 : Expr} {sc : Scope} {pos : Pos}
theorem noX {α : Type} {t : Sem α} {Q Q' : α → Shared → Prop} {M : Model} {A : Around} {s : Shared} {E' : Value → Shared → Prop} (hxe : ∀ v s, Y.xe v s → False) (h : wpAny M A t Q Y.xe s) (hQ : ∀ a s, Q a s → Q' a s) : wpAny M A t Q' E' s := wpAny_mono h hQ fun _ _ z => (hxe _ _ z).elim
/-- slots known ahead of a turn are known behind it -/
theorem wipe_sub {σ σ2 : L2.St} {vs vs' : List Nat} (e : wipe σ2 vs = wipe σ vs) (sub : ∀ j ∈ vs', j ∈ vs) (j : Nat) (v : V) (h : (wipe σ vs)[j]? = some (some v)) : (wipe σ2 vs')[j]? = some (some v) := by
  rw [← e] at h
  obtain ⟨h1, h2⟩ := wipe_some h
  rw [wipe_out fun z => h2 (sub j z)]
  exact h1
theorem run_mid (hxe : ∀ v s, Y.xe v s → False) (hc : Y.calm = true) {d : Nat} {tg iter nxt : Expr} {g : TG} {t' : Cl} {vs vs' : List Nat} {D it : Addr} {fp : List Addr} {tn : Nat → Heap → Prop} {J : It} {pins : List (Addr × Obj)} {σ : L2.St} {H : Hp} {s : Shared} {Nx : Hp → Prop} {R : Result → Shared → Prop} {W : Nat → Nat → Hp → Prop} {m0 : Nat}
    (heq : ∀ it, compTurn (E3 elt t0 i0 t1 i1 t2 i2 sc pos) d it (.ref D) Y.env = midTurn (E3 elt t0 i0 t1 i1 t2 i2 sc pos) d tg iter nxt it (.ref D) Y.env) (fs : ∀ x, foldedSetIterable nxt Y.env x = pure x)
    (T : Turn Y.prog Y.w Y.K tg J fp it tn) (pg : PG Y tg g) (rest : PCl Y (E3 elt t0 i0 t1 i1 t2 i2 sc pos) (d + 1) nxt D vs' t') (sub : ∀ j ∈ vs', j ∈ vs)
    (fpk : ∀ H' : Hp, (∀ b ∈ fp, H' b = none) → ∀ b ∈ fp, FpOk Y pins H' b) (I : Inv Y pins (wipe σ vs) H s) (st : tn 0 s.heap) (nf : ∀ b ∈ fp, H b = none) (w0 : W 0 m0 H)
    (turn : ∀ i m H, W i m H → (J.stop i H ∧ Nx H) ∨ (J.go i H ∧ ∃ N1 : Hp → Prop, (∀ H', N1 H' → ∃ m', m' < m ∧ W (i + 1) m' H') ∧ ∀ x H', J.yld i H x H' → g x (wipe σ vs) H' fun σ2 H2 => wipe σ2 vs = wipe σ vs ∧ t' σ2 H2 N1))
    (fin : ∀ s' H', Inv Y pins (wipe σ vs) H' s' → Nx H' → R (.ok .next) s') :
    codeAny (model Y.prog Y.w) Y.A (.compLoop (E3 elt t0 i0 t1 i1 t2 i2 sc pos) d (.ref it) (.ref D) Y.env) R s := by
  refine loop_mid heq fs (fun n s' => ∃ i H', Inv Y pins (wipe σ vs) H' s' ∧ tn i s'.heap ∧ (∀ b ∈ fp, H' b = none) ∧ W i n H') ?_ m0 ⟨0, H, I, st, nf, w0⟩
  rintro n s5 ⟨i, H5, I5, st5, n5, w5⟩
  rcases turn i n H5 w5 with ⟨stp, nx⟩ | ⟨go, N1, hN1, step⟩
  · refine noF (T.done Y rfl rfl rfl hc i pins s5 _ H5 No I5 (fpk H5 n5) st5 stp) fun r s6 out => ?_
    obtain ⟨rfl, I6⟩ := out
    exact fin s6 H5 I6 nx
  · refine noF (T.item Y rfl rfl rfl hc i pins s5 _ H5 No I5 (fpk H5 n5) st5 go) fun r s6 out => ?_
    obtain ⟨u, rfl, h6⟩ := out
    refine noF h6 fun _ s7 out => ?_
    obtain ⟨x, H7, I7, r7, y7, st7, n7⟩ := out
    have I8 := I7.pinned (fpk H7 n7) (T.obj _ _ st7)
    refine noX hxe (pg.run _ s7 _ H7 x u _ I8 r7 (step x H7 y7)) fun _ s8 out => ?_
    obtain ⟨σ8, H8, I9, hw, q8⟩ := out
    refine noF (rest.run _ s8 σ8 H8 N1 I9 q8) fun xv s9 h9 => noF h9 fun jv s10 h10 => codeAny_mono h10 fun r s' out => ?_
    cases r with
    | error e => exact out.elim
    | ok f =>
      obtain ⟨H', I', nx⟩ := out
      obtain ⟨m', hm, w'⟩ := hN1 H' nx
      have pin' : ∀ b ∈ fp, ∀ o, s7.heap.get? b = some o → s'.heap.get? b = some o ∧ H' b = none := fun b hb o e =>
        let z := I'.pin (b, o) (List.mem_append_right _ (List.mem_append_right _ (mem_pinsAt hb e)))
        ⟨z.1, z.2.1⟩
      have lw : (wipe σ vs).length = (wipe σ8 vs').length := by rw [← hw, wipe_length, wipe_length]
      refine ⟨m', hm, i + 1, H', I'.unpinned.weak lw (wipe_sub hw sub), T.keep _ _ _ st7 fun b hb o e => (pin' b hb o e).1, fun b hb => ?_, w'⟩
      obtain ⟨o, e, _⟩ := T.obj _ _ st7 b hb
      exact (pin' b hb o e).2
theorem run_end (hxe : ∀ v s, Y.xe v s → False) (hc : Y.calm = true) {d : Nat} {tg iter : Expr} {g : TG} {te : TE} {vs : List Nat} {D it : Addr} {fp : List Addr} {tn : Nat → Heap → Prop} {J : It} {pins : List (Addr × Obj)} {σ : L2.St} {H : Hp} {s : Shared} {Nx : Hp → Prop} {R : Result → Shared → Prop} {W : Nat → Nat → Hp → Prop} {m0 : Nat}
    (heq : ∀ it, compTurn (E3 elt t0 i0 t1 i1 t2 i2 sc pos) d it (.ref D) Y.env = endTurn (E3 elt t0 i0 t1 i1 t2 i2 sc pos) d tg iter elt it (.ref D) Y.env)
    (T : Turn Y.prog Y.w Y.K tg J fp it tn) (pg : PG Y tg g) (pe : PE Y elt te)
    (fpk : ∀ H' : Hp, (∀ b ∈ fp, H' b = none) → ∀ b ∈ fp, FpOk Y pins H' b) (I : Inv Y pins (wipe σ vs) H s) (st : tn 0 s.heap) (nf : ∀ b ∈ fp, H b = none) (w0 : W 0 m0 H)
    (turn : ∀ i m H, W i m H → (J.stop i H ∧ Nx H) ∨ (J.go i H ∧ ∃ N1 : Hp → Prop, (∀ H', N1 H' → ∃ m', m' < m ∧ W (i + 1) m' H') ∧ ∀ x H', J.yld i H x H' → g x (wipe σ vs) H' fun σ2 H2 => wipe σ2 vs = wipe σ vs ∧ tEmit te D σ2 H2 N1))
    (fin : ∀ s' H', Inv Y pins (wipe σ vs) H' s' → Nx H' → R (.ok .next) s') :
    codeAny (model Y.prog Y.w) Y.A (.compLoop (E3 elt t0 i0 t1 i1 t2 i2 sc pos) d (.ref it) (.ref D) Y.env) R s := by
  refine loop_end heq (fun n s' => ∃ i H', Inv Y pins (wipe σ vs) H' s' ∧ tn i s'.heap ∧ (∀ b ∈ fp, H' b = none) ∧ W i n H') ?_ m0 ⟨0, H, I, st, nf, w0⟩
  rintro n s5 ⟨i, H5, I5, st5, n5, w5⟩
  rcases turn i n H5 w5 with ⟨stp, nx⟩ | ⟨go, N1, hN1, step⟩
  · refine noF (T.done Y rfl rfl rfl hc i pins s5 _ H5 No I5 (fpk H5 n5) st5 stp) fun r s6 out => ?_
    obtain ⟨rfl, I6⟩ := out
    exact fin s6 H5 I6 nx
  · refine noF (T.item Y rfl rfl rfl hc i pins s5 _ H5 No I5 (fpk H5 n5) st5 go) fun r s6 out => ?_
    obtain ⟨u, rfl, h6⟩ := out
    refine noF h6 fun _ s7 out => ?_
    obtain ⟨x, H7, I7, r7, y7, st7, n7⟩ := out
    have I8 := I7.pinned (fpk H7 n7) (T.obj _ _ st7)
    refine noX hxe (pg.run _ s7 _ H7 x u _ I8 r7 (step x H7 y7)) fun _ s8 out => ?_
    obtain ⟨σ8, H8, I9, hw, q8⟩ := out
    refine noX hxe (pe.run _ s8 σ8 H8 _ I9 q8) fun z s9 out => ?_
    obtain ⟨y, H9, I10, r9, acc, hD, hz, nx⟩ := out
    refine app_ok (X := Y) I10 hD hz r9 fun s' I' => ?_
    obtain ⟨m', hm, w'⟩ := hN1 _ nx
    have pin' : ∀ b ∈ fp, ∀ o, s7.heap.get? b = some o → s'.heap.get? b = some o ∧ (upd H9 D (.lst (acc ++ [y]))) b = none := fun b hb o e =>
      let z := I'.pin (b, o) (List.mem_append_right _ (List.mem_append_right _ (mem_pinsAt hb e)))
      ⟨z.1, z.2.1⟩
    have lw : (wipe σ vs).length = σ8.length := by rw [← hw, wipe_length]
    refine ⟨m', hm, i + 1, _, I'.unpinned.weak lw (fun j v e => by rw [← hw] at e; exact (wipe_some e).1), T.keep _ _ _ st7 fun b hb o e => (pin' b hb o e).1, fun b hb => ?_, w'⟩
    obtain ⟨o, e, _⟩ := T.obj _ _ st7 b hb
    exact (pin' b hb o e).2
theorem cl_end (hxe : ∀ v s, Y.xe v s → False) (hc : Y.calm = true) {wi : TI} {g : TG} {te : TE} {vs : List Nat} {D : Addr} (pi : PI Y t2 i2 wi) (pg : PG Y t2 g) (pe : PE Y elt te) :
    PCl Y (E3 elt t0 i0 t1 i1 t2 i2 sc pos) 2 i2 D vs (tCl wi g (tEmit te D) vs) := by
  refine ⟨fun pins s σ H Nx I h => ?_⟩
  refine noX hxe (pi.run pins s σ H _ I h) fun x s4 h4 => noX hxe h4 fun jv s5 out => ?_
  obtain ⟨it, fp, tn, J, H5, rfl, I5, T, st5, f5, W, ⟨m0, w0⟩, turn⟩ := out
  have lp := run_end (elt := elt) (t0 := t0) (i0 := i0) (t1 := t1) (i1 := i1) (t2 := t2) (i2 := i2) (sc := sc) (pos := pos) (d := 2) (iter := i2) (R := fun r s' => match r with
        | .ok _ => ∃ H', Inv Y pins (wipe σ vs) H' s' ∧ Nx H'
        | .error _ => False) hxe hc (fun _ => turn3_2) T pg pe (fun H' hn b hb => ⟨hn b hb, (f5 b hb).2⟩) (I5.weak (wipe_length σ vs) (fun j v e => (wipe_some e).1)) st5 (fun b hb => (f5 b hb).1) w0 turn (fun s' H' I' nx => ⟨H', I', nx⟩)
  exact start_at (g := ⟨t2, i2, [], 0⟩) rfl rfl lp (T.self Y.A 0 _ _ _ st5 lp)
theorem cl_mid (hxe : ∀ v s, Y.xe v s → False) (hc : Y.calm = true) {wi : TI} {g : TG} {t' : Cl} {vs vs' : List Nat} {D : Addr} (pi : PI Y t1 i1 wi) (pg : PG Y t1 g) (rest : PCl Y (E3 elt t0 i0 t1 i1 t2 i2 sc pos) 2 i2 D vs' t') (sub : ∀ j ∈ vs', j ∈ vs) (fs : ∀ x, foldedSetIterable i2 Y.env x = pure x) :
    PCl Y (E3 elt t0 i0 t1 i1 t2 i2 sc pos) 1 i1 D vs (tCl wi g t' vs) := by
  refine ⟨fun pins s σ H Nx I h => ?_⟩
  refine noX hxe (pi.run pins s σ H _ I h) fun x s4 h4 => noX hxe h4 fun jv s5 out => ?_
  obtain ⟨it, fp, tn, J, H5, rfl, I5, T, st5, f5, W, ⟨m0, w0⟩, turn⟩ := out
  have lp := run_mid (elt := elt) (t0 := t0) (i0 := i0) (t1 := t1) (i1 := i1) (t2 := t2) (i2 := i2) (sc := sc) (pos := pos) (d := 1) (iter := i1) (R := fun r s' => match r with
        | .ok _ => ∃ H', Inv Y pins (wipe σ vs) H' s' ∧ Nx H'
        | .error _ => False) hxe hc (fun _ => turn3_1) fs T pg rest sub (fun H' hn b hb => ⟨hn b hb, (f5 b hb).2⟩) (I5.weak (wipe_length σ vs) (fun j v e => (wipe_some e).1)) st5 (fun b hb => (f5 b hb).1) w0 turn (fun s' H' I' nx => ⟨H', I', nx⟩)
  exact start_at (g := ⟨t1, i1, [], 0⟩) rfl rfl lp (T.self Y.A 0 _ _ _ st5 lp)
end
end Kx

namespace Kx
open PySem PySem.Spec PyProof.Rows L2
/-- [elt for t0 in i0 for t1 in i1 for t2 in i2] -/
def tLc3 (wi : TI) (g : TG) (rest : Addr → Cl) (vs : List Nat) : TE := fun σ H Q => wi σ H fun J H1 => ∀ D, H1 D = none → ∃ W : Nat → Nat → Hp → Prop, (∃ m, W 0 m (upd H1 D (.lst []))) ∧ ∀ i m H, W i m H →
  (J.stop i H ∧ Q (.ref D) H) ∨ (J.go i H ∧ ∃ N1 : Hp → Prop, (∀ H', N1 H' → ∃ m', m' < m ∧ W (i + 1) m' H') ∧ ∀ x H', J.yld i H x H' → g x (wipe σ vs) H' fun σ2 H2 => wipe σ2 vs = wipe σ vs ∧ rest D σ2 H2 N1)
section
variable {X : Cx} {elt t0 i0 t1 i1 t2 i2 : Expr} {sc : Scope} {pos : Pos}
theorem pe_lc3 {own : List (Str × Nat)} {vs1 vs2 : List Nat} {wi wi1 wi2 : TI} {g g1 g2 : TG} {te : TE} (hc : X.calm = true) (hN : X.N.Nodup) (pi0 : PI X t0 i0 wi) (ok : BlkOk X.N X.env.scope sc own)
    (sub1 : ∀ j ∈ vs1, j ∈ own.map (·.2)) (sub2 : ∀ j ∈ vs2, j ∈ vs1)
    (pg0 : ∀ (s : Shared) (H : Hp) (C : Addr) (cl : List (Str × Addr)) (fp : List Addr), PG (X.blk s H sc (compEnvC sc cl C X.env) fp) t0 g)
    (pi1 : ∀ (s : Shared) (H : Hp) (C : Addr) (cl : List (Str × Addr)) (fp : List Addr), PI (X.blk s H sc (compEnvC sc cl C X.env) fp) t1 i1 wi1)
    (pg1 : ∀ (s : Shared) (H : Hp) (C : Addr) (cl : List (Str × Addr)) (fp : List Addr), PG (X.blk s H sc (compEnvC sc cl C X.env) fp) t1 g1)
    (pi2 : ∀ (s : Shared) (H : Hp) (C : Addr) (cl : List (Str × Addr)) (fp : List Addr), PI (X.blk s H sc (compEnvC sc cl C X.env) fp) t2 i2 wi2)
    (pg2 : ∀ (s : Shared) (H : Hp) (C : Addr) (cl : List (Str × Addr)) (fp : List Addr), PG (X.blk s H sc (compEnvC sc cl C X.env) fp) t2 g2)
    (pel : ∀ (s : Shared) (H : Hp) (C : Addr) (cl : List (Str × Addr)) (fp : List Addr), PE (X.blk s H sc (compEnvC sc cl C X.env) fp) elt te)
    (fs0 : ∀ x, foldedSetIterable i0 X.env x = pure x := by intro _; rfl) (fs1 : ∀ env x, foldedSetIterable i1 env x = pure x := by intro _ _; rfl) (fs2 : ∀ env x, foldedSetIterable i2 env x = pure x := by intro _ _; rfl) :
    PE X (E3 elt t0 i0 t1 i1 t2 i2 sc pos) (tLc3 wi g (fun D => tCl wi1 g1 (tCl wi2 g2 (tEmit te D) vs2) vs1) (own.map (·.2))) := by
  refine ⟨fun pins s σ H Q I h => ?_⟩
  show wpAny (model X.prog X.w) X.A (eval (.ListComp elt [⟨t0, i0, [], 0⟩, ⟨t1, i1, [], 0⟩, ⟨t2, i2, [], 0⟩] sc pos) X.env) _ _ s
  rw [eval_ListComp]
  have cells : ∀ y ∈ sc.names, y.2 = .free → ∃ c, X.env.cells.lookup y.1 = some c := by
    intro y hy e
    rcases ok.free y hy e with z | z
    · exact I.ok.has _ (.inl z)
    · exact I.ok.has _ (.inr z)
  refine wpAny_comprehension_free (use := none) rfl fs0 (closure_ok cells) ok.kind (fun y hy e => by rw [ok.uniq y hy, e]) (thn (pi0.run pins s σ H _ I h) fun xv s1 hx => thn hx fun jv s2 out => ?_)
  obtain ⟨it, fp, tn, J, H2, rfl, I2, T, st2, f2, q⟩ := out
  refine wpAny_newObj_type (newEnv_comp ?_) (by show 0 ≤ sizeLine; decide)
  generalize hD : s2.heap.objs.size = D
  have freeD : H2 D = none := I2.hok.fresh (Nat.le_of_eq hD)
  obtain ⟨W, ⟨m0, w0⟩, turn⟩ := q D freeD
  generalize hs3 : ({ s2 with heap := s2.heap.push { cls := .type "list", data := .seq ([] : List Value).toArray } } : Shared) = s3
  have heap3 : s3.heap = s2.heap.push { cls := .type "list", data := .seq ([] : List Value).toArray } := by rw [← hs3]
  have I3 : Inv X pins σ (upd H2 D (.lst [])) s3 := by
    rw [← hs3]
    refine I2.laid (t' := s2.toks) (fun b o e => Heap.get?_push_of_some _ e) (Nat.le_of_eq hD) ⟨Nat.zero_le _, [], 0, .nil, ?_⟩
    rw [← hD]
    exact Heap.get?_push_size _ rfl
  have f3 : ∀ b ∈ fp, FpOk X pins (upd H2 D (.lst [])) b ∧ b < s3.heap.objs.size := by
    intro b hb
    obtain ⟨o, e, _⟩ := T.obj _ _ st2 b hb
    have lt := Heap.lt_size e
    refine ⟨⟨?_, (f2 b hb).2⟩, by rw [heap3, Heap.size_push]; exact Nat.lt_succ_of_lt lt⟩
    rw [upd_ne (by rw [← hD]; exact Nat.ne_of_lt lt)]
    exact (f2 b hb).1
  have st3 : tn 0 s3.heap := T.keep _ _ _ st2 fun b _ o e => by rw [heap3]; exact Heap.get?_push_of_some _ e
  have I4 := block_start I3 ok hN f3
  generalize hcl : cellsFrom (s3.heap.objs.size + 1) sc.names (cloFrom X.env.cells sc.names []) = cl at I4
  have pg := pg0 s3 (upd H2 D (.lst [])) s3.heap.objs.size cl fp
  have Q1 := pi1 s3 (upd H2 D (.lst [])) s3.heap.objs.size cl fp
  have G1 := pg1 s3 (upd H2 D (.lst [])) s3.heap.objs.size cl fp
  have Q2 := pi2 s3 (upd H2 D (.lst [])) s3.heap.objs.size cl fp
  have G2 := pg2 s3 (upd H2 D (.lst [])) s3.heap.objs.size cl fp
  have El := pel s3 (upd H2 D (.lst [])) s3.heap.objs.size cl fp
  show codeAny _ _ (.compStart (E3 elt t0 i0 t1 i1 t2 i2 sc pos) 0 (.ref it) (.ref D) (compEnvC sc cl s3.heap.objs.size X.env)) (compPost (model X.prog X.w) X.A X.xe none _ (.ref D) s3.heap.objs.size) { s3 with heap := pushCells (s3.heap.push { cls := .type "dict", data := .dict #[] }) sc.names }
  have nf3 : ∀ b ∈ fp, (upd H2 D (.lst [])) b = none := fun b hb => (f3 b hb).1.1
  generalize hce : compEnvC sc cl s3.heap.objs.size X.env = ce at I4 pg Q1 G1 Q2 G2 El ⊢
  have atL : ce.locals = s3.heap.objs.size := by subst hce; rfl
  generalize hH3 : upd H2 D (.lst []) = H3 at I3 I4 pg Q1 G1 Q2 G2 El w0 nf3 f3
  generalize hs4 : ({ s3 with heap := pushCells (s3.heap.push { cls := .type "dict", data := .dict #[] }) sc.names } : Shared) = s4 at I4 ⊢
  have st4 : tn 0 s4.heap := T.keep _ _ _ st3 fun b _ o e => by rw [← hs4]; exact pushCells_keeps _ _ _ _ (Heap.get?_push_of_some _ e)
  have nox : ∀ v t, (X.blk s3 H3 sc ce fp).xe v t → False := fun _ _ z => z
  have C2 : PCl (X.blk s3 H3 sc ce fp) (E3 elt t0 i0 t1 i1 t2 i2 sc pos) 2 i2 D vs2 (tCl wi2 g2 (tEmit te D) vs2) := cl_end nox hc Q2 G2 El
  have C1 : PCl (X.blk s3 H3 sc ce fp) (E3 elt t0 i0 t1 i1 t2 i2 sc pos) 1 i1 D vs1 (tCl wi1 g1 (tCl wi2 g2 (tEmit te D) vs2) vs1) := cl_mid nox hc Q1 G1 C2 sub2 (fs2 ce)
  have stat : ∀ H' : Hp, (∀ b ∈ fp, H' b = none) → ∀ b ∈ fp, FpOk (X.blk s3 H3 sc ce fp) [] H' b := fun H' hn b hb =>
    ⟨hn b hb, (I4.ok.exf b hb).1, I4.ok.exfs b hb, .inl hb, fun x c e => (I4.ok.exf b hb).2 x c e, fun p hp => absurd (show p ∈ ([] : List (Addr × Obj)) ++ [] from hp) (by simp)⟩
  have lp : codeAny (model X.prog X.w) X.A (.compLoop (E3 elt t0 i0 t1 i1 t2 i2 sc pos) 0 (.ref it) (.ref D) ce) (compPost (model X.prog X.w) X.A X.xe none (EP X pins σ Q) (.ref D) s3.heap.objs.size) s4 := by
    refine run_mid (Y := X.blk s3 H3 sc ce fp) (pins := []) nox hc (fun _ => turn3_0) (fs1 ce) T pg C1 sub1 stat I4 st4 nf3 w0 turn (fun s6 H5 I6 qq => ?_)
    have I7 : Inv X pins σ H5 s6 := I3.call' (ch := fp) I6.os I6.base I6.hok I6.bare fun b hb => ⟨(f3 b hb).1.2.2.2.1, (f3 b hb).1.2.1, (f3 b hb).1.2.2.2.2.1, (f3 b hb).1.2.2.2.2.2⟩
    have freeC : H5 s3.heap.objs.size = none := by
      have z : H5 ce.locals = none := I6.free
      rw [atL] at z
      exact z
    obtain ⟨mm, hn, _⟩ := I6.loc
    have hn' : s6.heap.Ns ce.locals mm := hn
    rw [atL] at hn'
    obtain ⟨c0, c1, c2, c3, c4, c5⟩ := I3.fpOk (H' := H5) (Nat.le_refl _) freeC
    exact ⟨mm, hn', fun h'' sb => ⟨.ref D, H5, I7.turned (t' := s6.toks) (fun b o hb e => (sb.2 b hb).trans e) c0 c1 c3 c4 c5, rfl, qq⟩⟩
  exact codeAny_compStart_list lp (T.self X.A 0 _ _ _ st4 lp)
end
end Kx

set_option autoImplicit false
namespace J
open PySem PySem.Spec PyProof.Rows L2 Kx
variable {K : PySem.W.Frag} {P : Program} {w : World} {X : Cx}
/-! comprehensions of three clauses -/
structure LatP (p : Addr) (μ : Mp) (H : Hp) (μ' : Mp) (H' : Hp) : Prop where
  ext : ∃ e, μ'.m = μ.m ++ e
  ex : ∀ a, a ∈ μ.x → a ∈ μ'.x
  keep : ∀ a o, a ≠ p → H a = some o → a ∉ μ.m → a ∉ μ'.m ∧ (a ∉ μ.x → a ∉ μ'.x) ∧ H' a = some o
  frz : ∀ a o u, H a = some (.frz o u) → H' a = some (.frz o u)
theorem Later.latP {p : Addr} {μ μ' : Mp} {H H' : Hp} (l : Later μ H μ' H') : LatP p μ H μ' H' := ⟨l.ext, l.ex, fun a o _ h n => l.keep a o h n, l.frz⟩
theorem LatP.trans {p : Addr} {μ μ1 μ2 : Mp} {H H1 H2 : Hp} (x : LatP p μ H μ1 H1) (y : LatP p μ1 H1 μ2 H2) : LatP p μ H μ2 H2 := by
  refine ⟨?_, fun a h => y.ex a (x.ex a h), fun a o np h n => ?_, fun a o u h => y.frz a o u (x.frz a o u h)⟩
  · obtain ⟨e, h1⟩ := x.ext
    obtain ⟨f, h2⟩ := y.ext
    exact ⟨e ++ f, by rw [h2, h1, List.append_assoc]⟩
  · obtain ⟨n1, g1, h1⟩ := x.keep a o np h n
    obtain ⟨n2, g2, h2⟩ := y.keep a o np h1 n1
    exact ⟨n2, fun z => g2 (g1 z), h2⟩
theorem LatP.dat {p : Addr} {μ μ' : Mp} {H H' : Hp} (l : LatP p μ H μ' H') (hp : p ∈ μ.x) : Dat μ H μ' H' := ⟨l.ext, fun a o h n nx => let z := l.keep a o (fun e => nx (by rw [e]; exact hp)) h n; ⟨z.1, z.2.1 nx, z.2.2⟩⟩
theorem LatP.later {p : Addr} {μ1 μ0 μ2 : Mp} {H1 H0 H2 : Hp} (l : LatP p μ0 H0 μ2 H2) (np : H1 p = none) (L0 : Later μ1 H1 μ0 H0) : Later μ1 H1 μ2 H2 := by
  refine ⟨?_, fun a h => l.ex a (L0.ex a h), fun a o h n => ?_, fun a o u h => l.frz a o u (L0.frz a o u h)⟩
  · obtain ⟨e, h1⟩ := L0.ext
    obtain ⟨f, h2⟩ := l.ext
    exact ⟨e ++ f, by rw [h2, h1, List.append_assoc]⟩
  · obtain ⟨n1, g1, h1⟩ := L0.keep a o h n
    obtain ⟨n2, g2, h2⟩ := l.keep a o (ne_of_none h np) h1 n1
    exact ⟨n2, fun z => g2 (g1 z), h2⟩
theorem ER.dat {H H' : Hp} {μ μ' : Mp} {σ : L2.St} {env : J.Env} (s : Dat μ H μ' H') (e : ER K H μ σ env) : ER K H' μ' σ env := ⟨e.len, fun i d h => let ⟨v, h1, h2⟩ := e.ok i d h; ⟨v, h1, h2.dat s⟩⟩
abbrev FCl := J.Env → Sto → Option (List D × Sto)
def QCl (X : Cx) (p : Addr) (t : Cl) (f : FCl) : Prop := ∀ (σ : L2.St) (H : Hp) (μ : Mp) (env : J.Env) (S : Sto) (ys : List D) (S' : Sto) (Nx : Hp → Prop) (xs : List V) (acc : List D), HR X.prog X.w X.K H μ S → ER X.K H μ σ env → p ∈ μ.x → H p = some (.lst xs) → RvAll X.K H μ xs acc → f env S = some (ys, S') → acc.length + ys.length ≤ 100000 →
  (∀ H' μ' xs', LatP p μ H μ' H' → p ∈ μ'.x → HR X.prog X.w X.K H' μ' S' → H' p = some (.lst xs') → RvAll X.K H' μ' xs' (acc ++ ys) → Nx H') → t σ H Nx
def fEmit (fe : FE) : FCl := fun env S => match fe env S with
  | some (y, S1) => some ([y], S1)
  | none => none
def fClL (g : FG) (r : FCl) (env : J.Env) : List D → Sto → Option (List D × Sto)
  | [], S => some ([], S)
  | d :: ds, S => match g d env S with
    | none => none
    | some (env1, S1) => match r env1 S1 with
      | none => none
      | some (ys, S2) => match fClL g r env ds S2 with
        | none => none
        | some (zs, S3) => some (ys ++ zs, S3)
def fCl (fi : FA) (g : FG) (r : FCl) (vs : List Nat) : FCl := fun env S => match fi env S with
  | none => none
  | some (ds, S1) => fClL g r (wipeD env vs) ds S1
section
variable (X : Cx) (scope : Scope)
def tiB (tg iter : Expr) : TI := fun σ H0 R => ∀ (s : Shared) (H : Hp) (C : Addr) (cl : List (Str × Addr)) (fp : List Addr), ∃ t, PI (X.blk s H scope (compEnvC scope cl C X.env) fp) tg iter t ∧ t σ H0 R
end
theorem piB {scope : Scope} {tg iter : Expr} (s : Shared) (H : Hp) (C : Addr) (cl : List (Str × Addr)) (fp : List Addr) : PI (X.blk s H scope (compEnvC scope cl C X.env) fp) tg iter (tiB X scope tg iter) := ⟨fun pins s' σ H' R I h => let ⟨t, p, q⟩ := h s H C cl fp; p.run pins s' σ H' R I q⟩
theorem q_emit {elt : Expr} {scope : Scope} {fe : FE} {p : Addr} (he : ∀ (s : Shared) (H : Hp) (C : Addr) (cl : List (Str × Addr)) (fp : List Addr), JE (X.blk s H scope (compEnvC scope cl C X.env) fp) elt fe) : QCl X p (tEmit (teB X scope elt) p) (fEmit fe) := by
  intro σ H μ env S ys S' Nx xs acc hr er hp hD rv hf hl k s0 H0 C0 cl0 fp0
  obtain ⟨te', pe, qe⟩ := he s0 H0 C0 cl0 fp0
  refine ⟨te', pe, ?_⟩
  unfold fEmit at hf
  split at hf
  · rename_i y S1 e1
    cases hf
    refine qe σ H μ env S y _ _ hr er e1 fun v H1 μ1 l1 hr1 r1 => ?_
    have hD1 := (l1.keep p _ hD (fun z => hr.dj p z hp)).2.2
    have hp1 := l1.ex p hp
    obtain ⟨hr7, dat7⟩ := hr1.acc (o := .lst (xs ++ [v])) hp1
    refine ⟨xs, hD1, len100 (by rw [rv.length]; simp at hl; omega), ?_⟩
    refine k _ μ1 (xs ++ [v]) ⟨l1.ext, l1.ex, fun a o ne h n => let z := l1.keep a o h n; ⟨z.1, z.2.1, by rw [upd_ne ne]; exact z.2.2⟩, fun a o u h => ?_⟩ hp1 hr7 upd_same (((rv.later l1).append (.cons r1 .nil)).dat dat7)
    have ne : a ≠ p := fun e => by rw [e, hD] at h; cases h
    rw [upd_ne ne]
    exact l1.frz a o u h
  · cases hf
/-- the turns of a clause -/
theorem cl_turns {tg : Expr} {scope : Scope} {g : FG} {ws vs : List Nat} {r : FCl} {rest : Cl} {p : Addr} (hg : ∀ (s : Shared) (H : Hp) (C : Addr) (cl : List (Str × Addr)) (fp : List Addr), JG (X.blk s H scope (compEnvC scope cl C X.env) fp) tg g ws) (hw : ∀ j, j ∈ ws → j ∈ vs) (hrest : QCl X p rest r)
    {T : It} {ds : List D} {σ : L2.St} {env : J.Env} {μ0 : Mp} {H0 : Hp} {S0 : Sto} {xs0 : List V} {acc0 ys : List D} {S' : Sto} {Nx : Hp → Prop}
    (it : ∀ μ2 H2, LatP p μ0 H0 μ2 H2 → ∃ μ1 H1, ItF X.prog X.w X.K T ds μ1 H1 ∧ Later μ1 H1 μ2 H2) (er : ER X.K H0 μ0 σ env) (hr : HR X.prog X.w X.K H0 μ0 S0) (hp : p ∈ μ0.x) (hD : H0 p = some (.lst xs0)) (rv : RvAll X.K H0 μ0 xs0 acc0)
    (hf : fClL g r (wipeD env vs) ds S0 = some (ys, S')) (hl : acc0.length + ys.length ≤ 100000)
    (k : ∀ H' μ' xs', LatP p μ0 H0 μ' H' → p ∈ μ'.x → HR X.prog X.w X.K H' μ' S' → H' p = some (.lst xs') → RvAll X.K H' μ' xs' (acc0 ++ ys) → T.stop ds.length H' → Nx H') :
    ∃ W : Nat → Nat → Hp → Prop, (∃ m, W 0 m H0) ∧ ∀ i m H, W i m H → (T.stop i H ∧ Nx H) ∨ (T.go i H ∧ ∃ N1 : Hp → Prop, (∀ H', N1 H' → ∃ m', m' < m ∧ W (i + 1) m' H') ∧
      ∀ x H', T.yld i H x H' → (tgB X scope tg) x (wipe σ vs) H' fun σ2 H2 => wipe σ2 vs = wipe σ vs ∧ rest σ2 H2 N1) := by
  refine ⟨fun i n H2 => n = ds.length - i ∧ i ≤ ds.length ∧ ∃ μ2 S2 xs acc zs, LatP p μ0 H0 μ2 H2 ∧ p ∈ μ2.x ∧ HR X.prog X.w X.K H2 μ2 S2 ∧ H2 p = some (.lst xs) ∧ RvAll X.K H2 μ2 xs acc ∧ fClL g r (wipeD env vs) (ds.drop i) S2 = some (zs, S') ∧ acc ++ zs = acc0 ++ ys,
    ⟨ds.length, by simp, Nat.zero_le _, μ0, S0, xs0, acc0, ys, (Later.refl _ _).latP, hp, hr, hD, rv, hf, rfl⟩, ?_⟩
  rintro i n H2 ⟨rfl, hi, μ2, S2, xs, acc, zs, l2, hp2, hr2, hD2, rv2, e3, e4⟩
  obtain ⟨μ1, H1, it, lat⟩ := it μ2 H2 l2
  obtain ⟨it1, it2⟩ := it μ2 H2 lat
  obtain ⟨go, stop⟩ := it1 S2 hr2
  have hlen : acc.length + zs.length ≤ 100000 := by
    have := congrArg List.length e4
    rw [List.length_append, List.length_append] at this
    omega
  by_cases hlt : i < ds.length
  · refine .inr ⟨go i hlt, fun H3 => ∃ μ3 S3 xs acc zs, LatP p μ0 H0 μ3 H3 ∧ p ∈ μ3.x ∧ HR X.prog X.w X.K H3 μ3 S3 ∧ H3 p = some (.lst xs) ∧ RvAll X.K H3 μ3 xs acc ∧ fClL g r (wipeD env vs) (ds.drop (i + 1)) S3 = some (zs, S') ∧ acc ++ zs = acc0 ++ ys,
      fun H3 z => ⟨ds.length - (i + 1), by omega, rfl, hlt, z⟩, fun x H3 y s9 H9 C9 cl9 fp9 => ?_⟩
    obtain ⟨l3, hr3, r3⟩ := it2 i S2 x H3 ds[i] hr2 (by simp [hlt]) y
    rw [List.drop_eq_getElem_cons hlt, fClL] at e3
    split at e3
    · cases e3
    · rename_i env4 S4 e5
      obtain ⟨tg', pg, qg⟩ := hg s9 H9 C9 cl9 fp9
      refine ⟨tg', pg, ?_⟩
      have er3 : ER X.K H3 μ2 (wipe σ vs) (wipeD env vs) := ((er.wipe _).dat (l2.dat hp)).later l3
      refine qg _ H3 μ2 _ S2 x ds[i] env4 S4 _ hr3 er3 r3 e5 fun σ4 H4 μ4 l4 hr4 er4 w4 => ?_
      refine ⟨wipe_eq (by rw [w4.1, wipe_length]) fun j hj => w4.2 j fun z => hj (hw j z), ?_⟩
      split at e3
      · cases e3
      · rename_i ys5 S5 e6
        split at e3
        · cases e3
        · rename_i zs6 S6 e7
          cases e3
          have L := l3.trans l4
          have hD4 := (L.keep p _ hD2 (fun z => hr2.dj p z hp2)).2.2
          refine hrest σ4 H4 μ4 env4 S4 ys5 S5 _ xs acc hr4 er4 (L.ex p hp2) hD4 (rv2.later L) e6 (by rw [List.length_append] at hlen; omega) fun H5 μ5 xs5 l5 hp5 hr5 hD5 rv5 => ?_
          exact ⟨μ5, S5, xs5, acc ++ ys5, zs6, l2.trans (L.latP.trans l5), hp5, hr5, hD5, rv5, e7, by rw [List.append_assoc]; exact e4⟩
  · have e : i = ds.length := by omega
    subst e
    rw [List.drop_length, fClL] at e3
    cases e3
    rw [List.append_nil] at e4
    subst e4
    exact .inl ⟨stop, k H2 μ2 xs l2 hp2 hr2 hD2 rv2 stop⟩
/-- an iterator that leans on no heap -/
def JIA (X : Cx) (tg iter : Expr) (fi : FA) : Prop := ∃ wi : TI, PI X tg iter wi ∧ ∀ (σ : L2.St) (H : Hp) (μ : Mp) (env : J.Env) (S : Sto) (ds : List D) (S' : Sto) (R : It → Hp → Prop), HR X.prog X.w X.K H μ S → ER X.K H μ σ env → fi env S = some (ds, S') →
  (∀ T H' μ', Later μ H μ' H' → HR X.prog X.w X.K H' μ' S' → (∀ μ0 H0, ItF X.prog X.w X.K T ds μ0 H0) → R T H') → wi σ H R
theorem jia_range1 {tg a : Expr} {g : FA} {p pos : Pos} (hg : Gl X "range") (hm : X.mg "range" = none) (ha : JA X [a] g) (hs : starEach [a] X.env = [(false, eval a X.env)] := by rfl) : JIA X tg (.Call (.Name "range" p) [a] [] pos) (fRng1 g) := by
  obtain ⟨t, pa, q⟩ := ha
  refine ⟨_, pi_range1 hg hm pa hs, fun σ H μ env S ds S' R hr er hf k => ?_⟩
  unfold fRng1 at hf
  split at hf
  · rename_i j S1 e1
    split at hf
    · rename_i hj
      cases hf
      refine q σ H μ env S _ _ _ hr er e1 fun vs H1 μ1 l hr1 r => ?_
      cases r with
      | cons r1 r2 =>
        cases r1
        cases r2
        exact ⟨j, rfl, hj.1, hj.2, k _ H1 μ1 l hr1 fun _ _ => itf_rng⟩
    · cases hf
  · cases hf
theorem q_cl {tg iter : Expr} {scope : Scope} {fi : FA} {g : FG} {ws vs : List Nat} {r : FCl} {rest : Cl} {p : Addr} (hi : ∀ (s : Shared) (H : Hp) (C : Addr) (cl : List (Str × Addr)) (fp : List Addr), JIA (X.blk s H scope (compEnvC scope cl C X.env) fp) tg iter fi)
    (hg : ∀ (s : Shared) (H : Hp) (C : Addr) (cl : List (Str × Addr)) (fp : List Addr), JG (X.blk s H scope (compEnvC scope cl C X.env) fp) tg g ws) (hw : ∀ j, j ∈ ws → j ∈ vs) (hrest : QCl X p rest r) :
    QCl X p (tCl (tiB X scope tg iter) (tgB X scope tg) rest vs) (fCl fi g r vs) := by
  intro σ H μ env S ys S' Nx xs acc hr er hp hD rv hf hl k s0 H0 C0 cl0 fp0
  obtain ⟨wi, pi, qi⟩ := hi s0 H0 C0 cl0 fp0
  refine ⟨wi, pi, ?_⟩
  unfold fCl at hf
  split at hf
  · cases hf
  · rename_i ds S1 e1
    refine qi σ H μ env S ds S1 _ hr er e1 fun T H1 μ1 l1 hr1 it => ?_
    exact cl_turns (X := X) hg hw hrest (fun μ2 H2 l => ⟨μ2, H2, it μ2 H2, .refl _ _⟩) (er.later l1) hr1 (l1.ex p hp) (l1.keep p _ hD (fun z => hr.dj p z hp)).2.2 (rv.later l1) hf hl fun H' μ' xs' l hp' hr' hD' rv' _ => k H' μ' xs' (l1.latP.trans l) hp' hr' hD' rv'
def fLc3 (own : List Nat) (fi : FA) (g : FG) (r : FCl) : FE := fun env S => match fi env S with
  | none => none
  | some (ds, S1) => match fClL g r (wipeD env own) ds S1 with
    | some (ys, S2) => if ys.length ≤ 100000 then some (.lst ys, S2) else none
    | none => none
theorem je_lc3 {elt t0 i0 t1 i1 t2 i2 : Expr} {sc : Scope} {own : List (Str × Nat)} {pos : Pos} {fi fi1 fi2 : FA} {g g1 g2 : FG} {ws ws1 ws2 vs1 vs2 : List Nat} {fe : FE} (hc : X.calm = true) (hN : X.N.Nodup) (hi : JI X t0 i0 fi) (ok : BlkOk X.N X.env.scope sc own)
    (hg : ∀ (s : Shared) (H : Hp) (C : Addr) (cl : List (Str × Addr)) (fp : List Addr), JG (X.blk s H sc (compEnvC sc cl C X.env) fp) t0 g ws)
    (hi1 : ∀ (s : Shared) (H : Hp) (C : Addr) (cl : List (Str × Addr)) (fp : List Addr), JIA (X.blk s H sc (compEnvC sc cl C X.env) fp) t1 i1 fi1)
    (hg1 : ∀ (s : Shared) (H : Hp) (C : Addr) (cl : List (Str × Addr)) (fp : List Addr), JG (X.blk s H sc (compEnvC sc cl C X.env) fp) t1 g1 ws1)
    (hi2 : ∀ (s : Shared) (H : Hp) (C : Addr) (cl : List (Str × Addr)) (fp : List Addr), JIA (X.blk s H sc (compEnvC sc cl C X.env) fp) t2 i2 fi2)
    (hg2 : ∀ (s : Shared) (H : Hp) (C : Addr) (cl : List (Str × Addr)) (fp : List Addr), JG (X.blk s H sc (compEnvC sc cl C X.env) fp) t2 g2 ws2)
    (he : ∀ (s : Shared) (H : Hp) (C : Addr) (cl : List (Str × Addr)) (fp : List Addr), JE (X.blk s H sc (compEnvC sc cl C X.env) fp) elt fe)
    (sub1 : ∀ j ∈ vs1, j ∈ own.map (·.2) := by decide) (sub2 : ∀ j ∈ vs2, j ∈ vs1 := by decide) (hw : ∀ j, j ∈ ws → j ∈ own.map (·.2) := by decide) (hw1 : ∀ j, j ∈ ws1 → j ∈ vs1 := by decide) (hw2 : ∀ j, j ∈ ws2 → j ∈ vs2 := by decide)
    (fs0 : ∀ x, foldedSetIterable i0 X.env x = pure x := by intro _; rfl) (fs1 : ∀ env x, foldedSetIterable i1 env x = pure x := by intro _ _; rfl) (fs2 : ∀ env x, foldedSetIterable i2 env x = pure x := by intro _ _; rfl) :
    JE X (.ListComp elt [⟨t0, i0, [], 0⟩, ⟨t1, i1, [], 0⟩, ⟨t2, i2, [], 0⟩] sc pos) (fLc3 (own.map (·.2)) fi g (fCl fi1 g1 (fCl fi2 g2 (fEmit fe) vs2) vs1)) := by
  obtain ⟨wi, pi, qi⟩ := hi
  refine ⟨_, pe_lc3 hc hN pi ok sub1 sub2 pgB piB pgB piB pgB peB fs0 fs1 fs2, fun σ H μ env S d S' Q hr er hf k => ?_⟩
  unfold fLc3 at hf
  split at hf
  · cases hf
  · rename_i ds S1 e1
    split at hf
    · rename_i ys S2 e2
      split at hf
      · rename_i hlen
        cases hf
        refine qi σ H μ env S ds S1 _ hr er e1 fun T H1 μ1 l1 hr1 it p np => ?_
        have pm := hr1.free np
        have er1 := er.later l1
        obtain ⟨l2, hr2⟩ := hr1.new (o := .lst []) np
        have L0 : Later μ1 H1 ⟨μ1.m, p :: μ1.x⟩ (upd H1 p (.lst [])) := ⟨⟨[], by simp⟩, fun a h => List.mem_cons_of_mem _ h, fun a o h n => ⟨n, fun nx z => (List.mem_cons.mp z).elim (fun z => ne_of_none h np z) nx, (l2.keep a o h n).2.2⟩, l2.frz⟩
        have hr0 : HR X.prog X.w X.K (upd H1 p (.lst [])) ⟨μ1.m, p :: μ1.x⟩ S1 := by
          refine ⟨hr2.len, hr2.nd, fun j a o hj ho => ?_, hr2.there, fun a ha => ?_, fun a ha z => ?_⟩
          · have d0 : Dat μ1 H1 ⟨μ1.m, p :: μ1.x⟩ (upd H1 p (.lst [])) := ⟨⟨[], by simp⟩, fun b u h n nx => ⟨n, fun z => (List.mem_cons.mp z).elim (fun z => ne_of_none h np z) nx, by rw [upd_ne (ne_of_none h np)]; exact h⟩⟩
            exact (hr1.ok j a o hj ho).dat d0 (upd_ne (show a ≠ p from fun z => pm.1 (by rw [← z]; exact List.mem_of_getElem? hj)))
          · rcases List.mem_cons.mp ha with z | z
            · rw [z, upd_same]; simp
            · exact hr2.thereX a z
          · rcases List.mem_cons.mp z with z | z
            · exact pm.1 (z ▸ ha)
            · exact hr2.dj a ha z
        refine cl_turns (X := X) hg hw (q_cl hi1 hg1 hw1 (q_cl hi2 hg2 hw2 (q_emit he))) (fun μ2 H2 l => ⟨μ1, H1, it, l.later np L0⟩) (er1.later L0) hr0 List.mem_cons_self upd_same .nil e2 (by simpa using hlen) fun H' μ' xs' l hp' hr' hD' rv' _ => ?_
        have l3 := l.later np L0
        have l8 : Later μ1 H1 ⟨μ'.m, μ1.x⟩ H' := ⟨l3.ext, fun _ h => h, fun a o h n => ⟨(l3.keep a o h n).1, id, (l3.keep a o h n).2.2⟩, l3.frz⟩
        exact k (.ref p) H' ⟨μ'.m, μ1.x⟩ (l1.trans l8) (hr'.unx l3.ex) (.lst ⟨hD', fun z => hr'.dj p z hp', pm.2⟩ (rv'.dat (show Dat μ' H' ⟨μ'.m, μ1.x⟩ H' from ⟨⟨[], by simp⟩, fun a o h n nx => ⟨n, fun z => nx (l3.ex a z), h⟩⟩)))
      · cases hf
    · cases hf
end J

set_option autoImplicit false
namespace J
open PySem PySem.Spec PyProof.Rows L2
variable {K : PySem.W.Frag} {P : Program} {w : World} {X : Cx}
/-! a displayed list times a number -/
def gRep : G2 := fun a b S => match a, b with
  | .lst ds, .int k => if -1000 ≤ k ∧ k ≤ 1000 ∧ ds.length ≤ 100 then some (.lst (List.replicate k.toNat ds).flatten, S) else none
  | _, _ => none
theorem rv_rep {H : Hp} {μ : Mp} {vs : List V} {ds : List D} (h : RvAll K H μ vs ds) : ∀ n : Nat, RvAll K H μ (List.replicate n vs).flatten (List.replicate n ds).flatten
  | 0 => .nil
  | n + 1 => by
    rw [List.replicate_succ, List.replicate_succ, List.flatten_cons, List.flatten_cons]
    exact h.append (rv_rep h n)
theorem ro_rep : RO P w K rRep gRep := by
  intro H μ S x y a b d S' Q hr rx ry e k
  unfold gRep at e
  split at e
  · rename_i ds j
    split at e
    · rename_i hc
      cases e
      cases rx with
      | lst h1 h2 =>
        cases ry
        have hl := h2.length
        refine ⟨_, j, _, rfl, rfl, h1.1, by omega, by omega, ?_, fun p np => ?_⟩
        · have : j.toNat ≤ 1000 := by omega
          exact Nat.le_trans (Nat.mul_le_mul (show _ ≤ 100 by omega) this) (by decide)
        · obtain ⟨l2, hr2⟩ := hr.new (o := .lst _) np
          exact k _ _ μ l2 hr2 (.lst ⟨upd_same, hr.free np⟩ ((rv_rep h2 _).later l2))
    · cases e
  · cases e
theorem je_rep {a b : Expr} {fa fb : FE} {pos : Pos} (ha : JE X a fa) (hb : JE X b fb) : JE X (.BinOp a .Mult b pos) (fOp gRep fa fb) := je_op op_rep ro_rep ha hb
/-- name = [.. for .. in a list that may change] -/
theorem js_setLcO {i : Nat} {y : Str} {py : Pos} {elt tg iter : Expr} {ifs : List Expr} {scope : Scope} {own : List (Str × Nat)} {pos spos : Pos} {fo : FE} {g : FG} {ws : List Nat} {ft : FT} {fe : FE} (hc : X.calm = true) (hN : X.N.Nodup) (hy : X.N[i]? = some y) (hyl : X.env.scope.names.lookup y = some .local)
    (hsw : swapsWith (.ListComp elt [⟨tg, iter, ifs, 0⟩] scope pos) (some (.Name y py)) spos.line X.env = pure true) (hi : JIO X tg iter fo) (ok : BlkOk X.N X.env.scope scope own)
    (hg : ∀ (s : Shared) (H : Hp) (C : Addr) (cl : List (Str × Addr)) (fp : List Addr), JG (X.blk s H scope (compEnvC scope cl C X.env) fp) tg g ws) (ht : ∀ (s : Shared) (H : Hp) (C : Addr) (cl : List (Str × Addr)) (fp : List Addr), JTs (X.blk s H scope (compEnvC scope cl C X.env) fp) ifs ft)
    (he : ∀ (s : Shared) (H : Hp) (C : Addr) (cl : List (Str × Addr)) (fp : List Addr), JE (X.blk s H scope (compEnvC scope cl C X.env) fp) elt fe) (hw : ∀ j, j ∈ ws → j ∈ own.map (·.2) := by decide) (hs : ∀ x, foldedSetIterable iter X.env x = pure x := by intro _; rfl) :
    JS X (.Assign [.Name y py] (.ListComp elt [⟨tg, iter, ifs, 0⟩] scope pos) spos) (fAsg (fLcO (own.map (·.2)) fo g ft fe) (gNm i)) := by
  obtain ⟨wi, pi, qi⟩ := hi
  exact ⟨_, ps_setLc hc hN hy hyl hsw pi ok pgB ptB peB hs, qasg (q_lcO qi hg ht he hw) (qg_name i)⟩
/-! for over what may change, where it stays as a test says -/
abbrev FAC := J.Env → Sto → Option (List D × (Sto → Prop) × Sto)
def ItC (P : Program) (w : World) (K : PySem.W.Frag) (T : It) (ds : List D) (c : Sto → Prop) (μ0 : Mp) (H0 : Hp) : Prop := ∀ (μ : Mp) (H : Hp), Later μ0 H0 μ H → ∀ S, HR P w K H μ S → c S →
  ((∀ i, i < ds.length → T.go i H) ∧ T.stop ds.length H) ∧ ∀ (i : Nat) (x : V) (H' : Hp) (d : D), ds[i]? = some d → T.yld i H x H' → Later μ H μ H' ∧ HR P w K H' μ S ∧ Rv K H' μ x d
theorem ItF.itc {T : It} {ds : List D} {c : Sto → Prop} {μ0 : Mp} {H0 : Hp} (h : ItF P w K T ds μ0 H0) : ItC P w K T ds c μ0 H0 := fun μ H l S hr _ => ⟨(h μ H l).1 S hr, fun i x H' d e y => (h μ H l).2 i S x H' d hr e y⟩
theorem ItP.itc {T : It} {ds : List D} {k0 : Nat} {μ0 : Mp} {H0 : Hp} (h : ItP P w K T ds k0 μ0 H0) : ItC P w K T ds (fun S => S[k0]? = some (.lst ds)) μ0 H0 := fun μ H l S hr c => h μ H l S hr c
def JIC (X : Cx) (tg iter : Expr) (fi : FAC) : Prop := ∃ wi : TI, PI X tg iter wi ∧ ∀ (σ : L2.St) (H : Hp) (μ : Mp) (env : J.Env) (S : Sto) (ds : List D) (c : Sto → Prop) (S' : Sto) (R : It → Hp → Prop), HR X.prog X.w X.K H μ S → ER X.K H μ σ env → fi env S = some (ds, c, S') →
  (∀ T H' μ', Later μ H μ' H' → HR X.prog X.w X.K H' μ' S' → ItC X.prog X.w X.K T ds c μ' H' → R T H') → wi σ H R
open Classical in
noncomputable def fForLC (c : Sto → Prop) (g : FG) (b : FS) : List D → FS
  | [], env, S => if c S then some (.nx, env, S) else none
  | d :: ds, env, S => if c S then (match g d env S with
    | none => none
    | some (env1, S1) => match b env1 S1 with
      | some (.nx, env2, S2) => fForLC c g b ds env2 S2
      | some (.ct, env2, S2) => fForLC c g b ds env2 S2
      | some (.bk, env2, S2) => some (.nx, env2, S2)
      | some (.rt d, env2, S2) => some (.rt d, env2, S2)
      | some (.xc x fs, env2, S2) => some (.xc x fs, env2, S2)
      | none => none) else none
noncomputable def fForC (fi : FAC) (g : FG) (b : FS) : FS := fun env S => match fi env S with
  | some (ds, c, S1) => fForLC c g b ds env S1
  | none => none
theorem js_forC {tg iter : Expr} {body : List Stmt} {fi : FAC} {g : FG} {ws : List Nat} {f : FS} {pos : Pos} (hp : PassesOwn (model X.prog X.w) X.A X.env X.xe) (hc : X.calm = true) (hi : JIC X tg iter fi) (hg : JG X tg g ws) (hb : JSs X body f)
    (hs : ∀ x, foldedSetIterable iter X.env x = pure x := by intro _; rfl) : JS X (.For tg iter body [] pos) (fForC fi g f) := by
  obtain ⟨wi, pi, qi⟩ := hi
  obtain ⟨tg', pg, qg⟩ := hg
  obtain ⟨tb, pb, qb⟩ := hb
  refine ⟨_, ps_for hp hc pi pg pb hs, fun σ H μ env S fl env' S' E hr er hf k => ?_⟩
  unfold fForC at hf
  split at hf
  · rename_i ds c S1 e1
    refine qi σ H μ env S ds c S1 _ hr er e1 fun T H1 μ1 l1 hr1 it => ?_
    refine ⟨fun i n σ2 H2 => n = ds.length - i ∧ i ≤ ds.length ∧ ∃ μ2 env2 S2, Later μ1 H1 μ2 H2 ∧ HR X.prog X.w X.K H2 μ2 S2 ∧ ER X.K H2 μ2 σ2 env2 ∧ fForLC c g f (ds.drop i) env2 S2 = some (fl, env', S'),
      ⟨ds.length, by simp, Nat.zero_le _, μ1, env, S1, .refl _ _, hr1, er.later l1, hf⟩, ?_⟩
    rintro i n σ2 H2 ⟨rfl, hi, μ2, env2, S2, l2, hr2, er2, hf2⟩
    have c2 : c S2 := by
      by_cases z : c S2
      · exact z
      · cases hd : ds.drop i with
        | nil => rw [hd, fForLC, if_neg z] at hf2; cases hf2
        | cons a l => rw [hd, fForLC, if_neg z] at hf2; cases hf2
    obtain ⟨⟨go, stop⟩, it2⟩ := it μ2 H2 l2 S2 hr2 c2
    by_cases hlt : i < ds.length
    · refine .inr ⟨go i hlt, fun σ3 H3 => ∃ μ3 env3 S3, Later μ1 H1 μ3 H3 ∧ HR X.prog X.w X.K H3 μ3 S3 ∧ ER X.K H3 μ3 σ3 env3 ∧ fForLC c g f (ds.drop (i + 1)) env3 S3 = some (fl, env', S'), fun σ3 H3 z => ⟨ds.length - (i + 1), by omega, rfl, hlt, z⟩, fun x H3 y => ?_⟩
      obtain ⟨l3, hr3, r3⟩ := it2 i x H3 ds[i] (by simp [hlt]) y
      rw [List.drop_eq_getElem_cons hlt, fForLC, if_pos c2] at hf2
      split at hf2
      · cases hf2
      · rename_i env4 S4 e4
        refine qg σ2 H3 μ2 env2 S2 x ds[i] env4 S4 _ hr3 (er2.later l3) r3 e4 fun σ4 H4 μ4 l4 hr4 er4 _ => ?_
        have L4 := l2.trans (l3.trans l4)
        split at hf2
        · rename_i env5 S5 e5
          exact qb σ4 H4 μ4 env4 S4 _ env5 S5 _ hr4 er4 e5 fun σ5 H5 μ5 l5 hr5 er5 => ⟨μ5, env5, S5, L4.trans l5, hr5, er5, hf2⟩
        · rename_i env5 S5 e5
          exact qb σ4 H4 μ4 env4 S4 _ env5 S5 _ hr4 er4 e5 fun σ5 H5 μ5 l5 hr5 er5 => ⟨μ5, env5, S5, L4.trans l5, hr5, er5, hf2⟩
        · rename_i env5 S5 e5
          cases hf2
          exact qb σ4 H4 μ4 env4 S4 _ _ _ _ hr4 er4 e5 fun σ5 H5 μ5 l5 hr5 er5 => k σ5 H5 μ5 (l1.trans (L4.trans l5)) hr5 er5
        · rename_i d env5 S5 e5
          cases hf2
          exact qb σ4 H4 μ4 env4 S4 _ _ _ _ hr4 er4 e5 fun σ5 H5 μ5 l5 hr5 er5 => k σ5 H5 μ5 (l1.trans (L4.trans l5)) hr5 er5
        · rename_i x fs env5 S5 e5
          cases hf2
          exact qb σ4 H4 μ4 env4 S4 _ _ _ _ hr4 er4 e5 fun σ5 H5 μ5 l5 hr5 er5 => k σ5 H5 μ5 (l1.trans (L4.trans l5)) hr5 er5
        · cases hf2
    · have e : i = ds.length := by omega
      subst e
      rw [List.drop_length, fForLC, if_pos c2] at hf2
      cases hf2
      exact .inl ⟨stop, k σ2 H2 μ2 (l1.trans l2) hr2 er2⟩
  · cases hf
/-- enumerate(e) -/
def fEnumC (g : FA) : FAC := fun env S => match g env S with
  | some ([.obj k], S1) => match S1[k]? with
    | some (.lst es) => some (enD es, (fun S => S[k]? = some (.lst es)), S1)
    | _ => none
  | some ([d], S1) => match d.items with
    | some ds => some (enD ds, (fun _ => True), S1)
    | none => none
  | _ => none
theorem itc_en {H0 : Hp} {μ0 : Mp} {a : Addr} {ds : List D} {k0 : Nat} (ha : μ0.m[k0]? = some a) : ItC P w K (Kx.IteC K true a) (enD ds) (fun S => S[k0]? = some (.lst ds)) μ0 H0 := by
  intro μ H l S hr hk
  obtain ⟨e, he⟩ := l.ext
  have ha' : μ.m[k0]? = some a := by rw [he, List.getElem?_append_left (List.getElem?_eq_some_iff.mp ha).1]; exact ha
  obtain ⟨xs, hx, hd⟩ := hr.ok k0 a _ ha' hk
  have hs : Kx.SqC K true H a xs := .inl (.inl hx)
  have W := Kx.walk_enumC (K := K) (c := true) (a := a) (xs := xs)
  have hl := hd.length
  have hl2 : (enD ds).length = xs.length := by rw [enD, List.length_mapIdx, hl]
  refine ⟨⟨fun i hi => W.goes i H (by omega) hs, by rw [hl2]; exact W.stops H hs⟩, fun i x H' d h1 y => ?_⟩
  have hi : i < xs.length := by rw [← hl2]; exact (List.getElem?_eq_some_iff.mp h1).1
  obtain ⟨T, x1, y1, rfl, hT, rfl, e1, e2⟩ := W.yields i H x H' hi hs y
  cases e1
  obtain ⟨l2, hr2⟩ := hr.new (o := .tup [.int (i : Nat), y1]) hT
  have ed : ∃ d1, ds[i]? = some d1 ∧ d = .tup [.int (i : Int), d1] := by
    rw [enD, List.getElem?_mapIdx] at h1
    obtain ⟨d1, h2, h3⟩ := Option.map_eq_some_iff.mp h1
    exact ⟨d1, h2, h3.symm⟩
  obtain ⟨d1, h2, rfl⟩ := ed
  exact ⟨l2, hr2, .tup (.inl ⟨.inl upd_same, hr.free hT⟩) (.cons (.int _) (.cons ((hd.at e2 h2).later l2) .nil))⟩
theorem jic_enum {e : Expr} {g : FA} {p pos tpos : Pos} {elts : List Expr} {kk : Nat} (hg : Gl X "enumerate") (hm : X.mg "enumerate" = none) (ha : JA X [e] g) (hs : starEach [e] X.env = [(false, eval e X.env)] := by rfl) : JIC X (.Tuple elts kk tpos) (.Call (.Name "enumerate" p) [e] [] pos) (fEnumC g) := by
  obtain ⟨t, pa, q⟩ := ha
  refine ⟨_, Kx.pi_enumS hg hm pa hs, fun σ H μ env S ds c S' R hr er hf k => ?_⟩
  unfold fEnumC at hf
  split at hf
  · rename_i k0 S1 e1
    split at hf
    · rename_i es e2
      cases hf
      refine q σ H μ env S _ _ _ hr er e1 fun vs H1 μ1 l hr1 r => ?_
      obtain ⟨x, rfl, r1⟩ := r.one
      obtain ⟨a, rfl, ha, xs, hx, hd⟩ := hr1.at r1 e2
      exact ⟨_, _, true, rfl, .inl (.inl hx), k _ H1 μ1 l hr1 (itc_en ha)⟩
    · cases hf
  · rename_i d S1 no e1
    split at hf
    · rename_i es e2
      cases hf
      refine q σ H μ env S _ _ _ hr er e1 fun vs H1 μ1 l hr1 r => ?_
      obtain ⟨x, rfl, r1⟩ := r.one
      cases r1 with
      | tup h1 h2 => cases e2; exact ⟨_, _, false, rfl, h1.sq, k _ H1 μ1 l hr1 (itf_en (c := false) (fun μ H l => TpR.sq (h1.imp l.rd id)) h2).itc⟩
      | lst h1 h2 => cases e2; exact ⟨_, _, true, rfl, h1.sq, k _ H1 μ1 l hr1 (itf_en (c := true) (fun μ H l => LsR.sq (h1.ls.imp l.rd id)) h2).itc⟩
      | scr h1 h2 => cases e2; exact ⟨_, _, true, rfl, h1.sq, k _ H1 μ1 l hr1 (itf_en (c := true) (fun μ H l => LsR.sq (h1.imp l.rd id)) h2).itc⟩
      | _ => cases e2
    · cases hf
  · cases hf
/-- for x in e, a list that may change -/
def fItO (f : FE) : FAC := fun env S => match f env S with
  | some (.obj k, S1) => match S1[k]? with
    | some (.lst es) => some (es, (fun S => S[k]? = some (.lst es)), S1)
    | _ => none
  | _ => none
theorem jic_seqO {tg e : Expr} {f : FE} (h : JE X e f) : JIC X tg e (fItO f) := by
  obtain ⟨wi, p, q⟩ := jio_seq (tg := tg) h
  refine ⟨wi, p, fun σ H μ env S ds c S' R hr er hf k => ?_⟩
  unfold fItO at hf
  split at hf
  · rename_i k0 S1 e1
    split at hf
    · rename_i es e2
      cases hf
      exact q σ H μ env S k0 _ _ R hr er e1 e2 fun T H1 μ1 l hr1 it => k T H1 μ1 l hr1 it.itc
    · cases hf
  · cases hf
end J

set_option autoImplicit false
namespace J
open PySem PySem.Spec PyProof.Rows L2
variable {K : PySem.W.Frag} {P : Program} {w : World} {X : Cx}
/-! x >= y of data that can be compared place by place -/
def rGeD (K : PySem.W.Frag) : R2 := fun x y H Q => ∃ d e, Dp K H x d ∧ Dp K H y e ∧ PySem.W.alike d e = true ∧ d ≠ .none ∧ d.depth ≤ 60 ∧ Q (.bl (!PySem.W.dataLt d e)) H
theorem op_geD (hu : X.A.units + 64 < cLine) : OpR X (compareOp .GtE) (rGeD X.K) := by
  intro pins s σ H x y v u Q I rx ry h
  obtain ⟨d, e, hd, he, al, nn, dp, q⟩ := h
  obtain ⟨as, r1⟩ := Dp.reads I d x v hd rx
  obtain ⟨bs, r2⟩ := Dp.reads I e y u he ry
  exact PySem.W.ge_data r1 r2 al nn (by omega) ⟨.bl _, H, I, rfl, q⟩
def D.pysS (S : Sto) : List D → Option (List PyData)
  | [] => some []
  | d :: ds => match D.pyS S d, D.pysS S ds with
    | some p, some ps => some (p :: ps)
    | _, _ => none
/-- a tuple whose items may be numbered lists -/
def D.pyN (S : Sto) : D → Option PyData
  | .tup ds => (D.pysS S ds).map .tuple
  | d => d.pyS S
theorem RvAll.dpsS {H : Hp} {μ : Mp} {S : Sto} (hr : HR P w K H μ S) : ∀ {vs : List V} {ds : List D} {ps : List PyData}, RvAll K H μ vs ds → D.pysS S ds = some ps → DpAll K H vs ps
  | _, _, _, .nil, e => by cases e; exact .nil
  | _, _, _, .cons (d := d) (ds := ds) r q, e => by
    rw [D.pysS] at e
    split at e
    · rename_i p ps h1 h2
      cases e
      exact .cons (r.dpS hr h1) (RvAll.dpsS hr q h2)
    · cases e
theorem Rv.dpN {H : Hp} {μ : Mp} {S : Sto} {v : V} {d : D} {p : PyData} (hr : HR P w K H μ S) (r : Rv K H μ v d) (e : d.pyN S = some p) : Dp K H v p := by
  cases r with
  | tup h q =>
    simp only [D.pyN] at e
    obtain ⟨ps, e1, rfl⟩ := Option.map_eq_some_iff.mp e
    exact .tup h.sq (q.dpsS hr e1)
  | non => exact Rv.dpS hr .non e
  | bl b => exact Rv.dpS hr (.bl b) e
  | int i => exact Rv.dpS hr (.int i) e
  | str x => exact Rv.dpS hr (.str x) e
  | lst h q => exact Rv.dpS hr (.lst h q) e
  | scr h q => exact Rv.dpS hr (.scr h q) e
  | obj h => exact Rv.dpS hr (.obj h) e
  | glo v => exact Rv.dpS hr (.glo v) e
open Classical in
noncomputable def gGeN : G2 := fun a b S => match a.pyN S, b.pyN S with
  | some p, some q => if PySem.W.alike p q = true ∧ p ≠ .none ∧ p.depth ≤ 60 then some (.bl (!PySem.W.dataLt p q), S) else none
  | _, _ => none
theorem ro_geN : RO P w K (rGeD K) gGeN := by
  intro H μ S x y a b d S' Q hr rx ry e k
  unfold gGeN at e
  split at e
  · rename_i p q h1 h2
    split at e
    · rename_i c
      cases e
      exact ⟨p, q, rx.dpN hr h1, ry.dpN hr h2, c.1, c.2.1, c.2.2, k _ H μ (.refl _ _) hr (.bl _)⟩
    · cases e
  · cases e
end J

set_option autoImplicit false
namespace J
open PySem PySem.Spec PyProof.Rows L2
/-! readings, computed -/
@[simp] theorem fVar_eq (i : Nat) (env : Env) (S : Sto) : fVar i env S = match env[i]? with | some (some d) => some (d, S) | _ => none := rfl
@[simp] theorem fC_eq (d : D) (env : Env) (S : Sto) : fC d env S = some (d, S) := rfl
@[simp] theorem fOp_eq (g : G2) (fa fb : FE) (env : Env) (S : Sto) : fOp g fa fb env S = match fa env S with | none => none | some (a, S1) => match fb env S1 with | none => none | some (b, S2) => g a b S2 := rfl
@[simp] theorem fUn_eq (g : D → Sto → Option (D × Sto)) (fa : FE) (env : Env) (S : Sto) : fUn g fa env S = match fa env S with | none => none | some (a, S1) => g a S1 := rfl
@[simp] theorem fTest_eq (f : FE) (env : Env) (S : Sto) : fTest f env S = match f env S with | some (.bl b, S') => some (b, S') | _ => none := rfl
@[simp] theorem fTruth_eq (f : FE) (env : Env) (S : Sto) : fTruth f env S = match f env S with | some (d, S') => (d.truth S').map fun b => (b, S') | none => none := rfl
@[simp] theorem fAndT_eq (fa fb : FT) (env : Env) (S : Sto) : fAndT fa fb env S = match fa env S with | some (true, S1) => fb env S1 | r => r := rfl
@[simp] theorem fOrT_eq (fa fb : FT) (env : Env) (S : Sto) : fOrT fa fb env S = match fa env S with | some (false, S1) => fb env S1 | r => r := rfl
@[simp] theorem fNotT_eq (fa : FT) (env : Env) (S : Sto) : fNotT fa env S = (fa env S).map fun p => (!p.1, p.2) := rfl
@[simp] theorem fAndV_eq (fa fb : FE) (env : Env) (S : Sto) : fAndV fa fb env S = match fa env S with | some (.bl true, S1) => fb env S1 | some (.bl false, S1) => some (.bl false, S1) | _ => none := rfl
@[simp] theorem fOrV_eq (fa fb : FE) (env : Env) (S : Sto) : fOrV fa fb env S = match fa env S with | some (.bl false, S1) => fb env S1 | some (.bl true, S1) => some (.bl true, S1) | _ => none := rfl
@[simp] theorem fNotV_eq (fa : FE) (env : Env) (S : Sto) : fNotV fa env S = match fa env S with | some (.bl b, S1) => some (.bl (!b), S1) | _ => none := rfl
@[simp] theorem fIf_eq (ft : FT) (fa fb : FE) (env : Env) (S : Sto) : fIf ft fa fb env S = match ft env S with | some (true, S1) => fa env S1 | some (false, S1) => fb env S1 | none => none := rfl
@[simp] theorem faNil_eq (env : Env) (S : Sto) : faNil env S = some ([], S) := rfl
@[simp] theorem faCons_eq (f : FE) (g : FA) (env : Env) (S : Sto) : faCons f g env S = match f env S with | none => none | some (d, S1) => match g env S1 with | none => none | some (ds, S2) => some (d :: ds, S2) := rfl
@[simp] theorem fTup_eq (g : FA) (env : Env) (S : Sto) : fTup g env S = match g env S with | some (ds, S') => if ds.length ≤ 1000 then some (.tup ds, S') else none | none => none := rfl
@[simp] theorem fLst_eq (g : FA) (env : Env) (S : Sto) : fLst g env S = match g env S with | some (ds, S') => if ds.length ≤ 1000 then some (.lst ds, S') else none | none => none := rfl
@[simp] theorem fLstN_eq (g : FA) (env : Env) (S : Sto) : fLstN g env S = match g env S with | some (ds, S') => if ds.length ≤ 1000 then some (.obj S'.length, S' ++ [.lst ds]) else none | none => none := rfl
@[simp] theorem fNext_eq (env : Env) (S : Sto) : fNext env S = some (.nx, env, S) := rfl
@[simp] theorem fSeq_eq (f g : FS) (env : Env) (S : Sto) : fSeq f g env S = match f env S with | some (.nx, env1, S1) => g env1 S1 | r => r := rfl
@[simp] theorem fNone_eq (env : Env) (S : Sto) : fNone env S = none := rfl
@[simp] theorem fBrk_eq (env : Env) (S : Sto) : fBrk env S = some (.bk, env, S) := rfl
@[simp] theorem fCnt_eq (env : Env) (S : Sto) : fCnt env S = some (.ct, env, S) := rfl
@[simp] theorem fDrop_eq (f : FE) (env : Env) (S : Sto) : fDrop f env S = match f env S with | some (_, S1) => some (.nx, env, S1) | none => none := rfl
@[simp] theorem fRet_eq (f : FE) (env : Env) (S : Sto) : fRet f env S = match f env S with | some (d, S1) => some (.rt d, env, S1) | none => none := rfl
@[simp] theorem fRetN_eq (env : Env) (S : Sto) : fRetN env S = some (.rt .non, env, S) := rfl
@[simp] theorem fIfS_eq (c : FT) (f g : FS) (env : Env) (S : Sto) : fIfS c f g env S = match c env S with | some (true, S1) => f env S1 | some (false, S1) => g env S1 | none => none := rfl
@[simp] theorem gNm_eq (i : Nat) (d : D) (env : Env) (S : Sto) : gNm i d env S = some (env.set i (some d), S) := rfl
@[simp] theorem gNil_eq (env : Env) (S : Sto) : gNil [] env S = some (env, S) := rfl
@[simp] theorem gCons_eq (g : FG) (h : FGs) (d : D) (ds : List D) (env : Env) (S : Sto) : gCons g h (d :: ds) env S = match g d env S with | some (env1, S1) => h ds env1 S1 | none => none := rfl
@[simp] theorem gTp_eq (n : Nat) (h : FGs) (ds : List D) (env : Env) (S : Sto) : gTp n h (.tup ds) env S = if ds.length = n then h ds env S else none := rfl
@[simp] theorem fAsg_eq (f : FE) (g : FG) (env : Env) (S : Sto) : fAsg f g env S = match f env S with | some (d, S1) => (match g d env S1 with | some (env', S2) => some (.nx, env', S2) | none => none) | none => none := rfl
@[simp] theorem fPar_eq (i j : Nat) (g : FA) (env : Env) (S : Sto) : fPar i j g env S = match g env S with | some ([d, e], S1) => some (.nx, (env.set i (some d)).set j (some e), S1) | _ => none := rfl
@[simp] theorem fFor_eq (fi : FA) (g : FG) (b : FS) (env : Env) (S : Sto) : fFor fi g b env S = match fi env S with | some (ds, S1) => fForL g b ds env S1 | none => none := rfl
@[simp] theorem fCall_eq (n : Nat) (F : Fn) (g : FA) (dd : List D) (env : Env) (S : Sto) : fCall n F g dd env S = match g env S with | some (ds, S1) => (if (ds ++ dd).length = n then F (ds ++ dd) S1 else none) | none => none := rfl
@[simp] theorem fCallN_eq (n i j : Nat) (F : Fn) (h : List D → List D → List D) (g gk : FA) (env : Env) (S : Sto) : fCallN n i j F h g gk env S = match g env S with | some (ds, S1) => (match gk env S1 with | some (es, S2) => (if ds.length = i ∧ es.length = j ∧ (h ds es).length = n then F (h ds es) S2 else none) | none => none) | none => none := rfl
@[simp] theorem fB_eq (g : Fn) (fa : FA) (env : Env) (S : Sto) : fB g fa env S = match fa env S with | some (ds, S1) => g ds S1 | none => none := rfl
@[simp] theorem fM_eq (T : String) (g : GM) (fo : FE) (fa : FA) (env : Env) (S : Sto) : fM T g fo fa env S = match fo env S with | some (a, S1) => (if tyD T S1 a = true then (match fa env S1 with | some (ds, S2) => g a ds S2 | none => none) else none) | none => none := rfl
@[simp] theorem fM0_eq (T : String) (g : GM) (fo : FE) (env : Env) (S : Sto) : fM0 T g fo env S = match fo env S with | some (a, S1) => (if tyD T S1 a = true then g a [] S1 else none) | none => none := rfl
@[simp] theorem gSub_eq (fo fi : FE) (g : GS) (d : D) (env : Env) (S : Sto) : gSub fo fi g d env S = match fo env S with | some (a, S1) => (match fi env S1 with | some (b, S2) => (match g a b d S2 with | some S3 => some (env, S3) | none => none) | none => none) | none => none := rfl
@[simp] theorem fChain_eq (g g' : G2) (fa fb fc : FE) (env : Env) (S : Sto) : fChain g g' fa fb fc env S = match fa env S with | some (a, S1) => (match fb env S1 with | some (b, S2) => (match g a b S2 with | some (.bl true, S3) => (match fc env S3 with | some (c, S4) => g' b c S4 | none => none) | some (.bl false, S3) => some (.bl false, S3) | _ => none) | none => none) | none => none := rfl
@[simp] theorem fDispIx_eq (ns : List Str) (fv : FA) (fk : FE) (env : Env) (S : Sto) : fDispIx ns fv fk env S = match fv env S with | some (ds, S1) => (match fk env S1 with | some (.str x, S2) => (match valKD (mergeKD [] (kvN ns ds)) (Sum.inr x) with | some d => some (d, S2) | none => none) | _ => none) | none => none := rfl
@[simp] theorem fRng1_eq (g : FA) (env : Env) (S : Sto) : fRng1 g env S = match g env S with | some ([.int j], S1) => (if -(2 ^ 62) ≤ j ∧ j < 2 ^ 62 then some (rngD 0 j.toNat, S1) else none) | _ => none := rfl
@[simp] theorem fRng2_eq (g : FA) (env : Env) (S : Sto) : fRng2 g env S = match g env S with | some ([.int i, .int j], S1) => (if -(2 ^ 62) ≤ i ∧ i < 2 ^ 62 ∧ -(2 ^ 62) ≤ j ∧ j < 2 ^ 62 then some (rngD i (j - i).toNat, S1) else none) | _ => none := rfl
@[simp] theorem fIt_eq (f : FE) (env : Env) (S : Sto) : fIt f env S = match f env S with | some (d, S1) => (match d.items with | some ds => some (ds, S1) | none => none) | none => none := rfl
@[simp] theorem fEnum_eq (g : FA) (env : Env) (S : Sto) : fEnum g env S = match g env S with | some ([d], S1) => (match d.items with | some ds => some (enD ds, S1) | none => none) | _ => none := rfl
@[simp] theorem fLc_eq (own : List Nat) (fi : FA) (g : FG) (ft : FT) (fe : FE) (env : Env) (S : Sto) : fLc own fi g ft fe env S = match fi env S with | none => none | some (ds, S1) => if ds.length ≤ 100000 then (match fLcL g ft fe (wipeD env own) ds S1 with | some (ys, S2) => some (.lst ys, S2) | none => none) else none := rfl
@[simp] theorem fYes_eq (env : Env) (S : Sto) : fYes env S = some (true, S) := rfl
@[simp] theorem wipeD_nil (env : Env) : wipeD env [] = env := rfl
@[simp] theorem wipeD_cons (env : Env) (v : Nat) (vs : List Nat) : wipeD env (v :: vs) = (wipeD env vs).set v none := rfl
@[simp] theorem fDNew_eq (env : Env) (S : Sto) : fDNew env S = some (.obj S.length, S ++ [.dct []]) := rfl
@[simp] theorem fAug_eq (i : Nat) (g : G2) (fe : FE) (env : Env) (S : Sto) : fAug i g fe env S = match env[i]? with | some (some a) => (match fe env S with | some (b, S1) => (match g a b S1 with | some (c, S2) => some (.nx, env.set i (some c), S2) | none => none) | none => none) | _ => none := rfl
@[simp] theorem fGet2_eq (fo fk fx : FE) (env : Env) (S : Sto) : fGet2 fo fk fx env S = match fo env S with
  | some (.obj j, S1) => (match S1[j]? with
    | some (.dct _) => (match fk env S1 with
      | some (b, S2) => (match fx env S2 with
        | some (x, S3) => (match S3[j]?, b.tkey with
          | some (.dct kvs), some k => some ((luD kvs k).getD x, S3)
          | _, _ => none)
        | none => none)
      | none => none)
    | _ => none)
  | _ => none := rfl
@[simp] theorem startD_eq (n : Nat) (ds : List D) : startD n ds = ds.map some ++ List.replicate (n - ds.length) none := rfl
@[simp] theorem rep0 {α : Type} (a : α) : List.replicate 0 a = [] := rfl
@[simp] theorem repS {α : Type} (a : α) (n : Nat) : List.replicate (n + 1) a = a :: List.replicate n a := rfl
/-! operators -/
@[simp] theorem gI_int (c : Int → Int → Bool) (g : Int → Int → Int) (i j : Int) (S : Sto) : gI c g (.int i) (.int j) S = if c i j = true then some (.int (g i j), S) else none := rfl
@[simp] theorem gI0_int (g : Int → Int → Int) (i j : Int) (S : Sto) : gI0 g (.int i) (.int j) S = some (.int (g i j), S) := rfl
@[simp] theorem gB0_int (g : Int → Int → Bool) (i j : Int) (S : Sto) : gB0 g (.int i) (.int j) S = some (.bl (g i j), S) := rfl
@[simp] theorem gAdd_int (i j : Int) (S : Sto) : gAdd (.int i) (.int j) S = some (.int (i + j), S) := rfl
@[simp] theorem gAdd_lst (xs ys : List D) (S : Sto) : gAdd (.lst xs) (.lst ys) S = if xs.length + ys.length ≤ 100000 then some (.lst (xs ++ ys), S) else none := rfl
@[simp] theorem gAdd_str (x y : Str) (S : Sto) : gAdd (.str x) (.str y) S = if x.length + y.length ≤ sizeLine then some (.str (x ++ y), S) else none := rfl
@[simp] theorem gNeg_int (i : Int) (S : Sto) : gNeg (.int i) S = some (.int (-i), S) := rfl
@[simp] theorem gEq_int (n : Bool) (i j : Int) (S : Sto) : gEq n (.int i) (.int j) S = some (.bl (n ^^ (i == j)), S) := rfl
@[simp] theorem gEq_str (n : Bool) (i j : Str) (S : Sto) : gEq n (.str i) (.str j) S = some (.bl (n ^^ (i == j)), S) := rfl
@[simp] theorem gEq_bl (n : Bool) (i j : Bool) (S : Sto) : gEq n (.bl i) (.bl j) S = some (.bl (n ^^ (i == j)), S) := rfl
@[simp] theorem gEq_int_str (n : Bool) (i : Int) (j : Str) (S : Sto) : gEq n (.int i) (.str j) S = some (.bl n, S) := by cases n <;> rfl
@[simp] theorem gEq_str_int (n : Bool) (i : Str) (j : Int) (S : Sto) : gEq n (.str i) (.int j) S = some (.bl n, S) := by cases n <;> rfl
@[simp] theorem gIsN_non (n : Bool) (S : Sto) : gIsN n .non .non S = some (.bl (!n), S) := rfl
@[simp] theorem gIsN_int (n : Bool) (i : Int) (S : Sto) : gIsN n (.int i) .non S = some (.bl n, S) := rfl
@[simp] theorem gIsN_tup (n : Bool) (ds : List D) (S : Sto) : gIsN n (.tup ds) .non S = some (.bl n, S) := rfl
@[simp] theorem gIdx_tup (ds : List D) (i : Int) (S : Sto) : gIdx (.tup ds) (.int i) S = (atI ds i).map fun d => (d, S) := by
  show (match atI ds i with | some d => some (d, S) | none => none) = _
  cases atI ds i <;> rfl
@[simp] theorem gIdx_lst (ds : List D) (i : Int) (S : Sto) : gIdx (.lst ds) (.int i) S = (atI ds i).map fun d => (d, S) := by
  show (match atI ds i with | some d => some (d, S) | none => none) = _
  cases atI ds i <;> rfl
@[simp] theorem gIdx_scr (ds : List D) (i : Int) (S : Sto) : gIdx (.scr ds) (.int i) S = (atI ds i).map fun d => (d, S) := by
  show (match atI ds i with | some d => some (d, S) | none => none) = _
  cases atI ds i <;> rfl
theorem gIdx_obj {k : Nat} {S : Sto} {ds : List D} (h : S[k]? = some (.lst ds)) (i : Int) : gIdx (.obj k) (.int i) S = (atI ds i).map fun d => (d, S) := by
  have e1 : gIxD (.obj k) (.int i) S = none := by simp only [gIxD, h]
  have e2 : gIx (.obj k) (.int i) S = match atI ds i with | some d => some (d, S) | none => none := by simp only [gIx, D.seqS, h] <;> (cases atI ds i <;> rfl)
  unfold gIdx
  rw [e1, e2]
  cases atI ds i <;> rfl
theorem gSet_obj {k : Nat} {S : Sto} {ds : List D} {i : Int} {j : Nat} (h : S[k]? = some (.lst ds)) (hj : ixN ds.length i = some j) (d : D) : gSet (.obj k) (.int i) d S = some (S.set k (.lst (ds.set j d))) := by
  have e1 : gSetD (.obj k) (.int i) d S = none := by simp only [gSetD, h]
  have e2 : gSetL (.obj k) (.int i) d S = some (S.set k (.lst (ds.set j d))) := by simp only [gSetL, h, hj]
  unfold gSet
  rw [e1, e2]
  rfl
@[simp] theorem atI_0 {α : Type} (a : α) (l : List α) : atI (a :: l) 0 = some a := atI_nat (j := 0) rfl
@[simp] theorem atI_1 {α : Type} (a b : α) (l : List α) : atI (a :: b :: l) 1 = some b := atI_nat (j := 1) rfl
@[simp] theorem atI_2 {α : Type} (a b c : α) (l : List α) : atI (a :: b :: c :: l) 2 = some c := atI_nat (j := 2) rfl
@[simp] theorem atI_3 {α : Type} (a b c d : α) (l : List α) : atI (a :: b :: c :: d :: l) 3 = some d := atI_nat (j := 3) rfl
/-! isinstance -/
@[simp] theorem kit_tt : kitB "tuple" "tuple" = some true := by decide +kernel
@[simp] theorem kit_it : kitB "int" "tuple" = some false := by decide +kernel
@[simp] theorem kit_st : kitB "str" "tuple" = some false := by decide +kernel
@[simp] theorem kit_bt : kitB "bool" "tuple" = some false := by decide +kernel
@[simp] theorem kit_nt : kitB "NoneType" "tuple" = some false := by decide +kernel
@[simp] theorem kit_lt : kitB "list" "tuple" = some false := by decide +kernel
@[simp] theorem kit_ti : kitB "tuple" "int" = some false := by decide +kernel
@[simp] theorem kit_ii : kitB "int" "int" = some true := by decide +kernel
@[simp] theorem kit_si : kitB "str" "int" = some false := by decide +kernel
@[simp] theorem kit_bi : kitB "bool" "int" = some true := by decide +kernel
@[simp] theorem kit_ni : kitB "NoneType" "int" = some false := by decide +kernel
@[simp] theorem kit_li : kitB "list" "int" = some false := by decide +kernel
@[simp] theorem kit_tb : kitB "tuple" "bool" = some false := by decide +kernel
@[simp] theorem kit_ib : kitB "int" "bool" = some false := by decide +kernel
@[simp] theorem kit_sb : kitB "str" "bool" = some false := by decide +kernel
@[simp] theorem kit_bb : kitB "bool" "bool" = some true := by decide +kernel
@[simp] theorem kit_nb : kitB "NoneType" "bool" = some false := by decide +kernel
@[simp] theorem kit_lb : kitB "list" "bool" = some false := by decide +kernel
@[simp] theorem kit_ts : kitB "tuple" "str" = some false := by decide +kernel
@[simp] theorem kit_is : kitB "int" "str" = some false := by decide +kernel
@[simp] theorem kit_ss : kitB "str" "str" = some true := by decide +kernel
@[simp] theorem kit_bs : kitB "bool" "str" = some false := by decide +kernel
@[simp] theorem kit_ns : kitB "NoneType" "str" = some false := by decide +kernel
@[simp] theorem kit_ls : kitB "list" "str" = some false := by decide +kernel
@[simp] theorem gIsi_eq (a : D) (T : String) (S : Sto) : gIsi [a, .glo (.ty T)] S = match a.ty S with | some t => (kitB t T).map fun b => (.bl b, S) | none => none := rfl
@[simp] theorem ty_non (S : Sto) : D.ty S .non = some "NoneType" := rfl
@[simp] theorem ty_bl (S : Sto) (b : Bool) : D.ty S (.bl b) = some "bool" := rfl
@[simp] theorem ty_int (S : Sto) (i : Int) : D.ty S (.int i) = some "int" := rfl
@[simp] theorem ty_str (S : Sto) (i : Str) : D.ty S (.str i) = some "str" := rfl
@[simp] theorem ty_tup (S : Sto) (i : List D) : D.ty S (.tup i) = some "tuple" := rfl
@[simp] theorem ty_lst (S : Sto) (i : List D) : D.ty S (.lst i) = some "list" := rfl
@[simp] theorem truth_bl (S : Sto) (b : Bool) : D.truth S (.bl b) = some b := rfl
@[simp] theorem gLen_tup (ds : List D) (S : Sto) : gLen [.tup ds] S = some (.int ds.length, S) := rfl
@[simp] theorem gLen_lst (ds : List D) (S : Sto) : gLen [.lst ds] S = some (.int ds.length, S) := rfl
@[simp] theorem gLen_scr (ds : List D) (S : Sto) : gLen [.scr ds] S = some (.int ds.length, S) := rfl
@[simp] theorem gAbs_int (i : Int) (S : Sto) : gAbs [.int i] S = some (.int (if i < 0 then -i else i), S) := rfl
@[simp] theorem gMax2_int (i j : Int) (S : Sto) : gMax2 [.int i, .int j] S = some (.int (if j > i then j else i), S) := rfl
@[simp] theorem gMin2_int (i j : Int) (S : Sto) : gMin2 [.int i, .int j] S = some (.int (if j < i then j else i), S) := rfl
@[simp] theorem gTuple_lst (ds : List D) (S : Sto) : gTuple [.lst ds] S = some (.tup ds, S) := rfl
@[simp] theorem items_tup (ds : List D) : D.items (.tup ds) = some ds := rfl
@[simp] theorem items_lst (ds : List D) : D.items (.lst ds) = some ds := rfl
@[simp] theorem items_scr (ds : List D) : D.items (.scr ds) = some ds := rfl
/-! what is left behind a call -/
@[simp] theorem und_int (n : Nat) (i : Int) : D.und n (.int i) = true := by simp [D.und]
@[simp] theorem und_bl (n : Nat) (i : Bool) : D.und n (.bl i) = true := by simp [D.und]
@[simp] theorem und_str (n : Nat) (i : Str) : D.und n (.str i) = true := by simp [D.und]
@[simp] theorem und_non (n : Nat) : D.und n .non = true := by simp [D.und]
@[simp] theorem und_tup (n : Nat) (ds : List D) : D.und n (.tup ds) = D.undAll n ds := by simp [D.und]
@[simp] theorem und_lst (n : Nat) (ds : List D) : D.und n (.lst ds) = D.undAll n ds := by simp [D.und]
@[simp] theorem undAll_nil (n : Nat) : D.undAll n [] = true := by simp [D.undAll]
@[simp] theorem undAll_cons (n : Nat) (d : D) (ds : List D) : D.undAll n (d :: ds) = (D.und n d && D.undAll n ds) := by simp [D.undAll]
@[simp] theorem undAll_append (n : Nat) (ds es : List D) : D.undAll n (ds ++ es) = (D.undAll n ds && D.undAll n es) := by
  induction ds with
  | nil => simp
  | cons d ds ih => simp [ih, Bool.and_assoc]
theorem gc_of {S S' : Sto} {d : D} (kp : Keeps S S') (h : d.und 0 = true) : gc .drop S d S' = some (d, S'.take S.length) := by
  simp only [gc]
  rw [if_pos kp]
  cases d with
  | obj k => simp [D.und] at h
  | _ => simp only [h, if_true]
theorem gc_of_frz {S S' : Sto} {d : D} (kp : Keeps S S') (h : d.und 0 = true) : gc .frz S d S' = some (d, S'.take S.length) := by
  simp only [gc]
  rw [if_pos kp]
  cases d with
  | obj k => simp [D.und] at h
  | _ => simp only [h, if_true]
@[simp] theorem gc_same {S : Sto} {d : D} (h : d.und 0 = true) : gc .drop S d S = some (d, S) := by rw [gc_of (Keeps.refl S) h, List.take_length]
@[simp] theorem gc_app {S T : Sto} {d : D} (h : d.und 0 = true) : gc .drop S d (S ++ T) = some (d, S) := by rw [gc_of (Keeps.app S T) h, List.take_left]
theorem Keeps.set {S : Sto} {k : Nat} {o : O} (h : o.und 0 = true) : Keeps S (S.set k o) := by
  refine ⟨by simp, fun i hi => ?_⟩
  by_cases e : k = i
  · subst e
    exact .inr ⟨o, List.getElem?_set_self hi, h⟩
  · exact .inl (List.getElem?_set_ne e)
theorem gc_set {S : Sto} {k : Nat} {o : O} {d : D} (ho : o.und 0 = true) (h : d.und 0 = true) : gc .drop S d (S.set k o) = some (d, S.set k o) := by
  rw [gc_of (Keeps.set ho) h, List.take_of_length_le (by simp)]
@[simp] theorem gc_newobj {S : Sto} {o : O} (ho : o.und 0 = true) : gc .drop S (.obj S.length) (S ++ [o]) = some (.obj S.length, S ++ [o]) := by
  simp only [gc]
  rw [if_pos (Keeps.app S [o])]
  simp [ho]
theorem runD_rt {md : Md} {n : Nat} {b : FS} {ds : List D} {S S' : Sto} {d : D} {env : Env} (h : b (startD n ds) S = some (.rt d, env, S')) : runD md n b ds S = gc md S d S' := by
  unfold runD
  rw [h]
theorem runD_nx {md : Md} {n : Nat} {b : FS} {ds : List D} {S S' : Sto} {env : Env} (h : b (startD n ds) S = some (.nx, env, S')) : runD md n b ds S = gc md S .non S' := by
  unfold runD
  rw [h]
@[simp] theorem runD_eq (md : Md) (n : Nat) (b : FS) (ds : List D) (S : Sto) : runD md n b ds S = match b (startD n ds) S with | some (.rt d, _, S') => gc md S d S' | some (.nx, _, S') => gc md S .non S' | _ => none := rfl
end J

set_option autoImplicit false
namespace J
open PySem PySem.Spec PyProof.Rows L2
/-! what is wanted behind a reading -/
def Wp {α : Type} (m : Option (α × Sto)) (Q : α → Sto → Prop) : Prop := ∃ a S', m = some (a, S') ∧ Q a S'
structure En where
  nx : Env → Sto → Prop
  rt : D → Sto → Prop
  bk : Env → Sto → Prop
  ct : Env → Sto → Prop
def WpS (m : Option (Fl × Env × Sto)) (E : En) : Prop := match m with
  | some (.nx, e, S) => E.nx e S
  | some (.rt d, _, S) => E.rt d S
  | some (.bk, e, S) => E.bk e S
  | some (.ct, e, S) => E.ct e S
  | some (.xc _ _, _, _) => False
  | none => False
theorem wp_some {α : Type} (a : α) (S : Sto) (Q : α → Sto → Prop) : Wp (some (a, S)) Q = Q a S := by
  apply propext
  constructor
  · rintro ⟨a, S', e, q⟩; cases e; exact q
  · exact fun q => ⟨a, S, rfl, q⟩
theorem wp_none {α : Type} (Q : α → Sto → Prop) : Wp none Q = False := by
  apply propext
  constructor
  · rintro ⟨a, S', e, q⟩; cases e
  · exact False.elim
theorem wp_ite {α : Type} {c : Prop} [Decidable c] (m m' : Option (α × Sto)) (Q : α → Sto → Prop) : Wp (if c then m else m') Q = if c then Wp m Q else Wp m' Q := by split <;> rfl
theorem if_and {c : Prop} [Decidable c] {q : Prop} : (if c then q else False) = (c ∧ q) := by
  apply propext
  constructor
  · intro h; split at h
    · rename_i hc; exact ⟨hc, h⟩
    · exact h.elim
  · rintro ⟨hc, h⟩; rw [if_pos hc]; exact h
theorem wp_map {α β : Type} (o : Option α) (f : α → β × Sto) (Q : β → Sto → Prop) : Wp (o.map f) Q = ∃ a, o = some a ∧ Q (f a).1 (f a).2 := by
  cases o with
  | none => rw [Option.map_none, wp_none]; simp
  | some a => rw [Option.map_some]; simp only [Option.some.injEq, exists_eq_left']; exact wp_some (f a).1 (f a).2 Q
theorem Wp.mono {α : Type} {m : Option (α × Sto)} {Q Q' : α → Sto → Prop} (h : Wp m Q) (k : ∀ a S, Q a S → Q' a S) : Wp m Q' := let ⟨a, S, e, q⟩ := h; ⟨a, S, e, k a S q⟩
structure En.le (E E' : En) : Prop where
  nx : ∀ e S, E.nx e S → E'.nx e S
  rt : ∀ d S, E.rt d S → E'.rt d S
  bk : ∀ e S, E.bk e S → E'.bk e S
  ct : ∀ e S, E.ct e S → E'.ct e S
theorem WpS.mono {m : Option (Fl × Env × Sto)} {E E' : En} (h : WpS m E) (k : E.le E') : WpS m E' := by
  unfold WpS at *
  split at h
  · exact k.nx _ _ h
  · exact k.rt _ _ h
  · exact k.bk _ _ h
  · exact k.ct _ _ h
  · exact h
  · exact h
theorem ws_nx (e : Env) (S : Sto) (E : En) : WpS (some (.nx, e, S)) E = E.nx e S := rfl
theorem ws_rt (d : D) (e : Env) (S : Sto) (E : En) : WpS (some (.rt d, e, S)) E = E.rt d S := rfl
theorem ws_bk (e : Env) (S : Sto) (E : En) : WpS (some (.bk, e, S)) E = E.bk e S := rfl
theorem ws_ct (e : Env) (S : Sto) (E : En) : WpS (some (.ct, e, S)) E = E.ct e S := rfl
theorem ws_none (E : En) : WpS none E = False := rfl
/-! expressions -/
section
variable (env : Env) (S : Sto)
theorem w_var (i : Nat) (Q : D → Sto → Prop) : Wp (fVar i env S) Q = ∃ d, env[i]? = some (some d) ∧ Q d S := by
  unfold fVar
  split
  · rename_i d h; rw [wp_some, h]; simp
  · rename_i h; rw [wp_none]; simp; intro d hd; exact absurd hd (h d)
theorem w_C (d : D) (Q : D → Sto → Prop) : Wp (fC d env S) Q = Q d S := wp_some _ _ _
theorem w_op (g : G2) (fa fb : FE) (Q : D → Sto → Prop) : Wp (fOp g fa fb env S) Q = Wp (fa env S) fun a S1 => Wp (fb env S1) fun b S2 => Wp (g a b S2) Q := by
  unfold fOp
  cases h : fa env S with
  | none => simp only [wp_none]
  | some p => obtain ⟨a, S1⟩ := p; simp only [wp_some]; cases h2 : fb env S1 with
    | none => simp only [wp_none]
    | some p => obtain ⟨b, S2⟩ := p; simp only [wp_some]
theorem w_un (g : D → Sto → Option (D × Sto)) (fa : FE) (Q : D → Sto → Prop) : Wp (fUn g fa env S) Q = Wp (fa env S) fun a S1 => Wp (g a S1) Q := by
  unfold fUn
  cases h : fa env S with
  | none => simp only [wp_none]
  | some p => obtain ⟨a, S1⟩ := p; simp only [wp_some]
theorem w_test (f : FE) (Q : Bool → Sto → Prop) : Wp (fTest f env S) Q = Wp (f env S) fun a S1 => ∃ b, a = .bl b ∧ Q b S1 := by
  unfold fTest
  split
  · rename_i b S1 h; rw [h, wp_some, wp_some]; simp
  · rename_i h
    cases h2 : f env S with
    | none => simp only [wp_none]
    | some p => obtain ⟨a, S1⟩ := p; rw [wp_none, wp_some]; simp only [eq_iff_iff, false_iff]; rintro ⟨b, rfl, _⟩; exact absurd h2 (h b S1)
theorem w_truth (f : FE) (Q : Bool → Sto → Prop) : Wp (fTruth f env S) Q = Wp (f env S) fun a S1 => ∃ b, a.truth S1 = some b ∧ Q b S1 := by
  unfold fTruth
  cases h : f env S with
  | none => simp only [wp_none]
  | some p => obtain ⟨a, S1⟩ := p; simp only [wp_some, wp_map]
theorem w_andT (fa fb : FT) (Q : Bool → Sto → Prop) : Wp (fAndT fa fb env S) Q = Wp (fa env S) fun a S1 => if a = true then Wp (fb env S1) Q else Q false S1 := by
  unfold fAndT
  cases h : fa env S with
  | none => simp only [wp_none]
  | some p => obtain ⟨a, S1⟩ := p; cases a <;> simp [wp_some]
theorem w_orT (fa fb : FT) (Q : Bool → Sto → Prop) : Wp (fOrT fa fb env S) Q = Wp (fa env S) fun a S1 => if a = true then Q true S1 else Wp (fb env S1) Q := by
  unfold fOrT
  cases h : fa env S with
  | none => simp only [wp_none]
  | some p => obtain ⟨a, S1⟩ := p; cases a <;> simp [wp_some]
theorem w_notT (fa : FT) (Q : Bool → Sto → Prop) : Wp (fNotT fa env S) Q = Wp (fa env S) fun a S1 => Q (!a) S1 := by
  unfold fNotT
  cases h : fa env S with
  | none => simp only [wp_none, Option.map_none]
  | some p => obtain ⟨a, S1⟩ := p; simp only [Option.map_some, wp_some]
theorem w_andV (fa fb : FE) (Q : D → Sto → Prop) : Wp (fAndV fa fb env S) Q = Wp (fa env S) fun a S1 => ∃ b, a = .bl b ∧ if b = true then Wp (fb env S1) Q else Q (.bl false) S1 := by
  unfold fAndV
  split
  · rename_i S1 h; rw [h, wp_some]; simp
  · rename_i S1 h; rw [h, wp_some, wp_some]; simp
  · rename_i h1 h2
    cases h3 : fa env S with
    | none => simp only [wp_none]
    | some p => obtain ⟨a, S1⟩ := p; rw [wp_none, wp_some]; simp only [eq_iff_iff, false_iff]; rintro ⟨b, rfl, _⟩; cases b with
      | true => exact absurd h3 (h1 S1)
      | false => exact absurd h3 (h2 S1)
theorem w_orV (fa fb : FE) (Q : D → Sto → Prop) : Wp (fOrV fa fb env S) Q = Wp (fa env S) fun a S1 => ∃ b, a = .bl b ∧ if b = true then Q (.bl true) S1 else Wp (fb env S1) Q := by
  unfold fOrV
  split
  · rename_i S1 h; rw [h, wp_some]; simp
  · rename_i S1 h; rw [h, wp_some, wp_some]; simp
  · rename_i h1 h2
    cases h3 : fa env S with
    | none => simp only [wp_none]
    | some p => obtain ⟨a, S1⟩ := p; rw [wp_none, wp_some]; simp only [eq_iff_iff, false_iff]; rintro ⟨b, rfl, _⟩; cases b with
      | true => exact absurd h3 (h2 S1)
      | false => exact absurd h3 (h1 S1)
theorem w_notV (fa : FE) (Q : D → Sto → Prop) : Wp (fNotV fa env S) Q = Wp (fa env S) fun a S1 => ∃ b, a = .bl b ∧ Q (.bl (!b)) S1 := by
  unfold fNotV
  split
  · rename_i b S1 h; rw [h, wp_some, wp_some]; simp
  · rename_i h
    cases h2 : fa env S with
    | none => simp only [wp_none]
    | some p => obtain ⟨a, S1⟩ := p; rw [wp_none, wp_some]; simp only [eq_iff_iff, false_iff]; rintro ⟨b, rfl, _⟩; exact absurd h2 (h b S1)
theorem w_if (ft : FT) (fa fb : FE) (Q : D → Sto → Prop) : Wp (fIf ft fa fb env S) Q = Wp (ft env S) fun b S1 => if b = true then Wp (fa env S1) Q else Wp (fb env S1) Q := by
  unfold fIf
  cases h : ft env S with
  | none => simp only [wp_none]
  | some p => obtain ⟨a, S1⟩ := p; cases a <;> simp [wp_some]
theorem w_anil (Q : List D → Sto → Prop) : Wp (faNil env S) Q = Q [] S := wp_some _ _ _
theorem w_acons (f : FE) (g : FA) (Q : List D → Sto → Prop) : Wp (faCons f g env S) Q = Wp (f env S) fun d S1 => Wp (g env S1) fun ds S2 => Q (d :: ds) S2 := by
  unfold faCons
  cases h : f env S with
  | none => simp only [wp_none]
  | some p => obtain ⟨a, S1⟩ := p; simp only [wp_some]; cases h2 : g env S1 with
    | none => simp only [wp_none]
    | some p => obtain ⟨b, S2⟩ := p; simp only [wp_some]
theorem w_tup (g : FA) (Q : D → Sto → Prop) : Wp (fTup g env S) Q = Wp (g env S) fun ds S1 => ds.length ≤ 1000 ∧ Q (.tup ds) S1 := by
  unfold fTup
  cases h : g env S with
  | none => simp only [wp_none]
  | some p => obtain ⟨a, S1⟩ := p; simp only [wp_some, wp_ite, wp_none, if_and]
theorem w_lst (g : FA) (Q : D → Sto → Prop) : Wp (fLst g env S) Q = Wp (g env S) fun ds S1 => ds.length ≤ 1000 ∧ Q (.lst ds) S1 := by
  unfold fLst
  cases h : g env S with
  | none => simp only [wp_none]
  | some p => obtain ⟨a, S1⟩ := p; simp only [wp_some, wp_ite, wp_none, if_and]
theorem w_lstN (g : FA) (Q : D → Sto → Prop) : Wp (fLstN g env S) Q = Wp (g env S) fun ds S1 => ds.length ≤ 1000 ∧ Q (.obj S1.length) (S1 ++ [.lst ds]) := by
  unfold fLstN
  cases h : g env S with
  | none => simp only [wp_none]
  | some p => obtain ⟨a, S1⟩ := p; simp only [wp_some, wp_ite, wp_none, if_and]
theorem w_call (n : Nat) (F : Fn) (g : FA) (dd : List D) (Q : D → Sto → Prop) : Wp (fCall n F g dd env S) Q = Wp (g env S) fun ds S1 => (ds ++ dd).length = n ∧ Wp (F (ds ++ dd) S1) Q := by
  unfold fCall
  cases h : g env S with
  | none => simp only [wp_none]
  | some p => obtain ⟨a, S1⟩ := p; simp only [wp_some, wp_ite, wp_none, if_and]
theorem w_callN (n i j : Nat) (F : Fn) (hh : List D → List D → List D) (g gk : FA) (Q : D → Sto → Prop) : Wp (fCallN n i j F hh g gk env S) Q = Wp (g env S) fun ds S1 => Wp (gk env S1) fun es S2 => (ds.length = i ∧ es.length = j ∧ (hh ds es).length = n) ∧ Wp (F (hh ds es) S2) Q := by
  unfold fCallN
  cases h : g env S with
  | none => simp only [wp_none]
  | some p => obtain ⟨a, S1⟩ := p; simp only [wp_some]; cases h2 : gk env S1 with
    | none => simp only [wp_none]
    | some p => obtain ⟨b, S2⟩ := p; simp only [wp_some, wp_ite, wp_none, if_and]
theorem w_B (g : Fn) (fa : FA) (Q : D → Sto → Prop) : Wp (fB g fa env S) Q = Wp (fa env S) fun ds S1 => Wp (g ds S1) Q := by
  unfold fB
  cases h : fa env S with
  | none => simp only [wp_none]
  | some p => obtain ⟨a, S1⟩ := p; simp only [wp_some]
theorem w_M (T : String) (g : GM) (fo : FE) (fa : FA) (Q : D → Sto → Prop) : Wp (fM T g fo fa env S) Q = Wp (fo env S) fun a S1 => tyD T S1 a = true ∧ Wp (fa env S1) fun ds S2 => Wp (g a ds S2) Q := by
  unfold fM
  cases h : fo env S with
  | none => simp only [wp_none]
  | some p =>
    obtain ⟨a, S1⟩ := p
    simp only [wp_some, wp_ite, wp_none]
    cases h2 : fa env S1 with
    | none => simp [wp_none]
    | some p => obtain ⟨b, S2⟩ := p; simp only [wp_some, if_and]
theorem w_M0 (T : String) (g : GM) (fo : FE) (Q : D → Sto → Prop) : Wp (fM0 T g fo env S) Q = Wp (fo env S) fun a S1 => tyD T S1 a = true ∧ Wp (g a [] S1) Q := by
  unfold fM0
  cases h : fo env S with
  | none => simp only [wp_none]
  | some p => obtain ⟨a, S1⟩ := p; simp only [wp_some, wp_ite, wp_none, if_and]
theorem w_chain (g g' : G2) (fa fb fc : FE) (Q : D → Sto → Prop) : Wp (fChain g g' fa fb fc env S) Q = Wp (fa env S) fun a S1 => Wp (fb env S1) fun b S2 => Wp (g a b S2) fun c S3 => ∃ k, c = .bl k ∧ if k = true then Wp (fc env S3) fun d S4 => Wp (g' b d S4) Q else Q (.bl false) S3 := by
  unfold fChain
  cases h : fa env S with
  | none => simp only [wp_none]
  | some p =>
    obtain ⟨a, S1⟩ := p
    simp only [wp_some]
    cases h2 : fb env S1 with
    | none => simp only [wp_none]
    | some p =>
      obtain ⟨b, S2⟩ := p
      simp only [wp_some]
      split
      · rename_i S3 h3; rw [h3, wp_some]; cases h4 : fc env S3 with
        | none => simp [wp_none]
        | some p => obtain ⟨c, S4⟩ := p; simp [wp_some]
      · rename_i S3 h3; rw [h3, wp_some]; simp [wp_some]
      · rename_i h3 h4
        cases h5 : g a b S2 with
        | none => simp only [wp_none]
        | some p => obtain ⟨c, S3⟩ := p; rw [wp_none, wp_some]; simp only [eq_iff_iff, false_iff]; rintro ⟨k, rfl, _⟩; cases k with
          | true => exact absurd h5 (h3 S3)
          | false => exact absurd h5 (h4 S3)
theorem w_dispIx (ns : List Str) (fv : FA) (fk : FE) (Q : D → Sto → Prop) : Wp (fDispIx ns fv fk env S) Q = Wp (fv env S) fun ds S1 => Wp (fk env S1) fun k S2 => ∃ x, k = .str x ∧ ∃ d, valKD (mergeKD [] (kvN ns ds)) (Sum.inr x) = some d ∧ Q d S2 := by
  unfold fDispIx
  cases h : fv env S with
  | none => simp only [wp_none]
  | some p =>
    obtain ⟨a, S1⟩ := p
    simp only [wp_some]
    split
    · rename_i x S2 h2; rw [h2, wp_some]; simp; cases h3 : valKD (mergeKD [] (kvN ns a)) (Sum.inr x) with
      | none => simp [wp_none]
      | some d => simp [wp_some]
    · rename_i h2
      cases h5 : fk env S1 with
      | none => simp only [wp_none]
      | some p => obtain ⟨c, S3⟩ := p; rw [wp_none, wp_some]; simp only [eq_iff_iff, false_iff]; rintro ⟨k, rfl, _⟩; exact absurd h5 (h2 k S3)
theorem w_dispGet (ns : List Str) (fv : FA) (fk fx : FE) (Q : D → Sto → Prop) : Wp (fDispGet ns fv fk fx env S) Q = Wp (fv env S) fun ds S1 => Wp (fk env S1) fun k S2 => ∃ x, k = .str x ∧ Wp (fx env S2) fun z S3 => Q ((valKD (mergeKD [] (kvN ns ds)) (Sum.inr x)).getD z) S3 := by
  unfold fDispGet
  cases h : fv env S with
  | none => simp only [wp_none]
  | some p =>
    obtain ⟨a, S1⟩ := p
    simp only [wp_some]
    split
    · rename_i x S2 h2; rw [h2, wp_some]; simp; cases h3 : fx env S2 with
      | none => simp [wp_none]
      | some p => obtain ⟨z, S3⟩ := p; simp [wp_some]
    · rename_i h2
      cases h5 : fk env S1 with
      | none => simp only [wp_none]
      | some p => obtain ⟨c, S3⟩ := p; rw [wp_none, wp_some]; simp only [eq_iff_iff, false_iff]; rintro ⟨k, rfl, _⟩; exact absurd h5 (h2 k S3)
theorem w_rng1 (g : FA) (Q : List D → Sto → Prop) : Wp (fRng1 g env S) Q = Wp (g env S) fun ds S1 => ∃ j, ds = [.int j] ∧ (-(2 ^ 62) ≤ j ∧ j < 2 ^ 62) ∧ Q (rngD 0 j.toNat) S1 := by
  unfold fRng1
  split
  · rename_i j S1 h; rw [h, wp_some, wp_ite, wp_some, wp_none]
    apply propext
    constructor
    · intro z; split at z
      · rename_i c; exact ⟨j, rfl, c, z⟩
      · exact z.elim
    · rintro ⟨k, e, c, q⟩; cases e; rw [if_pos c]; exact q
  · rename_i h
    cases h5 : g env S with
    | none => simp only [wp_none]
    | some p => obtain ⟨c, S3⟩ := p; rw [wp_none, wp_some]; simp only [eq_iff_iff, false_iff]; rintro ⟨k, rfl, _⟩; exact absurd h5 (h k S3)
theorem w_rng2 (g : FA) (Q : List D → Sto → Prop) : Wp (fRng2 g env S) Q = Wp (g env S) fun ds S1 => ∃ i j, ds = [.int i, .int j] ∧ (-(2 ^ 62) ≤ i ∧ i < 2 ^ 62 ∧ -(2 ^ 62) ≤ j ∧ j < 2 ^ 62) ∧ Q (rngD i (j - i).toNat) S1 := by
  unfold fRng2
  split
  · rename_i i j S1 h; rw [h, wp_some, wp_ite, wp_some, wp_none]
    apply propext
    constructor
    · intro z; split at z
      · rename_i c; exact ⟨i, j, rfl, c, z⟩
      · exact z.elim
    · rintro ⟨k, k2, e, c, q⟩; cases e; rw [if_pos c]; exact q
  · rename_i h
    cases h5 : g env S with
    | none => simp only [wp_none]
    | some p => obtain ⟨c, S3⟩ := p; rw [wp_none, wp_some]; simp only [eq_iff_iff, false_iff]; rintro ⟨k, k2, rfl, _⟩; exact absurd h5 (h k k2 S3)
theorem w_it (f : FE) (Q : List D → Sto → Prop) : Wp (fIt f env S) Q = Wp (f env S) fun d S1 => ∃ ds, d.items = some ds ∧ Q ds S1 := by
  unfold fIt
  cases h : f env S with
  | none => simp only [wp_none]
  | some p => obtain ⟨d, S1⟩ := p; simp only [wp_some]; cases h2 : d.items with
    | none => simp [wp_none]
    | some ds => simp [wp_some]
theorem w_enum (g : FA) (Q : List D → Sto → Prop) : Wp (fEnum g env S) Q = Wp (g env S) fun as S1 => ∃ d ds, as = [d] ∧ d.items = some ds ∧ Q (enD ds) S1 := by
  unfold fEnum
  split
  · rename_i d S1 h; rw [h, wp_some]; cases h2 : d.items with
    | none => simp [wp_none, h2]
    | some ds => simp [wp_some, h2]
  · rename_i h
    cases h5 : g env S with
    | none => simp only [wp_none]
    | some p => obtain ⟨c, S3⟩ := p; rw [wp_none, wp_some]; simp only [eq_iff_iff, false_iff]; rintro ⟨k, k2, rfl, _⟩; exact absurd h5 (h k S3)
theorem w_lc (own : List Nat) (fi : FA) (g : FG) (ft : FT) (fe : FE) (Q : D → Sto → Prop) : Wp (fLc own fi g ft fe env S) Q = Wp (fi env S) fun ds S1 => ds.length ≤ 100000 ∧ Wp (fLcL g ft fe (wipeD env own) ds S1) fun ys S2 => Q (.lst ys) S2 := by
  unfold fLc
  cases h : fi env S with
  | none => simp only [wp_none]
  | some p =>
    obtain ⟨ds, S1⟩ := p
    simp only [wp_some, wp_ite, wp_none]
    cases h2 : fLcL g ft fe (wipeD env own) ds S1 with
    | none => simp [wp_none]
    | some p => obtain ⟨b, S2⟩ := p; simp only [wp_some, if_and]
theorem w_yes (Q : Bool → Sto → Prop) : Wp (fYes env S) Q = Q true S := wp_some _ _ _
theorem w_dnew (Q : D → Sto → Prop) : Wp (fDNew env S) Q = Q (.obj S.length) (S ++ [.dct []]) := wp_some _ _ _
theorem w_lcnil (g : FG) (ft : FT) (fe : FE) (Q : List D → Sto → Prop) : Wp (fLcL g ft fe env [] S) Q = Q [] S := wp_some _ _ _
theorem w_lccons (g : FG) (ft : FT) (fe : FE) (d : D) (ds : List D) (Q : List D → Sto → Prop) : Wp (fLcL g ft fe env (d :: ds) S) Q = Wp (g d env S) fun env1 S1 => Wp (ft env1 S1) fun b S2 => if b = true then Wp (fe env1 S2) fun y S3 => Wp (fLcL g ft fe env ds S3) fun ys S4 => Q (y :: ys) S4 else Wp (fLcL g ft fe env ds S2) Q := by
  rw [fLcL]
  cases h : g d env S with
  | none => simp only [wp_none]
  | some p =>
    obtain ⟨env1, S1⟩ := p
    simp only [wp_some]
    cases h2 : ft env1 S1 with
    | none => simp only [wp_none]
    | some p =>
      obtain ⟨b, S2⟩ := p
      cases b with
      | false => simp [wp_some]
      | true =>
        simp only [wp_some, if_true]
        cases h3 : fe env1 S2 with
        | none => simp only [wp_none]
        | some p =>
          obtain ⟨y, S3⟩ := p
          simp only [wp_some]
          cases h4 : fLcL g ft fe env ds S3 with
          | none => simp only [wp_none]
          | some p => obtain ⟨ys, S4⟩ := p; simp only [wp_some]
theorem w_get2 (fo fk fx : FE) (Q : D → Sto → Prop) : Wp (fGet2 fo fk fx env S) Q = Wp (fo env S) fun o S1 => ∃ j L, o = .obj j ∧ S1[j]? = some (.dct L) ∧ Wp (fk env S1) fun b S2 => Wp (fx env S2) fun x S3 => ∃ kvs k, S3[j]? = some (.dct kvs) ∧ b.tkey = some k ∧ Q ((luD kvs k).getD x) S3 := by
  unfold fGet2
  split
  · rename_i j S1 h
    rw [h, wp_some]
    split
    · rename_i L h1
      simp only [D.obj.injEq, h1]
      cases h2 : fk env S1 with
      | none => simp [wp_none]
      | some p =>
        obtain ⟨b, S2⟩ := p
        simp only [wp_some]
        cases h3 : fx env S2 with
        | none => simp [wp_none]
        | some p =>
          obtain ⟨x, S3⟩ := p
          simp only [wp_some]
          split
          · rename_i kvs k h4 h5; rw [wp_some]; apply propext; constructor
            · intro q; exact ⟨j, L, rfl, h1, kvs, k, h4, h5, q⟩
            · rintro ⟨j', L', rfl, h1', kvs', k', h4', h5', q⟩; rw [h4] at h4'; rw [h5] at h5'; cases h4'; cases h5'; exact q
          · rename_i h4; rw [wp_none]; simp only [eq_iff_iff, false_iff]; rintro ⟨j', L', rfl, h1', kvs', k', h4', h5', q⟩; exact h4 _ _ h4' h5'
    · rename_i h1; rw [wp_none]; simp only [eq_iff_iff, false_iff]; rintro ⟨j', L', e, h1', q⟩; cases e; exact h1 _ h1'
  · rename_i h
    cases h5 : fo env S with
    | none => simp only [wp_none]
    | some p => obtain ⟨c, S3⟩ := p; rw [wp_none, wp_some]; simp only [eq_iff_iff, false_iff]; rintro ⟨k, k2, rfl, _⟩; exact absurd h5 (h k S3)
theorem w_oNone (Q : Option Int → Sto → Prop) : Wp (foNone env S) Q = Q none S := wp_some _ _ _
theorem w_oSome (f : FE) (Q : Option Int → Sto → Prop) : Wp (foSome f env S) Q = Wp (f env S) fun d S1 => ∃ i, d = .int i ∧ Q (some i) S1 := by
  unfold foSome
  split
  · rename_i i S1 h; rw [h, wp_some, wp_some]; simp
  · rename_i h
    cases h5 : f env S with
    | none => simp only [wp_none]
    | some p => obtain ⟨c, S3⟩ := p; rw [wp_none, wp_some]; simp only [eq_iff_iff, false_iff]; rintro ⟨k, rfl, _⟩; exact absurd h5 (h k S3)
theorem w_slice (f : FE) (fl fh : FO) (Q : D → Sto → Prop) : Wp (fSlice f fl fh env S) Q = Wp (f env S) fun d S1 => Wp (fl env S1) fun lo S2 => Wp (fh env S2) fun hi S3 => Wp (gCut d lo hi S3) Q := by
  unfold fSlice
  cases h : f env S with
  | none => simp only [wp_none]
  | some p =>
    obtain ⟨d, S1⟩ := p
    simp only [wp_some]
    cases h2 : fl env S1 with
    | none => simp only [wp_none]
    | some p =>
      obtain ⟨lo, S2⟩ := p
      simp only [wp_some]
      cases h3 : fh env S2 with
      | none => simp only [wp_none]
      | some p => obtain ⟨hi, S3⟩ := p; simp only [wp_some]
/-! statements -/
variable (E : En)
theorem w_next : WpS (fNext env S) E = E.nx env S := rfl
theorem w_no : WpS (fNone env S) E = False := rfl
theorem w_brk : WpS (fBrk env S) E = E.bk env S := rfl
theorem w_cnt : WpS (fCnt env S) E = E.ct env S := rfl
theorem w_retN : WpS (fRetN env S) E = E.rt .non S := rfl
theorem w_seq (f g : FS) : WpS (fSeq f g env S) E = WpS (f env S) ⟨fun e S1 => WpS (g e S1) E, E.rt, E.bk, E.ct⟩ := by
  unfold fSeq
  cases h : f env S with
  | none => rfl
  | some p => obtain ⟨fl, e, S1⟩ := p; cases fl <;> rfl
theorem w_drop (f : FE) : WpS (fDrop f env S) E = Wp (f env S) fun _ S1 => E.nx env S1 := by
  unfold fDrop
  cases h : f env S with
  | none => rw [wp_none]; rfl
  | some p => obtain ⟨d, S1⟩ := p; rw [wp_some]; rfl
theorem w_ret (f : FE) : WpS (fRet f env S) E = Wp (f env S) fun d S1 => E.rt d S1 := by
  unfold fRet
  cases h : f env S with
  | none => rw [wp_none]; rfl
  | some p => obtain ⟨d, S1⟩ := p; rw [wp_some]; rfl
theorem w_ifS (c : FT) (f g : FS) : WpS (fIfS c f g env S) E = Wp (c env S) fun b S1 => if b = true then WpS (f env S1) E else WpS (g env S1) E := by
  unfold fIfS
  cases h : c env S with
  | none => rw [wp_none]; rfl
  | some p => obtain ⟨d, S1⟩ := p; rw [wp_some]; cases d <;> simp
theorem w_nm (i : Nat) (d : D) (Q : Env → Sto → Prop) : Wp (gNm i d env S) Q = Q (env.set i (some d)) S := wp_some _ _ _
theorem w_gnil (ds : List D) (Q : Env → Sto → Prop) : Wp (gNil ds env S) Q = (ds = [] ∧ Q env S) := by
  cases ds with
  | nil => simp [gNil, wp_some]
  | cons d ds => simp [gNil, wp_none]
theorem w_gcons (g : FG) (h : FGs) (ds : List D) (Q : Env → Sto → Prop) : Wp (gCons g h ds env S) Q = ∃ d es, ds = d :: es ∧ Wp (g d env S) fun e S1 => Wp (h es e S1) Q := by
  cases ds with
  | nil => simp [gCons, wp_none]
  | cons d es =>
    simp only [gCons, List.cons.injEq]
    cases h1 : g d env S with
    | none =>
      simp only [wp_none, eq_iff_iff, false_iff]
      rintro ⟨_, _, ⟨rfl, rfl⟩, z⟩
      rw [h1, wp_none] at z
      exact z
    | some p =>
      obtain ⟨e, S1⟩ := p
      simp only
      apply propext
      constructor
      · intro z; exact ⟨d, es, ⟨rfl, rfl⟩, by rw [h1, wp_some]; exact z⟩
      · rintro ⟨_, _, ⟨rfl, rfl⟩, z⟩; rw [h1, wp_some] at z; exact z
theorem w_tp (n : Nat) (h : FGs) (d : D) (Q : Env → Sto → Prop) : Wp (gTp n h d env S) Q = ∃ ds, d = .tup ds ∧ ds.length = n ∧ Wp (h ds env S) Q := by
  unfold gTp
  split
  · rename_i ds; rw [wp_ite, wp_none, if_and]; simp
  · rename_i h1; rw [wp_none]; simp only [eq_iff_iff, false_iff]; rintro ⟨ds, rfl, _⟩; exact h1 ds rfl
theorem w_sub (fo fi : FE) (g : GS) (d : D) (Q : Env → Sto → Prop) : Wp (gSub fo fi g d env S) Q = Wp (fo env S) fun a S1 => Wp (fi env S1) fun b S2 => ∃ S3, g a b d S2 = some S3 ∧ Q env S3 := by
  unfold gSub
  cases h : fo env S with
  | none => simp only [wp_none]
  | some p =>
    obtain ⟨a, S1⟩ := p
    simp only [wp_some]
    cases h2 : fi env S1 with
    | none => simp only [wp_none]
    | some p =>
      obtain ⟨b, S2⟩ := p
      simp only [wp_some]
      cases h3 : g a b d S2 with
      | none => simp [wp_none]
      | some S3 => simp [wp_some]
theorem w_asg (f : FE) (g : FG) : WpS (fAsg f g env S) E = Wp (f env S) fun d S1 => Wp (g d env S1) fun e S2 => E.nx e S2 := by
  unfold fAsg
  cases h : f env S with
  | none => rw [wp_none]; rfl
  | some p =>
    obtain ⟨d, S1⟩ := p
    rw [wp_some]
    cases h2 : g d env S1 with
    | none => rw [wp_none]; simp only [h2]; rfl
    | some p => obtain ⟨e, S2⟩ := p; rw [wp_some]; simp only [h2]; rfl
theorem w_par (i j : Nat) (g : FA) : WpS (fPar i j g env S) E = Wp (g env S) fun ds S1 => ∃ d e, ds = [d, e] ∧ E.nx ((env.set i (some d)).set j (some e)) S1 := by
  unfold fPar
  split
  · rename_i d e S1 h; rw [h, wp_some]; simp only [ws_nx, eq_iff_iff]; exact ⟨fun q => ⟨d, e, rfl, q⟩, fun ⟨_, _, z, q⟩ => by cases z; exact q⟩
  · rename_i h
    cases h5 : g env S with
    | none => rw [wp_none]; rfl
    | some p => obtain ⟨c, S3⟩ := p; rw [wp_some]; simp only [ws_none, eq_iff_iff, false_iff]; rintro ⟨k, k2, rfl, _⟩; exact absurd h5 (h k k2 S3)
theorem w_for (fi : FA) (g : FG) (b : FS) : WpS (fFor fi g b env S) E = Wp (fi env S) fun ds S1 => WpS (fForL g b ds env S1) E := by
  unfold fFor
  cases h : fi env S with
  | none => rw [wp_none]; rfl
  | some p => obtain ⟨d, S1⟩ := p; rw [wp_some]
theorem w_fornil (g : FG) (b : FS) : WpS (fForL g b [] env S) E = E.nx env S := rfl
theorem w_forcons (g : FG) (b : FS) (d : D) (ds : List D) : WpS (fForL g b (d :: ds) env S) E = Wp (g d env S) fun e S1 => WpS (b e S1) ⟨fun e2 S2 => WpS (fForL g b ds e2 S2) E, E.rt, E.nx, fun e2 S2 => WpS (fForL g b ds e2 S2) E⟩ := by
  rw [fForL]
  cases h : g d env S with
  | none => rw [wp_none]; rfl
  | some p =>
    obtain ⟨e, S1⟩ := p
    rw [wp_some]
    simp only
    cases h2 : b e S1 with
    | none => rfl
    | some p => obtain ⟨fl, e2, S2⟩ := p; cases fl <;> rfl
theorem w_aug (i : Nat) (g : G2) (fe : FE) : WpS (fAug i g fe env S) E = ∃ a, env[i]? = some (some a) ∧ Wp (fe env S) fun b S1 => Wp (g a b S1) fun c S2 => E.nx (env.set i (some c)) S2 := by
  unfold fAug
  split
  · rename_i a h
    rw [h]
    simp only [Option.some.injEq, exists_eq_left']
    cases h1 : fe env S with
    | none => rw [wp_none]; rfl
    | some p =>
      obtain ⟨b, S1⟩ := p
      rw [wp_some]
      cases h2 : g a b S1 with
      | none => rw [wp_none]; simp only [h2]; rfl
      | some p => obtain ⟨c, S2⟩ := p; rw [wp_some]; simp only [h2]; rfl
  · rename_i h; simp only [ws_none, eq_iff_iff, false_iff]; rintro ⟨a, e, _⟩; exact h a e
theorem w_forD (i : Nat) (g : FG) (b : FS) : WpS (fForD i g b env S) E = WpS (fForD i g b env S) E := rfl
end
/-- a loop, by what holds between two turns -/
theorem w_for_inv {g : FG} {b : FS} {E : En} (I : Nat → Env → Sto → Prop) {ds : List D} {env : Env} {S : Sto} (h0 : I 0 env S)
    (hs : ∀ i d env S, ds[i]? = some d → I i env S → Wp (g d env S) fun e S1 => WpS (b e S1) ⟨I (i + 1), E.rt, E.nx, I (i + 1)⟩) (hq : ∀ env S, I ds.length env S → E.nx env S) : WpS (fForL g b ds env S) E := by
  have key : ∀ (k : Nat) (env : Env) (S : Sto) (i : Nat), ds.length - i = k → i ≤ ds.length → I i env S → WpS (fForL g b (ds.drop i) env S) E := by
    intro k
    induction k with
    | zero =>
      intro env S i hk hi h
      have e : i = ds.length := by omega
      subst e
      rw [List.drop_length, w_fornil]
      exact hq env S h
    | succ k ih =>
      intro env S i hk hi h
      have hlt : i < ds.length := by omega
      rw [List.drop_eq_getElem_cons hlt, w_forcons]
      refine (hs i ds[i] env S (by simp [hlt]) h).mono fun e S1 q => q.mono ⟨fun e2 S2 z => ih e2 S2 (i + 1) (by omega) (by omega) z, fun _ _ z => z, fun _ _ z => z, fun e2 S2 z => ih e2 S2 (i + 1) (by omega) (by omega) z⟩
  have := key ds.length env S 0 (by omega) (by omega) h0
  simpa using this
/-- the same where the number of the turn does not matter -/
theorem w_for_all {g : FG} {b : FS} {E : En} (I : Env → Sto → Prop) {ds : List D} {env : Env} {S : Sto} (h0 : I env S)
    (hs : ∀ d env S, d ∈ ds → I env S → Wp (g d env S) fun e S1 => WpS (b e S1) ⟨I, E.rt, E.nx, I⟩) (hq : ∀ env S, I env S → E.nx env S) : WpS (fForL g b ds env S) E :=
  w_for_inv (fun _ => I) h0 (fun i d env S hd h => hs d env S (List.mem_of_getElem? hd) h) hq
/-- a comprehension, by what is made of each item -/
theorem w_lc_inv {g : FG} {ft : FT} {fe : FE} {env : Env} (I : Nat → List D → Sto → Prop) {ds : List D} {S : Sto} {Q : List D → Sto → Prop} (h0 : I 0 [] S)
    (hs : ∀ i d ys S, ds[i]? = some d → I i ys S → Wp (g d env S) fun e S1 => Wp (ft e S1) fun b S2 => if b = true then Wp (fe e S2) fun y S3 => I (i + 1) (ys ++ [y]) S3 else I (i + 1) ys S2)
    (hq : ∀ ys S, I ds.length ys S → Q ys S) : Wp (fLcL g ft fe env ds S) Q := by
  have key : ∀ (k : Nat) (S : Sto) (i : Nat) (acc : List D), ds.length - i = k → i ≤ ds.length → I i acc S → Wp (fLcL g ft fe env (ds.drop i) S) fun ys S' => Q (acc ++ ys) S' := by
    intro k
    induction k with
    | zero =>
      intro S i acc hk hi h
      have e : i = ds.length := by omega
      subst e
      rw [List.drop_length, w_lcnil, List.append_nil]
      exact hq acc S h
    | succ k ih =>
      intro S i acc hk hi h
      have hlt : i < ds.length := by omega
      rw [List.drop_eq_getElem_cons hlt, w_lccons]
      refine (hs i ds[i] acc S (by simp [hlt]) h).mono fun e S1 q => q.mono fun b S2 z => ?_
      split at z
      · rename_i hb
        rw [if_pos hb]
        refine z.mono fun y S3 z3 => (ih S3 (i + 1) (acc ++ [y]) (by omega) (by omega) z3).mono fun ys S4 z4 => ?_
        rw [List.append_assoc] at z4
        exact z4
      · rename_i hb
        rw [if_neg hb]
        exact ih S2 (i + 1) acc (by omega) (by omega) z
  have := key ds.length S 0 [] (by omega) (by omega) h0
  simpa using this
/-- a while, by what holds between two turns and a number that falls -/
theorem w_while {c : FT} {b : FS} {E : En} (I : Nat → Env → Sto → Prop) {env : Env} {S : Sto} {n : Nat} (h0 : I n env S)
    (hs : ∀ n env S, I n env S → Wp (c env S) fun t S1 => if t = true then WpS (b env S1) ⟨fun e S2 => ∃ m, m < n ∧ I m e S2, E.rt, E.nx, fun e S2 => ∃ m, m < n ∧ I m e S2⟩ else E.nx env S1) : WpS (fWhile c b env S) E := by
  induction n using Nat.strongRecOn generalizing env S with
  | ind n ih =>
    have h := hs n env S h0
    rw [fWhile_eq]
    obtain ⟨t, S1, e1, h⟩ := h
    rw [e1]
    cases t with
    | false => exact h
    | true =>
      simp only [if_true] at h
      simp only
      revert h
      cases h2 : b env S1 with
      | none => exact fun h => h
      | some p =>
        obtain ⟨fl, e2, S2⟩ := p
        cases fl with
        | nx => exact fun ⟨m, hm, z⟩ => ih m hm z
        | ct => exact fun ⟨m, hm, z⟩ => ih m hm z
        | bk => exact fun z => z
        | rt d => exact fun z => z
        | xc x fs => exact fun z => z.elim
/-- a def's run -/
theorem w_run (md : Md) (n : Nat) (b : FS) (ds : List D) (S : Sto) (Q : D → Sto → Prop) : Wp (runD md n b ds S) Q = WpS (b (startD n ds) S) ⟨fun _ S' => Wp (gc md S .non S') Q, fun d S' => Wp (gc md S d S') Q, fun _ _ => False, fun _ _ => False⟩ := by
  unfold runD
  cases h : b (startD n ds) S with
  | none => rw [wp_none]; rfl
  | some p => obtain ⟨fl, e2, S2⟩ := p; cases fl <;> first | rfl | (rw [wp_none]; rfl)
theorem w_gc {S S' : Sto} {d : D} {Q : D → Sto → Prop} (kp : Keeps S S') (h : d.und 0 = true) (q : Q d (S'.take S.length)) : Wp (gc .drop S d S') Q := ⟨_, _, gc_of kp h, q⟩
end J

set_option autoImplicit false
namespace J
open PySem PySem.Spec PyProof.Rows L2
variable {K : PySem.W.Frag} {P : Program} {w : World} {X : Cx}
/-! sep.join(texts) -/
def D.strs : List D → Option (List Str)
  | [] => some []
  | .str x :: ds => (D.strs ds).map fun xs => x :: xs
  | _ => none
theorem strs_vals {H : Hp} {μ : Mp} : ∀ {ds : List D} {ys : List Str} {xs : List V}, D.strs ds = some ys → RvAll K H μ xs ds → xs = ys.map V.str
  | [], ys, xs, h, r => by
    cases h
    cases r
    rfl
  | .str x :: ds, ys, xs, h, r => by
    simp only [D.strs, Option.map_eq_some_iff] at h
    obtain ⟨zs, h1, rfl⟩ := h
    cases r with
    | cons h2 q =>
      cases h2
      rw [strs_vals h1 q, List.map_cons]
  | .non :: _, _, _, h, _ | .bl _ :: _, _, _, h, _ | .int _ :: _, _, _, h, _ | .tup _ :: _, _, _, h, _ | .lst _ :: _, _, _, h, _ | .scr _ :: _, _, _, h, _ | .obj _ :: _, _, _, h, _ | .glo _ :: _, _, _, h, _ => by simp [D.strs] at h
def gJoin : GM := fun a ds S => match a, ds with
  | .str sep, [d] => match d.seqS S with
    | some es => match D.strs es with
      | some ys => if (ys.map (·.length)).sum + ys.length * sep.length ≤ 16777216 then some (.str (Txt.join sep ys), S) else none
      | none => none
    | none => none
  | _, _ => none
theorem rm_join : RM P w K (fun x xs H Q => ∃ a p, ∃ ys : List Str, x = .str a ∧ xs = [.ref p] ∧ (SqL K H p (ys.map V.str) ∨ SqT K H p (ys.map V.str)) ∧ (ys.map (·.length)).sum + ys.length * a.length ≤ 16777216 ∧ Q (.str (Txt.join a ys)) H) gJoin := by
  intro H μ S x xs a d ds S' Q hr rx rs e k
  unfold gJoin at e
  split at e
  · split at e
    · rename_i es h1
      split at e
      · rename_i ys h2
        split at e
        · rename_i hl
          cases e
          cases rx
          obtain ⟨y, rfl, ry⟩ := rs.one
          obtain ⟨p, zs, rfl, hs, hds⟩ := seqS_ok hr ry h1
          have := strs_vals h2 hds
          subst this
          exact ⟨_, p, ys, rfl, rfl, hs, hl, k _ H μ (.refl _ _) hr (.str _)⟩
        · cases e
      · cases e
    · cases e
  · cases e
end J

namespace PySem
namespace Xst
open PySem.W PySem.Calls PyProof.Rows PySem.HandSPX
open Builtin Builtin.ObjectAttr
variable {pr : Program} {w : World} {A : Around} {R : Result → Shared → Prop} {hz : Heap} {g : Array GenState} {d : Drawn} {t : Nat} {os : OsState} {K : W.Frag} {B : String} {bmB : List Value}
/-- the first field of an own exception over any built-in one -/
theorem put_first {name : Str} {tq : Tok} {v : Value} {x C : Addr} {fw : Array Value} {cl : ClassData} (SF : StoreFacts B bmB "object.__setattr__" "object") (X : K.In hz)
    (xat : hz.get? x = some { cls := .ref C, data := .fields fw }) (cdat : clsIn K C = some cl) (hm : cl.mro = .ref C :: bmB) (ht : excTail bmB bmB = true) (hh : cl.hasDict = true) (ha : findIn K (.ref C) name = some none)
    (kk : ∀ h' tq' dy, (∀ b o, b ≠ x → hz.get? b = some o → h'.get? b = some o) → hz.objs.size ≤ dy → dy ≠ x → h'.get? x = some { cls := .ref C, dict := some dy, data := .fields fw } →
      h'.Ns1 dy (fun y => if y = name then some v else none) → R (.ok (.ret .none)) ⟨h', g, d, tq', os⟩) :
    codeAny (model pr w) A (.call (.builtin "object.__setattr__") ⟨[.ref x, .str name tq, v], []⟩) R ⟨hz, g, d, t, os⟩ := by
  have I : InstAt hz x { cls := .ref C, data := .fields fw } C none := ⟨xat, rfl, rfl, trivial⟩
  have ov : excOver K C bmB = true := by
    unfold excOver
    rw [cdat]
    simp [hm, ht]
  have tkr : takerIn K C name = some none := by
    unfold takerIn
    rw [ha]
    rfl
  have Lc : Looks (model pr w) hz (classData C) cl := looks_clsIn X cdat
  have xne : x ≠ hz.objs.size := Nat.ne_of_lt (Heap.lt_size xat)
  refine osa_openX (s := ⟨hz, g, d, t, os⟩) (r := none) SF X I ov tkr fun b => ?_
  obtain ⟨nm, bs, mro, ns, qn, hd, sn, s2, ab, col, del⟩ := cl
  dsimp only at hh
  subst hh
  simp only
  unfold storeInOwnDict ownDictForStores
  repeat (first | with_reducible refine store_in_new ?_ ?_ | with_reducible refine wpAny_loadPart_at xat ?_ | with_reducible refine Lc.at ?_ | wp_step)
  · exact ⟨_, #[], _, (Heap.get?_update_ne _ _ _ _ xne.symm).trans (Heap.get?_push_at rfl rfl), rfl, fun e he => absurd he (by simp), fun _ => rfl⟩
  · intro h' tq' hn' sb
    have xat1 : (hz.push { cls := .type "dict", data := .dict #[] }).get? x = some { cls := .ref C, data := .fields fw } := Heap.get?_push_of_some _ xat
    refine kk h' tq' hz.objs.size (fun b o bne oat => ?_) (Nat.le_refl _) xne.symm ?_ hn'
    · exact (sb.2 b (Nat.ne_of_lt (Heap.lt_size oat))).trans ((Heap.get?_update_ne _ _ _ _ bne).trans (Heap.get?_push_of_some _ oat))
    · exact (sb.2 x xne).trans (Heap.get?_update_self _ xat1 rfl)
theorem exm_self {K : PySem.W.Frag} {S : Addr} (h1 : PySem.W.subIn K (.ref S) (.type "BaseException") = some true) (h2 : PySem.W.isClsIn K S = true) (h3 : PySem.W.typeIn K (.ref S) = some (.type "type")) (h4 : PySem.W.subIn K (.ref S) (.ref S) = some true) :
    PySem.W.exmOne K (.ref S) (.ref S) = some true := by
  have e1 : (PySem.W.subIn K (.ref S) (.type "BaseException") == some true) = true := by rw [h1] <;> rfl
  have e2 : ((PySem.W.clsIn K S).isSome && PySem.W.typeIn K (.ref S) == some (.type "type")) = true := by
    have h2' : (PySem.W.clsIn K S).isSome = true := h2
    rw [h2', h3] <;> rfl
  show (if (PySem.W.subIn K (.ref S) (.type "BaseException") == some true) = true then (if ((PySem.W.clsIn K S).isSome && PySem.W.typeIn K (.ref S) == some (.type "type")) = true then PySem.W.subIn K (.ref S) (.ref S) else none) else none) = some true
  rw [if_pos e1, if_pos e2]
  exact h4
end Xst
end PySem

namespace PySem
namespace XcNoBranch
open PySem.W PySem.Calls PyProof.Rows PySem.HandSPX
/-! the text of NoBranch's own __init__ -/
def iA (p1 p2 : Pos) : Arguments := { posonlyargs := [], args := [{ arg := "self", annotation := none, pos := p1 }, { arg := "at", annotation := none, pos := p2 }], vararg := none, kwonlyargs := [], kw_defaults := [], kwarg := none, defaults := [] }
def iB (q1 q2 q3 q4 : Pos) : List Stmt := [.Assign [.Attribute (.Name "self" q1) "at" q2] (.Name "at" q3) q4]
def iS : Scope := { kind := .function, names := [(PySem.Str.ofString "self", .local), (PySem.Str.ofString "at", .local)], isGenerator := false, isCoroutine := false, more := [] }
abbrev bmB : List Value := [.type "IndexError", .type "LookupError", .type "Exception", .type "BaseException", .type "object"]
/-- what the written part says of NoBranch, at C, and of its __init__, at fI -/
structure LowTxt (K : Frag) (mg : Str → Option Value) (C fI : Addr) : Prop where
  gC : mg "NoBranch" = some (.ref C)
  cls : ∃ nm q N bs sn sub ab col dd k0 k1 k2 k3 k5, K.lookup C = some (excClassObj nm q C N bs bmB true sn sub ab col dd k0 k1 k2 k3 k5 "IndexError.__new__")
  sa : findIn K (.ref C) "__setattr__" = some (some (.builtin "object.__setattr__"))
  ga : findIn K (.ref C) "__getattribute__" = some (some (.builtin "BaseException.__getattribute__"))
  gg : findIn K (.ref C) "__getattr__" = some none
  noN : findIn K (.ref C) "at" = some none
  iC : findIn K (.ref C) "__init__" = some (some (.ref fI))
  tC : typeIn K (.ref fI) = some (.type "function")
  kC : keepIn K (.ref C) = true
  exC : subIn K (.ref C) (.type "BaseException") = some true
  tyC : typeIn K (.ref C) = some (.type "type")
  hdC : hasDictIn K C = true
  te : exmOne K (.ref C) (.ref C) = some true
  fn : ∃ (oc : Value) (od : Option Addr) (doc pm : Value) (an : Option Addr) (cdv ct : Value) (osl : Array (Option Value)) (p1 p2 q1 q2 q3 q4 : Pos),
    K.lookup fI = some ⟨oc, od, .func (fnOf "__init__" "NoBranch.__init__" (iA p1 p2) (iB q1 q2 q3 q4) iS .none .none doc pm an cdv ct), osl⟩ ∧ codeIn K cdv "NoBranch.__init__" = true
theorem one_size (v : Value) : [v].length ≤ sizeLine := by
  rw [sizeLine_eq]
  exact (by decide : 1 ≤ 16777216)
theorem ldC {M : Model} {s : Shared} {name : Str} {scope : Scope} {L a : Addr} {cd : Value} {m : Str → Option Value} {x : Str} {pos : Pos} {v : Value} {Q : Value → Shared → Prop} {A : Around} {E : Value → Shared → Prop} (hn : s.heap.Ns L m) (hv : m x = some v) (h : Q v s)
    (hk : scope.kind = .function := by rfl) (hl : (envOfC name scope L a cd).kindOf x = some .local := by rfl) (hd : (x == ("__debug__" : Str)) = false := by decide) :
    wpAny M A (eval (.Name x pos) (envOfC name scope L a cd)) Q E s := wpAny_Name (wpAny_loadName_local hk hl hn hv h) hd
/-- what __init__ leaves of a fresh exception at x -/
structure InitEnd (h h' : Heap) (x C dx t1 : Addr) (v : Value) : Prop where
  keep : ∀ b o, b ≠ x → h.get? b = some o → h'.get? b = some o
  obj : h'.get? x = some { cls := .ref C, dict := some dx, data := .fields #[.ref t1, .none, .none, .none, .bool false, .none] }
  dbig : h.objs.size ≤ dx
  dne : dx ≠ x
  ns : h'.Ns1 dx (fun y => if y = "at" then some v else none)
/-- a made one -/
structure OwnMade (h h' : Heap) (e C d : Addr) (v : Value) : Prop where
  keep : ∀ b o, h.get? b = some o → h'.get? b = some o
  new : h.objs.size ≤ e
  obj : ∃ oe vs, h'.get? e = some oe ∧ oe.cls = .ref C ∧ oe.dict = some d ∧ oe.data = .fields vs ∧ vs[1]? = some .none
  dbig : h.objs.size ≤ d
  dne : d ≠ e
  ns : h'.Ns1 d (fun y => if y = "at" then some v else none)
section
variable {prog : Program} {w : World} {A : Around} {E : Value → Shared → Prop} {R : Result → Shared → Prop} {s : Shared} {K : Frag} {mg : Str → Option Value} {C fI : Addr}
theorem low_init (T : LowTxt K mg C fI) {x t0 : Addr} {v : Value} (X : K.In s.heap) (hlim : s.heap.NoLimit) (hx : s.heap.get? x = some (excO C t0)) (hnx : K.lookup x = none) (hroom : A.depth < recursionLimit)
    (hq : ∀ h' tk dx, InitEnd s.heap h' x C dx t0 v → R (.ok (.ret .none)) { s with heap := h', toks := tk }) :
    codeAny (model prog w) A (.call (.ref fI) ⟨[.ref x, v], []⟩) R s := by
  obtain ⟨oc, od, doc, pm, an, cdv, ct, osl, p1, p2, q1, q2, q3, q4, ho, hcd⟩ := T.fn
  obtain ⟨nm, q, N, bs, sn, sub, ab, col, dd, k0, k1, k2, k3, k5, hC⟩ := T.cls
  have hcl : clsIn K C = some { name := nm, bases := bs, mro := .ref C :: bmB, ns := N, qualname := q, hasDict := true, slotNames := sn, subclasses := sub, abstract := ab, collection := col, hasDel := false } := by unfold clsIn; rw [hC] <;> rfl
  refine Att.call_fn (binds := [("self", .ref x), ("at", v)]) X hlim ho hcd hroom (BindsTo.of_eq (by first | rfl | with_unfolding_all rfl)) (by first | rfl | decide | with_unfolding_all rfl) (fun s₁ IC => ?_) rfl rfl rfl
  obtain ⟨h₁, tk₁, rfl⟩ := IC.toInCall.same
  have k : ∀ b o, s.heap.get? b = some o → h₁.get? b = some o := IC.toInCall.keep
  have hn := IC.toInCall.ns
  have hxL : s.heap.objs.size ≠ x := Nat.ne_of_gt (Heap.lt_size hx)
  have X₁ : K.In h₁ := X.keeps k
  have hx₁ := k _ _ hx
  show wpAny _ _ (execs _ _) _ _ _
  refine wpAny_execs_cons (plainObj_wpAny_Assign_Attribute ?_)
  refine ldC (v := v) hn (by first | rfl | with_unfolding_all rfl | kernel_rfl) (ldC (v := .ref x) hn (by first | rfl | with_unfolding_all rfl | kernel_rfl) ?_)
  refine set_plain X₁ (ox := excO C t0) (od := none) ⟨hx₁, rfl, rfl, trivial⟩ T.sa ?_
  refine Xst.put_first F.store_IndexError X₁ hx₁ hcl rfl (by decide +kernel) rfl T.noN (fun h₃ tk₃ dx k₃ dn dne hx₃ hn₃ => ?_)
  show wpAny _ _ (execs _ _) _ _ _
  have z : s.heap.objs.size < h₁.objs.size := hn.lt
  exact wpAny_execs_nil (hq h₃ tk₃ dx ⟨fun b o hb e => k₃ b o hb (k b o e), hx₃, Nat.le_of_lt (Nat.lt_of_lt_of_le z dn), dne, hn₃⟩)
theorem low_made (T : LowTxt K mg C fI) {v : Value} (X : K.In s.heap) (hlim : s.heap.NoLimit) (hroom : A.depth + 1 < recursionLimit)
    (hq : ∀ h' tk e d, OwnMade s.heap h' e C d v → R (.ok (.ret (.ref e))) { s with heap := h', toks := tk }) :
    codeAny (model prog w) A (.call (.ref C) ⟨[v], []⟩) R s := by
  obtain ⟨nm, q, N, bs, sn, sub, ab, col, dd, k0, k1, k2, k3, k5, hC⟩ := T.cls
  obtain ⟨hp, g, dr, tk, os⟩ := s
  have k : ∀ b o, hp.get? b = some o → ((hp.push (kdv_tup [v])).push (excO C hp.objs.size)).get? b = some o := fun b o e => Heap.get?_push_of_some _ (Heap.get?_push_of_some _ e)
  have hget : ((hp.push (kdv_tup [v])).push (excO C hp.objs.size)).get? (hp.objs.size + 1) = some (excO C hp.objs.size) := by heap_get
  have hnx : K.lookup (hp.objs.size + 1) = none := by
    cases e : K.lookup (hp.objs.size + 1) with
    | none => rfl
    | some o =>
      have z : hp.get? (hp.objs.size + 1) = some o := X _ _ e
      exact absurd (Nat.lt_of_succ_lt (Heap.lt_size z)) (Nat.lt_irrefl _)
  refine call_own F.excBase_IndexError (fun X => rfl) (X _ _ hC) (looks_findIn X T.iC) (fun self => bind_fn X self T.tC) (one_size v) ?_
  refine low_init (s := ⟨(hp.push (kdv_tup [v])).push (excO C hp.objs.size), g, dr, tk, os⟩) T (X.keeps k) (hlim.keeps k) hget hnx ?_ fun h' tk' dx ⟨k', hx, dn, dne, hns⟩ => ?_
  · show A.depth + 1 < recursionLimit
    exact hroom
  · have old : ∀ b o, hp.get? b = some o → h'.get? b = some o := fun b o e => k' b o (Nat.ne_of_lt (Nat.lt_succ_of_lt (Heap.lt_size e))) (k b o e)
    have z : hp.objs.size + 1 + 1 ≤ dx := by
      first
        | (simpa only [Heap.size_push] using dn)
        | exact dn
        | (have q := dn; rw [Heap.size_push, Heap.size_push] at q; exact q)
    exact ⟨rfl, hq h' tk' (hp.objs.size + 1) dx ⟨old, Nat.le_succ _, ⟨_, _, hx, rfl, rfl, rfl, rfl⟩, Nat.le_trans (Nat.le_trans (Nat.le_succ _) (Nat.le_succ _)) z, dne, hns⟩⟩
end
end XcNoBranch
end PySem
namespace XcNoBranch
open PySem PySem.Spec PyProof.Rows L2
theorem relO_low {v : V} {v' : Value} (r : RelV v v') (f : Str) : RelO (List.lookup f [(("at" : Str), v)]) (if f = "at" then some v' else none) := by
  by_cases hw : f = "at"
  · subst hw
    rw [if_pos rfl]
    have q : List.lookup ("at" : Str) [(("at" : Str), v)] = some v := by simp [List.lookup]
    rw [q]
    exact r
  · rw [if_neg hw]
    have qw : (f == ("at" : Str)) = false := by simpa using hw
    have q2 : List.lookup f [(("at" : Str), v)] = none := by simp [List.lookup, qw]
    rw [q2]
    trivial
section
variable {X : Cx} {C fI : Addr}
/-- NoBranch(e) -/
def tMkLow (C : Addr) (ta : TA) : L2.St → Hp → XK → Prop := fun σ H Q => ta σ H fun vs H1 => ∃ v, vs = [v] ∧ ∀ d, H1 d = none → Q (.ref C) (some d) (upd H1 d (.xd [(("at" : Str), v)]))
theorem pmk_low {a : Expr} {ta : TA} {p pos : Pos} {k : Nat} (T : PySem.XcNoBranch.LowTxt X.K X.mg C fI) (hr : Room k X.A) (ha : PA X [a] ta) (hg : Gl X "NoBranch" := by rfl)
    (he : starEach (a :: []) X.env = (false, eval a X.env) :: starEach [] X.env := by rfl) (hpl : (backTo pos (starEach [] X.env)).any (·.1) = false := by rfl) :
    PMk X (.Call (.Name "NoBranch" p) [a] [] pos) (tMkLow C ta) := by
  intro pins s σ H Q I h
  refine wpAny_Call_Name_kw (ld_glob I hg T.gC ?_)
  refine PySem.W.callWith_K (h₀ := X.base) I.ok.mod.kin T.kC (thn (ha.run pos pins s σ H _ I h) fun us s1 hh => ?_) he hpl
  obtain ⟨vs, H1, I1, r1, v, ev, q1⟩ := hh
  subst ev
  refine ⟨I1.kIn, ?_⟩
  cases r1 with
  | cons rv rn =>
    rename_i v' us'
    cases rn
    show wpAny _ _ (call (.ref C) [v']) _ _ _
    have hlim := I1.nolimit
    obtain ⟨hp, g, dr, tk, os⟩ := s1
    refine wpAny_call (PySem.XcNoBranch.low_made T I1.kIn hlim (by have := hr.dp; omega) fun h' tk' e d M => ?_)
    show MkP X pins σ Q (.ref e) ⟨h', g, dr, tk', os⟩
    obtain ⟨oe, fv, hoe, hc, hd, hdat, h1⟩ := M.obj
    have hns := M.ns
    obtain ⟨G', g1, g2⟩ := restrict h' fun b => decide (b ≠ e)
    have gk : ∀ b, b ≠ e → G'.get? b = h'.get? b := fun b hb => g1 b (decide_eq_true hb)
    have ge : G'.get? e = none := g2 e (by simp)
    have old : ∀ b o, hp.get? b = some o → G'.get? b = some o := fun b o q => (gk b (Nat.ne_of_lt (Nat.lt_of_lt_of_le (Heap.lt_size q) M.new))).trans (M.keep b o q)
    have ob : ObjOk X.prog X.w (upd H1 d (.xd [(("at" : Str), v)])) G' d (.xd [(("at" : Str), v)]) :=
      ⟨_, hns.at (fun o q => (gk d M.dne).trans q), fun f => relO_low rv f⟩
    have J : Inv X pins σ (upd H1 d (.xd [(("at" : Str), v)])) ⟨G', g, dr, tk', os⟩ := I1.laid (t' := tk') old M.dbig ob
    refine ⟨e, oe, fv, ⟨G', g, dr, tk', os⟩, _, .ref C, some d, rfl, J, fun b o q => ?_, ge, hoe, ⟨hc, hd⟩, hdat, h1, ?_, rfl, I1.bare, raises_own T.exC T.tyC, q1 d (I1.hok.fresh M.dbig)⟩
    · by_cases hb : b = e
      · have q' : G'.get? b = some o := q
        rw [hb, ge] at q'; cases q'
      · exact (gk b hb).symm.trans q
    · rw [upd_ne (Ne.symm M.dne)]
      exact I1.hok.fresh M.new
/-- e.at, e the exception that the suite holds (at a; its class cls, its dict d) -/
def tByLow (C : Addr) (a : Addr) (cls : Value) (d : Option Addr) (te : TE) : TE := fun σ H Q => te σ H fun x H1 => x = .ref a ∧ cls = .ref C ∧ ∃ (dd : Addr) (v : V), d = some dd ∧ H1 dd = some (.xd [(("at" : Str), v)]) ∧ Q v H1
theorem pe_byLow {a : Addr} {oe : Obj} {cls : Value} {d : Option Addr} {pn : List (Addr × Obj)} {e : Expr} {te : TE} {pos : Pos} (T : PySem.XcNoBranch.LowTxt X.K X.mg C fI) (hz : Zc cls d oe) (hf : ∃ vs, oe.data = .fields vs) (he : PE (X.suite a ((a, oe) :: pn)) e te)
    (hb : attributeBase e "at" X.env (eval e X.env) = eval e X.env := by rfl) :
    PE (X.suite a ((a, oe) :: pn)) (.Attribute e "at" pos) (tByLow C a cls d te) := by
  refine ⟨fun pins s σ H Q I h => ?_⟩
  refine attr_of hb (thn (he.run pins s σ H _ I h) fun u s1 hh => ?_)
  obtain ⟨x, H1, I1, rx, ex, ec, dd, v, ed, ea, q⟩ := hh
  subst ex
  obtain rfl : u = Value.ref a := rx
  subst ec
  subst ed
  obtain ⟨ha, _⟩ := I1.pin (a, oe) (List.mem_append_left _ List.mem_cons_self)
  obtain ⟨vs, hd⟩ := hf
  have hx : ObjOk X.prog X.w H1 s1.heap dd (.xd [(("at" : Str), v)]) := I1.hok dd _ ea
  obtain ⟨mA, hns, hr⟩ := hx
  obtain ⟨od, ho, hl⟩ := lookIn_ns hns
  have l : List.lookup ("at" : Str) [(("at" : Str), v)] = some v := by simp [List.lookup]
  obtain ⟨u, hu, ru⟩ := RelO.some_of (v := v) (o := mA "at") (by rw [← l]; exact hr "at")
  have J : PySem.W.InstAt s1.heap a oe C (some od) := ⟨ha, hz.1, by unfold PySem.W.notCls; rw [hd] <;> rfl, by rw [hz.2]; exact ho⟩
  exact HandSPX.exc_get I1.kIn J T.ga T.gg T.exC (PySem.W.findObj_own T.hdC T.noN rfl (by rw [hl, hu])) (handed_of ru) ⟨v, H1, I1.tok _, ru, q⟩
end
end XcNoBranch
namespace J
open PySem PySem.Spec PyProof.Rows L2
variable {X : Cx} {C fI : Addr}
theorem js_raiseNoBranch {a : Expr} {f : FE} {p pos pos2 : Pos} {k : Nat} (T : PySem.XcNoBranch.LowTxt X.K X.mg C fI) (hc : X.calm = true) (hr : Room k X.A) (ha : JE X a f) (hg : Gl X "NoBranch" := by rfl)
    (he : starEach (a :: []) X.env = (false, eval a X.env) :: starEach [] X.env := by rfl) (hpl : (backTo pos (starEach [] X.env)).any (·.1) = false := by rfl) :
    JS X (.Raise (some (.Call (.Name "NoBranch" p) [a] [] pos)) none pos2) (fRaise "NoBranch" "at" f) := by
  obtain ⟨t, pa, q⟩ := ja_cons ha ja_nil he
  refine js_raise hc T.gC (XcNoBranch.pmk_low T hr pa hg he hpl) fun σ H μ env S d S' Q hR er hf kk => ?_
  refine q σ H μ env S [d] S' _ hR er (by unfold faCons; rw [hf]; rfl) fun vs H1 μ1 l1 hR1 r1 => ?_
  cases r1 with
  | cons r1 r2 =>
    cases r2
    exact ⟨_, rfl, kk _ H1 μ1 l1 hR1 r1⟩
/-- what e.at is -/
def fFldNoBranch (fs : List (Str × D)) : FE := fun _ S => match fs with
  | [(x, d)] => if x = "at" then some (d, S) else none
  | _ => none
theorem ju_fldNoBranch {a : Addr} {oe : Obj} {cls : Value} {d : Option Addr} {pn : List (Addr × Obj)} {i : Nat} {x : Str} {p pos : Pos} (T : PySem.XcNoBranch.LowTxt X.K X.mg C fI) (hcl : cls = .ref C) (hz : Zc cls d oe) (hf : ∃ vs, oe.data = .fields vs) (hN : X.N[i]? = some x) (hv : Vis X.env.scope x) (hd : (x == ("__debug__" : Str)) = false := by decide) (hcd : (x == ("__classdict__" : Str)) = false := by decide)
    (hb : attributeBase (.Name x p) "at" X.env (eval (.Name x p) X.env) = eval (.Name x p) X.env := by rfl) :
    JU (X.suite a ((a, oe) :: pn)) a cls d i (.Attribute (.Name x p) "at" pos) fFldNoBranch := by
  refine ⟨_, XcNoBranch.pe_byLow T hz hf (pe_var (X := X.suite a ((a, oe) :: pn)) hN hv hd hcd) hb, fun σ H μ env S fs dv S' Q hr er h1 h2 h3 k => ?_⟩
  refine ⟨_, h1, rfl, hcl, ?_⟩
  unfold fFldNoBranch at h3
  split at h3
  · rename_i y dy
    split at h3
    · rename_i ey
      cases h3
      subst ey
      rcases h2 with ⟨z, _⟩ | ⟨dd, gs, e1, e2, e3, e4⟩
      · cases z
      · cases e4 with
        | cons r q =>
          cases q
          exact ⟨dd, _, e1, e2, k _ H μ (.refl _ _) hr r⟩
    · cases h3
  · cases h3
end J

set_option autoImplicit false
namespace J
open PySem L2
noncomputable def B__law_bag : FS :=
    (fSeq (fAsg (fIf (fTest (fOp gLt (fVar 1) (fB gLen (faCons (fVar 0) faNil)))) (fOp gIdx (fVar 0) (fVar 1)) (fC (.int 0))) (gNm 2))
    (fSeq (fAsg (fIf (fTest (fOp gGe (fB gAbs (faCons (fVar 2) faNil)) (fOp (gI (fun i j => decide (0 ≤ j) && decide (j ≤ 1000000) && decide (i.natAbs < 2 ^ 64)) fun i j => i ^ j.toNat) (fC (.int 10)) (fC (.int 18))))) (fB gAbs (faCons (fVar 2) faNil)) (fC (.int 0))) (gNm 3))
    (fRet (fLstN (faCons (fVar 3) (faCons (fOp (gI (fun _ j => decide (0 < j)) fun i j => i % j) (fOp (gI cMul fun i j => i * j) (fOp gAdd (fOp gAdd (fOp (gI (fun _ j => decide (0 < j)) fun i j => i % j) (fVar 2) (fC (.int 2305843009213693951))) (fOp (gI cMul fun i j => i * j) (fC (.int 7919)) (fVar 1))) (fC (.int 3))) (fC (.int 6700417))) (fC (.int 2305843009213693951))) (faCons (fC (.int 0)) faNil)))))))
noncomputable def F__law_bag : Fn := runD .drop 4 B__law_bag
noncomputable def B__law_take : FS :=
    (fSeq (fIfS (fTest (fOp gGt (fOp gIdx (fVar 0) (fC (.int 0))) (fC (.int 0)))) (fSeq (fAsg (fOp (gI (fun _ j => decide (0 < j)) fun i j => i % j) (fOp gIdx (fVar 0) (fC (.int 0))) (fVar 1)) (gNm 2))
    (fSeq (fAsg (fOp (gI (fun _ j => decide (0 < j) && decide (j < 1073741824)) fun i j => i / j) (fOp gIdx (fVar 0) (fC (.int 0))) (fVar 1)) (gSub (fVar 0) (fC (.int 0)) gSet))
    (fRet (fVar 2)))) fNext)
    (fSeq (fAsg (fOp gAdd (fOp gIdx (fVar 0) (fC (.int 2))) (fC (.int 1))) (gSub (fVar 0) (fC (.int 2)) gSet))
    (fSeq (fAsg (fOp (gI (fun _ j => decide (0 < j)) fun i j => i % j) (fOp (gI (fun i j => decide (0 ≤ j) && decide (j ≤ 1000000) && decide (i.natAbs < 2 ^ 64)) fun i j => i ^ j.toNat) (fOp gAdd (fOp gIdx (fVar 0) (fC (.int 1))) (fOp (gI cMul fun i j => i * j) (fC (.int 1000003)) (fOp gIdx (fVar 0) (fC (.int 2))))) (fC (.int 3))) (fC (.int 2305843009213693921))) (gNm 3))
    (fSeq (fAsg (fOp (gI (fun _ j => decide (0 < j)) fun i j => i % j) (fOp (gI (fun i j => decide (0 ≤ j) && decide (j ≤ 1000000) && decide (i.natAbs < 2 ^ 64)) fun i j => i ^ j.toNat) (fOp gAdd (fVar 3) (fOp (gI cMul fun i j => i * j) (fC (.int 15485863)) (fOp gIdx (fVar 0) (fC (.int 2))))) (fC (.int 2))) (fC (.int 2305843009213693951))) (gNm 3))
    (fRet (fOp (gI (fun _ j => decide (0 < j)) fun i j => i % j) (fOp (gI (fun _ j => decide (0 < j) && decide (j < 1073741824)) fun i j => i / j) (fVar 3) (fC (.int 1024))) (fVar 1)))))))
noncomputable def F__law_take : Fn := runD .drop 4 B__law_take
noncomputable def B__law_operand : FS :=
    (fSeq (fAsg (fCall 2 F__law_take (faCons (fVar 0) (faCons (fVar 1) faNil)) []) (gNm 2))
    (fRet (fOp gIdx (fLst (faCons (fC (.str "x")) (faCons (fC (.str "y")) (faCons (fVar 2) faNil)))) (fCall 2 F__law_take (faCons (fVar 0) (faCons (fC (.int 3)) faNil)) []))))
noncomputable def F__law_operand : Fn := runD .drop 3 B__law_operand
noncomputable def B__law_expression : FS :=
    (fSeq (fPar 2 3 (faCons (fCall 2 F__law_operand (faCons (fVar 0) (faCons (fVar 1) faNil)) []) (faCons (fCall 2 F__law_operand (faCons (fVar 0) (faCons (fVar 1) faNil)) []) faNil)))
    (fSeq (fAsg (fOp gIdx (fLst (faCons (fC (.str "+")) (faCons (fC (.str "-")) (faCons (fC (.str "*")) faNil)))) (fCall 2 F__law_take (faCons (fVar 0) (faCons (fC (.int 3)) faNil)) [])) (gNm 4))
    (fRet (fOp gIdx (fLst (faCons (fVar 2) (faCons (fVar 2) (faCons (fTup (faCons (fVar 4) (faCons (fVar 2) (faCons (fVar 3) faNil)))) faNil)))) (fCall 2 F__law_take (faCons (fVar 0) (faCons (fC (.int 3)) faNil)) [])))))
noncomputable def F__law_expression : Fn := runD .drop 5 B__law_expression
noncomputable def B__law_row : FS :=
    (fSeq (fPar 4 5 (faCons (fCall 2 F__law_expression (faCons (fVar 0) (faCons (fVar 1) faNil)) []) (faCons (fCall 2 F__law_expression (faCons (fVar 0) (faCons (fVar 1) faNil)) []) faNil)))
    (fSeq (fPar 6 7 (faCons (fOp gIdx (fLst (faCons (fC (.str "x")) (faCons (fC (.str "y")) faNil))) (fCall 2 F__law_take (faCons (fVar 0) (faCons (fC (.int 2)) faNil)) [])) (faCons (fOp gIdx (fVar 3) (fCall 2 F__law_take (faCons (fVar 0) (faCons (fB gLen (faCons (fVar 3) faNil)) faNil)) [])) faNil)))
    (fSeq (fPar 8 9 (faCons (fCall 2 F__law_take (faCons (fVar 0) (faCons (fOp gAdd (fVar 2) (fC (.int 1))) faNil)) []) (faCons (fCall 2 F__law_take (faCons (fVar 0) (faCons (fC (.int 2)) faNil)) []) faNil)))
    (fSeq (fAsg (fLst (faCons (fTup (faCons (fC (.str "say")) (faCons (fVar 4) faNil))) (faCons (fTup (faCons (fC (.str "ask")) (faCons (fVar 6) faNil))) (faCons (fTup (faCons (fC (.str "say")) (faCons (fVar 4) faNil))) (faCons (fTup (faCons (fC (.str "ask")) (faCons (fVar 6) faNil))) (faCons (fTup (faCons (fC (.str "set")) (faCons (fVar 6) (faCons (fVar 4) faNil)))) faNil)))))) (gNm 10))
    (fSeq (fAsg (fOp gAdd (fVar 10) (fLst (faCons (fTup (faCons (fC (.str "if")) (faCons (fVar 4) (faCons (fVar 5) (faCons (fVar 8) faNil))))) (faCons (fTup (faCons (fC (.str "read")) (faCons (fVar 9) (faCons (fVar 6) faNil)))) (faCons (fTup (faCons (fC (.str "write")) (faCons (fVar 9) (faCons (fVar 4) faNil)))) (faCons (fTup (faCons (fC (.str "go")) (faCons (fVar 8) faNil))) faNil)))))) (gNm 10))
    (fRet (fOp gIdx (fOp gAdd (fVar 10) (fLst (faCons (fTup (faCons (fC (.str "call")) (faCons (fVar 7) (faCons (fVar 4) (faCons (fVar 6) faNil))))) (faCons (fTup (faCons (fC (.str "end")) (faCons (fVar 4) faNil))) (faCons (fTup (faCons (fC (.str "if")) (faCons (fVar 4) (faCons (fVar 5) (faCons (fVar 8) faNil))))) faNil))))) (fCall 2 F__law_take (faCons (fVar 0) (faCons (fC (.int 12)) faNil)) []))))))))
noncomputable def F__law_row : Fn := runD .drop 11 B__law_row
noncomputable def L__law_text_1 : FE :=
    (fCall 4 F__law_row (faCons (fVar 0) (faCons (fVar 1) (faCons (fVar 4) (faCons (fVar 3) faNil)))) [])
noncomputable def B__law_text : FS :=
    (fSeq (fAsg (fCall 2 F__law_take (faCons (fVar 0) (faCons (fOp gAdd (fVar 2) (fC (.int 1))) faNil)) []) (gNm 4))
    (fRet (fB gTuple (faCons (fLc [5] (fRng1 (faCons (fVar 4) faNil)) (gNm 5) fYes L__law_text_1) faNil))))
noncomputable def F__law_text : Fn := runD .drop 6 B__law_text
noncomputable def L__law_names_1 : FE :=
    (fOp gIdx (fVar 1) (fCall 2 F__law_take (faCons (fVar 0) (faCons (fC (.int 26)) faNil)) []))
noncomputable def L__law_names_2 : FS :=
    (fSeq (fAsg (fOp gIdx (fLst (faCons (fC (.int 1)) (faCons (fC (.int 1)) (faCons (fC (.int 2)) (faCons (fC (.int 4)) (faCons (fC (.int 8)) faNil)))))) (fCall 2 F__law_take (faCons (fVar 0) (faCons (fC (.int 5)) faNil)) [])) (gNm 4))
    (fSeq (fAsg (fM "str" gJoin (fC (.str "")) (faCons (fLc [6] (fRng1 (faCons (fVar 4) faNil)) (gNm 6) fYes L__law_names_1) faNil)) (gNm 5))
    (fIfS (fTest (fOp (gIn true) (fVar 5) (fVar 2))) (fDrop (fM "list" gApp (fVar 2) (faCons (fVar 5) faNil))) fNext)))
noncomputable def B__law_names : FS :=
    (fSeq (fAsg (fTup (faCons (fC (.str "abcdefghijklmnopqrstuvwxyz")) (faCons (fLstN faNil) faNil))) (gTp 2 (gCons (gNm 1) (gCons (gNm 2) gNil))))
    (fSeq (fFor (fRng1 (faCons (fOp gAdd (fC (.int 1)) (fCall 2 F__law_take (faCons (fVar 0) (faCons (fC (.int 3)) faNil)) [])) faNil)) (gNm 3) L__law_names_2)
    (fRet (fVar 2))))
noncomputable def F__law_names : Fn := runD .frz 7 B__law_names
noncomputable def L__law_stands_1 : FE :=
    (fTup (faCons (fVar 3) (faCons (fOp (gI (fun _ j => decide (0 < j) && decide (j < 1073741824)) fun i j => i / j) (fVar 4) (fVar 1)) (faCons (fOp (gI (fun _ j => decide (0 < j)) fun i j => i % j) (fVar 4) (fVar 1)) faNil))))
noncomputable def L__law_stands_2 : FS :=
    (fIfS (fOrT (fTest (fOp (gEq false) (fVar 3) (fB gLen (faCons (fVar 0) faNil)))) (fTest (fOp (gIn true) (fOp gIdx (fOp gIdx (fVar 0) (fVar 3)) (fC (.int 0))) (fTup (faCons (fC (.str "set")) (faCons (fC (.str "if")) (faCons (fC (.str "go")) faNil))))))) (fDrop (fM "list" gExt (fVar 2) (faCons (fLc [4] (fRng1 (faCons (fOp (gI cMul fun i j => i * j) (fVar 1) (fVar 1)) faNil)) (gNm 4) fYes L__law_stands_1) faNil))) fNext)
noncomputable def B__law_stands : FS :=
    (fSeq (fAsg (fLstN faNil) (gNm 2))
    (fSeq (fFor (fRng1 (faCons (fOp gAdd (fB gLen (faCons (fVar 0) faNil)) (fC (.int 1))) faNil)) (gNm 3) L__law_stands_2)
    (fRet (fVar 2))))
noncomputable def F__law_stands : Fn := runD .frz 5 B__law_stands
noncomputable def F__law_value_n : Nat → Fn
  | 0 => fun _ _ => none
  | n + 1 => runD .drop 6 ((fSeq (fIfS (fTruth (fB gIsi (faCons (fVar 0) (faCons (fC (.glo (.ty "str"))) faNil)))) (fRet (fIf (fTest (fOp (gEq false) (fVar 0) (fC (.str "x")))) (fVar 1) (fVar 2))) fNext)
    (fSeq (fIfS (fNotT (fTruth (fB gIsi (faCons (fVar 0) (faCons (fC (.glo (.ty "tuple"))) faNil))))) (fRet (fVar 0)) fNext)
    (fSeq (fPar 4 5 (faCons (fCall 4 (F__law_value_n n) (faCons (fOp gIdx (fVar 0) (fC (.int 1))) (faCons (fVar 1) (faCons (fVar 2) (faCons (fVar 3) faNil)))) []) (faCons (fCall 4 (F__law_value_n n) (faCons (fOp gIdx (fVar 0) (fC (.int 2))) (faCons (fVar 1) (faCons (fVar 2) (faCons (fVar 3) faNil)))) []) faNil)))
    (fRet (fOp (gI (fun _ j => decide (0 < j)) fun i j => i % j) (fDispIx ["+", "-", "*"] (faCons (fOp gAdd (fVar 4) (fVar 5)) (faCons (fOp (gI0 fun i j => i - j) (fVar 4) (fVar 5)) (faCons (fOp (gI cMul fun i j => i * j) (fVar 4) (fVar 5)) faNil))) (fOp gIdx (fVar 0) (fC (.int 0)))) (fVar 3)))))))
noncomputable def F__law_value : Fn := F__law_value_n 2
noncomputable def B__law_deed : FS :=
    (fSeq (fAsg (fVar 1) (gTp 3 (gCons (gNm 3) (gCons (gNm 4) (gCons (gNm 5) gNil)))))
    (fSeq (fIfS (fOrT (fTest (fOp (gEq false) (fVar 3) (fUn gNeg (fC (.int 1))))) (fTest (fOp (gEq false) (fVar 3) (fB gLen (faCons (fVar 0) faNil))))) (fRet (fIf (fTest (fOp (gEq false) (fVar 3) (fUn gNeg (fC (.int 1))))) (fTup (faCons (fC (.str "mute")) faNil)) (fTup (faCons (fC (.str "end")) (faCons (fC (.int 0)) faNil))))) fNext)
    (fSeq (fAsg (fOp gIdx (fVar 0) (fVar 3)) (gNm 6))
    (fSeq (fIfS (fTest (fOp (gIn false) (fOp gIdx (fVar 6) (fC (.int 0))) (fTup (faCons (fC (.str "ask")) (faCons (fC (.str "read")) faNil))))) (fRet (fSlice (fVar 6) foNone (foSome (fUn gNeg (fC (.int 1)))))) fNext)
    (fSeq (fIfS (fTest (fOp (gIn false) (fOp gIdx (fVar 6) (fC (.int 0))) (fTup (faCons (fC (.str "write")) (faCons (fC (.str "call")) faNil))))) (fRet (fTup (faCons (fOp gIdx (fVar 6) (fC (.int 0))) (faCons (fOp gIdx (fVar 6) (fC (.int 1))) (faCons (fCall 4 F__law_value (faCons (fOp gIdx (fVar 6) (fC (.int 2))) (faCons (fVar 4) (faCons (fVar 5) (faCons (fVar 2) faNil)))) []) faNil))))) fNext)
    (fRet (fTup (faCons (fOp gIdx (fVar 6) (fC (.int 0))) (faCons (fCall 4 F__law_value (faCons (fOp gIdx (fVar 6) (fC (.int 1))) (faCons (fVar 4) (faCons (fVar 5) (faCons (fVar 2) faNil)))) []) faNil)))))))))
noncomputable def F__law_deed : Fn := runD .drop 7 B__law_deed
noncomputable def B_is_silent : FS :=
    (fRet (fAndV (fOp gLt (fVar 1) (fB gLen (faCons (fVar 0) faNil))) (fOp (gIn false) (fOp gIdx (fOp gIdx (fVar 0) (fVar 1)) (fC (.int 0))) (fC (.tup [(.str "set"), (.str "if"), (.str "go")])))))
noncomputable def F_is_silent : Fn := runD .drop 2 B_is_silent
noncomputable def B_is_integer : FS :=
    (fRet (fAndV (fB gIsi (faCons (fVar 0) (faCons (fC (.glo (.ty "int"))) faNil))) (fNotV (fB gIsi (faCons (fVar 0) (faCons (fC (.glo (.ty "bool"))) faNil))))))
noncomputable def F_is_integer : Fn := runD .drop 1 B_is_integer
noncomputable def B_is_below : FS :=
    (fRet (fAndV (fCall 1 F_is_integer (faCons (fVar 0) faNil) []) (fChain gLe gLt (fC (.int 0)) (fVar 0) (fVar 1))))
noncomputable def F_is_below : Fn := runD .drop 2 B_is_below
noncomputable def L_is_stand_1 : FE :=
    (fCall 1 F_is_integer (faCons (fVar 6) faNil) [])
noncomputable def B_is_stand : FS :=
    (fSeq (fIfS (fOrT (fNotT (fTruth (fB gIsi (faCons (fVar 1) (faCons (fC (.glo (.ty "tuple"))) faNil))))) (fTest (fOp (gEq true) (fB gLen (faCons (fVar 1) faNil)) (fC (.int 3))))) (fRet (fC (.bl false))) fNext)
    (fSeq (fIfS (fNotT (fTruth (fB gAll (faCons (fLc [6] (fIt (fVar 1)) (gNm 6) fYes L_is_stand_1) faNil)))) (fRet (fC (.bl false))) fNext)
    (fSeq (fIfS (fTest (fOp (gEq false) (fVar 1) (fC (.tup [(.int (-1)), (.int 0), (.int 0)])))) (fRet (fC (.bl true))) fNext)
    (fSeq (fAsg (fVar 1) (gTp 3 (gCons (gNm 3) (gCons (gNm 4) (gCons (gNm 5) gNil)))))
    (fSeq (fIfS (fOrT (fNotT (fTruth (fCall 2 F_is_below (faCons (fVar 3) (faCons (fOp gAdd (fB gLen (faCons (fVar 0) faNil)) (fC (.int 1))) faNil)) []))) (fTruth (fCall 2 F_is_silent (faCons (fVar 0) (faCons (fVar 3) faNil)) []))) (fRet (fC (.bl false))) fNext)
    (fRet (fAndV (fCall 2 F_is_below (faCons (fVar 4) (faCons (fVar 2) faNil)) []) (fCall 2 F_is_below (faCons (fVar 5) (faCons (fVar 2) faNil)) []))))))))
noncomputable def F_is_stand : Fn := runD .drop 7 B_is_stand
noncomputable def B_check_stand : FS :=
    (fIfS (fNotT (fTruth (fCall 3 F_is_stand (faCons (fVar 0) (faCons (fVar 1) (faCons (fVar 2) faNil))) []))) fNone fNext)
noncomputable def F_check_stand : Fn := runD .drop 3 B_check_stand
noncomputable def B_row_deed : FS :=
    (fSeq (fIfS (fTest (fInC false [("say", (.int 1)), ("write", (.int 2)), ("call", (.int 2)), ("end", (.int 1))] (fOp gIdx (fVar 0) (fC (.int 0))))) (fRet (fOp gAdd (fSlice (fVar 0) foNone (foSome (fIxC [("say", (.int 1)), ("write", (.int 2)), ("call", (.int 2)), ("end", (.int 1))] (fOp gIdx (fVar 0) (fC (.int 0)))))) (fTup (faCons (fVar 1) faNil)))) fNext)
    (fRet (fSlice (fVar 0) foNone (foSome (fUn gNeg (fC (.int 1)))))))
noncomputable def F_row_deed : Fn := runD .drop 2 B_row_deed
noncomputable def B_combine : FS :=
    (fSeq (fIfS (fTest (fOp (gEq false) (fVar 0) (fC (.str "+")))) (fRet (fOp (gI (fun _ j => decide (0 < j)) fun i j => i % j) (fOp gAdd (fVar 1) (fVar 2)) (fVar 3))) fNext)
    (fSeq (fIfS (fTest (fOp (gEq false) (fVar 0) (fC (.str "-")))) (fRet (fOp (gI (fun _ j => decide (0 < j)) fun i j => i % j) (fOp (gI0 fun i j => i - j) (fVar 1) (fVar 2)) (fVar 3))) fNext)
    (fRet (fOp (gI (fun _ j => decide (0 < j)) fun i j => i % j) (fOp (gI cMul fun i j => i * j) (fVar 1) (fVar 2)) (fVar 3)))))
noncomputable def F_combine : Fn := runD .drop 4 B_combine
noncomputable def F_value_of_n : Nat → Fn
  | 0 => fun _ _ => none
  | n + 1 => runD .drop 6 ((fSeq (fIfS (fTruth (fB gIsi (faCons (fVar 0) (faCons (fC (.glo (.ty "tuple"))) faNil)))) (fSeq (fAsg (fVar 0) (gTp 3 (gCons (gNm 3) (gCons (gNm 4) (gCons (gNm 5) gNil)))))
    (fRet (fCall 4 F_combine (faCons (fVar 3) (faCons (fCall 3 (F_value_of_n n) (faCons (fVar 4) (faCons (fVar 1) (faCons (fVar 2) faNil))) []) (faCons (fCall 3 (F_value_of_n n) (faCons (fVar 5) (faCons (fVar 1) (faCons (fVar 2) faNil))) []) (faCons (fVar 2) faNil)))) []))) fNext)
    (fSeq (fIfS (fTest (fOp (gEq false) (fVar 0) (fC (.str "x")))) (fRet (fOp gIdx (fVar 1) (fC (.int 1)))) fNext)
    (fSeq (fIfS (fTest (fOp (gEq false) (fVar 0) (fC (.str "y")))) (fRet (fOp gIdx (fVar 1) (fC (.int 2)))) fNext)
    (fRet (fVar 0))))))
noncomputable def F_value_of : Fn := F_value_of_n 2
noncomputable def B_told_expression : FS :=
    (fRet (fIf (fTest (fInC false [("say", (.int 1)), ("write", (.int 2)), ("call", (.int 2)), ("end", (.int 1))] (fOp gIdx (fVar 0) (fC (.int 0))))) (fOp gIdx (fVar 0) (fIxC [("say", (.int 1)), ("write", (.int 2)), ("call", (.int 2)), ("end", (.int 1))] (fOp gIdx (fVar 0) (fC (.int 0))))) (fC (.int 0))))
noncomputable def F_told_expression : Fn := runD .drop 1 B_told_expression
noncomputable def B_deed_at : FS :=
    (fSeq (fIfS (fTest (fOp (gEq false) (fVar 1) (fC (.tup [(.int (-1)), (.int 0), (.int 0)])))) (fRet (fTup (faCons (fC (.str "mute")) faNil))) fNext)
    (fSeq (fIfS (fTest (fOp (gEq false) (fOp gIdx (fVar 1) (fC (.int 0))) (fB gLen (faCons (fVar 0) faNil)))) (fRet (fTup (faCons (fC (.str "end")) (faCons (fC (.int 0)) faNil)))) fNext)
    (fSeq (fAsg (fOp gIdx (fVar 0) (fOp gIdx (fVar 1) (fC (.int 0)))) (gNm 3))
    (fRet (fCall 2 F_row_deed (faCons (fVar 3) (faCons (fCall 3 F_value_of (faCons (fCall 1 F_told_expression (faCons (fVar 3) faNil) []) (faCons (fVar 1) (faCons (fVar 2) faNil))) []) faNil)) [])))))
noncomputable def F_deed_at : Fn := runD .drop 4 B_deed_at
noncomputable def B_deed_of : FS :=
    (fSeq (fDrop (fCall 3 F_check_stand (faCons (fVar 0) (faCons (fVar 1) (faCons (fVar 2) faNil))) []))
    (fRet (fCall 3 F_deed_at (faCons (fVar 0) (faCons (fVar 1) (faCons (fVar 2) faNil))) [])))
noncomputable def F_deed_of : Fn := runD .drop 3 B_deed_of
noncomputable def B_branch_count : FS :=
    (fSeq (fIfS (fTest (fOp (gIn false) (fOp gIdx (fVar 0) (fC (.int 0))) (fC (.tup [(.str "ask"), (.str "read"), (.str "call")])))) (fRet (fVar 1)) fNext)
    (fSeq (fIfS (fTest (fOp (gIn false) (fOp gIdx (fVar 0) (fC (.int 0))) (fC (.tup [(.str "say"), (.str "write")])))) (fRet (fC (.int 1))) fNext)
    (fRet (fC (.int 0)))))
noncomputable def F_branch_count : Fn := runD .drop 2 B_branch_count
noncomputable def B__law_count : FS :=
    (fRet (fDispGet ["say", "write", "end", "mute"] (faCons (fC (.int 1)) (faCons (fC (.int 1)) (faCons (fC (.int 0)) (faCons (fC (.int 0)) faNil)))) (fOp gIdx (fCall 3 F__law_deed (faCons (fVar 0) (faCons (fVar 1) (faCons (fVar 2) faNil))) []) (fC (.int 0))) (fVar 2)))
noncomputable def F__law_count : Fn := runD .drop 3 B__law_count
noncomputable def L_law_1 : FS :=
    (fSeq (fAsg (fCall 3 F__law_deed (faCons (fVar 5) (faCons (fVar 6) (faCons (fVar 3) faNil))) []) (gNm 7))
    (fSeq (fAsg (fCallN 3 2 1 F_deed_of (fun as bs => as ++ bs) (faCons (fVar 5) (faCons (fVar 6) faNil)) (faCons (fVar 3) faNil)) (gNm 8))
    (fSeq (fIfS (fTest (fOp (gEq true) (fB gReprA (faCons (fVar 8) faNil)) (fB gReprA (faCons (fVar 7) faNil)))) (fRet (fC (.bl false))) fNext)
    (fSeq (fIfS (fTest (fOp (gEq true) (fB gReprA (faCons (fCallN 2 1 1 F_branch_count (fun as bs => as ++ bs) (faCons (fVar 8) faNil) (faCons (fVar 3) faNil)) faNil)) (fB gReprA (faCons (fCall 3 F__law_count (faCons (fVar 5) (faCons (fVar 6) (faCons (fVar 3) faNil))) []) faNil)))) (fRet (fC (.bl false))) fNext)
    (fSeq (fIfS (fAndT (fTest (fOp (gEq false) (fVar 3) (fC (.int 3)))) (fTest (fOp (gEq true) (fCall 3 F_deed_of (faCons (fVar 5) (faCons (fVar 6) faNil)) [.int 3]) (fVar 7)))) (fRet (fC (.bl false))) fNext)
    (fIfS (fAndT (fTest (fOp (gEq false) (fVar 3) (fC (.int 3)))) (fTest (fOp (gEq true) (fCall 2 F_branch_count (faCons (fVar 7) faNil) [.int 3]) (fCall 3 F__law_count (faCons (fVar 5) (faCons (fVar 6) (faCons (fC (.int 3)) faNil))) [])))) (fRet (fC (.bl false))) fNext))))))
noncomputable def L_law_2 : FS :=
    (fSeq (fAsg (fCall 2 F__law_bag (faCons (fVar 0) (faCons (fVar 1) faNil)) []) (gNm 2))
    (fSeq (fPar 3 4 (faCons (fOp gAdd (fC (.int 2)) (fCall 2 F__law_take (faCons (fVar 2) (faCons (fC (.int 3)) faNil)) [])) (faCons (fCall 1 F__law_names (faCons (fVar 2) faNil) []) faNil)))
    (fSeq (fAsg (fCall 4 F__law_text (faCons (fVar 2) (faCons (fVar 3) (faCons (fOp gIdx (fLst (faCons (fC (.int 3)) (faCons (fC (.int 8)) (faCons (fC (.int 16)) faNil)))) (fCall 2 F__law_take (faCons (fVar 2) (faCons (fC (.int 3)) faNil)) [])) (faCons (fVar 4) faNil)))) []) (gNm 5))
    (fFor (fIt (fOp gAdd (fCall 2 F__law_stands (faCons (fVar 5) (faCons (fVar 3) faNil)) []) (fLst (faCons (fC (.tup [(.int (-1)), (.int 0), (.int 0)])) faNil)))) (gNm 6) L_law_1))))
noncomputable def B_law : FS :=
    (fSeq (fFor (fRng1 (faCons (fB gMax2 (faCons (fC (.int 2)) (faCons (fB gMin2 (faCons (fC (.int 6)) (faCons (fB gLen (faCons (fVar 0) faNil)) faNil))) faNil))) faNil)) (gNm 1) L_law_2)
    (fRet (fC (.bl true))))
noncomputable def F_law : Fn := runD .drop 9 B_law
end J

set_option autoImplicit false
namespace J
open PySem PySem.Spec PyProof.Rows L2
def topS (i : Nat) : Stmt := PySem.Challenge.pw_callsover_k06_deeds_and_branches.main.body.getD i (.Pass ⟨0, 0, 0, 0⟩)
section
variable {P : Program} {w : World} {K : PySem.W.Frag} {mg : Str → Option Value} {base : Heap}
abbrev s__law_bag : Stmt := topS 22
theorem sc__law_bag : FnScope ["_law_script", "_law_at", "_law_cell", "_law_digits"] ["_law_script", "_law_at"] (defScope s__law_bag) := ⟨rfl, rfl, rfl, by decide +kernel, rfl, by decide +kernel, by decide +kernel⟩
theorem ok__law_bag (dn : DnF K mg "_law_bag" s__law_bag ["_law_script", "_law_at"]) (m_len : mg "len" = none) (m_abs : mg "abs" = none) : OkF P w K mg base "_law_bag" 2 F__law_bag 1 := by
  obtain ⟨f, fd, F, b, g⟩ := dn
  refine ⟨f, fd, _, g, F.kp, b, okJ (N := ["_law_script", "_law_at", "_law_cell", "_law_digits"]) (k := 0) F sc__law_bag fun cdv A outer s H E hr => ?_⟩
  have hu := hr.units
  exact (jss_cons (js_set (i := 2) sc__law_bag.nd rfl (by first | exact Or.inl rfl | exact Or.inr rfl) (je_ifExp (jt_cmpR op_lt ro_B0 (je_var 1) (je_callB call_lenJ rc_len (by rfl) m_len PySem.boot_len (ja_cons (je_var 0) ja_nil)) (nomark _)) (je_sx hu (je_var 0) (je_var 1)) je_int))
    (jss_cons (js_set (i := 3) sc__law_bag.nd rfl (by first | exact Or.inl rfl | exact Or.inr rfl) (je_ifExp (jt_cmpR op_ge ro_B0 (je_callB call_abs rc_abs (by rfl) m_abs (by decide +kernel) (ja_cons (je_var 2) ja_nil)) (je_pow je_int je_int) (nomark _)) (je_callB call_abs rc_abs (by rfl) m_abs (by decide +kernel) (ja_cons (je_var 2) ja_nil)) je_int))
    (jss_one (js_ret (je_lstN (ja_cons (je_var 3) (ja_cons (je_mod (je_mul (je_add (je_add (je_mod (je_var 2) je_int) (je_mul je_int (je_var 1))) je_int) je_int) je_int) (ja_cons je_int ja_nil))))))))
abbrev s__law_take : Stmt := topS 23
theorem sc__law_take : FnScope ["_law_bag_here", "_law_many", "_law_digit", "_law_mixed"] ["_law_bag_here", "_law_many"] (defScope s__law_take) := ⟨rfl, rfl, rfl, by decide +kernel, rfl, by decide +kernel, by decide +kernel⟩
theorem ok__law_take (dn : DnF K mg "_law_take" s__law_take ["_law_bag_here", "_law_many"])  : OkF P w K mg base "_law_take" 2 F__law_take 1 := by
  obtain ⟨f, fd, F, b, g⟩ := dn
  refine ⟨f, fd, _, g, F.kp, b, okJ (N := ["_law_bag_here", "_law_many", "_law_digit", "_law_mixed"]) (k := 0) F sc__law_take fun cdv A outer s H E hr => ?_⟩
  have hu := hr.units
  exact (jss_cons (js_if (jt_cmpR op_gt ro_B0 (je_sx hu (je_var 0) je_int) je_int (nomark _)) (jss_cons (js_set (i := 2) sc__law_take.nd rfl (by first | exact Or.inl rfl | exact Or.inr rfl) (je_mod (je_sx hu (je_var 0) je_int) (je_var 1)))
    (jss_cons (js_asg (je_fdiv (je_sx hu (je_var 0) je_int) (je_var 1)) (jg_sx hu (je_var 0) je_int))
    (jss_one (js_ret (je_var 2))))) jss_nil)
    (jss_cons (js_asg (je_add (je_sx hu (je_var 0) je_int) je_int) (jg_sx hu (je_var 0) je_int))
    (jss_cons (js_set (i := 3) sc__law_take.nd rfl (by first | exact Or.inl rfl | exact Or.inr rfl) (je_mod (je_pow (je_add (je_sx hu (je_var 0) je_int) (je_mul je_int (je_sx hu (je_var 0) je_int))) je_int) je_int))
    (jss_cons (js_set (i := 3) sc__law_take.nd rfl (by first | exact Or.inl rfl | exact Or.inr rfl) (je_mod (je_pow (je_add (je_var 3) (je_mul je_int (je_sx hu (je_var 0) je_int))) je_int) je_int))
    (jss_one (js_ret (je_mod (je_fdiv (je_var 3) je_int) (je_var 1))))))))
abbrev s__law_operand : Stmt := topS 25
theorem sc__law_operand : FnScope ["_law_bag_here", "_law_radix", "_law_number"] ["_law_bag_here", "_law_radix"] (defScope s__law_operand) := ⟨rfl, rfl, rfl, by decide +kernel, rfl, by decide +kernel, by decide +kernel⟩
theorem ok__law_operand (dn : DnF K mg "_law_operand" s__law_operand ["_law_bag_here", "_law_radix"]) (h__law_take : OkF P w K mg base "_law_take" 2 F__law_take 1) : OkF P w K mg base "_law_operand" 2 F__law_operand 2 := by
  obtain ⟨f, fd, F, b, g⟩ := dn
  refine ⟨f, fd, _, g, F.kp, b, okJ (N := ["_law_bag_here", "_law_radix", "_law_number"]) (k := 1) F sc__law_operand fun cdv A outer s H E hr => ?_⟩
  have hu := hr.units
  exact (jss_cons (js_set (i := 2) sc__law_operand.nd rfl (by first | exact Or.inl rfl | exact Or.inr rfl) (je_callF h__law_take hr (by rfl) (ja_cons (je_var 0) (ja_cons (je_var 1) ja_nil)) (by decide)))
    (jss_one (js_ret (je_sx hu (je_lst (ja_cons je_str (ja_cons je_str (ja_cons (je_var 2) ja_nil)))) (je_callF h__law_take hr (by rfl) (ja_cons (je_var 0) (ja_cons je_int ja_nil)) (by decide))))))
abbrev s__law_expression : Stmt := topS 26
theorem sc__law_expression : FnScope ["_law_bag_here", "_law_radix", "_law_left", "_law_right", "_law_sign"] ["_law_bag_here", "_law_radix"] (defScope s__law_expression) := ⟨rfl, rfl, rfl, by decide +kernel, rfl, by decide +kernel, by decide +kernel⟩
theorem ok__law_expression (dn : DnF K mg "_law_expression" s__law_expression ["_law_bag_here", "_law_radix"]) (h__law_operand : OkF P w K mg base "_law_operand" 2 F__law_operand 2) (h__law_take : OkF P w K mg base "_law_take" 2 F__law_take 1) : OkF P w K mg base "_law_expression" 2 F__law_expression 3 := by
  obtain ⟨f, fd, F, b, g⟩ := dn
  refine ⟨f, fd, _, g, F.kp, b, okJ (N := ["_law_bag_here", "_law_radix", "_law_left", "_law_right", "_law_sign"]) (k := 2) F sc__law_expression fun cdv A outer s H E hr => ?_⟩
  have hu := hr.units
  exact (jss_cons (js_par (i := 2) (j := 3) (by rfl) sc__law_expression.nd rfl rfl (by decide) rfl rfl (ja_cons (je_callF h__law_operand hr (by rfl) (ja_cons (je_var 0) (ja_cons (je_var 1) ja_nil)) (by decide)) (ja_cons (je_callF h__law_operand hr (by rfl) (ja_cons (je_var 0) (ja_cons (je_var 1) ja_nil)) (by decide)) ja_nil)) (by rfl))
    (jss_cons (js_set (i := 4) sc__law_expression.nd rfl (by first | exact Or.inl rfl | exact Or.inr rfl) (je_sx hu (je_lst (ja_cons je_str (ja_cons je_str (ja_cons je_str ja_nil)))) (je_callF h__law_take hr (by rfl) (ja_cons (je_var 0) (ja_cons je_int ja_nil)) (by decide))))
    (jss_one (js_ret (je_sx hu (je_lst (ja_cons (je_var 2) (ja_cons (je_var 2) (ja_cons (je_tup (ja_cons (je_var 4) (ja_cons (je_var 2) (ja_cons (je_var 3) ja_nil)))) ja_nil)))) (je_callF h__law_take hr (by rfl) (ja_cons (je_var 0) (ja_cons je_int ja_nil)) (by decide)))))))
abbrev s__law_row : Stmt := topS 27
theorem sc__law_row : FnScope ["_law_bag_here", "_law_radix", "_law_many", "_law_names_here", "_law_one", "_law_other", "_law_variable", "_law_name", "_law_goal", "_law_cell", "_law_some"] ["_law_bag_here", "_law_radix", "_law_many", "_law_names_here"] (defScope s__law_row) := ⟨rfl, rfl, rfl, by decide +kernel, rfl, by decide +kernel, by decide +kernel⟩
theorem ok__law_row (dn : DnF K mg "_law_row" s__law_row ["_law_bag_here", "_law_radix", "_law_many", "_law_names_here"]) (h__law_expression : OkF P w K mg base "_law_expression" 2 F__law_expression 3) (m_len : mg "len" = none) (h__law_take : OkF P w K mg base "_law_take" 2 F__law_take 1) : OkF P w K mg base "_law_row" 4 F__law_row 4 := by
  obtain ⟨f, fd, F, b, g⟩ := dn
  refine ⟨f, fd, _, g, F.kp, b, okJ (N := ["_law_bag_here", "_law_radix", "_law_many", "_law_names_here", "_law_one", "_law_other", "_law_variable", "_law_name", "_law_goal", "_law_cell", "_law_some"]) (k := 3) F sc__law_row fun cdv A outer s H E hr => ?_⟩
  have hu := hr.units
  exact (jss_cons (js_par (i := 4) (j := 5) (by rfl) sc__law_row.nd rfl rfl (by decide) rfl rfl (ja_cons (je_callF h__law_expression hr (by rfl) (ja_cons (je_var 0) (ja_cons (je_var 1) ja_nil)) (by decide)) (ja_cons (je_callF h__law_expression hr (by rfl) (ja_cons (je_var 0) (ja_cons (je_var 1) ja_nil)) (by decide)) ja_nil)) (by rfl))
    (jss_cons (js_par (i := 6) (j := 7) (by rfl) sc__law_row.nd rfl rfl (by decide) rfl rfl (ja_cons (je_sx hu (je_lst (ja_cons je_str (ja_cons je_str ja_nil))) (je_callF h__law_take hr (by rfl) (ja_cons (je_var 0) (ja_cons je_int ja_nil)) (by decide))) (ja_cons (je_sx hu (je_var 3) (je_callF h__law_take hr (by rfl) (ja_cons (je_var 0) (ja_cons (je_callB call_lenJ rc_len (by rfl) m_len PySem.boot_len (ja_cons (je_var 3) ja_nil)) ja_nil)) (by decide))) ja_nil)) (by rfl))
    (jss_cons (js_par (i := 8) (j := 9) (by rfl) sc__law_row.nd rfl rfl (by decide) rfl rfl (ja_cons (je_callF h__law_take hr (by rfl) (ja_cons (je_var 0) (ja_cons (je_add (je_var 2) je_int) ja_nil)) (by decide)) (ja_cons (je_callF h__law_take hr (by rfl) (ja_cons (je_var 0) (ja_cons je_int ja_nil)) (by decide)) ja_nil)) (by rfl))
    (jss_cons (js_set (i := 10) sc__law_row.nd rfl (by first | exact Or.inl rfl | exact Or.inr rfl) (je_lst (ja_cons (je_tup (ja_cons je_str (ja_cons (je_var 4) ja_nil))) (ja_cons (je_tup (ja_cons je_str (ja_cons (je_var 6) ja_nil))) (ja_cons (je_tup (ja_cons je_str (ja_cons (je_var 4) ja_nil))) (ja_cons (je_tup (ja_cons je_str (ja_cons (je_var 6) ja_nil))) (ja_cons (je_tup (ja_cons je_str (ja_cons (je_var 6) (ja_cons (je_var 4) ja_nil)))) ja_nil)))))))
    (jss_cons (js_set (i := 10) sc__law_row.nd rfl (by first | exact Or.inl rfl | exact Or.inr rfl) (je_add (je_var 10) (je_lst (ja_cons (je_tup (ja_cons je_str (ja_cons (je_var 4) (ja_cons (je_var 5) (ja_cons (je_var 8) ja_nil))))) (ja_cons (je_tup (ja_cons je_str (ja_cons (je_var 9) (ja_cons (je_var 6) ja_nil)))) (ja_cons (je_tup (ja_cons je_str (ja_cons (je_var 9) (ja_cons (je_var 4) ja_nil)))) (ja_cons (je_tup (ja_cons je_str (ja_cons (je_var 8) ja_nil))) ja_nil)))))))
    (jss_one (js_ret (je_sx hu (je_add (je_var 10) (je_lst (ja_cons (je_tup (ja_cons je_str (ja_cons (je_var 7) (ja_cons (je_var 4) (ja_cons (je_var 6) ja_nil))))) (ja_cons (je_tup (ja_cons je_str (ja_cons (je_var 4) ja_nil))) (ja_cons (je_tup (ja_cons je_str (ja_cons (je_var 4) (ja_cons (je_var 5) (ja_cons (je_var 8) ja_nil))))) ja_nil))))) (je_callF h__law_take hr (by rfl) (ja_cons (je_var 0) (ja_cons je_int ja_nil)) (by decide))))))))))
abbrev s__law_text : Stmt := topS 28
theorem sc__law_text : FnScope ["_law_bag_here", "_law_radix", "_law_most", "_law_names_here", "_law_many", "_law_k"] ["_law_bag_here", "_law_radix", "_law_most", "_law_names_here"] (defScope s__law_text) := ⟨rfl, rfl, rfl, by decide +kernel, rfl, by decide +kernel, by decide +kernel⟩
theorem ok__law_text (dn : DnF K mg "_law_text" s__law_text ["_law_bag_here", "_law_radix", "_law_most", "_law_names_here"]) (h__law_take : OkF P w K mg base "_law_take" 2 F__law_take 1) (m_tuple : mg "tuple" = none) (m_range : mg "range" = none) (h__law_row : OkF P w K mg base "_law_row" 4 F__law_row 4) : OkF P w K mg base "_law_text" 4 F__law_text 5 := by
  obtain ⟨f, fd, F, b, g⟩ := dn
  refine ⟨f, fd, _, g, F.kp, b, okJ (N := ["_law_bag_here", "_law_radix", "_law_most", "_law_names_here", "_law_many", "_law_k"]) (k := 4) F sc__law_text fun cdv A outer s H E hr => ?_⟩
  have hu := hr.units
  exact (jss_cons (js_set (i := 4) sc__law_text.nd rfl (by first | exact Or.inl rfl | exact Or.inr rfl) (je_callF h__law_take hr (by rfl) (ja_cons (je_var 0) (ja_cons (je_add (je_var 2) je_int) ja_nil)) (by decide)))
    (jss_one (js_ret (je_callTy call_tuple_of rc_tuple (by rfl) m_tuple (by decide +kernel) (ja_cons (je_lc (own := [("_law_k", 5)]) (by rfl) sc__law_text.nd (ji_range1 (by rfl) m_range (ja_cons (je_var 4) ja_nil)) (blkOk_by (N := ["_law_bag_here", "_law_radix", "_law_most", "_law_names_here", "_law_many", "_law_k"]) (sc := defScope s__law_text) (by decide +kernel)) (fun _ _ _ _ _ => (jg_name (i := 5) sc__law_text.nd rfl (by first | exact Or.inl rfl | exact Or.inr rfl))) (fun _ _ _ _ _ => jts_nil) (fun _ _ _ _ _ => (je_callF h__law_row hr (by rfl) (ja_cons (je_var 0) (ja_cons (je_var 1) (ja_cons (je_var 4) (ja_cons (je_var 3) ja_nil)))) (by decide)))) ja_nil)))))
abbrev s__law_names : Stmt := topS 24
theorem sc__law_names : FnScope ["_law_bag_here", "_law_letters", "_law_found", "_law_k", "_law_many", "_law_name", "_law_j"] ["_law_bag_here"] (defScope s__law_names) := ⟨rfl, rfl, rfl, by decide +kernel, rfl, by decide +kernel, by decide +kernel⟩
theorem ok__law_names (dn : DnF K mg "_law_names" s__law_names ["_law_bag_here"]) (h__law_take : OkF P w K mg base "_law_take" 2 F__law_take 1) (m_range : mg "range" = none) : OkF P w K mg base "_law_names" 1 F__law_names 2 := by
  obtain ⟨f, fd, F, b, g⟩ := dn
  refine ⟨f, fd, _, g, F.kp, b, okJ (N := ["_law_bag_here", "_law_letters", "_law_found", "_law_k", "_law_many", "_law_name", "_law_j"]) (k := 1) F sc__law_names fun cdv A outer s H E hr => ?_⟩
  have hu := hr.units
  exact (jss_cons (js_asg (je_tup (ja_cons je_str (ja_cons (je_lstN ja_nil) ja_nil))) (jg_tup (by rfl) (jgs_cons (jg_name (i := 1) sc__law_names.nd rfl (by first | exact Or.inl rfl | exact Or.inr rfl)) (jgs_cons (jg_name (i := 2) sc__law_names.nd rfl (by first | exact Or.inl rfl | exact Or.inr rfl)) jgs_nil))))
    (jss_cons (js_for PassesOwn.never rfl (ji_range1 (by rfl) m_range (ja_cons (je_add je_int (je_callF h__law_take hr (by rfl) (ja_cons (je_var 0) (ja_cons je_int ja_nil)) (by decide))) ja_nil)) (jg_name (i := 3) sc__law_names.nd rfl (by first | exact Or.inl rfl | exact Or.inr rfl)) (jss_cons (js_set (i := 4) sc__law_names.nd rfl (by first | exact Or.inl rfl | exact Or.inr rfl) (je_sx hu (je_lst (ja_cons je_int (ja_cons je_int (ja_cons je_int (ja_cons je_int (ja_cons je_int ja_nil)))))) (je_callF h__law_take hr (by rfl) (ja_cons (je_var 0) (ja_cons je_int ja_nil)) (by decide))))
    (jss_cons (js_set (i := 5) sc__law_names.nd rfl (by first | exact Or.inl rfl | exact Or.inr rfl) (je_bm PySem.F.plainAttrs_str PySem.F.slot_str_join PySem.F.type_str_join mt_join rm_join je_str (ja_cons (je_lc (own := [("_law_j", 6)]) (by rfl) sc__law_names.nd (ji_range1 (by rfl) m_range (ja_cons (je_var 4) ja_nil)) (blkOk_by (N := ["_law_bag_here", "_law_letters", "_law_found", "_law_k", "_law_many", "_law_name", "_law_j"]) (sc := defScope s__law_names) (by decide +kernel)) (fun _ _ _ _ _ => (jg_name (i := 6) sc__law_names.nd rfl (by first | exact Or.inl rfl | exact Or.inr rfl))) (fun _ _ _ _ _ => jts_nil) (fun _ _ _ _ _ => (je_sx hu (je_var 1) (je_callF h__law_take hr (by rfl) (ja_cons (je_var 0) (ja_cons je_int ja_nil)) (by decide))))) ja_nil)))
    (jss_one (js_if (jt_notIn hu (je_var 5) (je_var 2)) (jss_one (js_expr (je_bm PySem.F.plainAttrs_list PySem.F.slot_list_append PySem.F.type_list_append mt_append rm_app (je_var 2) (ja_cons (je_var 5) ja_nil)))) jss_nil)))))
    (jss_one (js_ret (je_var 2)))))
abbrev s__law_stands : Stmt := topS 32
theorem sc__law_stands : FnScope ["_law_rows", "_law_radix", "_law_found", "_law_at", "_law_k"] ["_law_rows", "_law_radix"] (defScope s__law_stands) := ⟨rfl, rfl, rfl, by decide +kernel, rfl, by decide +kernel, by decide +kernel⟩
theorem ok__law_stands (dn : DnF K mg "_law_stands" s__law_stands ["_law_rows", "_law_radix"]) (m_len : mg "len" = none) (m_range : mg "range" = none) : OkF P w K mg base "_law_stands" 2 F__law_stands 1 := by
  obtain ⟨f, fd, F, b, g⟩ := dn
  refine ⟨f, fd, _, g, F.kp, b, okJ (N := ["_law_rows", "_law_radix", "_law_found", "_law_at", "_law_k"]) (k := 0) F sc__law_stands fun cdv A outer s H E hr => ?_⟩
  have hu := hr.units
  exact (jss_cons (js_set (i := 2) sc__law_stands.nd rfl (by first | exact Or.inl rfl | exact Or.inr rfl) (je_lstN ja_nil))
    (jss_cons (js_for PassesOwn.never rfl (ji_range1 (by rfl) m_range (ja_cons (je_add (je_callB call_lenJ rc_len (by rfl) m_len PySem.boot_len (ja_cons (je_var 0) ja_nil)) je_int) ja_nil)) (jg_name (i := 3) sc__law_stands.nd rfl (by first | exact Or.inl rfl | exact Or.inr rfl)) (jss_one (js_if (JW.jt (jw_or (jt_cmpR (op_eqJ hu) ro_eqJ (je_var 3) (je_callB call_lenJ rc_len (by rfl) m_len PySem.boot_len (ja_cons (je_var 0) ja_nil)) (nomark _)) (jw_or1 (jt_notIn hu (je_sx hu (je_sx hu (je_var 0) (je_var 3)) je_int) (je_tup (ja_cons je_str (ja_cons je_str (ja_cons je_str ja_nil)))))))) (jss_one (js_expr (je_bm PySem.F.plainAttrs_list PySem.F.slot_list_extend PySem.F.type_list_extend mt_extend rm_ext (je_var 2) (ja_cons (je_lc (own := [("_law_k", 4)]) (by rfl) sc__law_stands.nd (ji_range1 (by rfl) m_range (ja_cons (je_mul (je_var 1) (je_var 1)) ja_nil)) (blkOk_by (N := ["_law_rows", "_law_radix", "_law_found", "_law_at", "_law_k"]) (sc := defScope s__law_stands) (by decide +kernel)) (fun _ _ _ _ _ => (jg_name (i := 4) sc__law_stands.nd rfl (by first | exact Or.inl rfl | exact Or.inr rfl))) (fun _ _ _ _ _ => jts_nil) (fun _ _ _ _ _ => (je_tup (ja_cons (je_var 3) (ja_cons (je_fdiv (je_var 4) (je_var 1)) (ja_cons (je_mod (je_var 4) (je_var 1)) ja_nil)))))) ja_nil)))) jss_nil)))
    (jss_one (js_ret (je_var 2)))))
abbrev s__law_value : Stmt := topS 29
theorem sc__law_value : FnScope ["_law_one", "_law_x", "_law_y", "_law_radix", "_law_left", "_law_right"] ["_law_one", "_law_x", "_law_y", "_law_radix"] (defScope s__law_value) := ⟨rfl, rfl, rfl, by decide +kernel, rfl, by decide +kernel, by decide +kernel⟩
theorem ok__law_value (dn : DnF K mg "_law_value" s__law_value ["_law_one", "_law_x", "_law_y", "_law_radix"]) (m_isinstance : mg "isinstance" = none) (m_str : mg "str" = none) (m_tuple : mg "tuple" = none) : OkF P w K mg base "_law_value" 4 F__law_value 3 := by
  obtain ⟨f, fd, F, b, g⟩ := dn
  have all : ∀ n, FnOk P w K mg base CX0 (1 + n) f fd ["_law_one", "_law_x", "_law_y", "_law_radix"] (spJ P w K 4 (F__law_value_n n)) := by
    intro n
    induction n with
    | zero => exact okF_none
    | succ n ih0 =>
      refine okJ (N := ["_law_one", "_law_x", "_law_y", "_law_radix", "_law_left", "_law_right"]) (k := 1 + n) F sc__law_value fun cdv A outer s H E hr => ?_
      have hu := hr.units
      have ih : OkF P w K mg base "_law_value" 4 (F__law_value_n n) (1 + n) := ⟨f, fd, _, g, F.kp, b, ih0⟩
      exact (jss_cons (js_if (jt_truth (je_callB call_isi rc_isi (by rfl) m_isinstance (by decide +kernel) (ja_cons (je_var 0) (ja_cons (je_bltn (v := .ty "str") (by rfl) m_str (by decide +kernel) rfl) ja_nil)))) (jss_one (js_ret (je_ifExp (jt_cmpR (op_eqJ hu) ro_eqJ (je_var 0) je_str (nomark _)) (je_var 1) (je_var 2)))) jss_nil)
    (jss_cons (js_if (jt_not (jt_truth (je_callB call_isi rc_isi (by rfl) m_isinstance (by decide +kernel) (ja_cons (je_var 0) (ja_cons (je_bltn (v := .ty "tuple") (by rfl) m_tuple (by decide +kernel) rfl) ja_nil))))) (jss_one (js_ret (je_var 0))) jss_nil)
    (jss_cons (js_par (i := 4) (j := 5) (by rfl) sc__law_value.nd rfl rfl (by decide) rfl rfl (ja_cons (je_callF ih hr (by rfl) (ja_cons (je_sx hu (je_var 0) je_int) (ja_cons (je_var 1) (ja_cons (je_var 2) (ja_cons (je_var 3) ja_nil)))) (by omega)) (ja_cons (je_callF ih hr (by rfl) (ja_cons (je_sx hu (je_var 0) je_int) (ja_cons (je_var 1) (ja_cons (je_var 2) (ja_cons (je_var 3) ja_nil)))) (by omega)) ja_nil)) (by rfl))
    (jss_one (js_ret (je_mod (je_dispIx hu (jps_cons (je_add (je_var 4) (je_var 5)) (jps_cons (je_sub (je_var 4) (je_var 5)) (jps_cons (je_mul (je_var 4) (je_var 5)) jps_nil))) (je_sx hu (je_var 0) je_int)) (je_var 3)))))))
  exact ⟨f, fd, _, g, F.kp, b, all 2⟩
abbrev s__law_deed : Stmt := topS 30
theorem sc__law_deed : FnScope ["_law_rows", "_law_stand", "_law_radix", "_law_at", "_law_x", "_law_y", "_law_row_here"] ["_law_rows", "_law_stand", "_law_radix"] (defScope s__law_deed) := ⟨rfl, rfl, rfl, by decide +kernel, rfl, by decide +kernel, by decide +kernel⟩
theorem ok__law_deed (dn : DnF K mg "_law_deed" s__law_deed ["_law_rows", "_law_stand", "_law_radix"]) (m_len : mg "len" = none) (h__law_value : OkF P w K mg base "_law_value" 4 F__law_value 3) : OkF P w K mg base "_law_deed" 3 F__law_deed 4 := by
  obtain ⟨f, fd, F, b, g⟩ := dn
  refine ⟨f, fd, _, g, F.kp, b, okJ (N := ["_law_rows", "_law_stand", "_law_radix", "_law_at", "_law_x", "_law_y", "_law_row_here"]) (k := 3) F sc__law_deed fun cdv A outer s H E hr => ?_⟩
  have hu := hr.units
  exact (jss_cons (js_asg (je_var 1) (jg_tup (by rfl) (jgs_cons (jg_name (i := 3) sc__law_deed.nd rfl (by first | exact Or.inl rfl | exact Or.inr rfl)) (jgs_cons (jg_name (i := 4) sc__law_deed.nd rfl (by first | exact Or.inl rfl | exact Or.inr rfl)) (jgs_cons (jg_name (i := 5) sc__law_deed.nd rfl (by first | exact Or.inl rfl | exact Or.inr rfl)) jgs_nil)))))
    (jss_cons (js_if (JW.jt (jw_or (jt_cmpR (op_eqJ hu) ro_eqJ (je_var 3) (je_neg je_int) (nomark _)) (jw_or1 (jt_cmpR (op_eqJ hu) ro_eqJ (je_var 3) (je_callB call_lenJ rc_len (by rfl) m_len PySem.boot_len (ja_cons (je_var 0) ja_nil)) (nomark _))))) (jss_one (js_ret (je_ifExp (jt_cmpR (op_eqJ hu) ro_eqJ (je_var 3) (je_neg je_int) (nomark _)) (je_tup (ja_cons je_str ja_nil)) (je_tup (ja_cons je_str (ja_cons je_int ja_nil)))))) jss_nil)
    (jss_cons (js_set (i := 6) sc__law_deed.nd rfl (by first | exact Or.inl rfl | exact Or.inr rfl) (je_sx hu (je_var 0) (je_var 3)))
    (jss_cons (js_if (jt_in hu (je_sx hu (je_var 6) je_int) (je_tup (ja_cons je_str (ja_cons je_str ja_nil)))) (jss_one (js_ret (je_slice (je_var 6) jo_none (jo_some (je_neg je_int))))) jss_nil)
    (jss_cons (js_if (jt_in hu (je_sx hu (je_var 6) je_int) (je_tup (ja_cons je_str (ja_cons je_str ja_nil)))) (jss_one (js_ret (je_tup (ja_cons (je_sx hu (je_var 6) je_int) (ja_cons (je_sx hu (je_var 6) je_int) (ja_cons (je_callF h__law_value hr (by rfl) (ja_cons (je_sx hu (je_var 6) je_int) (ja_cons (je_var 4) (ja_cons (je_var 5) (ja_cons (je_var 2) ja_nil)))) (by decide)) ja_nil)))))) jss_nil)
    (jss_one (js_ret (je_tup (ja_cons (je_sx hu (je_var 6) je_int) (ja_cons (je_callF h__law_value hr (by rfl) (ja_cons (je_sx hu (je_var 6) je_int) (ja_cons (je_var 4) (ja_cons (je_var 5) (ja_cons (je_var 2) ja_nil)))) (by decide)) ja_nil))))))))))
abbrev s_is_silent : Stmt := topS 13
theorem sc_is_silent : FnScope ["text", "row"] ["text", "row"] (defScope s_is_silent) := ⟨rfl, rfl, rfl, by decide +kernel, rfl, by decide +kernel, by decide +kernel⟩
theorem ok_is_silent (dn : DnF K mg "is_silent" s_is_silent ["text", "row"]) (m_len : mg "len" = none) (c_SILENT : OkC K mg "SILENT" (.tup [(.str "set"), (.str "if"), (.str "go")])) : OkF P w K mg base "is_silent" 2 F_is_silent 1 := by
  obtain ⟨f, fd, F, b, g⟩ := dn
  refine ⟨f, fd, _, g, F.kp, b, okJ (N := ["text", "row"]) (k := 0) F sc_is_silent fun cdv A outer s H E hr => ?_⟩
  have hu := hr.units
  exact (jss_one (js_ret (je_and (je_cmpR op_lt ro_B0 (je_var 1) (je_callB call_lenJ rc_len (by rfl) m_len PySem.boot_len (ja_cons (je_var 0) ja_nil)) (nomark _)) (je_one (je_in hu (je_sx hu (je_sx hu (je_var 0) (je_var 1)) je_int) (je_globC c_SILENT (by rfl)))))))
abbrev s_is_integer : Stmt := topS 1
theorem sc_is_integer : FnScope ["thing"] ["thing"] (defScope s_is_integer) := ⟨rfl, rfl, rfl, by decide +kernel, rfl, by decide +kernel, by decide +kernel⟩
theorem ok_is_integer (dn : DnF K mg "is_integer" s_is_integer ["thing"]) (m_isinstance : mg "isinstance" = none) (m_int : mg "int" = none) (m_bool : mg "bool" = none) : OkF P w K mg base "is_integer" 1 F_is_integer 1 := by
  obtain ⟨f, fd, F, b, g⟩ := dn
  refine ⟨f, fd, _, g, F.kp, b, okJ (N := ["thing"]) (k := 0) F sc_is_integer fun cdv A outer s H E hr => ?_⟩
  have hu := hr.units
  exact (jss_one (js_ret (je_and (je_callB call_isi rc_isi (by rfl) m_isinstance (by decide +kernel) (ja_cons (je_var 0) (ja_cons (je_bltn (v := .ty "int") (by rfl) m_int (by decide +kernel) rfl) ja_nil))) (je_one (je_not (je_callB call_isi rc_isi (by rfl) m_isinstance (by decide +kernel) (ja_cons (je_var 0) (ja_cons (je_bltn (v := .ty "bool") (by rfl) m_bool (by decide +kernel) rfl) ja_nil))))))))
abbrev s_is_below : Stmt := topS 2
theorem sc_is_below : FnScope ["thing", "top"] ["thing", "top"] (defScope s_is_below) := ⟨rfl, rfl, rfl, by decide +kernel, rfl, by decide +kernel, by decide +kernel⟩
theorem ok_is_below (dn : DnF K mg "is_below" s_is_below ["thing", "top"]) (h_is_integer : OkF P w K mg base "is_integer" 1 F_is_integer 1) : OkF P w K mg base "is_below" 2 F_is_below 2 := by
  obtain ⟨f, fd, F, b, g⟩ := dn
  refine ⟨f, fd, _, g, F.kp, b, okJ (N := ["thing", "top"]) (k := 1) F sc_is_below fun cdv A outer s H E hr => ?_⟩
  have hu := hr.units
  exact (jss_one (js_ret (je_and (je_callF h_is_integer hr (by rfl) (ja_cons (je_var 0) ja_nil) (by decide)) (je_one (je_chain op_le op_lt ro_B0 ro_B0 je_int (je_var 0) (je_var 1))))))
abbrev s_is_stand : Stmt := topS 14
theorem sc_is_stand : FnScope ["text", "thing", "base", "row", "x", "y", "part"] ["text", "thing", "base"] (defScope s_is_stand) := ⟨rfl, rfl, rfl, by decide +kernel, rfl, by decide +kernel, by decide +kernel⟩
theorem ok_is_stand (dn : DnF K mg "is_stand" s_is_stand ["text", "thing", "base"]) (m_isinstance : mg "isinstance" = none) (m_tuple : mg "tuple" = none) (m_len : mg "len" = none) (m_all : mg "all" = none) (h_is_integer : OkF P w K mg base "is_integer" 1 F_is_integer 1) (c_MUTE : OkC K mg "MUTE" (.tup [(.int (-1)), (.int 0), (.int 0)])) (h_is_below : OkF P w K mg base "is_below" 2 F_is_below 2) (h_is_silent : OkF P w K mg base "is_silent" 2 F_is_silent 1) : OkF P w K mg base "is_stand" 3 F_is_stand 3 := by
  obtain ⟨f, fd, F, b, g⟩ := dn
  refine ⟨f, fd, _, g, F.kp, b, okJ (N := ["text", "thing", "base", "row", "x", "y", "part"]) (k := 2) F sc_is_stand fun cdv A outer s H E hr => ?_⟩
  have hu := hr.units
  exact (jss_cons (js_if (JW.jt (jw_or (jt_not (jt_truth (je_callB call_isi rc_isi (by rfl) m_isinstance (by decide +kernel) (ja_cons (je_var 1) (ja_cons (je_bltn (v := .ty "tuple") (by rfl) m_tuple (by decide +kernel) rfl) ja_nil))))) (jw_or1 (jt_cmpR (op_neJ hu) ro_neJ (je_callB call_lenJ rc_len (by rfl) m_len PySem.boot_len (ja_cons (je_var 1) ja_nil)) je_int (nomark _))))) (jss_one (js_ret je_bl)) jss_nil)
    (jss_cons (js_if (jt_not (jt_truth (je_callB (cr_all rfl) rc_all (by rfl) m_all (by decide +kernel) (ja_cons (je_lc (own := [("part", 6)]) (by rfl) sc_is_stand.nd (ji_seq (je_var 1)) (blkOk_by (N := ["text", "thing", "base", "row", "x", "y", "part"]) (sc := defScope s_is_stand) (by decide +kernel)) (fun _ _ _ _ _ => (jg_name (i := 6) sc_is_stand.nd rfl (by first | exact Or.inl rfl | exact Or.inr rfl))) (fun _ _ _ _ _ => jts_nil) (fun _ _ _ _ _ => (je_callF h_is_integer hr (by rfl) (ja_cons (je_var 6) ja_nil) (by decide)))) ja_nil)))) (jss_one (js_ret je_bl)) jss_nil)
    (jss_cons (js_if (jt_cmpR (op_eqJ hu) ro_eqJ (je_var 1) (je_globC c_MUTE (by rfl)) (nomark _)) (jss_one (js_ret je_bl)) jss_nil)
    (jss_cons (js_asg (je_var 1) (jg_tup (by rfl) (jgs_cons (jg_name (i := 3) sc_is_stand.nd rfl (by first | exact Or.inl rfl | exact Or.inr rfl)) (jgs_cons (jg_name (i := 4) sc_is_stand.nd rfl (by first | exact Or.inl rfl | exact Or.inr rfl)) (jgs_cons (jg_name (i := 5) sc_is_stand.nd rfl (by first | exact Or.inl rfl | exact Or.inr rfl)) jgs_nil)))))
    (jss_cons (js_if (JW.jt (jw_or (jt_not (jt_truth (je_callF h_is_below hr (by rfl) (ja_cons (je_var 3) (ja_cons (je_add (je_callB call_lenJ rc_len (by rfl) m_len PySem.boot_len (ja_cons (je_var 0) ja_nil)) je_int) ja_nil)) (by decide)))) (jw_or1 (jt_truth (je_callF h_is_silent hr (by rfl) (ja_cons (je_var 0) (ja_cons (je_var 3) ja_nil)) (by decide)))))) (jss_one (js_ret je_bl)) jss_nil)
    (jss_one (js_ret (je_and (je_callF h_is_below hr (by rfl) (ja_cons (je_var 4) (ja_cons (je_var 2) ja_nil)) (by decide)) (je_one (je_callF h_is_below hr (by rfl) (ja_cons (je_var 5) (ja_cons (je_var 2) ja_nil)) (by decide)))))))))))
abbrev s_check_stand : Stmt := topS 15
theorem sc_check_stand : FnScope ["text", "thing", "base"] ["text", "thing", "base"] (defScope s_check_stand) := ⟨rfl, rfl, rfl, by decide +kernel, rfl, by decide +kernel, by decide +kernel⟩
theorem ok_check_stand (dn : DnF K mg "check_stand" s_check_stand ["text", "thing", "base"]) (h_is_stand : OkF P w K mg base "is_stand" 3 F_is_stand 3) : OkF P w K mg base "check_stand" 3 F_check_stand 4 := by
  obtain ⟨f, fd, F, b, g⟩ := dn
  refine ⟨f, fd, _, g, F.kp, b, okJ (N := ["text", "thing", "base"]) (k := 3) F sc_check_stand fun cdv A outer s H E hr => ?_⟩
  have hu := hr.units
  exact (jss_one (js_if (jt_not (jt_truth (je_callF h_is_stand hr (by rfl) (ja_cons (je_var 0) (ja_cons (je_var 1) (ja_cons (je_var 2) ja_nil))) (by decide)))) (jss_one js_never) jss_nil))
abbrev s_row_deed : Stmt := topS 17
theorem sc_row_deed : FnScope ["line", "value"] ["line", "value"] (defScope s_row_deed) := ⟨rfl, rfl, rfl, by decide +kernel, rfl, by decide +kernel, by decide +kernel⟩
theorem ok_row_deed (dn : DnF K mg "row_deed" s_row_deed ["line", "value"]) (d_TOLD_AT : OkD K w mg "TOLD_AT" [("say", (.int 1)), ("write", (.int 2)), ("call", (.int 2)), ("end", (.int 1))]) : OkF P w K mg base "row_deed" 2 F_row_deed 1 := by
  obtain ⟨f, fd, F, b, g⟩ := dn
  refine ⟨f, fd, _, g, F.kp, b, okJ (N := ["line", "value"]) (k := 0) F sc_row_deed fun cdv A outer s H E hr => ?_⟩
  have hu := hr.units
  exact (jss_cons (js_if (jt_inC d_TOLD_AT (by rfl) (je_sx hu (je_var 0) je_int)) (jss_one (js_ret (je_add (je_slice (je_var 0) jo_none (jo_some (je_ixC d_TOLD_AT (by rfl) (je_sx hu (je_var 0) je_int)))) (je_tup (ja_cons (je_var 1) ja_nil))))) jss_nil)
    (jss_one (js_ret (je_slice (je_var 0) jo_none (jo_some (je_neg je_int))))))
abbrev s_combine : Stmt := topS 11
theorem sc_combine : FnScope ["sign", "one", "other", "base"] ["sign", "one", "other", "base"] (defScope s_combine) := ⟨rfl, rfl, rfl, by decide +kernel, rfl, by decide +kernel, by decide +kernel⟩
theorem ok_combine (dn : DnF K mg "combine" s_combine ["sign", "one", "other", "base"])  : OkF P w K mg base "combine" 4 F_combine 1 := by
  obtain ⟨f, fd, F, b, g⟩ := dn
  refine ⟨f, fd, _, g, F.kp, b, okJ (N := ["sign", "one", "other", "base"]) (k := 0) F sc_combine fun cdv A outer s H E hr => ?_⟩
  have hu := hr.units
  exact (jss_cons (js_if (jt_cmpR (op_eqJ hu) ro_eqJ (je_var 0) je_str (nomark _)) (jss_one (js_ret (je_mod (je_add (je_var 1) (je_var 2)) (je_var 3)))) jss_nil)
    (jss_cons (js_if (jt_cmpR (op_eqJ hu) ro_eqJ (je_var 0) je_str (nomark _)) (jss_one (js_ret (je_mod (je_sub (je_var 1) (je_var 2)) (je_var 3)))) jss_nil)
    (jss_one (js_ret (je_mod (je_mul (je_var 1) (je_var 2)) (je_var 3))))))
abbrev s_value_of : Stmt := topS 12
theorem sc_value_of : FnScope ["expression", "point", "base", "sign", "left", "right"] ["expression", "point", "base"] (defScope s_value_of) := ⟨rfl, rfl, rfl, by decide +kernel, rfl, by decide +kernel, by decide +kernel⟩
theorem ok_value_of (dn : DnF K mg "value_of" s_value_of ["expression", "point", "base"]) (m_isinstance : mg "isinstance" = none) (m_tuple : mg "tuple" = none) (h_combine : OkF P w K mg base "combine" 4 F_combine 1) : OkF P w K mg base "value_of" 3 F_value_of 4 := by
  obtain ⟨f, fd, F, b, g⟩ := dn
  have all : ∀ n, FnOk P w K mg base CX0 (2 + n) f fd ["expression", "point", "base"] (spJ P w K 3 (F_value_of_n n)) := by
    intro n
    induction n with
    | zero => exact okF_none
    | succ n ih0 =>
      refine okJ (N := ["expression", "point", "base", "sign", "left", "right"]) (k := 2 + n) F sc_value_of fun cdv A outer s H E hr => ?_
      have hu := hr.units
      have ih : OkF P w K mg base "value_of" 3 (F_value_of_n n) (2 + n) := ⟨f, fd, _, g, F.kp, b, ih0⟩
      exact (jss_cons (js_if (jt_truth (je_callB call_isi rc_isi (by rfl) m_isinstance (by decide +kernel) (ja_cons (je_var 0) (ja_cons (je_bltn (v := .ty "tuple") (by rfl) m_tuple (by decide +kernel) rfl) ja_nil)))) (jss_cons (js_asg (je_var 0) (jg_tup (by rfl) (jgs_cons (jg_name (i := 3) sc_value_of.nd rfl (by first | exact Or.inl rfl | exact Or.inr rfl)) (jgs_cons (jg_name (i := 4) sc_value_of.nd rfl (by first | exact Or.inl rfl | exact Or.inr rfl)) (jgs_cons (jg_name (i := 5) sc_value_of.nd rfl (by first | exact Or.inl rfl | exact Or.inr rfl)) jgs_nil)))))
    (jss_one (js_ret (je_callF h_combine hr (by rfl) (ja_cons (je_var 3) (ja_cons (je_callF ih hr (by rfl) (ja_cons (je_var 4) (ja_cons (je_var 1) (ja_cons (je_var 2) ja_nil))) (by omega)) (ja_cons (je_callF ih hr (by rfl) (ja_cons (je_var 5) (ja_cons (je_var 1) (ja_cons (je_var 2) ja_nil))) (by omega)) (ja_cons (je_var 2) ja_nil)))) (by omega))))) jss_nil)
    (jss_cons (js_if (jt_cmpR (op_eqJ hu) ro_eqJ (je_var 0) je_str (nomark _)) (jss_one (js_ret (je_sx hu (je_var 1) je_int))) jss_nil)
    (jss_cons (js_if (jt_cmpR (op_eqJ hu) ro_eqJ (je_var 0) je_str (nomark _)) (jss_one (js_ret (je_sx hu (je_var 1) je_int))) jss_nil)
    (jss_one (js_ret (je_var 0))))))
  exact ⟨f, fd, _, g, F.kp, b, all 2⟩
abbrev s_told_expression : Stmt := topS 16
theorem sc_told_expression : FnScope ["line"] ["line"] (defScope s_told_expression) := ⟨rfl, rfl, rfl, by decide +kernel, rfl, by decide +kernel, by decide +kernel⟩
theorem ok_told_expression (dn : DnF K mg "told_expression" s_told_expression ["line"]) (d_TOLD_AT : OkD K w mg "TOLD_AT" [("say", (.int 1)), ("write", (.int 2)), ("call", (.int 2)), ("end", (.int 1))]) : OkF P w K mg base "told_expression" 1 F_told_expression 1 := by
  obtain ⟨f, fd, F, b, g⟩ := dn
  refine ⟨f, fd, _, g, F.kp, b, okJ (N := ["line"]) (k := 0) F sc_told_expression fun cdv A outer s H E hr => ?_⟩
  have hu := hr.units
  exact (jss_one (js_ret (je_ifExp (jt_inC d_TOLD_AT (by rfl) (je_sx hu (je_var 0) je_int)) (je_sx hu (je_var 0) (je_ixC d_TOLD_AT (by rfl) (je_sx hu (je_var 0) je_int))) je_int)))
abbrev s_deed_at : Stmt := topS 18
theorem sc_deed_at : FnScope ["text", "stand", "base", "line"] ["text", "stand", "base"] (defScope s_deed_at) := ⟨rfl, rfl, rfl, by decide +kernel, rfl, by decide +kernel, by decide +kernel⟩
theorem ok_deed_at (dn : DnF K mg "deed_at" s_deed_at ["text", "stand", "base"]) (c_MUTE : OkC K mg "MUTE" (.tup [(.int (-1)), (.int 0), (.int 0)])) (m_len : mg "len" = none) (h_told_expression : OkF P w K mg base "told_expression" 1 F_told_expression 1) (h_value_of : OkF P w K mg base "value_of" 3 F_value_of 4) (h_row_deed : OkF P w K mg base "row_deed" 2 F_row_deed 1) : OkF P w K mg base "deed_at" 3 F_deed_at 5 := by
  obtain ⟨f, fd, F, b, g⟩ := dn
  refine ⟨f, fd, _, g, F.kp, b, okJ (N := ["text", "stand", "base", "line"]) (k := 4) F sc_deed_at fun cdv A outer s H E hr => ?_⟩
  have hu := hr.units
  exact (jss_cons (js_if (jt_cmpR (op_eqJ hu) ro_eqJ (je_var 1) (je_globC c_MUTE (by rfl)) (nomark _)) (jss_one (js_ret (je_tup (ja_cons je_str ja_nil)))) jss_nil)
    (jss_cons (js_if (jt_cmpR (op_eqJ hu) ro_eqJ (je_sx hu (je_var 1) je_int) (je_callB call_lenJ rc_len (by rfl) m_len PySem.boot_len (ja_cons (je_var 0) ja_nil)) (nomark _)) (jss_one (js_ret (je_tup (ja_cons je_str (ja_cons je_int ja_nil))))) jss_nil)
    (jss_cons (js_set (i := 3) sc_deed_at.nd rfl (by first | exact Or.inl rfl | exact Or.inr rfl) (je_sx hu (je_var 0) (je_sx hu (je_var 1) je_int)))
    (jss_one (js_ret (je_callF h_row_deed hr (by rfl) (ja_cons (je_var 3) (ja_cons (je_callF h_value_of hr (by rfl) (ja_cons (je_callF h_told_expression hr (by rfl) (ja_cons (je_var 3) ja_nil) (by decide)) (ja_cons (je_var 1) (ja_cons (je_var 2) ja_nil))) (by decide)) ja_nil)) (by decide)))))))
abbrev s_deed_of : Stmt := topS 19
theorem sc_deed_of : FnScope ["text", "stand", "base"] ["text", "stand", "base"] (defScope s_deed_of) := ⟨rfl, rfl, rfl, by decide +kernel, rfl, by decide +kernel, by decide +kernel⟩
theorem ok_deed_of (dn : DnK K mg "deed_of" s_deed_of ["text", "stand", "base"] 2) (h_check_stand : OkF P w K mg base "check_stand" 3 F_check_stand 4) (h_deed_at : OkF P w K mg base "deed_at" 3 F_deed_at 5) : OkK P w K mg base "deed_of" 2 3 F_deed_of 6 := by
  obtain ⟨f, fd, F, kb, bd, g⟩ := dn
  refine ⟨f, fd, _, g, F.kp, kb, bd, okJ (N := ["text", "stand", "base"]) (k := 5) F sc_deed_of fun cdv A outer s H E hr => ?_⟩
  have hu := hr.units
  exact (jss_cons (js_expr (je_callF h_check_stand hr (by rfl) (ja_cons (je_var 0) (ja_cons (je_var 1) (ja_cons (je_var 2) ja_nil))) (by decide)))
    (jss_one (js_ret (je_callF h_deed_at hr (by rfl) (ja_cons (je_var 0) (ja_cons (je_var 1) (ja_cons (je_var 2) ja_nil))) (by decide)))))
abbrev s_branch_count : Stmt := topS 20
theorem sc_branch_count : FnScope ["deed", "base"] ["deed", "base"] (defScope s_branch_count) := ⟨rfl, rfl, rfl, by decide +kernel, rfl, by decide +kernel, by decide +kernel⟩
theorem ok_branch_count (dn : DnK K mg "branch_count" s_branch_count ["deed", "base"] 1) (c_RECEIVING : OkC K mg "RECEIVING" (.tup [(.str "ask"), (.str "read"), (.str "call")])) (c_PASSING : OkC K mg "PASSING" (.tup [(.str "say"), (.str "write")])) : OkK P w K mg base "branch_count" 1 2 F_branch_count 1 := by
  obtain ⟨f, fd, F, kb, bd, g⟩ := dn
  refine ⟨f, fd, _, g, F.kp, kb, bd, okJ (N := ["deed", "base"]) (k := 0) F sc_branch_count fun cdv A outer s H E hr => ?_⟩
  have hu := hr.units
  exact (jss_cons (js_if (jt_in hu (je_sx hu (je_var 0) je_int) (je_globC c_RECEIVING (by rfl))) (jss_one (js_ret (je_var 1))) jss_nil)
    (jss_cons (js_if (jt_in hu (je_sx hu (je_var 0) je_int) (je_globC c_PASSING (by rfl))) (jss_one (js_ret je_int)) jss_nil)
    (jss_one (js_ret je_int))))
abbrev s__law_count : Stmt := topS 31
theorem sc__law_count : FnScope ["_law_rows", "_law_stand", "_law_radix"] ["_law_rows", "_law_stand", "_law_radix"] (defScope s__law_count) := ⟨rfl, rfl, rfl, by decide +kernel, rfl, by decide +kernel, by decide +kernel⟩
theorem ok__law_count (dn : DnF K mg "_law_count" s__law_count ["_law_rows", "_law_stand", "_law_radix"]) (h__law_deed : OkF P w K mg base "_law_deed" 3 F__law_deed 4) : OkF P w K mg base "_law_count" 3 F__law_count 5 := by
  obtain ⟨f, fd, F, b, g⟩ := dn
  refine ⟨f, fd, _, g, F.kp, b, okJ (N := ["_law_rows", "_law_stand", "_law_radix"]) (k := 4) F sc__law_count fun cdv A outer s H E hr => ?_⟩
  have hu := hr.units
  exact (jss_one (js_ret (je_dispGet hu (jps_cons je_int (jps_cons je_int (jps_cons je_int (jps_cons je_int jps_nil)))) (je_sx hu (je_callF h__law_deed hr (by rfl) (ja_cons (je_var 0) (ja_cons (je_var 1) (ja_cons (je_var 2) ja_nil))) (by decide)) je_int) (je_var 2))))
abbrev s_law : Stmt := topS 33
theorem sc_law : FnScope ["_law_script", "_law_at", "_law_bag_here", "_law_radix", "_law_names_here", "_law_rows", "_law_place", "_law_due", "_law_found"] ["_law_script"] (defScope s_law) := ⟨rfl, rfl, rfl, by decide +kernel, rfl, by decide +kernel, by decide +kernel⟩
theorem run_law {f : Addr} {fd : FuncData} (F : Fun K "law" "law" s_law f fd) (h__law_bag : OkF P w K mg base "_law_bag" 2 F__law_bag 1) (h__law_names : OkF P w K mg base "_law_names" 1 F__law_names 2) (h__law_take : OkF P w K mg base "_law_take" 2 F__law_take 1) (h__law_text : OkF P w K mg base "_law_text" 4 F__law_text 5) (h__law_deed : OkF P w K mg base "_law_deed" 3 F__law_deed 4) (h_deed_of : OkK P w K mg base "deed_of" 2 3 F_deed_of 6) (m_repr : mg "repr" = none) (h_branch_count : OkK P w K mg base "branch_count" 1 2 F_branch_count 1) (h__law_count : OkF P w K mg base "_law_count" 3 F__law_count 5) (h__law_stands : OkF P w K mg base "_law_stands" 2 F__law_stands 1) (c_MUTE : OkC K mg "MUTE" (.tup [(.int (-1)), (.int 0), (.int 0)])) (m_range : mg "range" = none) (m_max : mg "max" = none) (m_min : mg "min" = none) (m_len : mg "len" = none) {bs : Heap} (e : bs = base) {H : Hp} {t : Shared} {a : Addr} {ns : List Int} (env0 : Env0 P w K mg bs callerA [] t H) (sq : SqL K H a (ns.map V.int)) (hF : ∃ S', F_law [.scr (ns.map .int)] [] = some (.bl true, S')) :
    codeAny (model P w) callerA (.call (.ref f) ⟨[.ref a], []⟩) (CR CX0 [] P w H t (fun v _ => v = .bl true) fun _ _ _ => False) t := by
  subst e
  obtain ⟨oc, od, kV, doc, pm, an, cdv, ct, osl, rfl, lk, hcd⟩ := F.ex
  refine Kx.run_at (k := 6) (N := ["_law_script", "_law_at", "_law_bag_here", "_law_radix", "_law_names_here", "_law_rows", "_law_place", "_law_due", "_law_found"]) (ps := ["_law_script"]) (us := [.ref a]) (vs := [.ref a]) lk hcd sc_law rfl ⟨rfl, by decide, by decide⟩ env0 (.of_eq rfl) (.cons rfl .nil) fun hr => ?_
  have hu := hr.units
  have hg : callerA.guards = some [] := rfl
  exact law_end (N := ["_law_script", "_law_at", "_law_bag_here", "_law_radix", "_law_names_here", "_law_rows", "_law_place", "_law_due", "_law_found"]) ((jss_cons (js_for PassesOwn.never rfl (ji_range1 (by rfl) m_range (ja_cons (je_callB (call_max2 rfl) rc_max2 (by rfl) m_max (by decide +kernel) (ja_cons je_int (ja_cons (je_callB (call_min2 rfl) rc_min2 (by rfl) m_min (by decide +kernel) (ja_cons je_int (ja_cons (je_callB call_lenJ rc_len (by rfl) m_len PySem.boot_len (ja_cons (je_var 0) ja_nil)) ja_nil))) ja_nil))) ja_nil)) (jg_name (i := 1) sc_law.nd rfl (by first | exact Or.inl rfl | exact Or.inr rfl)) (jss_cons (js_set (i := 2) sc_law.nd rfl (by first | exact Or.inl rfl | exact Or.inr rfl) (je_callF h__law_bag hr (by rfl) (ja_cons (je_var 0) (ja_cons (je_var 1) ja_nil)) (by decide)))
    (jss_cons (js_par (i := 3) (j := 4) (by rfl) sc_law.nd rfl rfl (by decide) rfl rfl (ja_cons (je_add je_int (je_callF h__law_take hr (by rfl) (ja_cons (je_var 2) (ja_cons je_int ja_nil)) (by decide))) (ja_cons (je_callF h__law_names hr (by rfl) (ja_cons (je_var 2) ja_nil) (by decide)) ja_nil)) (by rfl))
    (jss_cons (js_set (i := 5) sc_law.nd rfl (by first | exact Or.inl rfl | exact Or.inr rfl) (je_callF h__law_text hr (by rfl) (ja_cons (je_var 2) (ja_cons (je_var 3) (ja_cons (je_sx hu (je_lst (ja_cons je_int (ja_cons je_int (ja_cons je_int ja_nil)))) (je_callF h__law_take hr (by rfl) (ja_cons (je_var 2) (ja_cons je_int ja_nil)) (by decide))) (ja_cons (je_var 4) ja_nil)))) (by decide)))
    (jss_one (js_for PassesOwn.never rfl (ji_seq (je_add (je_callF h__law_stands hr (by rfl) (ja_cons (je_var 5) (ja_cons (je_var 3) ja_nil)) (by decide)) (je_lst (ja_cons (je_globC c_MUTE (by rfl)) ja_nil)))) (jg_name (i := 6) sc_law.nd rfl (by first | exact Or.inl rfl | exact Or.inr rfl)) (jss_cons (js_set (i := 7) sc_law.nd rfl (by first | exact Or.inl rfl | exact Or.inr rfl) (je_callF h__law_deed hr (by rfl) (ja_cons (je_var 5) (ja_cons (je_var 6) (ja_cons (je_var 3) ja_nil))) (by decide)))
    (jss_cons (js_set (i := 8) sc_law.nd rfl (by first | exact Or.inl rfl | exact Or.inr rfl) (je_callK h_deed_of hr (by rfl) (ja_cons (je_var 5) (ja_cons (je_var 6) ja_nil)) (jk_cons (je_var 3) jk_nil) (by decide)))
    (jss_cons (js_if (jt_cmpR (op_neJ hu) ro_neJ (je_callB (cr_reprA hg hu) rc_reprA (by rfl) m_repr (by decide +kernel) (ja_cons (je_var 8) ja_nil)) (je_callB (cr_reprA hg hu) rc_reprA (by rfl) m_repr (by decide +kernel) (ja_cons (je_var 7) ja_nil)) (nomark _)) (jss_one (js_ret je_bl)) jss_nil)
    (jss_cons (js_if (jt_cmpR (op_neJ hu) ro_neJ (je_callB (cr_reprA hg hu) rc_reprA (by rfl) m_repr (by decide +kernel) (ja_cons (je_callK h_branch_count hr (by rfl) (ja_cons (je_var 8) ja_nil) (jk_cons (je_var 3) jk_nil) (by decide)) ja_nil)) (je_callB (cr_reprA hg hu) rc_reprA (by rfl) m_repr (by decide +kernel) (ja_cons (je_callF h__law_count hr (by rfl) (ja_cons (je_var 5) (ja_cons (je_var 6) (ja_cons (je_var 3) ja_nil))) (by decide)) ja_nil)) (nomark _)) (jss_one (js_ret je_bl)) jss_nil)
    (jss_cons (js_if (JW.jt (jw_and (jt_cmpR (op_eqJ hu) ro_eqJ (je_var 3) je_int (nomark _)) (jw_and1 (jt_cmpR (op_neJ hu) ro_neJ (je_callD h_deed_of hr (by rfl) (ja_cons (je_var 5) (ja_cons (je_var 6) ja_nil)) (by decide)) (je_var 7) (nomark _))))) (jss_one (js_ret je_bl)) jss_nil)
    (jss_one (js_if (JW.jt (jw_and (jt_cmpR (op_eqJ hu) ro_eqJ (je_var 3) je_int (nomark _)) (jw_and1 (jt_cmpR (op_neJ hu) ro_neJ (je_callD h_branch_count hr (by rfl) (ja_cons (je_var 7) ja_nil) (by decide)) (je_callF h__law_count hr (by rfl) (ja_cons (je_var 5) (ja_cons (je_var 6) (ja_cons je_int ja_nil))) (by decide)) (nomark _))))) (jss_one (js_ret je_bl)) jss_nil)))))))))))))
    (jss_one (js_ret je_bl)))) sq hF
end
end J

namespace J
open PySem
@[simp] theorem sw0 : (Str.ofString "x" == Str.ofString "y") = false := by decide +kernel
@[simp] theorem sv0 : (Str.ofString "x" = Str.ofString "y") = False := eq_false (by decide +kernel)
@[simp] theorem sw1 : (Str.ofString "x" == Str.ofString "+") = false := by decide +kernel
@[simp] theorem sv1 : (Str.ofString "x" = Str.ofString "+") = False := eq_false (by decide +kernel)
@[simp] theorem sw2 : (Str.ofString "x" == Str.ofString "-") = false := by decide +kernel
@[simp] theorem sv2 : (Str.ofString "x" = Str.ofString "-") = False := eq_false (by decide +kernel)
@[simp] theorem sw3 : (Str.ofString "x" == Str.ofString "*") = false := by decide +kernel
@[simp] theorem sv3 : (Str.ofString "x" = Str.ofString "*") = False := eq_false (by decide +kernel)
@[simp] theorem sw4 : (Str.ofString "x" == Str.ofString "set") = false := by decide +kernel
@[simp] theorem sv4 : (Str.ofString "x" = Str.ofString "set") = False := eq_false (by decide +kernel)
@[simp] theorem sw5 : (Str.ofString "x" == Str.ofString "if") = false := by decide +kernel
@[simp] theorem sv5 : (Str.ofString "x" = Str.ofString "if") = False := eq_false (by decide +kernel)
@[simp] theorem sw6 : (Str.ofString "x" == Str.ofString "go") = false := by decide +kernel
@[simp] theorem sv6 : (Str.ofString "x" = Str.ofString "go") = False := eq_false (by decide +kernel)
@[simp] theorem sw7 : (Str.ofString "x" == Str.ofString "say") = false := by decide +kernel
@[simp] theorem sv7 : (Str.ofString "x" = Str.ofString "say") = False := eq_false (by decide +kernel)
@[simp] theorem sw8 : (Str.ofString "x" == Str.ofString "ask") = false := by decide +kernel
@[simp] theorem sv8 : (Str.ofString "x" = Str.ofString "ask") = False := eq_false (by decide +kernel)
@[simp] theorem sw9 : (Str.ofString "x" == Str.ofString "read") = false := by decide +kernel
@[simp] theorem sv9 : (Str.ofString "x" = Str.ofString "read") = False := eq_false (by decide +kernel)
@[simp] theorem sw10 : (Str.ofString "x" == Str.ofString "write") = false := by decide +kernel
@[simp] theorem sv10 : (Str.ofString "x" = Str.ofString "write") = False := eq_false (by decide +kernel)
@[simp] theorem sw11 : (Str.ofString "x" == Str.ofString "call") = false := by decide +kernel
@[simp] theorem sv11 : (Str.ofString "x" = Str.ofString "call") = False := eq_false (by decide +kernel)
@[simp] theorem sw12 : (Str.ofString "x" == Str.ofString "end") = false := by decide +kernel
@[simp] theorem sv12 : (Str.ofString "x" = Str.ofString "end") = False := eq_false (by decide +kernel)
@[simp] theorem sw13 : (Str.ofString "x" == Str.ofString "mute") = false := by decide +kernel
@[simp] theorem sv13 : (Str.ofString "x" = Str.ofString "mute") = False := eq_false (by decide +kernel)
@[simp] theorem sw14 : (Str.ofString "x" == Str.ofString "alike") = false := by decide +kernel
@[simp] theorem sv14 : (Str.ofString "x" = Str.ofString "alike") = False := eq_false (by decide +kernel)
@[simp] theorem sw15 : (Str.ofString "x" == Str.ofString "apart") = false := by decide +kernel
@[simp] theorem sv15 : (Str.ofString "x" = Str.ofString "apart") = False := eq_false (by decide +kernel)
@[simp] theorem sw16 : (Str.ofString "y" == Str.ofString "x") = false := by decide +kernel
@[simp] theorem sv16 : (Str.ofString "y" = Str.ofString "x") = False := eq_false (by decide +kernel)
@[simp] theorem sw17 : (Str.ofString "y" == Str.ofString "+") = false := by decide +kernel
@[simp] theorem sv17 : (Str.ofString "y" = Str.ofString "+") = False := eq_false (by decide +kernel)
@[simp] theorem sw18 : (Str.ofString "y" == Str.ofString "-") = false := by decide +kernel
@[simp] theorem sv18 : (Str.ofString "y" = Str.ofString "-") = False := eq_false (by decide +kernel)
@[simp] theorem sw19 : (Str.ofString "y" == Str.ofString "*") = false := by decide +kernel
@[simp] theorem sv19 : (Str.ofString "y" = Str.ofString "*") = False := eq_false (by decide +kernel)
@[simp] theorem sw20 : (Str.ofString "y" == Str.ofString "set") = false := by decide +kernel
@[simp] theorem sv20 : (Str.ofString "y" = Str.ofString "set") = False := eq_false (by decide +kernel)
@[simp] theorem sw21 : (Str.ofString "y" == Str.ofString "if") = false := by decide +kernel
@[simp] theorem sv21 : (Str.ofString "y" = Str.ofString "if") = False := eq_false (by decide +kernel)
@[simp] theorem sw22 : (Str.ofString "y" == Str.ofString "go") = false := by decide +kernel
@[simp] theorem sv22 : (Str.ofString "y" = Str.ofString "go") = False := eq_false (by decide +kernel)
@[simp] theorem sw23 : (Str.ofString "y" == Str.ofString "say") = false := by decide +kernel
@[simp] theorem sv23 : (Str.ofString "y" = Str.ofString "say") = False := eq_false (by decide +kernel)
@[simp] theorem sw24 : (Str.ofString "y" == Str.ofString "ask") = false := by decide +kernel
@[simp] theorem sv24 : (Str.ofString "y" = Str.ofString "ask") = False := eq_false (by decide +kernel)
@[simp] theorem sw25 : (Str.ofString "y" == Str.ofString "read") = false := by decide +kernel
@[simp] theorem sv25 : (Str.ofString "y" = Str.ofString "read") = False := eq_false (by decide +kernel)
@[simp] theorem sw26 : (Str.ofString "y" == Str.ofString "write") = false := by decide +kernel
@[simp] theorem sv26 : (Str.ofString "y" = Str.ofString "write") = False := eq_false (by decide +kernel)
@[simp] theorem sw27 : (Str.ofString "y" == Str.ofString "call") = false := by decide +kernel
@[simp] theorem sv27 : (Str.ofString "y" = Str.ofString "call") = False := eq_false (by decide +kernel)
@[simp] theorem sw28 : (Str.ofString "y" == Str.ofString "end") = false := by decide +kernel
@[simp] theorem sv28 : (Str.ofString "y" = Str.ofString "end") = False := eq_false (by decide +kernel)
@[simp] theorem sw29 : (Str.ofString "y" == Str.ofString "mute") = false := by decide +kernel
@[simp] theorem sv29 : (Str.ofString "y" = Str.ofString "mute") = False := eq_false (by decide +kernel)
@[simp] theorem sw30 : (Str.ofString "y" == Str.ofString "alike") = false := by decide +kernel
@[simp] theorem sv30 : (Str.ofString "y" = Str.ofString "alike") = False := eq_false (by decide +kernel)
@[simp] theorem sw31 : (Str.ofString "y" == Str.ofString "apart") = false := by decide +kernel
@[simp] theorem sv31 : (Str.ofString "y" = Str.ofString "apart") = False := eq_false (by decide +kernel)
@[simp] theorem sw32 : (Str.ofString "+" == Str.ofString "x") = false := by decide +kernel
@[simp] theorem sv32 : (Str.ofString "+" = Str.ofString "x") = False := eq_false (by decide +kernel)
@[simp] theorem sw33 : (Str.ofString "+" == Str.ofString "y") = false := by decide +kernel
@[simp] theorem sv33 : (Str.ofString "+" = Str.ofString "y") = False := eq_false (by decide +kernel)
@[simp] theorem sw34 : (Str.ofString "+" == Str.ofString "-") = false := by decide +kernel
@[simp] theorem sv34 : (Str.ofString "+" = Str.ofString "-") = False := eq_false (by decide +kernel)
@[simp] theorem sw35 : (Str.ofString "+" == Str.ofString "*") = false := by decide +kernel
@[simp] theorem sv35 : (Str.ofString "+" = Str.ofString "*") = False := eq_false (by decide +kernel)
@[simp] theorem sw36 : (Str.ofString "+" == Str.ofString "set") = false := by decide +kernel
@[simp] theorem sv36 : (Str.ofString "+" = Str.ofString "set") = False := eq_false (by decide +kernel)
@[simp] theorem sw37 : (Str.ofString "+" == Str.ofString "if") = false := by decide +kernel
@[simp] theorem sv37 : (Str.ofString "+" = Str.ofString "if") = False := eq_false (by decide +kernel)
@[simp] theorem sw38 : (Str.ofString "+" == Str.ofString "go") = false := by decide +kernel
@[simp] theorem sv38 : (Str.ofString "+" = Str.ofString "go") = False := eq_false (by decide +kernel)
@[simp] theorem sw39 : (Str.ofString "+" == Str.ofString "say") = false := by decide +kernel
@[simp] theorem sv39 : (Str.ofString "+" = Str.ofString "say") = False := eq_false (by decide +kernel)
@[simp] theorem sw40 : (Str.ofString "+" == Str.ofString "ask") = false := by decide +kernel
@[simp] theorem sv40 : (Str.ofString "+" = Str.ofString "ask") = False := eq_false (by decide +kernel)
@[simp] theorem sw41 : (Str.ofString "+" == Str.ofString "read") = false := by decide +kernel
@[simp] theorem sv41 : (Str.ofString "+" = Str.ofString "read") = False := eq_false (by decide +kernel)
@[simp] theorem sw42 : (Str.ofString "+" == Str.ofString "write") = false := by decide +kernel
@[simp] theorem sv42 : (Str.ofString "+" = Str.ofString "write") = False := eq_false (by decide +kernel)
@[simp] theorem sw43 : (Str.ofString "+" == Str.ofString "call") = false := by decide +kernel
@[simp] theorem sv43 : (Str.ofString "+" = Str.ofString "call") = False := eq_false (by decide +kernel)
@[simp] theorem sw44 : (Str.ofString "+" == Str.ofString "end") = false := by decide +kernel
@[simp] theorem sv44 : (Str.ofString "+" = Str.ofString "end") = False := eq_false (by decide +kernel)
@[simp] theorem sw45 : (Str.ofString "+" == Str.ofString "mute") = false := by decide +kernel
@[simp] theorem sv45 : (Str.ofString "+" = Str.ofString "mute") = False := eq_false (by decide +kernel)
@[simp] theorem sw46 : (Str.ofString "+" == Str.ofString "alike") = false := by decide +kernel
@[simp] theorem sv46 : (Str.ofString "+" = Str.ofString "alike") = False := eq_false (by decide +kernel)
@[simp] theorem sw47 : (Str.ofString "+" == Str.ofString "apart") = false := by decide +kernel
@[simp] theorem sv47 : (Str.ofString "+" = Str.ofString "apart") = False := eq_false (by decide +kernel)
@[simp] theorem sw48 : (Str.ofString "-" == Str.ofString "x") = false := by decide +kernel
@[simp] theorem sv48 : (Str.ofString "-" = Str.ofString "x") = False := eq_false (by decide +kernel)
@[simp] theorem sw49 : (Str.ofString "-" == Str.ofString "y") = false := by decide +kernel
@[simp] theorem sv49 : (Str.ofString "-" = Str.ofString "y") = False := eq_false (by decide +kernel)
@[simp] theorem sw50 : (Str.ofString "-" == Str.ofString "+") = false := by decide +kernel
@[simp] theorem sv50 : (Str.ofString "-" = Str.ofString "+") = False := eq_false (by decide +kernel)
@[simp] theorem sw51 : (Str.ofString "-" == Str.ofString "*") = false := by decide +kernel
@[simp] theorem sv51 : (Str.ofString "-" = Str.ofString "*") = False := eq_false (by decide +kernel)
@[simp] theorem sw52 : (Str.ofString "-" == Str.ofString "set") = false := by decide +kernel
@[simp] theorem sv52 : (Str.ofString "-" = Str.ofString "set") = False := eq_false (by decide +kernel)
@[simp] theorem sw53 : (Str.ofString "-" == Str.ofString "if") = false := by decide +kernel
@[simp] theorem sv53 : (Str.ofString "-" = Str.ofString "if") = False := eq_false (by decide +kernel)
@[simp] theorem sw54 : (Str.ofString "-" == Str.ofString "go") = false := by decide +kernel
@[simp] theorem sv54 : (Str.ofString "-" = Str.ofString "go") = False := eq_false (by decide +kernel)
@[simp] theorem sw55 : (Str.ofString "-" == Str.ofString "say") = false := by decide +kernel
@[simp] theorem sv55 : (Str.ofString "-" = Str.ofString "say") = False := eq_false (by decide +kernel)
@[simp] theorem sw56 : (Str.ofString "-" == Str.ofString "ask") = false := by decide +kernel
@[simp] theorem sv56 : (Str.ofString "-" = Str.ofString "ask") = False := eq_false (by decide +kernel)
@[simp] theorem sw57 : (Str.ofString "-" == Str.ofString "read") = false := by decide +kernel
@[simp] theorem sv57 : (Str.ofString "-" = Str.ofString "read") = False := eq_false (by decide +kernel)
@[simp] theorem sw58 : (Str.ofString "-" == Str.ofString "write") = false := by decide +kernel
@[simp] theorem sv58 : (Str.ofString "-" = Str.ofString "write") = False := eq_false (by decide +kernel)
@[simp] theorem sw59 : (Str.ofString "-" == Str.ofString "call") = false := by decide +kernel
@[simp] theorem sv59 : (Str.ofString "-" = Str.ofString "call") = False := eq_false (by decide +kernel)
@[simp] theorem sw60 : (Str.ofString "-" == Str.ofString "end") = false := by decide +kernel
@[simp] theorem sv60 : (Str.ofString "-" = Str.ofString "end") = False := eq_false (by decide +kernel)
@[simp] theorem sw61 : (Str.ofString "-" == Str.ofString "mute") = false := by decide +kernel
@[simp] theorem sv61 : (Str.ofString "-" = Str.ofString "mute") = False := eq_false (by decide +kernel)
@[simp] theorem sw62 : (Str.ofString "-" == Str.ofString "alike") = false := by decide +kernel
@[simp] theorem sv62 : (Str.ofString "-" = Str.ofString "alike") = False := eq_false (by decide +kernel)
@[simp] theorem sw63 : (Str.ofString "-" == Str.ofString "apart") = false := by decide +kernel
@[simp] theorem sv63 : (Str.ofString "-" = Str.ofString "apart") = False := eq_false (by decide +kernel)
@[simp] theorem sw64 : (Str.ofString "*" == Str.ofString "x") = false := by decide +kernel
@[simp] theorem sv64 : (Str.ofString "*" = Str.ofString "x") = False := eq_false (by decide +kernel)
@[simp] theorem sw65 : (Str.ofString "*" == Str.ofString "y") = false := by decide +kernel
@[simp] theorem sv65 : (Str.ofString "*" = Str.ofString "y") = False := eq_false (by decide +kernel)
@[simp] theorem sw66 : (Str.ofString "*" == Str.ofString "+") = false := by decide +kernel
@[simp] theorem sv66 : (Str.ofString "*" = Str.ofString "+") = False := eq_false (by decide +kernel)
@[simp] theorem sw67 : (Str.ofString "*" == Str.ofString "-") = false := by decide +kernel
@[simp] theorem sv67 : (Str.ofString "*" = Str.ofString "-") = False := eq_false (by decide +kernel)
@[simp] theorem sw68 : (Str.ofString "*" == Str.ofString "set") = false := by decide +kernel
@[simp] theorem sv68 : (Str.ofString "*" = Str.ofString "set") = False := eq_false (by decide +kernel)
@[simp] theorem sw69 : (Str.ofString "*" == Str.ofString "if") = false := by decide +kernel
@[simp] theorem sv69 : (Str.ofString "*" = Str.ofString "if") = False := eq_false (by decide +kernel)
@[simp] theorem sw70 : (Str.ofString "*" == Str.ofString "go") = false := by decide +kernel
@[simp] theorem sv70 : (Str.ofString "*" = Str.ofString "go") = False := eq_false (by decide +kernel)
@[simp] theorem sw71 : (Str.ofString "*" == Str.ofString "say") = false := by decide +kernel
@[simp] theorem sv71 : (Str.ofString "*" = Str.ofString "say") = False := eq_false (by decide +kernel)
@[simp] theorem sw72 : (Str.ofString "*" == Str.ofString "ask") = false := by decide +kernel
@[simp] theorem sv72 : (Str.ofString "*" = Str.ofString "ask") = False := eq_false (by decide +kernel)
@[simp] theorem sw73 : (Str.ofString "*" == Str.ofString "read") = false := by decide +kernel
@[simp] theorem sv73 : (Str.ofString "*" = Str.ofString "read") = False := eq_false (by decide +kernel)
@[simp] theorem sw74 : (Str.ofString "*" == Str.ofString "write") = false := by decide +kernel
@[simp] theorem sv74 : (Str.ofString "*" = Str.ofString "write") = False := eq_false (by decide +kernel)
@[simp] theorem sw75 : (Str.ofString "*" == Str.ofString "call") = false := by decide +kernel
@[simp] theorem sv75 : (Str.ofString "*" = Str.ofString "call") = False := eq_false (by decide +kernel)
@[simp] theorem sw76 : (Str.ofString "*" == Str.ofString "end") = false := by decide +kernel
@[simp] theorem sv76 : (Str.ofString "*" = Str.ofString "end") = False := eq_false (by decide +kernel)
@[simp] theorem sw77 : (Str.ofString "*" == Str.ofString "mute") = false := by decide +kernel
@[simp] theorem sv77 : (Str.ofString "*" = Str.ofString "mute") = False := eq_false (by decide +kernel)
@[simp] theorem sw78 : (Str.ofString "*" == Str.ofString "alike") = false := by decide +kernel
@[simp] theorem sv78 : (Str.ofString "*" = Str.ofString "alike") = False := eq_false (by decide +kernel)
@[simp] theorem sw79 : (Str.ofString "*" == Str.ofString "apart") = false := by decide +kernel
@[simp] theorem sv79 : (Str.ofString "*" = Str.ofString "apart") = False := eq_false (by decide +kernel)
@[simp] theorem sw80 : (Str.ofString "set" == Str.ofString "x") = false := by decide +kernel
@[simp] theorem sv80 : (Str.ofString "set" = Str.ofString "x") = False := eq_false (by decide +kernel)
@[simp] theorem sw81 : (Str.ofString "set" == Str.ofString "y") = false := by decide +kernel
@[simp] theorem sv81 : (Str.ofString "set" = Str.ofString "y") = False := eq_false (by decide +kernel)
@[simp] theorem sw82 : (Str.ofString "set" == Str.ofString "+") = false := by decide +kernel
@[simp] theorem sv82 : (Str.ofString "set" = Str.ofString "+") = False := eq_false (by decide +kernel)
@[simp] theorem sw83 : (Str.ofString "set" == Str.ofString "-") = false := by decide +kernel
@[simp] theorem sv83 : (Str.ofString "set" = Str.ofString "-") = False := eq_false (by decide +kernel)
@[simp] theorem sw84 : (Str.ofString "set" == Str.ofString "*") = false := by decide +kernel
@[simp] theorem sv84 : (Str.ofString "set" = Str.ofString "*") = False := eq_false (by decide +kernel)
@[simp] theorem sw85 : (Str.ofString "set" == Str.ofString "if") = false := by decide +kernel
@[simp] theorem sv85 : (Str.ofString "set" = Str.ofString "if") = False := eq_false (by decide +kernel)
@[simp] theorem sw86 : (Str.ofString "set" == Str.ofString "go") = false := by decide +kernel
@[simp] theorem sv86 : (Str.ofString "set" = Str.ofString "go") = False := eq_false (by decide +kernel)
@[simp] theorem sw87 : (Str.ofString "set" == Str.ofString "say") = false := by decide +kernel
@[simp] theorem sv87 : (Str.ofString "set" = Str.ofString "say") = False := eq_false (by decide +kernel)
@[simp] theorem sw88 : (Str.ofString "set" == Str.ofString "ask") = false := by decide +kernel
@[simp] theorem sv88 : (Str.ofString "set" = Str.ofString "ask") = False := eq_false (by decide +kernel)
@[simp] theorem sw89 : (Str.ofString "set" == Str.ofString "read") = false := by decide +kernel
@[simp] theorem sv89 : (Str.ofString "set" = Str.ofString "read") = False := eq_false (by decide +kernel)
@[simp] theorem sw90 : (Str.ofString "set" == Str.ofString "write") = false := by decide +kernel
@[simp] theorem sv90 : (Str.ofString "set" = Str.ofString "write") = False := eq_false (by decide +kernel)
@[simp] theorem sw91 : (Str.ofString "set" == Str.ofString "call") = false := by decide +kernel
@[simp] theorem sv91 : (Str.ofString "set" = Str.ofString "call") = False := eq_false (by decide +kernel)
@[simp] theorem sw92 : (Str.ofString "set" == Str.ofString "end") = false := by decide +kernel
@[simp] theorem sv92 : (Str.ofString "set" = Str.ofString "end") = False := eq_false (by decide +kernel)
@[simp] theorem sw93 : (Str.ofString "set" == Str.ofString "mute") = false := by decide +kernel
@[simp] theorem sv93 : (Str.ofString "set" = Str.ofString "mute") = False := eq_false (by decide +kernel)
@[simp] theorem sw94 : (Str.ofString "set" == Str.ofString "alike") = false := by decide +kernel
@[simp] theorem sv94 : (Str.ofString "set" = Str.ofString "alike") = False := eq_false (by decide +kernel)
@[simp] theorem sw95 : (Str.ofString "set" == Str.ofString "apart") = false := by decide +kernel
@[simp] theorem sv95 : (Str.ofString "set" = Str.ofString "apart") = False := eq_false (by decide +kernel)
@[simp] theorem sw96 : (Str.ofString "if" == Str.ofString "x") = false := by decide +kernel
@[simp] theorem sv96 : (Str.ofString "if" = Str.ofString "x") = False := eq_false (by decide +kernel)
@[simp] theorem sw97 : (Str.ofString "if" == Str.ofString "y") = false := by decide +kernel
@[simp] theorem sv97 : (Str.ofString "if" = Str.ofString "y") = False := eq_false (by decide +kernel)
@[simp] theorem sw98 : (Str.ofString "if" == Str.ofString "+") = false := by decide +kernel
@[simp] theorem sv98 : (Str.ofString "if" = Str.ofString "+") = False := eq_false (by decide +kernel)
@[simp] theorem sw99 : (Str.ofString "if" == Str.ofString "-") = false := by decide +kernel
@[simp] theorem sv99 : (Str.ofString "if" = Str.ofString "-") = False := eq_false (by decide +kernel)
@[simp] theorem sw100 : (Str.ofString "if" == Str.ofString "*") = false := by decide +kernel
@[simp] theorem sv100 : (Str.ofString "if" = Str.ofString "*") = False := eq_false (by decide +kernel)
@[simp] theorem sw101 : (Str.ofString "if" == Str.ofString "set") = false := by decide +kernel
@[simp] theorem sv101 : (Str.ofString "if" = Str.ofString "set") = False := eq_false (by decide +kernel)
@[simp] theorem sw102 : (Str.ofString "if" == Str.ofString "go") = false := by decide +kernel
@[simp] theorem sv102 : (Str.ofString "if" = Str.ofString "go") = False := eq_false (by decide +kernel)
@[simp] theorem sw103 : (Str.ofString "if" == Str.ofString "say") = false := by decide +kernel
@[simp] theorem sv103 : (Str.ofString "if" = Str.ofString "say") = False := eq_false (by decide +kernel)
@[simp] theorem sw104 : (Str.ofString "if" == Str.ofString "ask") = false := by decide +kernel
@[simp] theorem sv104 : (Str.ofString "if" = Str.ofString "ask") = False := eq_false (by decide +kernel)
@[simp] theorem sw105 : (Str.ofString "if" == Str.ofString "read") = false := by decide +kernel
@[simp] theorem sv105 : (Str.ofString "if" = Str.ofString "read") = False := eq_false (by decide +kernel)
@[simp] theorem sw106 : (Str.ofString "if" == Str.ofString "write") = false := by decide +kernel
@[simp] theorem sv106 : (Str.ofString "if" = Str.ofString "write") = False := eq_false (by decide +kernel)
@[simp] theorem sw107 : (Str.ofString "if" == Str.ofString "call") = false := by decide +kernel
@[simp] theorem sv107 : (Str.ofString "if" = Str.ofString "call") = False := eq_false (by decide +kernel)
@[simp] theorem sw108 : (Str.ofString "if" == Str.ofString "end") = false := by decide +kernel
@[simp] theorem sv108 : (Str.ofString "if" = Str.ofString "end") = False := eq_false (by decide +kernel)
@[simp] theorem sw109 : (Str.ofString "if" == Str.ofString "mute") = false := by decide +kernel
@[simp] theorem sv109 : (Str.ofString "if" = Str.ofString "mute") = False := eq_false (by decide +kernel)
@[simp] theorem sw110 : (Str.ofString "if" == Str.ofString "alike") = false := by decide +kernel
@[simp] theorem sv110 : (Str.ofString "if" = Str.ofString "alike") = False := eq_false (by decide +kernel)
@[simp] theorem sw111 : (Str.ofString "if" == Str.ofString "apart") = false := by decide +kernel
@[simp] theorem sv111 : (Str.ofString "if" = Str.ofString "apart") = False := eq_false (by decide +kernel)
@[simp] theorem sw112 : (Str.ofString "go" == Str.ofString "x") = false := by decide +kernel
@[simp] theorem sv112 : (Str.ofString "go" = Str.ofString "x") = False := eq_false (by decide +kernel)
@[simp] theorem sw113 : (Str.ofString "go" == Str.ofString "y") = false := by decide +kernel
@[simp] theorem sv113 : (Str.ofString "go" = Str.ofString "y") = False := eq_false (by decide +kernel)
@[simp] theorem sw114 : (Str.ofString "go" == Str.ofString "+") = false := by decide +kernel
@[simp] theorem sv114 : (Str.ofString "go" = Str.ofString "+") = False := eq_false (by decide +kernel)
@[simp] theorem sw115 : (Str.ofString "go" == Str.ofString "-") = false := by decide +kernel
@[simp] theorem sv115 : (Str.ofString "go" = Str.ofString "-") = False := eq_false (by decide +kernel)
@[simp] theorem sw116 : (Str.ofString "go" == Str.ofString "*") = false := by decide +kernel
@[simp] theorem sv116 : (Str.ofString "go" = Str.ofString "*") = False := eq_false (by decide +kernel)
@[simp] theorem sw117 : (Str.ofString "go" == Str.ofString "set") = false := by decide +kernel
@[simp] theorem sv117 : (Str.ofString "go" = Str.ofString "set") = False := eq_false (by decide +kernel)
@[simp] theorem sw118 : (Str.ofString "go" == Str.ofString "if") = false := by decide +kernel
@[simp] theorem sv118 : (Str.ofString "go" = Str.ofString "if") = False := eq_false (by decide +kernel)
@[simp] theorem sw119 : (Str.ofString "go" == Str.ofString "say") = false := by decide +kernel
@[simp] theorem sv119 : (Str.ofString "go" = Str.ofString "say") = False := eq_false (by decide +kernel)
@[simp] theorem sw120 : (Str.ofString "go" == Str.ofString "ask") = false := by decide +kernel
@[simp] theorem sv120 : (Str.ofString "go" = Str.ofString "ask") = False := eq_false (by decide +kernel)
@[simp] theorem sw121 : (Str.ofString "go" == Str.ofString "read") = false := by decide +kernel
@[simp] theorem sv121 : (Str.ofString "go" = Str.ofString "read") = False := eq_false (by decide +kernel)
@[simp] theorem sw122 : (Str.ofString "go" == Str.ofString "write") = false := by decide +kernel
@[simp] theorem sv122 : (Str.ofString "go" = Str.ofString "write") = False := eq_false (by decide +kernel)
@[simp] theorem sw123 : (Str.ofString "go" == Str.ofString "call") = false := by decide +kernel
@[simp] theorem sv123 : (Str.ofString "go" = Str.ofString "call") = False := eq_false (by decide +kernel)
@[simp] theorem sw124 : (Str.ofString "go" == Str.ofString "end") = false := by decide +kernel
@[simp] theorem sv124 : (Str.ofString "go" = Str.ofString "end") = False := eq_false (by decide +kernel)
@[simp] theorem sw125 : (Str.ofString "go" == Str.ofString "mute") = false := by decide +kernel
@[simp] theorem sv125 : (Str.ofString "go" = Str.ofString "mute") = False := eq_false (by decide +kernel)
@[simp] theorem sw126 : (Str.ofString "go" == Str.ofString "alike") = false := by decide +kernel
@[simp] theorem sv126 : (Str.ofString "go" = Str.ofString "alike") = False := eq_false (by decide +kernel)
@[simp] theorem sw127 : (Str.ofString "go" == Str.ofString "apart") = false := by decide +kernel
@[simp] theorem sv127 : (Str.ofString "go" = Str.ofString "apart") = False := eq_false (by decide +kernel)
@[simp] theorem sw128 : (Str.ofString "say" == Str.ofString "x") = false := by decide +kernel
@[simp] theorem sv128 : (Str.ofString "say" = Str.ofString "x") = False := eq_false (by decide +kernel)
@[simp] theorem sw129 : (Str.ofString "say" == Str.ofString "y") = false := by decide +kernel
@[simp] theorem sv129 : (Str.ofString "say" = Str.ofString "y") = False := eq_false (by decide +kernel)
@[simp] theorem sw130 : (Str.ofString "say" == Str.ofString "+") = false := by decide +kernel
@[simp] theorem sv130 : (Str.ofString "say" = Str.ofString "+") = False := eq_false (by decide +kernel)
@[simp] theorem sw131 : (Str.ofString "say" == Str.ofString "-") = false := by decide +kernel
@[simp] theorem sv131 : (Str.ofString "say" = Str.ofString "-") = False := eq_false (by decide +kernel)
@[simp] theorem sw132 : (Str.ofString "say" == Str.ofString "*") = false := by decide +kernel
@[simp] theorem sv132 : (Str.ofString "say" = Str.ofString "*") = False := eq_false (by decide +kernel)
@[simp] theorem sw133 : (Str.ofString "say" == Str.ofString "set") = false := by decide +kernel
@[simp] theorem sv133 : (Str.ofString "say" = Str.ofString "set") = False := eq_false (by decide +kernel)
@[simp] theorem sw134 : (Str.ofString "say" == Str.ofString "if") = false := by decide +kernel
@[simp] theorem sv134 : (Str.ofString "say" = Str.ofString "if") = False := eq_false (by decide +kernel)
@[simp] theorem sw135 : (Str.ofString "say" == Str.ofString "go") = false := by decide +kernel
@[simp] theorem sv135 : (Str.ofString "say" = Str.ofString "go") = False := eq_false (by decide +kernel)
@[simp] theorem sw136 : (Str.ofString "say" == Str.ofString "ask") = false := by decide +kernel
@[simp] theorem sv136 : (Str.ofString "say" = Str.ofString "ask") = False := eq_false (by decide +kernel)
@[simp] theorem sw137 : (Str.ofString "say" == Str.ofString "read") = false := by decide +kernel
@[simp] theorem sv137 : (Str.ofString "say" = Str.ofString "read") = False := eq_false (by decide +kernel)
@[simp] theorem sw138 : (Str.ofString "say" == Str.ofString "write") = false := by decide +kernel
@[simp] theorem sv138 : (Str.ofString "say" = Str.ofString "write") = False := eq_false (by decide +kernel)
@[simp] theorem sw139 : (Str.ofString "say" == Str.ofString "call") = false := by decide +kernel
@[simp] theorem sv139 : (Str.ofString "say" = Str.ofString "call") = False := eq_false (by decide +kernel)
@[simp] theorem sw140 : (Str.ofString "say" == Str.ofString "end") = false := by decide +kernel
@[simp] theorem sv140 : (Str.ofString "say" = Str.ofString "end") = False := eq_false (by decide +kernel)
@[simp] theorem sw141 : (Str.ofString "say" == Str.ofString "mute") = false := by decide +kernel
@[simp] theorem sv141 : (Str.ofString "say" = Str.ofString "mute") = False := eq_false (by decide +kernel)
@[simp] theorem sw142 : (Str.ofString "say" == Str.ofString "alike") = false := by decide +kernel
@[simp] theorem sv142 : (Str.ofString "say" = Str.ofString "alike") = False := eq_false (by decide +kernel)
@[simp] theorem sw143 : (Str.ofString "say" == Str.ofString "apart") = false := by decide +kernel
@[simp] theorem sv143 : (Str.ofString "say" = Str.ofString "apart") = False := eq_false (by decide +kernel)
@[simp] theorem sw144 : (Str.ofString "ask" == Str.ofString "x") = false := by decide +kernel
@[simp] theorem sv144 : (Str.ofString "ask" = Str.ofString "x") = False := eq_false (by decide +kernel)
@[simp] theorem sw145 : (Str.ofString "ask" == Str.ofString "y") = false := by decide +kernel
@[simp] theorem sv145 : (Str.ofString "ask" = Str.ofString "y") = False := eq_false (by decide +kernel)
@[simp] theorem sw146 : (Str.ofString "ask" == Str.ofString "+") = false := by decide +kernel
@[simp] theorem sv146 : (Str.ofString "ask" = Str.ofString "+") = False := eq_false (by decide +kernel)
@[simp] theorem sw147 : (Str.ofString "ask" == Str.ofString "-") = false := by decide +kernel
@[simp] theorem sv147 : (Str.ofString "ask" = Str.ofString "-") = False := eq_false (by decide +kernel)
@[simp] theorem sw148 : (Str.ofString "ask" == Str.ofString "*") = false := by decide +kernel
@[simp] theorem sv148 : (Str.ofString "ask" = Str.ofString "*") = False := eq_false (by decide +kernel)
@[simp] theorem sw149 : (Str.ofString "ask" == Str.ofString "set") = false := by decide +kernel
@[simp] theorem sv149 : (Str.ofString "ask" = Str.ofString "set") = False := eq_false (by decide +kernel)
@[simp] theorem sw150 : (Str.ofString "ask" == Str.ofString "if") = false := by decide +kernel
@[simp] theorem sv150 : (Str.ofString "ask" = Str.ofString "if") = False := eq_false (by decide +kernel)
@[simp] theorem sw151 : (Str.ofString "ask" == Str.ofString "go") = false := by decide +kernel
@[simp] theorem sv151 : (Str.ofString "ask" = Str.ofString "go") = False := eq_false (by decide +kernel)
@[simp] theorem sw152 : (Str.ofString "ask" == Str.ofString "say") = false := by decide +kernel
@[simp] theorem sv152 : (Str.ofString "ask" = Str.ofString "say") = False := eq_false (by decide +kernel)
@[simp] theorem sw153 : (Str.ofString "ask" == Str.ofString "read") = false := by decide +kernel
@[simp] theorem sv153 : (Str.ofString "ask" = Str.ofString "read") = False := eq_false (by decide +kernel)
@[simp] theorem sw154 : (Str.ofString "ask" == Str.ofString "write") = false := by decide +kernel
@[simp] theorem sv154 : (Str.ofString "ask" = Str.ofString "write") = False := eq_false (by decide +kernel)
@[simp] theorem sw155 : (Str.ofString "ask" == Str.ofString "call") = false := by decide +kernel
@[simp] theorem sv155 : (Str.ofString "ask" = Str.ofString "call") = False := eq_false (by decide +kernel)
@[simp] theorem sw156 : (Str.ofString "ask" == Str.ofString "end") = false := by decide +kernel
@[simp] theorem sv156 : (Str.ofString "ask" = Str.ofString "end") = False := eq_false (by decide +kernel)
@[simp] theorem sw157 : (Str.ofString "ask" == Str.ofString "mute") = false := by decide +kernel
@[simp] theorem sv157 : (Str.ofString "ask" = Str.ofString "mute") = False := eq_false (by decide +kernel)
@[simp] theorem sw158 : (Str.ofString "ask" == Str.ofString "alike") = false := by decide +kernel
@[simp] theorem sv158 : (Str.ofString "ask" = Str.ofString "alike") = False := eq_false (by decide +kernel)
@[simp] theorem sw159 : (Str.ofString "ask" == Str.ofString "apart") = false := by decide +kernel
@[simp] theorem sv159 : (Str.ofString "ask" = Str.ofString "apart") = False := eq_false (by decide +kernel)
@[simp] theorem sw160 : (Str.ofString "read" == Str.ofString "x") = false := by decide +kernel
@[simp] theorem sv160 : (Str.ofString "read" = Str.ofString "x") = False := eq_false (by decide +kernel)
@[simp] theorem sw161 : (Str.ofString "read" == Str.ofString "y") = false := by decide +kernel
@[simp] theorem sv161 : (Str.ofString "read" = Str.ofString "y") = False := eq_false (by decide +kernel)
@[simp] theorem sw162 : (Str.ofString "read" == Str.ofString "+") = false := by decide +kernel
@[simp] theorem sv162 : (Str.ofString "read" = Str.ofString "+") = False := eq_false (by decide +kernel)
@[simp] theorem sw163 : (Str.ofString "read" == Str.ofString "-") = false := by decide +kernel
@[simp] theorem sv163 : (Str.ofString "read" = Str.ofString "-") = False := eq_false (by decide +kernel)
@[simp] theorem sw164 : (Str.ofString "read" == Str.ofString "*") = false := by decide +kernel
@[simp] theorem sv164 : (Str.ofString "read" = Str.ofString "*") = False := eq_false (by decide +kernel)
@[simp] theorem sw165 : (Str.ofString "read" == Str.ofString "set") = false := by decide +kernel
@[simp] theorem sv165 : (Str.ofString "read" = Str.ofString "set") = False := eq_false (by decide +kernel)
@[simp] theorem sw166 : (Str.ofString "read" == Str.ofString "if") = false := by decide +kernel
@[simp] theorem sv166 : (Str.ofString "read" = Str.ofString "if") = False := eq_false (by decide +kernel)
@[simp] theorem sw167 : (Str.ofString "read" == Str.ofString "go") = false := by decide +kernel
@[simp] theorem sv167 : (Str.ofString "read" = Str.ofString "go") = False := eq_false (by decide +kernel)
@[simp] theorem sw168 : (Str.ofString "read" == Str.ofString "say") = false := by decide +kernel
@[simp] theorem sv168 : (Str.ofString "read" = Str.ofString "say") = False := eq_false (by decide +kernel)
@[simp] theorem sw169 : (Str.ofString "read" == Str.ofString "ask") = false := by decide +kernel
@[simp] theorem sv169 : (Str.ofString "read" = Str.ofString "ask") = False := eq_false (by decide +kernel)
@[simp] theorem sw170 : (Str.ofString "read" == Str.ofString "write") = false := by decide +kernel
@[simp] theorem sv170 : (Str.ofString "read" = Str.ofString "write") = False := eq_false (by decide +kernel)
@[simp] theorem sw171 : (Str.ofString "read" == Str.ofString "call") = false := by decide +kernel
@[simp] theorem sv171 : (Str.ofString "read" = Str.ofString "call") = False := eq_false (by decide +kernel)
@[simp] theorem sw172 : (Str.ofString "read" == Str.ofString "end") = false := by decide +kernel
@[simp] theorem sv172 : (Str.ofString "read" = Str.ofString "end") = False := eq_false (by decide +kernel)
@[simp] theorem sw173 : (Str.ofString "read" == Str.ofString "mute") = false := by decide +kernel
@[simp] theorem sv173 : (Str.ofString "read" = Str.ofString "mute") = False := eq_false (by decide +kernel)
@[simp] theorem sw174 : (Str.ofString "read" == Str.ofString "alike") = false := by decide +kernel
@[simp] theorem sv174 : (Str.ofString "read" = Str.ofString "alike") = False := eq_false (by decide +kernel)
@[simp] theorem sw175 : (Str.ofString "read" == Str.ofString "apart") = false := by decide +kernel
@[simp] theorem sv175 : (Str.ofString "read" = Str.ofString "apart") = False := eq_false (by decide +kernel)
@[simp] theorem sw176 : (Str.ofString "write" == Str.ofString "x") = false := by decide +kernel
@[simp] theorem sv176 : (Str.ofString "write" = Str.ofString "x") = False := eq_false (by decide +kernel)
@[simp] theorem sw177 : (Str.ofString "write" == Str.ofString "y") = false := by decide +kernel
@[simp] theorem sv177 : (Str.ofString "write" = Str.ofString "y") = False := eq_false (by decide +kernel)
@[simp] theorem sw178 : (Str.ofString "write" == Str.ofString "+") = false := by decide +kernel
@[simp] theorem sv178 : (Str.ofString "write" = Str.ofString "+") = False := eq_false (by decide +kernel)
@[simp] theorem sw179 : (Str.ofString "write" == Str.ofString "-") = false := by decide +kernel
@[simp] theorem sv179 : (Str.ofString "write" = Str.ofString "-") = False := eq_false (by decide +kernel)
@[simp] theorem sw180 : (Str.ofString "write" == Str.ofString "*") = false := by decide +kernel
@[simp] theorem sv180 : (Str.ofString "write" = Str.ofString "*") = False := eq_false (by decide +kernel)
@[simp] theorem sw181 : (Str.ofString "write" == Str.ofString "set") = false := by decide +kernel
@[simp] theorem sv181 : (Str.ofString "write" = Str.ofString "set") = False := eq_false (by decide +kernel)
@[simp] theorem sw182 : (Str.ofString "write" == Str.ofString "if") = false := by decide +kernel
@[simp] theorem sv182 : (Str.ofString "write" = Str.ofString "if") = False := eq_false (by decide +kernel)
@[simp] theorem sw183 : (Str.ofString "write" == Str.ofString "go") = false := by decide +kernel
@[simp] theorem sv183 : (Str.ofString "write" = Str.ofString "go") = False := eq_false (by decide +kernel)
@[simp] theorem sw184 : (Str.ofString "write" == Str.ofString "say") = false := by decide +kernel
@[simp] theorem sv184 : (Str.ofString "write" = Str.ofString "say") = False := eq_false (by decide +kernel)
@[simp] theorem sw185 : (Str.ofString "write" == Str.ofString "ask") = false := by decide +kernel
@[simp] theorem sv185 : (Str.ofString "write" = Str.ofString "ask") = False := eq_false (by decide +kernel)
@[simp] theorem sw186 : (Str.ofString "write" == Str.ofString "read") = false := by decide +kernel
@[simp] theorem sv186 : (Str.ofString "write" = Str.ofString "read") = False := eq_false (by decide +kernel)
@[simp] theorem sw187 : (Str.ofString "write" == Str.ofString "call") = false := by decide +kernel
@[simp] theorem sv187 : (Str.ofString "write" = Str.ofString "call") = False := eq_false (by decide +kernel)
@[simp] theorem sw188 : (Str.ofString "write" == Str.ofString "end") = false := by decide +kernel
@[simp] theorem sv188 : (Str.ofString "write" = Str.ofString "end") = False := eq_false (by decide +kernel)
@[simp] theorem sw189 : (Str.ofString "write" == Str.ofString "mute") = false := by decide +kernel
@[simp] theorem sv189 : (Str.ofString "write" = Str.ofString "mute") = False := eq_false (by decide +kernel)
@[simp] theorem sw190 : (Str.ofString "write" == Str.ofString "alike") = false := by decide +kernel
@[simp] theorem sv190 : (Str.ofString "write" = Str.ofString "alike") = False := eq_false (by decide +kernel)
@[simp] theorem sw191 : (Str.ofString "write" == Str.ofString "apart") = false := by decide +kernel
@[simp] theorem sv191 : (Str.ofString "write" = Str.ofString "apart") = False := eq_false (by decide +kernel)
@[simp] theorem sw192 : (Str.ofString "call" == Str.ofString "x") = false := by decide +kernel
@[simp] theorem sv192 : (Str.ofString "call" = Str.ofString "x") = False := eq_false (by decide +kernel)
@[simp] theorem sw193 : (Str.ofString "call" == Str.ofString "y") = false := by decide +kernel
@[simp] theorem sv193 : (Str.ofString "call" = Str.ofString "y") = False := eq_false (by decide +kernel)
@[simp] theorem sw194 : (Str.ofString "call" == Str.ofString "+") = false := by decide +kernel
@[simp] theorem sv194 : (Str.ofString "call" = Str.ofString "+") = False := eq_false (by decide +kernel)
@[simp] theorem sw195 : (Str.ofString "call" == Str.ofString "-") = false := by decide +kernel
@[simp] theorem sv195 : (Str.ofString "call" = Str.ofString "-") = False := eq_false (by decide +kernel)
@[simp] theorem sw196 : (Str.ofString "call" == Str.ofString "*") = false := by decide +kernel
@[simp] theorem sv196 : (Str.ofString "call" = Str.ofString "*") = False := eq_false (by decide +kernel)
@[simp] theorem sw197 : (Str.ofString "call" == Str.ofString "set") = false := by decide +kernel
@[simp] theorem sv197 : (Str.ofString "call" = Str.ofString "set") = False := eq_false (by decide +kernel)
@[simp] theorem sw198 : (Str.ofString "call" == Str.ofString "if") = false := by decide +kernel
@[simp] theorem sv198 : (Str.ofString "call" = Str.ofString "if") = False := eq_false (by decide +kernel)
@[simp] theorem sw199 : (Str.ofString "call" == Str.ofString "go") = false := by decide +kernel
@[simp] theorem sv199 : (Str.ofString "call" = Str.ofString "go") = False := eq_false (by decide +kernel)
@[simp] theorem sw200 : (Str.ofString "call" == Str.ofString "say") = false := by decide +kernel
@[simp] theorem sv200 : (Str.ofString "call" = Str.ofString "say") = False := eq_false (by decide +kernel)
@[simp] theorem sw201 : (Str.ofString "call" == Str.ofString "ask") = false := by decide +kernel
@[simp] theorem sv201 : (Str.ofString "call" = Str.ofString "ask") = False := eq_false (by decide +kernel)
@[simp] theorem sw202 : (Str.ofString "call" == Str.ofString "read") = false := by decide +kernel
@[simp] theorem sv202 : (Str.ofString "call" = Str.ofString "read") = False := eq_false (by decide +kernel)
@[simp] theorem sw203 : (Str.ofString "call" == Str.ofString "write") = false := by decide +kernel
@[simp] theorem sv203 : (Str.ofString "call" = Str.ofString "write") = False := eq_false (by decide +kernel)
@[simp] theorem sw204 : (Str.ofString "call" == Str.ofString "end") = false := by decide +kernel
@[simp] theorem sv204 : (Str.ofString "call" = Str.ofString "end") = False := eq_false (by decide +kernel)
@[simp] theorem sw205 : (Str.ofString "call" == Str.ofString "mute") = false := by decide +kernel
@[simp] theorem sv205 : (Str.ofString "call" = Str.ofString "mute") = False := eq_false (by decide +kernel)
@[simp] theorem sw206 : (Str.ofString "call" == Str.ofString "alike") = false := by decide +kernel
@[simp] theorem sv206 : (Str.ofString "call" = Str.ofString "alike") = False := eq_false (by decide +kernel)
@[simp] theorem sw207 : (Str.ofString "call" == Str.ofString "apart") = false := by decide +kernel
@[simp] theorem sv207 : (Str.ofString "call" = Str.ofString "apart") = False := eq_false (by decide +kernel)
@[simp] theorem sw208 : (Str.ofString "end" == Str.ofString "x") = false := by decide +kernel
@[simp] theorem sv208 : (Str.ofString "end" = Str.ofString "x") = False := eq_false (by decide +kernel)
@[simp] theorem sw209 : (Str.ofString "end" == Str.ofString "y") = false := by decide +kernel
@[simp] theorem sv209 : (Str.ofString "end" = Str.ofString "y") = False := eq_false (by decide +kernel)
@[simp] theorem sw210 : (Str.ofString "end" == Str.ofString "+") = false := by decide +kernel
@[simp] theorem sv210 : (Str.ofString "end" = Str.ofString "+") = False := eq_false (by decide +kernel)
@[simp] theorem sw211 : (Str.ofString "end" == Str.ofString "-") = false := by decide +kernel
@[simp] theorem sv211 : (Str.ofString "end" = Str.ofString "-") = False := eq_false (by decide +kernel)
@[simp] theorem sw212 : (Str.ofString "end" == Str.ofString "*") = false := by decide +kernel
@[simp] theorem sv212 : (Str.ofString "end" = Str.ofString "*") = False := eq_false (by decide +kernel)
@[simp] theorem sw213 : (Str.ofString "end" == Str.ofString "set") = false := by decide +kernel
@[simp] theorem sv213 : (Str.ofString "end" = Str.ofString "set") = False := eq_false (by decide +kernel)
@[simp] theorem sw214 : (Str.ofString "end" == Str.ofString "if") = false := by decide +kernel
@[simp] theorem sv214 : (Str.ofString "end" = Str.ofString "if") = False := eq_false (by decide +kernel)
@[simp] theorem sw215 : (Str.ofString "end" == Str.ofString "go") = false := by decide +kernel
@[simp] theorem sv215 : (Str.ofString "end" = Str.ofString "go") = False := eq_false (by decide +kernel)
@[simp] theorem sw216 : (Str.ofString "end" == Str.ofString "say") = false := by decide +kernel
@[simp] theorem sv216 : (Str.ofString "end" = Str.ofString "say") = False := eq_false (by decide +kernel)
@[simp] theorem sw217 : (Str.ofString "end" == Str.ofString "ask") = false := by decide +kernel
@[simp] theorem sv217 : (Str.ofString "end" = Str.ofString "ask") = False := eq_false (by decide +kernel)
@[simp] theorem sw218 : (Str.ofString "end" == Str.ofString "read") = false := by decide +kernel
@[simp] theorem sv218 : (Str.ofString "end" = Str.ofString "read") = False := eq_false (by decide +kernel)
@[simp] theorem sw219 : (Str.ofString "end" == Str.ofString "write") = false := by decide +kernel
@[simp] theorem sv219 : (Str.ofString "end" = Str.ofString "write") = False := eq_false (by decide +kernel)
@[simp] theorem sw220 : (Str.ofString "end" == Str.ofString "call") = false := by decide +kernel
@[simp] theorem sv220 : (Str.ofString "end" = Str.ofString "call") = False := eq_false (by decide +kernel)
@[simp] theorem sw221 : (Str.ofString "end" == Str.ofString "mute") = false := by decide +kernel
@[simp] theorem sv221 : (Str.ofString "end" = Str.ofString "mute") = False := eq_false (by decide +kernel)
@[simp] theorem sw222 : (Str.ofString "end" == Str.ofString "alike") = false := by decide +kernel
@[simp] theorem sv222 : (Str.ofString "end" = Str.ofString "alike") = False := eq_false (by decide +kernel)
@[simp] theorem sw223 : (Str.ofString "end" == Str.ofString "apart") = false := by decide +kernel
@[simp] theorem sv223 : (Str.ofString "end" = Str.ofString "apart") = False := eq_false (by decide +kernel)
@[simp] theorem sw224 : (Str.ofString "mute" == Str.ofString "x") = false := by decide +kernel
@[simp] theorem sv224 : (Str.ofString "mute" = Str.ofString "x") = False := eq_false (by decide +kernel)
@[simp] theorem sw225 : (Str.ofString "mute" == Str.ofString "y") = false := by decide +kernel
@[simp] theorem sv225 : (Str.ofString "mute" = Str.ofString "y") = False := eq_false (by decide +kernel)
@[simp] theorem sw226 : (Str.ofString "mute" == Str.ofString "+") = false := by decide +kernel
@[simp] theorem sv226 : (Str.ofString "mute" = Str.ofString "+") = False := eq_false (by decide +kernel)
@[simp] theorem sw227 : (Str.ofString "mute" == Str.ofString "-") = false := by decide +kernel
@[simp] theorem sv227 : (Str.ofString "mute" = Str.ofString "-") = False := eq_false (by decide +kernel)
@[simp] theorem sw228 : (Str.ofString "mute" == Str.ofString "*") = false := by decide +kernel
@[simp] theorem sv228 : (Str.ofString "mute" = Str.ofString "*") = False := eq_false (by decide +kernel)
@[simp] theorem sw229 : (Str.ofString "mute" == Str.ofString "set") = false := by decide +kernel
@[simp] theorem sv229 : (Str.ofString "mute" = Str.ofString "set") = False := eq_false (by decide +kernel)
@[simp] theorem sw230 : (Str.ofString "mute" == Str.ofString "if") = false := by decide +kernel
@[simp] theorem sv230 : (Str.ofString "mute" = Str.ofString "if") = False := eq_false (by decide +kernel)
@[simp] theorem sw231 : (Str.ofString "mute" == Str.ofString "go") = false := by decide +kernel
@[simp] theorem sv231 : (Str.ofString "mute" = Str.ofString "go") = False := eq_false (by decide +kernel)
@[simp] theorem sw232 : (Str.ofString "mute" == Str.ofString "say") = false := by decide +kernel
@[simp] theorem sv232 : (Str.ofString "mute" = Str.ofString "say") = False := eq_false (by decide +kernel)
@[simp] theorem sw233 : (Str.ofString "mute" == Str.ofString "ask") = false := by decide +kernel
@[simp] theorem sv233 : (Str.ofString "mute" = Str.ofString "ask") = False := eq_false (by decide +kernel)
@[simp] theorem sw234 : (Str.ofString "mute" == Str.ofString "read") = false := by decide +kernel
@[simp] theorem sv234 : (Str.ofString "mute" = Str.ofString "read") = False := eq_false (by decide +kernel)
@[simp] theorem sw235 : (Str.ofString "mute" == Str.ofString "write") = false := by decide +kernel
@[simp] theorem sv235 : (Str.ofString "mute" = Str.ofString "write") = False := eq_false (by decide +kernel)
@[simp] theorem sw236 : (Str.ofString "mute" == Str.ofString "call") = false := by decide +kernel
@[simp] theorem sv236 : (Str.ofString "mute" = Str.ofString "call") = False := eq_false (by decide +kernel)
@[simp] theorem sw237 : (Str.ofString "mute" == Str.ofString "end") = false := by decide +kernel
@[simp] theorem sv237 : (Str.ofString "mute" = Str.ofString "end") = False := eq_false (by decide +kernel)
@[simp] theorem sw238 : (Str.ofString "mute" == Str.ofString "alike") = false := by decide +kernel
@[simp] theorem sv238 : (Str.ofString "mute" = Str.ofString "alike") = False := eq_false (by decide +kernel)
@[simp] theorem sw239 : (Str.ofString "mute" == Str.ofString "apart") = false := by decide +kernel
@[simp] theorem sv239 : (Str.ofString "mute" = Str.ofString "apart") = False := eq_false (by decide +kernel)
@[simp] theorem sw240 : (Str.ofString "alike" == Str.ofString "x") = false := by decide +kernel
@[simp] theorem sv240 : (Str.ofString "alike" = Str.ofString "x") = False := eq_false (by decide +kernel)
@[simp] theorem sw241 : (Str.ofString "alike" == Str.ofString "y") = false := by decide +kernel
@[simp] theorem sv241 : (Str.ofString "alike" = Str.ofString "y") = False := eq_false (by decide +kernel)
@[simp] theorem sw242 : (Str.ofString "alike" == Str.ofString "+") = false := by decide +kernel
@[simp] theorem sv242 : (Str.ofString "alike" = Str.ofString "+") = False := eq_false (by decide +kernel)
@[simp] theorem sw243 : (Str.ofString "alike" == Str.ofString "-") = false := by decide +kernel
@[simp] theorem sv243 : (Str.ofString "alike" = Str.ofString "-") = False := eq_false (by decide +kernel)
@[simp] theorem sw244 : (Str.ofString "alike" == Str.ofString "*") = false := by decide +kernel
@[simp] theorem sv244 : (Str.ofString "alike" = Str.ofString "*") = False := eq_false (by decide +kernel)
@[simp] theorem sw245 : (Str.ofString "alike" == Str.ofString "set") = false := by decide +kernel
@[simp] theorem sv245 : (Str.ofString "alike" = Str.ofString "set") = False := eq_false (by decide +kernel)
@[simp] theorem sw246 : (Str.ofString "alike" == Str.ofString "if") = false := by decide +kernel
@[simp] theorem sv246 : (Str.ofString "alike" = Str.ofString "if") = False := eq_false (by decide +kernel)
@[simp] theorem sw247 : (Str.ofString "alike" == Str.ofString "go") = false := by decide +kernel
@[simp] theorem sv247 : (Str.ofString "alike" = Str.ofString "go") = False := eq_false (by decide +kernel)
@[simp] theorem sw248 : (Str.ofString "alike" == Str.ofString "say") = false := by decide +kernel
@[simp] theorem sv248 : (Str.ofString "alike" = Str.ofString "say") = False := eq_false (by decide +kernel)
@[simp] theorem sw249 : (Str.ofString "alike" == Str.ofString "ask") = false := by decide +kernel
@[simp] theorem sv249 : (Str.ofString "alike" = Str.ofString "ask") = False := eq_false (by decide +kernel)
@[simp] theorem sw250 : (Str.ofString "alike" == Str.ofString "read") = false := by decide +kernel
@[simp] theorem sv250 : (Str.ofString "alike" = Str.ofString "read") = False := eq_false (by decide +kernel)
@[simp] theorem sw251 : (Str.ofString "alike" == Str.ofString "write") = false := by decide +kernel
@[simp] theorem sv251 : (Str.ofString "alike" = Str.ofString "write") = False := eq_false (by decide +kernel)
@[simp] theorem sw252 : (Str.ofString "alike" == Str.ofString "call") = false := by decide +kernel
@[simp] theorem sv252 : (Str.ofString "alike" = Str.ofString "call") = False := eq_false (by decide +kernel)
@[simp] theorem sw253 : (Str.ofString "alike" == Str.ofString "end") = false := by decide +kernel
@[simp] theorem sv253 : (Str.ofString "alike" = Str.ofString "end") = False := eq_false (by decide +kernel)
@[simp] theorem sw254 : (Str.ofString "alike" == Str.ofString "mute") = false := by decide +kernel
@[simp] theorem sv254 : (Str.ofString "alike" = Str.ofString "mute") = False := eq_false (by decide +kernel)
@[simp] theorem sw255 : (Str.ofString "alike" == Str.ofString "apart") = false := by decide +kernel
@[simp] theorem sv255 : (Str.ofString "alike" = Str.ofString "apart") = False := eq_false (by decide +kernel)
@[simp] theorem sw256 : (Str.ofString "apart" == Str.ofString "x") = false := by decide +kernel
@[simp] theorem sv256 : (Str.ofString "apart" = Str.ofString "x") = False := eq_false (by decide +kernel)
@[simp] theorem sw257 : (Str.ofString "apart" == Str.ofString "y") = false := by decide +kernel
@[simp] theorem sv257 : (Str.ofString "apart" = Str.ofString "y") = False := eq_false (by decide +kernel)
@[simp] theorem sw258 : (Str.ofString "apart" == Str.ofString "+") = false := by decide +kernel
@[simp] theorem sv258 : (Str.ofString "apart" = Str.ofString "+") = False := eq_false (by decide +kernel)
@[simp] theorem sw259 : (Str.ofString "apart" == Str.ofString "-") = false := by decide +kernel
@[simp] theorem sv259 : (Str.ofString "apart" = Str.ofString "-") = False := eq_false (by decide +kernel)
@[simp] theorem sw260 : (Str.ofString "apart" == Str.ofString "*") = false := by decide +kernel
@[simp] theorem sv260 : (Str.ofString "apart" = Str.ofString "*") = False := eq_false (by decide +kernel)
@[simp] theorem sw261 : (Str.ofString "apart" == Str.ofString "set") = false := by decide +kernel
@[simp] theorem sv261 : (Str.ofString "apart" = Str.ofString "set") = False := eq_false (by decide +kernel)
@[simp] theorem sw262 : (Str.ofString "apart" == Str.ofString "if") = false := by decide +kernel
@[simp] theorem sv262 : (Str.ofString "apart" = Str.ofString "if") = False := eq_false (by decide +kernel)
@[simp] theorem sw263 : (Str.ofString "apart" == Str.ofString "go") = false := by decide +kernel
@[simp] theorem sv263 : (Str.ofString "apart" = Str.ofString "go") = False := eq_false (by decide +kernel)
@[simp] theorem sw264 : (Str.ofString "apart" == Str.ofString "say") = false := by decide +kernel
@[simp] theorem sv264 : (Str.ofString "apart" = Str.ofString "say") = False := eq_false (by decide +kernel)
@[simp] theorem sw265 : (Str.ofString "apart" == Str.ofString "ask") = false := by decide +kernel
@[simp] theorem sv265 : (Str.ofString "apart" = Str.ofString "ask") = False := eq_false (by decide +kernel)
@[simp] theorem sw266 : (Str.ofString "apart" == Str.ofString "read") = false := by decide +kernel
@[simp] theorem sv266 : (Str.ofString "apart" = Str.ofString "read") = False := eq_false (by decide +kernel)
@[simp] theorem sw267 : (Str.ofString "apart" == Str.ofString "write") = false := by decide +kernel
@[simp] theorem sv267 : (Str.ofString "apart" = Str.ofString "write") = False := eq_false (by decide +kernel)
@[simp] theorem sw268 : (Str.ofString "apart" == Str.ofString "call") = false := by decide +kernel
@[simp] theorem sv268 : (Str.ofString "apart" = Str.ofString "call") = False := eq_false (by decide +kernel)
@[simp] theorem sw269 : (Str.ofString "apart" == Str.ofString "end") = false := by decide +kernel
@[simp] theorem sv269 : (Str.ofString "apart" = Str.ofString "end") = False := eq_false (by decide +kernel)
@[simp] theorem sw270 : (Str.ofString "apart" == Str.ofString "mute") = false := by decide +kernel
@[simp] theorem sv270 : (Str.ofString "apart" = Str.ofString "mute") = False := eq_false (by decide +kernel)
@[simp] theorem sw271 : (Str.ofString "apart" == Str.ofString "alike") = false := by decide +kernel
@[simp] theorem sv271 : (Str.ofString "apart" = Str.ofString "alike") = False := eq_false (by decide +kernel)
end J

namespace Kx
open PySem PySem.Spec PyProof.Rows L2
def stD (r x y : Nat) : PyData := .tuple [.int r, .int x, .int y]
def line (b r x : Nat) (n : Nat) : List PyData := (List.range n).map fun y => stD r x y
def blk (b r : Nat) (n : Nat) : List PyData := (List.range n).flatMap fun x => line b r x b
def flat (b r : Nat) (n : Nat) : List PyData := (List.range n).map fun k => stD r (k / b) (k % b)
def loud (t : List Rw) (n : Nat) : List Nat := (List.range n).filter fun i => !silentAt t i
def stands (t : List Rw) (b : Nat) (n : Nat) : List PyData := (loud t n).flatMap fun r => blk b r b
theorem blk_flat {b : Nat} (h : b = 2 ∨ b = 3 ∨ b = 4) (r : Nat) : blk b r b = flat b r (b * b) := by
  rcases h with rfl | rfl | rfl <;> rfl
theorem line_succ (b r x n : Nat) : line b r x (n + 1) = line b r x n ++ [stD r x n] := by
  unfold line
  rw [List.range_succ, List.map_append]
  rfl
theorem blk_succ (b r n : Nat) : blk b r (n + 1) = blk b r n ++ line b r n b := by
  unfold blk
  rw [List.range_succ, List.flatMap_append]
  simp
theorem flat_succ (b r n : Nat) : flat b r (n + 1) = flat b r n ++ [stD r (n / b) (n % b)] := by
  unfold flat
  rw [List.range_succ, List.map_append]
  rfl
theorem loud_succ (t : List Rw) (n : Nat) : loud t (n + 1) = if silentAt t n = true then loud t n else loud t n ++ [n] := by
  unfold loud
  rw [List.range_succ, List.filter_append]
  cases h : silentAt t n <;> simp [h]
theorem stands_succ (t : List Rw) (b n : Nat) : stands t b (n + 1) = if silentAt t n = true then stands t b n else stands t b n ++ blk b n b := by
  unfold stands
  rw [loud_succ]
  split
  · rfl
  · rw [List.flatMap_append]
    simp
theorem blk_len {b : Nat} (h : b = 2 ∨ b = 3 ∨ b = 4) (r : Nat) : (blk b r b).length = b * b := by
  rw [blk_flat h]
  unfold flat
  rw [List.length_map, List.length_range]
theorem stands_len {b : Nat} (h : b = 2 ∨ b = 3 ∨ b = 4) (t : List Rw) : ∀ n, (stands t b n).length ≤ 16 * n
  | 0 => Nat.zero_le _
  | n + 1 => by
    have ih := stands_len h t n
    rw [stands_succ]
    split
    · omega
    · rw [List.length_append, blk_len h]
      rcases h with rfl | rfl | rfl <;> omega
/-- a list that grows at D keeps the tuples -/
theorem keepT_put {K : PySem.W.Frag} {H : Hp} {D : Addr} {xs ys : List V} (h : H D = some (.lst xs)) : KeepT K H (upd H D (.lst ys)) := fun a zs q => by
  rcases q with (q | ⟨o, q⟩) | q
  · exact .inl (.inl (by rw [upd_ne (show a ≠ D from ne_of q h (by intro z; cases z))]; exact q))
  · exact .inl (.inr ⟨o, by rw [upd_ne (show a ≠ D from ne_of q h (by intro z; cases z))]; exact q⟩)
  · exact .inr q
/-- what stood ahead of D stands while D grows -/
theorem same_put {H H1 : Hp} {D : Addr} {o : HO} (h : H D = none) (s : Same H H1) : Same H (upd H1 D o) := fun a u e => by
  rw [upd_ne (ne_of_none e h)]
  exact s a u e
theorem DtAll.snoc {K : PySem.W.Frag} {H : Hp} {vs : List V} {ds : List PyData} {v : V} {d : PyData} (h : DtAll K H vs ds) (q : Dt K H v d) : DtAll K H (vs ++ [v]) (ds ++ [d]) := h.app (.cons q .nil)
end Kx

namespace Kx
open PySem PySem.Spec PyProof.Rows L2
def Op.val (x y : Int) : Op → Int
  | .x => x
  | .y => y
  | .n k => k
def sgn (s : Str) (b l r : Int) : Int := if s = "+" then (l + r) % b else if s = "-" then (l - r) % b else (l * r) % b
def Ex.val (b x y : Int) : Ex → Int
  | .o a => a.val x y
  | .t s l r => sgn s b (l.val x y) (r.val x y)
theorem Op.val_in {b x y : Int} {o : Op} (h : o.ok b) (hx : 0 ≤ x ∧ x < b) (hy : 0 ≤ y ∧ y < b) : 0 ≤ o.val x y ∧ o.val x y < b := by
  cases o with
  | x => exact hx
  | y => exact hy
  | n k => exact h
theorem Ex.val_in {b x y : Int} {o : Ex} (h : o.ok b) (hx : 0 ≤ x ∧ x < b) (hy : 0 ≤ y ∧ y < b) : 0 ≤ o.val b x y ∧ o.val b x y < b := by
  cases o with
  | o a => exact Op.val_in h hx hy
  | t s l r =>
    have hb : 0 < b := by omega
    show 0 ≤ sgn s b (l.val x y) (r.val x y) ∧ sgn s b (l.val x y) (r.val x y) < b
    generalize l.val x y = p
    generalize r.val x y = q
    unfold sgn
    split
    · exact ⟨Int.emod_nonneg _ (by omega), Int.emod_lt_of_pos _ hb⟩
    · split
      · exact ⟨Int.emod_nonneg _ (by omega), Int.emod_lt_of_pos _ hb⟩
      · exact ⟨Int.emod_nonneg _ (by omega), Int.emod_lt_of_pos _ hb⟩
/-- a stand, as data -/
def stI (r x y : Int) : PyData := .tuple [.int r, .int x, .int y]
theorem tyx_tup {K : PySem.W.Frag} {H : Hp} {a : Addr} {xs : List V} (h : SqT K H a xs) : TyX K H (.ref a) (.type "tuple") := by
  rcases h with (h | ⟨o, h⟩) | ⟨o, its, n, h, c, _⟩
  · exact .base (.tup h)
  · exact .fTuple h
  · exact .kTuple h c
theorem tyx_lst {K : PySem.W.Frag} {H : Hp} {a : Addr} {xs : List V} (h : SqL K H a xs) : TyX K H (.ref a) (.type "list") := by
  rcases h with (h | ⟨o, h⟩) | ⟨o, its, n, h, c, _⟩
  · exact .base (.lst h)
  · exact .base (.frz h)
  · exact .kList h c
/-- the class of data -/
def tyName : PyData → String
  | .none => "NoneType"
  | .bool _ => "bool"
  | .int _ => "int"
  | .str _ => "str"
  | .list _ => "list"
  | .tuple _ => "tuple"
  | .dict _ => "dict"
theorem dp_ty {K : PySem.W.Frag} {H : Hp} {v : V} {d : PyData} (h : Dp K H v d) : TyX K H v (.type (tyName d)) := by
  cases h with
  | non => exact .base .non
  | bl b => exact .base (.bl b)
  | int i => exact .base (.int i)
  | str x => exact .base (.str x)
  | lst h q => exact tyx_lst h
  | tup h q => exact tyx_tup h
/-- isinstance(v, T) of data -/
theorem isi_at {K : PySem.W.Frag} {H : Hp} {v : V} {d : PyData} {T : String} {b : Bool} {Q : VK} (h : Dp K H v d) (k : kitB (tyName d) T = some b) (q : Q (.bl b) H) : rIsi K [v, .ty T] H Q :=
  ⟨v, .ty T, .type (tyName d), .type T, b, rfl, .ty T, dp_ty h, kit_ty k, q⟩
def isInt : PyData → Bool
  | .int _ => true
  | _ => false
def isBelow (top : Int) : PyData → Bool
  | .int i => decide (0 ≤ i) && decide (i < top)
  | _ => false
theorem dt_op {K : PySem.W.Frag} {H : Hp} {v : V} {o : Op} (h : Dt K H v o.d) : (o = .x ∧ v = .str "x") ∨ (o = .y ∧ v = .str "y") ∨ ∃ k, o = .n k ∧ v = .int k := by
  cases o with
  | x => cases h; exact .inl ⟨rfl, rfl⟩
  | y => cases h; exact .inr (.inl ⟨rfl, rfl⟩)
  | n k => cases h; exact .inr (.inr ⟨k, rfl, rfl⟩)
theorem dt_three {K : PySem.W.Frag} {H : Hp} {v : V} {d e f : PyData} (h : Dt K H v (.tuple [d, e, f])) : ∃ a x y z, v = .ref a ∧ SqT K H a [x, y, z] ∧ Dt K H x d ∧ Dt K H y e ∧ Dt K H z f := by
  obtain ⟨a, xs, rfl, hs, hd⟩ := dt_tuple h
  cases hd with
  | cons h1 q => cases q with
    | cons h2 q => cases q with
      | cons h3 q => cases q; exact ⟨a, _, _, _, rfl, hs, h1, h2, h3⟩
theorem dt_stand {K : PySem.W.Frag} {H : Hp} {v : V} {r x y : Int} (h : Dt K H v (stI r x y)) : ∃ a, v = .ref a ∧ SqT K H a [.int r, .int x, .int y] := by
  obtain ⟨a, _, _, _, rfl, hs, h1, h2, h3⟩ := dt_three h
  cases h1; cases h2; cases h3
  exact ⟨a, rfl, hs⟩
theorem dtall_cons {K : PySem.W.Frag} {H : Hp} {vs : List V} {d : PyData} {ds : List PyData} (h : DtAll K H vs (d :: ds)) : ∃ u us, vs = u :: us ∧ Dt K H u d ∧ DtAll K H us ds := by
  cases h with
  | cons h q => exact ⟨_, _, rfl, h, q⟩
theorem dtall_nil {K : PySem.W.Frag} {H : Hp} {vs : List V} (h : DtAll K H vs []) : vs = [] := by
  cases h
  rfl
end Kx

namespace Kx
open PySem PySem.Spec PyProof.Rows L2
/-! silent rows, as mathematics -/
abbrev P3 := Nat × Int × Int
def Pq (b : Int) (x y : Int) : Prop := (0 ≤ x ∧ x < b) ∧ 0 ≤ y ∧ y < b
def stepR (b : Int) (p : P3) : Rw → P3
  | .set v e => if v = "x" then (p.1 + 1, e.val b p.2.1 p.2.2, p.2.2) else (p.1 + 1, p.2.1, e.val b p.2.1 p.2.2)
  | .go r => (r.toNat, p.2.1, p.2.2)
  | .iff e f r => if e.val b p.2.1 p.2.2 = f.val b p.2.1 p.2.2 then (r.toNat, p.2.1, p.2.2) else (p.1 + 1, p.2.1, p.2.2)
  | _ => p
def stp (t : List Rw) (b : Int) (p : P3) : P3 := match t[p.1]? with
  | some r => stepR b p r
  | none => p
def it (t : List Rw) (b : Int) (p : P3) : Nat → P3
  | 0 => p
  | n + 1 => stp t b (it t b p n)
def Ind (t : List Rw) (b : Int) (p : P3) : Prop := p.1 ≤ t.length ∧ Pq b p.2.1 p.2.2
def ptD (p : P3) : PyData := stI p.1 p.2.1 p.2.2
def three3 (p : P3) : List Int := [(p.1 : Int), p.2.1, p.2.2]
theorem three3_inj {p q : P3} (h : three3 p = three3 q) : p = q := by
  unfold three3 at h
  obtain ⟨i, x, y⟩ := p
  obtain ⟨j, u, v⟩ := q
  injection h with h1 h2
  injection h2 with h2 h3
  injection h3 with h3 h4
  have e1 : i = j := Int.ofNat_inj.mp h1
  cases e1
  cases h2
  cases h3
  rfl
theorem stp_in {t : List Rw} {N : List Str} {b : Int} {p : P3} (ok : Tx.ok b N t) (h : Ind t b p) : Ind t b (stp t b p) := by
  unfold stp
  cases hrow : t[p.1]? with
  | none => exact h
  | some r =>
    have lt : p.1 < t.length := (List.getElem?_eq_some_iff.mp hrow).1
    have rok := ok r (List.mem_of_getElem? hrow)
    obtain ⟨i, x, y⟩ := p
    obtain ⟨_, px, py⟩ := h
    cases r with
    | set v e =>
      have z := Ex.val_in (o := e) rok.2 px py
      show Ind t b (if v = "x" then (i + 1, e.val b x y, y) else (i + 1, x, e.val b x y))
      split
      · exact ⟨lt, z, py⟩
      · exact ⟨lt, px, z⟩
    | iff e f r =>
      obtain ⟨_, _, r0, r1⟩ := rok
      show Ind t b (if e.val b x y = f.val b x y then (r.toNat, x, y) else (i + 1, x, y))
      split
      · exact ⟨(by show r.toNat ≤ t.length; omega), px, py⟩
      · exact ⟨lt, px, py⟩
    | go r =>
      obtain ⟨r0, r1⟩ := rok
      exact ⟨(by show r.toNat ≤ t.length; omega), px, py⟩
    | say e => exact ⟨Nat.le_of_lt lt, px, py⟩
    | ask v => exact ⟨Nat.le_of_lt lt, px, py⟩
    | read c v => exact ⟨Nat.le_of_lt lt, px, py⟩
    | write c e => exact ⟨Nat.le_of_lt lt, px, py⟩
    | call n e v => exact ⟨Nat.le_of_lt lt, px, py⟩
    | fin e => exact ⟨Nat.le_of_lt lt, px, py⟩
theorem it_in {t : List Rw} {N : List Str} {b : Int} {p : P3} (ok : Tx.ok b N t) (h : Ind t b p) : ∀ n, Ind t b (it t b p n)
  | 0 => h
  | n + 1 => stp_in ok (it_in ok h n)
/-- the stand that silent rows lead to, or none -/
def res (t : List Rw) (b : Nat) (p : P3) : Option P3 := ((List.range (t.length * b * b + 1)).find? fun n => !silentAt t (it t b p n).1).map fun n => it t b p n
def resD (t : List Rw) (b : Nat) (p : P3) : PyData := match res t b p with
  | some q => ptD q
  | none => stI (-1) 0 0
theorem find_at {q : Nat → Bool} {n k : Nat} (h : k < n) (hk : q k = true) (hb : ∀ j, j < k → q j = false) : (List.range n).find? q = some k := find_range q h hk hb
theorem res_some {t : List Rw} {b : Nat} {p : P3} {n : Nat} (past : ∀ j, j < n → silentAt t (it t b p j).1 = true) (here : silentAt t (it t b p n).1 = false) (le : n ≤ t.length * b * b) : resD t b p = ptD (it t b p n) := by
  have e : res t b p = some (it t b p n) := by
    unfold res
    rw [find_at (k := n) (by omega) (by rw [here]; rfl) fun j hj => by rw [past j hj]; rfl]
    rfl
  unfold resD
  rw [e]
theorem res_none {t : List Rw} {b : Nat} {p : P3} (all : ∀ j, j ≤ t.length * b * b → silentAt t (it t b p j).1 = true) : resD t b p = stI (-1) 0 0 := by
  have e : res t b p = none := by
    unfold res
    rw [find_range_none _ fun k hk => by rw [all k (by omega)]; rfl]
    rfl
  unfold resD
  rw [e]
theorem it_add (t : List Rw) (b : Int) (p : P3) (i : Nat) : ∀ n, it t b p (i + n) = it t b (it t b p i) n
  | 0 => rfl
  | n + 1 => by
    show stp t b (it t b p (i + n)) = stp t b (it t b (it t b p i) n)
    rw [it_add t b p i n]
/-- a point that comes again comes forever -/
theorem forever {t : List Rw} {b : Int} {p : P3} {i m : Nat} (past : ∀ j, j < m → silentAt t (it t b p j).1 = true) (lt : i < m) (e : it t b p m = it t b p i) : ∀ n, silentAt t (it t b p n).1 = true := by
  have key : ∀ n, ∃ j, j < m ∧ it t b p n = it t b p j := by
    intro n
    induction n with
    | zero => exact ⟨0, by omega, rfl⟩
    | succ n ih =>
      obtain ⟨j, hj, ej⟩ := ih
      have s1 : it t b p (n + 1) = it t b p (j + 1) := by
        show stp t b (it t b p n) = stp t b (it t b p j)
        rw [ej]
      by_cases c : j + 1 < m
      · exact ⟨j + 1, c, s1⟩
      · have : j + 1 = m := by omega
        rw [this, e] at s1
        exact ⟨i, lt, s1⟩
  intro n
  obtain ⟨j, hj, ej⟩ := key n
  rw [ej]
  exact past j hj
theorem few_points {t : List Rw} {N : List Str} {b : Nat} {p : P3} {m : Nat} (ok : Tx.ok b N t) (h : Ind t b p) (past : ∀ j, j < m → silentAt t (it t b p j).1 = true) (nd : ((List.range m).map fun j => three3 (it t b p j)).Nodup) : m ≤ t.length * b * b := by
  have code : ∀ j, j < m → ∃ c, c < t.length * b * b ∧ c = (it t b p j).1 * b * b + (it t b p j).2.1.toNat * b + (it t b p j).2.2.toNat := fun j hj => by
    obtain ⟨_, ⟨x0, x1⟩, y0, y1⟩ := it_in ok h j
    have s := past j hj
    have lt : (it t b p j).1 < t.length := by
      unfold silentAt at s
      cases e : t[(it t b p j).1]? with
      | none => rw [e] at s; cases s
      | some r => exact (List.getElem?_eq_some_iff.mp e).1
    refine ⟨_, ?_, rfl⟩
    generalize (it t b p j).1 = i at lt
    generalize (it t b p j).2.1 = x at x0 x1
    generalize (it t b p j).2.2 = y at y0 y1
    have hx : x.toNat + 1 ≤ b := by omega
    have hy : y.toNat + 1 ≤ b := by omega
    have h1 : (x.toNat + 1) * b ≤ b * b := Nat.mul_le_mul_right b hx
    have h2 : (i + 1) * b * b ≤ t.length * b * b := Nat.mul_le_mul_right b (Nat.mul_le_mul_right b lt)
    rw [Nat.add_mul, Nat.one_mul] at h1
    rw [Nat.add_mul, Nat.add_mul, Nat.one_mul] at h2
    omega
  let f : Nat → Nat := fun j => (it t b p j).1 * b * b + (it t b p j).2.1.toNat * b + (it t b p j).2.2.toNat
  have inj : ∀ i j, i < m → j < m → f i = f j → three3 (it t b p i) = three3 (it t b p j) := fun i j hi hj e => by
    obtain ⟨_, ⟨x0, x1⟩, y0, y1⟩ := it_in ok h i
    obtain ⟨_, ⟨u0, u1⟩, v0, v1⟩ := it_in ok h j
    have e' : (it t b p i).1 * b * b + (it t b p i).2.1.toNat * b + (it t b p i).2.2.toNat = (it t b p j).1 * b * b + (it t b p j).2.1.toNat * b + (it t b p j).2.2.toNat := e
    unfold three3
    generalize (it t b p i).1 = a at e'
    generalize (it t b p i).2.1 = x at x0 x1 e'
    generalize (it t b p i).2.2 = y at y0 y1 e'
    generalize (it t b p j).1 = c at e'
    generalize (it t b p j).2.1 = u at u0 u1 e'
    generalize (it t b p j).2.2 = v at v0 v1 e'
    have b0 : 0 < b := by omega
    have r1 : ∀ a x y : Nat, a * b * b + x * b + y = (a * b + x) * b + y := fun a x y => by rw [Nat.add_mul]
    rw [r1, r1] at e'
    have yy : y.toNat = v.toNat := by
      have z := congrArg (· % b) e'
      simp only [Nat.mul_add_mod', Nat.add_comm _ y.toNat, Nat.add_comm _ v.toNat, Nat.add_mul_mod_self_right] at z
      rw [Nat.mod_eq_of_lt (by omega), Nat.mod_eq_of_lt (by omega)] at z
      exact z
    have ax : a * b + x.toNat = c * b + u.toNat := by
      rw [yy] at e'
      exact Nat.eq_of_mul_eq_mul_right b0 (Nat.add_right_cancel e')
    have xx : x.toNat = u.toNat := by
      have z := congrArg (· % b) ax
      simp only [Nat.add_comm _ x.toNat, Nat.add_comm _ u.toNat, Nat.add_mul_mod_self_right] at z
      rw [Nat.mod_eq_of_lt (by omega), Nat.mod_eq_of_lt (by omega)] at z
      exact z
    have aa : a = c := by
      rw [xx] at ax
      exact Nat.eq_of_mul_eq_mul_right b0 (Nat.add_right_cancel ax)
    rw [aa, show x = u by omega, show y = v by omega]
  have nd2 : ((List.range m).map f).Nodup := by
    have base := nd
    rw [List.Nodup, List.pairwise_map] at base ⊢
    refine List.Pairwise.imp_of_mem ?_ base
    intro i j hi hj ne e
    exact ne (inj i j (List.mem_range.mp hi) (List.mem_range.mp hj) e)
  have z := nat_nodup_len _ (List.range (t.length * b * b)) nd2 fun c hc => by
    obtain ⟨j, hj, rfl⟩ := List.mem_map.mp hc
    obtain ⟨c, lc, ec⟩ := code j (List.mem_range.mp hj)
    rw [List.mem_range]
    have ef : f j = c := ec.symm
    rw [ef]
    exact lc
  rw [List.length_map, List.length_range, List.length_range] at z
  exact z
end Kx

set_option autoImplicit false
namespace J
open PySem L2
open Kx (Op Ex Rw vok silentAt P3)
/-! texts as values -/
def opD : Op → D
  | .x => .str "x"
  | .y => .str "y"
  | .n k => .int k
def exD : Ex → D
  | .o a => opD a
  | .t s a b => .tup [.str s, opD a, opD b]
def rwT : Rw → List D
  | .set v e => [.str v, exD e]
  | .iff e f r => [exD e, exD f, .int r]
  | .go r => [.int r]
  | .say e => [exD e]
  | .ask v => [.str v]
  | .read c v => [.int c, .str v]
  | .write c e => [.int c, exD e]
  | .call n e v => [.str n, exD e, .str v]
  | .fin e => [exD e]
def rwD (r : Rw) : D := .tup (.str r.w :: rwT r)
def txD (t : List Rw) : D := .tup (t.map rwD)
def stD (r x y : Int) : D := .tup [.int r, .int x, .int y]
def ptD (p : P3) : D := stD p.1 p.2.1 p.2.2
@[simp] theorem opD_und (n : Nat) (o : Op) : D.und n (opD o) = true := by cases o <;> simp [opD]
@[simp] theorem exD_und (n : Nat) (o : Ex) : D.und n (exD o) = true := by cases o <;> simp [exD]
@[simp] theorem rwD_und (n : Nat) (o : Rw) : D.und n (rwD o) = true := by cases o <;> simp [rwD, rwT]
@[simp] theorem stD_und (n : Nat) (r x y : Int) : D.und n (stD r x y) = true := by simp [stD]
@[simp] theorem ptD_und (n : Nat) (p : P3) : D.und n (ptD p) = true := by simp [ptD]
theorem undAll_map {α : Type} (f : α → D) (n : Nat) (h : ∀ a, D.und n (f a) = true) : ∀ l : List α, D.undAll n (l.map f) = true
  | [] => by simp
  | a :: l => by simp [h a, undAll_map f n h l]
@[simp] theorem txD_und (n : Nat) (t : List Rw) : D.und n (txD t) = true := by simp [txD]; exact undAll_map _ _ (rwD_und n) t
end J

set_option autoImplicit false
namespace J
open PySem L2
open Kx (Op Ex Rw vok silentAt P3)
theorem small_mul {b p q : Int} (hb : b ≤ 4) (hp : 0 ≤ p ∧ p < b) : cMul p q = true := by
  unfold cMul
  have h1 : decide (-(2 ^ 64) < p) = true := decide_eq_true (by omega)
  have h2 : decide (p < 2 ^ 64) = true := decide_eq_true (by omega)
  rw [h1, h2]
  rfl
theorem combine_eq {s : Str} {b p q : Int} (hs : s = "+" ∨ s = "-" ∨ s = "*") (hb : 0 < b) (hb4 : b ≤ 4) (hp : 0 ≤ p ∧ p < b) (S : Sto) : F_combine [.str s, .int p, .int q, .int b] S = some (.int (Kx.sgn s b p q), S) := by
  rcases hs with rfl | rfl | rfl <;> simp [F_combine, B_combine, Kx.sgn, hb, small_mul hb4 hp]
theorem value_op (o : Op) (r x y b : Int) (S : Sto) (n : Nat) : F_value_of_n (n + 1) [opD o, stD r x y, .int b] S = some (.int (o.val x y), S) := by
  cases o <;> simp [F_value_of_n, opD, stD, Kx.Op.val]
theorem value_of_eq {e : Ex} {b : Int} (he : e.ok b) (hb : 0 < b) (hb4 : b ≤ 4) {x y : Int} (hx : 0 ≤ x ∧ x < b) (hy : 0 ≤ y ∧ y < b) (r : Int) (S : Sto) : F_value_of [exD e, stD r x y, .int b] S = some (.int (e.val b x y), S) := by
  cases e with
  | o a => exact value_op a r x y b S 1
  | t s l m =>
    have h1 := Kx.Op.val_in he.2.1 hx hy
    have v1 := fun S => value_op l r x y b S 0
    have v2 := fun S => value_op m r x y b S 0
    show F_value_of_n 2 _ _ = _
    rw [F_value_of_n]
    simp only [Nat.zero_add] at v1 v2
    simp [exD, v1, v2, combine_eq he.1 hb hb4 h1, Kx.Ex.val]
theorem ptD_st (p : P3) : ptD p = stD p.1 p.2.1 p.2.2 := rfl
theorem atI_map {α : Type} (f : α → D) (l : List α) {i : Nat} {a : α} (h : l[i]? = some a) : atI (l.map f) (i : Int) = some (f a) := atI_nat (by rw [List.getElem?_map, h]; rfl)
theorem row_at {t : List Rw} {i : Nat} {r : Rw} (h : t[i]? = some r) (S : Sto) : gIdx (txD t) (.int i) S = some (rwD r, S) := by
  show gIdx (.tup _) _ _ = _
  rw [gIdx_tup, atI_map rwD t h]
  rfl
theorem in_sil (r : Rw) (S : Sto) : gIn false (.str r.w) (.tup [.str "set", .str "if", .str "go"]) S = some (.bl r.silent, S) := by
  have h := Kx.Rw.w_in r
  show (some (D.bl (false ^^ inV (.str r.w) [.str "set", .str "if", .str "go"]), S) : Option (D × Sto)) = _
  rw [h, Bool.false_xor]
theorem is_silent_eq (t : List Rw) {i : Nat} (hi : i ≤ t.length) (S : Sto) : F_is_silent [txD t, .int i] S = some (.bl (silentAt t i), S) := by
  unfold silentAt
  cases h : t[i]? with
  | none =>
    have : t.length ≤ i := List.getElem?_eq_none_iff.mp h
    have e : i = t.length := by omega
    subst e
    simp [F_is_silent, B_is_silent, txD]
  | some r =>
    have hl : i < t.length := (List.getElem?_eq_some_iff.mp h).1
    have h2 : decide ((i : Int) < (t.length : Int)) = true := decide_eq_true (by omega)
    simp [F_is_silent, B_is_silent, row_at h, rwD, in_sil]
    simp [txD, h2, hl, in_sil]
end J

set_option autoImplicit false
namespace J
open PySem L2
open Kx (Op Ex Rw vok silentAt P3)
/-! the bag of numbers that a law draws from -/
def BagO (n : Nat) (o : O) : Prop := ∃ d m c : Int, o = .lst [.int d, .int m, .int c] ∧ 0 ≤ d ∧ 0 ≤ m ∧ m < 2305843009213693951 ∧ 0 ≤ c ∧ c ≤ n
theorem BagO.mono {n m : Nat} {o : O} (h : BagO n o) (l : n ≤ m) : BagO m o := by
  obtain ⟨d, x, c, e, h1, h2, h3, h4, h5⟩ := h
  exact ⟨d, x, c, e, h1, h2, h3, h4, by omega⟩
theorem BagO.und {n : Nat} {o : O} (h : BagO n o) : o.und 0 = true := by
  obtain ⟨d, x, c, rfl, _⟩ := h
  simp [O.und]
theorem set_self {S : Sto} {k : Nat} {o : O} (h : S[k]? = some o) : S.set k o = S := by
  refine List.ext_getElem? fun i => ?_
  by_cases z : k = i
  · subst z; rw [List.getElem?_set_self (List.getElem?_eq_some_iff.mp h).1, h]
  · rw [List.getElem?_set_ne z]
theorem get_set {S : Sto} {k : Nat} {o : O} (h : S[k]? = some o) (o' : O) : (S.set k o')[k]? = some o' := List.getElem?_set_self (List.getElem?_eq_some_iff.mp h).1
theorem bag_eq {ns : List Int} {i : Nat} (hi : i ≤ 1000) (S : Sto) : ∃ o, BagO 0 o ∧ F__law_bag [.scr (ns.map .int), .int i] S = some (.obj S.length, S ++ [o]) := by
  have cell : ∃ c : Int, ∀ e2 e3, (fIf (fTest (fOp gLt (fVar 1) (fB gLen (faCons (fVar 0) faNil)))) (fOp gIdx (fVar 0) (fVar 1)) (fC (.int 0))) [some (.scr (ns.map D.int)), some (.int i), e2, e3] S = some (.int c, S) := by
    by_cases h : i < ns.length
    · refine ⟨ns[i], fun e2 e3 => ?_⟩
      have e : atI (ns.map D.int) (i : Int) = some (.int ns[i]) := atI_map D.int ns (by simp [h])
      simp [h, e]
    · exact ⟨0, fun e2 e3 => by simp [h]⟩
  obtain ⟨c, hc⟩ := cell
  have e18 : (10 : Int) ^ (18 : Int).toNat = 1000000000000000000 := by decide
  obtain ⟨d, hd, ed⟩ : ∃ d : Int, 0 ≤ d ∧ ∀ e3, (fIf (fTest (fOp gGe (fB gAbs (faCons (fVar 2) faNil)) (fOp (gI (fun i j => decide (0 ≤ j) && decide (j ≤ 1000000) && decide (i.natAbs < 2 ^ 64)) fun i j => i ^ j.toNat) (fC (.int 10)) (fC (.int 18))))) (fB gAbs (faCons (fVar 2) faNil)) (fC (.int 0))) [some (.scr (ns.map D.int)), some (.int i), some (.int c), e3] S = some (.int d, S) := by
    by_cases h : (1000000000000000000 : Int) ≤ (if c < 0 then -c else c)
    · exact ⟨if c < 0 then -c else c, by split <;> omega, fun e3 => by simp [h]⟩
    · exact ⟨0, by omega, fun e3 => by simp [h]⟩
  refine ⟨.lst [.int d, .int ((c % 2305843009213693951 + 7919 * (i : Int) + 3) * 6700417 % 2305843009213693951), .int 0], ⟨d, _, 0, rfl, hd, Int.emod_nonneg _ (by decide), Int.emod_lt_of_pos _ (by decide), by omega, by omega⟩, ?_⟩
  have m1 : cMul 7919 (i : Int) = true := by simp [cMul]
  have m2 : cMul (c % 2305843009213693951 + 7919 * (i : Int) + 3) 6700417 = true := by simp [cMul]
  have body : B__law_bag (startD 4 [.scr (ns.map .int), .int i]) S = some (.rt (.obj S.length), [some (.scr (ns.map D.int)), some (.int i), some (.int c), some (.int d)], S ++ [.lst [.int d, .int ((c % 2305843009213693951 + 7919 * (i : Int) + 3) * 6700417 % 2305843009213693951), .int 0]]) := by
    unfold B__law_bag
    rw [fSeq_eq, fAsg_eq]
    have hc' := hc none none
    simp only [startD_eq, List.map_cons, List.map_nil, List.length_cons, List.length_nil, Nat.reduceSub, Nat.reduceAdd, repS, rep0, List.cons_append, List.nil_append]
    rw [hc']
    simp only [gNm_eq, List.set_cons_succ, List.set_cons_zero]
    rw [fSeq_eq, fAsg_eq, ed none]
    simp [m1, m2]
  unfold F__law_bag
  rw [runD_rt body]
  exact gc_newobj (by simp [O.und])
section
variable {S : Sto} {k : Nat} {o : O} {n : Nat}
theorem take_eq (hk : S[k]? = some o) (B : BagO n o) (hn : n ≤ 700000) {m : Int} (hm : 0 < m) (hm2 : m ≤ 1000) : ∃ (r : Int) (o' : O), 0 ≤ r ∧ r < m ∧ BagO (n + 1) o' ∧ F__law_take [.obj k, .int m] S = some (.int r, S.set k o') := by
  obtain ⟨d, x, c, rfl, h1, h2, h3, h4, h5⟩ := B
  have i0 := gIdx_obj hk 0
  have i1 := gIdx_obj hk 1
  have i2 := gIdx_obj hk 2
  by_cases hd : 0 < d
  · refine ⟨d % m, .lst [.int (d / m), .int x, .int c], Int.emod_nonneg _ (by omega), Int.emod_lt_of_pos _ hm, ⟨d / m, x, c, rfl, Int.ediv_nonneg h1 (by omega), h2, h3, h4, by omega⟩, ?_⟩
    have s0 : gSet (.obj k) (.int 0) (.int (d / m)) S = some (S.set k (.lst [.int (d / m), .int x, .int c])) := gSet_obj hk (j := 0) rfl _
    have m3 : m < 1073741824 := by omega
    have body : B__law_take (startD 4 [.obj k, .int m]) S = some (.rt (.int (d % m)), [some (.obj k), some (.int m), some (.int (d % m)), none], S.set k (.lst [.int (d / m), .int x, .int c])) := by
      simp [B__law_take, i0, hd, hm, m3, s0]
    unfold F__law_take
    rw [runD_rt body, gc_set (by simp [O.und]) (by simp)]
  · have hd0 : d = 0 := by omega
    subst hd0
    have s2 : gSet (.obj k) (.int 2) (.int (c + 1)) S = some (S.set k (.lst [.int 0, .int x, .int (c + 1)])) := gSet_obj hk (j := 2) rfl _
    have hk2 := get_set hk (.lst [.int 0, .int x, .int (c + 1)])
    have j1 := gIdx_obj hk2 1
    have j2 := gIdx_obj hk2 2
    have c1 : cMul 1000003 (c + 1) = true := by
      unfold cMul
      have e1 : decide (-(2 ^ 64) < (1000003 : Int)) = true := by decide
      have e2 : decide ((1000003 : Int) < 2 ^ 64) = true := by decide
      rw [e1, e2]; rfl
    have c2 : cMul 15485863 (c + 1) = true := by
      unfold cMul
      have e1 : decide (-(2 ^ 64) < (15485863 : Int)) = true := by decide
      have e2 : decide ((15485863 : Int) < 2 ^ 64) = true := by decide
      rw [e1, e2]; rfl
    have p1 : (x + 1000003 * (c + 1)).natAbs < 18446744073709551616 := by omega
    have y0 : 0 ≤ (x + 1000003 * (c + 1)) ^ 3 % 2305843009213693921 := Int.emod_nonneg _ (by decide)
    have y1 : (x + 1000003 * (c + 1)) ^ 3 % 2305843009213693921 < 2305843009213693921 := Int.emod_lt_of_pos _ (by decide)
    have e3 : (3 : Int).toNat = 3 := rfl
    have e2 : (2 : Int).toNat = 2 := rfl
    generalize hy : (x + 1000003 * (c + 1)) ^ 3 % 2305843009213693921 = y at y0 y1
    have p2 : (y + 15485863 * (c + 1)).natAbs < 18446744073709551616 := by omega
    generalize hz : (y + 15485863 * (c + 1)) ^ 2 % 2305843009213693951 = z
    refine ⟨z / 1024 % m, .lst [.int 0, .int x, .int (c + 1)], Int.emod_nonneg _ (by omega), Int.emod_lt_of_pos _ hm, ⟨0, x, c + 1, rfl, by omega, h2, h3, by omega, by omega⟩, ?_⟩
    have body : ∃ env, B__law_take (startD 4 [.obj k, .int m]) S = some (.rt (.int (z / 1024 % m)), env, S.set k (.lst [.int 0, .int x, .int (c + 1)])) := by
      refine ⟨[some (.obj k), some (.int m), none, some (.int z)], ?_⟩
      simp [B__law_take, i0, i2, hm, s2, j1, j2, c1, c2, p1, p2, e3, e2, hy, hz]
    obtain ⟨env, body⟩ := body
    unfold F__law_take
    rw [runD_rt body, gc_set (by simp [O.und]) (by simp)]
theorem pick2 (a b : D) {r : Int} (h0 : 0 ≤ r) (h1 : r < 2) (S : Sto) : gIdx (.lst [a, b]) (.int r) S = some (if r = 0 then a else b, S) := by
  rcases (by omega : r = 0 ∨ r = 1) with rfl | rfl <;> simp
theorem pick3 (a b c : D) {r : Int} (h0 : 0 ≤ r) (h1 : r < 3) (S : Sto) : gIdx (.lst [a, b, c]) (.int r) S = some (if r = 0 then a else if r = 1 then b else c, S) := by
  rcases (by omega : r = 0 ∨ r = 1 ∨ r = 2) with rfl | rfl | rfl <;> simp
theorem operand_eq (hk : S[k]? = some o) (B : BagO n o) (hn : n ≤ 600000) {m : Int} (hm : 0 < m) (hm2 : m ≤ 1000) : ∃ (a : Op) (o' : O), a.ok m ∧ BagO (n + 2) o' ∧ F__law_operand [.obj k, .int m] S = some (opD a, S.set k o') := by
  obtain ⟨r1, o1, r10, r11, B1, e1⟩ := take_eq hk B (by omega) hm hm2
  obtain ⟨r2, o2, r20, r21, B2, e2⟩ := take_eq (get_set hk o1) B1 (by omega) (m := 3) (by omega) (by omega)
  rw [List.set_set] at e2
  refine ⟨if r2 = 0 then .x else if r2 = 1 then .y else .n r1, o2, ?_, B2, ?_⟩
  · split
    · trivial
    · split
      · trivial
      · exact ⟨r10, r11⟩
  · have body : B__law_operand (startD 3 [.obj k, .int m]) S = some (.rt (if r2 = 0 then .str "x" else if r2 = 1 then .str "y" else .int r1), [some (.obj k), some (.int m), some (.int r1)], S.set k o2) := by
      simp [B__law_operand, e1, e2, pick3 _ _ _ r20 r21]
    unfold F__law_operand
    have e : (if r2 = 0 then D.str "x" else if r2 = 1 then D.str "y" else .int r1) = opD (if r2 = 0 then .x else if r2 = 1 then .y else .n r1) := by
      split
      · rfl
      · split <;> rfl
    rw [runD_rt body, e, gc_set B2.und (by simp)]
theorem expression_eq (hk : S[k]? = some o) (B : BagO n o) (hn : n ≤ 500000) {m : Int} (hm : 0 < m) (hm2 : m ≤ 1000) : ∃ (a : Ex) (o' : O), a.ok m ∧ BagO (n + 6) o' ∧ F__law_expression [.obj k, .int m] S = some (exD a, S.set k o') := by
  obtain ⟨a1, o1, k1, B1, e1⟩ := operand_eq hk B (by omega) hm hm2
  obtain ⟨a2, o2, k2, B2, e2⟩ := operand_eq (get_set hk o1) B1 (by omega) hm hm2
  rw [List.set_set] at e2
  obtain ⟨r3, o3, r30, r31, B3, e3⟩ := take_eq (get_set hk o2) B2 (by omega) (m := 3) (by omega) (by omega)
  rw [List.set_set] at e3
  obtain ⟨r4, o4, r40, r41, B4, e4⟩ := take_eq (get_set hk o3) B3 (by omega) (m := 3) (by omega) (by omega)
  rw [List.set_set] at e4
  generalize hs : (if r3 = 0 then ("+" : Str) else if r3 = 1 then "-" else "*") = s
  have sok : s = "+" ∨ s = "-" ∨ s = "*" := by
    rw [← hs]
    split
    · exact .inl rfl
    · split
      · exact .inr (.inl rfl)
      · exact .inr (.inr rfl)
  have es : (if r3 = 0 then D.str "+" else if r3 = 1 then D.str "-" else D.str "*") = D.str s := by
    rw [← hs]
    split
    · rfl
    · split <;> rfl
  refine ⟨if r4 = 0 then .o a1 else if r4 = 1 then .o a1 else .t s a1 a2, o4, ?_, B4.mono (by omega), ?_⟩
  · split
    · exact k1
    · split
      · exact k1
      · exact ⟨sok, k1, k2⟩
  · have body : B__law_expression (startD 5 [.obj k, .int m]) S = some (.rt (if r4 = 0 then opD a1 else if r4 = 1 then opD a1 else .tup [.str s, opD a1, opD a2]), [some (.obj k), some (.int m), some (opD a1), some (opD a2), some (.str s)], S.set k o4) := by
      simp [B__law_expression, e1, e2, e3, e4, pick3 _ _ _ r30 r31, pick3 _ _ _ r40 r41, es]
    unfold F__law_expression
    have e : (if r4 = 0 then opD a1 else if r4 = 1 then opD a1 else .tup [.str s, opD a1, opD a2]) = exD (if r4 = 0 then .o a1 else if r4 = 1 then .o a1 else .t s a1 a2) := by
      split
      · rfl
      · split <;> rfl
    rw [runD_rt body, e, gc_set B4.und (by simp)]
end
end J

set_option autoImplicit false
namespace J
open PySem L2
open Kx (Op Ex Rw vok silentAt P3)
section
variable {S : Sto} {k : Nat} {o : O} {n : Nat}
theorem pickN {N : List Str} {r : Int} (h0 : 0 ≤ r) (h1 : r < N.length) (S : Sto) : ∃ x, x ∈ N ∧ gIdx (.lst (N.map .str)) (.int r) S = some (.str x, S) := by
  obtain ⟨i, rfl⟩ : ∃ i : Nat, r = i := ⟨r.toNat, by omega⟩
  have hi : i < N.length := by omega
  refine ⟨N[i], List.getElem_mem hi, ?_⟩
  rw [gIdx_lst, atI_map D.str N (show N[i]? = some N[i] by simp [hi])]
  rfl
theorem atI_at {α : Type} (l : List α) {r : Int} (h0 : 0 ≤ r) (h1 : r < l.length) : ∃ a, l[r.toNat]? = some a ∧ atI l r = some a := by
  obtain ⟨i, rfl⟩ : ∃ i : Nat, r = i := ⟨r.toNat, by omega⟩
  have hi : i < l.length := by omega
  exact ⟨l[i], by simp [hi], atI_nat (by simp [hi])⟩
theorem row_eq (hk : S[k]? = some o) (B : BagO n o) (hn : n ≤ 400000) {m : Int} (hm : 0 < m) (hm2 : m ≤ 1000) {q : Int} (hq : 0 ≤ q) (hq2 : q ≤ 900) {N : List Str} (hN : 0 < N.length) (hN2 : N.length ≤ 1000) :
    ∃ (a : Rw) (o' : O), a.ok m q N ∧ BagO (n + 17) o' ∧ F__law_row [.obj k, .int m, .int q, .lst (N.map .str)] S = some (rwD a, S.set k o') := by
  obtain ⟨a1, o1, k1, B1, e1⟩ := expression_eq hk B (by omega) hm hm2
  obtain ⟨a2, o2, k2, B2, e2⟩ := expression_eq (get_set hk o1) B1 (by omega) hm hm2
  rw [List.set_set] at e2
  obtain ⟨r3, o3, r30, r31, B3, e3⟩ := take_eq (get_set hk o2) B2 (by omega) (m := 2) (by omega) (by omega)
  rw [List.set_set] at e3
  obtain ⟨r4, o4, r40, r41, B4, e4⟩ := take_eq (get_set hk o3) B3 (by omega) (m := N.length) (by omega) (by omega)
  rw [List.set_set] at e4
  obtain ⟨g, o5, g0, g1, B5, e5⟩ := take_eq (get_set hk o4) B4 (by omega) (m := q + 1) (by omega) (by omega)
  rw [List.set_set] at e5
  obtain ⟨c, o6, c0, c1, B6, e6⟩ := take_eq (get_set hk o5) B5 (by omega) (m := 2) (by omega) (by omega)
  rw [List.set_set] at e6
  obtain ⟨r7, o7, r70, r71, B7, e7⟩ := take_eq (get_set hk o6) B6 (by omega) (m := 12) (by omega) (by omega)
  rw [List.set_set] at e7
  generalize hv : (if r3 = 0 then ("x" : Str) else "y") = v
  have vo : vok v := by
    rw [← hv]
    split
    · exact .inl rfl
    · exact .inr rfl
  have ev : (if r3 = 0 then D.str "x" else D.str "y") = D.str v := by
    rw [← hv]
    split <;> rfl
  obtain ⟨nm, hnm, en⟩ : ∃ x, x ∈ N ∧ ∀ S, gIdx (.lst (N.map .str)) (.int r4) S = some (.str x, S) := by
    obtain ⟨x, h1, h2⟩ := pickN r40 r41 ([] : Sto)
    refine ⟨x, h1, fun S => ?_⟩
    rw [gIdx_lst] at h2 ⊢
    cases z : atI (N.map D.str) r4 with
    | none => rw [z] at h2; cases h2
    | some d => rw [z] at h2; cases h2; rfl
  let rows : List Rw := [.say a1, .ask v, .say a1, .ask v, .set v a1, .iff a1 a2 g, .read c v, .write c a1, .go g, .call nm a1 v, .fin a1, .iff a1 a2 g]
  have okr : ∀ x ∈ rows, x.ok m q N := by
    intro x hx
    simp only [rows, List.mem_cons, List.not_mem_nil, or_false] at hx
    rcases hx with rfl | rfl | rfl | rfl | rfl | rfl | rfl | rfl | rfl | rfl | rfl | rfl
    · exact k1
    · exact vo
    · exact k1
    · exact vo
    · exact ⟨vo, k1⟩
    · exact ⟨k1, k2, g0, by omega⟩
    · exact ⟨by omega, vo⟩
    · exact ⟨by omega, k1⟩
    · exact ⟨g0, by omega⟩
    · exact ⟨hnm, k1, vo⟩
    · exact k1
    · exact ⟨k1, k2, g0, by omega⟩
  obtain ⟨a, ha1, ha2⟩ := atI_at rows r70 (show r7 < (rows.length : Int) from r71)
  have pick : atI (rows.map rwD) r7 = some (rwD a) := by
    have h := atI_map rwD rows ha1
    rw [Int.toNat_of_nonneg r70] at h
    exact h
  refine ⟨a, o7, okr a (List.mem_of_getElem? ha1), B7.mono (by omega), ?_⟩
  have pick' : atI [.tup [.str "say", exD a1], .tup [.str "ask", .str v], .tup [.str "say", exD a1], .tup [.str "ask", .str v], .tup [.str "set", .str v, exD a1], .tup [.str "if", exD a1, exD a2, .int g], .tup [.str "read", .int c, .str v], .tup [.str "write", .int c, exD a1], .tup [.str "go", .int g], .tup [.str "call", .str nm, exD a1, .str v], .tup [.str "end", exD a1], .tup [.str "if", exD a1, exD a2, .int g]] r7 = some (rwD a) := pick
  have body : ∃ env, B__law_row (startD 11 [.obj k, .int m, .int q, .lst (N.map .str)]) S = some (.rt (rwD a), env, S.set k o7) := by
    refine ⟨[some (.obj k), some (.int m), some (.int q), some (.lst (N.map .str)), some (exD a1), some (exD a2), some (.str v), some (.str nm), some (.int g), some (.int c), some (.lst [.tup [.str "say", exD a1], .tup [.str "ask", .str v], .tup [.str "say", exD a1], .tup [.str "ask", .str v], .tup [.str "set", .str v, exD a1], .tup [.str "if", exD a1, exD a2, .int g], .tup [.str "read", .int c, .str v], .tup [.str "write", .int c, exD a1], .tup [.str "go", .int g]])], ?_⟩
    have l1 : gLen [.lst (N.map D.str)] = fun S => some (.int N.length, S) := by funext S; simp
    simp [B__law_row, e1, e2, e3, e4, e5, e6, e7, pick2 _ _ r30 r31, ev, en, pick']
  obtain ⟨env, body⟩ := body
  unfold F__law_row
  rw [runD_rt body, gc_set B7.und (by simp)]
end
end J

set_option autoImplicit false
namespace J
open PySem L2
open Kx (Op Ex Rw vok silentAt P3)
section
variable {k : Nat}
noncomputable abbrev eRow : FE := L__law_text_1
theorem rows_lc {m : Int} (hm : 0 < m) (hm2 : m ≤ 1000) {q : Int} (hq : 0 ≤ q) (hq2 : q ≤ 900) {N : List Str} (hN : 0 < N.length) (hN2 : N.length ≤ 1000) (e2 : Option D) : ∀ (ds : List D) (S : Sto) (o : O) (n : Nat), S[k]? = some o → BagO n o → n + 17 * ds.length ≤ 300000 →
    ∃ (t : List Rw) (o' : O), t.length = ds.length ∧ (∀ r ∈ t, r.ok m q N) ∧ BagO (n + 17 * ds.length) o' ∧ fLcL (gNm 5) fYes eRow [some (.obj k), some (.int m), e2, some (.lst (N.map .str)), some (.int q), none] ds S = some (t.map rwD, S.set k o')
  | [], S, o, n, hk, B, _ => ⟨[], o, rfl, fun r hr => (by cases hr), B, by rw [fLcL, set_self hk]; rfl⟩
  | d :: ds, S, o, n, hk, B, hn => by
    rw [List.length_cons] at hn
    obtain ⟨a, o1, k1, B1, e1⟩ := row_eq hk B (by omega) hm hm2 hq hq2 hN hN2
    obtain ⟨t, o2, h1, h2, B2, e2'⟩ := rows_lc hm hm2 hq hq2 hN hN2 e2 ds (S.set k o1) o1 (n + 17) (get_set hk o1) B1 (by omega)
    rw [List.set_set] at e2'
    refine ⟨a :: t, o2, by rw [List.length_cons, List.length_cons, h1], fun r hr => ?_, B2.mono (by rw [List.length_cons]; omega), ?_⟩
    · rcases List.mem_cons.mp hr with z | z
      · rw [z]; exact k1
      · exact h2 r z
    · have er : eRow [some (.obj k), some (.int m), e2, some (.lst (N.map .str)), some (.int q), some d] S = some (rwD a, S.set k o1) := by simp [L__law_text_1, e1]
      rw [fLcL]
      simp only [gNm_eq, List.set_cons_succ, List.set_cons_zero, fYes_eq]
      rw [er]
      simp only
      rw [e2']
      rfl
theorem rngD_len (lo : Int) (n : Nat) : (rngD lo n).length = n := by simp [rngD]
theorem text_eq {S : Sto} {o : O} {n : Nat} (hk : S[k]? = some o) (B : BagO n o) (hn : n ≤ 200000) {m : Int} (hm : 0 < m) (hm2 : m ≤ 1000) {q : Int} (hq : 0 ≤ q) (hq2 : q ≤ 100) {N : List Str} (hN : 0 < N.length) (hN2 : N.length ≤ 1000) :
    ∃ (t : List Rw) (o' : O), (t.length : Int) ≤ q ∧ Kx.Tx.ok m N t ∧ BagO (n + 2000) o' ∧ F__law_text [.obj k, .int m, .int q, .lst (N.map .str)] S = some (txD t, S.set k o') := by
  obtain ⟨r1, o1, r10, r11, B1, e1⟩ := take_eq hk B (by omega) (m := q + 1) (by omega) (by omega)
  obtain ⟨t, o2, h1, h2, B2, e2⟩ := rows_lc (k := k) hm hm2 r10 (by omega) hN hN2 (some (.int q)) (rngD 0 r1.toNat) (S.set k o1) o1 (n + 1) (get_set hk o1) B1 (by rw [rngD_len]; omega)
  rw [List.set_set] at e2
  rw [rngD_len] at h1 B2
  refine ⟨t, o2, by omega, fun r hr => ?_, B2.mono (by omega), ?_⟩
  · have := h2 r hr
    rw [show (t.length : Int) = r1 by omega]
    exact this
  · have rl := rngD_len 0 r1.toNat
    have rl2 : r1.toNat ≤ 100000 := by omega
    have c1 : -(2 ^ 62) ≤ r1 ∧ r1 < 2 ^ 62 := by omega
    have c2 : -4611686018427387904 ≤ r1 ∧ r1 < 4611686018427387904 := by omega
    skip
    have body : B__law_text (startD 6 [.obj k, .int m, .int q, .lst (N.map .str)]) S = some (.rt (txD t), [some (.obj k), some (.int m), some (.int q), some (.lst (N.map .str)), some (.int r1), none], S.set k o2) := by
      simp [B__law_text, e1, c2, rl, rl2, e2, txD]
    unfold F__law_text
    rw [runD_rt body, gc_set B2.und (by simp)]
end
end J

set_option autoImplicit false
namespace J
open PySem L2
open Kx (Op Ex Rw vok silentAt P3 Ind it stp stepR res)
theorem notin_sil (r : Rw) (S : Sto) : gIn true (.str r.w) (.tup [.str "set", .str "if", .str "go"]) S = some (.bl (!r.silent), S) := by
  have h := Kx.Rw.w_in r
  show (some (D.bl (true ^^ inV (.str r.w) [.str "set", .str "if", .str "go"]), S) : Option (D × Sto)) = _
  rw [h, Bool.true_xor]
theorem cMul_s {x y : Int} (h1 : 0 ≤ x) (h2 : x ≤ 1000) : cMul x y = true := by
  unfold cMul
  have h1 : decide (-(2 ^ 64) < x) = true := decide_eq_true (by omega)
  have h2 : decide (x < 2 ^ 64) = true := decide_eq_true (by omega)
  rw [h1, h2]
  rfl
theorem mul_s {x y : Int} (h1 : 0 ≤ x) (h2 : x ≤ 1000) (S : Sto) : gI cMul (fun i j => i * j) (.int x) (.int y) S = some (.int (x * y), S) := by
  have := cMul_s (y := y) h1 h2
  simp [this]
theorem rng_s {g : FA} {env : Env} {S : Sto} {n : Nat} (hn : n ≤ 1000) (h : g env S = some ([.int (n : Int)], S)) : fRng1 g env S = some (rngD 0 n, S) := by
  have c4 : -(2 ^ 62) ≤ ((n : Nat) : Int) ∧ ((n : Nat) : Int) < 2 ^ 62 := ⟨by omega, by omega⟩
  rw [fRng1_eq, h]
  simp only
  rw [if_pos c4, Int.toNat_natCast]
theorem gEq_st (n : Bool) (r x y r' x' y' : Int) (S : Sto) : gEq n (stD r x y) (stD r' x' y') S = some (.bl (n ^^ (r == r' && (x == x' && (y == y' && true)))), S) := by
  simp [gEq, stD, D.pyS, D.py, D.pys, scalP, SeqAt.shaped, PyData.canLay0, PyData.canLayAll0, PyData.depth, PyData.depthAll, PyData.eqv, PyData.eqvAll]
end J

set_option autoImplicit false
namespace J
open PySem L2
open Kx (Op Ex Rw vok silentAt P3 Ind it stp stepR res)
/-! readings of the new pieces -/
@[simp] theorem fSlice_eq (f : FE) (fl fh : FO) (env : Env) (S : Sto) : fSlice f fl fh env S = match f env S with | some (d, S1) => (match fl env S1 with | some (lo, S2) => (match fh env S2 with | some (hi, S3) => gCut d lo hi S3 | none => none) | none => none) | none => none := rfl
@[simp] theorem foNone_eq (env : Env) (S : Sto) : foNone env S = some (none, S) := rfl
@[simp] theorem foSome_eq (f : FE) (env : Env) (S : Sto) : foSome f env S = match f env S with | some (.int i, S1) => some (some i, S1) | _ => none := rfl
@[simp] theorem fDispGet_eq (ns : List Str) (fv : FA) (fk fx : FE) (env : Env) (S : Sto) : fDispGet ns fv fk fx env S = match fv env S with | some (ds, S1) => (match fk env S1 with | some (.str x, S2) => (match fx env S2 with | some (z, S3) => some ((valKD (mergeKD [] (kvN ns ds)) (Sum.inr x)).getD z, S3) | none => none) | _ => none) | none => none := rfl
/-! stands: none is the mute one -/
def stO : Option P3 → D
  | some p => ptD p
  | none => stD (-1) 0 0
@[simp] theorem stO_und (n : Nat) (s : Option P3) : D.und n (stO s) = true := by cases s <;> simp [stO]
def Good (t : List Rw) (b : Nat) (s : Option P3) : Prop := ∀ p, s = some p → Ind t b p ∧ silentAt t p.1 = false
def deedV (t : List Rw) (b : Int) : Option P3 → D
  | none => .tup [.str "mute"]
  | some p => match t[p.1]? with
    | none => .tup [.str "end", .int 0]
    | some (.say e) => .tup [.str "say", .int (e.val b p.2.1 p.2.2)]
    | some (.ask _) => .tup [.str "ask"]
    | some (.read c _) => .tup [.str "read", .int c]
    | some (.write c e) => .tup [.str "write", .int c, .int (e.val b p.2.1 p.2.2)]
    | some (.call n e _) => .tup [.str "call", .str n, .int (e.val b p.2.1 p.2.2)]
    | some (.fin e) => .tup [.str "end", .int (e.val b p.2.1 p.2.2)]
    | some _ => .non
def cntN (t : List Rw) (b : Nat) : Option P3 → Nat
  | none => 0
  | some p => match t[p.1]? with
    | some (.say _) => 1
    | some (.write _ _) => 1
    | some (.ask _) => b
    | some (.read _ _) => b
    | some (.call _ _ _) => b
    | _ => 0
def asg (v : Str) (k : Int) (p : P3) : P3 := if v = "x" then (p.1 + 1, k, p.2.2) else (p.1 + 1, p.2.1, k)
def nxt (t : List Rw) (p : P3) (k : Int) : P3 := match t[p.1]? with
  | some (.ask v) => asg v k p
  | some (.read _ v) => asg v k p
  | some (.call _ _ v) => asg v k p
  | _ => (p.1 + 1, p.2.1, p.2.2)
theorem is_int_eq (i : Int) (S : Sto) : F_is_integer [.int i] S = some (.bl true, S) := by
  simp [F_is_integer, B_is_integer, D.ty]
theorem is_below_eq (i n : Int) (S : Sto) : F_is_below [.int i, .int n] S = some (.bl (decide (0 ≤ i) && decide (i < n)), S) := by
  by_cases h : 0 ≤ i <;> simp [F_is_below, B_is_below, is_int_eq, h]
theorem gEq_mute {s : Option P3} (S : Sto) : gEq false (stO s) (stD (-1) 0 0) S = some (.bl s.isNone, S) := by
  cases s with
  | none => rw [stO, gEq_st]; rfl
  | some p =>
    rw [stO, ptD_st, gEq_st]
    have : ((p.1 : Int) == -1) = false := beq_eq_false_iff_ne.mpr (by omega)
    simp [this]
section
variable {t : List Rw} {N : List Str} {b : Nat}
theorem is_stand_gen {Fi Fb Fs : Fn} {T : D} {r x y B L : Int} {c s b1 b2 b3 : Bool} {S : Sto} (hi : ∀ i, Fi [.int i] S = some (.bl true, S)) (m : gEq false (.tup [.int r, .int x, .int y]) (.tup [.int (-1), .int 0, .int 0]) S = some (.bl c, S)) (hl : gLen [T] S = some (.int L, S))
    (h1 : Fb [.int r, .int (L + 1)] S = some (.bl b1, S)) (h2 : Fb [.int x, .int B] S = some (.bl b2, S)) (h3 : Fb [.int y, .int B] S = some (.bl b3, S)) (hs : c = false → Fs [T, .int r] S = some (.bl s, S)) (good : c = true ∨ (s = false ∧ b1 = true ∧ b2 = true ∧ b3 = true)) :
    ∃ env, (fSeq (fIfS (fOrT (fNotT (fTruth (fB gIsi (faCons (fVar 1) (faCons (fC (.glo (.ty "tuple"))) faNil))))) (fTest (fOp (gEq true) (fB gLen (faCons (fVar 1) faNil)) (fC (.int 3))))) (fRet (fC (.bl false))) fNext)
    (fSeq (fIfS (fNotT (fTruth (fB gAll (faCons (fLc [6] (fIt (fVar 1)) (gNm 6) fYes (fCall 1 Fi (faCons (fVar 6) faNil) [])) faNil)))) (fRet (fC (.bl false))) fNext)
    (fSeq (fIfS (fTest (fOp (gEq false) (fVar 1) (fC (.tup [(.int (-1)), (.int 0), (.int 0)])))) (fRet (fC (.bl true))) fNext)
    (fSeq (fAsg (fVar 1) (gTp 3 (gCons (gNm 3) (gCons (gNm 4) (gCons (gNm 5) gNil)))))
    (fSeq (fIfS (fOrT (fNotT (fTruth (fCall 2 Fb (faCons (fVar 3) (faCons (fOp gAdd (fB gLen (faCons (fVar 0) faNil)) (fC (.int 1))) faNil)) []))) (fTruth (fCall 2 Fs (faCons (fVar 0) (faCons (fVar 3) faNil)) []))) (fRet (fC (.bl false))) fNext)
    (fRet (fAndV (fCall 2 Fb (faCons (fVar 4) (faCons (fVar 2) faNil)) []) (fCall 2 Fb (faCons (fVar 5) (faCons (fVar 2) faNil)) [])))))))) [some T, some (.tup [.int r, .int x, .int y]), some (.int B), none, none, none, none] S = some (.rt (.bl true), env, S) := by
  have all3 : gAll [.lst [.bl true, .bl true, .bl true]] S = some (.bl true, S) := by simp [gAll, D.bls]
  rcases good with rfl | ⟨rfl, rfl, rfl, rfl⟩
  · exact ⟨_, by simp [D.ty, D.items, fLcL, hi, all3, m]; rfl⟩
  · cases c with
    | true => exact ⟨_, by simp [D.ty, D.items, fLcL, hi, all3, m]; rfl⟩
    | false =>
      have hs := hs rfl
      exact ⟨_, by simp [D.ty, D.items, fLcL, hi, all3, m, hl, h1, h2, h3, hs]; rfl⟩
theorem is_stand_eq {s : Option P3} (g : Good t b s) (S : Sto) : F_is_stand [txD t, stO s, .int b] S = some (.bl true, S) := by
  have m := gEq_mute (s := s) S
  have len : gLen [txD t] S = some (.int t.length, S) := by simp [txD]
  cases s with
  | none =>
    obtain ⟨env, e⟩ := is_stand_gen (Fi := F_is_integer) (Fb := F_is_below) (Fs := F_is_silent) (fun i => is_int_eq i S) m len (is_below_eq (-1) _ S) (is_below_eq 0 b S) (is_below_eq 0 b S) (s := false) (fun z => by cases z) (.inl rfl)
    have body : B_is_stand (startD 7 [txD t, stO none, .int b]) S = some (.rt (.bl true), env, S) := e
    unfold F_is_stand
    rw [runD_rt body, gc_same (by simp)]
  | some p =>
    obtain ⟨⟨i1, i2, i3⟩, sl⟩ := g p rfl
    have e1 := is_silent_eq t i1 S
    obtain ⟨env, e⟩ := is_stand_gen (Fi := F_is_integer) (Fb := F_is_below) (Fs := F_is_silent) (fun i => is_int_eq i S) m len (is_below_eq p.1 _ S) (is_below_eq p.2.1 b S) (is_below_eq p.2.2 b S) (fun _ => e1) (.inr ⟨sl, by simp; omega, by simp; omega, by simp; omega⟩)
    have body : B_is_stand (startD 7 [txD t, stO (some p), .int b]) S = some (.rt (.bl true), env, S) := e
    unfold F_is_stand
    rw [runD_rt body, gc_same (by simp)]
theorem check_stand_eq {s : Option P3} (g : Good t b s) (S : Sto) : F_check_stand [txD t, stO s, .int b] S = some (.non, S) := by
  have h := is_stand_eq g S
  simp [F_check_stand, B_check_stand, h]
end
end J

set_option autoImplicit false
namespace J
open PySem L2
open Kx (Op Ex Rw vok silentAt P3 Ind it stp stepR res)
section
variable {t : List Rw} {N : List Str} {b : Nat}
theorem idx0 (s : Option P3) (S : Sto) : gIdx (stO s) (.int 0) S = some (.int (match s with | some p => (p.1 : Int) | none => -1), S) := by
  cases s <;> simp [stO, ptD, stD]
theorem end_none {i : Nat} (hi : i ≤ t.length) : t[i]? = none ↔ i = t.length := by
  rw [List.getElem?_eq_none_iff]
  omega
theorem val_row {e : Ex} (he : e.ok b) (hb : 0 < b) (hb4 : b ≤ 4) {p : P3} (hp : Ind t b p) (S : Sto) : F_value_of [exD e, stO (some p), .int b] S = some (.int (e.val b p.2.1 p.2.2), S) := value_of_eq he (by omega) (by omega) hp.2.1 hp.2.2 p.1 S
def toldE : Rw → D
  | .say e => exD e
  | .write _ e => exD e
  | .call _ e _ => exD e
  | .fin e => exD e
  | _ => .int 0
@[simp] theorem lu_say : luC [("say", (.int 1)), ("write", (.int 2)), ("call", (.int 2)), ("end", (.int 1))] "say" = some (.int 1) := by rfl
@[simp] theorem lu_write : luC [("say", (.int 1)), ("write", (.int 2)), ("call", (.int 2)), ("end", (.int 1))] "write" = some (.int 2) := by rfl
@[simp] theorem lu_call : luC [("say", (.int 1)), ("write", (.int 2)), ("call", (.int 2)), ("end", (.int 1))] "call" = some (.int 2) := by rfl
@[simp] theorem lu_end : luC [("say", (.int 1)), ("write", (.int 2)), ("call", (.int 2)), ("end", (.int 1))] "end" = some (.int 1) := by rfl
@[simp] theorem lu_ask : luC [("say", (.int 1)), ("write", (.int 2)), ("call", (.int 2)), ("end", (.int 1))] "ask" = none := by decide
@[simp] theorem lu_read : luC [("say", (.int 1)), ("write", (.int 2)), ("call", (.int 2)), ("end", (.int 1))] "read" = none := by decide
theorem told_eq {r : Rw} (rs : r.silent = false) (S : Sto) : F_told_expression [rwD r] S = some (toldE r, S) := by
  have body : B_told_expression (startD 1 [rwD r]) S = some (.rt (toldE r), [some (rwD r)], S) := by
    cases r with
    | set v e => cases rs
    | iff e f r => cases rs
    | go r => cases rs
    | _ => simp [B_told_expression, fInC, fIxC, rwD, rwT, Kx.Rw.w, toldE]
  unfold F_told_expression
  rw [runD_rt body, gc_same (by cases r <;> simp [toldE])]
def deedR : Rw → D → D
  | .say _, v => .tup [.str "say", v]
  | .ask _, _ => .tup [.str "ask"]
  | .read k _, _ => .tup [.str "read", .int k]
  | .write k _, v => .tup [.str "write", .int k, v]
  | .call n _ _, v => .tup [.str "call", .str n, v]
  | .fin _, v => .tup [.str "end", v]
  | _, _ => .non
theorem row_deed_eq {r : Rw} (rs : r.silent = false) (i : Int) (S : Sto) : F_row_deed [rwD r, .int i] S = some (deedR r (.int i), S) := by
  have body : B_row_deed (startD 2 [rwD r, .int i]) S = some (.rt (deedR r (.int i)), [some (rwD r), some (.int i)], S) := by
    cases r with
    | set v e => cases rs
    | iff e f r => cases rs
    | go r => cases rs
    | _ => simp [B_row_deed, fInC, fIxC, fSlice, foNone, foSome, gCut, cutD, HT.sIx, gAdd, rwD, rwT, Kx.Rw.w, deedR]
  unfold F_row_deed
  rw [runD_rt body, gc_same (by cases r <;> simp [deedR])]
@[simp] theorem deedV_und (n : Nat) (B : Int) (s : Option P3) : D.und n (deedV t B s) = true := by
  cases s with
  | none => simp [deedV]
  | some p =>
    unfold deedV
    cases h : t[p.1]? with
    | none => simp [h]
    | some r => cases r <;> simp [h]
theorem toldE_int (m : Rw) (h : (match m with | .say e => False | .write _ e => False | .call _ e _ => False | .fin e => False | _ => True)) (p : D) (S : Sto) (b : Int) : F_value_of [toldE m, p, .int b] S = some (.int 0, S) := by
  have e : toldE m = .int 0 := by cases m <;> first | rfl | exact h.elim
  rw [e]
  have body : ∀ k, F_value_of_n (k + 1) [.int 0, p, .int b] S = some (.int 0, S) := fun k => by
    unfold F_value_of_n
    rw [runD_rt (d := .int 0) (env := [some (.int 0), some p, some (.int b), none, none, none]) (S' := S) (by simp), gc_same (by simp)]
  exact body 1
theorem deed_at_eq (ok : Kx.Tx.ok b N t) (hb : 0 < b) (hb4 : b ≤ 4) {s : Option P3} (g : Good t b s) (S : Sto) : F_deed_at [txD t, stO s, .int b] S = some (deedV t b s, S) := by
  have len : gLen [txD t] S = some (.int t.length, S) := by simp [txD]
  have body : ∃ env, B_deed_at (startD 4 [txD t, stO s, .int b]) S = some (.rt (deedV t b s), env, S) := by
    have m := gEq_mute (s := s) S
    have h0 := idx0 s S
    unfold stD at m
    cases s with
    | none => exact ⟨_, by simp [B_deed_at, m, deedV]; rfl⟩
    | some p =>
      obtain ⟨hp, sl⟩ := g p rfl
      simp only at h0
      by_cases hi : p.1 = t.length
      · have : t[p.1]? = none := (end_none hp.1).mpr hi
        exact ⟨_, by simp [B_deed_at, m, h0, len, hi, deedV, this]; rfl⟩
      · have hlt : p.1 < t.length := by have := hp.1; omega
        obtain ⟨r, hr⟩ : ∃ r, t[p.1]? = some r := ⟨t[p.1], by simp [hlt]⟩
        have rs : r.silent = false := by
          unfold silentAt at sl
          rw [hr] at sl
          exact sl
        have rok := ok _ (List.mem_of_getElem? hr)
        have hx := row_at hr S
        have ex : ∃ i : Int, F_value_of [toldE r, stO (some p), .int b] S = some (.int i, S) ∧ deedR r (.int i) = deedV t b (some p) := by
          cases r with
          | set v e => cases rs
          | iff e f r => cases rs
          | go r => cases rs
          | say e => exact ⟨_, val_row rok hb hb4 hp S, by simp only [deedV, hr, deedR]⟩
          | ask v => exact ⟨0, toldE_int (.ask v) trivial _ S b, by simp only [deedV, hr, deedR]⟩
          | read k v => exact ⟨0, toldE_int (.read k v) trivial _ S b, by simp only [deedV, hr, deedR]⟩
          | write k e => exact ⟨_, val_row rok.2 hb hb4 hp S, by simp only [deedV, hr, deedR]⟩
          | call n e v => exact ⟨_, val_row rok.2.1 hb hb4 hp S, by simp only [deedV, hr, deedR]⟩
          | fin e => exact ⟨_, val_row rok hb hb4 hp S, by simp only [deedV, hr, deedR]⟩
        obtain ⟨i, e1, e2⟩ := ex
        have e3 := row_deed_eq rs i S
        rw [e2] at e3
        have hi2 : ((p.1 : Int) == (t.length : Int)) = false := beq_eq_false_iff_ne.mpr (by omega)
        exact ⟨_, by simp [B_deed_at, m, h0, len, hi2, hx, told_eq rs S, e1, e3]; rfl⟩
  obtain ⟨env, body⟩ := body
  unfold F_deed_at
  rw [runD_rt body, gc_same (by simp)]
end
end J

set_option autoImplicit false
namespace J
open PySem L2
open Kx (Op Ex Rw vok silentAt P3 Ind it stp stepR res)
abbrev lRec : List D := [.str "ask", .str "read", .str "call"]
abbrev lPas : List D := [.str "say", .str "write"]
abbrev vRec : List V := [.str "ask", .str "read", .str "call"]
abbrev vPas : List V := [.str "say", .str "write"]
theorem in_rec (n : Bool) (w : Str) (S : Sto) : gIn n (.str w) (.tup lRec) S = some (.bl (n ^^ inV (.str w) vRec), S) := rfl
theorem in_pas (n : Bool) (w : Str) (S : Sto) : gIn n (.str w) (.tup lPas) S = some (.bl (n ^^ inV (.str w) vPas), S) := rfl
theorem in_ar (n : Bool) (w : Str) (S : Sto) : gIn n (.str w) (.tup [.str "ask", .str "read"]) S = some (.bl (n ^^ inV (.str w) [.str "ask", .str "read"]), S) := rfl
theorem in_wc (n : Bool) (w : Str) (S : Sto) : gIn n (.str w) (.tup [.str "write", .str "call"]) S = some (.bl (n ^^ inV (.str w) [.str "write", .str "call"]), S) := rfl
theorem r_say : inV (.str "say") vRec = false := by decide +kernel
theorem r_ask : inV (.str "ask") vRec = true := by decide +kernel
theorem r_read : inV (.str "read") vRec = true := by decide +kernel
theorem r_write : inV (.str "write") vRec = false := by decide +kernel
theorem r_call : inV (.str "call") vRec = true := by decide +kernel
theorem r_end : inV (.str "end") vRec = false := by decide +kernel
theorem r_mute : inV (.str "mute") vRec = false := by decide +kernel
theorem p_say : inV (.str "say") vPas = true := by decide +kernel
theorem p_write : inV (.str "write") vPas = true := by decide +kernel
theorem p_end : inV (.str "end") vPas = false := by decide +kernel
theorem p_mute : inV (.str "mute") vPas = false := by decide +kernel
theorem a_say : inV (.str "say") [.str "ask", .str "read"] = false := by decide +kernel
theorem a_ask : inV (.str "ask") [.str "ask", .str "read"] = true := by decide +kernel
theorem a_read : inV (.str "read") [.str "ask", .str "read"] = true := by decide +kernel
theorem a_write : inV (.str "write") [.str "ask", .str "read"] = false := by decide +kernel
theorem a_call : inV (.str "call") [.str "ask", .str "read"] = false := by decide +kernel
theorem a_end : inV (.str "end") [.str "ask", .str "read"] = false := by decide +kernel
theorem wd_say : inV (.str "say") [.str "write", .str "call"] = false := by decide +kernel
theorem w_write : inV (.str "write") [.str "write", .str "call"] = true := by decide +kernel
theorem wd_call : inV (.str "call") [.str "write", .str "call"] = true := by decide +kernel
theorem w_end : inV (.str "end") [.str "write", .str "call"] = false := by decide +kernel
section
variable {t : List Rw} {N : List Str} {b : Nat}
/-- a deed's word -/
theorem bc_body {w : Str} {ds : List D} {B : Int} {c1 c2 : Bool} {S : Sto} (h1 : inV (.str w) vRec = c1) (h2 : c1 = false → inV (.str w) vPas = c2) : F_branch_count [.tup (.str w :: ds), .int B] S = some (.int (if c1 then B else if c2 then 1 else 0), S) := by
  have e1 : gIn false (.str w) (.tup lRec) S = some (.bl c1, S) := by rw [in_rec, h1, Bool.false_xor]
  cases c1 with
  | true => simp [F_branch_count, B_branch_count, e1]
  | false =>
    have e2 : gIn false (.str w) (.tup lPas) S = some (.bl c2, S) := by rw [in_pas, h2 rfl, Bool.false_xor]
    cases c2 <;> simp [F_branch_count, B_branch_count, e1, e2]
theorem branch_count_eq {s : Option P3} (g : Good t b s) (S : Sto) : F_branch_count [deedV t b s, .int b] S = some (.int (cntN t b s), S) := by
  cases s with
  | none => exact (bc_body r_mute (fun _ => p_mute))
  | some p =>
    obtain ⟨hp, sl⟩ := g p rfl
    unfold silentAt at sl
    cases h : t[p.1]? with
    | none => simp only [deedV, cntN, h]; exact (bc_body r_end (fun _ => p_end))
    | some r =>
      rw [h] at sl
      cases r with
      | set v e => cases sl
      | iff e f r => cases sl
      | go r => cases sl
      | say e => simp only [deedV, cntN, h]; exact (bc_body r_say (fun _ => p_say))
      | ask v => simp only [deedV, cntN, h]; exact (bc_body (c2 := true) r_ask (fun z => by cases z))
      | read c v => simp only [deedV, cntN, h]; exact (bc_body (c2 := true) r_read (fun z => by cases z))
      | write c e => simp only [deedV, cntN, h]; exact (bc_body r_write (fun _ => p_write))
      | call n e v => simp only [deedV, cntN, h]; exact (bc_body (c2 := true) r_call (fun z => by cases z))
      | fin e => simp only [deedV, cntN, h]; exact (bc_body r_end (fun _ => p_end))
end
end J

set_option autoImplicit false
namespace J
open PySem PySem.Spec PyProof.Rows L2
section
variable {env : Env} {S : Sto}
theorem w_tp2 (i j : Nat) (a c : D) (Q : Env → Sto → Prop) : Wp (gTp 2 (gCons (gNm i) (gCons (gNm j) gNil)) (.tup [a, c]) env S) Q = Q ((env.set i (some a)).set j (some c)) S := wp_some _ _ _
theorem w_tp3 (i j k : Nat) (a c d : D) (Q : Env → Sto → Prop) : Wp (gTp 3 (gCons (gNm i) (gCons (gNm j) (gCons (gNm k) gNil))) (.tup [a, c, d]) env S) Q = Q (((env.set i (some a)).set j (some c)).set k (some d)) S := wp_some _ _ _
theorem w_enumZ (fa fb : FE) (Q : List D → Sto → Prop) : Wp (fEnumZ (faCons fa (faCons fb faNil)) env S) Q = Wp (fa env S) fun a S1 => Wp (fb env S1) fun c S2 => ∃ xs, a = .tup xs ∧ ∃ ys, c = .tup ys ∧ Q (ezD xs ys) S2 := by
  unfold fEnumZ
  rw [show Wp (fa env S) (fun a S1 => Wp (fb env S1) fun c S2 => ∃ xs, a = .tup xs ∧ ∃ ys, c = .tup ys ∧ Q (ezD xs ys) S2) = Wp (faCons fa (faCons fb faNil) env S) (fun ds S2 => ∃ xs ys, ds = [.tup xs, .tup ys] ∧ Q (ezD xs ys) S2) by
    simp only [w_acons, w_anil]
    congr 1
    funext a S1
    congr 1
    funext c S2
    apply propext
    constructor
    · rintro ⟨xs, rfl, ys, rfl, q⟩; exact ⟨xs, ys, rfl, q⟩
    · rintro ⟨xs, ys, e, q⟩; cases e; exact ⟨xs, rfl, ys, rfl, q⟩]
  split
  · rename_i xs ys S1 h
    rw [h, wp_some, wp_some]
    apply propext
    exact ⟨fun q => ⟨xs, ys, rfl, q⟩, fun ⟨_, _, e, q⟩ => by cases e; exact q⟩
  · rename_i h
    cases h5 : faCons fa (faCons fb faNil) env S with
    | none => rw [wp_none, wp_none]
    | some p => obtain ⟨c, S3⟩ := p; rw [wp_none, wp_some]; simp only [eq_iff_iff, false_iff]; rintro ⟨k, k2, rfl, _⟩; exact absurd h5 (h k k2 S3)
theorem w_disp1 (fk fv : FE) (Q : D → Sto → Prop) : Wp (fDisp1 fk fv env S) Q = Wp (fk env S) fun k S1 => Wp (fv env S1) fun v S2 => ∃ q, k.tkey = some q ∧ Q (.obj S2.length) (S2 ++ [.dct [(q, k, v)]]) := by
  unfold fDisp1
  cases h1 : fk env S with
  | none => simp only [wp_none]
  | some p =>
    obtain ⟨k, S1⟩ := p
    simp only [wp_some]
    cases h2 : fv env S1 with
    | none => simp only [wp_none]
    | some p =>
      obtain ⟨v, S2⟩ := p
      simp only [wp_some]
      cases h3 : k.tkey with
      | none => simp [wp_none]
      | some q => simp [wp_some]
theorem w_par2 (E : En) (i j : Nat) (fa fb : FE) : WpS (fPar i j (faCons fa (faCons fb faNil)) env S) E = Wp (fa env S) fun a S1 => Wp (fb env S1) fun c S2 => E.nx ((env.set i (some a)).set j (some c)) S2 := by
  rw [w_par]
  simp only [w_acons, w_anil]
  congr 1
  funext a S1
  congr 1
  funext c S2
  apply propext
  constructor
  · rintro ⟨d, e, h, q⟩; cases h; exact q
  · intro q; exact ⟨a, c, rfl, q⟩
end
/-- a while whose ends stay closed while its body is read -/
theorem w_while' {c : FT} {b : FS} {E : En} (I : Nat → Env → Sto → Prop) {env : Env} {S : Sto} {n : Nat} (h0 : I n env S)
    (hs : ∀ n env S, I n env S → ∀ E' : En, (∀ m e S2, m < n → I m e S2 → E'.nx e S2) → (∀ m e S2, m < n → I m e S2 → E'.ct e S2) → (∀ d S2, E.rt d S2 → E'.rt d S2) → (∀ e S2, E.nx e S2 → E'.bk e S2) → ∀ Ex : Env → Sto → Prop, (∀ e S2, E.nx e S2 → Ex e S2) → Wp (c env S) fun t S1 => if t = true then WpS (b env S1) E' else Ex env S1) : WpS (fWhile c b env S) E :=
  w_while I h0 fun n env S h => hs n env S h ⟨fun e S2 => ∃ m, m < n ∧ I m e S2, E.rt, E.nx, fun e S2 => ∃ m, m < n ∧ I m e S2⟩ (fun m e S2 hm h => ⟨m, hm, h⟩) (fun m e S2 hm h => ⟨m, hm, h⟩) (fun _ _ h => h) (fun _ _ h => h) E.nx (fun _ _ h => h)
theorem w_for' {g : FG} {b : FS} {E : En} (I : Nat → Env → Sto → Prop) {ds : List D} {env : Env} {S : Sto} (h0 : I 0 env S)
    (hs : ∀ i d env S, ds[i]? = some d → I i env S → ∀ E' : En, (∀ e S2, I (i + 1) e S2 → E'.nx e S2) → (∀ e S2, I (i + 1) e S2 → E'.ct e S2) → (∀ d S2, E.rt d S2 → E'.rt d S2) → (∀ e S2, E.nx e S2 → E'.bk e S2) → Wp (g d env S) fun e S1 => WpS (b e S1) E') (hq : ∀ env S, I ds.length env S → E.nx env S) : WpS (fForL g b ds env S) E :=
  w_for_inv I h0 (fun i d env S hd h => hs i d env S hd h ⟨I (i + 1), E.rt, E.nx, I (i + 1)⟩ (fun _ _ h => h) (fun _ _ h => h) (fun _ _ h => h) (fun _ _ h => h)) hq
end J

set_option autoImplicit false
namespace J
open PySem L2
open Kx (Op Ex Rw vok silentAt P3 Ind it stp stepR res)
def pyO : Option P3 → PyData
  | some p => .tuple [.int p.1, .int p.2.1, .int p.2.2]
  | none => .tuple [.int (-1), .int 0, .int 0]
theorem py_stO (s : Option P3) : D.py (stO s) = some (pyO s) := by
  cases s <;> simp [stO, ptD, stD, D.py, D.pys, pyO]
theorem pyS_stO (s : Option P3) (S : Sto) : (stO s).pyS S = some (pyO s) := by
  cases s with
  | none => simp [D.pyS, stO, stD, D.py, D.pys, pyO]
  | some p => simp [D.pyS, stO, ptD, stD, D.py, D.pys, pyO]
theorem eqv_pyO (s s' : Option P3) : PyData.eqv (pyO s) (pyO s') = decide (s = s') := by
  cases s with
  | none =>
    cases s' with
    | none => simp [pyO, PyData.eqv, PyData.eqvAll]
    | some q => simp [pyO, PyData.eqv, PyData.eqvAll]
  | some p =>
    cases s' with
    | none => simp [pyO, PyData.eqv, PyData.eqvAll]
    | some q =>
      obtain ⟨i, x, y⟩ := p
      obtain ⟨i', x', y'⟩ := q
      by_cases h : i = i'
      · subst h
        by_cases hx : x = x'
        · subst hx
          by_cases hy : y = y'
          · subst hy; simp [pyO, PyData.eqv, PyData.eqvAll]
          · simp [pyO, PyData.eqv, PyData.eqvAll, hy]
        · simp [pyO, PyData.eqv, PyData.eqvAll, hx]
      · have : ¬ ((i : Int) = (i' : Int)) := by omega
        simp [pyO, PyData.eqv, PyData.eqvAll, h, this]
theorem shaped_pyO (s : Option P3) : SeqAt.shaped (pyO s) = true := by
  cases s <;> simp [pyO, SeqAt.shaped, PyData.canLay0, PyData.canLayAll0, PyData.depth, PyData.depthAll]
theorem gEq_stO (n : Bool) (s s' : Option P3) (S : Sto) : gEq n (stO s) (stO s') S = some (.bl (n ^^ decide (s = s')), S) := by
  unfold gEq
  simp only [pyS_stO]
  rw [if_pos (by rw [shaped_pyO, shaped_pyO]; simp), eqv_pyO]
theorem rngD_nat (n : Nat) : rngD 0 n = (List.range n).map fun (k : Nat) => D.int (k : Int) := by
  unfold rngD
  simp
theorem rng_get {n i : Nat} {d : D} (h : (rngD 0 n)[i]? = some d) : i < n ∧ d = .int (i : Int) := by
  have hi := (List.getElem?_eq_some_iff.mp h).1
  rw [rngD_len] at hi
  rw [rngD_nat, List.getElem?_map, List.getElem?_range hi] at h
  exact ⟨hi, (Option.some.inj h).symm⟩
section
variable {t u : List Rw} {N : List Str} {b : Nat}
theorem deed_of_eq (ok : Kx.Tx.ok b N t) (hb : 0 < b) (hb4 : b ≤ 4) {s : Option P3} (g : Good t b s) (S : Sto) : F_deed_of [txD t, stO s, .int b] S = some (deedV t b s, S) := by
  have key : Wp (F_deed_of [txD t, stO s, .int b] S) fun d S' => d = deedV t b s ∧ S' = S := by
    unfold F_deed_of
    rw [w_run]
    unfold B_deed_of
    have s3 : startD 3 [txD t, stO s, .int b] = [some (txD t), some (stO s), some (.int b)] := by simp
    rw [s3]
    simp only [w_tp2, w_tp3, w_enumZ, w_disp1, w_par2, w_var, w_C, w_op, w_un, w_test, w_truth, w_andT, w_orT, w_notT, w_andV, w_orV, w_notV, w_if, w_anil, w_acons, w_tup, w_lst, w_lstN, w_call, w_callN, w_B, w_M, w_M0, w_rng1, w_lc, w_yes, w_dnew, w_next, w_no, w_brk, w_cnt, w_retN, w_seq, w_drop, w_ret, w_ifS, w_nm, w_sub, w_asg, w_for, w_aug, w_slice, w_oNone, w_oSome, wp_some, List.getElem?_cons_zero, List.getElem?_cons_succ, List.set_cons_zero, List.set_cons_succ, Option.some.injEq, exists_eq_left', D.obj.injEq, D.bl.injEq, D.int.injEq, D.str.injEq, D.tup.injEq, D.lst.injEq, List.cons.injEq, List.append_nil, List.nil_append, List.cons_append, List.length_cons, List.length_nil, Nat.reduceAdd, Nat.reduceLeDiff, Nat.zero_le, true_and, and_true, and_self, if_true, Bool.false_eq_true, if_false, Bool.xor_self, Bool.xor_false, Bool.xor_true, Bool.false_xor, Bool.true_xor, Bool.not_true, Bool.not_false]
    rw [check_stand_eq g]
    simp only [w_tp2, w_tp3, w_enumZ, w_disp1, w_par2, w_var, w_C, w_op, w_un, w_test, w_truth, w_andT, w_orT, w_notT, w_andV, w_orV, w_notV, w_if, w_anil, w_acons, w_tup, w_lst, w_lstN, w_call, w_callN, w_B, w_M, w_M0, w_rng1, w_lc, w_yes, w_dnew, w_next, w_no, w_brk, w_cnt, w_retN, w_seq, w_drop, w_ret, w_ifS, w_nm, w_sub, w_asg, w_for, w_aug, w_slice, w_oNone, w_oSome, wp_some, List.getElem?_cons_zero, List.getElem?_cons_succ, List.set_cons_zero, List.set_cons_succ, Option.some.injEq, exists_eq_left', D.obj.injEq, D.bl.injEq, D.int.injEq, D.str.injEq, D.tup.injEq, D.lst.injEq, List.cons.injEq, List.append_nil, List.nil_append, List.cons_append, List.length_cons, List.length_nil, Nat.reduceAdd, Nat.reduceLeDiff, Nat.zero_le, true_and, and_true, and_self, if_true, Bool.false_eq_true, if_false, Bool.xor_self, Bool.xor_false, Bool.xor_true, Bool.false_xor, Bool.true_xor, Bool.not_true, Bool.not_false]
    rw [deed_at_eq ok hb hb4 g]
    simp only [w_tp2, w_tp3, w_enumZ, w_disp1, w_par2, w_var, w_C, w_op, w_un, w_test, w_truth, w_andT, w_orT, w_notT, w_andV, w_orV, w_notV, w_if, w_anil, w_acons, w_tup, w_lst, w_lstN, w_call, w_callN, w_B, w_M, w_M0, w_rng1, w_lc, w_yes, w_dnew, w_next, w_no, w_brk, w_cnt, w_retN, w_seq, w_drop, w_ret, w_ifS, w_nm, w_sub, w_asg, w_for, w_aug, w_slice, w_oNone, w_oSome, wp_some, List.getElem?_cons_zero, List.getElem?_cons_succ, List.set_cons_zero, List.set_cons_succ, Option.some.injEq, exists_eq_left', D.obj.injEq, D.bl.injEq, D.int.injEq, D.str.injEq, D.tup.injEq, D.lst.injEq, List.cons.injEq, List.append_nil, List.nil_append, List.cons_append, List.length_cons, List.length_nil, Nat.reduceAdd, Nat.reduceLeDiff, Nat.zero_le, true_and, and_true, and_self, if_true, Bool.false_eq_true, if_false, Bool.xor_self, Bool.xor_false, Bool.xor_true, Bool.false_xor, Bool.true_xor, Bool.not_true, Bool.not_false]
    rw [gc_same (by simp), wp_some]
    exact ⟨rfl, rfl⟩
  obtain ⟨d, S', e, rfl, rfl⟩ := key
  exact e
theorem good_mute : Good t b none := fun p hp => by cases hp
end
end J

set_option autoImplicit false
namespace J
open PySem L2
open Kx (Op Ex Rw vok silentAt P3 Ind it stp stepR res)
theorem disp_p (a b c : D) : valKD (mergeKD [] (kvN ["+", "-", "*"] [a, b, c])) (Sum.inr "+") = some a := by simp [valKD, mergeKD, kvN, putKD]
theorem disp_m (a b c : D) : valKD (mergeKD [] (kvN ["+", "-", "*"] [a, b, c])) (Sum.inr "-") = some b := by simp [valKD, mergeKD, kvN, putKD]
theorem disp_t (a b c : D) : valKD (mergeKD [] (kvN ["+", "-", "*"] [a, b, c])) (Sum.inr "*") = some c := by simp [valKD, mergeKD, kvN, putKD]
theorem lvalue_op (o : Op) (x y b : Int) (S : Sto) (n : Nat) : F__law_value_n (n + 1) [opD o, .int x, .int y, .int b] S = some (.int (o.val x y), S) := by
  cases o <;> simp [F__law_value_n, opD, Kx.Op.val]
theorem lvalue_eq {e : Ex} {b : Int} (he : e.ok b) (hb : 0 < b) (hb4 : b ≤ 4) {x y : Int} (hx : 0 ≤ x ∧ x < b) (hy : 0 ≤ y ∧ y < b) (S : Sto) : F__law_value [exD e, .int x, .int y, .int b] S = some (.int (e.val b x y), S) := by
  cases e with
  | o a => exact lvalue_op a x y b S 1
  | t s l m =>
    have h1 := Kx.Op.val_in he.2.1 hx hy
    have h2 := Kx.Op.val_in he.2.2 hx hy
    show F__law_value_n 2 _ _ = _
    rw [F__law_value_n]
    rcases he.1 with rfl | rfl | rfl <;> simp [exD, lvalue_op, Kx.Ex.val, Kx.sgn, hb, small_mul hb4 h1, disp_p, disp_m, disp_t]
section
variable {t : List Rw} {N : List Str} {b : Nat}
theorem cut2 (a c : D) (S : Sto) : gCut (.tup [a, c]) none (some (-1)) S = some (.tup [a], S) := by simp [gCut, cutD, HT.sIx]
theorem cut3 (a c d : D) (S : Sto) : gCut (.tup [a, c, d]) none (some (-1)) S = some (.tup [a, c], S) := by simp [gCut, cutD, HT.sIx]
theorem ldeed_body {Fv : Fn} {T : D} {B L i x y : Int} {S : Sto} (hl : gLen [T] S = some (.int L, S)) {R : D}
    (hc : i = -1 → R = .tup [.str "mute"]) (he : i ≠ -1 → i = L → R = .tup [.str "end", .int 0])
    (hr : i ≠ -1 → i ≠ L → ∃ r : Rw, r.silent = false ∧ gIdx T (.int i) S = some (rwD r, S) ∧ (match r with
      | .say e => ∃ v, Fv [exD e, .int x, .int y, .int B] S = some (.int v, S) ∧ R = .tup [.str "say", .int v]
      | .ask _ => R = .tup [.str "ask"]
      | .read k _ => R = .tup [.str "read", .int k]
      | .write k e => ∃ v, Fv [exD e, .int x, .int y, .int B] S = some (.int v, S) ∧ R = .tup [.str "write", .int k, .int v]
      | .call n e _ => ∃ v, Fv [exD e, .int x, .int y, .int B] S = some (.int v, S) ∧ R = .tup [.str "call", .str n, .int v]
      | .fin e => ∃ v, Fv [exD e, .int x, .int y, .int B] S = some (.int v, S) ∧ R = .tup [.str "end", .int v]
      | _ => True)) :
    ∃ env, (fSeq (fAsg (fVar 1) (gTp 3 (gCons (gNm 3) (gCons (gNm 4) (gCons (gNm 5) gNil)))))
    (fSeq (fIfS (fOrT (fTest (fOp (gEq false) (fVar 3) (fUn gNeg (fC (.int 1))))) (fTest (fOp (gEq false) (fVar 3) (fB gLen (faCons (fVar 0) faNil))))) (fRet (fIf (fTest (fOp (gEq false) (fVar 3) (fUn gNeg (fC (.int 1))))) (fTup (faCons (fC (.str "mute")) faNil)) (fTup (faCons (fC (.str "end")) (faCons (fC (.int 0)) faNil))))) fNext)
    (fSeq (fAsg (fOp gIdx (fVar 0) (fVar 3)) (gNm 6))
    (fSeq (fIfS (fTest (fOp (gIn false) (fOp gIdx (fVar 6) (fC (.int 0))) (fTup (faCons (fC (.str "ask")) (faCons (fC (.str "read")) faNil))))) (fRet (fSlice (fVar 6) foNone (foSome (fUn gNeg (fC (.int 1)))))) fNext)
    (fSeq (fIfS (fTest (fOp (gIn false) (fOp gIdx (fVar 6) (fC (.int 0))) (fTup (faCons (fC (.str "write")) (faCons (fC (.str "call")) faNil))))) (fRet (fTup (faCons (fOp gIdx (fVar 6) (fC (.int 0))) (faCons (fOp gIdx (fVar 6) (fC (.int 1))) (faCons (fCall 4 Fv (faCons (fOp gIdx (fVar 6) (fC (.int 2))) (faCons (fVar 4) (faCons (fVar 5) (faCons (fVar 2) faNil)))) []) faNil))))) fNext)
    (fRet (fTup (faCons (fOp gIdx (fVar 6) (fC (.int 0))) (faCons (fCall 4 Fv (faCons (fOp gIdx (fVar 6) (fC (.int 1))) (faCons (fVar 4) (faCons (fVar 5) (faCons (fVar 2) faNil)))) []) faNil))))))))) [some T, some (.tup [.int i, .int x, .int y]), some (.int B), none, none, none, none] S = some (.rt R, env, S) := by
  by_cases c : i = -1
  · rw [hc c]; subst c; exact ⟨_, by simp; rfl⟩
  · have c' : (i == -1) = false := beq_eq_false_iff_ne.mpr c
    by_cases e : i = L
    · rw [he c e]; subst e; exact ⟨_, by simp [hl, c']; rfl⟩
    · have e' : (i == L) = false := beq_eq_false_iff_ne.mpr e
      obtain ⟨r, rs, hx, hR⟩ := hr c e
      cases r with
      | set v e => cases rs
      | iff e f r => cases rs
      | go r => cases rs
      | say e => obtain ⟨v, hv, rfl⟩ := hR; exact ⟨_, by simp [hl, c', e', hx, rwD, rwT, Kx.Rw.w, hv, in_ar, in_wc, a_say, wd_say]; rfl⟩
      | ask v => simp only at hR; subst hR; exact ⟨_, by simp [hl, c', e', hx, rwD, rwT, Kx.Rw.w, in_ar, a_ask, cut2]; rfl⟩
      | read k v => simp only at hR; subst hR; exact ⟨_, by simp [hl, c', e', hx, rwD, rwT, Kx.Rw.w, in_ar, a_read, cut3]; rfl⟩
      | write k e => obtain ⟨v, hv, rfl⟩ := hR; exact ⟨_, by simp [hl, c', e', hx, rwD, rwT, Kx.Rw.w, hv, in_ar, in_wc, a_write, w_write]; rfl⟩
      | call n e v => obtain ⟨v, hv, rfl⟩ := hR; exact ⟨_, by simp [hl, c', e', hx, rwD, rwT, Kx.Rw.w, hv, in_ar, in_wc, a_call, wd_call]; rfl⟩
      | fin e => obtain ⟨v, hv, rfl⟩ := hR; exact ⟨_, by simp [hl, c', e', hx, rwD, rwT, Kx.Rw.w, hv, in_ar, in_wc, a_end, w_end]; rfl⟩
theorem ldeed_eq (ok : Kx.Tx.ok b N t) (hb : 0 < b) (hb4 : b ≤ 4) {s : Option P3} (g : Good t b s) (S : Sto) : F__law_deed [txD t, stO s, .int b] S = some (deedV t b s, S) := by
  have len : gLen [txD t] S = some (.int t.length, S) := by simp [txD]
  have hs : ∃ i x y : Int, stO s = .tup [.int i, .int x, .int y] ∧ (s = none → i = -1) ∧ ∀ p, s = some p → i = p.1 ∧ x = p.2.1 ∧ y = p.2.2 := by
    cases s with
    | none => exact ⟨-1, 0, 0, rfl, fun _ => rfl, fun p z => by cases z⟩
    | some p => exact ⟨p.1, p.2.1, p.2.2, rfl, fun z => (by cases z), fun q z => (by cases z; exact ⟨rfl, rfl, rfl⟩)⟩
  obtain ⟨i, x, y, es, h1, h2⟩ := hs
  obtain ⟨env, e⟩ := ldeed_body (Fv := F__law_value) (T := txD t) (B := b) (i := i) (x := x) (y := y) len (R := deedV t b s)
    (fun c => by
      cases s with
      | none => rfl
      | some p => have := (h2 p rfl).1; omega)
    (fun c hi => by
      cases s with
      | none => exact absurd (h1 rfl) c
      | some p =>
        have := (h2 p rfl).1
        have : t[p.1]? = none := (end_none (g p rfl).1.1).mpr (by omega)
        simp only [deedV, this])
    (fun c hi => by
      cases s with
      | none => exact absurd (h1 rfl) c
      | some p =>
        obtain ⟨hp, sl⟩ := g p rfl
        obtain ⟨rfl, rfl, rfl⟩ := h2 p rfl
        have hlt : p.1 < t.length := by have := hp.1; omega
        obtain ⟨r, hr⟩ : ∃ r, t[p.1]? = some r := ⟨t[p.1], by simp [hlt]⟩
        have rs : r.silent = false := by
          unfold silentAt at sl
          rw [hr] at sl
          exact sl
        have rok := ok _ (List.mem_of_getElem? hr)
        have val : ∀ {e : Ex}, e.ok b → F__law_value [exD e, .int p.2.1, .int p.2.2, .int b] S = some (.int (e.val b p.2.1 p.2.2), S) := fun he => lvalue_eq he (by omega) (by omega) hp.2.1 hp.2.2 S
        refine ⟨r, rs, row_at hr S, ?_⟩
        cases r with
        | set v e => trivial
        | iff e f r => trivial
        | go r => trivial
        | say e => exact ⟨_, val rok, by simp only [deedV, hr]⟩
        | ask v => simp only [deedV, hr]
        | read k v => simp only [deedV, hr]
        | write k e => exact ⟨_, val rok.2, by simp only [deedV, hr]⟩
        | call n e v => exact ⟨_, val rok.2.1, by simp only [deedV, hr]⟩
        | fin e => exact ⟨_, val rok, by simp only [deedV, hr]⟩)
  rw [← es] at e
  have body : B__law_deed (startD 7 [txD t, stO s, .int b]) S = some (.rt (deedV t b s), env, S) := e
  unfold F__law_deed
  rw [runD_rt body, gc_same (by simp)]
abbrev dsp : List (Key × D) := mergeKD [] (kvN ["say", "write", "end", "mute"] [.int 1, .int 1, .int 0, .int 0])
theorem d_say : valKD dsp (Sum.inr "say") = some (.int 1) := by simp [dsp, valKD, mergeKD, kvN, putKD]
theorem d_write : valKD dsp (Sum.inr "write") = some (.int 1) := by simp [dsp, valKD, mergeKD, kvN, putKD]
theorem d_end : valKD dsp (Sum.inr "end") = some (.int 0) := by simp [dsp, valKD, mergeKD, kvN, putKD]
theorem d_mute : valKD dsp (Sum.inr "mute") = some (.int 0) := by simp [dsp, valKD, mergeKD, kvN, putKD]
theorem d_ask : valKD dsp (Sum.inr "ask") = none := by simp [dsp, valKD, mergeKD, kvN, putKD]
theorem d_read : valKD dsp (Sum.inr "read") = none := by simp [dsp, valKD, mergeKD, kvN, putKD]
theorem d_call : valKD dsp (Sum.inr "call") = none := by simp [dsp, valKD, mergeKD, kvN, putKD]
theorem lcount_gen {Fd : Fn} {T s : D} {B : Int} {w : Str} {ds : List D} {S : Sto} {o : Option D} {C : Int} (h : Fd [T, s, .int B] S = some (.tup (.str w :: ds), S)) (hv : valKD dsp (Sum.inr w) = o) (hC : o.getD (.int B) = .int C) :
    (fRet (fDispGet ["say", "write", "end", "mute"] (faCons (fC (.int 1)) (faCons (fC (.int 1)) (faCons (fC (.int 0)) (faCons (fC (.int 0)) faNil)))) (fOp gIdx (fCall 3 Fd (faCons (fVar 0) (faCons (fVar 1) (faCons (fVar 2) faNil))) []) (fC (.int 0))) (fVar 2))) [some T, some s, some (.int B)] S = some (.rt (.int C), [some T, some s, some (.int B)], S) := by
  simp [h, hv, hC]
theorem lcount_eq (ok : Kx.Tx.ok b N t) (hb : 0 < b) (hb4 : b ≤ 4) {s : Option P3} (g : Good t b s) (S : Sto) : F__law_count [txD t, stO s, .int b] S = some (.int (cntN t b s), S) := by
  have hd := ldeed_eq ok hb hb4 g S
  have G : ∀ (w : Str) (ds : List D) (o : Option D), deedV t b s = .tup (.str w :: ds) → valKD dsp (Sum.inr w) = o → o.getD (.int b) = .int (cntN t b s) → F__law_count [txD t, stO s, .int b] S = some (.int (cntN t b s), S) := by
    intro w ds o h1 h2 h3
    rw [h1] at hd
    have body : B__law_count (startD 3 [txD t, stO s, .int b]) S = some (.rt (.int (cntN t b s)), _, S) := lcount_gen hd h2 h3
    unfold F__law_count
    rw [runD_rt body, gc_same (by simp)]
  cases s with
  | none => exact G _ _ _ rfl d_mute rfl
  | some p =>
    obtain ⟨hp, sl⟩ := g p rfl
    unfold silentAt at sl
    cases h : t[p.1]? with
    | none => exact G "end" [.int 0] _ (by simp only [deedV, h]) d_end (by simp [cntN, h])
    | some r =>
      rw [h] at sl
      cases r with
      | set v e => cases sl
      | iff e f r => cases sl
      | go r => cases sl
      | say e => exact G "say" _ _ (by simp only [deedV, h]; rfl) d_say (by simp [cntN, h])
      | ask v => exact G "ask" [] _ (by simp only [deedV, h]) d_ask (by simp [cntN, h])
      | read c v => exact G "read" _ _ (by simp only [deedV, h]; rfl) d_read (by simp [cntN, h])
      | write c e => exact G "write" _ _ (by simp only [deedV, h]; rfl) d_write (by simp [cntN, h])
      | call n e v => exact G "call" _ _ (by simp only [deedV, h]; rfl) d_call (by simp [cntN, h])
      | fin e => exact G "end" _ _ (by simp only [deedV, h]; rfl) d_end (by simp [cntN, h])
end
end J

set_option autoImplicit false
namespace J
open PySem L2
open Kx (Op Ex Rw vok silentAt P3 Ind it stp stepR res)
theorem ty_obj {S : Sto} {n : Nat} {l : List D} (h : S[n]? = some (.lst l)) : tyD "list" S (.obj n) = true := by
  simp [tyD, h]
abbrev ksD (ks : List Nat) : List D := ks.map fun (k : Nat) => D.int (k : Int)
theorem forN_inv {i : Nat} {bd : FS} {P : Env → Sto → Prop} : ∀ (ds : List D) (env : Env) (S : Sto), P env S → (∀ d ∈ ds, ∀ env S, P env S → ∃ env' S', bd (env.set i (some d)) S = some (.nx, env', S') ∧ P env' S') → ∃ env' S', fForL (gNm i) bd ds env S = some (.nx, env', S') ∧ P env' S'
  | [], env, S, h, _ => ⟨env, S, rfl, h⟩
  | d :: ds, env, S, h, st => by
    obtain ⟨e1, S1, h1, p1⟩ := st d (List.mem_cons_self ..) env S h
    obtain ⟨e2, S2, h2, p2⟩ := forN_inv ds e1 S1 p1 (fun d hd => st d (List.mem_cons_of_mem _ hd))
    refine ⟨e2, S2, ?_, p2⟩
    rw [fForL, gNm_eq]
    simp only
    rw [h1]
    exact h2
theorem mem_rngD {n : Nat} {d : D} (h : d ∈ rngD 0 n) : ∃ j : Nat, j < n ∧ d = .int (j : Int) := by
  unfold rngD at h
  obtain ⟨j, hj, rfl⟩ := List.mem_map.mp h
  exact ⟨j, List.mem_range.mp hj, by simp⟩
section
variable {t : List Rw} {N : List Str} {b : Nat}
noncomputable abbrev eS : FE := L__law_stands_1
theorem eS_gen {a d2 : D} {k B : Int} {T : Option D} {S : Sto} (h1 : decide (0 < B) = true) (h2 : decide (B < 1073741824) = true) : eS [T, some (.int B), some d2, some a, some (.int k)] S = some (.tup [a, .int (k / B), .int (k % B)], S) := by
  simp only [eS, L__law_stands_1, fTup_eq, faCons_eq, faNil_eq, fVar_eq, fOp_eq, gI_int, List.getElem?_cons_zero, List.getElem?_cons_succ, h1, h2, Bool.and_self, if_true, List.length_cons, List.length_nil, Nat.reduceAdd, Nat.reduceLeDiff]
def stAt (b i k : Nat) : Option P3 := some (i, ((k / b : Nat) : Int), ((k % b : Nat) : Int))
theorem std_lc (hb : 0 < b) (hb4 : b ≤ 4) {T : Option D} {d2 : D} (i : Nat) (S : Sto) : ∀ ks : List Nat, fLcL (gNm 4) fYes eS [T, some (.int b), some d2, some (.int i), none] (ksD ks) S = some (ks.map fun k => stO (stAt b i k), S)
  | [] => rfl
  | k :: ks => by
    have er : eS [T, some (.int b), some d2, some (.int i), some (.int k)] S = some (stO (stAt b i k), S) := eS_gen (decide_eq_true (by omega)) (decide_eq_true (by omega))
    have ih := std_lc hb hb4 (T := T) (d2 := d2) i S ks
    rw [ksD, List.map_cons, fLcL, gNm_eq]
    simp only [List.set_cons_succ, List.set_cons_zero, fYes_eq]
    rw [er]
    simp only
    rw [ksD] at ih
    rw [ih]
    rfl
noncomputable abbrev bS : FS := L__law_stands_2
theorem bS_gen {T : D} {i B L : Int} {n0 : Nat} {S S1 : Sto} {ds R : List D} {row : D} {w : Str} {rest : List D} {c : Bool} (hl : gLen [T] S = some (.int L, S)) (hrow : i ≠ L → gIdx T (.int i) S = some (.tup (.str w :: rest), S) ∧ gIn true (.str w) (.tup [.str "set", .str "if", .str "go"]) S = some (.bl c, S))
    (hr : fRng1 (faCons (fOp (gI cMul fun i j => i * j) (fVar 1) (fVar 1)) faNil) [some T, some (.int B), some (.obj n0), some (.int i), none] S = some (ds, S)) (hd : ds.length ≤ 100000) (ty : tyD "list" S (.obj n0) = true) (hlc : fLcL (gNm 4) fYes eS [some T, some (.int B), some (.obj n0), some (.int i), none] ds S = some (R, S)) (he : gExt (.obj n0) [.lst R] S = some (.non, S1)) :
    bS [some T, some (.int B), some (.obj n0), some (.int i), none] S = some (.nx, [some T, some (.int B), some (.obj n0), some (.int i), none], if i = L ∨ c = true then S1 else S) := by
  generalize hE : eS = E at hlc
  generalize hF : fRng1 (faCons (fOp (gI cMul fun i j => i * j) (fVar 1) (fVar 1)) faNil) = F at hr
  by_cases e : i = L
  · rw [if_pos (.inl e)]
    subst e
    simp only [bS, L__law_stands_2, hE, hF, fIfS_eq, fOrT_eq, fTest_eq, fOp_eq, fVar_eq, fB_eq, faCons_eq, faNil_eq, List.getElem?_cons_zero, List.getElem?_cons_succ, hl, gEq_int, beq_self_eq_true, Bool.false_xor, fDrop_eq, fM_eq, ty, if_true, fLc_eq, hr, hd, wipeD_cons, wipeD_nil, List.set_cons_zero, List.set_cons_succ, hlc, he]
  · have e' : (i == L) = false := beq_eq_false_iff_ne.mpr e
    obtain ⟨h1, h2⟩ := hrow e
    cases c with
    | true =>
      rw [if_pos (.inr rfl)]
      simp only [bS, L__law_stands_2, hE, hF, fIfS_eq, fOrT_eq, fTest_eq, fOp_eq, fVar_eq, fB_eq, fC_eq, fTup_eq, faCons_eq, faNil_eq, List.length_cons, List.length_nil, Nat.reduceAdd, Nat.reduceLeDiff, List.getElem?_cons_zero, List.getElem?_cons_succ, hl, gEq_int, e', h1, h2, gIdx_tup, atI_0, Option.map_some, Bool.false_xor, fDrop_eq, fM_eq, ty, if_true, fLc_eq, hr, hd, wipeD_cons, wipeD_nil, List.set_cons_zero, List.set_cons_succ, hlc, he]
    | false =>
      rw [if_neg (by simp [e])]
      simp only [bS, L__law_stands_2, hE, hF, fIfS_eq, fOrT_eq, fTest_eq, fOp_eq, fVar_eq, fB_eq, fC_eq, fTup_eq, faCons_eq, faNil_eq, List.length_cons, List.length_nil, Nat.reduceAdd, Nat.reduceLeDiff, if_true, List.getElem?_cons_zero, List.getElem?_cons_succ, hl, gEq_int, e', h1, h2, gIdx_tup, atI_0, Option.map_some, Bool.false_xor, fNext_eq]
theorem stAt_good (hb : 0 < b) {i k : Nat} (hi : i ≤ t.length) (sl : silentAt t i = false) (hk : k < b * b) : Good t b (stAt b i k) := by
  intro p hp
  cases hp
  have h1 : k / b < b := Nat.div_lt_of_lt_mul hk
  have h2 : k % b < b := Nat.mod_lt _ hb
  exact ⟨⟨hi, ⟨Int.natCast_nonneg _, Int.ofNat_lt.mpr h1⟩, Int.natCast_nonneg _, Int.ofNat_lt.mpr h2⟩, sl⟩
theorem ext_obj {S : Sto} {n : Nat} {l bs : List D} (h : S[n]? = some (.lst l)) (hl : l.length + bs.length ≤ 100000) : gExt (.obj n) [.lst bs] S = some (.non, S.set n (.lst (l ++ bs))) := by
  simp only [gExt, h]
  rw [if_pos hl]
theorem rngBB {T : D} {d2 a : Option D} {B : Int} {n : Nat} {S : Sto} (hn : n ≤ 1000) (h : gI cMul (fun i j => i * j) (.int B) (.int B) S = some (.int (n : Int), S)) : fRng1 (faCons (fOp (gI cMul fun i j => i * j) (fVar 1) (fVar 1)) faNil) [some T, some (.int B), d2, a, none] S = some (rngD 0 n, S) := by
  refine rng_s hn ?_
  generalize (n : Int) = C at h
  simp only [faCons_eq, faNil_eq, fOp_eq, fVar_eq, List.getElem?_cons_zero, List.getElem?_cons_succ, h]
theorem bS_step (hb : 0 < b) (hb4 : b ≤ 4) (ht : t.length ≤ 30) {i : Nat} (hi : i ≤ t.length) {S0 : Sto} {ss : List (Option P3)} (hs : ∀ s ∈ ss, Good t b s) (hl : ss.length ≤ 10000) (e4 : Option D) :
    ∃ ss' : List (Option P3), (∀ s ∈ ss', Good t b s) ∧ ss'.length ≤ ss.length + 16 ∧ bS [some (txD t), some (.int b), some (.obj S0.length), some (.int i), none] (S0 ++ [.lst (ss.map stO)]) = some (.nx, [some (txD t), some (.int b), some (.obj S0.length), some (.int i), none], S0 ++ [.lst (ss'.map stO)]) := by
  have len : gLen [txD t] (S0 ++ [.lst (ss.map stO)]) = some (.int t.length, S0 ++ [.lst (ss.map stO)]) := by simp [txD]
  have hk : (S0 ++ [.lst (ss.map stO)])[S0.length]? = some (.lst (ss.map stO)) := by simp
  have hbb : b * b ≤ 16 := Nat.mul_le_mul hb4 hb4
  have mul := mul_s (x := (b : Int)) (y := (b : Int)) (by omega) (by omega) (S0 ++ [.lst (ss.map stO)])
  have cast : (b : Int) * b = ((b * b : Nat) : Int) := by rw [Int.natCast_mul]
  rw [cast] at mul
  have rng := rngBB (T := txD t) (d2 := some (.obj S0.length)) (a := some (.int (i : Int))) (n := b * b) (by omega) mul
  have lc := std_lc hb hb4 (T := some (txD t)) (d2 := .obj S0.length) i (S0 ++ [.lst (ss.map stO)]) (List.range (b * b))
  rw [ksD, ← rngD_nat] at lc
  have ext := ext_obj (bs := (List.range (b * b)).map fun k => stO (stAt b i k)) hk (by rw [List.length_map, List.length_map, List.length_range]; omega)
  have hset : (S0 ++ [O.lst (ss.map stO)]).set S0.length (.lst (ss.map stO ++ (List.range (b * b)).map fun k => stO (stAt b i k))) = S0 ++ [.lst ((ss ++ (List.range (b * b)).map (stAt b i)).map stO)] := by
    rw [List.set_append_right _ _ (Nat.le_refl _), Nat.sub_self, List.map_append, List.map_map]
    rfl
  rw [hset] at ext
  by_cases hsil : silentAt t i = true
  · have hlt : i < t.length := by
      by_cases z : i < t.length
      · exact z
      · have : t[i]? = none := by simp; omega
        unfold silentAt at hsil
        rw [this] at hsil
        cases hsil
    obtain ⟨r, hr⟩ : ∃ r, t[i]? = some r := ⟨t[i], by simp [hlt]⟩
    have hs2 : r.silent = true := by unfold silentAt at hsil; rw [hr] at hsil; exact hsil
    have nn := notin_sil r (S0 ++ [.lst (ss.map stO)])
    rw [hs2] at nn
    refine ⟨ss, hs, by omega, ?_⟩
    have G := bS_gen (row := .non) (w := r.w) (rest := rwT r) (c := false) len (fun _ => ⟨row_at hr _, nn⟩) rng (by rw [rngD_len]; omega) (ty_obj hk) lc ext
    rw [if_neg (by intro z; rcases z with z | z; · omega
                   · cases z)] at G
    exact G
  · have hsil : silentAt t i = false := by simpa using hsil
    refine ⟨ss ++ (List.range (b * b)).map (stAt b i), fun s h => ?_, by rw [List.length_append, List.length_map, List.length_range]; omega, ?_⟩
    · rcases List.mem_append.mp h with z | z
      · exact hs s z
      · obtain ⟨k, hk, rfl⟩ := List.mem_map.mp z
        exact stAt_good hb hi hsil (List.mem_range.mp hk)
    · have hrw : (i : Int) ≠ (t.length : Int) → ∃ r, t[i]? = some r ∧ r.silent = false := fun z => by
        have hlt : i < t.length := by omega
        refine ⟨t[i], by simp [hlt], ?_⟩
        unfold silentAt at hsil
        rw [show t[i]? = some t[i] by simp [hlt]] at hsil
        exact hsil
      by_cases z : (i : Int) = (t.length : Int)
      · have G := bS_gen (row := .non) (w := "x") (rest := []) (c := true) len (fun n => absurd z n) rng (by rw [rngD_len]; omega) (ty_obj hk) lc ext
        rw [if_pos (.inl z)] at G
        exact G
      · obtain ⟨r, hr, hs2⟩ := hrw z
        have nn := notin_sil r (S0 ++ [.lst (ss.map stO)])
        rw [hs2] at nn
        have G := bS_gen (row := .non) (w := r.w) (rest := rwT r) (c := true) len (fun _ => ⟨row_at hr _, nn⟩) rng (by rw [rngD_len]; omega) (ty_obj hk) lc ext
        rw [if_pos (.inr rfl)] at G
        exact G
theorem std_loop (hb : 0 < b) (hb4 : b ≤ 4) (ht : t.length ≤ 30) {S0 : Sto} : ∀ (ds : List D) (ss : List (Option P3)) (e3 : Option D), (∀ d ∈ ds, ∃ i : Nat, i ≤ t.length ∧ d = .int (i : Int)) → (∀ s ∈ ss, Good t b s) → ss.length + 16 * ds.length ≤ 9000 →
    ∃ (ss' : List (Option P3)) (e3' : Option D), (∀ s ∈ ss', Good t b s) ∧ ss'.length ≤ ss.length + 16 * ds.length ∧ fForL (gNm 3) bS ds [some (txD t), some (.int b), some (.obj S0.length), e3, none] (S0 ++ [.lst (ss.map stO)]) = some (.nx, [some (txD t), some (.int b), some (.obj S0.length), e3', none], S0 ++ [.lst (ss'.map stO)])
  | [], ss, e3, _, hs, hl => ⟨ss, e3, hs, by simp, rfl⟩
  | d :: ds, ss, e3, hd, hs, hl => by
    rw [List.length_cons] at hl
    obtain ⟨i, hi, rfl⟩ := hd d (List.mem_cons_self ..)
    obtain ⟨s1, g1, l1, st⟩ := bS_step (S0 := S0) hb hb4 ht hi hs (by omega) none
    obtain ⟨s2, e3', g2, l2, ih⟩ := std_loop (S0 := S0) hb hb4 ht ds s1 (some (.int i)) (fun d h => hd d (List.mem_cons_of_mem _ h)) g1 (by omega)
    refine ⟨s2, e3', g2, by rw [List.length_cons]; omega, ?_⟩
    rw [fForL, gNm_eq]
    simp only [List.set_cons_succ, List.set_cons_zero]
    rw [st]
    exact ih
theorem std_gen {T : D} {B : Int} {S S1 : Sto} {ds : List D} {e3 : Option D} (hr : fRng1 (faCons (fOp gAdd (fB gLen (faCons (fVar 0) faNil)) (fC (.int 1))) faNil) [some T, some (.int B), some (.obj S.length), none, none] (S ++ [.lst []]) = some (ds, S ++ [.lst []])) (hf : fForL (gNm 3) bS ds [some T, some (.int B), some (.obj S.length), none, none] (S ++ [.lst []]) = some (.nx, [some T, some (.int B), some (.obj S.length), e3, none], S1)) :
    (fSeq (fAsg (fLstN faNil) (gNm 2))
    (fSeq (fFor (fRng1 (faCons (fOp gAdd (fB gLen (faCons (fVar 0) faNil)) (fC (.int 1))) faNil)) (gNm 3) bS)
    (fRet (fVar 2)))) [some T, some (.int B), none, none, none] S = some (.rt (.obj S.length), [some T, some (.int B), some (.obj S.length), e3, none], S1) := by
  generalize hg : bS = G at hf
  generalize he : fRng1 (faCons (fOp gAdd (fB gLen (faCons (fVar 0) faNil)) (fC (.int 1))) faNil) = E at hr
  simp only [fSeq_eq, fAsg_eq, faNil_eq, fLstN_eq, fVar_eq, gNm_eq, List.getElem?_cons_zero, List.getElem?_cons_succ, List.length_nil, Nat.zero_le, if_true, List.set_cons_zero, List.set_cons_succ, fFor_eq, hr, hf, fRet_eq]
theorem gc_frz {S : Sto} {l : List D} (h : D.undAll 0 l = true) : gc .frz S (.obj S.length) (S ++ [.lst l]) = some (.lst l, S) := by
  have kp : Keeps S (S ++ [.lst l]) := Keeps.app S _
  have a : (S ++ [O.lst l])[S.length]? = some (.lst l) := by simp
  simp only [gc]
  rw [if_pos kp]
  simp only [a]
  rw [if_pos ⟨Nat.le_refl _, h⟩, List.take_left]
theorem lstands_eq (hb : 0 < b) (hb4 : b ≤ 4) (ht : t.length ≤ 30) (S : Sto) : ∃ ss : List (Option P3), (∀ s ∈ ss, Good t b s) ∧ ss.length ≤ 600 ∧ F__law_stands [txD t, .int b] S = some (.lst (ss.map stO), S) := by
  have len : gLen [txD t] (S ++ [.lst []]) = some (.int t.length, S ++ [.lst []]) := by simp [txD]
  obtain ⟨ss, e3, g, l, e⟩ := std_loop (S0 := S) hb hb4 ht (rngD 0 (t.length + 1)) [] none (fun d hd => by obtain ⟨j, hj, rfl⟩ := mem_rngD hd; exact ⟨j, by omega, rfl⟩) (fun s h => by cases h) (by rw [rngD_len]; simp only [List.length_nil]; omega)
  rw [rngD_len] at l
  simp only [List.length_nil] at l
  have rng : fRng1 (faCons (fOp gAdd (fB gLen (faCons (fVar 0) faNil)) (fC (.int 1))) faNil) [some (txD t), some (.int b), some (.obj S.length), none, none] (S ++ [.lst []]) = some (rngD 0 (t.length + 1), S ++ [.lst []]) := rng_s (by omega) (by
    simp only [faCons_eq, faNil_eq, fOp_eq, fB_eq, fVar_eq, fC_eq, List.getElem?_cons_zero, len, gAdd_int]
    rw [Int.natCast_succ])
  have body : B__law_stands (startD 5 [txD t, .int b]) S = some (.rt (.obj S.length), _, S ++ [.lst (ss.map stO)]) := std_gen rng e
  refine ⟨ss, g, by omega, ?_⟩
  unfold F__law_stands
  rw [runD_rt body, gc_frz (undAll_map _ _ (stO_und 0) _)]
end
end J

namespace Kx
open PySem PySem.Spec PyProof.Rows L2
theorem text_le : ∀ (ts : List Str) (k : Nat) (acc : Str), (textFrom k acc ts).length ≤ acc.length + piled ts
  | [], k, acc => Nat.le_add_right _ _
  | t :: ts, k, acc => by
    have ih := text_le ts (k + 1) (acc ++ (if k > 0 then ", " else "" : String) ++ t)
    rw [strLen_append, strLen_append] at ih
    rw [piled_cons]
    show (textFrom (k + 1) (acc ++ (if k > 0 then ", " else "" : String) ++ t) ts).length ≤ _
    refine Nat.le_trans ih ?_
    have : (Str.ofString (if k > 0 then ", " else "")).length ≤ 2 := by split <;> decide
    omega
theorem list_le (ts : List Str) : (listText ts).length ≤ piled ts + 2 := by
  unfold listText
  rw [strLen_append]
  have h := text_le ts 0 "["
  have h1 : (Str.ofString "[").length = 1 := by decide
  have h2 : (Str.ofString "]").length = 1 := by decide
  rw [h1] at h
  rw [h2]
  omega
def Elt (d : PyData) : Prop := d.showable = true ∧ d.hasDict = false ∧ d.depth ≤ 3 ∧ d.shown.length ≤ 20
def Fine (d : PyData) : Prop := d.showable = true ∧ d.hasDict = false ∧ d.depth ≤ 60 ∧ d.shown.length ≤ sizeLine
theorem fine_list {ds : List PyData} (h : ∀ d ∈ ds, Elt d) (n : ds.length ≤ 10000) : Fine (.list ds) := by
  have a : PyData.showableAll ds = true ∧ PyData.hasDictAll ds = false ∧ PyData.depthAll ds ≤ 3 ∧ piled (PyData.shownAll ds) ≤ 22 * ds.length := by
    clear n
    induction ds with
    | nil => exact ⟨rfl, rfl, Nat.zero_le _, Nat.le_refl _⟩
    | cons d ds ih =>
      obtain ⟨a1, a2, a3, a4⟩ := ih fun x hx => h x (List.mem_cons_of_mem _ hx)
      obtain ⟨b1, b2, b3, b4⟩ := h d (List.mem_cons_self ..)
      refine ⟨?_, ?_, ?_, ?_⟩
      · simp only [PyData.showableAll, a1, b1, Bool.and_self]
      · simp only [PyData.hasDictAll, a2, b2, Bool.or_self]
      · simp only [PyData.depthAll]
        omega
      · simp only [PyData.shownAll, piled_cons, List.length_cons]
        omega
  obtain ⟨a1, a2, a3, a4⟩ := a
  refine ⟨?_, ?_, ?_, ?_⟩
  · simp only [PyData.showable]
    exact a1
  · simp only [PyData.hasDict]
    exact a2
  · simp only [PyData.depth]
    omega
  · simp only [PyData.shown]
    have := list_le (PyData.shownAll ds)
    exact Nat.le_trans this (Nat.le_trans (show piled (PyData.shownAll ds) + 2 ≤ 300000 by omega) (by decide))
theorem elt_none : Elt .none := by
  refine ⟨rfl, rfl, Nat.zero_le _, ?_⟩
  decide +kernel
theorem elt_all : ∀ r, r < 18 → ∀ x, x < 4 → ∀ y, y < 4 → (stD r x y).shown.length ≤ 20 := by decide +kernel
theorem elt_st {r x y : Nat} (hr : r < 18) (hx : x < 4) (hy : y < 4) : Elt (stD r x y) := by
  refine ⟨?_, rfl, ?_, elt_all r hr x hx y hy⟩
  · have big : ∀ n : Nat, n < 200 → decide ((n : Int).natAbs.log2 < 1920) = true := by decide +kernel
    simp only [stD, PyData.showable, PyData.showableAll, big r (by omega), big x (by omega), big y (by omega), Bool.and_self]
  · simp only [stD, PyData.depth, PyData.depthAll]
    omega
theorem elt_stands {t : List Rw} {b : Nat} (hb : b = 2 ∨ b = 3 ∨ b = 4) (ht : t.length ≤ 16) : ∀ d ∈ stands t b (t.length + 1), Elt d := by
  intro d hd
  unfold stands at hd
  obtain ⟨r, hr, hd⟩ := List.mem_flatMap.mp hd
  unfold blk at hd
  obtain ⟨x, hx, hd⟩ := List.mem_flatMap.mp hd
  unfold line at hd
  obtain ⟨y, hy, rfl⟩ := List.mem_map.mp hd
  unfold loud at hr
  have h1 := List.mem_range.mp (List.mem_filter.mp hr).1
  have h2 := List.mem_range.mp hx
  have h3 := List.mem_range.mp hy
  exact elt_st (by omega) (by omega) (by omega)
/-- the lists that the law holds, with their texts; none of them is the list that holds them -/
def Held (K : PySem.W.Frag) (h : Addr) (H : Hp) (hs : List V) : Prop := ∀ v ∈ hs, ∃ (p l : Addr) (ys : List V) (ds : List PyData), v = .ref p ∧ l ≠ h ∧ H p = some (.tup [.ref l, .str (PyData.list ds).shown]) ∧ H l = some (.lst ys) ∧ DtAll K H ys ds ∧ Fine (.list ds)
theorem keepT_l {K : PySem.W.Frag} {H H' : Hp} {b : Addr} {zs : List V} (B : H b = some (.lst zs)) (s : SameX b H H') : KeepT K H H' := fun a xs h => by
  rcases h with (h | ⟨o, h⟩) | h
  · exact .inl (.inl (s _ _ (ne_of h B (by intro z; cases z)) h))
  · exact .inl (.inr ⟨o, s _ _ (ne_of h B (by intro z; cases z)) h⟩)
  · exact .inr h
theorem Held.same {K : PySem.W.Frag} {h : Addr} {H H' : Hp} {hs : List V} (q : Held K h H hs) (s : Same H H') : Held K h H' hs := fun v hv => by
  obtain ⟨p, l, ys, ds, e, n, h1, h2, h3, h4⟩ := q v hv
  exact ⟨p, l, ys, ds, e, n, s _ _ h1, s _ _ h2, h3.keep (keepT_same s), h4⟩
theorem Held.put {K : PySem.W.Frag} {h : Addr} {H : Hp} {hs xs zs : List V} (q : Held K h H hs) (e : H h = some (.lst xs)) : Held K h (upd H h (.lst zs)) hs := fun v hv => by
  obtain ⟨p, l, ys, ds, ev, n, h1, h2, h3, h4⟩ := q v hv
  have np : p ≠ h := ne_of h1 e (by intro z; cases z)
  exact ⟨p, l, ys, ds, ev, n, by rw [upd_ne np]; exact h1, by rw [upd_ne n]; exact h2, h3.keep (keepT_put e), h4⟩
theorem DtAll.rev {K : PySem.W.Frag} {H : Hp} : ∀ {vs : List V} {ds : List PyData}, DtAll K H vs ds → DtAll K H vs.reverse ds.reverse
  | _, _, .nil => .nil
  | _, _, .cons h q => by
    rw [List.reverse_cons, List.reverse_cons]
    exact (DtAll.rev q).snoc h
/-- a new thing b, then what keeps all but b -/
theorem Same.then {b : Addr} {H H1 H2 : Hp} (n : H b = none) (s : Same H H1) (x : SameX b H1 H2) : Same H H2 := fun a o e => x a o (ne_of_none e n) (s a o e)
end Kx

namespace Kx
open PySem PySem.Spec PyProof.Rows L2
/-! short words, their reprs, and names made of letters -/
def sok (s : Str) : Prop := ∀ c ∈ s.cps.toList, c < 1000
def Nm (s : Str) : Prop := s.length ≤ 8 ∧ sok s
theorem sok_app {a b : Str} (ha : sok a) (hb : sok b) : sok (a ++ b) := by
  intro c hc
  have e : (a ++ b).cps.toList = a.cps.toList ++ b.cps.toList := Array.toList_append
  rw [e] at hc
  rcases List.mem_append.mp hc with z | z
  · exact ha c z
  · exact hb c z
theorem join_ok : ∀ (ys : List Str), (∀ s ∈ ys, s.length = 1 ∧ sok s) → (Str.join "" ys).length = ys.length ∧ sok (Str.join "" ys)
  | [], _ => ⟨rfl, fun c hc => by cases hc⟩
  | [x], h => ⟨(h x (List.mem_cons_self ..)).1, (h x (List.mem_cons_self ..)).2⟩
  | x :: y :: r, h => by
    have ih := join_ok (y :: r) fun s hs => h s (List.mem_cons_of_mem _ hs)
    have hx := h x (List.mem_cons_self ..)
    have e : Str.join "" (x :: y :: r) = x ++ ("" : Str) ++ Str.join "" (y :: r) := rfl
    have e0 : (Str.ofString "").length = 0 := by decide
    constructor
    · rw [e, strLen_append, strLen_append, ih.1, hx.1, e0]
      simp only [List.length_cons]
      omega
    · rw [e]
      exact sok_app (sok_app hx.2 (fun c hc => by cases hc)) ih.2
def abc : Str := "abcdefghijklmnopqrstuvwxyz"
theorem abc_all : ∀ c ∈ abc.cps.toList, c < 1000 := by decide +kernel
theorem abc_len : abc.cps.toList.length = 26 := by decide +kernel
def Flat1 (d : PyData) : Prop := (∃ k : Int, d = .int k ∧ 0 ≤ k ∧ k < 100) ∨ ∃ s : Str, d = .str s ∧ s.length ≤ 8 ∧ sok s
theorem small_int : ∀ n : Nat, n < 100 → decide ((n : Int).natAbs.log2 < 1920) = true ∧ (PyData.int (n : Int)).shown.length ≤ 100 := by decide +kernel
theorem flat1_elt {d : PyData} (h : Flat1 d) : d.showable = true ∧ d.hasDict = false ∧ d.depth = 0 ∧ d.shown.length ≤ 100 ∧ d.canLay0 = true := by
  rcases h with ⟨k, rfl, h0, h1⟩ | ⟨s, rfl, hl, hs⟩
  · obtain ⟨n, rfl⟩ : ∃ n : Nat, k = n := ⟨k.toNat, by omega⟩
    have z := small_int n (by omega)
    exact ⟨z.1, rfl, rfl, z.2, rfl⟩
  · refine ⟨rfl, rfl, rfl, ?_, ?_⟩
    rotate_left
    · show PyData.strOk s = true
      unfold PyData.strOk
      rw [Array.all_eq_true']
      intro c hc
      exact decide_eq_true (Nat.lt_trans (hs c (Array.mem_toList_iff.mpr hc)) (by decide))
    have z := StrLaws.reprText_len s fun c hc => Nat.lt_trans (hs c hc) (by decide)
    have e : (PyData.str s).shown = reprText s := by simp only [PyData.shown]
    rw [e]
    omega
theorem nm_ok {s : Str} (h : Nm s) : PyData.strOk s = true := by
  unfold PyData.strOk
  rw [Array.all_eq_true']
  intro c hc
  exact decide_eq_true (Nat.lt_trans (h.2 c (Array.mem_toList_iff.mpr hc)) (by decide))
theorem fine_tuple {ds : List PyData} (h : ∀ d ∈ ds, Flat1 d) (n : ds.length ≤ 100) : Fine (.tuple ds) ∧ SeqAt.shaped (.tuple ds) = true := by
  have a : PyData.showableAll ds = true ∧ PyData.hasDictAll ds = false ∧ PyData.depthAll ds = 0 ∧ piled (PyData.shownAll ds) ≤ 102 * ds.length ∧ PyData.canLayAll0 ds = true := by
    clear n
    induction ds with
    | nil => exact ⟨rfl, rfl, rfl, Nat.le_refl _, rfl⟩
    | cons d ds ih =>
      obtain ⟨a1, a2, a3, a4, a5⟩ := ih fun x hx => h x (List.mem_cons_of_mem _ hx)
      obtain ⟨b1, b2, b3, b4, b5⟩ := flat1_elt (h d (List.mem_cons_self ..))
      refine ⟨?_, ?_, ?_, ?_, ?_⟩
      · simp only [PyData.showableAll, a1, b1, Bool.and_self]
      · simp only [PyData.hasDictAll, a2, b2, Bool.or_self]
      · simp only [PyData.depthAll, a3, b3, Nat.max_self]
      · simp only [PyData.shownAll, piled_cons, List.length_cons]
        omega
      · simp only [PyData.canLayAll0, a5, b5, Bool.and_self]
  obtain ⟨a1, a2, a3, a4, a5⟩ := a
  have dep : (PyData.tuple ds).depth = 1 := by simp only [PyData.depth, a3]
  refine ⟨⟨?_, ?_, by omega, ?_⟩, ?_⟩
  · simp only [PyData.showable]
    exact a1
  · simp only [PyData.hasDict]
    exact a2
  · simp only [PyData.shown]
    have : (tupleText (PyData.shownAll ds)).length ≤ piled (PyData.shownAll ds) + 10 := by
      unfold tupleText
      rw [strLen_append, strLen_append]
      have e1 : (Str.ofString "(").length = 1 := by decide
      have e2 : (Str.ofString (if (PyData.shownAll ds).length == 1 then ",)" else ")")).length ≤ 2 := by split <;> decide
      rw [e1]
      by_cases z : PyData.shownAll ds = []
      · rw [z] at e2 ⊢
        have e3 : (Str.join (Str.ofString ", ") []).length = 0 := rfl
        rw [e3]
        omega
      · have := join_length_add _ z
        omega
    exact Nat.le_trans this (Nat.le_trans (show piled (PyData.shownAll ds) + 10 ≤ 11000 by omega) (by decide))
  · unfold SeqAt.shaped
    rw [dep]
    have : (PyData.tuple ds).canLay0 = true := by simp only [PyData.canLay0]; exact a5
    rw [this]
    rfl
def Word (w : Str) : Prop := w = "say" ∨ w = "ask" ∨ w = "read" ∨ w = "write" ∨ w = "call" ∨ w = "end" ∨ w = "mute"
theorem wflat (s : Str) (h : s.length ≤ 8 ∧ sok s) : Flat1 (.str s) := .inr ⟨s, rfl, h⟩
theorem iflat {k : Int} (h0 : 0 ≤ k) (h1 : k < 100) : Flat1 (.int k) := .inl ⟨k, rfl, h0, h1⟩
theorem sok_of {s : Str} (h : s.cps.toList.all (fun c => decide (c < 1000)) = true) : sok s := fun c hc => of_decide_eq_true (List.all_eq_true.mp h c hc)
theorem wordflat {w : Str} (h : Word w) : Flat1 (.str w) := by
  rcases h with rfl | rfl | rfl | rfl | rfl | rfl | rfl <;> exact wflat _ ⟨by decide, sok_of (by decide +kernel)⟩
end Kx

set_option autoImplicit false
namespace J
open PySem L2
open Kx (Op Ex Rw vok silentAt P3 Ind it stp stepR res Nm sok)
/-! names -/
theorem set_left {S : Sto} {k : Nat} (h : k < S.length) (o x : O) : (S ++ [o]).set k x = S.set k x ++ [o] := by
  rw [List.set_append_left _ _ h]
theorem app_obj {S : Sto} {n : Nat} {l : List D} (h : S[n]? = some (.lst l)) (hl : l.length < 100000) (d : D) : gApp (.obj n) [d] S = some (.non, S.set n (.lst (l ++ [d]))) := by
  simp only [gApp, h]
  rw [if_pos hl]
theorem get_app {S : Sto} {j : Nat} {o : O} (h : S[j]? = some o) (T : Sto) : (S ++ T)[j]? = some o := by
  rw [List.getElem?_append_left (List.getElem?_eq_some_iff.mp h).1]; exact h
theorem at_0 (S : Sto) (a : O) (T : List O) : (S ++ a :: T)[S.length]? = some a := by simp
theorem st_0 (S : Sto) (a x : O) (T : List O) : (S ++ a :: T).set S.length x = S ++ x :: T := by simp [List.set_append_right]
theorem gc_frzN {S : Sto} {k : Nat} {o : O} {l : List D} (ho : o.und 0 = true) (h : D.undAll 0 l = true) : gc .frz S (.obj S.length) (S.set k o ++ [.lst l]) = some (.lst l, S.set k o) := by
  have hl : (S.set k o).length = S.length := List.length_set
  have kp : Keeps S (S.set k o ++ [.lst l]) := by
    have k1 := Keeps.set (S := S) (k := k) ho
    refine ⟨by rw [List.length_append, hl]; omega, fun i hi => ?_⟩
    rw [List.getElem?_append_left (by rw [hl]; exact hi)]
    exact k1.2 i hi
  have a : (S.set k o ++ [O.lst l])[S.length]? = some (.lst l) := by
    rw [← hl]; simp
  simp only [gc]
  rw [if_pos kp]
  simp only [a]
  rw [if_pos ⟨Nat.le_refl _, h⟩, List.take_left' hl]
theorem letter {r : Int} (h0 : 0 ≤ r) (h1 : r < 26) (S : Sto) : ∃ c : Str, c.length = 1 ∧ sok c ∧ gIdx (.str Kx.abc) (.int r) S = some (.str c, S) := by
  obtain ⟨m, rfl⟩ : ∃ m : Nat, r = (m : Int) := ⟨r.toNat, by omega⟩
  have hl : m < Kx.abc.cps.toList.length := by rw [Kx.abc_len]; omega
  have at1 : atI Kx.abc.cps.toList (m : Int) = some (Kx.abc.cps.toList[m]) := atI_nat (by rw [List.getElem?_eq_getElem hl])
  refine ⟨⟨#[Kx.abc.cps.toList[m]]⟩, rfl, fun c hc => ?_, ?_⟩
  · have : c = Kx.abc.cps.toList[m] := by simpa using hc
    rw [this]
    exact Kx.abc_all _ (List.getElem_mem hl)
  · have hs : Kx.abc.length ≤ sizeLine := by decide
    unfold gIdx gIxD gIx
    simp only [hs, if_true, at1, Option.orElse_none]
theorem strs_map : ∀ ys : List Str, D.strs (ys.map .str) = some ys
  | [] => rfl
  | y :: ys => by rw [List.map_cons, D.strs, strs_map ys]; rfl
theorem sum_one : ∀ ys : List Str, (∀ s ∈ ys, s.length = 1 ∧ sok s) → (ys.map (·.length)).sum = ys.length
  | [], _ => rfl
  | y :: ys, h => by
    rw [List.map_cons, List.sum_cons, sum_one ys fun s hs => h s (List.mem_cons_of_mem _ hs), (h y (List.mem_cons_self ..)).1, List.length_cons]
    omega
theorem join_eq {ys : List Str} (h : ∀ s ∈ ys, s.length = 1 ∧ sok s) (hl : ys.length ≤ 8) (S : Sto) : ∃ x : Str, Nm x ∧ gJoin (.str "") [.lst (ys.map .str)] S = some (.str x, S) := by
  refine ⟨Txt.join "" ys, ?_, ?_⟩
  · have jo := Kx.join_ok ys h
    rw [← TL.join_eq] at jo
    exact ⟨by rw [jo.1]; exact hl, jo.2⟩
  · have e0 : (Str.ofString "").length = 0 := by decide
    have hs := sum_one ys h
    have sq : (D.lst (ys.map .str)).seqS S = some (ys.map .str) := rfl
    simp only [gJoin, sq, strs_map]
    rw [if_pos (by rw [hs, e0]; omega)]
section
variable {k : Nat}
theorem name_lc {e2 e3 e4 e5 : Option D} : ∀ (ds : List D) (S : Sto) (o : O) (n : Nat), S[k]? = some o → BagO n o → n + ds.length ≤ 300000 → ∃ (ys : List Str) (o' : O), ys.length = ds.length ∧ (∀ s ∈ ys, s.length = 1 ∧ sok s) ∧ BagO (n + ds.length) o' ∧
    fLcL (gNm 6) fYes L__law_names_1 [some (.obj k), some (.str Kx.abc), e2, e3, e4, e5, none] ds S = some (ys.map .str, S.set k o')
  | [], S, o, n, hk, B, hn => ⟨[], o, rfl, fun s h => (by cases h), B, by rw [set_self hk]; rfl⟩
  | d :: ds, S, o, n, hk, B, hn => by
    rw [List.length_cons] at hn
    obtain ⟨r, o1, r0, r1, B1, e1⟩ := take_eq hk B (by omega) (m := 26) (by decide) (by decide)
    obtain ⟨c, c1, c2, ec⟩ := letter r0 r1 (S.set k o1)
    obtain ⟨ys, o2, l2, h2, B2, lc⟩ := name_lc (e2 := e2) (e3 := e3) (e4 := e4) (e5 := e5) ds (S.set k o1) o1 (n + 1) (get_set hk o1) B1 (by omega)
    rw [List.set_set] at lc
    have el : L__law_names_1 [some (.obj k), some (.str Kx.abc), e2, e3, e4, e5, some d] S = some (.str c, S.set k o1) := by
      have z : ∀ F : Fn, F [.obj k, .int 26] S = some (.int r, S.set k o1) → (fOp gIdx (fVar 1) (fCall 2 F (faCons (fVar 0) (faCons (fC (.int 26)) faNil)) [])) [some (.obj k), some (.str Kx.abc), e2, e3, e4, e5, some d] S = some (.str c, S.set k o1) := fun F h => by simp only [fOp_eq, fVar_eq, List.getElem?_cons_zero, List.getElem?_cons_succ, fCall_eq, faCons_eq, fC_eq, faNil_eq, List.append_nil, List.length_cons, List.length_nil, Nat.reduceAdd, if_true, h, ec]
      exact z _ e1
    refine ⟨c :: ys, o2, by rw [List.length_cons, List.length_cons, l2], fun s hs => ?_, by rw [List.length_cons]; exact B2.mono (by omega), ?_⟩
    · rcases List.mem_cons.mp hs with rfl | z
      · exact ⟨c1, c2⟩
      · exact h2 s z
    · rw [fLcL]
      simp only [gNm_eq, List.set_cons_succ, List.set_cons_zero, fYes_eq]
      rw [el]
      simp only
      rw [lc]
      rfl
theorem flats_map : ∀ ys : List Str, D.flats (ys.map .str) = some (ys.map .str)
  | [] => rfl
  | y :: ys => by rw [List.map_cons, D.flats, flats_map ys]; rfl
theorem notin_names {S : Sto} {n : Nat} {N : List Str} (h : S[n]? = some (.lst (N.map .str))) (x : Str) : gIn true (.str x) (.obj n) S = some (.bl (!inV (.str x) (N.map .str)), S) := by
  have f := flats_map N
  unfold gIn gInD gInS
  simp only [h, Option.orElse_none, D.flat, D.seqS, f, Bool.true_xor]
theorem names_step {L : FS} (hL : L__law_names_2 = L) {S : Sto} {n1 n : Nat} {o : O} {N : List Str} (hk : S[k]? = some o) (B : BagO n o) (hn : n ≤ 100000) (h1 : S[n1]? = some (.lst (N.map .str))) (ne : k ≠ n1) (hN : ∀ s ∈ N, Nm s) (lN : N.length ≤ 10) {E : En} {e3 e4 e5 : Option D}
    (kk : ∀ (S' : Sto) (f4 f5 : Option D) (o' : O) (N' : List Str), S'[k]? = some o' → BagO (n + 9) o' → S'[n1]? = some (.lst (N'.map .str)) → (∀ s ∈ N', Nm s) → N'.length ≤ N.length + 1 → (0 < N'.length) → (∃ o2 o3, S' = (S.set k o2).set n1 o3) → E.nx [some (.obj k), some (.str Kx.abc), some (.obj n1), e3, f4, f5, none] S') :
    WpS (L [some (.obj k), some (.str Kx.abc), some (.obj n1), e3, e4, e5, none] S) E := by
  obtain ⟨r, o1, r0, r1, B1, e1⟩ := take_eq hk B (by omega) (m := 5) (by decide) (by decide)
  obtain ⟨q, q8, qx⟩ : ∃ q : Nat, q ≤ 8 ∧ ∀ S : Sto, gIdx (.lst [.int 1, .int 1, .int 2, .int 4, .int 8]) (.int r) S = some (.int (q : Int), S) := by
    rcases (show r = 0 ∨ r = 1 ∨ r = 2 ∨ r = 3 ∨ r = 4 by omega) with rfl | rfl | rfl | rfl | rfl
    · exact ⟨1, by decide, fun S => by rw [gIdx_lst]; rfl⟩
    · exact ⟨1, by decide, fun S => by rw [gIdx_lst]; rfl⟩
    · exact ⟨2, by decide, fun S => by rw [gIdx_lst]; rfl⟩
    · exact ⟨4, by decide, fun S => by rw [gIdx_lst]; rfl⟩
    · exact ⟨8, by decide, fun S => by rw [gIdx_lst]; rfl⟩
  obtain ⟨ys, o2, ly, hy, B2, lc⟩ := name_lc (k := k) (e2 := some (.obj n1)) (e3 := e3) (e4 := some (.int (q : Int))) (e5 := e5) (rngD 0 q) (S.set k o1) o1 (n + 1) (get_set hk o1) B1 (by rw [rngD_len]; omega)
  rw [rngD_len] at ly B2
  rw [List.set_set] at lc
  obtain ⟨x, nx, jx⟩ := join_eq hy (by omega) (S.set k o2)
  have h1' : (S.set k o2)[n1]? = some (.lst (N.map .str)) := by rw [List.getElem?_set_ne ne]; exact h1
  have ni := notin_names h1' x
  have k2 : (S.set k o2)[k]? = some o2 := get_set hk o2
  have ty := ty_obj h1'
  have ap := app_obj h1' (by rw [List.length_map]; omega) (.str x)
  have tyS : ∀ (s : Str) (S : Sto), tyD "str" S (.str s) = true := fun _ _ => rfl
  subst hL
  unfold L__law_names_2
  simp only [w_tp2, w_tp3, w_enumZ, w_disp1, w_par2, w_var, w_C, w_op, w_un, w_test, w_truth, w_andT, w_orT, w_notT, w_andV, w_orV, w_notV, w_if, w_anil, w_acons, w_tup, w_lst, w_lstN, w_call, w_callN, w_B, w_M, w_M0, w_rng1, w_lc, w_yes, w_dnew, w_next, w_no, w_brk, w_cnt, w_retN, w_seq, w_drop, w_ret, w_ifS, w_nm, w_sub, w_asg, w_for, w_aug, w_slice, w_oNone, w_oSome, wp_some, List.getElem?_cons_zero, List.getElem?_cons_succ, List.set_cons_zero, List.set_cons_succ, Option.some.injEq, exists_eq_left', D.obj.injEq, D.bl.injEq, D.int.injEq, D.str.injEq, D.tup.injEq, D.lst.injEq, List.cons.injEq, List.append_nil, List.nil_append, List.cons_append, List.length_cons, List.length_nil, Nat.reduceAdd, Nat.reduceLeDiff, Nat.zero_le, true_and, and_true, and_self, if_true, Bool.false_eq_true, if_false, Bool.xor_self, Bool.xor_false, Bool.xor_true, Bool.false_xor, Bool.true_xor, Bool.not_true, Bool.not_false]
  rw [e1]
  simp only [w_tp2, w_tp3, w_enumZ, w_disp1, w_par2, w_var, w_C, w_op, w_un, w_test, w_truth, w_andT, w_orT, w_notT, w_andV, w_orV, w_notV, w_if, w_anil, w_acons, w_tup, w_lst, w_lstN, w_call, w_callN, w_B, w_M, w_M0, w_rng1, w_lc, w_yes, w_dnew, w_next, w_no, w_brk, w_cnt, w_retN, w_seq, w_drop, w_ret, w_ifS, w_nm, w_sub, w_asg, w_for, w_aug, w_slice, w_oNone, w_oSome, wp_some, List.getElem?_cons_zero, List.getElem?_cons_succ, List.set_cons_zero, List.set_cons_succ, Option.some.injEq, exists_eq_left', D.obj.injEq, D.bl.injEq, D.int.injEq, D.str.injEq, D.tup.injEq, D.lst.injEq, List.cons.injEq, List.append_nil, List.nil_append, List.cons_append, List.length_cons, List.length_nil, Nat.reduceAdd, Nat.reduceLeDiff, Nat.zero_le, true_and, and_true, and_self, if_true, Bool.false_eq_true, if_false, Bool.xor_self, Bool.xor_false, Bool.xor_true, Bool.false_xor, Bool.true_xor, Bool.not_true, Bool.not_false]
  rw [qx]
  simp only [w_tp2, w_tp3, w_enumZ, w_disp1, w_par2, w_var, w_C, w_op, w_un, w_test, w_truth, w_andT, w_orT, w_notT, w_andV, w_orV, w_notV, w_if, w_anil, w_acons, w_tup, w_lst, w_lstN, w_call, w_callN, w_B, w_M, w_M0, w_rng1, w_lc, w_yes, w_dnew, w_next, w_no, w_brk, w_cnt, w_retN, w_seq, w_drop, w_ret, w_ifS, w_nm, w_sub, w_asg, w_for, w_aug, w_slice, w_oNone, w_oSome, wp_some, List.getElem?_cons_zero, List.getElem?_cons_succ, List.set_cons_zero, List.set_cons_succ, Option.some.injEq, exists_eq_left', D.obj.injEq, D.bl.injEq, D.int.injEq, D.str.injEq, D.tup.injEq, D.lst.injEq, List.cons.injEq, List.append_nil, List.nil_append, List.cons_append, List.length_cons, List.length_nil, Nat.reduceAdd, Nat.reduceLeDiff, Nat.zero_le, true_and, and_true, and_self, if_true, Bool.false_eq_true, if_false, Bool.xor_self, Bool.xor_false, Bool.xor_true, Bool.false_xor, Bool.true_xor, Bool.not_true, Bool.not_false]
  rw [tyS]
  simp only [w_tp2, w_tp3, w_enumZ, w_disp1, w_par2, w_var, w_C, w_op, w_un, w_test, w_truth, w_andT, w_orT, w_notT, w_andV, w_orV, w_notV, w_if, w_anil, w_acons, w_tup, w_lst, w_lstN, w_call, w_callN, w_B, w_M, w_M0, w_rng1, w_lc, w_yes, w_dnew, w_next, w_no, w_brk, w_cnt, w_retN, w_seq, w_drop, w_ret, w_ifS, w_nm, w_sub, w_asg, w_for, w_aug, w_slice, w_oNone, w_oSome, wp_some, List.getElem?_cons_zero, List.getElem?_cons_succ, List.set_cons_zero, List.set_cons_succ, Option.some.injEq, exists_eq_left', D.obj.injEq, D.bl.injEq, D.int.injEq, D.str.injEq, D.tup.injEq, D.lst.injEq, List.cons.injEq, List.append_nil, List.nil_append, List.cons_append, List.length_cons, List.length_nil, Nat.reduceAdd, Nat.reduceLeDiff, Nat.zero_le, true_and, and_true, and_self, if_true, Bool.false_eq_true, if_false, Bool.xor_self, Bool.xor_false, Bool.xor_true, Bool.false_xor, Bool.true_xor, Bool.not_true, Bool.not_false]
  refine ⟨by omega, ?_⟩
  rw [Int.toNat_natCast]
  refine ⟨by rw [rngD_len]; omega, ?_⟩
  simp only [wipeD_cons, wipeD_nil, List.set_cons_zero, List.set_cons_succ]
  rw [lc]
  simp only [w_tp2, w_tp3, w_enumZ, w_disp1, w_par2, w_var, w_C, w_op, w_un, w_test, w_truth, w_andT, w_orT, w_notT, w_andV, w_orV, w_notV, w_if, w_anil, w_acons, w_tup, w_lst, w_lstN, w_call, w_callN, w_B, w_M, w_M0, w_rng1, w_lc, w_yes, w_dnew, w_next, w_no, w_brk, w_cnt, w_retN, w_seq, w_drop, w_ret, w_ifS, w_nm, w_sub, w_asg, w_for, w_aug, w_slice, w_oNone, w_oSome, wp_some, List.getElem?_cons_zero, List.getElem?_cons_succ, List.set_cons_zero, List.set_cons_succ, Option.some.injEq, exists_eq_left', D.obj.injEq, D.bl.injEq, D.int.injEq, D.str.injEq, D.tup.injEq, D.lst.injEq, List.cons.injEq, List.append_nil, List.nil_append, List.cons_append, List.length_cons, List.length_nil, Nat.reduceAdd, Nat.reduceLeDiff, Nat.zero_le, true_and, and_true, and_self, if_true, Bool.false_eq_true, if_false, Bool.xor_self, Bool.xor_false, Bool.xor_true, Bool.false_xor, Bool.true_xor, Bool.not_true, Bool.not_false]
  rw [jx]
  simp only [w_tp2, w_tp3, w_enumZ, w_disp1, w_par2, w_var, w_C, w_op, w_un, w_test, w_truth, w_andT, w_orT, w_notT, w_andV, w_orV, w_notV, w_if, w_anil, w_acons, w_tup, w_lst, w_lstN, w_call, w_callN, w_B, w_M, w_M0, w_rng1, w_lc, w_yes, w_dnew, w_next, w_no, w_brk, w_cnt, w_retN, w_seq, w_drop, w_ret, w_ifS, w_nm, w_sub, w_asg, w_for, w_aug, w_slice, w_oNone, w_oSome, wp_some, List.getElem?_cons_zero, List.getElem?_cons_succ, List.set_cons_zero, List.set_cons_succ, Option.some.injEq, exists_eq_left', D.obj.injEq, D.bl.injEq, D.int.injEq, D.str.injEq, D.tup.injEq, D.lst.injEq, List.cons.injEq, List.append_nil, List.nil_append, List.cons_append, List.length_cons, List.length_nil, Nat.reduceAdd, Nat.reduceLeDiff, Nat.zero_le, true_and, and_true, and_self, if_true, Bool.false_eq_true, if_false, Bool.xor_self, Bool.xor_false, Bool.xor_true, Bool.false_xor, Bool.true_xor, Bool.not_true, Bool.not_false]
  rw [ni]
  cases hc : inV (.str x) (N.map .str) with
  | true =>
    simp only [Bool.not_true]
    simp only [w_tp2, w_tp3, w_enumZ, w_disp1, w_par2, w_var, w_C, w_op, w_un, w_test, w_truth, w_andT, w_orT, w_notT, w_andV, w_orV, w_notV, w_if, w_anil, w_acons, w_tup, w_lst, w_lstN, w_call, w_callN, w_B, w_M, w_M0, w_rng1, w_lc, w_yes, w_dnew, w_next, w_no, w_brk, w_cnt, w_retN, w_seq, w_drop, w_ret, w_ifS, w_nm, w_sub, w_asg, w_for, w_aug, w_slice, w_oNone, w_oSome, wp_some, List.getElem?_cons_zero, List.getElem?_cons_succ, List.set_cons_zero, List.set_cons_succ, Option.some.injEq, exists_eq_left', D.obj.injEq, D.bl.injEq, D.int.injEq, D.str.injEq, D.tup.injEq, D.lst.injEq, List.cons.injEq, List.append_nil, List.nil_append, List.cons_append, List.length_cons, List.length_nil, Nat.reduceAdd, Nat.reduceLeDiff, Nat.zero_le, true_and, and_true, and_self, if_true, Bool.false_eq_true, if_false, Bool.xor_self, Bool.xor_false, Bool.xor_true, Bool.false_xor, Bool.true_xor, Bool.not_true, Bool.not_false]
    refine kk _ _ _ o2 N k2 (B2.mono (by omega)) h1' hN (Nat.le_succ _) ?_ ⟨o2, _, by rw [set_self h1']⟩
    cases N with
    | nil => cases hc
    | cons _ _ => simp
  | false =>
    simp only [Bool.not_false]
    simp only [w_tp2, w_tp3, w_enumZ, w_disp1, w_par2, w_var, w_C, w_op, w_un, w_test, w_truth, w_andT, w_orT, w_notT, w_andV, w_orV, w_notV, w_if, w_anil, w_acons, w_tup, w_lst, w_lstN, w_call, w_callN, w_B, w_M, w_M0, w_rng1, w_lc, w_yes, w_dnew, w_next, w_no, w_brk, w_cnt, w_retN, w_seq, w_drop, w_ret, w_ifS, w_nm, w_sub, w_asg, w_for, w_aug, w_slice, w_oNone, w_oSome, wp_some, List.getElem?_cons_zero, List.getElem?_cons_succ, List.set_cons_zero, List.set_cons_succ, Option.some.injEq, exists_eq_left', D.obj.injEq, D.bl.injEq, D.int.injEq, D.str.injEq, D.tup.injEq, D.lst.injEq, List.cons.injEq, List.append_nil, List.nil_append, List.cons_append, List.length_cons, List.length_nil, Nat.reduceAdd, Nat.reduceLeDiff, Nat.zero_le, true_and, and_true, and_self, if_true, Bool.false_eq_true, if_false, Bool.xor_self, Bool.xor_false, Bool.xor_true, Bool.false_xor, Bool.true_xor, Bool.not_true, Bool.not_false]
    refine ⟨ty, ?_⟩
    rw [ap]
    simp only [w_tp2, w_tp3, w_enumZ, w_disp1, w_par2, w_var, w_C, w_op, w_un, w_test, w_truth, w_andT, w_orT, w_notT, w_andV, w_orV, w_notV, w_if, w_anil, w_acons, w_tup, w_lst, w_lstN, w_call, w_callN, w_B, w_M, w_M0, w_rng1, w_lc, w_yes, w_dnew, w_next, w_no, w_brk, w_cnt, w_retN, w_seq, w_drop, w_ret, w_ifS, w_nm, w_sub, w_asg, w_for, w_aug, w_slice, w_oNone, w_oSome, wp_some, List.getElem?_cons_zero, List.getElem?_cons_succ, List.set_cons_zero, List.set_cons_succ, Option.some.injEq, exists_eq_left', D.obj.injEq, D.bl.injEq, D.int.injEq, D.str.injEq, D.tup.injEq, D.lst.injEq, List.cons.injEq, List.append_nil, List.nil_append, List.cons_append, List.length_cons, List.length_nil, Nat.reduceAdd, Nat.reduceLeDiff, Nat.zero_le, true_and, and_true, and_self, if_true, Bool.false_eq_true, if_false, Bool.xor_self, Bool.xor_false, Bool.xor_true, Bool.false_xor, Bool.true_xor, Bool.not_true, Bool.not_false]
    refine kk _ _ _ o2 (N ++ [x]) ?_ (B2.mono (by omega)) ?_ (fun s hs => ?_) (by simp) (by simp) ⟨o2, _, rfl⟩
    · rw [List.getElem?_set_ne ne.symm]; exact k2
    · rw [get_set h1']
      simp
    · rcases List.mem_append.mp hs with z | z
      · exact hN s z
      · rw [List.mem_singleton.mp z]; exact nx
theorem names_eq {S : Sto} {o : O} {n : Nat} (hk : S[k]? = some o) (B : BagO n o) (hn : n ≤ 10000) : ∃ (N : List Str) (o' : O), 0 < N.length ∧ N.length ≤ 3 ∧ (∀ s ∈ N, Nm s) ∧ BagO (n + 40) o' ∧ F__law_names [.obj k] S = some (.lst (N.map .str), S.set k o') := by
  have kl := (List.getElem?_eq_some_iff.mp hk).1
  have ne : k ≠ S.length := by omega
  have key : Wp (F__law_names [.obj k] S) fun d S' => ∃ (N : List Str) (o' : O), 0 < N.length ∧ N.length ≤ 3 ∧ (∀ s ∈ N, Nm s) ∧ BagO (n + 40) o' ∧ d = .lst (N.map .str) ∧ S' = S.set k o' := by
    have hk' := get_app hk [O.lst []]
    obtain ⟨r, o1, r0, r1, B1, e1⟩ := take_eq hk' B (by omega) (m := 3) (by decide) (by decide)
    have a1 : ∀ S : Sto, gAdd (.int 1) (.int r) S = some (.int (1 + r), S) := fun S => rfl
    have abc_ : (D.str "abcdefghijklmnopqrstuvwxyz") = .str Kx.abc := rfl
    unfold F__law_names
    rw [w_run]
    unfold B__law_names
    generalize hL2 : L__law_names_2 = L2
    have s7 : startD 7 [.obj k] = [some (.obj k), none, none, none, none, none, none] := by simp
    rw [s7, abc_]
    simp only [w_tp2, w_tp3, w_enumZ, w_disp1, w_par2, w_var, w_C, w_op, w_un, w_test, w_truth, w_andT, w_orT, w_notT, w_andV, w_orV, w_notV, w_if, w_anil, w_acons, w_tup, w_lst, w_lstN, w_call, w_callN, w_B, w_M, w_M0, w_rng1, w_lc, w_yes, w_dnew, w_next, w_no, w_brk, w_cnt, w_retN, w_seq, w_drop, w_ret, w_ifS, w_nm, w_sub, w_asg, w_for, w_aug, w_slice, w_oNone, w_oSome, wp_some, List.getElem?_cons_zero, List.getElem?_cons_succ, List.set_cons_zero, List.set_cons_succ, Option.some.injEq, exists_eq_left', D.obj.injEq, D.bl.injEq, D.int.injEq, D.str.injEq, D.tup.injEq, D.lst.injEq, List.cons.injEq, List.append_nil, List.nil_append, List.cons_append, List.length_cons, List.length_nil, Nat.reduceAdd, Nat.reduceLeDiff, Nat.zero_le, true_and, and_true, and_self, if_true, Bool.false_eq_true, if_false, Bool.xor_self, Bool.xor_false, Bool.xor_true, Bool.false_xor, Bool.true_xor, Bool.not_true, Bool.not_false]
    rw [e1]
    simp only [w_tp2, w_tp3, w_enumZ, w_disp1, w_par2, w_var, w_C, w_op, w_un, w_test, w_truth, w_andT, w_orT, w_notT, w_andV, w_orV, w_notV, w_if, w_anil, w_acons, w_tup, w_lst, w_lstN, w_call, w_callN, w_B, w_M, w_M0, w_rng1, w_lc, w_yes, w_dnew, w_next, w_no, w_brk, w_cnt, w_retN, w_seq, w_drop, w_ret, w_ifS, w_nm, w_sub, w_asg, w_for, w_aug, w_slice, w_oNone, w_oSome, wp_some, List.getElem?_cons_zero, List.getElem?_cons_succ, List.set_cons_zero, List.set_cons_succ, Option.some.injEq, exists_eq_left', D.obj.injEq, D.bl.injEq, D.int.injEq, D.str.injEq, D.tup.injEq, D.lst.injEq, List.cons.injEq, List.append_nil, List.nil_append, List.cons_append, List.length_cons, List.length_nil, Nat.reduceAdd, Nat.reduceLeDiff, Nat.zero_le, true_and, and_true, and_self, if_true, Bool.false_eq_true, if_false, Bool.xor_self, Bool.xor_false, Bool.xor_true, Bool.false_xor, Bool.true_xor, Bool.not_true, Bool.not_false]
    rw [a1]
    simp only [w_tp2, w_tp3, w_enumZ, w_disp1, w_par2, w_var, w_C, w_op, w_un, w_test, w_truth, w_andT, w_orT, w_notT, w_andV, w_orV, w_notV, w_if, w_anil, w_acons, w_tup, w_lst, w_lstN, w_call, w_callN, w_B, w_M, w_M0, w_rng1, w_lc, w_yes, w_dnew, w_next, w_no, w_brk, w_cnt, w_retN, w_seq, w_drop, w_ret, w_ifS, w_nm, w_sub, w_asg, w_for, w_aug, w_slice, w_oNone, w_oSome, wp_some, List.getElem?_cons_zero, List.getElem?_cons_succ, List.set_cons_zero, List.set_cons_succ, Option.some.injEq, exists_eq_left', D.obj.injEq, D.bl.injEq, D.int.injEq, D.str.injEq, D.tup.injEq, D.lst.injEq, List.cons.injEq, List.append_nil, List.nil_append, List.cons_append, List.length_cons, List.length_nil, Nat.reduceAdd, Nat.reduceLeDiff, Nat.zero_le, true_and, and_true, and_self, if_true, Bool.false_eq_true, if_false, Bool.xor_self, Bool.xor_false, Bool.xor_true, Bool.false_xor, Bool.true_xor, Bool.not_true, Bool.not_false]
    refine ⟨by omega, ?_⟩
    have set1 : (S ++ [O.lst []]).set k o1 = S.set k o1 ++ [.lst []] := set_left kl _ _
    rw [set1]
    refine w_for' (fun j env S' => ∃ (N : List Str) (o' : O) (f3 f4 f5 : Option D), j ≤ (1 + r).toNat ∧ S' = S.set k o' ++ [.lst (N.map .str)] ∧ BagO (n + 1 + 9 * j) o' ∧ (∀ s ∈ N, Nm s) ∧ N.length ≤ j ∧ (0 < j → 0 < N.length) ∧ env = [some (.obj k), some (.str Kx.abc), some (.obj S.length), f3, f4, f5, none]) ⟨[], o1, none, none, none, Nat.zero_le _, rfl, B1, fun s h => (by cases h), Nat.le_refl _, fun h => absurd h (by omega), rfl⟩ ?_ ?_
    · rintro j d env S' hd ⟨N, o', f3, f4, f5, hj, rfl, B', hN, lN, pN, rfl⟩ E2 E2nx _ _ _
      obtain ⟨hj', rfl⟩ := rng_get hd
      simp only [w_tp2, w_tp3, w_enumZ, w_disp1, w_par2, w_var, w_C, w_op, w_un, w_test, w_truth, w_andT, w_orT, w_notT, w_andV, w_orV, w_notV, w_if, w_anil, w_acons, w_tup, w_lst, w_lstN, w_call, w_callN, w_B, w_M, w_M0, w_rng1, w_lc, w_yes, w_dnew, w_next, w_no, w_brk, w_cnt, w_retN, w_seq, w_drop, w_ret, w_ifS, w_nm, w_sub, w_asg, w_for, w_aug, w_slice, w_oNone, w_oSome, wp_some, List.getElem?_cons_zero, List.getElem?_cons_succ, List.set_cons_zero, List.set_cons_succ, Option.some.injEq, exists_eq_left', D.obj.injEq, D.bl.injEq, D.int.injEq, D.str.injEq, D.tup.injEq, D.lst.injEq, List.cons.injEq, List.append_nil, List.nil_append, List.cons_append, List.length_cons, List.length_nil, Nat.reduceAdd, Nat.reduceLeDiff, Nat.zero_le, true_and, and_true, and_self, if_true, Bool.false_eq_true, if_false, Bool.xor_self, Bool.xor_false, Bool.xor_true, Bool.false_xor, Bool.true_xor, Bool.not_true, Bool.not_false]
      have hkk : (S.set k o' ++ [O.lst (N.map .str)])[k]? = some o' := by
        rw [List.getElem?_append_left (by rw [List.length_set]; exact kl)]
        exact get_set hk o'
      have hn1 : (S.set k o' ++ [O.lst (N.map .str)])[S.length]? = some (.lst (N.map .str)) := by
        rw [List.getElem?_append_right (by rw [List.length_set]; exact Nat.le_refl _)]
        simp
      refine names_step hL2 hkk B' (by omega) hn1 ne hN (by omega) fun S2 f4 f5 o2 N' h2 B2 hn2 hN' lN' pN' eS => ?_
      obtain ⟨p2, p3, rfl⟩ := eS
      have es : ((S.set k o' ++ [O.lst (N.map .str)]).set k p2).set S.length p3 = S.set k p2 ++ [p3] := by
        rw [set_left (by rw [List.length_set]; exact kl), List.set_set]
        have := st_0 (S.set k p2) (.lst (N.map .str)) p3 []
        rwa [List.length_set] at this
      rw [es] at h2 hn2 ⊢
      have q2 : p2 = o2 := by
        rw [List.getElem?_append_left (by rw [List.length_set]; exact kl), get_set hk p2] at h2
        exact Option.some.inj h2
      have q3 : p3 = .lst (N'.map .str) := by
        rw [List.getElem?_append_right (by rw [List.length_set]; exact Nat.le_refl _)] at hn2
        simpa using hn2
      subst q2 q3
      exact E2nx _ _ ⟨N', p2, _, _, _, by omega, rfl, B2.mono (by omega), hN', by omega, fun _ => pN', rfl⟩
    · rintro env S' ⟨N, o', f3, f4, f5, hj, rfl, B', hN, lN, pN, rfl⟩
      rw [rngD_len] at lN pN B' hj
      simp only [w_tp2, w_tp3, w_enumZ, w_disp1, w_par2, w_var, w_C, w_op, w_un, w_test, w_truth, w_andT, w_orT, w_notT, w_andV, w_orV, w_notV, w_if, w_anil, w_acons, w_tup, w_lst, w_lstN, w_call, w_callN, w_B, w_M, w_M0, w_rng1, w_lc, w_yes, w_dnew, w_next, w_no, w_brk, w_cnt, w_retN, w_seq, w_drop, w_ret, w_ifS, w_nm, w_sub, w_asg, w_for, w_aug, w_slice, w_oNone, w_oSome, wp_some, List.getElem?_cons_zero, List.getElem?_cons_succ, List.set_cons_zero, List.set_cons_succ, Option.some.injEq, exists_eq_left', D.obj.injEq, D.bl.injEq, D.int.injEq, D.str.injEq, D.tup.injEq, D.lst.injEq, List.cons.injEq, List.append_nil, List.nil_append, List.cons_append, List.length_cons, List.length_nil, Nat.reduceAdd, Nat.reduceLeDiff, Nat.zero_le, true_and, and_true, and_self, if_true, Bool.false_eq_true, if_false, Bool.xor_self, Bool.xor_false, Bool.xor_true, Bool.false_xor, Bool.true_xor, Bool.not_true, Bool.not_false]
      have un : O.und 0 (.lst (N.map .str)) = true := by
        have : ∀ N : List Str, D.undAll 0 (N.map .str) = true := fun N => undAll_map _ _ (fun _ => by simp) N
        simpa [O.und] using this N
      have g : gc .frz S (.obj S.length) (S.set k o' ++ [.lst (N.map .str)]) = some (.lst (N.map .str), S.set k o') := by
        exact gc_frzN B'.und (undAll_map _ _ (fun _ => by simp) N)
      rw [g, wp_some]
      exact ⟨N, o', pN (by omega), by omega, hN, B'.mono (by omega), rfl, rfl⟩
  obtain ⟨d, S', e, N, o', h1, h2, h3, h4, rfl, rfl⟩ := key
  exact ⟨N, o', h1, h2, h3, h4, e⟩
end
end J

set_option autoImplicit false
namespace J
open PySem L2
open Kx (Op Ex Rw vok silentAt P3 Ind it stp stepR res Nm sok Fine Flat1 Word)
/-! deeds as data -/
def deedP (t : List Rw) (b : Int) : Option P3 → PyData
  | none => .tuple [.str "mute"]
  | some p => match t[p.1]? with
    | none => .tuple [.str "end", .int 0]
    | some (.say e) => .tuple [.str "say", .int (e.val b p.2.1 p.2.2)]
    | some (.ask _) => .tuple [.str "ask"]
    | some (.read c _) => .tuple [.str "read", .int c]
    | some (.write c e) => .tuple [.str "write", .int c, .int (e.val b p.2.1 p.2.2)]
    | some (.call n e _) => .tuple [.str "call", .str n, .int (e.val b p.2.1 p.2.2)]
    | some (.fin e) => .tuple [.str "end", .int (e.val b p.2.1 p.2.2)]
    | some _ => .none
section
variable {t : List Rw} {N : List Str} {b : Nat}
theorem deed_py {s : Option P3} (S : Sto) : (deedV t b s).pyS S = some (deedP t b s) := by
  cases s with
  | none => simp [deedV, deedP, D.pyS, D.py, D.pys]
  | some p =>
    cases h : t[p.1]? with
    | none => simp [deedV, deedP, h, D.pyS, D.py, D.pys]
    | some a => cases a <;> simp [deedV, deedP, h, D.pyS, D.py, D.pys]
theorem deed_fine (ok : Kx.Tx.ok b N t) (hN : ∀ s ∈ N, Nm s) (hb4 : b ≤ 4) {s : Option P3} (g : Good t b s) : Fine (deedP t b s) ∧ SeqAt.shaped (deedP t b s) = true := by
  have W : ∀ w, Word w → Flat1 (.str w) := fun w h => Kx.wordflat h
  have two : ∀ {c d : PyData}, Flat1 c → Flat1 d → Fine (.tuple [c, d]) ∧ SeqAt.shaped (.tuple [c, d]) = true := fun hc hd => Kx.fine_tuple (fun e he => by
    rcases List.mem_cons.mp he with rfl | he
    · exact hc
    · rw [List.mem_singleton.mp he]; exact hd) (by show 2 ≤ 100; decide)
  have one : ∀ {c : PyData}, Flat1 c → Fine (.tuple [c]) ∧ SeqAt.shaped (.tuple [c]) = true := fun hc => Kx.fine_tuple (fun e he => by
    rw [List.mem_singleton.mp he]; exact hc) (by show 1 ≤ 100; decide)
  have three : ∀ {c d e : PyData}, Flat1 c → Flat1 d → Flat1 e → Fine (.tuple [c, d, e]) ∧ SeqAt.shaped (.tuple [c, d, e]) = true := fun hc hd he => Kx.fine_tuple (fun f hf => by
    rcases List.mem_cons.mp hf with rfl | hf
    · exact hc
    · rcases List.mem_cons.mp hf with rfl | hf
      · exact hd
      · rw [List.mem_singleton.mp hf]; exact he) (by show 3 ≤ 100; decide)
  cases s with
  | none => exact one (W "mute" (by unfold Word; simp))
  | some p =>
    obtain ⟨hp, sl⟩ := g p rfl
    unfold silentAt at sl
    cases h : t[p.1]? with
    | none =>
      simp only [deedP, h]
      exact two (W "end" (by unfold Word; simp)) (Kx.iflat (k := 0) (by decide) (by decide))
    | some row =>
      rw [h] at sl
      have rok := ok row (List.mem_of_getElem? h)
      cases row with
      | set v e => cases sl
      | iff e f r => cases sl
      | go r => cases sl
      | say e =>
        simp only [deedP, h]
        have z := Ex.val_in (o := e) rok hp.2.1 hp.2.2
        exact two (W "say" (by unfold Word; simp)) (Kx.iflat z.1 (by omega))
      | ask v =>
        simp only [deedP, h]
        exact one (W "ask" (by unfold Word; simp))
      | read c v =>
        simp only [deedP, h]
        exact two (W "read" (by unfold Word; simp)) (Kx.iflat (by rcases rok.1 with rfl | rfl <;> decide) (by rcases rok.1 with rfl | rfl <;> decide))
      | write c e =>
        simp only [deedP, h]
        have z := Ex.val_in (o := e) rok.2 hp.2.1 hp.2.2
        exact three (W "write" (by unfold Word; simp)) (Kx.iflat (by rcases rok.1 with rfl | rfl <;> decide) (by rcases rok.1 with rfl | rfl <;> decide)) (Kx.iflat z.1 (by omega))
      | call n e v =>
        simp only [deedP, h]
        have z := Ex.val_in (o := e) rok.2.1 hp.2.1 hp.2.2
        exact three (W "call" (by unfold Word; simp)) (Kx.wflat n (hN n rok.1)) (Kx.iflat z.1 (by omega))
      | fin e =>
        simp only [deedP, h]
        have z := Ex.val_in (o := e) rok hp.2.1 hp.2.2
        exact two (W "end" (by unfold Word; simp)) (Kx.iflat z.1 (by omega))
theorem deed_tup {s : Option P3} (g : Good t b s) : ∃ ds xs, deedV t b s = .tup ds ∧ deedP t b s = .tuple xs := by
  cases s with
  | none => exact ⟨_, _, rfl, rfl⟩
  | some p =>
    obtain ⟨hp, sl⟩ := g p rfl
    unfold silentAt at sl
    cases h : t[p.1]? with
    | none => exact ⟨[.str "end", .int 0], [.str "end", .int 0], by simp [deedV, h], by simp [deedP, h]⟩
    | some a =>
      rw [h] at sl
      cases a with
      | set v e => cases sl
      | iff e f r => cases sl
      | go r => cases sl
      | say e => exact ⟨[.str "say", .int (e.val b p.2.1 p.2.2)], [.str "say", .int (e.val b p.2.1 p.2.2)], by simp [deedV, h], by simp [deedP, h]⟩
      | ask v => exact ⟨[.str "ask"], [.str "ask"], by simp [deedV, h], by simp [deedP, h]⟩
      | read c v => exact ⟨[.str "read", .int c], [.str "read", .int c], by simp [deedV, h], by simp [deedP, h]⟩
      | write c e => exact ⟨[.str "write", .int c, .int (e.val b p.2.1 p.2.2)], [.str "write", .int c, .int (e.val b p.2.1 p.2.2)], by simp [deedV, h], by simp [deedP, h]⟩
      | call n e v => exact ⟨[.str "call", .str n, .int (e.val b p.2.1 p.2.2)], [.str "call", .str n, .int (e.val b p.2.1 p.2.2)], by simp [deedV, h], by simp [deedP, h]⟩
      | fin e => exact ⟨[.str "end", .int (e.val b p.2.1 p.2.2)], [.str "end", .int (e.val b p.2.1 p.2.2)], by simp [deedV, h], by simp [deedP, h]⟩
theorem rep_deed (ok : Kx.Tx.ok b N t) (hN : ∀ s ∈ N, Nm s) (hb4 : b ≤ 4) {s : Option P3} (g : Good t b s) (S : Sto) : ∃ z : Str, gReprA [deedV t b s] S = some (.str z, S) := by
  obtain ⟨⟨f1, f2, f3, f4⟩, _⟩ := deed_fine ok hN hb4 g
  have py := deed_py (t := t) (b := b) (s := s) S
  obtain ⟨ds, xs, h1, h2⟩ := deed_tup g
  rw [h2] at f1 f2 f3 f4 py
  rw [h1] at py ⊢
  have c : ((PyData.tuple xs).showable && !(PyData.tuple xs).hasDict && decide ((PyData.tuple xs).depth ≤ 60) && decide ((PyData.tuple xs).shown.length ≤ sizeLine)) = true := by
    rw [f1, f2, decide_eq_true f3, decide_eq_true f4]
    rfl
  refine ⟨(PyData.tuple xs).shown, ?_⟩
  show gRepr [.tup ds] S = _
  simp only [gRepr, py]
  rw [if_pos c]
theorem gEq_deed' (ok : Kx.Tx.ok b N t) (hN : ∀ s ∈ N, Nm s) (hb4 : b ≤ 4) {s : Option P3} (g : Good t b s) (S : Sto) : gEq true (deedV t b s) (deedV t b s) S = some (.bl false, S) := by
  obtain ⟨_, sh⟩ := deed_fine ok hN hb4 g
  have py := deed_py (t := t) (b := b) (s := s) S
  unfold gEq
  rw [py]
  simp only
  rw [if_pos (by rw [sh]; simp), SeqAt.eqv_refl _ (by unfold SeqAt.shaped at sh; exact (Bool.and_eq_true_iff.mp sh).1)]
  rfl
theorem eq_str (z : Str) (S : Sto) : gEq true (.str z) (.str z) S = some (.bl false, S) := by simp
theorem rep_int {n : Nat} (h : n ≤ 100) (S : Sto) : gReprA [.int (n : Int)] S = some (.str (toString (n : Int)), S) := by
  have : (n : Int).natAbs < 2 ^ 1000 := Nat.lt_of_le_of_lt (show (n : Int).natAbs ≤ 100 by omega) (by decide)
  simp only [gReprA]
  rw [if_pos this]
theorem eq_int (n : Nat) (S : Sto) : gEq true (.int (n : Int)) (.int (n : Int)) S = some (.bl false, S) := by simp
/-- a stand -/
theorem place_step {L : FS} (hL : L_law_1 = L) (ok : Kx.Tx.ok b N t) (hN : ∀ s ∈ N, Nm s) (hb : 0 < b) (hb4 : b ≤ 4) {s : Option P3} (g : Good t b s) {S : Sto} {E : En} {e0 e1 e2 e4 e7 e8 : Option D}
    (k : ∀ f7 f8, E.nx [e0, e1, e2, some (.int b), e4, some (txD t), some (stO s), f7, f8] S) :
    WpS (L [e0, e1, e2, some (.int b), e4, some (txD t), some (stO s), e7, e8] S) E := by
  obtain ⟨z, rz⟩ := rep_deed ok hN hb4 g S
  have cl : cntN t b s ≤ 100 := by
    have : cntN t b s ≤ b + 1 := by
      unfold cntN
      cases s with
      | none => exact Nat.zero_le _
      | some p =>
        simp only
        cases t[p.1]? with
        | none => exact Nat.zero_le _
        | some a => cases a <;> simp
    omega
  have e3 : gEq false (.int (b : Int)) (.int 3) S = some (.bl ((b : Int) == 3), S) := by simp
  subst hL
  unfold L_law_1
  simp only [w_tp2, w_tp3, w_enumZ, w_disp1, w_par2, w_var, w_C, w_op, w_un, w_test, w_truth, w_andT, w_orT, w_notT, w_andV, w_orV, w_notV, w_if, w_anil, w_acons, w_tup, w_lst, w_lstN, w_call, w_callN, w_B, w_M, w_M0, w_rng1, w_lc, w_yes, w_dnew, w_next, w_no, w_brk, w_cnt, w_retN, w_seq, w_drop, w_ret, w_ifS, w_nm, w_sub, w_asg, w_for, w_aug, w_slice, w_oNone, w_oSome, wp_some, List.getElem?_cons_zero, List.getElem?_cons_succ, List.set_cons_zero, List.set_cons_succ, Option.some.injEq, exists_eq_left', D.obj.injEq, D.bl.injEq, D.int.injEq, D.str.injEq, D.tup.injEq, D.lst.injEq, List.cons.injEq, List.append_nil, List.nil_append, List.cons_append, List.length_cons, List.length_nil, Nat.reduceAdd, Nat.reduceLeDiff, Nat.zero_le, true_and, and_true, and_self, if_true, Bool.false_eq_true, if_false, Bool.xor_self, Bool.xor_false, Bool.xor_true, Bool.false_xor, Bool.true_xor, Bool.not_true, Bool.not_false]
  rw [ldeed_eq ok hb hb4 g]
  simp only [w_tp2, w_tp3, w_enumZ, w_disp1, w_par2, w_var, w_C, w_op, w_un, w_test, w_truth, w_andT, w_orT, w_notT, w_andV, w_orV, w_notV, w_if, w_anil, w_acons, w_tup, w_lst, w_lstN, w_call, w_callN, w_B, w_M, w_M0, w_rng1, w_lc, w_yes, w_dnew, w_next, w_no, w_brk, w_cnt, w_retN, w_seq, w_drop, w_ret, w_ifS, w_nm, w_sub, w_asg, w_for, w_aug, w_slice, w_oNone, w_oSome, wp_some, List.getElem?_cons_zero, List.getElem?_cons_succ, List.set_cons_zero, List.set_cons_succ, Option.some.injEq, exists_eq_left', D.obj.injEq, D.bl.injEq, D.int.injEq, D.str.injEq, D.tup.injEq, D.lst.injEq, List.cons.injEq, List.append_nil, List.nil_append, List.cons_append, List.length_cons, List.length_nil, Nat.reduceAdd, Nat.reduceLeDiff, Nat.zero_le, true_and, and_true, and_self, if_true, Bool.false_eq_true, if_false, Bool.xor_self, Bool.xor_false, Bool.xor_true, Bool.false_xor, Bool.true_xor, Bool.not_true, Bool.not_false]
  rw [deed_of_eq ok hb hb4 g]
  simp only [w_tp2, w_tp3, w_enumZ, w_disp1, w_par2, w_var, w_C, w_op, w_un, w_test, w_truth, w_andT, w_orT, w_notT, w_andV, w_orV, w_notV, w_if, w_anil, w_acons, w_tup, w_lst, w_lstN, w_call, w_callN, w_B, w_M, w_M0, w_rng1, w_lc, w_yes, w_dnew, w_next, w_no, w_brk, w_cnt, w_retN, w_seq, w_drop, w_ret, w_ifS, w_nm, w_sub, w_asg, w_for, w_aug, w_slice, w_oNone, w_oSome, wp_some, List.getElem?_cons_zero, List.getElem?_cons_succ, List.set_cons_zero, List.set_cons_succ, Option.some.injEq, exists_eq_left', D.obj.injEq, D.bl.injEq, D.int.injEq, D.str.injEq, D.tup.injEq, D.lst.injEq, List.cons.injEq, List.append_nil, List.nil_append, List.cons_append, List.length_cons, List.length_nil, Nat.reduceAdd, Nat.reduceLeDiff, Nat.zero_le, true_and, and_true, and_self, if_true, Bool.false_eq_true, if_false, Bool.xor_self, Bool.xor_false, Bool.xor_true, Bool.false_xor, Bool.true_xor, Bool.not_true, Bool.not_false]
  rw [rz]
  simp only [w_tp2, w_tp3, w_enumZ, w_disp1, w_par2, w_var, w_C, w_op, w_un, w_test, w_truth, w_andT, w_orT, w_notT, w_andV, w_orV, w_notV, w_if, w_anil, w_acons, w_tup, w_lst, w_lstN, w_call, w_callN, w_B, w_M, w_M0, w_rng1, w_lc, w_yes, w_dnew, w_next, w_no, w_brk, w_cnt, w_retN, w_seq, w_drop, w_ret, w_ifS, w_nm, w_sub, w_asg, w_for, w_aug, w_slice, w_oNone, w_oSome, wp_some, List.getElem?_cons_zero, List.getElem?_cons_succ, List.set_cons_zero, List.set_cons_succ, Option.some.injEq, exists_eq_left', D.obj.injEq, D.bl.injEq, D.int.injEq, D.str.injEq, D.tup.injEq, D.lst.injEq, List.cons.injEq, List.append_nil, List.nil_append, List.cons_append, List.length_cons, List.length_nil, Nat.reduceAdd, Nat.reduceLeDiff, Nat.zero_le, true_and, and_true, and_self, if_true, Bool.false_eq_true, if_false, Bool.xor_self, Bool.xor_false, Bool.xor_true, Bool.false_xor, Bool.true_xor, Bool.not_true, Bool.not_false]
  rw [rz]
  simp only [w_tp2, w_tp3, w_enumZ, w_disp1, w_par2, w_var, w_C, w_op, w_un, w_test, w_truth, w_andT, w_orT, w_notT, w_andV, w_orV, w_notV, w_if, w_anil, w_acons, w_tup, w_lst, w_lstN, w_call, w_callN, w_B, w_M, w_M0, w_rng1, w_lc, w_yes, w_dnew, w_next, w_no, w_brk, w_cnt, w_retN, w_seq, w_drop, w_ret, w_ifS, w_nm, w_sub, w_asg, w_for, w_aug, w_slice, w_oNone, w_oSome, wp_some, List.getElem?_cons_zero, List.getElem?_cons_succ, List.set_cons_zero, List.set_cons_succ, Option.some.injEq, exists_eq_left', D.obj.injEq, D.bl.injEq, D.int.injEq, D.str.injEq, D.tup.injEq, D.lst.injEq, List.cons.injEq, List.append_nil, List.nil_append, List.cons_append, List.length_cons, List.length_nil, Nat.reduceAdd, Nat.reduceLeDiff, Nat.zero_le, true_and, and_true, and_self, if_true, Bool.false_eq_true, if_false, Bool.xor_self, Bool.xor_false, Bool.xor_true, Bool.false_xor, Bool.true_xor, Bool.not_true, Bool.not_false]
  rw [eq_str]
  simp only [w_tp2, w_tp3, w_enumZ, w_disp1, w_par2, w_var, w_C, w_op, w_un, w_test, w_truth, w_andT, w_orT, w_notT, w_andV, w_orV, w_notV, w_if, w_anil, w_acons, w_tup, w_lst, w_lstN, w_call, w_callN, w_B, w_M, w_M0, w_rng1, w_lc, w_yes, w_dnew, w_next, w_no, w_brk, w_cnt, w_retN, w_seq, w_drop, w_ret, w_ifS, w_nm, w_sub, w_asg, w_for, w_aug, w_slice, w_oNone, w_oSome, wp_some, List.getElem?_cons_zero, List.getElem?_cons_succ, List.set_cons_zero, List.set_cons_succ, Option.some.injEq, exists_eq_left', D.obj.injEq, D.bl.injEq, D.int.injEq, D.str.injEq, D.tup.injEq, D.lst.injEq, List.cons.injEq, List.append_nil, List.nil_append, List.cons_append, List.length_cons, List.length_nil, Nat.reduceAdd, Nat.reduceLeDiff, Nat.zero_le, true_and, and_true, and_self, if_true, Bool.false_eq_true, if_false, Bool.xor_self, Bool.xor_false, Bool.xor_true, Bool.false_xor, Bool.true_xor, Bool.not_true, Bool.not_false]
  rw [branch_count_eq g]
  simp only [w_tp2, w_tp3, w_enumZ, w_disp1, w_par2, w_var, w_C, w_op, w_un, w_test, w_truth, w_andT, w_orT, w_notT, w_andV, w_orV, w_notV, w_if, w_anil, w_acons, w_tup, w_lst, w_lstN, w_call, w_callN, w_B, w_M, w_M0, w_rng1, w_lc, w_yes, w_dnew, w_next, w_no, w_brk, w_cnt, w_retN, w_seq, w_drop, w_ret, w_ifS, w_nm, w_sub, w_asg, w_for, w_aug, w_slice, w_oNone, w_oSome, wp_some, List.getElem?_cons_zero, List.getElem?_cons_succ, List.set_cons_zero, List.set_cons_succ, Option.some.injEq, exists_eq_left', D.obj.injEq, D.bl.injEq, D.int.injEq, D.str.injEq, D.tup.injEq, D.lst.injEq, List.cons.injEq, List.append_nil, List.nil_append, List.cons_append, List.length_cons, List.length_nil, Nat.reduceAdd, Nat.reduceLeDiff, Nat.zero_le, true_and, and_true, and_self, if_true, Bool.false_eq_true, if_false, Bool.xor_self, Bool.xor_false, Bool.xor_true, Bool.false_xor, Bool.true_xor, Bool.not_true, Bool.not_false]
  rw [rep_int cl]
  simp only [w_tp2, w_tp3, w_enumZ, w_disp1, w_par2, w_var, w_C, w_op, w_un, w_test, w_truth, w_andT, w_orT, w_notT, w_andV, w_orV, w_notV, w_if, w_anil, w_acons, w_tup, w_lst, w_lstN, w_call, w_callN, w_B, w_M, w_M0, w_rng1, w_lc, w_yes, w_dnew, w_next, w_no, w_brk, w_cnt, w_retN, w_seq, w_drop, w_ret, w_ifS, w_nm, w_sub, w_asg, w_for, w_aug, w_slice, w_oNone, w_oSome, wp_some, List.getElem?_cons_zero, List.getElem?_cons_succ, List.set_cons_zero, List.set_cons_succ, Option.some.injEq, exists_eq_left', D.obj.injEq, D.bl.injEq, D.int.injEq, D.str.injEq, D.tup.injEq, D.lst.injEq, List.cons.injEq, List.append_nil, List.nil_append, List.cons_append, List.length_cons, List.length_nil, Nat.reduceAdd, Nat.reduceLeDiff, Nat.zero_le, true_and, and_true, and_self, if_true, Bool.false_eq_true, if_false, Bool.xor_self, Bool.xor_false, Bool.xor_true, Bool.false_xor, Bool.true_xor, Bool.not_true, Bool.not_false]
  rw [lcount_eq ok hb hb4 g]
  simp only [w_tp2, w_tp3, w_enumZ, w_disp1, w_par2, w_var, w_C, w_op, w_un, w_test, w_truth, w_andT, w_orT, w_notT, w_andV, w_orV, w_notV, w_if, w_anil, w_acons, w_tup, w_lst, w_lstN, w_call, w_callN, w_B, w_M, w_M0, w_rng1, w_lc, w_yes, w_dnew, w_next, w_no, w_brk, w_cnt, w_retN, w_seq, w_drop, w_ret, w_ifS, w_nm, w_sub, w_asg, w_for, w_aug, w_slice, w_oNone, w_oSome, wp_some, List.getElem?_cons_zero, List.getElem?_cons_succ, List.set_cons_zero, List.set_cons_succ, Option.some.injEq, exists_eq_left', D.obj.injEq, D.bl.injEq, D.int.injEq, D.str.injEq, D.tup.injEq, D.lst.injEq, List.cons.injEq, List.append_nil, List.nil_append, List.cons_append, List.length_cons, List.length_nil, Nat.reduceAdd, Nat.reduceLeDiff, Nat.zero_le, true_and, and_true, and_self, if_true, Bool.false_eq_true, if_false, Bool.xor_self, Bool.xor_false, Bool.xor_true, Bool.false_xor, Bool.true_xor, Bool.not_true, Bool.not_false]
  rw [rep_int cl]
  simp only [w_tp2, w_tp3, w_enumZ, w_disp1, w_par2, w_var, w_C, w_op, w_un, w_test, w_truth, w_andT, w_orT, w_notT, w_andV, w_orV, w_notV, w_if, w_anil, w_acons, w_tup, w_lst, w_lstN, w_call, w_callN, w_B, w_M, w_M0, w_rng1, w_lc, w_yes, w_dnew, w_next, w_no, w_brk, w_cnt, w_retN, w_seq, w_drop, w_ret, w_ifS, w_nm, w_sub, w_asg, w_for, w_aug, w_slice, w_oNone, w_oSome, wp_some, List.getElem?_cons_zero, List.getElem?_cons_succ, List.set_cons_zero, List.set_cons_succ, Option.some.injEq, exists_eq_left', D.obj.injEq, D.bl.injEq, D.int.injEq, D.str.injEq, D.tup.injEq, D.lst.injEq, List.cons.injEq, List.append_nil, List.nil_append, List.cons_append, List.length_cons, List.length_nil, Nat.reduceAdd, Nat.reduceLeDiff, Nat.zero_le, true_and, and_true, and_self, if_true, Bool.false_eq_true, if_false, Bool.xor_self, Bool.xor_false, Bool.xor_true, Bool.false_xor, Bool.true_xor, Bool.not_true, Bool.not_false]
  rw [eq_str]
  simp only [w_tp2, w_tp3, w_enumZ, w_disp1, w_par2, w_var, w_C, w_op, w_un, w_test, w_truth, w_andT, w_orT, w_notT, w_andV, w_orV, w_notV, w_if, w_anil, w_acons, w_tup, w_lst, w_lstN, w_call, w_callN, w_B, w_M, w_M0, w_rng1, w_lc, w_yes, w_dnew, w_next, w_no, w_brk, w_cnt, w_retN, w_seq, w_drop, w_ret, w_ifS, w_nm, w_sub, w_asg, w_for, w_aug, w_slice, w_oNone, w_oSome, wp_some, List.getElem?_cons_zero, List.getElem?_cons_succ, List.set_cons_zero, List.set_cons_succ, Option.some.injEq, exists_eq_left', D.obj.injEq, D.bl.injEq, D.int.injEq, D.str.injEq, D.tup.injEq, D.lst.injEq, List.cons.injEq, List.append_nil, List.nil_append, List.cons_append, List.length_cons, List.length_nil, Nat.reduceAdd, Nat.reduceLeDiff, Nat.zero_le, true_and, and_true, and_self, if_true, Bool.false_eq_true, if_false, Bool.xor_self, Bool.xor_false, Bool.xor_true, Bool.false_xor, Bool.true_xor, Bool.not_true, Bool.not_false]
  rw [e3]
  by_cases h3 : (b : Int) = 3
  · have hb3 : b = 3 := by omega
    have d3 := deed_of_eq ok hb hb4 g S
    have c3 := branch_count_eq (t := t) (b := b) g S
    have l3 := lcount_eq ok hb hb4 g S
    rw [h3] at d3 c3 l3 ⊢
    simp only [beq_self_eq_true]
    simp only [w_tp2, w_tp3, w_enumZ, w_disp1, w_par2, w_var, w_C, w_op, w_un, w_test, w_truth, w_andT, w_orT, w_notT, w_andV, w_orV, w_notV, w_if, w_anil, w_acons, w_tup, w_lst, w_lstN, w_call, w_callN, w_B, w_M, w_M0, w_rng1, w_lc, w_yes, w_dnew, w_next, w_no, w_brk, w_cnt, w_retN, w_seq, w_drop, w_ret, w_ifS, w_nm, w_sub, w_asg, w_for, w_aug, w_slice, w_oNone, w_oSome, wp_some, List.getElem?_cons_zero, List.getElem?_cons_succ, List.set_cons_zero, List.set_cons_succ, Option.some.injEq, exists_eq_left', D.obj.injEq, D.bl.injEq, D.int.injEq, D.str.injEq, D.tup.injEq, D.lst.injEq, List.cons.injEq, List.append_nil, List.nil_append, List.cons_append, List.length_cons, List.length_nil, Nat.reduceAdd, Nat.reduceLeDiff, Nat.zero_le, true_and, and_true, and_self, if_true, Bool.false_eq_true, if_false, Bool.xor_self, Bool.xor_false, Bool.xor_true, Bool.false_xor, Bool.true_xor, Bool.not_true, Bool.not_false]
    rw [d3]
    simp only [w_tp2, w_tp3, w_enumZ, w_disp1, w_par2, w_var, w_C, w_op, w_un, w_test, w_truth, w_andT, w_orT, w_notT, w_andV, w_orV, w_notV, w_if, w_anil, w_acons, w_tup, w_lst, w_lstN, w_call, w_callN, w_B, w_M, w_M0, w_rng1, w_lc, w_yes, w_dnew, w_next, w_no, w_brk, w_cnt, w_retN, w_seq, w_drop, w_ret, w_ifS, w_nm, w_sub, w_asg, w_for, w_aug, w_slice, w_oNone, w_oSome, wp_some, List.getElem?_cons_zero, List.getElem?_cons_succ, List.set_cons_zero, List.set_cons_succ, Option.some.injEq, exists_eq_left', D.obj.injEq, D.bl.injEq, D.int.injEq, D.str.injEq, D.tup.injEq, D.lst.injEq, List.cons.injEq, List.append_nil, List.nil_append, List.cons_append, List.length_cons, List.length_nil, Nat.reduceAdd, Nat.reduceLeDiff, Nat.zero_le, true_and, and_true, and_self, if_true, Bool.false_eq_true, if_false, Bool.xor_self, Bool.xor_false, Bool.xor_true, Bool.false_xor, Bool.true_xor, Bool.not_true, Bool.not_false]
    rw [← h3, gEq_deed' ok hN hb4 g]
    simp only [w_tp2, w_tp3, w_enumZ, w_disp1, w_par2, w_var, w_C, w_op, w_un, w_test, w_truth, w_andT, w_orT, w_notT, w_andV, w_orV, w_notV, w_if, w_anil, w_acons, w_tup, w_lst, w_lstN, w_call, w_callN, w_B, w_M, w_M0, w_rng1, w_lc, w_yes, w_dnew, w_next, w_no, w_brk, w_cnt, w_retN, w_seq, w_drop, w_ret, w_ifS, w_nm, w_sub, w_asg, w_for, w_aug, w_slice, w_oNone, w_oSome, wp_some, List.getElem?_cons_zero, List.getElem?_cons_succ, List.set_cons_zero, List.set_cons_succ, Option.some.injEq, exists_eq_left', D.obj.injEq, D.bl.injEq, D.int.injEq, D.str.injEq, D.tup.injEq, D.lst.injEq, List.cons.injEq, List.append_nil, List.nil_append, List.cons_append, List.length_cons, List.length_nil, Nat.reduceAdd, Nat.reduceLeDiff, Nat.zero_le, true_and, and_true, and_self, if_true, Bool.false_eq_true, if_false, Bool.xor_self, Bool.xor_false, Bool.xor_true, Bool.false_xor, Bool.true_xor, Bool.not_true, Bool.not_false]
    rw [h3]
    have e33 : gEq false (.int 3) (.int 3) S = some (.bl true, S) := by simp
    rw [e33]
    simp only [w_tp2, w_tp3, w_enumZ, w_disp1, w_par2, w_var, w_C, w_op, w_un, w_test, w_truth, w_andT, w_orT, w_notT, w_andV, w_orV, w_notV, w_if, w_anil, w_acons, w_tup, w_lst, w_lstN, w_call, w_callN, w_B, w_M, w_M0, w_rng1, w_lc, w_yes, w_dnew, w_next, w_no, w_brk, w_cnt, w_retN, w_seq, w_drop, w_ret, w_ifS, w_nm, w_sub, w_asg, w_for, w_aug, w_slice, w_oNone, w_oSome, wp_some, List.getElem?_cons_zero, List.getElem?_cons_succ, List.set_cons_zero, List.set_cons_succ, Option.some.injEq, exists_eq_left', D.obj.injEq, D.bl.injEq, D.int.injEq, D.str.injEq, D.tup.injEq, D.lst.injEq, List.cons.injEq, List.append_nil, List.nil_append, List.cons_append, List.length_cons, List.length_nil, Nat.reduceAdd, Nat.reduceLeDiff, Nat.zero_le, true_and, and_true, and_self, if_true, Bool.false_eq_true, if_false, Bool.xor_self, Bool.xor_false, Bool.xor_true, Bool.false_xor, Bool.true_xor, Bool.not_true, Bool.not_false]
    rw [c3]
    simp only [w_tp2, w_tp3, w_enumZ, w_disp1, w_par2, w_var, w_C, w_op, w_un, w_test, w_truth, w_andT, w_orT, w_notT, w_andV, w_orV, w_notV, w_if, w_anil, w_acons, w_tup, w_lst, w_lstN, w_call, w_callN, w_B, w_M, w_M0, w_rng1, w_lc, w_yes, w_dnew, w_next, w_no, w_brk, w_cnt, w_retN, w_seq, w_drop, w_ret, w_ifS, w_nm, w_sub, w_asg, w_for, w_aug, w_slice, w_oNone, w_oSome, wp_some, List.getElem?_cons_zero, List.getElem?_cons_succ, List.set_cons_zero, List.set_cons_succ, Option.some.injEq, exists_eq_left', D.obj.injEq, D.bl.injEq, D.int.injEq, D.str.injEq, D.tup.injEq, D.lst.injEq, List.cons.injEq, List.append_nil, List.nil_append, List.cons_append, List.length_cons, List.length_nil, Nat.reduceAdd, Nat.reduceLeDiff, Nat.zero_le, true_and, and_true, and_self, if_true, Bool.false_eq_true, if_false, Bool.xor_self, Bool.xor_false, Bool.xor_true, Bool.false_xor, Bool.true_xor, Bool.not_true, Bool.not_false]
    rw [l3]
    simp only [w_tp2, w_tp3, w_enumZ, w_disp1, w_par2, w_var, w_C, w_op, w_un, w_test, w_truth, w_andT, w_orT, w_notT, w_andV, w_orV, w_notV, w_if, w_anil, w_acons, w_tup, w_lst, w_lstN, w_call, w_callN, w_B, w_M, w_M0, w_rng1, w_lc, w_yes, w_dnew, w_next, w_no, w_brk, w_cnt, w_retN, w_seq, w_drop, w_ret, w_ifS, w_nm, w_sub, w_asg, w_for, w_aug, w_slice, w_oNone, w_oSome, wp_some, List.getElem?_cons_zero, List.getElem?_cons_succ, List.set_cons_zero, List.set_cons_succ, Option.some.injEq, exists_eq_left', D.obj.injEq, D.bl.injEq, D.int.injEq, D.str.injEq, D.tup.injEq, D.lst.injEq, List.cons.injEq, List.append_nil, List.nil_append, List.cons_append, List.length_cons, List.length_nil, Nat.reduceAdd, Nat.reduceLeDiff, Nat.zero_le, true_and, and_true, and_self, if_true, Bool.false_eq_true, if_false, Bool.xor_self, Bool.xor_false, Bool.xor_true, Bool.false_xor, Bool.true_xor, Bool.not_true, Bool.not_false]
    rw [eq_int]
    simp only [w_tp2, w_tp3, w_enumZ, w_disp1, w_par2, w_var, w_C, w_op, w_un, w_test, w_truth, w_andT, w_orT, w_notT, w_andV, w_orV, w_notV, w_if, w_anil, w_acons, w_tup, w_lst, w_lstN, w_call, w_callN, w_B, w_M, w_M0, w_rng1, w_lc, w_yes, w_dnew, w_next, w_no, w_brk, w_cnt, w_retN, w_seq, w_drop, w_ret, w_ifS, w_nm, w_sub, w_asg, w_for, w_aug, w_slice, w_oNone, w_oSome, wp_some, List.getElem?_cons_zero, List.getElem?_cons_succ, List.set_cons_zero, List.set_cons_succ, Option.some.injEq, exists_eq_left', D.obj.injEq, D.bl.injEq, D.int.injEq, D.str.injEq, D.tup.injEq, D.lst.injEq, List.cons.injEq, List.append_nil, List.nil_append, List.cons_append, List.length_cons, List.length_nil, Nat.reduceAdd, Nat.reduceLeDiff, Nat.zero_le, true_and, and_true, and_self, if_true, Bool.false_eq_true, if_false, Bool.xor_self, Bool.xor_false, Bool.xor_true, Bool.false_xor, Bool.true_xor, Bool.not_true, Bool.not_false]
    rw [← h3]
    exact k _ _
  · have hf : ((b : Int) == 3) = false := beq_eq_false_iff_ne.mpr h3
    rw [hf]
    simp only [w_tp2, w_tp3, w_enumZ, w_disp1, w_par2, w_var, w_C, w_op, w_un, w_test, w_truth, w_andT, w_orT, w_notT, w_andV, w_orV, w_notV, w_if, w_anil, w_acons, w_tup, w_lst, w_lstN, w_call, w_callN, w_B, w_M, w_M0, w_rng1, w_lc, w_yes, w_dnew, w_next, w_no, w_brk, w_cnt, w_retN, w_seq, w_drop, w_ret, w_ifS, w_nm, w_sub, w_asg, w_for, w_aug, w_slice, w_oNone, w_oSome, wp_some, List.getElem?_cons_zero, List.getElem?_cons_succ, List.set_cons_zero, List.set_cons_succ, Option.some.injEq, exists_eq_left', D.obj.injEq, D.bl.injEq, D.int.injEq, D.str.injEq, D.tup.injEq, D.lst.injEq, List.cons.injEq, List.append_nil, List.nil_append, List.cons_append, List.length_cons, List.length_nil, Nat.reduceAdd, Nat.reduceLeDiff, Nat.zero_le, true_and, and_true, and_self, if_true, Bool.false_eq_true, if_false, Bool.xor_self, Bool.xor_false, Bool.xor_true, Bool.false_xor, Bool.true_xor, Bool.not_true, Bool.not_false]
    rw [e3, hf]
    simp only [w_tp2, w_tp3, w_enumZ, w_disp1, w_par2, w_var, w_C, w_op, w_un, w_test, w_truth, w_andT, w_orT, w_notT, w_andV, w_orV, w_notV, w_if, w_anil, w_acons, w_tup, w_lst, w_lstN, w_call, w_callN, w_B, w_M, w_M0, w_rng1, w_lc, w_yes, w_dnew, w_next, w_no, w_brk, w_cnt, w_retN, w_seq, w_drop, w_ret, w_ifS, w_nm, w_sub, w_asg, w_for, w_aug, w_slice, w_oNone, w_oSome, wp_some, List.getElem?_cons_zero, List.getElem?_cons_succ, List.set_cons_zero, List.set_cons_succ, Option.some.injEq, exists_eq_left', D.obj.injEq, D.bl.injEq, D.int.injEq, D.str.injEq, D.tup.injEq, D.lst.injEq, List.cons.injEq, List.append_nil, List.nil_append, List.cons_append, List.length_cons, List.length_nil, Nat.reduceAdd, Nat.reduceLeDiff, Nat.zero_le, true_and, and_true, and_self, if_true, Bool.false_eq_true, if_false, Bool.xor_self, Bool.xor_false, Bool.xor_true, Bool.false_xor, Bool.true_xor, Bool.not_true, Bool.not_false]
    exact k _ _
end
theorem get_st {ss : List (Option P3)} {i : Nat} {d : D} (h : (ss.map stO)[i]? = some d) : ∃ s, s ∈ ss ∧ d = stO s := by
  rw [List.getElem?_map] at h
  obtain ⟨s, h1, h2⟩ := Option.map_eq_some_iff.mp h
  exact ⟨s, List.mem_of_getElem? h1, h2.symm⟩
theorem cell_step {L : FS} (hL : L_law_2 = L) {ns : List Int} {S : Sto} {i : Nat} (hi : i ≤ 100) {E : En} {e2 e3 e4 e5 e6 e7 e8 : Option D}
    (k : ∀ S' f2 f3 f4 f5 f6 f7 f8, E.nx [some (.scr (ns.map .int)), some (.int (i : Int)), f2, f3, f4, f5, f6, f7, f8] S') :
    WpS (L [some (.scr (ns.map .int)), some (.int (i : Int)), e2, e3, e4, e5, e6, e7, e8] S) E := by
  obtain ⟨o, B, eb⟩ := bag_eq (ns := ns) (i := i) (by omega) S
  have b0 : (S ++ [o])[S.length]? = some o := at_0 ..
  obtain ⟨r, o1, r0, r1, B1, e1⟩ := take_eq b0 B (by omega) (m := 3) (by decide) (by decide)
  have b1 := get_set b0 o1
  obtain ⟨b, hbr⟩ : ∃ b : Nat, 2 + r = (b : Int) := ⟨(2 + r).toNat, by omega⟩
  have hb : 0 < b := by omega
  have hb4 : b ≤ 4 := by omega
  obtain ⟨N, o2, n0, n3, hN, B2, e2'⟩ := names_eq b1 B1 (by omega)
  have b2 := get_set b1 o2
  obtain ⟨r2, o3, q0, q1, B3, e3'⟩ := take_eq b2 B2 (by omega) (m := 3) (by decide) (by decide)
  have b3 := get_set b2 o3
  obtain ⟨q, ql, qx⟩ : ∃ q : Nat, q ≤ 16 ∧ ∀ S : Sto, gIdx (.lst [.int 3, .int 8, .int 16]) (.int r2) S = some (.int (q : Int), S) := by
    rcases (show r2 = 0 ∨ r2 = 1 ∨ r2 = 2 by omega) with rfl | rfl | rfl
    · exact ⟨3, by decide, fun S => by rw [gIdx_lst]; rfl⟩
    · exact ⟨8, by decide, fun S => by rw [gIdx_lst]; rfl⟩
    · exact ⟨16, by decide, fun S => by rw [gIdx_lst]; rfl⟩
  obtain ⟨t, o4, lt, okt, B4, e4'⟩ := text_eq b3 B3 (by omega) (m := (b : Int)) (by omega) (by omega) (q := (q : Int)) (by omega) (by omega) (N := N) n0 (by omega)
  have ad : ∀ S : Sto, gAdd (.int 2) (.int r) S = some (.int (b : Int), S) := fun S => by
    rw [← hbr]; rfl
  have okN : Kx.Tx.ok b N t := okt
  subst hL
  unfold L_law_2
  generalize hL1 : L_law_1 = L1
  simp only [w_tp2, w_tp3, w_enumZ, w_disp1, w_par2, w_var, w_C, w_op, w_un, w_test, w_truth, w_andT, w_orT, w_notT, w_andV, w_orV, w_notV, w_if, w_anil, w_acons, w_tup, w_lst, w_lstN, w_call, w_callN, w_B, w_M, w_M0, w_rng1, w_lc, w_yes, w_dnew, w_next, w_no, w_brk, w_cnt, w_retN, w_seq, w_drop, w_ret, w_ifS, w_nm, w_sub, w_asg, w_for, w_aug, w_slice, w_oNone, w_oSome, wp_some, List.getElem?_cons_zero, List.getElem?_cons_succ, List.set_cons_zero, List.set_cons_succ, Option.some.injEq, exists_eq_left', D.obj.injEq, D.bl.injEq, D.int.injEq, D.str.injEq, D.tup.injEq, D.lst.injEq, List.cons.injEq, List.append_nil, List.nil_append, List.cons_append, List.length_cons, List.length_nil, Nat.reduceAdd, Nat.reduceLeDiff, Nat.zero_le, true_and, and_true, and_self, if_true, Bool.false_eq_true, if_false, Bool.xor_self, Bool.xor_false, Bool.xor_true, Bool.false_xor, Bool.true_xor, Bool.not_true, Bool.not_false]
  rw [eb]
  simp only [w_tp2, w_tp3, w_enumZ, w_disp1, w_par2, w_var, w_C, w_op, w_un, w_test, w_truth, w_andT, w_orT, w_notT, w_andV, w_orV, w_notV, w_if, w_anil, w_acons, w_tup, w_lst, w_lstN, w_call, w_callN, w_B, w_M, w_M0, w_rng1, w_lc, w_yes, w_dnew, w_next, w_no, w_brk, w_cnt, w_retN, w_seq, w_drop, w_ret, w_ifS, w_nm, w_sub, w_asg, w_for, w_aug, w_slice, w_oNone, w_oSome, wp_some, List.getElem?_cons_zero, List.getElem?_cons_succ, List.set_cons_zero, List.set_cons_succ, Option.some.injEq, exists_eq_left', D.obj.injEq, D.bl.injEq, D.int.injEq, D.str.injEq, D.tup.injEq, D.lst.injEq, List.cons.injEq, List.append_nil, List.nil_append, List.cons_append, List.length_cons, List.length_nil, Nat.reduceAdd, Nat.reduceLeDiff, Nat.zero_le, true_and, and_true, and_self, if_true, Bool.false_eq_true, if_false, Bool.xor_self, Bool.xor_false, Bool.xor_true, Bool.false_xor, Bool.true_xor, Bool.not_true, Bool.not_false]
  rw [e1]
  simp only [w_tp2, w_tp3, w_enumZ, w_disp1, w_par2, w_var, w_C, w_op, w_un, w_test, w_truth, w_andT, w_orT, w_notT, w_andV, w_orV, w_notV, w_if, w_anil, w_acons, w_tup, w_lst, w_lstN, w_call, w_callN, w_B, w_M, w_M0, w_rng1, w_lc, w_yes, w_dnew, w_next, w_no, w_brk, w_cnt, w_retN, w_seq, w_drop, w_ret, w_ifS, w_nm, w_sub, w_asg, w_for, w_aug, w_slice, w_oNone, w_oSome, wp_some, List.getElem?_cons_zero, List.getElem?_cons_succ, List.set_cons_zero, List.set_cons_succ, Option.some.injEq, exists_eq_left', D.obj.injEq, D.bl.injEq, D.int.injEq, D.str.injEq, D.tup.injEq, D.lst.injEq, List.cons.injEq, List.append_nil, List.nil_append, List.cons_append, List.length_cons, List.length_nil, Nat.reduceAdd, Nat.reduceLeDiff, Nat.zero_le, true_and, and_true, and_self, if_true, Bool.false_eq_true, if_false, Bool.xor_self, Bool.xor_false, Bool.xor_true, Bool.false_xor, Bool.true_xor, Bool.not_true, Bool.not_false]
  rw [ad]
  simp only [w_tp2, w_tp3, w_enumZ, w_disp1, w_par2, w_var, w_C, w_op, w_un, w_test, w_truth, w_andT, w_orT, w_notT, w_andV, w_orV, w_notV, w_if, w_anil, w_acons, w_tup, w_lst, w_lstN, w_call, w_callN, w_B, w_M, w_M0, w_rng1, w_lc, w_yes, w_dnew, w_next, w_no, w_brk, w_cnt, w_retN, w_seq, w_drop, w_ret, w_ifS, w_nm, w_sub, w_asg, w_for, w_aug, w_slice, w_oNone, w_oSome, wp_some, List.getElem?_cons_zero, List.getElem?_cons_succ, List.set_cons_zero, List.set_cons_succ, Option.some.injEq, exists_eq_left', D.obj.injEq, D.bl.injEq, D.int.injEq, D.str.injEq, D.tup.injEq, D.lst.injEq, List.cons.injEq, List.append_nil, List.nil_append, List.cons_append, List.length_cons, List.length_nil, Nat.reduceAdd, Nat.reduceLeDiff, Nat.zero_le, true_and, and_true, and_self, if_true, Bool.false_eq_true, if_false, Bool.xor_self, Bool.xor_false, Bool.xor_true, Bool.false_xor, Bool.true_xor, Bool.not_true, Bool.not_false]
  rw [e2']
  simp only [w_tp2, w_tp3, w_enumZ, w_disp1, w_par2, w_var, w_C, w_op, w_un, w_test, w_truth, w_andT, w_orT, w_notT, w_andV, w_orV, w_notV, w_if, w_anil, w_acons, w_tup, w_lst, w_lstN, w_call, w_callN, w_B, w_M, w_M0, w_rng1, w_lc, w_yes, w_dnew, w_next, w_no, w_brk, w_cnt, w_retN, w_seq, w_drop, w_ret, w_ifS, w_nm, w_sub, w_asg, w_for, w_aug, w_slice, w_oNone, w_oSome, wp_some, List.getElem?_cons_zero, List.getElem?_cons_succ, List.set_cons_zero, List.set_cons_succ, Option.some.injEq, exists_eq_left', D.obj.injEq, D.bl.injEq, D.int.injEq, D.str.injEq, D.tup.injEq, D.lst.injEq, List.cons.injEq, List.append_nil, List.nil_append, List.cons_append, List.length_cons, List.length_nil, Nat.reduceAdd, Nat.reduceLeDiff, Nat.zero_le, true_and, and_true, and_self, if_true, Bool.false_eq_true, if_false, Bool.xor_self, Bool.xor_false, Bool.xor_true, Bool.false_xor, Bool.true_xor, Bool.not_true, Bool.not_false]
  rw [e3']
  simp only [w_tp2, w_tp3, w_enumZ, w_disp1, w_par2, w_var, w_C, w_op, w_un, w_test, w_truth, w_andT, w_orT, w_notT, w_andV, w_orV, w_notV, w_if, w_anil, w_acons, w_tup, w_lst, w_lstN, w_call, w_callN, w_B, w_M, w_M0, w_rng1, w_lc, w_yes, w_dnew, w_next, w_no, w_brk, w_cnt, w_retN, w_seq, w_drop, w_ret, w_ifS, w_nm, w_sub, w_asg, w_for, w_aug, w_slice, w_oNone, w_oSome, wp_some, List.getElem?_cons_zero, List.getElem?_cons_succ, List.set_cons_zero, List.set_cons_succ, Option.some.injEq, exists_eq_left', D.obj.injEq, D.bl.injEq, D.int.injEq, D.str.injEq, D.tup.injEq, D.lst.injEq, List.cons.injEq, List.append_nil, List.nil_append, List.cons_append, List.length_cons, List.length_nil, Nat.reduceAdd, Nat.reduceLeDiff, Nat.zero_le, true_and, and_true, and_self, if_true, Bool.false_eq_true, if_false, Bool.xor_self, Bool.xor_false, Bool.xor_true, Bool.false_xor, Bool.true_xor, Bool.not_true, Bool.not_false]
  rw [qx]
  simp only [w_tp2, w_tp3, w_enumZ, w_disp1, w_par2, w_var, w_C, w_op, w_un, w_test, w_truth, w_andT, w_orT, w_notT, w_andV, w_orV, w_notV, w_if, w_anil, w_acons, w_tup, w_lst, w_lstN, w_call, w_callN, w_B, w_M, w_M0, w_rng1, w_lc, w_yes, w_dnew, w_next, w_no, w_brk, w_cnt, w_retN, w_seq, w_drop, w_ret, w_ifS, w_nm, w_sub, w_asg, w_for, w_aug, w_slice, w_oNone, w_oSome, wp_some, List.getElem?_cons_zero, List.getElem?_cons_succ, List.set_cons_zero, List.set_cons_succ, Option.some.injEq, exists_eq_left', D.obj.injEq, D.bl.injEq, D.int.injEq, D.str.injEq, D.tup.injEq, D.lst.injEq, List.cons.injEq, List.append_nil, List.nil_append, List.cons_append, List.length_cons, List.length_nil, Nat.reduceAdd, Nat.reduceLeDiff, Nat.zero_le, true_and, and_true, and_self, if_true, Bool.false_eq_true, if_false, Bool.xor_self, Bool.xor_false, Bool.xor_true, Bool.false_xor, Bool.true_xor, Bool.not_true, Bool.not_false]
  rw [e4']
  simp only [w_tp2, w_tp3, w_enumZ, w_disp1, w_par2, w_var, w_C, w_op, w_un, w_test, w_truth, w_andT, w_orT, w_notT, w_andV, w_orV, w_notV, w_if, w_anil, w_acons, w_tup, w_lst, w_lstN, w_call, w_callN, w_B, w_M, w_M0, w_rng1, w_lc, w_yes, w_dnew, w_next, w_no, w_brk, w_cnt, w_retN, w_seq, w_drop, w_ret, w_ifS, w_nm, w_sub, w_asg, w_for, w_aug, w_slice, w_oNone, w_oSome, wp_some, List.getElem?_cons_zero, List.getElem?_cons_succ, List.set_cons_zero, List.set_cons_succ, Option.some.injEq, exists_eq_left', D.obj.injEq, D.bl.injEq, D.int.injEq, D.str.injEq, D.tup.injEq, D.lst.injEq, List.cons.injEq, List.append_nil, List.nil_append, List.cons_append, List.length_cons, List.length_nil, Nat.reduceAdd, Nat.reduceLeDiff, Nat.zero_le, true_and, and_true, and_self, if_true, Bool.false_eq_true, if_false, Bool.xor_self, Bool.xor_false, Bool.xor_true, Bool.false_xor, Bool.true_xor, Bool.not_true, Bool.not_false]
  generalize ((((S ++ [o]).set S.length o1).set S.length o2).set S.length o3).set S.length o4 = S4
  obtain ⟨ss, gs, ls, est⟩ := lstands_eq (t := t) hb hb4 (by omega) S4
  rw [w_it]
  simp only [w_tp2, w_tp3, w_enumZ, w_disp1, w_par2, w_var, w_C, w_op, w_un, w_test, w_truth, w_andT, w_orT, w_notT, w_andV, w_orV, w_notV, w_if, w_anil, w_acons, w_tup, w_lst, w_lstN, w_call, w_callN, w_B, w_M, w_M0, w_rng1, w_lc, w_yes, w_dnew, w_next, w_no, w_brk, w_cnt, w_retN, w_seq, w_drop, w_ret, w_ifS, w_nm, w_sub, w_asg, w_for, w_aug, w_slice, w_oNone, w_oSome, wp_some, List.getElem?_cons_zero, List.getElem?_cons_succ, List.set_cons_zero, List.set_cons_succ, Option.some.injEq, exists_eq_left', D.obj.injEq, D.bl.injEq, D.int.injEq, D.str.injEq, D.tup.injEq, D.lst.injEq, List.cons.injEq, List.append_nil, List.nil_append, List.cons_append, List.length_cons, List.length_nil, Nat.reduceAdd, Nat.reduceLeDiff, Nat.zero_le, true_and, and_true, and_self, if_true, Bool.false_eq_true, if_false, Bool.xor_self, Bool.xor_false, Bool.xor_true, Bool.false_xor, Bool.true_xor, Bool.not_true, Bool.not_false]
  rw [est]
  have al : gAdd (.lst (ss.map stO)) (.lst [.tup [.int (-1), .int 0, .int 0]]) S4 = some (.lst ((ss ++ [none]).map stO), S4) := by
    unfold gAdd
    simp only
    rw [if_pos (by rw [List.length_map, List.length_singleton]; omega), List.map_append]
    rfl
  simp only [w_tp2, w_tp3, w_enumZ, w_disp1, w_par2, w_var, w_C, w_op, w_un, w_test, w_truth, w_andT, w_orT, w_notT, w_andV, w_orV, w_notV, w_if, w_anil, w_acons, w_tup, w_lst, w_lstN, w_call, w_callN, w_B, w_M, w_M0, w_rng1, w_lc, w_yes, w_dnew, w_next, w_no, w_brk, w_cnt, w_retN, w_seq, w_drop, w_ret, w_ifS, w_nm, w_sub, w_asg, w_for, w_aug, w_slice, w_oNone, w_oSome, wp_some, List.getElem?_cons_zero, List.getElem?_cons_succ, List.set_cons_zero, List.set_cons_succ, Option.some.injEq, exists_eq_left', D.obj.injEq, D.bl.injEq, D.int.injEq, D.str.injEq, D.tup.injEq, D.lst.injEq, List.cons.injEq, List.append_nil, List.nil_append, List.cons_append, List.length_cons, List.length_nil, Nat.reduceAdd, Nat.reduceLeDiff, Nat.zero_le, true_and, and_true, and_self, if_true, Bool.false_eq_true, if_false, Bool.xor_self, Bool.xor_false, Bool.xor_true, Bool.false_xor, Bool.true_xor, Bool.not_true, Bool.not_false]
  rw [al]
  simp only [w_tp2, w_tp3, w_enumZ, w_disp1, w_par2, w_var, w_C, w_op, w_un, w_test, w_truth, w_andT, w_orT, w_notT, w_andV, w_orV, w_notV, w_if, w_anil, w_acons, w_tup, w_lst, w_lstN, w_call, w_callN, w_B, w_M, w_M0, w_rng1, w_lc, w_yes, w_dnew, w_next, w_no, w_brk, w_cnt, w_retN, w_seq, w_drop, w_ret, w_ifS, w_nm, w_sub, w_asg, w_for, w_aug, w_slice, w_oNone, w_oSome, wp_some, List.getElem?_cons_zero, List.getElem?_cons_succ, List.set_cons_zero, List.set_cons_succ, Option.some.injEq, exists_eq_left', D.obj.injEq, D.bl.injEq, D.int.injEq, D.str.injEq, D.tup.injEq, D.lst.injEq, List.cons.injEq, List.append_nil, List.nil_append, List.cons_append, List.length_cons, List.length_nil, Nat.reduceAdd, Nat.reduceLeDiff, Nat.zero_le, true_and, and_true, and_self, if_true, Bool.false_eq_true, if_false, Bool.xor_self, Bool.xor_false, Bool.xor_true, Bool.false_xor, Bool.true_xor, Bool.not_true, Bool.not_false]
  refine ⟨(ss ++ [none]).map stO, rfl, ?_⟩
  refine w_for' (fun j env S' => ∃ f6 f7 f8, env = [some (.scr (ns.map .int)), some (.int (i : Int)), some (.obj S.length), some (.int b), some (.lst (N.map .str)), some (txD t), f6, f7, f8]) ⟨e6, e7, e8, rfl⟩ ?_ ?_
  · rintro j d env S' hd ⟨f6, f7, f8, rfl⟩ E2 E2nx _ _ _
    obtain ⟨s, hs, rfl⟩ := get_st hd
    have g : Good t b s := by
      rcases List.mem_append.mp hs with z | z
      · exact gs s z
      · rw [List.mem_singleton.mp z]; exact good_mute
    simp only [w_tp2, w_tp3, w_enumZ, w_disp1, w_par2, w_var, w_C, w_op, w_un, w_test, w_truth, w_andT, w_orT, w_notT, w_andV, w_orV, w_notV, w_if, w_anil, w_acons, w_tup, w_lst, w_lstN, w_call, w_callN, w_B, w_M, w_M0, w_rng1, w_lc, w_yes, w_dnew, w_next, w_no, w_brk, w_cnt, w_retN, w_seq, w_drop, w_ret, w_ifS, w_nm, w_sub, w_asg, w_for, w_aug, w_slice, w_oNone, w_oSome, wp_some, List.getElem?_cons_zero, List.getElem?_cons_succ, List.set_cons_zero, List.set_cons_succ, Option.some.injEq, exists_eq_left', D.obj.injEq, D.bl.injEq, D.int.injEq, D.str.injEq, D.tup.injEq, D.lst.injEq, List.cons.injEq, List.append_nil, List.nil_append, List.cons_append, List.length_cons, List.length_nil, Nat.reduceAdd, Nat.reduceLeDiff, Nat.zero_le, true_and, and_true, and_self, if_true, Bool.false_eq_true, if_false, Bool.xor_self, Bool.xor_false, Bool.xor_true, Bool.false_xor, Bool.true_xor, Bool.not_true, Bool.not_false]
    exact place_step hL1 okN hN hb hb4 g fun f7 f8 => E2nx _ _ ⟨_, _, _, rfl⟩
  · rintro env S' ⟨f6, f7, f8, rfl⟩
    exact k _ _ _ _ _ _ _ _
theorem law_true (ns : List Int) (h : ns.length ≤ 63) : ∃ S', F_law [.scr (ns.map .int)] [] = some (.bl true, S') := by
  have key : Wp (F_law [.scr (ns.map .int)] []) fun d S' => d = .bl true := by
    unfold F_law
    rw [w_run]
    unfold B_law
    generalize hL2 : L_law_2 = L2
    have s9 : startD 9 [.scr (ns.map .int)] = [some (.scr (ns.map .int)), none, none, none, none, none, none, none, none] := by simp
    rw [s9]
    have len : ∀ S : Sto, gLen [.scr (ns.map .int)] S = some (.int ((ns.length : Nat) : Int), S) := fun S => by simp
    obtain ⟨n, hn, er⟩ : ∃ n : Nat, n ≤ 6 ∧ ∀ S : Sto, gMin2 [.int 6, .int ((ns.length : Nat) : Int)] S = some (.int (if (ns.length : Int) < 6 then (ns.length : Int) else 6), S) ∧ gMax2 [.int 2, .int (if (ns.length : Int) < 6 then (ns.length : Int) else 6)] S = some (.int (n : Int), S) := by
      by_cases a : (ns.length : Int) < 6
      · by_cases c : (ns.length : Int) > 2
        · exact ⟨ns.length, by omega, fun S => ⟨by simp, by simp [a, c]⟩⟩
        · exact ⟨2, by omega, fun S => ⟨by simp, by simp [a, c]⟩⟩
      · exact ⟨6, by omega, fun S => ⟨by simp, by simp [a]⟩⟩
    simp only [w_tp2, w_tp3, w_enumZ, w_disp1, w_par2, w_var, w_C, w_op, w_un, w_test, w_truth, w_andT, w_orT, w_notT, w_andV, w_orV, w_notV, w_if, w_anil, w_acons, w_tup, w_lst, w_lstN, w_call, w_callN, w_B, w_M, w_M0, w_rng1, w_lc, w_yes, w_dnew, w_next, w_no, w_brk, w_cnt, w_retN, w_seq, w_drop, w_ret, w_ifS, w_nm, w_sub, w_asg, w_for, w_aug, w_slice, w_oNone, w_oSome, wp_some, List.getElem?_cons_zero, List.getElem?_cons_succ, List.set_cons_zero, List.set_cons_succ, Option.some.injEq, exists_eq_left', D.obj.injEq, D.bl.injEq, D.int.injEq, D.str.injEq, D.tup.injEq, D.lst.injEq, List.cons.injEq, List.append_nil, List.nil_append, List.cons_append, List.length_cons, List.length_nil, Nat.reduceAdd, Nat.reduceLeDiff, Nat.zero_le, true_and, and_true, and_self, if_true, Bool.false_eq_true, if_false, Bool.xor_self, Bool.xor_false, Bool.xor_true, Bool.false_xor, Bool.true_xor, Bool.not_true, Bool.not_false]
    rw [len]
    simp only [w_tp2, w_tp3, w_enumZ, w_disp1, w_par2, w_var, w_C, w_op, w_un, w_test, w_truth, w_andT, w_orT, w_notT, w_andV, w_orV, w_notV, w_if, w_anil, w_acons, w_tup, w_lst, w_lstN, w_call, w_callN, w_B, w_M, w_M0, w_rng1, w_lc, w_yes, w_dnew, w_next, w_no, w_brk, w_cnt, w_retN, w_seq, w_drop, w_ret, w_ifS, w_nm, w_sub, w_asg, w_for, w_aug, w_slice, w_oNone, w_oSome, wp_some, List.getElem?_cons_zero, List.getElem?_cons_succ, List.set_cons_zero, List.set_cons_succ, Option.some.injEq, exists_eq_left', D.obj.injEq, D.bl.injEq, D.int.injEq, D.str.injEq, D.tup.injEq, D.lst.injEq, List.cons.injEq, List.append_nil, List.nil_append, List.cons_append, List.length_cons, List.length_nil, Nat.reduceAdd, Nat.reduceLeDiff, Nat.zero_le, true_and, and_true, and_self, if_true, Bool.false_eq_true, if_false, Bool.xor_self, Bool.xor_false, Bool.xor_true, Bool.false_xor, Bool.true_xor, Bool.not_true, Bool.not_false]
    rw [(er _).1]
    simp only [w_tp2, w_tp3, w_enumZ, w_disp1, w_par2, w_var, w_C, w_op, w_un, w_test, w_truth, w_andT, w_orT, w_notT, w_andV, w_orV, w_notV, w_if, w_anil, w_acons, w_tup, w_lst, w_lstN, w_call, w_callN, w_B, w_M, w_M0, w_rng1, w_lc, w_yes, w_dnew, w_next, w_no, w_brk, w_cnt, w_retN, w_seq, w_drop, w_ret, w_ifS, w_nm, w_sub, w_asg, w_for, w_aug, w_slice, w_oNone, w_oSome, wp_some, List.getElem?_cons_zero, List.getElem?_cons_succ, List.set_cons_zero, List.set_cons_succ, Option.some.injEq, exists_eq_left', D.obj.injEq, D.bl.injEq, D.int.injEq, D.str.injEq, D.tup.injEq, D.lst.injEq, List.cons.injEq, List.append_nil, List.nil_append, List.cons_append, List.length_cons, List.length_nil, Nat.reduceAdd, Nat.reduceLeDiff, Nat.zero_le, true_and, and_true, and_self, if_true, Bool.false_eq_true, if_false, Bool.xor_self, Bool.xor_false, Bool.xor_true, Bool.false_xor, Bool.true_xor, Bool.not_true, Bool.not_false]
    rw [(er _).2]
    simp only [w_tp2, w_tp3, w_enumZ, w_disp1, w_par2, w_var, w_C, w_op, w_un, w_test, w_truth, w_andT, w_orT, w_notT, w_andV, w_orV, w_notV, w_if, w_anil, w_acons, w_tup, w_lst, w_lstN, w_call, w_callN, w_B, w_M, w_M0, w_rng1, w_lc, w_yes, w_dnew, w_next, w_no, w_brk, w_cnt, w_retN, w_seq, w_drop, w_ret, w_ifS, w_nm, w_sub, w_asg, w_for, w_aug, w_slice, w_oNone, w_oSome, wp_some, List.getElem?_cons_zero, List.getElem?_cons_succ, List.set_cons_zero, List.set_cons_succ, Option.some.injEq, exists_eq_left', D.obj.injEq, D.bl.injEq, D.int.injEq, D.str.injEq, D.tup.injEq, D.lst.injEq, List.cons.injEq, List.append_nil, List.nil_append, List.cons_append, List.length_cons, List.length_nil, Nat.reduceAdd, Nat.reduceLeDiff, Nat.zero_le, true_and, and_true, and_self, if_true, Bool.false_eq_true, if_false, Bool.xor_self, Bool.xor_false, Bool.xor_true, Bool.false_xor, Bool.true_xor, Bool.not_true, Bool.not_false]
    refine ⟨by omega, ?_⟩
    rw [Int.toNat_natCast]
    refine w_for' (fun m env S' => ∃ e1 e2 e3 e4 e5 e6 e7 e8, env = [some (.scr (ns.map .int)), e1, e2, e3, e4, e5, e6, e7, e8]) ⟨_, _, _, _, _, _, _, _, rfl⟩ ?_ ?_
    · rintro m d env S' hd ⟨e1, e2, e3, e4, e5, e6, e7, e8, rfl⟩ E2 E2nx _ _ _
      obtain ⟨hm, rfl⟩ := rng_get hd
      simp only [w_tp2, w_tp3, w_enumZ, w_disp1, w_par2, w_var, w_C, w_op, w_un, w_test, w_truth, w_andT, w_orT, w_notT, w_andV, w_orV, w_notV, w_if, w_anil, w_acons, w_tup, w_lst, w_lstN, w_call, w_callN, w_B, w_M, w_M0, w_rng1, w_lc, w_yes, w_dnew, w_next, w_no, w_brk, w_cnt, w_retN, w_seq, w_drop, w_ret, w_ifS, w_nm, w_sub, w_asg, w_for, w_aug, w_slice, w_oNone, w_oSome, wp_some, List.getElem?_cons_zero, List.getElem?_cons_succ, List.set_cons_zero, List.set_cons_succ, Option.some.injEq, exists_eq_left', D.obj.injEq, D.bl.injEq, D.int.injEq, D.str.injEq, D.tup.injEq, D.lst.injEq, List.cons.injEq, List.append_nil, List.nil_append, List.cons_append, List.length_cons, List.length_nil, Nat.reduceAdd, Nat.reduceLeDiff, Nat.zero_le, true_and, and_true, and_self, if_true, Bool.false_eq_true, if_false, Bool.xor_self, Bool.xor_false, Bool.xor_true, Bool.false_xor, Bool.true_xor, Bool.not_true, Bool.not_false]
      exact cell_step hL2 (by omega) fun S2 f2 f3 f4 f5 f6 f7 f8 => E2nx _ _ ⟨_, _, _, _, _, _, _, _, rfl⟩
    · rintro env S' ⟨e1, e2, e3, e4, e5, e6, e7, e8, rfl⟩
      simp only [w_tp2, w_tp3, w_enumZ, w_disp1, w_par2, w_var, w_C, w_op, w_un, w_test, w_truth, w_andT, w_orT, w_notT, w_andV, w_orV, w_notV, w_if, w_anil, w_acons, w_tup, w_lst, w_lstN, w_call, w_callN, w_B, w_M, w_M0, w_rng1, w_lc, w_yes, w_dnew, w_next, w_no, w_brk, w_cnt, w_retN, w_seq, w_drop, w_ret, w_ifS, w_nm, w_sub, w_asg, w_for, w_aug, w_slice, w_oNone, w_oSome, wp_some, List.getElem?_cons_zero, List.getElem?_cons_succ, List.set_cons_zero, List.set_cons_succ, Option.some.injEq, exists_eq_left', D.obj.injEq, D.bl.injEq, D.int.injEq, D.str.injEq, D.tup.injEq, D.lst.injEq, List.cons.injEq, List.append_nil, List.nil_append, List.cons_append, List.length_cons, List.length_nil, Nat.reduceAdd, Nat.reduceLeDiff, Nat.zero_le, true_and, and_true, and_self, if_true, Bool.false_eq_true, if_false, Bool.xor_self, Bool.xor_false, Bool.xor_true, Bool.false_xor, Bool.true_xor, Bool.not_true, Bool.not_false]
      rw [gc_of ⟨Nat.zero_le _, fun i hi => by cases hi⟩ (by rfl), wp_some]
  obtain ⟨d, S', e, rfl⟩ := key
  exact ⟨S', e⟩
end J

set_option autoImplicit false
namespace J
open PySem PySem.Spec PyProof.Rows L2
theorem all_mk {P : Program} {w : World} {K : PySem.W.Frag} {h : Heap} {mg : Str → Option Value} {fa pSILENT pMUTE pRECEIVING pPASSING pTOLD_AT fd0 fd1 fd2 fd3 fd4 fd5 fd6 fd7 fd8 fd9 fd10 fd11 fd12 fd13 fd14 fd15 fd16 fd17 fd18 fd19 fd22 fLw fd20 fd21 Dd20 Dd21 : Addr} (X : K.In h) (G : h.Ns mainGlobals mg) (hfa : mg "law" = some (.ref fa))
    {odd0 and0 odd1 and1 odd2 and2 odd3 and3 odd4 and4 odd5 and5 odd6 and6 odd7 and7 odd8 and8 odd9 and9 odd10 and10 odd11 and11 odd12 and12 odd13 and13 odd14 and14 odd15 and15 odd16 and16 odd17 and17 odd18 and18 odd19 and19 odd22 and22 odLw anLw odd20 and20 odd21 and21 : Option Addr} {sld0 sld1 sld2 sld3 sld4 sld5 sld6 sld7 sld8 sld9 sld10 sld11 sld12 sld13 sld14 sld15 sld16 sld17 sld18 sld19 sld22 slLw sld20 sld21 : Array (Option Value)} {ocd0 kVd0 dcd0 pmd0 cdd0 ctd0 ocd1 kVd1 dcd1 pmd1 cdd1 ctd1 ocd2 kVd2 dcd2 pmd2 cdd2 ctd2 ocd3 kVd3 dcd3 pmd3 cdd3 ctd3 ocd4 kVd4 dcd4 pmd4 cdd4 ctd4 ocd5 kVd5 dcd5 pmd5 cdd5 ctd5 ocd6 kVd6 dcd6 pmd6 cdd6 ctd6 ocd7 kVd7 dcd7 pmd7 cdd7 ctd7 ocd8 kVd8 dcd8 pmd8 cdd8 ctd8 ocd9 kVd9 dcd9 pmd9 cdd9 ctd9 ocd10 kVd10 dcd10 pmd10 cdd10 ctd10 ocd11 kVd11 dcd11 pmd11 cdd11 ctd11 ocd12 kVd12 dcd12 pmd12 cdd12 ctd12 ocd13 kVd13 dcd13 pmd13 cdd13 ctd13 ocd14 kVd14 dcd14 pmd14 cdd14 ctd14 ocd15 kVd15 dcd15 pmd15 cdd15 ctd15 ocd16 kVd16 dcd16 pmd16 cdd16 ctd16 ocd17 kVd17 dcd17 pmd17 cdd17 ctd17 ocd18 kVd18 dcd18 pmd18 cdd18 ctd18 ocd19 kVd19 dcd19 pmd19 cdd19 ctd19 ocd22 kVd22 dcd22 pmd22 cdd22 ctd22 ocLw kVLw dcLw pmLw cdLw ctLw ocd20 dcd20 pmd20 cdd20 ctd20 uud20 ocd21 dcd21 pmd21 cdd21 ctd21 uud21  : Value} {oSILENT oMUTE oRECEIVING oPASSING : Obj} {iSILENT iMUTE iRECEIVING iPASSING : Array Value} {nSILENT nMUTE nRECEIVING nPASSING : Nat}
    (ad0 : PySem.W.nsIn K mainGlobals "_law_bag" = some (some (.ref fd0))) (ld0 : K.lookup fd0 = some ⟨ocd0, odd0, .func (PySem.W.fnOf "_law_bag" "_law_bag" (defArgs s__law_bag) (defBody s__law_bag) (defScope s__law_bag) .none kVd0 dcd0 pmd0 and0 cdd0 ctd0), sld0⟩) (cd0 : PySem.W.codeIn K cdd0 "_law_bag" = true) (kd0 : PySem.W.keepIn K (.ref fd0) = true)
    (ad1 : PySem.W.nsIn K mainGlobals "_law_take" = some (some (.ref fd1))) (ld1 : K.lookup fd1 = some ⟨ocd1, odd1, .func (PySem.W.fnOf "_law_take" "_law_take" (defArgs s__law_take) (defBody s__law_take) (defScope s__law_take) .none kVd1 dcd1 pmd1 and1 cdd1 ctd1), sld1⟩) (cd1 : PySem.W.codeIn K cdd1 "_law_take" = true) (kd1 : PySem.W.keepIn K (.ref fd1) = true)
    (ad2 : PySem.W.nsIn K mainGlobals "_law_operand" = some (some (.ref fd2))) (ld2 : K.lookup fd2 = some ⟨ocd2, odd2, .func (PySem.W.fnOf "_law_operand" "_law_operand" (defArgs s__law_operand) (defBody s__law_operand) (defScope s__law_operand) .none kVd2 dcd2 pmd2 and2 cdd2 ctd2), sld2⟩) (cd2 : PySem.W.codeIn K cdd2 "_law_operand" = true) (kd2 : PySem.W.keepIn K (.ref fd2) = true)
    (ad3 : PySem.W.nsIn K mainGlobals "_law_expression" = some (some (.ref fd3))) (ld3 : K.lookup fd3 = some ⟨ocd3, odd3, .func (PySem.W.fnOf "_law_expression" "_law_expression" (defArgs s__law_expression) (defBody s__law_expression) (defScope s__law_expression) .none kVd3 dcd3 pmd3 and3 cdd3 ctd3), sld3⟩) (cd3 : PySem.W.codeIn K cdd3 "_law_expression" = true) (kd3 : PySem.W.keepIn K (.ref fd3) = true)
    (ad4 : PySem.W.nsIn K mainGlobals "_law_row" = some (some (.ref fd4))) (ld4 : K.lookup fd4 = some ⟨ocd4, odd4, .func (PySem.W.fnOf "_law_row" "_law_row" (defArgs s__law_row) (defBody s__law_row) (defScope s__law_row) .none kVd4 dcd4 pmd4 and4 cdd4 ctd4), sld4⟩) (cd4 : PySem.W.codeIn K cdd4 "_law_row" = true) (kd4 : PySem.W.keepIn K (.ref fd4) = true)
    (ad5 : PySem.W.nsIn K mainGlobals "_law_text" = some (some (.ref fd5))) (ld5 : K.lookup fd5 = some ⟨ocd5, odd5, .func (PySem.W.fnOf "_law_text" "_law_text" (defArgs s__law_text) (defBody s__law_text) (defScope s__law_text) .none kVd5 dcd5 pmd5 and5 cdd5 ctd5), sld5⟩) (cd5 : PySem.W.codeIn K cdd5 "_law_text" = true) (kd5 : PySem.W.keepIn K (.ref fd5) = true)
    (ad6 : PySem.W.nsIn K mainGlobals "_law_names" = some (some (.ref fd6))) (ld6 : K.lookup fd6 = some ⟨ocd6, odd6, .func (PySem.W.fnOf "_law_names" "_law_names" (defArgs s__law_names) (defBody s__law_names) (defScope s__law_names) .none kVd6 dcd6 pmd6 and6 cdd6 ctd6), sld6⟩) (cd6 : PySem.W.codeIn K cdd6 "_law_names" = true) (kd6 : PySem.W.keepIn K (.ref fd6) = true)
    (ad7 : PySem.W.nsIn K mainGlobals "_law_stands" = some (some (.ref fd7))) (ld7 : K.lookup fd7 = some ⟨ocd7, odd7, .func (PySem.W.fnOf "_law_stands" "_law_stands" (defArgs s__law_stands) (defBody s__law_stands) (defScope s__law_stands) .none kVd7 dcd7 pmd7 and7 cdd7 ctd7), sld7⟩) (cd7 : PySem.W.codeIn K cdd7 "_law_stands" = true) (kd7 : PySem.W.keepIn K (.ref fd7) = true)
    (ad8 : PySem.W.nsIn K mainGlobals "_law_value" = some (some (.ref fd8))) (ld8 : K.lookup fd8 = some ⟨ocd8, odd8, .func (PySem.W.fnOf "_law_value" "_law_value" (defArgs s__law_value) (defBody s__law_value) (defScope s__law_value) .none kVd8 dcd8 pmd8 and8 cdd8 ctd8), sld8⟩) (cd8 : PySem.W.codeIn K cdd8 "_law_value" = true) (kd8 : PySem.W.keepIn K (.ref fd8) = true)
    (ad9 : PySem.W.nsIn K mainGlobals "_law_deed" = some (some (.ref fd9))) (ld9 : K.lookup fd9 = some ⟨ocd9, odd9, .func (PySem.W.fnOf "_law_deed" "_law_deed" (defArgs s__law_deed) (defBody s__law_deed) (defScope s__law_deed) .none kVd9 dcd9 pmd9 and9 cdd9 ctd9), sld9⟩) (cd9 : PySem.W.codeIn K cdd9 "_law_deed" = true) (kd9 : PySem.W.keepIn K (.ref fd9) = true)
    (ad10 : PySem.W.nsIn K mainGlobals "is_silent" = some (some (.ref fd10))) (ld10 : K.lookup fd10 = some ⟨ocd10, odd10, .func (PySem.W.fnOf "is_silent" "is_silent" (defArgs s_is_silent) (defBody s_is_silent) (defScope s_is_silent) .none kVd10 dcd10 pmd10 and10 cdd10 ctd10), sld10⟩) (cd10 : PySem.W.codeIn K cdd10 "is_silent" = true) (kd10 : PySem.W.keepIn K (.ref fd10) = true)
    (ad11 : PySem.W.nsIn K mainGlobals "is_integer" = some (some (.ref fd11))) (ld11 : K.lookup fd11 = some ⟨ocd11, odd11, .func (PySem.W.fnOf "is_integer" "is_integer" (defArgs s_is_integer) (defBody s_is_integer) (defScope s_is_integer) .none kVd11 dcd11 pmd11 and11 cdd11 ctd11), sld11⟩) (cd11 : PySem.W.codeIn K cdd11 "is_integer" = true) (kd11 : PySem.W.keepIn K (.ref fd11) = true)
    (ad12 : PySem.W.nsIn K mainGlobals "is_below" = some (some (.ref fd12))) (ld12 : K.lookup fd12 = some ⟨ocd12, odd12, .func (PySem.W.fnOf "is_below" "is_below" (defArgs s_is_below) (defBody s_is_below) (defScope s_is_below) .none kVd12 dcd12 pmd12 and12 cdd12 ctd12), sld12⟩) (cd12 : PySem.W.codeIn K cdd12 "is_below" = true) (kd12 : PySem.W.keepIn K (.ref fd12) = true)
    (ad13 : PySem.W.nsIn K mainGlobals "is_stand" = some (some (.ref fd13))) (ld13 : K.lookup fd13 = some ⟨ocd13, odd13, .func (PySem.W.fnOf "is_stand" "is_stand" (defArgs s_is_stand) (defBody s_is_stand) (defScope s_is_stand) .none kVd13 dcd13 pmd13 and13 cdd13 ctd13), sld13⟩) (cd13 : PySem.W.codeIn K cdd13 "is_stand" = true) (kd13 : PySem.W.keepIn K (.ref fd13) = true)
    (ad14 : PySem.W.nsIn K mainGlobals "check_stand" = some (some (.ref fd14))) (ld14 : K.lookup fd14 = some ⟨ocd14, odd14, .func (PySem.W.fnOf "check_stand" "check_stand" (defArgs s_check_stand) (defBody s_check_stand) (defScope s_check_stand) .none kVd14 dcd14 pmd14 and14 cdd14 ctd14), sld14⟩) (cd14 : PySem.W.codeIn K cdd14 "check_stand" = true) (kd14 : PySem.W.keepIn K (.ref fd14) = true)
    (ad15 : PySem.W.nsIn K mainGlobals "row_deed" = some (some (.ref fd15))) (ld15 : K.lookup fd15 = some ⟨ocd15, odd15, .func (PySem.W.fnOf "row_deed" "row_deed" (defArgs s_row_deed) (defBody s_row_deed) (defScope s_row_deed) .none kVd15 dcd15 pmd15 and15 cdd15 ctd15), sld15⟩) (cd15 : PySem.W.codeIn K cdd15 "row_deed" = true) (kd15 : PySem.W.keepIn K (.ref fd15) = true)
    (ad16 : PySem.W.nsIn K mainGlobals "combine" = some (some (.ref fd16))) (ld16 : K.lookup fd16 = some ⟨ocd16, odd16, .func (PySem.W.fnOf "combine" "combine" (defArgs s_combine) (defBody s_combine) (defScope s_combine) .none kVd16 dcd16 pmd16 and16 cdd16 ctd16), sld16⟩) (cd16 : PySem.W.codeIn K cdd16 "combine" = true) (kd16 : PySem.W.keepIn K (.ref fd16) = true)
    (ad17 : PySem.W.nsIn K mainGlobals "value_of" = some (some (.ref fd17))) (ld17 : K.lookup fd17 = some ⟨ocd17, odd17, .func (PySem.W.fnOf "value_of" "value_of" (defArgs s_value_of) (defBody s_value_of) (defScope s_value_of) .none kVd17 dcd17 pmd17 and17 cdd17 ctd17), sld17⟩) (cd17 : PySem.W.codeIn K cdd17 "value_of" = true) (kd17 : PySem.W.keepIn K (.ref fd17) = true)
    (ad18 : PySem.W.nsIn K mainGlobals "told_expression" = some (some (.ref fd18))) (ld18 : K.lookup fd18 = some ⟨ocd18, odd18, .func (PySem.W.fnOf "told_expression" "told_expression" (defArgs s_told_expression) (defBody s_told_expression) (defScope s_told_expression) .none kVd18 dcd18 pmd18 and18 cdd18 ctd18), sld18⟩) (cd18 : PySem.W.codeIn K cdd18 "told_expression" = true) (kd18 : PySem.W.keepIn K (.ref fd18) = true)
    (ad19 : PySem.W.nsIn K mainGlobals "deed_at" = some (some (.ref fd19))) (ld19 : K.lookup fd19 = some ⟨ocd19, odd19, .func (PySem.W.fnOf "deed_at" "deed_at" (defArgs s_deed_at) (defBody s_deed_at) (defScope s_deed_at) .none kVd19 dcd19 pmd19 and19 cdd19 ctd19), sld19⟩) (cd19 : PySem.W.codeIn K cdd19 "deed_at" = true) (kd19 : PySem.W.keepIn K (.ref fd19) = true)
    (ad22 : PySem.W.nsIn K mainGlobals "_law_count" = some (some (.ref fd22))) (ld22 : K.lookup fd22 = some ⟨ocd22, odd22, .func (PySem.W.fnOf "_law_count" "_law_count" (defArgs s__law_count) (defBody s__law_count) (defScope s__law_count) .none kVd22 dcd22 pmd22 and22 cdd22 ctd22), sld22⟩) (cd22 : PySem.W.codeIn K cdd22 "_law_count" = true) (kd22 : PySem.W.keepIn K (.ref fd22) = true)
    (aLw : PySem.W.nsIn K mainGlobals "law" = some (some (.ref fLw))) (lLw : K.lookup fLw = some ⟨ocLw, odLw, .func (PySem.W.fnOf "law" "law" (defArgs s_law) (defBody s_law) (defScope s_law) .none kVLw dcLw pmLw anLw cdLw ctLw), slLw⟩) (cLw : PySem.W.codeIn K cdLw "law" = true) (kLw : PySem.W.keepIn K (.ref fLw) = true)
    (ad20 : PySem.W.nsIn K mainGlobals "deed_of" = some (some (.ref fd20))) (ld20 : K.lookup fd20 = some ⟨ocd20, odd20, .func (PySem.W.fnOf "deed_of" "deed_of" (defArgs s_deed_of) (defBody s_deed_of) (defScope s_deed_of) .none (.ref Dd20) dcd20 pmd20 and20 cdd20 ctd20), sld20⟩) (cd20 : PySem.W.codeIn K cdd20 "deed_of" = true) (kd20 : PySem.W.keepIn K (.ref fd20) = true) (vd20 : PySem.W.nsIn K Dd20 "base" = some (some uud20)) (wd20 : RelV (.int 3) uud20)
    (ad21 : PySem.W.nsIn K mainGlobals "branch_count" = some (some (.ref fd21))) (ld21 : K.lookup fd21 = some ⟨ocd21, odd21, .func (PySem.W.fnOf "branch_count" "branch_count" (defArgs s_branch_count) (defBody s_branch_count) (defScope s_branch_count) .none (.ref Dd21) dcd21 pmd21 and21 cdd21 ctd21), sld21⟩) (cd21 : PySem.W.codeIn K cdd21 "branch_count" = true) (kd21 : PySem.W.keepIn K (.ref fd21) = true) (vd21 : PySem.W.nsIn K Dd21 "base" = some (some uud21)) (wd21 : RelV (.int 3) uud21)
    (aSILENT : PySem.W.nsIn K mainGlobals "SILENT" = some (some (.ref pSILENT))) (lSILENT : K.lookup pSILENT = some oSILENT) (xSILENT : oSILENT.cls = .type "tuple") (ySILENT : oSILENT.data = .seq iSILENT nSILENT) (sSILENT : iSILENT.size ≤ sizeLine) (tSILENT : Vals [.str "set", .str "if", .str "go"] iSILENT.toList)
    (aMUTE : PySem.W.nsIn K mainGlobals "MUTE" = some (some (.ref pMUTE))) (lMUTE : K.lookup pMUTE = some oMUTE) (xMUTE : oMUTE.cls = .type "tuple") (yMUTE : oMUTE.data = .seq iMUTE nMUTE) (sMUTE : iMUTE.size ≤ sizeLine) (tMUTE : Vals [.int (-1), .int 0, .int 0] iMUTE.toList)
    (aRECEIVING : PySem.W.nsIn K mainGlobals "RECEIVING" = some (some (.ref pRECEIVING))) (lRECEIVING : K.lookup pRECEIVING = some oRECEIVING) (xRECEIVING : oRECEIVING.cls = .type "tuple") (yRECEIVING : oRECEIVING.data = .seq iRECEIVING nRECEIVING) (sRECEIVING : iRECEIVING.size ≤ sizeLine) (tRECEIVING : Vals [.str "ask", .str "read", .str "call"] iRECEIVING.toList)
    (aPASSING : PySem.W.nsIn K mainGlobals "PASSING" = some (some (.ref pPASSING))) (lPASSING : K.lookup pPASSING = some oPASSING) (xPASSING : oPASSING.cls = .type "tuple") (yPASSING : oPASSING.data = .seq iPASSING nPASSING) (sPASSING : iPASSING.size ≤ sizeLine) (tPASSING : Vals [.str "say", .str "write"] iPASSING.toList)
    {esTOLD_AT : Array DictEntry} {nsTOLD_AT : Nat} (aTOLD_AT : PySem.W.nsIn K mainGlobals "TOLD_AT" = some (some (.ref pTOLD_AT))) (lTOLD_AT : K.lookup pTOLD_AT = some ⟨.type "dict", none, .dict esTOLD_AT nsTOLD_AT, #[]⟩) (qTOLD_AT : PySem.W.KeysLit w.params esTOLD_AT.toList) (sTOLD_AT : (pTOLD_AT == sysModules) = false) (rTOLD_AT : EntR K esTOLD_AT.toList [("say", (.int 1)), ("write", (.int 2)), ("call", (.int 2)), ("end", (.int 1))])
    (z0 : PySem.W.nsIn K mainGlobals "len" = some none) (z1 : PySem.W.nsIn K mainGlobals "abs" = some none) (z2 : PySem.W.nsIn K mainGlobals "tuple" = some none) (z3 : PySem.W.nsIn K mainGlobals "range" = some none) (z4 : PySem.W.nsIn K mainGlobals "isinstance" = some none) (z5 : PySem.W.nsIn K mainGlobals "str" = some none) (z6 : PySem.W.nsIn K mainGlobals "int" = some none) (z7 : PySem.W.nsIn K mainGlobals "bool" = some none) (z8 : PySem.W.nsIn K mainGlobals "all" = some none) (z9 : PySem.W.nsIn K mainGlobals "repr" = some none) (z10 : PySem.W.nsIn K mainGlobals "max" = some none) (z11 : PySem.W.nsIn K mainGlobals "min" = some none)
    {bs : Heap} {H : Hp} {t : Shared} {a : Addr} {ns : List Int} (hn : ns.length ≤ 63) (env0 : Env0 P w K mg bs callerA [] t H) (sq : SqL K H a (ns.map V.int)) :
    codeAny (model P w) callerA (.call (.ref fa) ⟨[.ref a], []⟩) (CR CX0 [] P w H t (fun v _ => v = .bl true) fun _ _ _ => False) t := by
  have e := hfa.symm.trans (PySem.W.mg_of X G aLw)
  cases e
  have Fd0 := fun_mk (st := s__law_bag) ld0 cd0 kd0
  have Fd1 := fun_mk (st := s__law_take) ld1 cd1 kd1
  have Fd2 := fun_mk (st := s__law_operand) ld2 cd2 kd2
  have Fd3 := fun_mk (st := s__law_expression) ld3 cd3 kd3
  have Fd4 := fun_mk (st := s__law_row) ld4 cd4 kd4
  have Fd5 := fun_mk (st := s__law_text) ld5 cd5 kd5
  have Fd6 := fun_mk (st := s__law_names) ld6 cd6 kd6
  have Fd7 := fun_mk (st := s__law_stands) ld7 cd7 kd7
  have Fd8 := fun_mk (st := s__law_value) ld8 cd8 kd8
  have Fd9 := fun_mk (st := s__law_deed) ld9 cd9 kd9
  have Fd10 := fun_mk (st := s_is_silent) ld10 cd10 kd10
  have Fd11 := fun_mk (st := s_is_integer) ld11 cd11 kd11
  have Fd12 := fun_mk (st := s_is_below) ld12 cd12 kd12
  have Fd13 := fun_mk (st := s_is_stand) ld13 cd13 kd13
  have Fd14 := fun_mk (st := s_check_stand) ld14 cd14 kd14
  have Fd15 := fun_mk (st := s_row_deed) ld15 cd15 kd15
  have Fd16 := fun_mk (st := s_combine) ld16 cd16 kd16
  have Fd17 := fun_mk (st := s_value_of) ld17 cd17 kd17
  have Fd18 := fun_mk (st := s_told_expression) ld18 cd18 kd18
  have Fd19 := fun_mk (st := s_deed_at) ld19 cd19 kd19
  have Fd22 := fun_mk (st := s__law_count) ld22 cd22 kd22
  have FLw := fun_mk (st := s_law) lLw cLw kLw
  have m_len := PySem.W.mg_none_of X G z0
  have m_abs := PySem.W.mg_none_of X G z1
  have m_tuple := PySem.W.mg_none_of X G z2
  have m_range := PySem.W.mg_none_of X G z3
  have m_isinstance := PySem.W.mg_none_of X G z4
  have m_str := PySem.W.mg_none_of X G z5
  have m_int := PySem.W.mg_none_of X G z6
  have m_bool := PySem.W.mg_none_of X G z7
  have m_all := PySem.W.mg_none_of X G z8
  have m_repr := PySem.W.mg_none_of X G z9
  have m_max := PySem.W.mg_none_of X G z10
  have m_min := PySem.W.mg_none_of X G z11
  have c_SILENT : OkC K mg "SILENT" (.tup [(.str "set"), (.str "if"), (.str "go")]) := ⟨.ref pSILENT, _, PySem.W.mg_of X G aSILENT, rfl, fun H μ => .tup (.inr ⟨oSILENT, iSILENT, nSILENT, lSILENT, xSILENT, ySILENT, sSILENT, tSILENT⟩) (.cons (.str "set") (.cons (.str "if") (.cons (.str "go") .nil)))⟩
  have c_MUTE : OkC K mg "MUTE" (.tup [(.int (-1)), (.int 0), (.int 0)]) := ⟨.ref pMUTE, _, PySem.W.mg_of X G aMUTE, rfl, fun H μ => .tup (.inr ⟨oMUTE, iMUTE, nMUTE, lMUTE, xMUTE, yMUTE, sMUTE, tMUTE⟩) (.cons (.int (-1)) (.cons (.int 0) (.cons (.int 0) .nil)))⟩
  have c_RECEIVING : OkC K mg "RECEIVING" (.tup [(.str "ask"), (.str "read"), (.str "call")]) := ⟨.ref pRECEIVING, _, PySem.W.mg_of X G aRECEIVING, rfl, fun H μ => .tup (.inr ⟨oRECEIVING, iRECEIVING, nRECEIVING, lRECEIVING, xRECEIVING, yRECEIVING, sRECEIVING, tRECEIVING⟩) (.cons (.str "ask") (.cons (.str "read") (.cons (.str "call") .nil)))⟩
  have c_PASSING : OkC K mg "PASSING" (.tup [(.str "say"), (.str "write")]) := ⟨.ref pPASSING, _, PySem.W.mg_of X G aPASSING, rfl, fun H μ => .tup (.inr ⟨oPASSING, iPASSING, nPASSING, lPASSING, xPASSING, yPASSING, sPASSING, tPASSING⟩) (.cons (.str "say") (.cons (.str "write") .nil))⟩
  have d_TOLD_AT : OkD K w mg "TOLD_AT" [("say", (.int 1)), ("write", (.int 2)), ("call", (.int 2)), ("end", (.int 1))] := ⟨⟨pTOLD_AT, esTOLD_AT, nsTOLD_AT, PySem.W.mg_of X G aTOLD_AT, lTOLD_AT, qTOLD_AT, sTOLD_AT, rTOLD_AT⟩⟩
  have dn__law_bag : DnF K mg "_law_bag" s__law_bag ["_law_script", "_law_at"] := ⟨_, _, Fd0, Fd0.binds (ps := ["_law_script", "_law_at"]) fun _ _ _ _ _ _ us hl => match us, hl with | [_, _], _ => rfl, PySem.W.mg_of X G ad0⟩
  have dn__law_take : DnF K mg "_law_take" s__law_take ["_law_bag_here", "_law_many"] := ⟨_, _, Fd1, Fd1.binds (ps := ["_law_bag_here", "_law_many"]) fun _ _ _ _ _ _ us hl => match us, hl with | [_, _], _ => rfl, PySem.W.mg_of X G ad1⟩
  have dn__law_operand : DnF K mg "_law_operand" s__law_operand ["_law_bag_here", "_law_radix"] := ⟨_, _, Fd2, Fd2.binds (ps := ["_law_bag_here", "_law_radix"]) fun _ _ _ _ _ _ us hl => match us, hl with | [_, _], _ => rfl, PySem.W.mg_of X G ad2⟩
  have dn__law_expression : DnF K mg "_law_expression" s__law_expression ["_law_bag_here", "_law_radix"] := ⟨_, _, Fd3, Fd3.binds (ps := ["_law_bag_here", "_law_radix"]) fun _ _ _ _ _ _ us hl => match us, hl with | [_, _], _ => rfl, PySem.W.mg_of X G ad3⟩
  have dn__law_row : DnF K mg "_law_row" s__law_row ["_law_bag_here", "_law_radix", "_law_many", "_law_names_here"] := ⟨_, _, Fd4, Fd4.binds (ps := ["_law_bag_here", "_law_radix", "_law_many", "_law_names_here"]) fun _ _ _ _ _ _ us hl => match us, hl with | [_, _, _, _], _ => rfl, PySem.W.mg_of X G ad4⟩
  have dn__law_text : DnF K mg "_law_text" s__law_text ["_law_bag_here", "_law_radix", "_law_most", "_law_names_here"] := ⟨_, _, Fd5, Fd5.binds (ps := ["_law_bag_here", "_law_radix", "_law_most", "_law_names_here"]) fun _ _ _ _ _ _ us hl => match us, hl with | [_, _, _, _], _ => rfl, PySem.W.mg_of X G ad5⟩
  have dn__law_names : DnF K mg "_law_names" s__law_names ["_law_bag_here"] := ⟨_, _, Fd6, Fd6.binds (ps := ["_law_bag_here"]) fun _ _ _ _ _ _ us hl => match us, hl with | [_], _ => rfl, PySem.W.mg_of X G ad6⟩
  have dn__law_stands : DnF K mg "_law_stands" s__law_stands ["_law_rows", "_law_radix"] := ⟨_, _, Fd7, Fd7.binds (ps := ["_law_rows", "_law_radix"]) fun _ _ _ _ _ _ us hl => match us, hl with | [_, _], _ => rfl, PySem.W.mg_of X G ad7⟩
  have dn__law_value : DnF K mg "_law_value" s__law_value ["_law_one", "_law_x", "_law_y", "_law_radix"] := ⟨_, _, Fd8, Fd8.binds (ps := ["_law_one", "_law_x", "_law_y", "_law_radix"]) fun _ _ _ _ _ _ us hl => match us, hl with | [_, _, _, _], _ => rfl, PySem.W.mg_of X G ad8⟩
  have dn__law_deed : DnF K mg "_law_deed" s__law_deed ["_law_rows", "_law_stand", "_law_radix"] := ⟨_, _, Fd9, Fd9.binds (ps := ["_law_rows", "_law_stand", "_law_radix"]) fun _ _ _ _ _ _ us hl => match us, hl with | [_, _, _], _ => rfl, PySem.W.mg_of X G ad9⟩
  have dn_is_silent : DnF K mg "is_silent" s_is_silent ["text", "row"] := ⟨_, _, Fd10, Fd10.binds (ps := ["text", "row"]) fun _ _ _ _ _ _ us hl => match us, hl with | [_, _], _ => rfl, PySem.W.mg_of X G ad10⟩
  have dn_is_integer : DnF K mg "is_integer" s_is_integer ["thing"] := ⟨_, _, Fd11, Fd11.binds (ps := ["thing"]) fun _ _ _ _ _ _ us hl => match us, hl with | [_], _ => rfl, PySem.W.mg_of X G ad11⟩
  have dn_is_below : DnF K mg "is_below" s_is_below ["thing", "top"] := ⟨_, _, Fd12, Fd12.binds (ps := ["thing", "top"]) fun _ _ _ _ _ _ us hl => match us, hl with | [_, _], _ => rfl, PySem.W.mg_of X G ad12⟩
  have dn_is_stand : DnF K mg "is_stand" s_is_stand ["text", "thing", "base"] := ⟨_, _, Fd13, Fd13.binds (ps := ["text", "thing", "base"]) fun _ _ _ _ _ _ us hl => match us, hl with | [_, _, _], _ => rfl, PySem.W.mg_of X G ad13⟩
  have dn_check_stand : DnF K mg "check_stand" s_check_stand ["text", "thing", "base"] := ⟨_, _, Fd14, Fd14.binds (ps := ["text", "thing", "base"]) fun _ _ _ _ _ _ us hl => match us, hl with | [_, _, _], _ => rfl, PySem.W.mg_of X G ad14⟩
  have dn_row_deed : DnF K mg "row_deed" s_row_deed ["line", "value"] := ⟨_, _, Fd15, Fd15.binds (ps := ["line", "value"]) fun _ _ _ _ _ _ us hl => match us, hl with | [_, _], _ => rfl, PySem.W.mg_of X G ad15⟩
  have dn_combine : DnF K mg "combine" s_combine ["sign", "one", "other", "base"] := ⟨_, _, Fd16, Fd16.binds (ps := ["sign", "one", "other", "base"]) fun _ _ _ _ _ _ us hl => match us, hl with | [_, _, _, _], _ => rfl, PySem.W.mg_of X G ad16⟩
  have dn_value_of : DnF K mg "value_of" s_value_of ["expression", "point", "base"] := ⟨_, _, Fd17, Fd17.binds (ps := ["expression", "point", "base"]) fun _ _ _ _ _ _ us hl => match us, hl with | [_, _, _], _ => rfl, PySem.W.mg_of X G ad17⟩
  have dn_told_expression : DnF K mg "told_expression" s_told_expression ["line"] := ⟨_, _, Fd18, Fd18.binds (ps := ["line"]) fun _ _ _ _ _ _ us hl => match us, hl with | [_], _ => rfl, PySem.W.mg_of X G ad18⟩
  have dn_deed_at : DnF K mg "deed_at" s_deed_at ["text", "stand", "base"] := ⟨_, _, Fd19, Fd19.binds (ps := ["text", "stand", "base"]) fun _ _ _ _ _ _ us hl => match us, hl with | [_, _, _], _ => rfl, PySem.W.mg_of X G ad19⟩
  have dn__law_count : DnF K mg "_law_count" s__law_count ["_law_rows", "_law_stand", "_law_radix"] := ⟨_, _, Fd22, Fd22.binds (ps := ["_law_rows", "_law_stand", "_law_radix"]) fun _ _ _ _ _ _ us hl => match us, hl with | [_, _, _], _ => rfl, PySem.W.mg_of X G ad22⟩
  have Fkd20 : FunD K "deed_of" "deed_of" (defArgs s_deed_of) (defBody s_deed_of) (defScope s_deed_of) [] [("base", .int 3)] fd20 _ := ⟨⟨ocd20, odd20, .none, .ref Dd20, dcd20, pmd20, and20, cdd20, ctd20, sld20, rfl, ld20, cd20, .inl ⟨rfl, rfl⟩, .inr ⟨Dd20, rfl, fun q hq => by rw [List.mem_singleton.mp hq]; exact ⟨uud20, vd20, wd20⟩⟩⟩, kd20⟩
  have dn_deed_of : DnK K mg "deed_of" s_deed_of ["text", "stand", "base"] 2 := by
    refine ⟨_, _, fun_mk (st := s_deed_of) ld20 cd20 kd20, ⟨fun s us ws _ h1 h2 => ?_, fun r1 r2 => r1.append r2⟩, ?_, PySem.W.mg_of X G ad20⟩
    · match us, ws, h1, h2 with
      | [u0, u1], [w], _, _ => exact .of_eq rfl
    · refine Fkd20.binds0 (ps := ["text", "stand", "base"]) 2 (by simp) rfl fun D doc pm an cdv ct us ks h1 h2 => ?_
      match us, ks, h1, h2 with
      | [u0, u1], [v], _, _ => exact ⟨_, _, _, _, _, _, rfl, rfl, rfl⟩
  have Fkd21 : FunD K "branch_count" "branch_count" (defArgs s_branch_count) (defBody s_branch_count) (defScope s_branch_count) [] [("base", .int 3)] fd21 _ := ⟨⟨ocd21, odd21, .none, .ref Dd21, dcd21, pmd21, and21, cdd21, ctd21, sld21, rfl, ld21, cd21, .inl ⟨rfl, rfl⟩, .inr ⟨Dd21, rfl, fun q hq => by rw [List.mem_singleton.mp hq]; exact ⟨uud21, vd21, wd21⟩⟩⟩, kd21⟩
  have dn_branch_count : DnK K mg "branch_count" s_branch_count ["deed", "base"] 1 := by
    refine ⟨_, _, fun_mk (st := s_branch_count) ld21 cd21 kd21, ⟨fun s us ws _ h1 h2 => ?_, fun r1 r2 => r1.append r2⟩, ?_, PySem.W.mg_of X G ad21⟩
    · match us, ws, h1, h2 with
      | [u0], [w], _, _ => exact .of_eq rfl
    · refine Fkd21.binds0 (ps := ["deed", "base"]) 1 (by simp) rfl fun D doc pm an cdv ct us ks h1 h2 => ?_
      match us, ks, h1, h2 with
      | [u0], [v], _, _ => exact ⟨_, _, _, _, _, _, rfl, rfl, rfl⟩
  have h__law_bag := ok__law_bag (P := P) (w := w) (base := bs) dn__law_bag m_len m_abs
  have h__law_take := ok__law_take (P := P) (w := w) (base := bs) dn__law_take 
  have h__law_operand := ok__law_operand (P := P) (w := w) (base := bs) dn__law_operand h__law_take
  have h__law_expression := ok__law_expression (P := P) (w := w) (base := bs) dn__law_expression h__law_operand h__law_take
  have h__law_row := ok__law_row (P := P) (w := w) (base := bs) dn__law_row h__law_expression m_len h__law_take
  have h__law_text := ok__law_text (P := P) (w := w) (base := bs) dn__law_text h__law_take m_tuple m_range h__law_row
  have h__law_names := ok__law_names (P := P) (w := w) (base := bs) dn__law_names h__law_take m_range
  have h__law_stands := ok__law_stands (P := P) (w := w) (base := bs) dn__law_stands m_len m_range
  have h__law_value := ok__law_value (P := P) (w := w) (base := bs) dn__law_value m_isinstance m_str m_tuple
  have h__law_deed := ok__law_deed (P := P) (w := w) (base := bs) dn__law_deed m_len h__law_value
  have h_is_silent := ok_is_silent (P := P) (w := w) (base := bs) dn_is_silent m_len c_SILENT
  have h_is_integer := ok_is_integer (P := P) (w := w) (base := bs) dn_is_integer m_isinstance m_int m_bool
  have h_is_below := ok_is_below (P := P) (w := w) (base := bs) dn_is_below h_is_integer
  have h_is_stand := ok_is_stand (P := P) (w := w) (base := bs) dn_is_stand m_isinstance m_tuple m_len m_all h_is_integer c_MUTE h_is_below h_is_silent
  have h_check_stand := ok_check_stand (P := P) (w := w) (base := bs) dn_check_stand h_is_stand
  have h_row_deed := ok_row_deed (P := P) (w := w) (base := bs) dn_row_deed d_TOLD_AT
  have h_combine := ok_combine (P := P) (w := w) (base := bs) dn_combine 
  have h_value_of := ok_value_of (P := P) (w := w) (base := bs) dn_value_of m_isinstance m_tuple h_combine
  have h_told_expression := ok_told_expression (P := P) (w := w) (base := bs) dn_told_expression d_TOLD_AT
  have h_deed_at := ok_deed_at (P := P) (w := w) (base := bs) dn_deed_at c_MUTE m_len h_told_expression h_value_of h_row_deed
  have h_deed_of := ok_deed_of (P := P) (w := w) (base := bs) dn_deed_of h_check_stand h_deed_at
  have h_branch_count := ok_branch_count (P := P) (w := w) (base := bs) dn_branch_count c_RECEIVING c_PASSING
  have h__law_count := ok__law_count (P := P) (w := w) (base := bs) dn__law_count h__law_deed
  exact run_law FLw h__law_bag h__law_names h__law_take h__law_text h__law_deed h_deed_of m_repr h_branch_count h__law_count h__law_stands c_MUTE m_range m_max m_min m_len rfl env0 sq (law_true ns hn)
end J
open PySem PySem.W PyProof.Rows
set_option maxHeartbeats 0 in
theorem PySem.Challenge.cw_callsover_k06_deeds_and_branches_holds : PySem.Challenge.rw_callsover_k06_deeds_and_branches.Holds := by
  w_on; o_law; k_head; (case hw => w_witness2)
  k_fill
  refine Kx.walk_at_caller (l := PySem.Challenge.rw_callsover_k06_deeds_and_branches) (n := 63) rfl (by decide) rfl (fun w h Y => PySem.W.kIn_of Y) ?F
  case F =>
    intro w mg fa h KX G hmg bs H t a ns hn _ _ env0 sq
    refine' J.all_mk KX G hmg ?ad0 ?ld0 ?cd0 ?kd0 ?ad1 ?ld1 ?cd1 ?kd1 ?ad2 ?ld2 ?cd2 ?kd2 ?ad3 ?ld3 ?cd3 ?kd3 ?ad4 ?ld4 ?cd4 ?kd4 ?ad5 ?ld5 ?cd5 ?kd5 ?ad6 ?ld6 ?cd6 ?kd6 ?ad7 ?ld7 ?cd7 ?kd7 ?ad8 ?ld8 ?cd8 ?kd8 ?ad9 ?ld9 ?cd9 ?kd9 ?ad10 ?ld10 ?cd10 ?kd10 ?ad11 ?ld11 ?cd11 ?kd11 ?ad12 ?ld12 ?cd12 ?kd12 ?ad13 ?ld13 ?cd13 ?kd13 ?ad14 ?ld14 ?cd14 ?kd14 ?ad15 ?ld15 ?cd15 ?kd15 ?ad16 ?ld16 ?cd16 ?kd16 ?ad17 ?ld17 ?cd17 ?kd17 ?ad18 ?ld18 ?cd18 ?kd18 ?ad19 ?ld19 ?cd19 ?kd19 ?ad22 ?ld22 ?cd22 ?kd22 ?aLw ?lLw ?cLw ?kLw ?ad20 ?ld20 ?cd20 ?kd20 ?vd20 ?wd20 ?ad21 ?ld21 ?cd21 ?kd21 ?vd21 ?wd21 ?aSILENT ?lSILENT ?xSILENT ?ySILENT ?sSILENT ?tSILENT ?aMUTE ?lMUTE ?xMUTE ?yMUTE ?sMUTE ?tMUTE ?aRECEIVING ?lRECEIVING ?xRECEIVING ?yRECEIVING ?sRECEIVING ?tRECEIVING ?aPASSING ?lPASSING ?xPASSING ?yPASSING ?sPASSING ?tPASSING ?aTOLD_AT ?lTOLD_AT ?qTOLD_AT ?sTOLD_AT ?rTOLD_AT ?z0 ?z1 ?z2 ?z3 ?z4 ?z5 ?z6 ?z7 ?z8 ?z9 ?z10 ?z11 hn env0 sq
    (case ad0 => k_is); (case ld0 => k_is); (case cd0 => k_is); (case kd0 => k_is); (case ad1 => k_is); (case ld1 => k_is); (case cd1 => k_is); (case kd1 => k_is); (case ad2 => k_is); (case ld2 => k_is); (case cd2 => k_is); (case kd2 => k_is); (case ad3 => k_is); (case ld3 => k_is); (case cd3 => k_is); (case kd3 => k_is); (case ad4 => k_is); (case ld4 => k_is); (case cd4 => k_is); (case kd4 => k_is); (case ad5 => k_is); (case ld5 => k_is); (case cd5 => k_is); (case kd5 => k_is); (case ad6 => k_is); (case ld6 => k_is); (case cd6 => k_is); (case kd6 => k_is); (case ad7 => k_is); (case ld7 => k_is); (case cd7 => k_is); (case kd7 => k_is); (case ad8 => k_is); (case ld8 => k_is); (case cd8 => k_is); (case kd8 => k_is); (case ad9 => k_is); (case ld9 => k_is); (case cd9 => k_is); (case kd9 => k_is); (case ad10 => k_is); (case ld10 => k_is); (case cd10 => k_is); (case kd10 => k_is); (case ad11 => k_is); (case ld11 => k_is); (case cd11 => k_is); (case kd11 => k_is); (case ad12 => k_is); (case ld12 => k_is); (case cd12 => k_is); (case kd12 => k_is); (case ad13 => k_is); (case ld13 => k_is); (case cd13 => k_is); (case kd13 => k_is); (case ad14 => k_is); (case ld14 => k_is); (case cd14 => k_is); (case kd14 => k_is); (case ad15 => k_is); (case ld15 => k_is); (case cd15 => k_is); (case kd15 => k_is); (case ad16 => k_is); (case ld16 => k_is); (case cd16 => k_is); (case kd16 => k_is); (case ad17 => k_is); (case ld17 => k_is); (case cd17 => k_is); (case kd17 => k_is); (case ad18 => k_is); (case ld18 => k_is); (case cd18 => k_is); (case kd18 => k_is); (case ad19 => k_is); (case ld19 => k_is); (case cd19 => k_is); (case kd19 => k_is); (case ad22 => k_is); (case ld22 => k_is); (case cd22 => k_is); (case kd22 => k_is); (case aLw => k_is); (case lLw => k_is); (case cLw => k_is); (case kLw => k_is); (case ad20 => k_is); (case ld20 => k_is); (case cd20 => k_is); (case kd20 => k_is); (case vd20 => k_is); (case wd20 => exact ⟨_, rfl⟩); (case ad21 => k_is); (case ld21 => k_is); (case cd21 => k_is); (case kd21 => k_is); (case vd21 => k_is); (case wd21 => exact ⟨_, rfl⟩); (case aSILENT => k_is); (case lSILENT => k_is); (case xSILENT => rfl); (case ySILENT => rfl); (case sSILENT => decide); (case tSILENT => exact (.cons ⟨_, rfl⟩ (.cons ⟨_, rfl⟩ (.cons ⟨_, rfl⟩ .nil)))); (case aMUTE => k_is); (case lMUTE => k_is); (case xMUTE => rfl); (case yMUTE => rfl); (case sMUTE => decide); (case tMUTE => exact (.cons ⟨_, rfl⟩ (.cons ⟨_, rfl⟩ (.cons ⟨_, rfl⟩ .nil)))); (case aRECEIVING => k_is); (case lRECEIVING => k_is); (case xRECEIVING => rfl); (case yRECEIVING => rfl); (case sRECEIVING => decide); (case tRECEIVING => exact (.cons ⟨_, rfl⟩ (.cons ⟨_, rfl⟩ (.cons ⟨_, rfl⟩ .nil)))); (case aPASSING => k_is); (case lPASSING => k_is); (case xPASSING => rfl); (case yPASSING => rfl); (case sPASSING => decide); (case tPASSING => exact (.cons ⟨_, rfl⟩ (.cons ⟨_, rfl⟩ .nil))); (case aTOLD_AT => k_is); (case lTOLD_AT => k_is); (case qTOLD_AT => exact ⟨⟨_, _, rfl, rfl⟩, ⟨⟨_, _, rfl, rfl⟩, ⟨⟨_, _, rfl, rfl⟩, ⟨⟨_, _, rfl, rfl⟩, trivial⟩⟩⟩⟩); (case sTOLD_AT => rfl); (case rTOLD_AT => exact (.cons (v := (.int 1)) rfl ⟨_, rfl⟩ (fun _ _ => .int _) (.cons (v := (.int 2)) rfl ⟨_, rfl⟩ (fun _ _ => .int _) (.cons (v := (.int 2)) rfl ⟨_, rfl⟩ (fun _ _ => .int _) (.cons (v := (.int 1)) rfl ⟨_, rfl⟩ (fun _ _ => .int _) .nil))))); (case z0 => k_is); (case z1 => k_is); (case z2 => k_is); (case z3 => k_is); (case z4 => k_is); (case z5 => k_is); (case z6 => k_is); (case z7 => k_is); (case z8 => k_is); (case z9 => k_is); (case z10 => k_is); (case z11 => k_is)

