import PyProof.Rows.All
import Wide.All
import OpenK.AllK
import Wide.FinOn
import HandS.ForMost
import HandS.IsInst
import HandS.Defaults
import HandS.RaiseMore
import HandS.TupSets
import PySem.Challenge.RW_callsover_k05_first_stands
set_option Elab.async false
set_option linter.all false
set_option maxRecDepth 100000
set_option maxHeartbeats 8000000
namespace Kx
open PySem PySem.Spec PyProof.Rows L2
/-! what is carried from heap to heap -/
def Bag (H : Hp) (b : Addr) (n : Nat) : Prop := ∃ (d m : Int) (c : Nat), H b = some (.lst [.int d, .int m, .int c]) ∧ 0 ≤ d ∧ 0 ≤ m ∧ m < 2305843009213693951 ∧ c ≤ n
def SameX (b : Addr) (H H' : Hp) : Prop := ∀ a o, a ≠ b → H a = some o → H' a = some o
theorem pM : (0 : Int) < 2305843009213693951 := by decide
theorem pM2 : (0 : Int) < 2305843009213693921 := by decide
theorem SameX.refl (b : Addr) (H : Hp) : SameX b H H := fun _ _ _ e => e
theorem SameX.trans {b : Addr} {H H1 H2 : Hp} (x : SameX b H H1) (y : SameX b H1 H2) : SameX b H H2 := fun a o n e => y a o n (x a o n e)
theorem SameX.new {b p : Addr} {H : Hp} {o : HO} (h : H p = none) : SameX b H (upd H p o) := fun a u _ e => by
  rw [upd_ne (ne_of_none e h)]
  exact e
theorem same_new {p : Addr} {H : Hp} {o : HO} (h : H p = none) : Same H (upd H p o) := fun a u e => by
  rw [upd_ne (ne_of_none e h)]
  exact e
theorem Same.x {b : Addr} {H H' : Hp} (h : Same H H') : SameX b H H' := fun a o _ e => h a o e
/-- after a new thing, then what keeps all but it -/
theorem SameX.behind {p : Addr} {H H1 : Hp} {o : HO} (h : H p = none) (s : SameX p (upd H p o) H1) : Same H H1 := fun a u e =>
  s a u (ne_of_none e h) (by rw [upd_ne (ne_of_none e h)]; exact e)
theorem Bag.mono {H : Hp} {b : Addr} {n m : Nat} (h : Bag H b n) (l : n ≤ m) : Bag H b m :=
  let ⟨d, x, c, e, h1, h2, h3, h4⟩ := h
  ⟨d, x, c, e, h1, h2, h3, Nat.le_trans h4 l⟩
theorem Bag.new {H : Hp} {b p : Addr} {n : Nat} {o : HO} (h : Bag H b n) (hp : H p = none) : Bag (upd H p o) b n := by
  obtain ⟨d, x, c, e, r⟩ := h
  exact ⟨d, x, c, by rw [upd_ne (ne_of_none e hp)]; exact e, r⟩
theorem Bag.same {H H' : Hp} {b : Addr} {n : Nat} (h : Bag H b n) (s : Same H H') : Bag H' b n :=
  let ⟨d, x, c, e, r⟩ := h
  ⟨d, x, c, s _ _ e, r⟩
theorem Bag.ne {H : Hp} {b p : Addr} {n : Nat} (h : Bag H b n) (hp : H p = none) : p ≠ b := fun z => by
  obtain ⟨d, x, c, e, r⟩ := h
  rw [← z, hp] at e
  cases e
theorem Bag.neT {H : Hp} {b p : Addr} {n : Nat} {xs : List V} (h : Bag H b n) (hp : H p = some (.tup xs)) : p ≠ b := fun z => by
  obtain ⟨d, x, c, e, r⟩ := h
  rw [← z, hp] at e
  cases e
theorem Bag.neF {H : Hp} {b p : Addr} {n : Nat} {o : Obj} {u : HO} (h : Bag H b n) (hp : H p = some (.frz o u)) : p ≠ b := fun z => by
  obtain ⟨d, x, c, e, r⟩ := h
  rw [← z, hp] at e
  cases e
theorem SameX.seq {K : PySem.W.Frag} {H H' : Hp} {a b : Addr} {xs : List V} (e : SameX b H H') (n : a ≠ b) (h : SqL K H a xs) : SqL K H' a xs := by
  rcases h with (h | ⟨o, h⟩) | h
  · exact .inl (.inl (e _ _ n h))
  · exact .inl (.inr ⟨o, e _ _ n h⟩)
  · exact .inr h
/-- tuples that can be read stay -/
def KeepT (K : PySem.W.Frag) (H H' : Hp) : Prop := ∀ a xs, SqT K H a xs → SqT K H' a xs
theorem KeepT.refl (K : PySem.W.Frag) (H : Hp) : KeepT K H H := fun _ _ h => h
theorem KeepT.trans {K : PySem.W.Frag} {H H1 H2 : Hp} (x : KeepT K H H1) (y : KeepT K H1 H2) : KeepT K H H2 := fun a xs h => y a xs (x a xs h)
theorem keepT_same {K : PySem.W.Frag} {H H' : Hp} (s : Same H H') : KeepT K H H' := fun a xs h => by
  rcases h with (h | ⟨o, h⟩) | h
  · exact .inl (.inl (s _ _ h))
  · exact .inl (.inr ⟨o, s _ _ h⟩)
  · exact .inr h
theorem keepT_x {K : PySem.W.Frag} {H H' : Hp} {b : Addr} {n : Nat} (B : Bag H b n) (s : SameX b H H') : KeepT K H H' := fun a xs h => by
  rcases h with (h | ⟨o, h⟩) | h
  · exact .inl (.inl (s _ _ (B.neT h) h))
  · exact .inl (.inr ⟨o, s _ _ (B.neF h) h⟩)
  · exact .inr h
/-! data without lists -/
mutual
inductive Dt (K : PySem.W.Frag) (H : Hp) : V → PyData → Prop
  | non : Dt K H .non .none
  | bl (b : Bool) : Dt K H (.bl b) (.bool b)
  | int (i : Int) : Dt K H (.int i) (.int i)
  | str (x : Str) : Dt K H (.str x) (.str x)
  | tup {a : Addr} {xs : List V} {ds : List PyData} : SqT K H a xs → DtAll K H xs ds → Dt K H (.ref a) (.tuple ds)
inductive DtAll (K : PySem.W.Frag) (H : Hp) : List V → List PyData → Prop
  | nil : DtAll K H [] []
  | cons {v : V} {vs : List V} {d : PyData} {ds : List PyData} : Dt K H v d → DtAll K H vs ds → DtAll K H (v :: vs) (d :: ds)
end
mutual
theorem Dt.keep {K : PySem.W.Frag} {H H' : Hp} (s : KeepT K H H') : ∀ {v : V} {d : PyData}, Dt K H v d → Dt K H' v d
  | _, _, .non => .non
  | _, _, .bl b => .bl b
  | _, _, .int i => .int i
  | _, _, .str x => .str x
  | _, _, .tup h q => .tup (s _ _ h) (DtAll.keep s q)
theorem DtAll.keep {K : PySem.W.Frag} {H H' : Hp} (s : KeepT K H H') : ∀ {vs : List V} {ds : List PyData}, DtAll K H vs ds → DtAll K H' vs ds
  | _, _, .nil => .nil
  | _, _, .cons h q => .cons (Dt.keep s h) (DtAll.keep s q)
end
mutual
theorem Dt.dp {K : PySem.W.Frag} {H : Hp} : ∀ {v : V} {d : PyData}, Dt K H v d → Dp K H v d
  | _, _, .non => .non
  | _, _, .bl b => .bl b
  | _, _, .int i => .int i
  | _, _, .str x => .str x
  | _, _, .tup h q => .tup h (DtAll.dp q)
theorem DtAll.dp {K : PySem.W.Frag} {H : Hp} : ∀ {vs : List V} {ds : List PyData}, DtAll K H vs ds → DpAll K H vs ds
  | _, _, .nil => .nil
  | _, _, .cons h q => .cons (Dt.dp h) (DtAll.dp q)
end
theorem DtAll.length {K : PySem.W.Frag} {H : Hp} : ∀ {vs : List V} {ds : List PyData}, DtAll K H vs ds → vs.length = ds.length
  | _, _, .nil => rfl
  | _, _, .cons h q => by rw [List.length_cons, List.length_cons, DtAll.length q]
theorem DtAll.get {K : PySem.W.Frag} {H : Hp} : ∀ {vs : List V} {ds : List PyData}, DtAll K H vs ds → ∀ (i : Nat) {d : PyData}, ds[i]? = some d → ∃ v, vs[i]? = some v ∧ Dt K H v d
  | _, _, .nil, i, _, e => by simp at e
  | _, _, .cons h q, 0, _, e => ⟨_, rfl, (Option.some.inj e) ▸ h⟩
  | _, _, .cons h q, i + 1, _, e => DtAll.get q i e
theorem DtAll.app {K : PySem.W.Frag} {H : Hp} : ∀ {vs us : List V} {ds es : List PyData}, DtAll K H vs ds → DtAll K H us es → DtAll K H (vs ++ us) (ds ++ es)
  | _, _, _, _, .nil, q => q
  | _, _, _, _, .cons h r, q => .cons h (DtAll.app r q)
theorem dt_new {K : PySem.W.Frag} {H : Hp} {p : Addr} {xs : List V} {ds : List PyData} (hp : H p = none) (h : DtAll K H xs ds) : Dt K (upd H p (.tup xs)) (.ref p) (.tuple ds) :=
  .tup (SqT.of upd_same) (DtAll.keep (keepT_same (same_new hp)) h)
/-! texts as the laws make them -/
inductive Op
  | x
  | y
  | n (k : Int)
inductive Ex
  | o (a : Op)
  | t (s : Str) (a b : Op)
inductive Rw
  | set (v : Str) (e : Ex)
  | iff (e f : Ex) (r : Int)
  | go (r : Int)
  | say (e : Ex)
  | ask (v : Str)
  | read (c : Int) (v : Str)
  | write (c : Int) (e : Ex)
  | call (n : Str) (e : Ex) (v : Str)
  | fin (e : Ex)
def Op.d : Op → PyData
  | .x => .str "x"
  | .y => .str "y"
  | .n k => .int k
def Ex.d : Ex → PyData
  | .o a => a.d
  | .t s a b => .tuple [.str s, a.d, b.d]
def Rw.w : Rw → Str
  | .set _ _ => "set"
  | .iff _ _ _ => "if"
  | .go _ => "go"
  | .say _ => "say"
  | .ask _ => "ask"
  | .read _ _ => "read"
  | .write _ _ => "write"
  | .call _ _ _ => "call"
  | .fin _ => "end"
def Rw.rest : Rw → List PyData
  | .set v e => [.str v, e.d]
  | .iff e f r => [e.d, f.d, .int r]
  | .go r => [.int r]
  | .say e => [e.d]
  | .ask v => [.str v]
  | .read c v => [.int c, .str v]
  | .write c e => [.int c, e.d]
  | .call n e v => [.str n, e.d, .str v]
  | .fin e => [e.d]
def Rw.d (r : Rw) : PyData := .tuple (.str r.w :: r.rest)
def Op.ok (b : Int) : Op → Prop
  | .x => True
  | .y => True
  | .n k => 0 ≤ k ∧ k < b
def Ex.ok (b : Int) : Ex → Prop
  | .o a => a.ok b
  | .t s a c => (s = "+" ∨ s = "-" ∨ s = "*") ∧ a.ok b ∧ c.ok b
def vok (v : Str) : Prop := v = "x" ∨ v = "y"
def Rw.ok (b m : Int) (N : List Str) : Rw → Prop
  | .set v e => vok v ∧ e.ok b
  | .iff e f r => e.ok b ∧ f.ok b ∧ 0 ≤ r ∧ r ≤ m
  | .go r => 0 ≤ r ∧ r ≤ m
  | .say e => e.ok b
  | .ask v => vok v
  | .read c v => (c = 0 ∨ c = 1) ∧ vok v
  | .write c e => (c = 0 ∨ c = 1) ∧ e.ok b
  | .call n e v => n ∈ N ∧ e.ok b ∧ vok v
  | .fin e => e.ok b
def Tx.ok (b : Int) (N : List Str) (t : List Rw) : Prop := ∀ r ∈ t, r.ok b t.length N
def Tx.d (t : List Rw) : PyData := .tuple (t.map Rw.d)
/-! texts read off the heap; what is silent -/
def Rw.silent : Rw → Bool
  | .set _ _ => true
  | .iff _ _ _ => true
  | .go _ => true
  | _ => false
def silentAt (t : List Rw) (i : Nat) : Bool := match t[i]? with
  | some r => r.silent
  | none => false
theorem Rw.w_in (r : Rw) : inV (.str r.w) [.str "set", .str "if", .str "go"] = r.silent := by
  cases r
  · exact (by decide +kernel : inV (V.str "set") [.str "set", .str "if", .str "go"] = true)
  · exact (by decide +kernel : inV (V.str "if") [.str "set", .str "if", .str "go"] = true)
  · exact (by decide +kernel : inV (V.str "go") [.str "set", .str "if", .str "go"] = true)
  · exact (by decide +kernel : inV (V.str "say") [.str "set", .str "if", .str "go"] = false)
  · exact (by decide +kernel : inV (V.str "ask") [.str "set", .str "if", .str "go"] = false)
  · exact (by decide +kernel : inV (V.str "read") [.str "set", .str "if", .str "go"] = false)
  · exact (by decide +kernel : inV (V.str "write") [.str "set", .str "if", .str "go"] = false)
  · exact (by decide +kernel : inV (V.str "call") [.str "set", .str "if", .str "go"] = false)
  · exact (by decide +kernel : inV (V.str "end") [.str "set", .str "if", .str "go"] = false)
theorem dt_tuple {K : PySem.W.Frag} {H : Hp} {v : V} {ds : List PyData} (h : Dt K H v (.tuple ds)) : ∃ a xs, v = .ref a ∧ SqT K H a xs ∧ DtAll K H xs ds := by
  cases h with
  | tup h q => exact ⟨_, _, rfl, h, q⟩
theorem dt_row {K : PySem.W.Frag} {H : Hp} {v : V} {r : Rw} (h : Dt K H v r.d) : ∃ a xs, v = .ref a ∧ SqT K H a (.str r.w :: xs) ∧ DtAll K H xs r.rest := by
  obtain ⟨a, xs, rfl, hs, hd⟩ := dt_tuple h
  cases hd with
  | cons h1 h2 =>
    cases h1
    exact ⟨a, _, rfl, hs, h2⟩
/-- a text's row at a place -/
theorem dt_text {K : PySem.W.Frag} {H : Hp} {v : V} {t : List Rw} (h : Dt K H v (Tx.d t)) : ∃ a xs, v = .ref a ∧ SqT K H a xs ∧ xs.length = t.length ∧ ∀ (i : Nat) (r : Rw), t[i]? = some r → ∃ p ys, xs[i]? = some (.ref p) ∧ SqT K H p (.str r.w :: ys) ∧ DtAll K H ys r.rest := by
  obtain ⟨a, xs, rfl, hs, hd⟩ := dt_tuple h
  refine ⟨a, xs, rfl, hs, by rw [hd.length, List.length_map], fun i r e => ?_⟩
  obtain ⟨v, e1, e2⟩ := hd.get i (d := r.d) (by rw [List.getElem?_map, e]; rfl)
  obtain ⟨p, ys, rfl, h1, h2⟩ := dt_row e2
  exact ⟨p, ys, e1, h1, h2⟩
end Kx

namespace Kx
open PySem PySem.Spec PyProof.Rows L2
def stD (r x y : Nat) : PyData := .tuple [.int r, .int x, .int y]
def line (b r x : Nat) (n : Nat) : List PyData := (List.range n).map fun y => stD r x y
def blk (b r : Nat) (n : Nat) : List PyData := (List.range n).flatMap fun x => line b r x b
def flat (b r : Nat) (n : Nat) : List PyData := (List.range n).map fun k => stD r (k / b) (k % b)
def loud (t : List Rw) (n : Nat) : List Nat := (List.range n).filter fun i => !silentAt t i
def stands (t : List Rw) (b : Nat) (n : Nat) : List PyData := (loud t n).flatMap fun r => blk b r b
theorem blk_flat {b : Nat} (h : b = 2 ∨ b = 3 ∨ b = 4) (r : Nat) : blk b r b = flat b r (b * b) := by
  rcases h with rfl | rfl | rfl <;> rfl
theorem line_succ (b r x n : Nat) : line b r x (n + 1) = line b r x n ++ [stD r x n] := by
  unfold line
  rw [List.range_succ, List.map_append]
  rfl
theorem blk_succ (b r n : Nat) : blk b r (n + 1) = blk b r n ++ line b r n b := by
  unfold blk
  rw [List.range_succ, List.flatMap_append]
  simp
theorem flat_succ (b r n : Nat) : flat b r (n + 1) = flat b r n ++ [stD r (n / b) (n % b)] := by
  unfold flat
  rw [List.range_succ, List.map_append]
  rfl
theorem loud_succ (t : List Rw) (n : Nat) : loud t (n + 1) = if silentAt t n = true then loud t n else loud t n ++ [n] := by
  unfold loud
  rw [List.range_succ, List.filter_append]
  cases h : silentAt t n <;> simp [h]
theorem stands_succ (t : List Rw) (b n : Nat) : stands t b (n + 1) = if silentAt t n = true then stands t b n else stands t b n ++ blk b n b := by
  unfold stands
  rw [loud_succ]
  split
  · rfl
  · rw [List.flatMap_append]
    simp
theorem blk_len {b : Nat} (h : b = 2 ∨ b = 3 ∨ b = 4) (r : Nat) : (blk b r b).length = b * b := by
  rw [blk_flat h]
  unfold flat
  rw [List.length_map, List.length_range]
theorem stands_len {b : Nat} (h : b = 2 ∨ b = 3 ∨ b = 4) (t : List Rw) : ∀ n, (stands t b n).length ≤ 16 * n
  | 0 => Nat.zero_le _
  | n + 1 => by
    have ih := stands_len h t n
    rw [stands_succ]
    split
    · omega
    · rw [List.length_append, blk_len h]
      rcases h with rfl | rfl | rfl <;> omega
/-- a list that grows at D keeps the tuples -/
theorem keepT_put {K : PySem.W.Frag} {H : Hp} {D : Addr} {xs ys : List V} (h : H D = some (.lst xs)) : KeepT K H (upd H D (.lst ys)) := fun a zs q => by
  rcases q with (q | ⟨o, q⟩) | q
  · exact .inl (.inl (by rw [upd_ne (show a ≠ D from ne_of q h (by intro z; cases z))]; exact q))
  · exact .inl (.inr ⟨o, by rw [upd_ne (show a ≠ D from ne_of q h (by intro z; cases z))]; exact q⟩)
  · exact .inr q
/-- what stood ahead of D stands while D grows -/
theorem same_put {H H1 : Hp} {D : Addr} {o : HO} (h : H D = none) (s : Same H H1) : Same H (upd H1 D o) := fun a u e => by
  rw [upd_ne (ne_of_none e h)]
  exact s a u e
theorem DtAll.snoc {K : PySem.W.Frag} {H : Hp} {vs : List V} {ds : List PyData} {v : V} {d : PyData} (h : DtAll K H vs ds) (q : Dt K H v d) : DtAll K H (vs ++ [v]) (ds ++ [d]) := h.app (.cons q .nil)
end Kx

namespace Kx
open PySem PySem.Spec PyProof.Rows L2
/-! repr of data of any depth, where no repr is under way -/
def rRepr (K : PySem.W.Frag) : List V → Hp → VK → Prop := fun xs H Q => ∃ (a : Addr) (d : PyData), xs = [.ref a] ∧ Dp K H (.ref a) d ∧ d.showable = true ∧ d.hasDict = false ∧ d.depth ≤ 60 ∧ d.shown.length ≤ sizeLine ∧ Q (.str d.shown) H
theorem cr_repr {X : Cx} (hg : X.A.guards = some []) (hu : X.A.units + 64 < cLine) : CallR X (.builtin "repr") (rRepr X.K) := by
  intro pins s σ H xs us Q I r h
  obtain ⟨a, d, rfl, hd, sh, nd, dep, sz, q⟩ := h
  obtain ⟨u, rfl, ru⟩ := vals1 r
  cases ru
  obtain ⟨as, rd⟩ := Dp.reads I d _ _ hd rfl
  exact repr_of_reads' (h₀ := s.heap) rd sh (PyData.noDict_hsm nd) hg (by omega) (fun _ _ e => e) (fun h' u tk hk => ⟨.str d.shown, H, I.kept hk, ⟨u, rfl⟩, q⟩) sz
end Kx

namespace Kx
open PySem PySem.Spec PyProof.Rows L2
section
variable {P : Program} {w : World} {K : PySem.W.Frag} {mg : Str → Option Value}
/-- a def's body, walked where one stands as the caller of a law stands: no repr is under way there -/
theorem run_at {bs : Heap} {k : Nat} {f : Addr} {nam qual : Str} {params : Arguments} {body : List Stmt} {scope : Scope} {dV kV doc pm cdv ct oc : Value} {an od : Option Addr} {osl : Array (Option Value)} {N ps : List Str} {A : Around} {outer : List Env} {s : Shared} {H : Hp} {args : Args} {us : List Value} {vs : List V} {Q : VK} {E : XK}
    (lk : K.lookup f = some ⟨oc, od, .func (PySem.W.fnOf nam qual params body scope dV kV doc pm an cdv ct), osl⟩)
    (hcd : PySem.W.codeIn K cdv qual = true) (S : FnScope N ps scope) (hl : vs.length = ps.length) (room : Room (k + 1) A) (env0 : Env0 P w K mg bs A outer s H)
    (bind : BindsTo s (PySem.W.fnOf nam qual params body scope dV kV doc pm an cdv ct) args (ps.zip us)) (rv : Vals vs us)
    (walk : Room k (A.deeper (envOfC qual scope s.heap.objs.size f cdv)) → ∃ t, PSs (cxOf CX0 P w K mg bs N qual scope f cdv A outer s H E) body t ∧ t { nx := fun _ H' => Q .non H', rt := Q } (start N vs) H) :
    codeAny (model P w) A (.call (.ref f) args) (CR CX0 outer P w H s Q E) s := by
  have keep := fun b o (e : bs.get? b = some o) => (env0.bs b o e).1
  have inK : K.In s.heap := env0.mod.kin.keeps keep
  have noL : s.heap.NoLimit := env0.mod.nolimit.keeps keep
  refine codeAny_call_function room.depth (inK _ _ lk) rfl S.co S.gen rfl (PySem.W.codeRec_of inK hcd) (bind _ _ _ _ ?_)
  refine wpAny_newFunctionEnv_cells S.kind (fun p hp => ?_) fun env same s1 made => ?_
  · rcases S.par p.1 (List.of_mem_zip (a := p.1) (b := p.2) hp).1 with z | z
    · exact .inl z
    · exact .inr ⟨z, PySem.W.cellsFrom_some _ _ _ (.inl z)⟩
  subst same
  refine ⟨noL.keeps made.toInCall.keep, codeAny_func ?_⟩
  obtain ⟨t, dv, rd⟩ := walk (room.deeper _)
  have J := inv_start (CX := CX0) (E := E) S room.hd env0 hl rv made
  refine wpAny_mono (dv.run [] s1 (start N vs) H _ J rd) (fun fl s2 out => ?_) fun _ _ z => z
  cases fl with
  | ret u =>
    obtain ⟨v, σ2, H2, J2, r2, q2⟩ := out
    exact ⟨v, H2, J2.os, J2.bare, J2.base, J2.hok, r2, q2⟩
  | next =>
    obtain ⟨σ2, H2, J2, q2⟩ := out
    exact ⟨.non, H2, J2.os, J2.bare, J2.base, J2.hok, rfl, q2⟩
  | brk =>
    obtain ⟨_, _, _, z⟩ := out
    exact z.elim
  | cont =>
    obtain ⟨_, _, _, z⟩ := out
    exact z.elim
/-- the law's call at the head, from its run alone -/
theorem law_at {mb : Str → Option Value} {fa a : Addr} {t : Shared} {vs : List Value} {ns : List Int}
    (inK : K.In t.heap) (gl : t.heap.Ns mainGlobals mg) (bl : t.heap.Ns builtinsNs mb) (bb : ∀ x : Str, x ≠ "__name__" → mb x = bootBuiltins x) (noL : t.heap.NoLimit) (gn : t.gens = #[])
    (ha : t.heap.get? a = some { cls := .type "list", data := .seq vs.toArray }) (areI : IntsAre vs ns) (few : ns.length ≤ sizeLine)
    (run : ∀ (bs : Heap) (H : Hp), K.In bs → bs.Ns mainGlobals mg → Env0 P w K mg bs callerA [] t H → SqL K H a (ns.map V.int) →
      codeAny (model P w) callerA (.call (.ref fa) ⟨[.ref a], []⟩) (CR CX0 [] P w H t (fun v _ => v = .bl true) fun _ _ _ => False) t) :
    codeAny (model P w) callerA (.call (.ref fa) ⟨[.ref a], []⟩) (fun r s' => r = .ok (.ret (.bool true)) ∧ OldK t.heap s'.heap ∧ s'.os = t.os ∧ AllBare s'.gens) t := by
  have rv := vals_ints areI
  have go : ∀ H : Hp, Only H → SqL K H a (ns.map V.int) → HOk P w H t.heap → (∀ b, H b ≠ none → b = a) → (H a ≠ none → K.lookup a = none) →
      codeAny (model P w) callerA (.call (.ref fa) ⟨[.ref a], []⟩) (fun r s' => r = .ok (.ret (.bool true)) ∧ OldK t.heap s'.heap ∧ s'.os = t.os ∧ AllBare s'.gens) t := by
    intro H only sq hok onlyA notK
    have dictFree : ∀ {b : Addr} {o : Obj} {es : Array DictEntry} {ep : Nat}, t.heap.get? b = some o → o.data = .dict es ep → H b = none := by
      intro b o es ep e d
      refine Classical.byContradiction fun z => ?_
      obtain rfl := onlyA b z
      rw [ha] at e
      cases e
      exact Data.noConfusion d
    have ns' : ∀ {b : Addr} {m : Str → Option Value}, t.heap.Ns b m → (hidT t.heap H).Ns b m := by
      rintro b m ⟨o, es, ep, e, d, r⟩
      exact ⟨o, es, ep, hidT_get e (dictFree e d), d, r⟩
    have inB : K.In (hidT t.heap H) := by
      intro b o e
      refine hidT_get (inK b o e) (Classical.byContradiction fun z => ?_)
      obtain rfl := onlyA b z
      rw [notK z] at e
      cases e
    have md : Mod K mg (hidT t.heap H) := ⟨inB, ns' gl, ⟨mb, ns' bl, bb⟩, by obtain ⟨mc, z1, z2⟩ := noL; exact ⟨mc, ns' z1, z2⟩⟩
    have env0 : Env0 P w K mg (hidT t.heap H) callerA [] t H :=
      ⟨rfl, md, fun b o e => of_hidT e, Nat.le_of_eq (hidT_size _ _), trivial, fun b hb => absurd (show b ∈ ([] : List Addr) from hb) (by simp), hok, .of_eq gn⟩
    refine codeAny_mono (run _ H inB (ns' gl) env0 sq) fun r s2 out => ?_
    match r, out with
    | .error e, out => exact False.elim out
    | .ok .next, out => exact False.elim out
    | .ok .brk, out => exact False.elim out
    | .ok .cont, out => exact False.elim out
    | .ok (.ret u), ⟨v, H2, os, bare, un, hok2, r2, q2⟩ =>
      have q3 : v = .bl true := q2
      subst q3
      have r3 : u = Value.bool true := r2
      subst r3
      refine ⟨rfl, OldK.of_keep fun b o e => ?_, os, bare⟩
      rcases only b with z | ⟨ob, xs, z⟩
      · exact un.keep b o e z (by intro y; exact absurd (show b ∈ ([] : List Addr) from y) (by simp)) (by simp)
      · have one := (hok b _ z).1
        have two := (hok2 b _ (un.frzs b ob _ z)).1
        rw [e] at one
        cases one
        exact two
  cases look : K.lookup a with
  | some o =>
    have e := inK a o look
    rw [ha] at e
    cases e
    exact go (fun _ => none) (fun b => .inl rfl) (.inr ⟨_, vs.toArray, _, look, rfl, rfl, rfl, by rw [List.size_toArray, areI.length]; exact few, by simpa using rv⟩) (fun b u z => by have y : (none : Option HO) = some u := z; cases y) (fun b z => absurd rfl z) (fun z => absurd rfl z)
  | none =>
    have at_a : ∀ b, (fun c => if c = a then some (HO.frz { cls := .type "list", data := .seq vs.toArray } (.lst (ns.map V.int))) else none : Hp) b = if b = a then some (HO.frz { cls := .type "list", data := .seq vs.toArray } (.lst (ns.map V.int))) else none := fun _ => rfl
    refine go (fun c => if c = a then some (HO.frz { cls := .type "list", data := .seq vs.toArray } (.lst (ns.map V.int))) else none) (fun b => ?_) (.inl (.inr ⟨{ cls := .type "list", data := .seq vs.toArray }, (at_a a).trans (if_pos rfl)⟩)) (fun b u z => ?_) (fun b z => ?_) (fun _ => look)
    · by_cases hb : b = a
      · exact .inr ⟨_, _, if_pos hb⟩
      · exact .inl (if_neg hb)
    · rw [at_a] at z
      by_cases hb : b = a
      · rw [if_pos hb] at z
        cases z
        subst hb
        exact ⟨ha, by rw [List.length_map]; exact few, vs, _, rv, ha⟩
      · rw [if_neg hb] at z
        cases z
    · by_cases hb : b = a
      · exact hb
      · exact absurd (if_neg hb) z
end
/-- the end of a law row: what k_head leaves, from the law's walk at its caller -/
theorem walk_at_caller {l : PySem.W.OpenLaw} {n : Nat} {q : Program} {loose : List Str} {XP : (Str → Option Value) → Heap → Prop} {YP : World → Heap → Prop} {d : DefRec} {K : Params → PySem.W.Frag}
    (hn : l.most = some n) (hn2 : n ≤ sizeLine) (hdf : d.params.defaults = [])
    (hY : ∀ (w : World) (h : Heap), YP w h → (K w.params).In h)
    (F : ∀ (w : World) (mg : Str → Option Value) (fa : Addr) (h : Heap), (K w.params).In h → h.Ns mainGlobals mg → mg d.name = some (.ref fa) →
      ∀ (bs : Heap) (H : Hp) (t : Shared) (a : Addr) (ns : List Int), ns.length ≤ n → (K w.params).In bs → bs.Ns mainGlobals mg → Env0 l.prog w (K w.params) mg bs callerA [] t H → SqL (K w.params) H a (ns.map V.int) →
        codeAny (model l.prog w) callerA (.call (.ref fa) ⟨[.ref a], []⟩) (CR CX0 [] l.prog w H t (fun v _ => v = .bl true) fun _ _ _ => False) t) :
    PySem.W.WalkO q loose XP YP l.row.toRowW d [] (fun f vs => PySem.call f vs) := by
  refine Att.attach_call hn hdf fun w s₀ t mg mb fa o pm cd doc a vs ns G Y ho hd hcd hmg hobj hints hlen hg => ?_
  exact law_at (hY w _ Y) G.T.g G.T.b G.T.builtins G.T.nolimit hg hobj hints (Nat.le_trans hlen hn2) fun bs H inB gl env0 sq => F w mg fa _ (hY w _ Y) G.T.g hmg bs H t a ns hlen inB gl env0 sq
end Kx

namespace Kx
open PySem PySem.Spec PyProof.Rows L2
abbrev E3 (elt t0 i0 t1 i1 t2 i2 : Expr) (sc : Scope) (pos : Pos) : Expr := .ListComp elt [⟨t0, i0, [], 0⟩, ⟨t1, i1, [], 0⟩, ⟨t2, i2, [], 0⟩] sc pos
def midTurn (e : Expr) (d : Nat) (tg iter nxt : Expr) (it acc : Value) (env : Env) : Sem Fin := do
  standAt iter.pos
  match ← pyNext it with
  | none => pure (.done .next)
  | some v =>
    letOwnedTupleGo tg it v
    assign tg env v
    let mut ok := true
    for c in ([] : List Expr) do
      if ok then ok ← isTrue c env (eval c env)
    if ok then
      let x ← eval nxt env
      standAt nxt.pos
      let x ← foldedSetIterable nxt env x
      let _ ← runOwn (.compStart e (d + 1) (← holding [x] (pyIter x)) acc env) env
    again (.compLoop e d it acc env)
def endTurn (e : Expr) (d : Nat) (tg iter elt : Expr) (it acc : Value) (env : Env) : Sem Fin := do
  standAt iter.pos
  match ← pyNext it with
  | none => pure (.done .next)
  | some v =>
    letOwnedTupleGo tg it v
    assign tg env v
    let mut ok := true
    for c in ([] : List Expr) do
      if ok then ok ← isTrue c env (eval c env)
    if ok then
      (do let _ ← call (.builtin "list.append") [acc, ← eval elt env])
    again (.compLoop e d it acc env)
section
variable {prog : Program} {w : World} {A : Around} {R : Result → Shared → Prop} {s : Shared} {elt t0 i0 t1 i1 t2 i2 : Expr} {sc : Scope} {pos : Pos} {it acc : Value} {env : Env}
theorem turn3_0 : compTurn (E3 elt t0 i0 t1 i1 t2 i2 sc pos) 0 it acc env = midTurn (E3 elt t0 i0 t1 i1 t2 i2 sc pos) 0 t0 i0 i1 it acc env := by rfl
theorem turn3_1 : compTurn (E3 elt t0 i0 t1 i1 t2 i2 sc pos) 1 it acc env = midTurn (E3 elt t0 i0 t1 i1 t2 i2 sc pos) 1 t1 i1 i2 it acc env := by rfl
theorem turn3_2 : compTurn (E3 elt t0 i0 t1 i1 t2 i2 sc pos) 2 it acc env = endTurn (E3 elt t0 i0 t1 i1 t2 i2 sc pos) 2 t2 i2 elt it acc env := by rfl
abbrev No : Value → Shared → Prop := fun _ _ => False
theorem noF {α : Type} {t : Sem α} {Q Q' : α → Shared → Prop} {M : Model} {E : Value → Shared → Prop} (h : wpAny M A t Q No s) (hQ : ∀ a s, Q a s → Q' a s) : wpAny M A t Q' E s := wpAny_mono h hQ fun _ _ z => z.elim
/-- a loop of a clause that has another behind it -/
theorem loop_mid {d : Nat} {tg iter nxt : Expr} (heq : ∀ it, compTurn (E3 elt t0 i0 t1 i1 t2 i2 sc pos) d it acc env = midTurn (E3 elt t0 i0 t1 i1 t2 i2 sc pos) d tg iter nxt it acc env)
    (fs : ∀ x, foldedSetIterable nxt env x = pure x) (I : Nat → Shared → Prop)
    (turn : ∀ n s, I n s → wpAny (model prog w) A (pyNext it) (fun r s1 => match r with
      | none => R (.ok .next) s1
      | some v => wpAny (model prog w) A (letOwnedTupleGo tg it v) (fun _ s2 => wpAny (model prog w) A (assign tg env v) (fun _ s3 =>
          wpAny (model prog w) A (eval nxt env) (fun x s4 => wpAny (model prog w) A (pyIter x) (fun j s5 =>
            codeAny (model prog w) A (.compStart (E3 elt t0 i0 t1 i1 t2 i2 sc pos) (d + 1) j acc env) (fun r s' => match r with
              | .ok _ => ∃ m, m < n ∧ I m s'
              | .error _ => False) s5) No s4) No s3) No s2) No s1) No s)
    (n : Nat) (h : I n s) : codeAny (model prog w) A (.compLoop (E3 elt t0 i0 t1 i1 t2 i2 sc pos) d it acc env) R s := by
  refine codeAny_loop rfl I (fun n s hI => ?_) n h
  show wpAny _ A ((compTurn (E3 elt t0 i0 t1 i1 t2 i2 sc pos) d it acc env).onRaise (fun x => do noteFrame x env; theTreesLotGoes x)) _ _ s
  refine wpAny_noted ?_
  rw [heq]
  refine wpAny_bind (wpAny_standAt (wpAny_bind (noF (turn n s hI) fun r s1 h1 => ?_)))
  cases r with
  | none => exact wpAny_pure h1
  | some v =>
    refine wpAny_bind (noF h1 fun _ s2 h2 => wpAny_bind (noF h2 fun _ s3 h3 => wpAny_bind (wpAny_tests_nil ?_)))
    refine wpAny_bind (noF h3 fun x s4 h4 => wpAny_bind (wpAny_standAt (wpAny_bind (wpAny_of_eq (fs x) (wpAny_bind (wpAny_holding (noF h4 fun j s5 h5 => ?_)))))))
    refine wpAny_bind (wpAny_runOwn ?_)
    rw [Around.mark_none]
    refine codeAny_mono h5 fun r s' hr => ?_
    cases r with
    | ok f => first | exact wpAny_pure ⟨rfl, hr⟩ | exact wpAny_bind (wpAny_pure (wpAny_pure ⟨rfl, hr⟩))
    | error e => exact hr.elim
theorem loop_end {d : Nat} {tg iter : Expr} (heq : ∀ it, compTurn (E3 elt t0 i0 t1 i1 t2 i2 sc pos) d it acc env = endTurn (E3 elt t0 i0 t1 i1 t2 i2 sc pos) d tg iter elt it acc env) (I : Nat → Shared → Prop)
    (turn : ∀ n s, I n s → wpAny (model prog w) A (pyNext it) (fun r s1 => match r with
      | none => R (.ok .next) s1
      | some v => wpAny (model prog w) A (letOwnedTupleGo tg it v) (fun _ s2 => wpAny (model prog w) A (assign tg env v) (fun _ s3 =>
          wpAny (model prog w) A (eval elt env) (fun x s4 => wpAny (model prog w) A (call (.builtin "list.append") [acc, x]) (fun _ s5 => ∃ m, m < n ∧ I m s5) No s4) No s3) No s2) No s1) No s)
    (n : Nat) (h : I n s) : codeAny (model prog w) A (.compLoop (E3 elt t0 i0 t1 i1 t2 i2 sc pos) d it acc env) R s := by
  refine codeAny_loop rfl I (fun n s hI => ?_) n h
  show wpAny _ A ((compTurn (E3 elt t0 i0 t1 i1 t2 i2 sc pos) d it acc env).onRaise (fun x => do noteFrame x env; theTreesLotGoes x)) _ _ s
  refine wpAny_noted ?_
  rw [heq]
  refine wpAny_bind (wpAny_standAt (wpAny_bind (noF (turn n s hI) fun r s1 h1 => ?_)))
  cases r with
  | none => exact wpAny_pure h1
  | some v =>
    refine wpAny_bind (noF h1 fun _ s2 h2 => wpAny_bind (noF h2 fun _ s3 h3 => wpAny_bind (wpAny_tests_nil ?_)))
    exact wpAny_bind (wpAny_bind (noF h3 fun x s4 h4 => wpAny_bind (noF h4 fun _ s5 h5 => wpAny_pure (wpAny_pure ⟨rfl, h5⟩))))
theorem start_at {d : Nat} {g : Comprehension} (hd : ([⟨t0, i0, [], 0⟩, ⟨t1, i1, [], 0⟩, ⟨t2, i2, [], 0⟩] : List Comprehension)[d]? = some g) (ha : g.is_async = 0)
    (h0 : codeAny (model prog w) A (.compLoop (E3 elt t0 i0 t1 i1 t2 i2 sc pos) d it acc env) R s)
    (h : wpAny (model prog w) A (pyIter it) (fun j s' => codeAny (model prog w) A (.compLoop (E3 elt t0 i0 t1 i1 t2 i2 sc pos) d j acc env) R s') (notedBy (model prog w) A env fun x s' => R (.error x) s') s) :
    codeAny (model prog w) A (.compStart (E3 elt t0 i0 t1 i1 t2 i2 sc pos) d it acc env) R s := by
  refine codeAny_of_tree ?_
  show wpAny _ _ ((compStart (E3 elt t0 i0 t1 i1 t2 i2 sc pos) d it acc env).onRaise (fun x => do noteFrame x env; standAt theWindowsPlace)) _ _ s
  refine wpAny_notedAt ?_
  have hc : clausesOf (E3 elt t0 i0 t1 i1 t2 i2 sc pos) = [⟨t0, i0, [], 0⟩, ⟨t1, i1, [], 0⟩, ⟨t2, i2, [], 0⟩] := rfl
  unfold compStart
  rw [hc, hd]
  simp only [Option.elim, ha]
  show wpAny _ _ (ask >>= _) _ _ s
  refine wpAny_bind (wpAny_askSetting (wpAny_ite ?_))
  split
  · first
      | exact wpAny_bind (wpAny_pure (wpAny_pure (And.intro rfl h0)))
      | exact wpAny_pure (And.intro rfl h0)
  · refine wpAny_bind (wpAny_rule ?_)
    show wpAny _ _ (standAt g.iter.pos >>= _) _ _ s
    exact wpAny_bind (wpAny_standAt (wpAny_bind (wpAny_mono h (fun j s' h' => wpAny_pure (And.intro rfl h')) fun _ _ x => x)))
end
end Kx

namespace Kx
open PySem PySem.Spec PyProof.Rows L2
def topS (i : Nat) : Stmt := PySem.Challenge.pw_callsover_k05_first_stands.main.body.getD i (.Pass ⟨0, 0, 0, 0⟩)
abbrev sBag : Stmt := topS 10
abbrev sTake : Stmt := topS 11
abbrev sOpd : Stmt := topS 12
abbrev sExp : Stmt := topS 13
abbrev sRow : Stmt := topS 14
abbrev sText : Stmt := topS 15
theorem scBag : FnScope ["_law_script", "_law_at", "_law_cell", "_law_digits"] ["_law_script", "_law_at"] (defScope sBag) := ⟨rfl, rfl, rfl, by decide +kernel, rfl, by decide +kernel, by decide +kernel⟩
theorem scTake : FnScope ["_law_bag_here", "_law_many", "_law_digit", "_law_mixed"] ["_law_bag_here", "_law_many"] (defScope sTake) := ⟨rfl, rfl, rfl, by decide +kernel, rfl, by decide +kernel, by decide +kernel⟩
theorem scOpd : FnScope ["_law_bag_here", "_law_radix", "_law_number"] ["_law_bag_here", "_law_radix"] (defScope sOpd) := ⟨rfl, rfl, rfl, by decide +kernel, rfl, by decide +kernel, by decide +kernel⟩
theorem scExp : FnScope ["_law_bag_here", "_law_radix", "_law_left", "_law_right", "_law_sign"] ["_law_bag_here", "_law_radix"] (defScope sExp) := ⟨rfl, rfl, rfl, by decide +kernel, rfl, by decide +kernel, by decide +kernel⟩
section
variable {P : Program} {w : World} {K : PySem.W.Frag} {mg : Str → Option Value} {base : Heap}
def spBag (K : PySem.W.Frag) : Sp := fun vs H Q _ => ∃ (a : Addr) (ns : List Int) (i : Nat), vs = [.ref a, .int i] ∧ SqL K H a (ns.map V.int) ∧ i ≤ 1000 ∧ ∀ p H', H p = none → Bag H' p 0 → Same H H' → Q (.ref p) H'
theorem ok_bag {f : Addr} {fd : FuncData} {k : Nat} (F : Fun K "_law_bag" "_law_bag" sBag f fd) (ml : mg "len" = none) (ma : mg "abs" = none) : FnOk P w K mg base CX0 (k + 1) f fd ["_law_script", "_law_at"] (spBag K) := by
  refine F.ok scBag (fun vs H Q E h => ?_) (fun cdv A outer s H vs Q E hr h => ?_)
  · obtain ⟨a, ns, i, rfl, _⟩ := h
    rfl
  · obtain ⟨a, ns, i, rfl, hS, hi, q⟩ := h
    refine ⟨_, pss_cons (ps_set (i := 2) scBag.nd rfl (.inl rfl) (pe_ifExp (pt_cmpR op_lt (pv 1) (pe_callB call_len_seq (by rfl) ml PySem.boot_len (pa_cons (pv 0) pa_nil)) (nomark _)) (pe_ix ix_list (pv 0) (pv 1) (fun _ _ => rfl)) pe_int))
      (pss_cons (ps_set (i := 3) scBag.nd rfl (.inl rfl) (pe_ifExp (pt_cmpR op_ge (pe_callB call_abs (by rfl) ma (by decide +kernel) (pa_cons (pv 2) pa_nil)) (pe_op op_pow pe_int pe_int) (nomark _)) (pe_callB call_abs (by rfl) ma (by decide +kernel) (pa_cons (pv 2) pa_nil)) pe_int))
      (pss_one (ps_ret (pe_lst (pa_cons (pv 3) (pa_cons (pe_op op_mod (pe_op op_mul (pe_op op_add (pe_op op_add (pe_op op_mod (pv 2) pe_int) (pe_op op_mul pe_int (pv 1))) pe_int) pe_int) pe_int) (pa_cons pe_int pa_nil))))))), ?_⟩
    have fin : ∀ (c d : Int), 0 ≤ d → ∀ p, H p = none → Q (.ref p) (upd H p (.lst [.int d, .int ((c % 2305843009213693951 + 7919 * (i : Int) + 3) * 6700417 % 2305843009213693951), .int 0])) := fun c d hd p hp =>
      q p _ hp ⟨d, _, 0, upd_same, hd, Int.emod_nonneg _ (by decide), Int.emod_lt_of_pos _ (by decide), Nat.le_refl _⟩ (fun b o e => by rw [upd_ne (ne_of_none e hp)]; exact e)
    refine (fun (mid : ∀ c : Int, (?T : Int → Prop) c) => ?main) ?midp
    case main =>
      refine ⟨.int i, rfl, .ref a, rfl, a, _, rfl, .inl hS, _, _, rfl, rfl, _, rfl, ite2 (fun e => ?_) (fun e => ?_)⟩
      · have h1 : i < ns.length := by
          have := of_decide_eq_true e
          rw [List.length_map] at this
          omega
        refine ⟨.ref a, rfl, .int i, rfl, a, _, i, .int ns[i], rfl, rfl, hS, atI_nat (by rw [List.getElem?_map, List.getElem?_eq_getElem h1]; rfl), ?_⟩
        generalize ns[i] = c
        exact mid c
      · exact mid 0
    case midp =>
      intro c
      refine (fun (last : ∀ d : Int, 0 ≤ d → (?T2 : Int → Prop) d) => ?main) ?midp
      case main =>
        refine ⟨.int c, rfl, c, rfl, 10, 18, rfl, rfl, ⟨by decide, by decide, by decide⟩, _, _, rfl, rfl, _, rfl, ite2 (fun e => ⟨.int c, rfl, c, rfl, ?_⟩) (fun e => ?_)⟩
        · have hd : 0 ≤ (if c < 0 then -c else c) := by split <;> omega
          revert hd
          generalize (if c < 0 then -c else c) = d
          intro hd
          exact last d hd
        · exact last 0 (by decide)
      case midp =>
        intro d hd
        exact ⟨.int d, rfl, .int c, rfl, c, 2305843009213693951, rfl, rfl, pM, .int i, rfl, 7919, i, rfl, rfl, .inl ⟨by decide, by decide⟩, _, _, rfl, rfl, _, _, rfl, rfl, _, 6700417, rfl, rfl, .inr ⟨by decide, by decide⟩, _, _, rfl, rfl, pM, (by show 3 ≤ sizeLine; decide), fun p hp => fin c d hd p hp⟩
def spTake : Sp := fun vs H Q _ => ∃ (b : Addr) (n : Nat) (m : Int), vs = [.ref b, .int m] ∧ Bag H b n ∧ n ≤ 1000000 ∧ 1 ≤ m ∧ m ≤ 1000 ∧ ∀ (r : Int) H', 0 ≤ r → r < m → Bag H' b (n + 1) → SameX b H H' → Q (.int r) H'
theorem ok_take {f : Addr} {fd : FuncData} {k : Nat} (F : Fun K "_law_take" "_law_take" sTake f fd) : FnOk P w K mg base CX0 (k + 1) f fd ["_law_bag_here", "_law_many"] spTake := by
  refine F.ok scTake (fun vs H Q E h => ?_) (fun cdv A outer s H vs Q E hr h => ?_)
  · obtain ⟨b, n, m, rfl, _⟩ := h
    rfl
  · obtain ⟨b, n, m, rfl, ⟨d, x, c, hb, hd, hx, hx2, hc⟩, hn, hm, hm2, q⟩ := h
    refine ⟨_, pss_cons (ps_if (pt_cmpR op_gt (pe_ix ix_list (pv 0) pe_int (fun _ _ => rfl)) pe_int (nomark _))
        (pss_cons (ps_set (i := 2) scTake.nd rfl (.inl rfl) (pe_op op_mod (pe_ix ix_list (pv 0) pe_int (fun _ _ => rfl)) (pv 1)))
        (pss_cons (ps_asg (pe_op op_fdiv (pe_ix ix_list (pv 0) pe_int (fun _ _ => rfl)) (pv 1)) (pg_sub (pv 0) pe_int set_list))
        (pss_one (ps_ret (pv 2))))) pss_nil)
      (pss_cons (ps_asg (pe_op op_add (pe_ix ix_list (pv 0) pe_int (fun _ _ => rfl)) pe_int) (pg_sub (pv 0) pe_int set_list))
      (pss_cons (ps_set (i := 3) scTake.nd rfl (.inl rfl) (pe_op op_mod (pe_op op_pow (pe_op op_add (pe_ix ix_list (pv 0) pe_int (fun _ _ => rfl)) (pe_op op_mul pe_int (pe_ix ix_list (pv 0) pe_int (fun _ _ => rfl)))) pe_int) pe_int))
      (pss_cons (ps_set (i := 3) scTake.nd rfl (.inl rfl) (pe_op op_mod (pe_op op_pow (pe_op op_add (pv 3) (pe_op op_mul pe_int (pe_ix ix_list (pv 0) pe_int (fun _ _ => rfl)))) pe_int) pe_int))
      (pss_one (ps_ret (pe_op op_mod (pe_op op_fdiv (pv 3) pe_int) (pv 1))))))), ?_⟩
    have hL : SqL K H b [.int d, .int x, .int c] := SqL.of hb
    refine ⟨.ref b, rfl, b, _, 0, .int d, rfl, rfl, hL, atI_nat (j := 0) rfl, d, 0, rfl, rfl, _, rfl, ite2 (fun e => ?_) (fun e => ?_)⟩
    · have hd0 : 0 < d := of_decide_eq_true e
      refine ⟨.ref b, rfl, b, _, 0, .int d, rfl, rfl, hL, atI_nat (j := 0) rfl, .int m, rfl, d, m, rfl, rfl, (by show 0 < m; omega), ?_⟩
      refine ⟨.ref b, rfl, b, _, 0, .int d, rfl, rfl, hL, atI_nat (j := 0) rfl, .int m, rfl, d, m, rfl, rfl, ⟨by omega, by omega⟩, ?_⟩
      refine ⟨.ref b, rfl, b, _, 0, 0, rfl, rfl, hb, rfl, ?_⟩
      refine ⟨_, rfl, q (d % m) _ (Int.emod_nonneg _ (by omega)) (Int.emod_lt_of_pos _ (by omega)) ⟨d / m, x, c, upd_same, Int.ediv_nonneg hd (by omega), hx, hx2, by omega⟩ (fun a o ne e => by rw [upd_ne ne]; exact e)⟩
    · refine ⟨.ref b, rfl, b, _, 2, .int c, rfl, rfl, hL, atI_nat (j := 2) rfl, c, 1, rfl, rfl, ?_⟩
      refine ⟨.ref b, rfl, b, _, 2, 2, rfl, rfl, hb, rfl, ?_⟩
      have hL2 : SqL K (upd H b (.lst [.int d, .int x, .int (c + 1)])) b [.int d, .int x, .int (c + 1)] := SqL.of upd_same
      refine ⟨.ref b, rfl, b, _, 1, .int x, rfl, rfl, hL2, atI_nat (j := 1) rfl, .ref b, rfl, b, _, 2, .int (c + 1), rfl, rfl, hL2, atI_nat (j := 2) rfl, 1000003, _, rfl, rfl, .inl ⟨by decide, by decide⟩, _, _, rfl, rfl, _, 3, rfl, rfl, ⟨by decide, by decide, ?_⟩, _, 2305843009213693921, rfl, rfl, pM2, ?_⟩
      · omega
      refine ⟨_, rfl, .ref b, rfl, b, _, 2, .int (c + 1), rfl, rfl, hL2, atI_nat (j := 2) rfl, 15485863, _, rfl, rfl, .inl ⟨by decide, by decide⟩, _, _, rfl, rfl, _, 2, rfl, rfl, ⟨by decide, by decide, ?_⟩, _, 2305843009213693951, rfl, rfl, pM, ?_⟩
      · show Int.natAbs ((x + 1000003 * ((c : Int) + 1)) ^ Int.toNat 3 % 2305843009213693921 + 15485863 * ((c : Int) + 1)) < 2 ^ 64
        generalize e1 : (x + 1000003 * ((c : Int) + 1)) ^ Int.toNat 3 % 2305843009213693921 = y
        have y0 : 0 ≤ y := e1 ▸ Int.emod_nonneg _ (by decide)
        have y1 : y < 2305843009213693921 := e1 ▸ Int.emod_lt_of_pos _ (by decide)
        omega
      refine ⟨_, rfl, _, 1024, rfl, rfl, ⟨by decide, by decide⟩, .int m, rfl, _, m, rfl, rfl, (by show 0 < m; omega), ?_⟩
      exact q _ _ (Int.emod_nonneg _ (by omega)) (Int.emod_lt_of_pos _ (by omega)) ⟨d, x, c + 1, upd_same, hd, hx, hx2, by omega⟩ (fun a o ne e => by rw [upd_ne ne]; exact e)
def spOpd (K : PySem.W.Frag) : Sp := fun vs H Q _ => ∃ (b : Addr) (n : Nat) (m : Int), vs = [.ref b, .int m] ∧ Bag H b n ∧ n ≤ 900000 ∧ 1 ≤ m ∧ m ≤ 1000 ∧ ∀ (v : V) (o : Op) H', o.ok m → Dt K H' v o.d → Bag H' b (n + 2) → SameX b H H' → Q v H'
theorem ok_opd {f fT : Addr} {fd fdT : FuncData} {k : Nat} (F : Fun K "_law_operand" "_law_operand" sOpd f fd) (FT : Fun K "_law_take" "_law_take" sTake fT fdT) (bT : Binds K fdT ["_law_bag_here", "_law_many"] []) (gT : mg "_law_take" = some (.ref fT)) :
    FnOk P w K mg base CX0 (k + 2) f fd ["_law_bag_here", "_law_radix"] (spOpd K) := by
  have GT : FnOk P w K mg base CX0 (k + 1) fT fdT ["_law_bag_here", "_law_many"] spTake := ok_take FT
  refine F.ok scOpd (fun vs H Q E h => ?_) (fun cdv A outer s H vs Q E hr h => ?_)
  · obtain ⟨b, n, m, rfl, _⟩ := h
    rfl
  · obtain ⟨b, n, m, rfl, B, hn, hm, hm2, q⟩ := h
    refine ⟨_, pss_cons (ps_set (i := 2) scOpd.nd rfl (.inl rfl) (pe_call GT hr (by rfl) gT FT.kp bT .nil pass0 (pa_cons (pv 0) (pa_cons (pv 1) pa_nil))))
      (pss_one (ps_ret (pe_ix ix_list (pe_lst (pa_cons pe_str (pa_cons pe_str (pa_cons (pv 2) pa_nil)))) (pe_call GT hr (by rfl) gT FT.kp bT .nil pass0 (pa_cons (pv 0) (pa_cons pe_int pa_nil))) (fun _ _ => rfl)))), ?_⟩
    refine ⟨.ref b, rfl, .int m, rfl, b, n, m, rfl, B, by omega, hm, hm2, fun r H1 r0 r1 B1 s1 => ?_⟩
    refine ⟨.int r, rfl, (by show 3 ≤ sizeLine; decide), fun l hl => ?_⟩
    refine ⟨.ref b, rfl, b, n + 1, 3, rfl, B1.new hl, by omega, by decide, by decide, fun j H2 j0 j1 B2 s2 => ?_⟩
    have sx : SameX b H H2 := s1.trans ((SameX.new hl).trans s2)
    have hL : SqL K H2 l [.str "x", .str "y", .int r] := SqL.of (s2 _ _ (B1.ne hl) upd_same)
    rcases (by omega : j = 0 ∨ j = 1 ∨ j = 2) with rfl | rfl | rfl
    · exact ⟨l, _, 0, _, rfl, rfl, hL, atI_nat (j := 0) rfl, q _ .x H2 trivial (.str _) B2 sx⟩
    · exact ⟨l, _, 1, _, rfl, rfl, hL, atI_nat (j := 1) rfl, q _ .y H2 trivial (.str _) B2 sx⟩
    · exact ⟨l, _, 2, _, rfl, rfl, hL, atI_nat (j := 2) rfl, q _ (.n r) H2 ⟨r0, r1⟩ (.int _) B2 sx⟩
def spExp (K : PySem.W.Frag) : Sp := fun vs H Q _ => ∃ (b : Addr) (n : Nat) (m : Int), vs = [.ref b, .int m] ∧ Bag H b n ∧ n ≤ 800000 ∧ 1 ≤ m ∧ m ≤ 1000 ∧ ∀ (v : V) (o : Ex) H', o.ok m → Dt K H' v o.d → Bag H' b (n + 6) → SameX b H H' → Q v H'
theorem ok_exp {f fT fO : Addr} {fd fdT fdO : FuncData} {k : Nat} (F : Fun K "_law_expression" "_law_expression" sExp f fd) (FT : Fun K "_law_take" "_law_take" sTake fT fdT) (bT : Binds K fdT ["_law_bag_here", "_law_many"] []) (gT : mg "_law_take" = some (.ref fT))
    (FO : Fun K "_law_operand" "_law_operand" sOpd fO fdO) (bO : Binds K fdO ["_law_bag_here", "_law_radix"] []) (gO : mg "_law_operand" = some (.ref fO)) :
    FnOk P w K mg base CX0 (k + 3) f fd ["_law_bag_here", "_law_radix"] (spExp K) := by
  have GT : FnOk P w K mg base CX0 (k + 2) fT fdT ["_law_bag_here", "_law_many"] spTake := ok_take FT
  have GO : FnOk P w K mg base CX0 (k + 2) fO fdO ["_law_bag_here", "_law_radix"] (spOpd K) := ok_opd FO FT bT gT
  refine F.ok scExp (fun vs H Q E h => ?_) (fun cdv A outer s H vs Q E hr h => ?_)
  · obtain ⟨b, n, m, rfl, _⟩ := h
    rfl
  · obtain ⟨b, n, m, rfl, B, hn, hm, hm2, q⟩ := h
    refine ⟨_, pss_cons (ps_par (i := 2) (j := 3) (by rfl) scExp.nd rfl rfl (by decide) rfl rfl (pa_cons (pe_call GO hr (by rfl) gO FO.kp bO .nil pass0 (pa_cons (pv 0) (pa_cons (pv 1) pa_nil))) (pa_cons (pe_call GO hr (by rfl) gO FO.kp bO .nil pass0 (pa_cons (pv 0) (pa_cons (pv 1) pa_nil))) pa_nil)) (by rfl))
      (pss_cons (ps_set (i := 4) scExp.nd rfl (.inl rfl) (pe_ix ix_list (pe_lst (pa_cons pe_str (pa_cons pe_str (pa_cons pe_str pa_nil)))) (pe_call GT hr (by rfl) gT FT.kp bT .nil pass0 (pa_cons (pv 0) (pa_cons pe_int pa_nil))) (fun _ _ => rfl)))
      (pss_one (ps_ret (pe_ix ix_list (pe_lst (pa_cons (pv 2) (pa_cons (pv 2) (pa_cons (pe_tup (pa_cons (pv 4) (pa_cons (pv 2) (pa_cons (pv 3) pa_nil)))) pa_nil)))) (pe_call GT hr (by rfl) gT FT.kp bT .nil pass0 (pa_cons (pv 0) (pa_cons pe_int pa_nil))) (fun _ _ => rfl))))), ?_⟩
    refine ⟨.ref b, rfl, .int m, rfl, b, n, m, rfl, B, by omega, hm, hm2, fun v1 o1 H1 ok1 d1 B1 s1 => ?_⟩
    refine ⟨.ref b, rfl, .int m, rfl, b, n + 2, m, rfl, B1, by omega, hm, hm2, fun v2 o2 H2 ok2 d2 B2 s2 => ?_⟩
    refine ⟨v1, v2, rfl, (by show 3 ≤ sizeLine; decide), fun l hl => ?_⟩
    refine ⟨.ref b, rfl, b, n + 4, 3, rfl, B2.new hl, by omega, by decide, by decide, fun j H3 j0 j1 B3 s3 => ?_⟩
    have hL : SqL K H3 l [.str "+", .str "-", .str "*"] := SqL.of (s3 _ _ (B2.ne hl) upd_same)
    obtain ⟨z, hz, ha⟩ : ∃ z : Str, (z = "+" ∨ z = "-" ∨ z = "*") ∧ atI [V.str "+", V.str "-", V.str "*"] j = some (.str z) := by
      rcases (by omega : j = 0 ∨ j = 1 ∨ j = 2) with rfl | rfl | rfl
      · exact ⟨_, .inl rfl, atI_nat (j := 0) rfl⟩
      · exact ⟨_, .inr (.inl rfl), atI_nat (j := 1) rfl⟩
      · exact ⟨_, .inr (.inr rfl), atI_nat (j := 2) rfl⟩
    refine ⟨l, _, j, .str z, rfl, rfl, hL, ha, ?_⟩
    refine ⟨v1, rfl, v1, rfl, .str z, rfl, v1, rfl, v2, rfl, (by show 3 ≤ sizeLine; decide), fun t ht => ⟨(by show 3 ≤ sizeLine; decide), fun l2 hl2 => ?_⟩⟩
    have k13 : KeepT K H1 H3 := (keepT_x B1 s2).trans ((keepT_same (same_new hl)).trans (keepT_x (B2.new hl) s3))
    have k23 : KeepT K H2 H3 := (keepT_same (same_new hl)).trans (keepT_x (B2.new hl) s3)
    have e1 := d1.keep k13
    have e2 := d2.keep k23
    have dT : Dt K (upd H3 t (.tup [.str z, v1, v2])) (.ref t) (Ex.t z o1 o2).d := dt_new ht (.cons (.str z) (.cons e1 (.cons e2 .nil)))
    have B4 := (B3.new ht (o := .tup [.str z, v1, v2])).new hl2 (o := .lst [v1, v1, .ref t])
    refine ⟨.ref b, rfl, b, n + 4 + 1, 3, rfl, B4, by omega, by decide, by decide, fun j' H5 j0' j1' B5 s5 => ?_⟩
    have sx : SameX b H H5 := s1.trans (s2.trans ((SameX.new hl).trans (s3.trans ((SameX.new ht).trans ((SameX.new hl2).trans s5)))))
    have k5 : KeepT K (upd H3 t (.tup [.str z, v1, v2])) H5 := (keepT_same (same_new hl2)).trans (keepT_x B4 s5)
    have k35 : KeepT K H3 H5 := (keepT_same (same_new ht)).trans k5
    have hL2 : SqL K H5 l2 [v1, v1, .ref t] := SqL.of (s5 _ _ ((B3.new ht).ne hl2) upd_same)
    rcases (by omega : j' = 0 ∨ j' = 1 ∨ j' = 2) with rfl | rfl | rfl
    · exact ⟨l2, _, 0, _, rfl, rfl, hL2, atI_nat (j := 0) rfl, q _ (.o o1) H5 ok1 (e1.keep k35) B5 sx⟩
    · exact ⟨l2, _, 1, _, rfl, rfl, hL2, atI_nat (j := 1) rfl, q _ (.o o1) H5 ok1 (e1.keep k35) B5 sx⟩
    · exact ⟨l2, _, 2, _, rfl, rfl, hL2, atI_nat (j := 2) rfl, q _ (.t z o1 o2) H5 ⟨hz, ok1, ok2⟩ (dT.keep k5) B5 sx⟩
end
end Kx

namespace Kx
open PySem PySem.Spec PyProof.Rows L2
theorem scRow : FnScope ["_law_bag_here", "_law_radix", "_law_many", "_law_names", "_law_one", "_law_other", "_law_variable", "_law_name", "_law_goal", "_law_cell", "_law_some"] ["_law_bag_here", "_law_radix", "_law_many", "_law_names"] (defScope sRow) := ⟨rfl, rfl, rfl, by decide +kernel, rfl, by decide +kernel, by decide +kernel⟩
section
variable {P : Program} {w : World} {K : PySem.W.Frag} {mg : Str → Option Value} {base : Heap}
def spRow (K : PySem.W.Frag) : Sp := fun vs H Q _ => ∃ (b nn : Addr) (n : Nat) (m k : Int) (N : List Str), vs = [.ref b, .int m, .int k, .ref nn] ∧ Bag H b n ∧ n ≤ 700000 ∧ 1 ≤ m ∧ m ≤ 1000 ∧ 0 ≤ k ∧ k ≤ 900 ∧ nn ≠ b ∧ SqL K H nn (N.map V.str) ∧ 0 < N.length ∧ N.length ≤ 1000 ∧
    ∀ (v : V) (o : Rw) H', o.ok m k N → Dt K H' v o.d → Bag H' b (n + 17) → SameX b H H' → Q v H'
theorem ok_row {f fT fO fE : Addr} {fd fdT fdO fdE : FuncData} {k : Nat} (F : Fun K "_law_row" "_law_row" sRow f fd) (FT : Fun K "_law_take" "_law_take" sTake fT fdT) (bT : Binds K fdT ["_law_bag_here", "_law_many"] []) (gT : mg "_law_take" = some (.ref fT))
    (FO : Fun K "_law_operand" "_law_operand" sOpd fO fdO) (bO : Binds K fdO ["_law_bag_here", "_law_radix"] []) (gO : mg "_law_operand" = some (.ref fO))
    (FE : Fun K "_law_expression" "_law_expression" sExp fE fdE) (bE : Binds K fdE ["_law_bag_here", "_law_radix"] []) (gE : mg "_law_expression" = some (.ref fE)) (ml : mg "len" = none) :
    FnOk P w K mg base CX0 (k + 4) f fd ["_law_bag_here", "_law_radix", "_law_many", "_law_names"] (spRow K) := by
  have GT : FnOk P w K mg base CX0 (k + 3) fT fdT ["_law_bag_here", "_law_many"] spTake := ok_take FT
  have GE : FnOk P w K mg base CX0 (k + 3) fE fdE ["_law_bag_here", "_law_radix"] (spExp K) := ok_exp FE FT bT gT FO bO gO
  refine F.ok scRow (fun vs H Q E h => ?_) (fun cdv A outer s H vs Q E hr h => ?_)
  · obtain ⟨b, nn, n, m, k, N, rfl, _⟩ := h
    rfl
  · obtain ⟨b, nn, n, m, k, N, rfl, B, hn, hm, hm2, hk, hk2, nnb, hN, hN0, hN1, q⟩ := h
    refine ⟨_, pss_cons (ps_par (i := 4) (j := 5) (by rfl) scRow.nd rfl rfl (by decide) rfl rfl (pa_cons (pe_call GE hr (by rfl) gE FE.kp bE .nil pass0 (pa_cons (pv 0) (pa_cons (pv 1) pa_nil))) (pa_cons (pe_call GE hr (by rfl) gE FE.kp bE .nil pass0 (pa_cons (pv 0) (pa_cons (pv 1) pa_nil))) pa_nil)) (by rfl))
      (pss_cons (ps_par (i := 6) (j := 7) (by rfl) scRow.nd rfl rfl (by decide) rfl rfl (pa_cons (pe_ix ix_list (pe_lst (pa_cons pe_str (pa_cons pe_str pa_nil))) (pe_call GT hr (by rfl) gT FT.kp bT .nil pass0 (pa_cons (pv 0) (pa_cons pe_int pa_nil))) (fun _ _ => rfl)) (pa_cons (pe_ix ix_list (pv 3) (pe_call GT hr (by rfl) gT FT.kp bT .nil pass0 (pa_cons (pv 0) (pa_cons (pe_callB call_len_seq (by rfl) ml PySem.boot_len (pa_cons (pv 3) pa_nil)) pa_nil))) (fun _ _ => rfl)) pa_nil)) (by rfl))
      (pss_cons (ps_par (i := 8) (j := 9) (by rfl) scRow.nd rfl rfl (by decide) rfl rfl (pa_cons (pe_call GT hr (by rfl) gT FT.kp bT .nil pass0 (pa_cons (pv 0) (pa_cons (pe_op op_add (pv 2) pe_int) pa_nil))) (pa_cons (pe_call GT hr (by rfl) gT FT.kp bT .nil pass0 (pa_cons (pv 0) (pa_cons pe_int pa_nil))) pa_nil)) (by rfl))
      (pss_cons (ps_set (i := 10) scRow.nd rfl (.inl rfl) (pe_lst (pa_cons (pe_tup (pa_cons pe_str (pa_cons (pv 4) pa_nil))) (pa_cons (pe_tup (pa_cons pe_str (pa_cons (pv 6) pa_nil))) (pa_cons (pe_tup (pa_cons pe_str (pa_cons (pv 4) pa_nil))) (pa_cons (pe_tup (pa_cons pe_str (pa_cons (pv 6) pa_nil))) (pa_cons (pe_tup (pa_cons pe_str (pa_cons (pv 6) (pa_cons (pv 4) pa_nil)))) pa_nil)))))))
      (pss_cons (ps_set (i := 10) scRow.nd rfl (.inl rfl) (pe_op op_cat (pv 10) (pe_lst (pa_cons (pe_tup (pa_cons pe_str (pa_cons (pv 4) (pa_cons (pv 5) (pa_cons (pv 8) pa_nil))))) (pa_cons (pe_tup (pa_cons pe_str (pa_cons (pv 9) (pa_cons (pv 6) pa_nil)))) (pa_cons (pe_tup (pa_cons pe_str (pa_cons (pv 9) (pa_cons (pv 4) pa_nil)))) (pa_cons (pe_tup (pa_cons pe_str (pa_cons (pv 8) pa_nil))) pa_nil)))))))
      (pss_one (ps_ret (pe_ix ix_list (pe_op op_cat (pv 10) (pe_lst (pa_cons (pe_tup (pa_cons pe_str (pa_cons (pv 7) (pa_cons (pv 4) (pa_cons (pv 6) pa_nil))))) (pa_cons (pe_tup (pa_cons pe_str (pa_cons (pv 4) pa_nil))) (pa_cons (pe_tup (pa_cons pe_str (pa_cons (pv 4) (pa_cons (pv 5) (pa_cons (pv 8) pa_nil))))) pa_nil))))) (pe_call GT hr (by rfl) gT FT.kp bT .nil pass0 (pa_cons (pv 0) (pa_cons pe_int pa_nil))) (fun _ _ => rfl)))))))), ?_⟩
    refine ⟨.ref b, rfl, .int m, rfl, b, n, m, rfl, B, by omega, hm, hm2, fun v1 o1 H1 ok1 d1 B1 s1 => ?_⟩
    refine ⟨.ref b, rfl, .int m, rfl, b, n + 6, m, rfl, B1, by omega, hm, hm2, fun v2 o2 H2 ok2 d2 B2 s2 => ?_⟩
    refine ⟨v1, v2, rfl, (by show 2 ≤ sizeLine; decide), fun l hl => ?_⟩
    refine ⟨.ref b, rfl, b, n + 12, 2, rfl, B2.new hl, by omega, by decide, by decide, fun j H3 j0 j1 B3 s3 => ?_⟩
    have hL : SqL K H3 l [.str "x", .str "y"] := SqL.of (s3 _ _ (B2.ne hl) upd_same)
    obtain ⟨z, hz, ha⟩ : ∃ z : Str, vok z ∧ atI [V.str "x", V.str "y"] j = some (.str z) := by
      rcases (by omega : j = 0 ∨ j = 1) with rfl | rfl
      · exact ⟨_, .inl rfl, atI_nat (j := 0) rfl⟩
      · exact ⟨_, .inr rfl, atI_nat (j := 1) rfl⟩
    refine ⟨l, _, j, .str z, rfl, rfl, hL, ha, ?_⟩
    have x3 : SameX b H H3 := s1.trans (s2.trans ((SameX.new hl).trans s3))
    have hN3 := x3.seq nnb hN
    refine ⟨.ref nn, rfl, .ref b, rfl, .ref nn, rfl, nn, _, rfl, .inl hN3, b, n + 13, _, rfl, B3, by omega, ?_, ?_, fun j2 H4 j20 j21 B4 s4 => ?_⟩
    · rw [List.length_map]
      omega
    · rw [List.length_map]
      omega
    obtain ⟨nm, hnm, ha2⟩ : ∃ nm : Str, nm ∈ N ∧ atI (N.map V.str) j2 = some (.str nm) := by
      rw [List.length_map] at j21
      obtain ⟨i, rfl⟩ : ∃ i : Nat, j2 = i := ⟨j2.toNat, by omega⟩
      have hi : i < N.length := by omega
      exact ⟨N[i], List.getElem_mem hi, atI_nat (by rw [List.getElem?_map, List.getElem?_eq_getElem hi]; rfl)⟩
    refine ⟨nn, _, j2, .str nm, rfl, rfl, s4.seq nnb hN3, ha2, .str z, .str nm, rfl, ?_⟩
    refine ⟨.ref b, rfl, .int k, rfl, k, 1, rfl, rfl, b, n + 14, k + 1, rfl, B4, by omega, by omega, by omega, fun g H5 g0 g1 B5 s5 => ?_⟩
    refine ⟨.ref b, rfl, b, n + 15, 2, rfl, B5, by omega, by decide, by decide, fun c H6 c0 c1 B6 s6 => ?_⟩
    have k13 : KeepT K H2 H3 := (keepT_same (same_new hl)).trans (keepT_x (B2.new hl) s3)
    have k36 : KeepT K H3 H6 := (keepT_x B3 s4).trans ((keepT_x B4 s5).trans (keepT_x B5 s6))
    have x6 : SameX b H H6 := x3.trans (s4.trans (s5.trans s6))
    have e1 : Dt K H6 v1 o1.d := d1.keep ((keepT_x B1 s2).trans (k13.trans k36))
    have e2 : Dt K H6 v2 o2.d := d2.keep (k13.trans k36)
    refine ⟨.int g, .int c, rfl, ?_⟩
    refine ⟨v1, rfl, (by show 2 ≤ sizeLine; decide), fun t1 h1 => ?_⟩
    refine ⟨.str z, rfl, (by show 2 ≤ sizeLine; decide), fun t2 h2 => ?_⟩
    refine ⟨v1, rfl, (by show 2 ≤ sizeLine; decide), fun t3 h3 => ?_⟩
    refine ⟨.str z, rfl, (by show 2 ≤ sizeLine; decide), fun t4 h4 => ?_⟩
    refine ⟨.str z, rfl, v1, rfl, (by show 3 ≤ sizeLine; decide), fun t5 h5 => ?_⟩
    refine ⟨(by show 5 ≤ sizeLine; decide), fun l1 hl1 => ?_⟩
    refine ⟨.ref l1, rfl, v1, rfl, v2, rfl, .int g, rfl, (by show 4 ≤ sizeLine; decide), fun t6 h6 => ?_⟩
    refine ⟨.int c, rfl, .str z, rfl, (by show 3 ≤ sizeLine; decide), fun t7 h7 => ?_⟩
    refine ⟨.int c, rfl, v1, rfl, (by show 3 ≤ sizeLine; decide), fun t8 h8 => ?_⟩
    refine ⟨.int g, rfl, (by show 2 ≤ sizeLine; decide), fun t9 h9 => ?_⟩
    refine ⟨(by show 4 ≤ sizeLine; decide), fun l2 hl2 => ?_⟩
    have L1 := (same_new hl2 (o := .lst [.ref t6, .ref t7, .ref t8, .ref t9])) l1 _ ((same_new h9 (o := .tup [.str "go", .int g])) l1 _ ((same_new h8 (o := .tup [.str "write", .int c, v1])) l1 _ ((same_new h7 (o := .tup [.str "read", .int c, .str z])) l1 _ ((same_new h6 (o := .tup [.str "if", v1, v2, .int g])) l1 _ (upd_same (o := HO.lst [.ref t1, .ref t2, .ref t3, .ref t4, .ref t5]))))))
    refine ⟨l1, l2, _, _, rfl, rfl, L1, upd_same, (by show 9 ≤ sizeLine; decide), fun p1 hp1 => ?_⟩
    refine ⟨.ref p1, rfl, .str nm, rfl, v1, rfl, .str z, rfl, (by show 4 ≤ sizeLine; decide), fun t10 h10 => ?_⟩
    refine ⟨v1, rfl, (by show 2 ≤ sizeLine; decide), fun t11 h11 => ?_⟩
    refine ⟨v1, rfl, v2, rfl, .int g, rfl, (by show 4 ≤ sizeLine; decide), fun t12 h12 => ?_⟩
    refine ⟨(by show 3 ≤ sizeLine; decide), fun l3 hl3 => ?_⟩
    have L2 := (same_new hl3 (o := .lst [.ref t10, .ref t11, .ref t12])) p1 _ ((same_new h12 (o := .tup [.str "if", v1, v2, .int g])) p1 _ ((same_new h11 (o := .tup [.str "end", v1])) p1 _ ((same_new h10 (o := .tup [.str "call", .str nm, v1, .str z])) p1 _ (upd_same (o := HO.lst [.ref t1, .ref t2, .ref t3, .ref t4, .ref t5, .ref t6, .ref t7, .ref t8, .ref t9])))))
    refine ⟨p1, l3, _, _, rfl, rfl, L2, upd_same, (by show 12 ≤ sizeLine; decide), fun p2 hp2 => ?_⟩
    have S1 := same_new h1 (o := .tup [.str "say", v1])
    have S2 := same_new h2 (o := .tup [.str "ask", .str z])
    have S3 := same_new h3 (o := .tup [.str "say", v1])
    have S4 := same_new h4 (o := .tup [.str "ask", .str z])
    have S5 := same_new h5 (o := .tup [.str "set", .str z, v1])
    have S6 := same_new hl1 (o := .lst [.ref t1, .ref t2, .ref t3, .ref t4, .ref t5])
    have S7 := same_new h6 (o := .tup [.str "if", v1, v2, .int g])
    have S8 := same_new h7 (o := .tup [.str "read", .int c, .str z])
    have S9 := same_new h8 (o := .tup [.str "write", .int c, v1])
    have S10 := same_new h9 (o := .tup [.str "go", .int g])
    have S11 := same_new hl2 (o := .lst [.ref t6, .ref t7, .ref t8, .ref t9])
    have S12 := same_new hp1 (o := .lst [.ref t1, .ref t2, .ref t3, .ref t4, .ref t5, .ref t6, .ref t7, .ref t8, .ref t9])
    have S13 := same_new h10 (o := .tup [.str "call", .str nm, v1, .str z])
    have S14 := same_new h11 (o := .tup [.str "end", v1])
    have S15 := same_new h12 (o := .tup [.str "if", v1, v2, .int g])
    have S16 := same_new hl3 (o := .lst [.ref t10, .ref t11, .ref t12])
    have S17 := same_new hp2 (o := .lst [.ref t1, .ref t2, .ref t3, .ref t4, .ref t5, .ref t6, .ref t7, .ref t8, .ref t9, .ref t10, .ref t11, .ref t12])
    have R16 := S17
    have R15 := S16.trans R16
    have R14 := S15.trans R15
    have R13 := S14.trans R14
    have R12 := S13.trans R13
    have R11 := S12.trans R12
    have R10 := S11.trans R11
    have R9 := S10.trans R10
    have R8 := S9.trans R9
    have R7 := S8.trans R8
    have R6 := S7.trans R7
    have R5 := S6.trans R6
    have R4 := S5.trans R5
    have R3 := S4.trans R4
    have R2 := S3.trans R3
    have R1 := S2.trans R2
    have R0 := S1.trans R1
    have B7 := B6.same R0
    refine ⟨.ref b, rfl, b, n + 16, 12, rfl, B7, by omega, by decide, by decide, fun x Hf x0 x1 Bf sf => ?_⟩
    have kf := keepT_x (K := K) B7 sf
    have sx : SameX b H Hf := x6.trans ((Same.x R0).trans sf)
    have f1 := e1.keep ((keepT_same R0).trans kf)
    have f2 := e2.keep ((keepT_same R0).trans kf)
    have hP : SqL K Hf p2 [.ref t1, .ref t2, .ref t3, .ref t4, .ref t5, .ref t6, .ref t7, .ref t8, .ref t9, .ref t10, .ref t11, .ref t12] := SqL.of (sf _ _ (Bag.ne (B6.same (S1.trans (S2.trans (S3.trans (S4.trans (S5.trans (S6.trans (S7.trans (S8.trans (S9.trans (S10.trans (S11.trans (S12.trans (S13.trans (S14.trans (S15.trans (S16))))))))))))))))) hp2) upd_same)
    rcases (by omega : x = 0 ∨ x = 1 ∨ x = 2 ∨ x = 3 ∨ x = 4 ∨ x = 5 ∨ x = 6 ∨ x = 7 ∨ x = 8 ∨ x = 9 ∨ x = 10 ∨ x = 11) with rfl | rfl | rfl | rfl | rfl | rfl | rfl | rfl | rfl | rfl | rfl | rfl
    · exact ⟨p2, _, 0, _, rfl, rfl, hP, atI_nat (j := 0) rfl, q _ (.say o1) Hf ok1 (.tup (kf _ _ (SqT.of (R1 t1 _ upd_same))) (.cons (.str _) (.cons f1 .nil))) Bf sx⟩
    · exact ⟨p2, _, 1, _, rfl, rfl, hP, atI_nat (j := 1) rfl, q _ (.ask z) Hf hz (.tup (kf _ _ (SqT.of (R2 t2 _ upd_same))) (.cons (.str _) (.cons (.str _) .nil))) Bf sx⟩
    · exact ⟨p2, _, 2, _, rfl, rfl, hP, atI_nat (j := 2) rfl, q _ (.say o1) Hf ok1 (.tup (kf _ _ (SqT.of (R3 t3 _ upd_same))) (.cons (.str _) (.cons f1 .nil))) Bf sx⟩
    · exact ⟨p2, _, 3, _, rfl, rfl, hP, atI_nat (j := 3) rfl, q _ (.ask z) Hf hz (.tup (kf _ _ (SqT.of (R4 t4 _ upd_same))) (.cons (.str _) (.cons (.str _) .nil))) Bf sx⟩
    · exact ⟨p2, _, 4, _, rfl, rfl, hP, atI_nat (j := 4) rfl, q _ (.set z o1) Hf ⟨hz, ok1⟩ (.tup (kf _ _ (SqT.of (R5 t5 _ upd_same))) (.cons (.str _) (.cons (.str _) (.cons f1 .nil)))) Bf sx⟩
    · exact ⟨p2, _, 5, _, rfl, rfl, hP, atI_nat (j := 5) rfl, q _ (.iff o1 o2 g) Hf ⟨ok1, ok2, g0, by omega⟩ (.tup (kf _ _ (SqT.of (R7 t6 _ upd_same))) (.cons (.str _) (.cons f1 (.cons f2 (.cons (.int _) .nil))))) Bf sx⟩
    · exact ⟨p2, _, 6, _, rfl, rfl, hP, atI_nat (j := 6) rfl, q _ (.read c z) Hf ⟨by omega, hz⟩ (.tup (kf _ _ (SqT.of (R8 t7 _ upd_same))) (.cons (.str _) (.cons (.int _) (.cons (.str _) .nil)))) Bf sx⟩
    · exact ⟨p2, _, 7, _, rfl, rfl, hP, atI_nat (j := 7) rfl, q _ (.write c o1) Hf ⟨by omega, ok1⟩ (.tup (kf _ _ (SqT.of (R9 t8 _ upd_same))) (.cons (.str _) (.cons (.int _) (.cons f1 .nil)))) Bf sx⟩
    · exact ⟨p2, _, 8, _, rfl, rfl, hP, atI_nat (j := 8) rfl, q _ (.go g) Hf ⟨g0, by omega⟩ (.tup (kf _ _ (SqT.of (R10 t9 _ upd_same))) (.cons (.str _) (.cons (.int _) .nil))) Bf sx⟩
    · exact ⟨p2, _, 9, _, rfl, rfl, hP, atI_nat (j := 9) rfl, q _ (.call nm o1 z) Hf ⟨hnm, ok1, hz⟩ (.tup (kf _ _ (SqT.of (R13 t10 _ upd_same))) (.cons (.str _) (.cons (.str _) (.cons f1 (.cons (.str _) .nil))))) Bf sx⟩
    · exact ⟨p2, _, 10, _, rfl, rfl, hP, atI_nat (j := 10) rfl, q _ (.fin o1) Hf ok1 (.tup (kf _ _ (SqT.of (R14 t11 _ upd_same))) (.cons (.str _) (.cons f1 .nil))) Bf sx⟩
    · exact ⟨p2, _, 11, _, rfl, rfl, hP, atI_nat (j := 11) rfl, q _ (.iff o1 o2 g) Hf ⟨ok1, ok2, g0, by omega⟩ (.tup (kf _ _ (SqT.of (R15 t12 _ upd_same))) (.cons (.str _) (.cons f1 (.cons f2 (.cons (.int _) .nil))))) Bf sx⟩
end
end Kx

namespace Kx
open PySem PySem.Spec PyProof.Rows L2
theorem scText : FnScope ["_law_bag_here", "_law_radix", "_law_most", "_law_names", "_law_many", "_law_k"] ["_law_bag_here", "_law_radix", "_law_most", "_law_names"] (defScope sText) := ⟨rfl, rfl, rfl, by decide +kernel, rfl, by decide +kernel, by decide +kernel⟩
section
variable {P : Program} {w : World} {K : PySem.W.Frag} {mg : Str → Option Value} {base : Heap}
def spText (K : PySem.W.Frag) : Sp := fun vs H Q _ => ∃ (b nn : Addr) (n : Nat) (m : Int) (k : Nat) (N : List Str), vs = [.ref b, .int m, .int k, .ref nn] ∧ Bag H b n ∧ n ≤ 100000 ∧ 1 ≤ m ∧ m ≤ 1000 ∧ k ≤ 900 ∧ nn ≠ b ∧ SqL K H nn (N.map V.str) ∧ 0 < N.length ∧ N.length ≤ 1000 ∧
    ∀ (v : V) (t : List Rw) H', t.length ≤ k → Tx.ok m N t → Dt K H' v (Tx.d t) → Bag H' b (n + 1 + 17 * k) → SameX b H H' → Q v H'
theorem ok_text {f fT fO fE fR : Addr} {fd fdT fdO fdE fdR : FuncData} {k : Nat} (F : Fun K "_law_text" "_law_text" sText f fd) (FT : Fun K "_law_take" "_law_take" sTake fT fdT) (bT : Binds K fdT ["_law_bag_here", "_law_many"] []) (gT : mg "_law_take" = some (.ref fT))
    (FO : Fun K "_law_operand" "_law_operand" sOpd fO fdO) (bO : Binds K fdO ["_law_bag_here", "_law_radix"] []) (gO : mg "_law_operand" = some (.ref fO))
    (FE : Fun K "_law_expression" "_law_expression" sExp fE fdE) (bE : Binds K fdE ["_law_bag_here", "_law_radix"] []) (gE : mg "_law_expression" = some (.ref fE)) (ml : mg "len" = none)
    (FR : Fun K "_law_row" "_law_row" sRow fR fdR) (bR : Binds K fdR ["_law_bag_here", "_law_radix", "_law_many", "_law_names"] []) (gR : mg "_law_row" = some (.ref fR)) (mt : mg "tuple" = none) (mr : mg "range" = none) :
    FnOk P w K mg base CX0 (k + 5) f fd ["_law_bag_here", "_law_radix", "_law_most", "_law_names"] (spText K) := by
  have GT : FnOk P w K mg base CX0 (k + 4) fT fdT ["_law_bag_here", "_law_many"] spTake := ok_take FT
  have GR : FnOk P w K mg base CX0 (k + 4) fR fdR ["_law_bag_here", "_law_radix", "_law_many", "_law_names"] (spRow K) := ok_row FR FT bT gT FO bO gO FE bE gE ml
  refine F.ok scText (fun vs H Q E h => ?_) (fun cdv A outer s H vs Q E hr h => ?_)
  · obtain ⟨b, nn, n, m, k, N, rfl, _⟩ := h
    rfl
  · obtain ⟨b, nn, n, m, k, N, rfl, B, hn, hm, hm2, hk, nnb, hN, hN0, hN1, q⟩ := h
    refine ⟨_, pss_cons (ps_set (i := 4) scText.nd rfl (.inr rfl) (pe_call GT hr (by rfl) gT FT.kp bT .nil pass0 (pa_cons (pv 0) (pa_cons (pe_op op_add (pv 2) pe_int) pa_nil))))
      (pss_one (ps_ret (pe_callTy call_tuple_of (by rfl) mt (by decide +kernel) (pa_cons
        (pe_lc (own := [("_law_k", 5)]) (g := gName 5) (tt := tYes) (by rfl) scText.nd (pi_range1 (by rfl) mr (pa_cons (pv 4) pa_nil)) (blkOk_by (N := ["_law_bag_here", "_law_radix", "_law_most", "_law_names", "_law_many", "_law_k"]) (sc := defScope sText) (by decide +kernel))
          (fun _ _ _ _ _ => pg_name (i := 5) scText.nd rfl (Or.inl rfl)) (fun _ _ _ _ _ => pts_nil)
          (fun _ _ _ _ _ => pe_call GR hr (by rfl) gR FR.kp bR .nil pass0 (pa_cons (pv 0) (pa_cons (pv 1) (pa_cons (pv 4) (pa_cons (pv 3) pa_nil)))))) pa_nil)))), ?_⟩
    refine ⟨.ref b, rfl, .int k, rfl, k, 1, rfl, rfl, b, n, k + 1, rfl, B, by omega, by omega, by omega, fun r H1 r0 r1 B1 s1 => ?_⟩
    obtain ⟨c, rfl⟩ : ∃ c : Nat, r = c := ⟨r.toNat, by omega⟩
    refine ⟨.int c, rfl, c, rfl, by omega, by omega, fun D hD => ?_⟩
    refine lc_range (lo := 0) (n := c) (fun i H' => ∃ (xs : List V) (t : List Rw), H' D = some (.lst xs) ∧ xs.length = i ∧ t.length = i ∧ (∀ r ∈ t, r.ok m c N) ∧ DtAll K H' xs (t.map Rw.d) ∧ Bag H' b (n + 1 + 17 * i) ∧ SameX b H1 H')
      ⟨[], [], upd_same, rfl, rfl, (fun r hr => by cases hr), .nil, B1.new hD, SameX.new hD⟩ (fun i H2 hi p => ?_) (fun H2 p => ?_)
    · obtain ⟨xs, t, hx, lx, lt, ok, dt, B2, s2⟩ := p
      have x2 : SameX b H H2 := s1.trans s2
      refine ⟨rfl, ?_⟩
      refine ⟨.ref b, rfl, .int m, rfl, .int c, rfl, .ref nn, rfl, b, nn, n + 1 + 17 * i, m, c, N, rfl, B2, by omega, hm, hm2, by omega, by omega, nnb, x2.seq nnb hN, hN0, hN1, fun v o H3 ok3 d3 B3 s3 => ?_⟩
      have nD : D ≠ b := B1.ne hD
      have hx3 := s3 _ _ nD hx
      have k3 : KeepT K H3 (upd H3 D (.lst (xs ++ [v]))) := fun a ys h => by
        rcases h with (h | ⟨o, h⟩) | h
        · exact .inl (.inl (by rw [upd_ne (show a ≠ D from ne_of h hx3 (by intro z; cases z))]; exact h))
        · exact .inl (.inr ⟨o, by rw [upd_ne (show a ≠ D from ne_of h hx3 (by intro z; cases z))]; exact h⟩)
        · exact .inr h
      refine ⟨xs, hx3, ?_, xs ++ [v], t ++ [o], upd_same, by rw [List.length_append, lx]; rfl, by rw [List.length_append, lt]; rfl, fun r hr => ?_, ?_, ?_, fun a u na e => ?_⟩
      · exact small1000 (by omega)
      · rcases List.mem_append.mp hr with z | z
        · exact ok r z
        · rw [List.mem_singleton.mp z]
          exact ok3
      · rw [List.map_append]
        exact DtAll.app ((dt.keep ((keepT_x B2 s3))).keep k3) (.cons (d3.keep k3) .nil)
      · obtain ⟨d', x', c', e', r'⟩ := B3
        exact ⟨d', x', c', by rw [upd_ne nD.symm]; exact e', r'.1, r'.2.1, r'.2.2.1, by omega⟩
      · have naD : a ≠ D := ne_of_none e hD
        rw [upd_ne naD]
        exact s3 _ _ na (s2 _ _ na e)
    · obtain ⟨xs, t, hx, lx, lt, ok, dt, B2, s2⟩ := p
      refine ⟨D, xs, rfl, .inl ⟨SqL.of hx, fun l hl => ?_⟩⟩
      exact q _ t _ (by omega) (fun r hr => by rw [lt]; exact ok r hr) (dt_new hl dt) ((B2.new hl).mono (by omega)) (s1.trans (s2.trans (SameX.new hl)))
end
end Kx

namespace Kx
open PySem PySem.Spec PyProof.Rows L2
def Op.val (x y : Int) : Op → Int
  | .x => x
  | .y => y
  | .n k => k
def sgn (s : Str) (b l r : Int) : Int := if s = "+" then (l + r) % b else if s = "-" then (l - r) % b else (l * r) % b
def Ex.val (b x y : Int) : Ex → Int
  | .o a => a.val x y
  | .t s l r => sgn s b (l.val x y) (r.val x y)
theorem Op.val_in {b x y : Int} {o : Op} (h : o.ok b) (hx : 0 ≤ x ∧ x < b) (hy : 0 ≤ y ∧ y < b) : 0 ≤ o.val x y ∧ o.val x y < b := by
  cases o with
  | x => exact hx
  | y => exact hy
  | n k => exact h
theorem Ex.val_in {b x y : Int} {o : Ex} (h : o.ok b) (hx : 0 ≤ x ∧ x < b) (hy : 0 ≤ y ∧ y < b) : 0 ≤ o.val b x y ∧ o.val b x y < b := by
  cases o with
  | o a => exact Op.val_in h hx hy
  | t s l r =>
    have hb : 0 < b := by omega
    show 0 ≤ sgn s b (l.val x y) (r.val x y) ∧ sgn s b (l.val x y) (r.val x y) < b
    generalize l.val x y = p
    generalize r.val x y = q
    unfold sgn
    split
    · exact ⟨Int.emod_nonneg _ (by omega), Int.emod_lt_of_pos _ hb⟩
    · split
      · exact ⟨Int.emod_nonneg _ (by omega), Int.emod_lt_of_pos _ hb⟩
      · exact ⟨Int.emod_nonneg _ (by omega), Int.emod_lt_of_pos _ hb⟩
/-- a stand, as data -/
def stI (r x y : Int) : PyData := .tuple [.int r, .int x, .int y]
theorem tyx_tup {K : PySem.W.Frag} {H : Hp} {a : Addr} {xs : List V} (h : SqT K H a xs) : TyX K H (.ref a) (.type "tuple") := by
  rcases h with (h | ⟨o, h⟩) | ⟨o, its, n, h, c, _⟩
  · exact .base (.tup h)
  · exact .fTuple h
  · exact .kTuple h c
theorem tyx_lst {K : PySem.W.Frag} {H : Hp} {a : Addr} {xs : List V} (h : SqL K H a xs) : TyX K H (.ref a) (.type "list") := by
  rcases h with (h | ⟨o, h⟩) | ⟨o, its, n, h, c, _⟩
  · exact .base (.lst h)
  · exact .base (.frz h)
  · exact .kList h c
/-- the class of data -/
def tyName : PyData → String
  | .none => "NoneType"
  | .bool _ => "bool"
  | .int _ => "int"
  | .str _ => "str"
  | .list _ => "list"
  | .tuple _ => "tuple"
  | .dict _ => "dict"
theorem dp_ty {K : PySem.W.Frag} {H : Hp} {v : V} {d : PyData} (h : Dp K H v d) : TyX K H v (.type (tyName d)) := by
  cases h with
  | non => exact .base .non
  | bl b => exact .base (.bl b)
  | int i => exact .base (.int i)
  | str x => exact .base (.str x)
  | lst h q => exact tyx_lst h
  | tup h q => exact tyx_tup h
/-- isinstance(v, T) of data -/
theorem isi_at {K : PySem.W.Frag} {H : Hp} {v : V} {d : PyData} {T : String} {b : Bool} {Q : VK} (h : Dp K H v d) (k : kitB (tyName d) T = some b) (q : Q (.bl b) H) : rIsi K [v, .ty T] H Q :=
  ⟨v, .ty T, .type (tyName d), .type T, b, rfl, .ty T, dp_ty h, kit_ty k, q⟩
def isInt : PyData → Bool
  | .int _ => true
  | _ => false
def isBelow (top : Int) : PyData → Bool
  | .int i => decide (0 ≤ i) && decide (i < top)
  | _ => false
theorem dt_op {K : PySem.W.Frag} {H : Hp} {v : V} {o : Op} (h : Dt K H v o.d) : (o = .x ∧ v = .str "x") ∨ (o = .y ∧ v = .str "y") ∨ ∃ k, o = .n k ∧ v = .int k := by
  cases o with
  | x => cases h; exact .inl ⟨rfl, rfl⟩
  | y => cases h; exact .inr (.inl ⟨rfl, rfl⟩)
  | n k => cases h; exact .inr (.inr ⟨k, rfl, rfl⟩)
theorem dt_three {K : PySem.W.Frag} {H : Hp} {v : V} {d e f : PyData} (h : Dt K H v (.tuple [d, e, f])) : ∃ a x y z, v = .ref a ∧ SqT K H a [x, y, z] ∧ Dt K H x d ∧ Dt K H y e ∧ Dt K H z f := by
  obtain ⟨a, xs, rfl, hs, hd⟩ := dt_tuple h
  cases hd with
  | cons h1 q => cases q with
    | cons h2 q => cases q with
      | cons h3 q => cases q; exact ⟨a, _, _, _, rfl, hs, h1, h2, h3⟩
theorem dt_stand {K : PySem.W.Frag} {H : Hp} {v : V} {r x y : Int} (h : Dt K H v (stI r x y)) : ∃ a, v = .ref a ∧ SqT K H a [.int r, .int x, .int y] := by
  obtain ⟨a, _, _, _, rfl, hs, h1, h2, h3⟩ := dt_three h
  cases h1; cases h2; cases h3
  exact ⟨a, rfl, hs⟩
theorem dtall_cons {K : PySem.W.Frag} {H : Hp} {vs : List V} {d : PyData} {ds : List PyData} (h : DtAll K H vs (d :: ds)) : ∃ u us, vs = u :: us ∧ Dt K H u d ∧ DtAll K H us ds := by
  cases h with
  | cons h q => exact ⟨_, _, rfl, h, q⟩
theorem dtall_nil {K : PySem.W.Frag} {H : Hp} {vs : List V} (h : DtAll K H vs []) : vs = [] := by
  cases h
  rfl
end Kx

namespace Kx
open PySem PySem.Spec PyProof.Rows L2
abbrev sVal : Stmt := topS 3
abbrev sLval : Stmt := topS 16
theorem scVal : FnScope ["expression", "point", "base", "sign", "left", "right", "one", "other"] ["expression", "point", "base"] (defScope sVal) := ⟨rfl, rfl, rfl, by decide +kernel, rfl, by decide +kernel, by decide +kernel⟩
theorem scLval : FnScope ["_law_one", "_law_x", "_law_y", "_law_radix", "_law_left", "_law_right"] ["_law_one", "_law_x", "_law_y", "_law_radix"] (defScope sLval) := ⟨rfl, rfl, rfl, by decide +kernel, rfl, by decide +kernel, by decide +kernel⟩
structure Bi (mg : Str → Option Value) : Prop where
  len : mg "len" = none
  isi : mg "isinstance" = none
  int : mg "int" = none
  bool : mg "bool" = none
  tuple : mg "tuple" = none
  str : mg "str" = none
section
variable {P : Program} {w : World} {K : PySem.W.Frag} {mg : Str → Option Value} {base : Heap}
def Pt (b : Int) (x y : Int) : Prop := (0 ≤ x ∧ x < b) ∧ 0 ≤ y ∧ y < b
def spVal0 (K : PySem.W.Frag) : Sp := fun vs H Q _ => ∃ (v p : V) (o : Op) (b r x y : Int), vs = [v, p, .int b] ∧ Dt K H v o.d ∧ Dt K H p (stI r x y) ∧ Q (.int (o.val x y)) H
def spVal (K : PySem.W.Frag) : Sp := fun vs H Q _ => ∃ (v p : V) (o : Ex) (b r x y : Int), vs = [v, p, .int b] ∧ 2 ≤ b ∧ b ≤ 4 ∧ o.ok b ∧ Pt b x y ∧ Dt K H v o.d ∧ Dt K H p (stI r x y) ∧ Q (.int (o.val b x y)) H
theorem ne_xy : ¬ (V.str "y" = V.str "x") := by decide +kernel
def spNo : Sp := fun _ _ _ _ => False
theorem ok_no {f : Addr} {fd : FuncData} {k : Nat} {ps : List Str} : FnOk P w K mg base CX0 k f fd ps spNo := ⟨fun _ _ _ _ h => h.elim, fun _ _ _ _ _ _ _ _ _ _ _ _ _ h => h.elim⟩
theorem ok_val0 {f : Addr} {fd : FuncData} {k : Nat} (F : Fun K "value_of" "value_of" sVal f fd) (T : Bi mg) (bV : Binds K fd ["expression", "point", "base"] []) (gV : mg "value_of" = some (.ref f)) : FnOk P w K mg base CX0 (k + 1) f fd ["expression", "point", "base"] (spVal0 K) := by
  have G : FnOk P w K mg base CX0 k f fd ["expression", "point", "base"] spNo := ok_no
  refine F.ok scVal (fun vs H Q E h => ?_) (fun cdv A outer s H vs Q E hr h => ?_)
  · obtain ⟨v, p, o, b, r, x, y, rfl, _⟩ := h
    rfl
  · obtain ⟨v, p, o, b, r, x, y, rfl, hd, hp, q⟩ := h
    obtain ⟨pa, rfl, hs⟩ := dt_stand hp
    refine ⟨_, pss_cons (ps_if (pt_val (pe_callB call_isi (by rfl) T.isi (by decide +kernel) (pa_cons (pv 0) (pa_cons (pe_bltn (v := .ty "tuple") (by rfl) T.tuple (by decide +kernel) rfl) pa_nil))))
        (pss_cons (ps_asg (pv 0) (pg_tup (by rfl) (pgs_cons (pg_name (i := 3) scVal.nd rfl (.inl rfl)) (pgs_cons (pg_name (i := 4) scVal.nd rfl (.inl rfl)) (pgs_cons (pg_name (i := 5) scVal.nd rfl (.inl rfl)) pgs_nil)))))
        (pss_cons (ps_set (i := 6) scVal.nd rfl (.inl rfl) (pe_call G hr (by rfl) gV F.kp bV .nil pass0 (pa_cons (pv 4) (pa_cons (pv 1) (pa_cons (pv 2) pa_nil)))))
        (pss_cons (ps_set (i := 7) scVal.nd rfl (.inl rfl) (pe_call G hr (by rfl) gV F.kp bV .nil pass0 (pa_cons (pv 5) (pa_cons (pv 1) (pa_cons (pv 2) pa_nil)))))
        (pss_cons (ps_if (pt_cmpR op_eq (pv 3) pe_str (nomark _)) (pss_one (ps_ret (pe_op op_mod (pe_op op_add (pv 6) (pv 7)) (pv 2)))) pss_nil)
        (pss_cons (ps_if (pt_cmpR op_eq (pv 3) pe_str (nomark _)) (pss_one (ps_ret (pe_op op_mod (pe_op op_sub (pv 6) (pv 7)) (pv 2)))) pss_nil)
        (pss_one (ps_ret (pe_op op_mod (pe_op op_mul (pv 6) (pv 7)) (pv 2))))))))) pss_nil)
      (pss_cons (ps_if (pt_cmpR op_eq (pv 0) pe_str (nomark _)) (pss_one (ps_ret (pe_ix ix_tup (pv 1) pe_int (fun _ _ => rfl)))) pss_nil)
      (pss_cons (ps_if (pt_cmpR op_eq (pv 0) pe_str (nomark _)) (pss_one (ps_ret (pe_ix ix_tup (pv 1) pe_int (fun _ _ => rfl)))) pss_nil)
      (pss_one (ps_ret (pv 0))))), ?_⟩
    rcases dt_op hd with ⟨rfl, rfl⟩ | ⟨rfl, rfl⟩ | ⟨k, rfl, rfl⟩
    · refine ⟨_, rfl, _, .ty "tuple", .type "str", .type "tuple", false, rfl, .ty _, dp_ty (.str "x"), kit_ty (by decide +kernel), false, rfl, iteF ?_⟩
      refine ⟨_, rfl, rfl, _, rfl, ite2 (fun _ => ?_) (fun e => absurd (decide_eq_true rfl) e)⟩
      exact ⟨_, rfl, pa, _, 1, .int x, rfl, rfl, hs, atI_nat (j := 1) rfl, q⟩
    · refine ⟨_, rfl, _, .ty "tuple", .type "str", .type "tuple", false, rfl, .ty _, dp_ty (.str "y"), kit_ty (by decide +kernel), false, rfl, iteF ?_⟩
      refine ⟨_, rfl, rfl, _, rfl, ite2 (fun e => absurd (of_decide_eq_true e) ne_xy) (fun _ => ?_)⟩
      refine ⟨_, rfl, rfl, _, rfl, ite2 (fun _ => ?_) (fun e => absurd (decide_eq_true rfl) e)⟩
      exact ⟨_, rfl, pa, _, 2, .int y, rfl, rfl, hs, atI_nat (j := 2) rfl, q⟩
    · refine ⟨_, rfl, _, .ty "tuple", .type "int", .type "tuple", false, rfl, .ty _, dp_ty (.int k), kit_ty (by decide +kernel), false, rfl, iteF ?_⟩
      refine ⟨_, rfl, rfl, _, rfl, ite2 (fun e => by have z := of_decide_eq_true e; cases z) (fun _ => ?_)⟩
      refine ⟨_, rfl, rfl, _, rfl, ite2 (fun e => by have z := of_decide_eq_true e; cases z) (fun _ => ?_)⟩
      exact ⟨_, rfl, q⟩
theorem ok_val {f : Addr} {fd : FuncData} {k : Nat} (F : Fun K "value_of" "value_of" sVal f fd) (T : Bi mg) (bV : Binds K fd ["expression", "point", "base"] []) (gV : mg "value_of" = some (.ref f)) : FnOk P w K mg base CX0 (k + 2) f fd ["expression", "point", "base"] (spVal K) := by
  have G : FnOk P w K mg base CX0 (k + 1) f fd ["expression", "point", "base"] (spVal0 K) := ok_val0 F T bV gV
  refine F.ok scVal (fun vs H Q E h => ?_) (fun cdv A outer s H vs Q E hr h => ?_)
  · obtain ⟨v, p, o, b, r, x, y, rfl, _⟩ := h
    rfl
  · obtain ⟨v, p, o, b, r, x, y, rfl, hb2, hb4, ok, pt, hd, hp, q⟩ := h
    obtain ⟨pa, rfl, hs⟩ := dt_stand hp
    refine ⟨_, pss_cons (ps_if (pt_val (pe_callB call_isi (by rfl) T.isi (by decide +kernel) (pa_cons (pv 0) (pa_cons (pe_bltn (v := .ty "tuple") (by rfl) T.tuple (by decide +kernel) rfl) pa_nil))))
        (pss_cons (ps_asg (pv 0) (pg_tup (by rfl) (pgs_cons (pg_name (i := 3) scVal.nd rfl (.inl rfl)) (pgs_cons (pg_name (i := 4) scVal.nd rfl (.inl rfl)) (pgs_cons (pg_name (i := 5) scVal.nd rfl (.inl rfl)) pgs_nil)))))
        (pss_cons (ps_set (i := 6) scVal.nd rfl (.inl rfl) (pe_call G hr (by rfl) gV F.kp bV .nil pass0 (pa_cons (pv 4) (pa_cons (pv 1) (pa_cons (pv 2) pa_nil)))))
        (pss_cons (ps_set (i := 7) scVal.nd rfl (.inl rfl) (pe_call G hr (by rfl) gV F.kp bV .nil pass0 (pa_cons (pv 5) (pa_cons (pv 1) (pa_cons (pv 2) pa_nil)))))
        (pss_cons (ps_if (pt_cmpR op_eq (pv 3) pe_str (nomark _)) (pss_one (ps_ret (pe_op op_mod (pe_op op_add (pv 6) (pv 7)) (pv 2)))) pss_nil)
        (pss_cons (ps_if (pt_cmpR op_eq (pv 3) pe_str (nomark _)) (pss_one (ps_ret (pe_op op_mod (pe_op op_sub (pv 6) (pv 7)) (pv 2)))) pss_nil)
        (pss_one (ps_ret (pe_op op_mod (pe_op op_mul (pv 6) (pv 7)) (pv 2))))))))) pss_nil)
      (pss_cons (ps_if (pt_cmpR op_eq (pv 0) pe_str (nomark _)) (pss_one (ps_ret (pe_ix ix_tup (pv 1) pe_int (fun _ _ => rfl)))) pss_nil)
      (pss_cons (ps_if (pt_cmpR op_eq (pv 0) pe_str (nomark _)) (pss_one (ps_ret (pe_ix ix_tup (pv 1) pe_int (fun _ _ => rfl)))) pss_nil)
      (pss_one (ps_ret (pv 0))))), ?_⟩
    cases o with
    | o a =>
      rcases dt_op hd with ⟨rfl, rfl⟩ | ⟨rfl, rfl⟩ | ⟨k, rfl, rfl⟩
      · refine ⟨_, rfl, _, .ty "tuple", .type "str", .type "tuple", false, rfl, .ty _, dp_ty (.str "x"), kit_ty (by decide +kernel), false, rfl, iteF ?_⟩
        refine ⟨_, rfl, rfl, _, rfl, ite2 (fun _ => ?_) (fun e => absurd (decide_eq_true rfl) e)⟩
        exact ⟨_, rfl, pa, _, 1, .int x, rfl, rfl, hs, atI_nat (j := 1) rfl, q⟩
      · refine ⟨_, rfl, _, .ty "tuple", .type "str", .type "tuple", false, rfl, .ty _, dp_ty (.str "y"), kit_ty (by decide +kernel), false, rfl, iteF ?_⟩
        refine ⟨_, rfl, rfl, _, rfl, ite2 (fun e => absurd (of_decide_eq_true e) ne_xy) (fun _ => ?_)⟩
        refine ⟨_, rfl, rfl, _, rfl, ite2 (fun _ => ?_) (fun e => absurd (decide_eq_true rfl) e)⟩
        exact ⟨_, rfl, pa, _, 2, .int y, rfl, rfl, hs, atI_nat (j := 2) rfl, q⟩
      · refine ⟨_, rfl, _, .ty "tuple", .type "int", .type "tuple", false, rfl, .ty _, dp_ty (.int k), kit_ty (by decide +kernel), false, rfl, iteF ?_⟩
        refine ⟨_, rfl, rfl, _, rfl, ite2 (fun e => by have z := of_decide_eq_true e; cases z) (fun _ => ?_)⟩
        refine ⟨_, rfl, rfl, _, rfl, ite2 (fun e => by have z := of_decide_eq_true e; cases z) (fun _ => ?_)⟩
        exact ⟨_, rfl, q⟩
    | t z l r1 =>
      obtain ⟨hz, okl, okr⟩ := ok
      obtain ⟨a, v1, v2, v3, rfl, ha, h1, h2, h3⟩ := dt_three hd
      cases h1
      have il := Op.val_in okl pt.1 pt.2
      have ir := Op.val_in okr pt.1 pt.2
      refine ⟨_, rfl, _, .ty "tuple", .type "tuple", .type "tuple", true, rfl, .ty _, tyx_tup ha, kit_ty (by decide +kernel), true, rfl, iteT ?_⟩
      refine ⟨_, rfl, a, _, rfl, ha, rfl, _, _, rfl, _, _, rfl, _, _, rfl, rfl, ?_⟩
      refine ⟨v2, rfl, .ref pa, rfl, .int b, rfl, v2, .ref pa, l, b, r, x, y, rfl, h2, hp, ?_⟩
      refine ⟨v3, rfl, .ref pa, rfl, .int b, rfl, v3, .ref pa, r1, b, r, x, y, rfl, h3, hp, ?_⟩
      have b0 : (0 : Int) < b := by omega
      have q' : Q (.int (sgn z b (l.val x y) (r1.val x y))) H := q
      rcases hz with rfl | rfl | rfl
      · refine ⟨_, rfl, rfl, _, rfl, ite2 (fun _ => ?_) (fun e => absurd (decide_eq_true rfl) e)⟩
        exact ⟨_, rfl, _, rfl, _, _, rfl, rfl, _, rfl, _, b, rfl, rfl, b0, q'⟩
      · refine ⟨_, rfl, rfl, _, rfl, ite2 (fun e => absurd (of_decide_eq_true e) (by decide +kernel)) (fun _ => ?_)⟩
        refine ⟨_, rfl, rfl, _, rfl, ite2 (fun _ => ?_) (fun e => absurd (decide_eq_true rfl) e)⟩
        exact ⟨_, rfl, _, rfl, _, _, rfl, rfl, _, rfl, _, b, rfl, rfl, b0, q'⟩
      · refine ⟨_, rfl, rfl, _, rfl, ite2 (fun e => absurd (of_decide_eq_true e) (by decide +kernel)) (fun _ => ?_)⟩
        refine ⟨_, rfl, rfl, _, rfl, ite2 (fun e => absurd (of_decide_eq_true e) (by decide +kernel)) (fun _ => ?_)⟩
        exact ⟨_, rfl, _, rfl, _, _, rfl, rfl, .inl ⟨by omega, by omega⟩, _, rfl, _, b, rfl, rfl, b0, q'⟩
end
end Kx

namespace Kx
open PySem PySem.Spec PyProof.Rows L2
section
variable {P : Program} {w : World} {K : PySem.W.Frag} {mg : Str → Option Value} {base : Heap}
def spLval0 (K : PySem.W.Frag) : Sp := fun vs H Q _ => ∃ (v : V) (o : Op) (b x y : Int), vs = [v, .int x, .int y, .int b] ∧ Dt K H v o.d ∧ Q (.int (o.val x y)) H
def spLval (K : PySem.W.Frag) : Sp := fun vs H Q _ => ∃ (v : V) (o : Ex) (b x y : Int), vs = [v, .int x, .int y, .int b] ∧ 2 ≤ b ∧ b ≤ 4 ∧ o.ok b ∧ Pt b x y ∧ Dt K H v o.d ∧ ∀ H', Same H H' → Q (.int (o.val b x y)) H'
theorem pick3 (A B C : V) : valV (mergeK [] [((Sum.inr "+" : Key), A), (Sum.inr "-", B), (Sum.inr "*", C)]) (Sum.inr "+") = some A ∧ valV (mergeK [] [((Sum.inr "+" : Key), A), (Sum.inr "-", B), (Sum.inr "*", C)]) (Sum.inr "-") = some B ∧ valV (mergeK [] [((Sum.inr "+" : Key), A), (Sum.inr "-", B), (Sum.inr "*", C)]) (Sum.inr "*") = some C := by
  refine ⟨rfl, rfl, rfl⟩
theorem ok_lval0 {f : Addr} {fd : FuncData} {k : Nat} (F : Fun K "_law_value" "_law_value" sLval f fd) (T : Bi mg) (bV : Binds K fd ["_law_one", "_law_x", "_law_y", "_law_radix"] []) (gV : mg "_law_value" = some (.ref f)) : FnOk P w K mg base CX0 (k + 1) f fd ["_law_one", "_law_x", "_law_y", "_law_radix"] (spLval0 K) := by
  have G : FnOk P w K mg base CX0 k f fd ["_law_one", "_law_x", "_law_y", "_law_radix"] spNo := ok_no
  refine F.ok scLval (fun vs H Q E h => ?_) (fun cdv A outer s H vs Q E hr h => ?_)
  · obtain ⟨v, o, b, x, y, rfl, _⟩ := h
    rfl
  · obtain ⟨v, o, b, x, y, rfl, hd, q⟩ := h
    refine ⟨_, pss_cons (ps_if (pt_val (pe_callB call_isi (by rfl) T.isi (by decide +kernel) (pa_cons (pv 0) (pa_cons (pe_bltn (v := .ty "str") (by rfl) T.str (by decide +kernel) rfl) pa_nil)))) (pss_one (ps_ret (pe_ifExp (pt_cmpR op_eq (pv 0) pe_str (nomark _)) (pv 1) (pv 2)))) pss_nil)
      (pss_cons (ps_if (pt_not (pt_val (pe_callB call_isi (by rfl) T.isi (by decide +kernel) (pa_cons (pv 0) (pa_cons (pe_bltn (v := .ty "tuple") (by rfl) T.tuple (by decide +kernel) rfl) pa_nil))))) (pss_one (ps_ret (pv 0))) pss_nil)
      (pss_cons (ps_par (i := 4) (j := 5) (by rfl) scLval.nd rfl rfl (by decide) rfl rfl (pa_cons (pe_call G hr (by rfl) gV F.kp bV .nil pass0 (pa_cons (pe_ix ix_tup (pv 0) pe_int (fun _ _ => rfl)) (pa_cons (pv 1) (pa_cons (pv 2) (pa_cons (pv 3) pa_nil))))) (pa_cons (pe_call G hr (by rfl) gV F.kp bV .nil pass0 (pa_cons (pe_ix ix_tup (pv 0) pe_int (fun _ _ => rfl)) (pa_cons (pv 1) (pa_cons (pv 2) (pa_cons (pv 3) pa_nil))))) pa_nil)) (by rfl))
      (pss_one (ps_ret (pe_op op_mod (pe_dget (hu_of hr) (pe_disp (pps_cons pe_str (pe_op op_add (pv 4) (pv 5)) (pps_cons pe_str (pe_op op_sub (pv 4) (pv 5)) (pps_cons pe_str (pe_op op_mul (pv 4) (pv 5)) pps_nil))) (by rfl) (by rfl) (fun z => by cases z) (by decide)) (pe_ix ix_tup (pv 0) pe_int (fun _ _ => rfl)) (fun _ _ => rfl)) (pv 3)))))), ?_⟩
    rcases dt_op hd with ⟨rfl, rfl⟩ | ⟨rfl, rfl⟩ | ⟨k, rfl, rfl⟩
    · refine ⟨_, rfl, _, .ty "str", .type "str", .type "str", true, rfl, .ty _, dp_ty (.str "x"), kit_ty (by decide +kernel), true, rfl, iteT ?_⟩
      exact ⟨_, rfl, rfl, _, rfl, ite2 (fun _ => ⟨_, rfl, q⟩) (fun e => absurd (decide_eq_true rfl) e)⟩
    · refine ⟨_, rfl, _, .ty "str", .type "str", .type "str", true, rfl, .ty _, dp_ty (.str "y"), kit_ty (by decide +kernel), true, rfl, iteT ?_⟩
      exact ⟨_, rfl, rfl, _, rfl, ite2 (fun e => absurd (of_decide_eq_true e) ne_xy) (fun _ => ⟨_, rfl, q⟩)⟩
    · refine ⟨_, rfl, _, .ty "str", .type "int", .type "str", false, rfl, .ty _, dp_ty (.int k), kit_ty (by decide +kernel), false, rfl, iteF ?_⟩
      refine ⟨_, rfl, _, .ty "tuple", .type "int", .type "tuple", false, rfl, .ty _, dp_ty (.int k), kit_ty (by decide +kernel), false, rfl, iteT ?_⟩
      exact ⟨_, rfl, q⟩
theorem ok_lval {f : Addr} {fd : FuncData} {k : Nat} (F : Fun K "_law_value" "_law_value" sLval f fd) (T : Bi mg) (bV : Binds K fd ["_law_one", "_law_x", "_law_y", "_law_radix"] []) (gV : mg "_law_value" = some (.ref f)) : FnOk P w K mg base CX0 (k + 2) f fd ["_law_one", "_law_x", "_law_y", "_law_radix"] (spLval K) := by
  have G : FnOk P w K mg base CX0 (k + 1) f fd ["_law_one", "_law_x", "_law_y", "_law_radix"] (spLval0 K) := ok_lval0 F T bV gV
  refine F.ok scLval (fun vs H Q E h => ?_) (fun cdv A outer s H vs Q E hr h => ?_)
  · obtain ⟨v, o, b, x, y, rfl, _⟩ := h
    rfl
  · obtain ⟨v, o, b, x, y, rfl, hb2, hb4, ok, pt, hd, q⟩ := h
    refine ⟨_, pss_cons (ps_if (pt_val (pe_callB call_isi (by rfl) T.isi (by decide +kernel) (pa_cons (pv 0) (pa_cons (pe_bltn (v := .ty "str") (by rfl) T.str (by decide +kernel) rfl) pa_nil)))) (pss_one (ps_ret (pe_ifExp (pt_cmpR op_eq (pv 0) pe_str (nomark _)) (pv 1) (pv 2)))) pss_nil)
      (pss_cons (ps_if (pt_not (pt_val (pe_callB call_isi (by rfl) T.isi (by decide +kernel) (pa_cons (pv 0) (pa_cons (pe_bltn (v := .ty "tuple") (by rfl) T.tuple (by decide +kernel) rfl) pa_nil))))) (pss_one (ps_ret (pv 0))) pss_nil)
      (pss_cons (ps_par (i := 4) (j := 5) (by rfl) scLval.nd rfl rfl (by decide) rfl rfl (pa_cons (pe_call G hr (by rfl) gV F.kp bV .nil pass0 (pa_cons (pe_ix ix_tup (pv 0) pe_int (fun _ _ => rfl)) (pa_cons (pv 1) (pa_cons (pv 2) (pa_cons (pv 3) pa_nil))))) (pa_cons (pe_call G hr (by rfl) gV F.kp bV .nil pass0 (pa_cons (pe_ix ix_tup (pv 0) pe_int (fun _ _ => rfl)) (pa_cons (pv 1) (pa_cons (pv 2) (pa_cons (pv 3) pa_nil))))) pa_nil)) (by rfl))
      (pss_one (ps_ret (pe_op op_mod (pe_dget (hu_of hr) (pe_disp (pps_cons pe_str (pe_op op_add (pv 4) (pv 5)) (pps_cons pe_str (pe_op op_sub (pv 4) (pv 5)) (pps_cons pe_str (pe_op op_mul (pv 4) (pv 5)) pps_nil))) (by rfl) (by rfl) (fun z => by cases z) (by decide)) (pe_ix ix_tup (pv 0) pe_int (fun _ _ => rfl)) (fun _ _ => rfl)) (pv 3)))))), ?_⟩
    cases o with
    | o a =>
      rcases dt_op hd with ⟨rfl, rfl⟩ | ⟨rfl, rfl⟩ | ⟨k, rfl, rfl⟩
      · refine ⟨_, rfl, _, .ty "str", .type "str", .type "str", true, rfl, .ty _, dp_ty (.str "x"), kit_ty (by decide +kernel), true, rfl, iteT ?_⟩
        exact ⟨_, rfl, rfl, _, rfl, ite2 (fun _ => ⟨_, rfl, q _ (Same.refl H)⟩) (fun e => absurd (decide_eq_true rfl) e)⟩
      · refine ⟨_, rfl, _, .ty "str", .type "str", .type "str", true, rfl, .ty _, dp_ty (.str "y"), kit_ty (by decide +kernel), true, rfl, iteT ?_⟩
        exact ⟨_, rfl, rfl, _, rfl, ite2 (fun e => absurd (of_decide_eq_true e) ne_xy) (fun _ => ⟨_, rfl, q _ (Same.refl H)⟩)⟩
      · refine ⟨_, rfl, _, .ty "str", .type "int", .type "str", false, rfl, .ty _, dp_ty (.int k), kit_ty (by decide +kernel), false, rfl, iteF ?_⟩
        refine ⟨_, rfl, _, .ty "tuple", .type "int", .type "tuple", false, rfl, .ty _, dp_ty (.int k), kit_ty (by decide +kernel), false, rfl, iteT ?_⟩
        exact ⟨_, rfl, q _ (Same.refl H)⟩
    | t z l r1 =>
      obtain ⟨hz, okl, okr⟩ := ok
      obtain ⟨a, v1, v2, v3, rfl, ha, h1, h2, h3⟩ := dt_three hd
      cases h1
      have il := Op.val_in okl pt.1 pt.2
      have ir := Op.val_in okr pt.1 pt.2
      refine ⟨_, rfl, _, .ty "str", .type "tuple", .type "str", false, rfl, .ty _, tyx_tup ha, kit_ty (by decide +kernel), false, rfl, iteF ?_⟩
      refine ⟨_, rfl, _, .ty "tuple", .type "tuple", .type "tuple", true, rfl, .ty _, tyx_tup ha, kit_ty (by decide +kernel), true, rfl, iteF ?_⟩
      refine ⟨_, rfl, a, _, 1, v2, rfl, rfl, ha, atI_nat (j := 1) rfl, _, rfl, _, rfl, _, rfl, v2, l, b, x, y, rfl, h2, ?_⟩
      refine ⟨_, rfl, a, _, 2, v3, rfl, rfl, ha, atI_nat (j := 2) rfl, _, rfl, _, rfl, _, rfl, v3, r1, b, x, y, rfl, h3, ?_⟩
      refine ⟨_, _, rfl, fun p np => ?_⟩
      refine ⟨_, rfl, _, rfl, _, _, rfl, rfl, _, rfl, _, rfl, _, _, rfl, rfl, _, rfl, _, rfl, _, _, rfl, rfl, .inl ⟨by omega, by omega⟩, upd_same, [(Sum.inr "+", .int (l.val x y + r1.val x y)), (Sum.inr "-", .int (l.val x y - r1.val x y)), (Sum.inr "*", .int (l.val x y * r1.val x y))], rfl, (by show 3 ≤ 15; decide), ?_⟩
      have s1 : Same H (upd (upd H p (.dK [])) p (.dK (mergeK [] [(Sum.inr "+", .int (l.val x y + r1.val x y)), (Sum.inr "-", .int (l.val x y - r1.val x y)), (Sum.inr "*", .int (l.val x y * r1.val x y))]))) := same_put np (same_new np)
      have hp : (upd (upd H p (.dK [])) p (.dK (mergeK [] [((Sum.inr "+" : Key), V.int (l.val x y + r1.val x y)), (Sum.inr "-", .int (l.val x y - r1.val x y)), (Sum.inr "*", .int (l.val x y * r1.val x y))]))) p = some (.dK (mergeK [] [(Sum.inr "+", .int (l.val x y + r1.val x y)), (Sum.inr "-", .int (l.val x y - r1.val x y)), (Sum.inr "*", .int (l.val x y * r1.val x y))])) := upd_same
      have b0 : (0 : Int) < b := by omega
      have q' := q _ s1
      have ha' := keepT_same (K := K) s1 _ _ ha
      have g := pick3 (.int (l.val x y + r1.val x y)) (.int (l.val x y - r1.val x y)) (.int (l.val x y * r1.val x y))
      rcases hz with rfl | rfl | rfl
      · exact ⟨_, rfl, a, _, 0, .str "+", rfl, rfl, ha', atI_nat (j := 0) rfl, p, .int (l.val x y + r1.val x y), rfl, g.1 ▸ DGet.k (k := Sum.inr "+") hp, _, rfl, _, b, rfl, rfl, b0, q'⟩
      · exact ⟨_, rfl, a, _, 0, .str "-", rfl, rfl, ha', atI_nat (j := 0) rfl, p, .int (l.val x y - r1.val x y), rfl, g.2.1 ▸ DGet.k (k := Sum.inr "-") hp, _, rfl, _, b, rfl, rfl, b0, q'⟩
      · exact ⟨_, rfl, a, _, 0, .str "*", rfl, rfl, ha', atI_nat (j := 0) rfl, p, .int (l.val x y * r1.val x y), rfl, g.2.2 ▸ DGet.k (k := Sum.inr "*") hp, _, rfl, _, b, rfl, rfl, b0, q'⟩
end
end Kx

namespace Kx
open PySem PySem.Spec PyProof.Rows L2
/-! silent rows, as mathematics -/
abbrev P3 := Nat × Int × Int
def Pq (b : Int) (x y : Int) : Prop := (0 ≤ x ∧ x < b) ∧ 0 ≤ y ∧ y < b
def stepR (b : Int) (p : P3) : Rw → P3
  | .set v e => if v = "x" then (p.1 + 1, e.val b p.2.1 p.2.2, p.2.2) else (p.1 + 1, p.2.1, e.val b p.2.1 p.2.2)
  | .go r => (r.toNat, p.2.1, p.2.2)
  | .iff e f r => if e.val b p.2.1 p.2.2 = f.val b p.2.1 p.2.2 then (r.toNat, p.2.1, p.2.2) else (p.1 + 1, p.2.1, p.2.2)
  | _ => p
def stp (t : List Rw) (b : Int) (p : P3) : P3 := match t[p.1]? with
  | some r => stepR b p r
  | none => p
def it (t : List Rw) (b : Int) (p : P3) : Nat → P3
  | 0 => p
  | n + 1 => stp t b (it t b p n)
def Ind (t : List Rw) (b : Int) (p : P3) : Prop := p.1 ≤ t.length ∧ Pq b p.2.1 p.2.2
def ptD (p : P3) : PyData := stI p.1 p.2.1 p.2.2
def three3 (p : P3) : List Int := [(p.1 : Int), p.2.1, p.2.2]
theorem three3_inj {p q : P3} (h : three3 p = three3 q) : p = q := by
  unfold three3 at h
  obtain ⟨i, x, y⟩ := p
  obtain ⟨j, u, v⟩ := q
  injection h with h1 h2
  injection h2 with h2 h3
  injection h3 with h3 h4
  have e1 : i = j := Int.ofNat_inj.mp h1
  cases e1
  cases h2
  cases h3
  rfl
theorem stp_in {t : List Rw} {N : List Str} {b : Int} {p : P3} (ok : Tx.ok b N t) (h : Ind t b p) : Ind t b (stp t b p) := by
  unfold stp
  cases hrow : t[p.1]? with
  | none => exact h
  | some r =>
    have lt : p.1 < t.length := (List.getElem?_eq_some_iff.mp hrow).1
    have rok := ok r (List.mem_of_getElem? hrow)
    obtain ⟨i, x, y⟩ := p
    obtain ⟨_, px, py⟩ := h
    cases r with
    | set v e =>
      have z := Ex.val_in (o := e) rok.2 px py
      show Ind t b (if v = "x" then (i + 1, e.val b x y, y) else (i + 1, x, e.val b x y))
      split
      · exact ⟨lt, z, py⟩
      · exact ⟨lt, px, z⟩
    | iff e f r =>
      obtain ⟨_, _, r0, r1⟩ := rok
      show Ind t b (if e.val b x y = f.val b x y then (r.toNat, x, y) else (i + 1, x, y))
      split
      · exact ⟨(by show r.toNat ≤ t.length; omega), px, py⟩
      · exact ⟨lt, px, py⟩
    | go r =>
      obtain ⟨r0, r1⟩ := rok
      exact ⟨(by show r.toNat ≤ t.length; omega), px, py⟩
    | say e => exact ⟨Nat.le_of_lt lt, px, py⟩
    | ask v => exact ⟨Nat.le_of_lt lt, px, py⟩
    | read c v => exact ⟨Nat.le_of_lt lt, px, py⟩
    | write c e => exact ⟨Nat.le_of_lt lt, px, py⟩
    | call n e v => exact ⟨Nat.le_of_lt lt, px, py⟩
    | fin e => exact ⟨Nat.le_of_lt lt, px, py⟩
theorem it_in {t : List Rw} {N : List Str} {b : Int} {p : P3} (ok : Tx.ok b N t) (h : Ind t b p) : ∀ n, Ind t b (it t b p n)
  | 0 => h
  | n + 1 => stp_in ok (it_in ok h n)
/-- the stand that silent rows lead to, or none -/
def res (t : List Rw) (b : Nat) (p : P3) : Option P3 := ((List.range (t.length * b * b + 1)).find? fun n => !silentAt t (it t b p n).1).map fun n => it t b p n
def resD (t : List Rw) (b : Nat) (p : P3) : PyData := match res t b p with
  | some q => ptD q
  | none => stI (-1) 0 0
theorem find_at {q : Nat → Bool} {n k : Nat} (h : k < n) (hk : q k = true) (hb : ∀ j, j < k → q j = false) : (List.range n).find? q = some k := find_range q h hk hb
theorem res_some {t : List Rw} {b : Nat} {p : P3} {n : Nat} (past : ∀ j, j < n → silentAt t (it t b p j).1 = true) (here : silentAt t (it t b p n).1 = false) (le : n ≤ t.length * b * b) : resD t b p = ptD (it t b p n) := by
  have e : res t b p = some (it t b p n) := by
    unfold res
    rw [find_at (k := n) (by omega) (by rw [here]; rfl) fun j hj => by rw [past j hj]; rfl]
    rfl
  unfold resD
  rw [e]
theorem res_none {t : List Rw} {b : Nat} {p : P3} (all : ∀ j, j ≤ t.length * b * b → silentAt t (it t b p j).1 = true) : resD t b p = stI (-1) 0 0 := by
  have e : res t b p = none := by
    unfold res
    rw [find_range_none _ fun k hk => by rw [all k (by omega)]; rfl]
    rfl
  unfold resD
  rw [e]
theorem it_add (t : List Rw) (b : Int) (p : P3) (i : Nat) : ∀ n, it t b p (i + n) = it t b (it t b p i) n
  | 0 => rfl
  | n + 1 => by
    show stp t b (it t b p (i + n)) = stp t b (it t b (it t b p i) n)
    rw [it_add t b p i n]
/-- a point that comes again comes forever -/
theorem forever {t : List Rw} {b : Int} {p : P3} {i m : Nat} (past : ∀ j, j < m → silentAt t (it t b p j).1 = true) (lt : i < m) (e : it t b p m = it t b p i) : ∀ n, silentAt t (it t b p n).1 = true := by
  have key : ∀ n, ∃ j, j < m ∧ it t b p n = it t b p j := by
    intro n
    induction n with
    | zero => exact ⟨0, by omega, rfl⟩
    | succ n ih =>
      obtain ⟨j, hj, ej⟩ := ih
      have s1 : it t b p (n + 1) = it t b p (j + 1) := by
        show stp t b (it t b p n) = stp t b (it t b p j)
        rw [ej]
      by_cases c : j + 1 < m
      · exact ⟨j + 1, c, s1⟩
      · have : j + 1 = m := by omega
        rw [this, e] at s1
        exact ⟨i, lt, s1⟩
  intro n
  obtain ⟨j, hj, ej⟩ := key n
  rw [ej]
  exact past j hj
theorem few_points {t : List Rw} {N : List Str} {b : Nat} {p : P3} {m : Nat} (ok : Tx.ok b N t) (h : Ind t b p) (past : ∀ j, j < m → silentAt t (it t b p j).1 = true) (nd : ((List.range m).map fun j => three3 (it t b p j)).Nodup) : m ≤ t.length * b * b := by
  have code : ∀ j, j < m → ∃ c, c < t.length * b * b ∧ c = (it t b p j).1 * b * b + (it t b p j).2.1.toNat * b + (it t b p j).2.2.toNat := fun j hj => by
    obtain ⟨_, ⟨x0, x1⟩, y0, y1⟩ := it_in ok h j
    have s := past j hj
    have lt : (it t b p j).1 < t.length := by
      unfold silentAt at s
      cases e : t[(it t b p j).1]? with
      | none => rw [e] at s; cases s
      | some r => exact (List.getElem?_eq_some_iff.mp e).1
    refine ⟨_, ?_, rfl⟩
    generalize (it t b p j).1 = i at lt
    generalize (it t b p j).2.1 = x at x0 x1
    generalize (it t b p j).2.2 = y at y0 y1
    have hx : x.toNat + 1 ≤ b := by omega
    have hy : y.toNat + 1 ≤ b := by omega
    have h1 : (x.toNat + 1) * b ≤ b * b := Nat.mul_le_mul_right b hx
    have h2 : (i + 1) * b * b ≤ t.length * b * b := Nat.mul_le_mul_right b (Nat.mul_le_mul_right b lt)
    rw [Nat.add_mul, Nat.one_mul] at h1
    rw [Nat.add_mul, Nat.add_mul, Nat.one_mul] at h2
    omega
  let f : Nat → Nat := fun j => (it t b p j).1 * b * b + (it t b p j).2.1.toNat * b + (it t b p j).2.2.toNat
  have inj : ∀ i j, i < m → j < m → f i = f j → three3 (it t b p i) = three3 (it t b p j) := fun i j hi hj e => by
    obtain ⟨_, ⟨x0, x1⟩, y0, y1⟩ := it_in ok h i
    obtain ⟨_, ⟨u0, u1⟩, v0, v1⟩ := it_in ok h j
    have e' : (it t b p i).1 * b * b + (it t b p i).2.1.toNat * b + (it t b p i).2.2.toNat = (it t b p j).1 * b * b + (it t b p j).2.1.toNat * b + (it t b p j).2.2.toNat := e
    unfold three3
    generalize (it t b p i).1 = a at e'
    generalize (it t b p i).2.1 = x at x0 x1 e'
    generalize (it t b p i).2.2 = y at y0 y1 e'
    generalize (it t b p j).1 = c at e'
    generalize (it t b p j).2.1 = u at u0 u1 e'
    generalize (it t b p j).2.2 = v at v0 v1 e'
    have b0 : 0 < b := by omega
    have r1 : ∀ a x y : Nat, a * b * b + x * b + y = (a * b + x) * b + y := fun a x y => by rw [Nat.add_mul]
    rw [r1, r1] at e'
    have yy : y.toNat = v.toNat := by
      have z := congrArg (· % b) e'
      simp only [Nat.mul_add_mod', Nat.add_comm _ y.toNat, Nat.add_comm _ v.toNat, Nat.add_mul_mod_self_right] at z
      rw [Nat.mod_eq_of_lt (by omega), Nat.mod_eq_of_lt (by omega)] at z
      exact z
    have ax : a * b + x.toNat = c * b + u.toNat := by
      rw [yy] at e'
      exact Nat.eq_of_mul_eq_mul_right b0 (Nat.add_right_cancel e')
    have xx : x.toNat = u.toNat := by
      have z := congrArg (· % b) ax
      simp only [Nat.add_comm _ x.toNat, Nat.add_comm _ u.toNat, Nat.add_mul_mod_self_right] at z
      rw [Nat.mod_eq_of_lt (by omega), Nat.mod_eq_of_lt (by omega)] at z
      exact z
    have aa : a = c := by
      rw [xx] at ax
      exact Nat.eq_of_mul_eq_mul_right b0 (Nat.add_right_cancel ax)
    rw [aa, show x = u by omega, show y = v by omega]
  have nd2 : ((List.range m).map f).Nodup := by
    have base := nd
    rw [List.Nodup, List.pairwise_map] at base ⊢
    refine List.Pairwise.imp_of_mem ?_ base
    intro i j hi hj ne e
    exact ne (inj i j (List.mem_range.mp hi) (List.mem_range.mp hj) e)
  have z := nat_nodup_len _ (List.range (t.length * b * b)) nd2 fun c hc => by
    obtain ⟨j, hj, rfl⟩ := List.mem_map.mp hc
    obtain ⟨c, lc, ec⟩ := code j (List.mem_range.mp hj)
    rw [List.mem_range]
    have ef : f j = c := ec.symm
    rw [ef]
    exact lc
  rw [List.length_map, List.length_range, List.length_range] at z
  exact z
end Kx

namespace Kx
open PySem PySem.Spec PyProof.Rows L2
/-! A set of int tuples of up to three hundred members: masks up to 511. First the round of i to 5 i + 1 over 512 slots. -/
def orb : Nat → Nat → List Nat
  | _, 0 => []
  | i, n + 1 => i :: orb ((i * 5 + 1) % 512) n
theorem orb_in : ∀ (n a : Nat) (j : Nat), j ∈ orb (lcgN 511 a) n → ∃ k, k < n ∧ lcgN 511 (a + k) = j
  | 0, a, j, h => by cases h
  | n + 1, a, j, h => by
    rcases List.mem_cons.mp h with e | h
    · exact ⟨0, Nat.succ_pos _, e.symm⟩
    · obtain ⟨k, hk, e⟩ := orb_in n (a + 1) j h
      exact ⟨k + 1, Nat.succ_lt_succ hk, by rw [← e]; congr 1; omega⟩
theorem orb_all : ((List.range 512).all fun j => (orb 0 512).contains j) = true := by decide +kernel
theorem lcg_at {j : Nat} (h : j < 512) : ∃ k, k < 512 ∧ lcgN 511 k = j := by
  have z := List.all_eq_true.mp orb_all j (List.mem_range.mpr h)
  obtain ⟨k, hk, e⟩ := orb_in 512 0 j (List.contains_iff_mem.mp z)
  exact ⟨k, hk, by rw [Nat.zero_add] at e; exact e⟩
theorem lcg_512 : lcgN 511 512 = 0 := by decide +kernel
theorem lcg_more : ∀ k, lcgN 511 (512 + k) = lcgN 511 k
  | 0 => lcg_512
  | k + 1 => by
    show (lcgN 511 (512 + k) * 5 + 1) % 512 = (lcgN 511 k * 5 + 1) % 512
    rw [lcg_more k]
/-- every slot is met from every hash -/
def Full (m : Nat) : Prop := m % 2 = 1 ∧ ∀ (h : Int) (j : Nat), j ≤ m → ∃ n, n ≤ m + 12 ∧ runI m (SetTable.bits h) n = j
theorem full_511 : Full 511 := by
  refine ⟨rfl, fun h j hj => ?_⟩
  have h12 : runI 511 (SetTable.bits h) 12 ≤ 511 := runI_le _ _ _
  obtain ⟨a, ha, ea⟩ := lcg_at (j := runI 511 (SetTable.bits h) 12) (by omega)
  obtain ⟨b, hb, eb⟩ := lcg_at (j := j) (by omega)
  obtain ⟨k, hk, ek⟩ : ∃ k, k ≤ 511 ∧ lcgN 511 (a + k) = j := by
    by_cases c : a ≤ b
    · exact ⟨b - a, by omega, by rw [show a + (b - a) = b by omega]; exact eb⟩
    · exact ⟨512 - a + b, by omega, by rw [show a + (512 - a + b) = 512 + b by omega, lcg_more]; exact eb⟩
  refine ⟨12 + k, by omega, ?_⟩
  rw [runI_tail (bits_lt h) k, ← ea, lcgN_add]
  exact ek
theorem full_old {m : Nat} (h : MaskOk m) : Full m := ⟨mask_odd h, fun x j hj => run_meets h x hj⟩
def Mask (m : Nat) : Prop := m = 7 ∨ m = 31 ∨ m = 127 ∨ m = 511
theorem Mask.full {m : Nat} (h : Mask m) : Full m := by
  rcases h with rfl | rfl | rfl | rfl
  · exact full_old (.inl rfl)
  · exact full_old (.inr (.inl rfl))
  · exact full_old (.inr (.inr rfl))
  · exact full_511
theorem way_in (m : Nat) (h : Int) (k : Nat) : way m h k ≤ m := by
  have lo : SetTable.bits h % (m + 1) ≤ m := Nat.le_of_lt_succ (Nat.mod_lt _ (Nat.succ_pos _))
  have r := runEnd_bd lo
  have z := nth_in (m := m) k (runAt m (SetTable.bits h % (m + 1)) (SetTable.bits h)) (show SetTable.bits h % (m + 1) + (SetTable.runEnd m (SetTable.bits h % (m + 1)) - SetTable.bits h % (m + 1)) ≤ m by omega)
  unfold way
  omega
/-- a slot that is not taken is met: by its step on the way, and by the run it lies at the head of -/
theorem met {m : Nat} (F : Full m) (h : Int) {j : Nat} (hj : j ≤ m) : ∃ n k, n ≤ m + 12 ∧ k < 10 * SetTable.turns m ∧ way m h k = j ∧ k = off m (SetTable.bits h % (m + 1)) (SetTable.bits h) n := by
  obtain ⟨n, hn, e⟩ := F.2 h j hj
  refine ⟨n, off m (SetTable.bits h % (m + 1)) (SetTable.bits h) n, hn, ?_, ?_, rfl⟩
  · have big : ∀ (n i b : Nat), i ≤ m → off m i b n ≤ 10 * n := by
      intro n
      induction n with
      | zero => intro i b _; exact Nat.le_refl _
      | succ n ih =>
        intro i b hi
        have r := runEnd_bd hi
        have z := ih (SetTable.leap m i b).1 (SetTable.leap m i b).2 (leap_le m i b)
        show (SetTable.runEnd m i - i + 1) + off m (SetTable.leap m i b).1 (SetTable.leap m i b).2 n ≤ 10 * (n + 1)
        omega
    have z := big n (SetTable.bits h % (m + 1)) (SetTable.bits h) (Nat.le_of_lt_succ (Nat.mod_lt _ (Nat.succ_pos _)))
    unfold SetTable.turns
    omega
  · unfold way
    rw [nth_off, itL_run]
    exact e
/-- a table in which each hash leads to its slot past taken slots alone -/
structure Tab (t : SetTable) (hs : List Int) : Prop where
  up : Ris t.place.toList
  nod : t.dummies = #[]
  cnt : t.place.size = hs.length
  full : Full t.mask
  low : ∀ x ∈ t.place.toList, x ≤ t.mask
  lead : ∀ (i : Nat) (h : Int) (j : Nat), hs[i]? = some h → t.place.toList[i]? = some j → ∃ k, way t.mask h k = j ∧ ∀ c, c < k → way t.mask h c ∈ t.place.toList
/-- the first free slot of a hash -/
theorem Tab.gap {t : SetTable} {hs : List Int} (T : Tab t hs) (few : hs.length ≤ t.mask) (h : Int) : ∃ G, G < 10 * SetTable.turns t.mask ∧ way t.mask h G ∉ t.place.toList ∧ ∀ c, c < G → way t.mask h c ∈ t.place.toList := by
  have n : t.place.toList.length < t.mask + 1 := by
    have := T.cnt
    rw [Array.length_toList]
    omega
  obtain ⟨j, lt, out⟩ := st_missing _ _ n
  obtain ⟨_, k, _, hk, e, _⟩ := met T.full h (Nat.le_of_lt_succ lt)
  obtain ⟨G, g1, g2, g3⟩ := st_least (p := fun k => way t.mask h k ∉ t.place.toList) k (fun z => out (e ▸ z))
  exact ⟨G, Nat.lt_of_le_of_lt g1 hk, g2, fun c hc => Classical.byContradiction fun z => g3 c hc z⟩
theorem Tab.ahead {t : SetTable} {hs : List Int} (T : Tab t hs) {h : Int} {G i j : Nat} (gap : way t.mask h G ∉ t.place.toList) (hi : hs[i]? = some h) (hj : t.place.toList[i]? = some j) : ∃ k, k < G ∧ way t.mask h k = j := by
  obtain ⟨k, e, past⟩ := T.lead i h j hi hj
  refine ⟨k, Nat.lt_of_not_le fun z => ?_, e⟩
  rcases Nat.lt_or_eq_of_le z with c | c
  · exact gap (past G c)
  · exact gap (c ▸ e ▸ List.mem_of_getElem? hj)
/-- a hash put into its first free slot -/
theorem Tab.add {t : SetTable} {hs : List Int} (T : Tab t hs) {h : Int} {G p : Nat} (gap : way t.mask h G ∉ t.place.toList) (past : ∀ c, c < G → way t.mask h c ∈ t.place.toList) (hp : p = SetTable.below t.place (way t.mask h G)) :
    p ≤ hs.length ∧ Tab (t.put (way t.mask h G)).1 (hs.take p ++ h :: hs.drop p) := by
  have pl : p ≤ t.place.toList.length := by
    rw [hp, Array.length_toList]
    exact (below_cut T.up _).1
  have ll : t.place.toList.length = hs.length := by rw [Array.length_toList]; exact T.cnt
  have place := put_place t (way t.mask h G)
  rw [← hp] at place
  have grow : ∀ x, x ∈ t.place.toList → x ∈ (t.put (way t.mask h G)).1.place.toList := fun x hx => by
    rw [place]
    exact mem_ins.2 (.inr hx)
  have nowhere : t.place[SetTable.below t.place (way t.mask h G)]? ≠ some (way t.mask h G) := fun e => gap (List.mem_of_getElem? (by rw [Array.getElem?_toList]; exact e))
  refine ⟨by omega, ⟨ris_insert T.up nowhere, put_dm T.nod _, ?_, T.full, ?_, ?_⟩⟩
  · rw [← Array.length_toList, place, len_ins _ pl, len_ins _ (by omega), ll]
  · intro x hx
    rw [place] at hx
    rcases mem_ins.1 hx with e | e
    · rw [e]
      exact way_in _ _ _
    · exact T.low x e
  · intro i h' j' e1 e2
    rw [tins_get hs (by omega)] at e1
    rw [place, tins_get _ pl] at e2
    show ∃ k, way t.mask h' k = j' ∧ ∀ c, c < k → way t.mask h' c ∈ (t.put (way t.mask h G)).1.place.toList
    have old : ∀ {i' : Nat}, hs[i']? = some h' → t.place.toList[i']? = some j' → ∃ k, way t.mask h' k = j' ∧ ∀ c, c < k → way t.mask h' c ∈ (t.put (way t.mask h G)).1.place.toList := fun a b => by
      obtain ⟨k, z1, z2⟩ := T.lead _ h' j' a b
      exact ⟨k, z1, fun c hc => grow _ (z2 c hc)⟩
    split at e1
    · rename_i c
      rw [if_pos c] at e2
      exact old e1 e2
    · rename_i c
      rw [if_neg c] at e2
      split at e1
      · rename_i d
        rw [if_pos d] at e2
        cases e1
        cases e2
        exact ⟨G, rfl, fun c hc => grow _ (past c hc)⟩
      · rename_i d
        rw [if_neg d] at e2
        exact old e1 e2
end Kx

namespace Kx
open PySem PySem.Spec PyProof.Rows L2
/-! laying a table anew -/
theorem free_at {m : Nat} (F : Full m) (owner : Array (Option Nat)) (h : Int) {j : Nat} (hj : j ≤ m) (e : oAt owner j = none) :
    ∃ G, SetTable.layClean.free m owner (SetTable.turns m) (SetTable.bits h % (m + 1)) (SetTable.bits h) = some (way m h G) ∧ oAt owner (way m h G) = none ∧ ∀ c, c < G → oAt owner (way m h c) ≠ none := by
  obtain ⟨n, k, hn, _, ek, eo⟩ := met F h hj
  obtain ⟨G, g1, g2, g3⟩ := st_least (p := fun k => oAt owner (way m h k) = none) k (show oAt owner (way m h k) = none by rw [ek]; exact e)
  refine ⟨G, free_spec m owner _ n _ _ G (by unfold SetTable.turns; omega) (eo ▸ g1) (fun c hc => ?_) ?_, g2, g3⟩
  · have z := g3 c hc
    rw [Option.isNone_eq_false_iff, Option.isSome_iff_ne_none]
    exact z
  · rw [Option.isNone_iff_eq_none]
    exact g2
theorem own_add {m : Nat} (F : Full m) {done : List Int} {owner : Array (Option Nat)} (W : Own m done owner) (few : done.length ≤ m) (h : Int) :
    ∃ j, SetTable.layClean.free m owner (SetTable.turns m) (SetTable.bits h % (m + 1)) (SetTable.bits h) = some j ∧ Own m (done ++ [h]) (owner.setIfInBounds j (some done.length)) := by
  obtain ⟨ps, lps, inps⟩ := W.ps
  obtain ⟨j0, lt0, out0⟩ := st_missing ps (m + 1) (by omega)
  have free0 : oAt owner j0 = none := Classical.byContradiction fun z => out0 (inps j0 (Nat.le_of_lt_succ lt0) z)
  obtain ⟨G, eG, fG, past⟩ := free_at F owner h (Nat.le_of_lt_succ lt0) free0
  have inG := way_in m h G
  have self : oAt (owner.setIfInBounds (way m h G) (some done.length)) (way m h G) = some done.length := oAt_set_self _ (by rw [W.sz]; omega)
  have other : ∀ i, i ≠ way m h G → oAt (owner.setIfInBounds (way m h G) (some done.length)) i = oAt owner i := fun i hi => oAt_set_ne _ hi
  have still : ∀ i, oAt owner i ≠ none → oAt (owner.setIfInBounds (way m h G) (some done.length)) i ≠ none := fun i hi => by
    rw [other i fun z => hi (z ▸ fG)]
    exact hi
  refine ⟨_, eG, ⟨by rw [Array.size_setIfInBounds]; exact W.sz, ?_, ?_, ⟨way m h G :: ps, ?_, ?_⟩⟩⟩
  · intro j k hj ej
    by_cases c : j = way m h G
    · subst c
      rw [self] at ej
      cases ej
      exact ⟨h, G, by simp, rfl, fun c hc => still _ (past c hc)⟩
    · rw [other j c] at ej
      obtain ⟨h', G', a1, a2, a3⟩ := W.at_ j k hj ej
      exact ⟨h', G', by rw [List.getElem?_append_left (List.getElem?_eq_some_iff.mp a1).1]; exact a1, a2, fun c hc => still _ (a3 c hc)⟩
  · intro k hk
    rw [List.length_append] at hk
    rcases Nat.lt_or_ge k done.length with c | c
    · obtain ⟨j, hj, ej⟩ := W.all k c
      exact ⟨j, hj, by rw [other j fun z => by rw [z, fG] at ej; cases ej]; exact ej⟩
    · have : k = done.length := by
        have z : k < done.length + 1 := hk
        omega
      exact ⟨_, inG, this ▸ self⟩
  · simp [lps]
  · intro j hj ej
    by_cases c : j = way m h G
    · exact c ▸ List.mem_cons_self ..
    · rw [other j c] at ej
      exact List.mem_cons_of_mem _ (inps j hj ej)
theorem own_fold {m : Nat} (F : Full m) : ∀ (rest done : List Int) (owner : Array (Option Nat)), Own m done owner → done.length + rest.length ≤ m →
    ∃ fin, rest.foldl (stepF m) (some (owner, done.length)) = some (fin, done.length + rest.length) ∧ Own m (done ++ rest) fin
  | [], done, owner, W, _ => ⟨owner, rfl, by rw [List.append_nil]; exact W⟩
  | h :: rest, done, owner, W, few => by
    have l1 : (h :: rest).length = rest.length + 1 := rfl
    obtain ⟨j, ej, W1⟩ := own_add F W (by omega) h
    have l2 : (done ++ [h]).length = done.length + 1 := by simp
    obtain ⟨fin, ef, W2⟩ := own_fold F rest (done ++ [h]) _ W1 (by omega)
    rw [List.append_assoc, List.singleton_append] at W2
    refine ⟨fin, ?_, W2⟩
    show rest.foldl (stepF m) (stepF m (some (owner, done.length)) h) = _
    rw [stepF_some ej, ← l2, ef, l2, l1]
    congr 2
    omega
/-- behind a relaying: an order of the old entries, and a table of their hashes -/
theorem relay_tab (t : SetTable) {hs : Array Int} {wanted M : Nat} (hw : SetTable.sizeAbove wanted - 1 = M) (F : Full M) (few : hs.size ≤ M) :
    ∃ t' order, t.relaid hs wanted = some (t', order) ∧ order.toList.Perm (List.range hs.size) ∧ Tab t' (order.toList.map fun i => hs.getD i 0) ∧ t'.mask = M ∧ t'.led = t.led ∧ t'.plain = t.plain := by
  have lh : hs.toList.length = hs.size := Array.length_toList
  obtain ⟨owner, ef, W⟩ := own_fold F hs.toList [] _ (Own.init M) (by rw [lh]; show 0 + hs.size ≤ M; omega)
  rw [List.nil_append] at W
  have lay : SetTable.layClean M hs = some owner := by
    rw [layClean_eq]
    have z : hs.toList.foldl (stepF M) (some (Array.replicate (M + 1) none, 0)) = some (owner, 0 + hs.toList.length) := ef
    rw [z]
    rfl
  have rel : t.relaid hs wanted = some (tabOf t M owner, ((liveOf M owner).map (·.2)).toArray) := by
    rw [relaid_eq, hw, lay]
    rfl
  have asc := ris_live (fun j => owner.getD j none) (List.range (M + 1)) (by unfold Ris; exact List.pairwise_lt_range)
  have asc1 : Ris ((liveOf M owner).map (·.1)) := asc.1
  have asc2 : ∀ x ∈ (liveOf M owner).map (·.1), x ∈ List.range (M + 1) := asc.2
  have allk : ∀ k, k < hs.size → k ∈ (liveOf M owner).map (·.2) := fun k hk => by
    obtain ⟨j, z1, z2⟩ := W.all k (by rw [lh]; exact hk)
    exact List.mem_map.mpr ⟨(j, k), (mem_live W.sz).2 ⟨z1, z2⟩, rfl⟩
  have many : ((liveOf M owner).map (·.2)).length = hs.size := by
    obtain ⟨ps, p1, p2⟩ := W.ps
    have apart : ((liveOf M owner).map (·.1)).Nodup := by
      have z : List.Pairwise (fun a b => a < b) ((liveOf M owner).map (·.1)) := asc1
      exact z.imp fun q => Nat.ne_of_lt q
    have up := nat_nodup_len ((liveOf M owner).map (·.1)) ps apart fun x hx => by
      obtain ⟨⟨y, k⟩, hq, rfl⟩ := List.mem_map.mp hx
      obtain ⟨z1, z2⟩ := (mem_live W.sz).1 hq
      exact p2 y z1 (by rw [z2]; exact fun z => nomatch z)
    have down := nat_nodup_len (List.range hs.size) ((liveOf M owner).map (·.2)) List.nodup_range fun k hk => allk k (List.mem_range.mp hk)
    rw [List.length_map] at up down ⊢
    rw [List.length_range] at down
    omega
  refine ⟨_, _, rel, perm_range hs.size _ many allk, ⟨asc1, rfl, ?_, F, fun x hx => Nat.le_of_lt_succ (List.mem_range.mp (asc2 x hx)), ?_⟩, rfl, rfl, rfl⟩
  · show ((liveOf M owner).map (·.1)).toArray.size = (((liveOf M owner).map (·.2)).map fun i => hs.getD i 0).length
    simp
  · intro i h j e1 e2
    have e1' : (((liveOf M owner).map (·.2)).map fun i => hs.getD i 0)[i]? = some h := e1
    have e2' : ((liveOf M owner).map (·.1))[i]? = some j := e2
    rw [List.getElem?_map, List.getElem?_map] at e1'
    rw [List.getElem?_map] at e2'
    cases live : (liveOf M owner)[i]? with
    | none =>
      rw [live] at e2'
      cases e2'
    | some q =>
      rw [live] at e1' e2'
      have ej : q.1 = j := Option.some.inj e2'
      have eh : hs.getD q.2 0 = h := Option.some.inj e1'
      obtain ⟨z1, z2⟩ := (mem_live W.sz).1 (show (q.1, q.2) ∈ liveOf M owner from List.mem_of_getElem? live)
      obtain ⟨h0, G, a1, a2, a3⟩ := W.at_ q.1 q.2 z1 z2
      have same : h0 = h := by
        rw [← eh, Array.getD_eq_getD_getElem?, ← Array.getElem?_toList, a1]
        rfl
      subst same
      refine ⟨G, a2.trans ej, fun c hc => ?_⟩
      show way M h0 c ∈ (liveOf M owner).map (·.1)
      obtain ⟨k2, hk2⟩ := Option.ne_none_iff_exists'.mp (a3 c hc)
      exact List.mem_map.mpr ⟨(way M h0 c, k2), (mem_live W.sz).2 ⟨way_in _ _ _, hk2⟩, rfl⟩
end Kx

namespace Kx
open PySem PySem.Spec PyProof.Rows L2
section
variable {P : Program} {w : World} {A : Around} {E : Value → Shared → Prop} {s : Shared} {a : Addr} {L : List (Addr × List Int)} {es : Array (Int × Value)} {ep : Nat} {t : SetTable}
/-- the set at a has the tuples of L, by its table -/
structure SetB (P : Program) (w : World) (h : Heap) (a : Addr) (L : List (Addr × List Int)) (es : Array (Int × Value)) (ep : Nat) (t : SetTable) : Prop where
  obj : ∃ o, h.get? a = some o ∧ o.ExactSet ∧ o.data = .set es ep t
  ent : es.toList = rowsOf P w L
  tab : Tab t (L.map fun p => thash P w p.2)
  msk : Mask t.mask
  one : (L.map (·.2)).Nodup
  tup : ∀ p ∈ L, IsT P w h p.2 p.1
  pln : t.plain = true
  gap : L.length * 5 < t.mask * 3
  few : L.length ≤ 300
theorem SetB.many (R : SetB P w s.heap a L es ep t) : es.size = L.length := by
  have z := congrArg List.length R.ent
  rw [Array.length_toList] at z
  rw [z]
  unfold rowsOf
  exact List.length_map _
theorem SetB.here (R : SetB P w s.heap a L es ep t) : t.place.size = L.length := by
  have z := R.tab.cnt
  rw [List.length_map] at z
  exact z
theorem SetB.fit (R : SetB P w s.heap a L es ep t) : t.fits es.size = true := by
  have z1 := R.many
  have z2 := R.here
  have z3 := R.gap
  have z4 : t.dummies.size = 0 := by rw [R.tab.nod]; rfl
  unfold SetTable.fits SetTable.fill
  simp only [Bool.and_eq_true, beq_iff_eq, decide_eq_true_eq]
  omega
theorem SetB.row (R : SetB P w s.heap a L es ep t) {i : Nat} {p : Addr × List Int} (h : L[i]? = some p) : es[i]? = some (thash P w p.2, Value.ref p.1) := by
  have z : es.toList[i]? = some (thash P w p.2, Value.ref p.1) := by
    rw [R.ent]
    unfold rowsOf
    rw [List.getElem?_map, h]
    rfl
  rw [Array.getElem?_toList] at z
  exact z
theorem SetB.odd (R : SetB P w s.heap a L es ep t) : ¬ t.gaveWay = true := by
  have z := R.tab.full.1
  unfold SetTable.gaveWay
  rw [z]
  decide
theorem nod_nth (m : Nat) : ∀ (n : Nat) (p : SetTable.Probe), p.dummy = none → (nth m p n).dummy = none
  | 0, _, h => h
  | n + 1, p, h => nod_nth m n (adv m p) (by unfold adv; split <;> exact h)
abbrev beg (m : Nat) (h : Int) : SetTable.Probe := runAt m (SetTable.bits h % (m + 1)) (SetTable.bits h)
/-- the search from step c of the way on, for a member that lies at or behind it -/
theorem seek (R : SetB P w s.heap a L es ep t) (adding : Bool) {x : Addr} {k : List Int} (hx : IsT P w s.heap k x) (hu : A.units < cLine) {G : Nat} (lim : G < 10 * SetTable.turns t.mask)
    (gap : way t.mask (thash P w k) G ∉ t.place.toList) (past : ∀ c, c < G → way t.mask (thash P w k) c ∈ t.place.toList) {Q : SetFound → Shared → Prop}
    (yes : k ∈ L.map (·.2) → ∀ z : Option Nat, (adding = true ∨ z.isSome = true) → Q (.there z) s) (no : k ∉ L.map (·.2) → Q (.free (way t.mask (thash P w k) G) false) s) :
    ∀ (f c : Nat) (from_ : Option SetTable.Probe), from_.getD (t.probeStart (thash P w k)) = nth t.mask (beg t.mask (thash P w k)) c → c ≤ G → G - c < f →
      (∀ (i : Nat) (p : Addr × List Int), L[i]? = some p → p.2 = k → ∃ d, c ≤ d ∧ d < G ∧ t.place.toList[i]? = some (way t.mask (thash P w k) d)) →
      wpAny (model P w) A (setSearchFrom a (.ref x) (thash P w k) adding f from_) Q E s
  | 0, c, from_, _, _, z, _ => absurd z (Nat.not_lt_zero _)
  | f + 1, c, from_, hfrom, hc, hf, mem => by
    obtain ⟨o, o1, o2, o3⟩ := R.obj
    have stepJ : ∀ q, (nth t.mask (nth t.mask (beg t.mask (thash P w k)) c) q).j = way t.mask (thash P w k) (c + q) := fun q => by
      rw [← nth_add]
    have hashes : ∀ (i : Nat) (p : Addr × List Int), L[i]? = some p → (es[i]?.map (·.1)).getD 0 = thash P w p.2 := fun i p hp => by
      rw [R.row hp]
      rfl
    have spec := go_spec t R.tab.up R.tab.nod (fun i => (es[i]?.map (·.1)).getD 0) (thash P w k) (10 * SetTable.turns t.mask) (G - c) (nth t.mask (beg t.mask (thash P w k)) c) (nod_nth _ _ _ rfl) (by omega)
      (fun q hq => by rw [stepJ]; exact past _ (by omega)) (by rw [stepJ, show c + (G - c) = G by omega]; exact gap)
    rw [setSearchFrom_succ]
    refine wpAny_bind (wpAny_setState_of o1 o3 R.fit ?_)
    dsimp only
    refine wp_if_neg R.odd ?_
    try refine wpAny_bind (wpAny_pure ?_)
    unfold SetTable.probe
    rw [hfrom]
    rcases spec with ⟨q, i, lq, ei, eh, before, met⟩ | ⟨before, met⟩
    · rw [met]
      dsimp only
      rw [stepJ] at ei
      have li : i < L.length := by
        have z := (List.getElem?_eq_some_iff.mp ei).1
        rw [Array.length_toList, R.here] at z
        exact z
      obtain ⟨p, hp⟩ : ∃ p, L[i]? = some p := ⟨L[i], List.getElem?_eq_getElem li⟩
      have pin : p ∈ L := List.mem_of_getElem? hp
      have live : t.slot (way t.mask (thash P w k) (c + q)) = .live i := slot_live R.tab.up ei
      have cand : wpAny (model P w) A (searchRest a (.ref x) (thash P w k) adding f es t (nth t.mask (nth t.mask (beg t.mask (thash P w k)) c) q).j i (nth t.mask (nth t.mask (beg t.mask (thash P w k)) c) (q + 1))) Q E s := by
        rw [stepJ]
        unfold searchRest
        rw [R.row hp]
        dsimp only
        refine wpAny_bind (wpAny_holding (wpAny_eqBool_tuple hu (R.tup p pin) hx ?_))
        refine wpAny_bind (wpAny_setState_of o1 o3 R.fit ?_)
        dsimp only
        by_cases same : p.2 = k
        · have inL : k ∈ L.map (·.2) := List.mem_map.mpr ⟨p, pin, same⟩
          cases adding with
          | true =>
            refine wp_if_pos (by simp [same]) ?_
            exact wpAny_pure (yes inL none (.inl rfl))
          | false =>
            refine wp_if_neg (by simp) ?_
            try refine wpAny_bind (wpAny_pure ?_)
            rw [sameMem]
            dsimp only
            simp only [if_true, live, R.row hp]
            refine wpAny_bind (wpAny_isSame_ref_self (wpAny_bind (wpAny_pure ?_)))
            simp only [if_true]
            refine wp_if_pos (by simp [same]) ?_
            exact wpAny_pure (yes inL (some i) (.inr rfl))
        · refine wp_if_neg (by simp [same]) ?_
          try refine wpAny_bind (wpAny_pure ?_)
          rw [sameMem]
          dsimp only
          simp only [if_true, live, R.row hp]
          refine wpAny_bind (wpAny_isSame_ref_self (wpAny_bind (wpAny_pure ?_)))
          simp only [if_true]
          refine wp_if_neg (by simp [same]) ?_
          refine seek R adding hx hu lim gap past yes no f (c + (q + 1)) _ (by show nth t.mask (nth t.mask (beg t.mask (thash P w k)) c) (q + 1) = _; rw [← nth_add]) (by omega) (by omega) fun i0 p0 h0 k0 => ?_
          obtain ⟨d, d1, d2, d3⟩ := mem i0 p0 h0 k0
          refine ⟨d, ?_, d2, d3⟩
          rcases Nat.lt_or_ge (c + q) d with z | z
          · omega
          exfalso
          rcases Nat.lt_or_eq_of_le z with lt | eq
          · exact before (d - c) i0 (by omega) (by rw [stepJ, show c + (d - c) = d by omega]; exact d3) ((hashes i0 p0 h0).trans (congrArg (thash P w) k0))
          · rw [eq] at d3
            have two := slot_live R.tab.up d3
            rw [live] at two
            injection two with two
            rw [← two, hp] at h0
            cases h0
            exact same k0
      by_cases led : t.led = true
      · refine wp_if_neg (by simp [led]) ?_
        try refine wpAny_bind (wpAny_pure ?_)
        exact cand
      · refine wp_if_pos (by simp [led]) ?_
        refine wpAny_bind (seen_tup hx (fun y hy => ?_) ?_)
        · obtain ⟨e, he, rfl⟩ := List.mem_map.mp hy
          have e1 : e ∈ es.toList := by
            have z : e ∈ es ∧ e.1 = thash P w k := by simpa using he
            simpa using z.1
          rw [R.ent] at e1
          obtain ⟨p2, m2, rfl⟩ := List.mem_map.mp e1
          exact ⟨p2.2, p2.1, rfl, R.tup p2 m2⟩
        · refine wp_if_neg (by decide) ?_
          try refine wpAny_bind (wpAny_pure ?_)
          exact cand
    · rw [met, stepJ, show c + (G - c) = G by omega]
      dsimp only
      refine wpAny_pure (no fun inL => ?_)
      obtain ⟨p0, m0, k0⟩ := List.mem_map.mp inL
      obtain ⟨i0, l0, e0⟩ := List.getElem_of_mem m0
      have h0 : L[i0]? = some p0 := by rw [List.getElem?_eq_getElem l0, e0]
      obtain ⟨d, d1, d2, d3⟩ := mem i0 p0 h0 k0
      exact before (d - c) i0 (by omega) (by rw [stepJ, show c + (d - c) = d by omega]; exact d3) ((hashes i0 p0 h0).trans (congrArg (thash P w) k0))
theorem search_b (R : SetB P w s.heap a L es ep t) (adding : Bool) {x : Addr} {k : List Int} (hx : IsT P w s.heap k x) (hu : A.units < cLine) {Q : SetFound → Shared → Prop}
    (yes : k ∈ L.map (·.2) → ∀ z : Option Nat, (adding = true ∨ z.isSome = true) → Q (.there z) s)
    (no : ∀ G, k ∉ L.map (·.2) → way t.mask (thash P w k) G ∉ t.place.toList → (∀ c, c < G → way t.mask (thash P w k) c ∈ t.place.toList) → Q (.free (way t.mask (thash P w k) G) false) s) :
    wpAny (model P w) A (setSearch a (.ref x) (thash P w k) adding) Q E s := by
  have room := R.gap
  obtain ⟨G, lim, gap, past⟩ := R.tab.gap (by rw [List.length_map]; omega) (thash P w k)
  have big : G < 100000 := by
    have z : 10 * SetTable.turns t.mask ≤ 6000 := by
      unfold SetTable.turns
      rcases R.msk with e | e | e | e <;> omega
    omega
  unfold setSearch
  refine seek R adding hx hu lim gap past yes (fun n => no G n gap past) 100000 0 none rfl (Nat.zero_le _) (by omega) fun i p hp hk => ?_
  have lp : i < t.place.toList.length := by
    have z := (List.getElem?_eq_some_iff.mp hp).1
    rw [Array.length_toList, R.here]
    exact z
  obtain ⟨c, lc, ec⟩ := R.tab.ahead (i := i) gap (by rw [List.getElem?_map, hp, ← hk]; rfl) (List.getElem?_eq_getElem lp)
  exact ⟨c, Nat.zero_le _, lc, by rw [List.getElem?_eq_getElem lp, ec]⟩
end
end Kx

namespace Kx
open PySem PySem.Spec PyProof.Rows L2
theorem sz_20 : SetTable.sizeAbove (SetTable.grown 5) = 32 := by decide +kernel
theorem sz_76 : SetTable.sizeAbove (SetTable.grown 19) = 128 := by decide +kernel
theorem sz_308 : SetTable.sizeAbove (SetTable.grown 77) = 512 := by decide +kernel
section
variable {P : Program} {w : World} {A : Around} {E : Value → Shared → Prop} {s : Shared} {a : Addr} {L : List (Addr × List Int)} {es : Array (Int × Value)} {ep : Nat} {t : SetTable}
theorem relay_b {o : Obj} (o1 : s.heap.get? a = some o) (o2 : o.ExactSet) (o3 : o.data = .set es ep t) (ent : es.toList = rowsOf P w L) (sz : t.place.size = es.size) (nod : t.dummies = #[]) (fl : es.size ≤ t.mask)
    (one : (L.map (·.2)).Nodup) (tup : ∀ p ∈ L, IsT P w s.heap p.2 p.1) (pln : t.plain = true) (few : L.length ≤ 300) {wanted M : Nat} (hw : SetTable.sizeAbove wanted = M + 1) (mM : Mask M) (room : L.length * 5 < M * 3) {Q : Unit → Shared → Prop}
    (q : ∀ h' L' es' ep' t', Heap.SameBut a s.heap h' → SetB P w h' a L' es' ep' t' → L'.Perm L → Q () { s with heap := h' }) : wpAny (model P w) A (setRelay a wanted) Q E s := by
  have many : es.size = L.length := by
    have z := congrArg List.length ent
    rw [Array.length_toList] at z
    rw [z]
    unfold rowsOf
    exact List.length_map _
  have fit : t.fits es.size = true := by
    have z4 : t.dummies.size = 0 := by rw [nod]; rfl
    unfold SetTable.fits SetTable.fill
    simp only [Bool.and_eq_true, beq_iff_eq, decide_eq_true_eq]
    omega
  obtain ⟨t', order, rel, perm, T, eM, eL, eP⟩ := relay_tab t (hs := es.map (·.1)) (wanted := wanted) (M := M) (by omega) mM.full (by rw [Array.size_map, many]; omega)
  rw [Array.size_map, many] at perm
  obtain ⟨L2, r1, r2, r3⟩ := order_rows L es order ent perm
  rw [← r3] at T
  have same : (order.filterMap (es[·]?)).size = es.size := by
    have z := congrArg List.length r1
    rw [Array.length_toList] at z
    rw [z, many, ← r2.length_eq]
    unfold rowsOf
    exact List.length_map _
  have small : M + 1 ≤ 512 := by rcases mM with e | e | e | e <;> omega
  rw [setRelay_eq]
  refine wpAny_bind (wpAny_setState_of o1 o3 fit ?_)
  dsimp only
  refine wp_if_neg (by rw [hw, sizeLine_eq]; omega) ?_
  try refine wpAny_bind (wpAny_pure ?_)
  rw [rel]
  dsimp only
  refine wpAny_bind ?_
  refine wp_if_neg (by rw [same]; simp) ?_
  try refine wpAny_bind (wpAny_pure ?_)
  refine wpAny_pure ?_
  dsimp only
  refine wpAny_storeSet_of o1 o3 ?_ (by rw [same, many, sizeLine_eq]; omega)
  have but : Heap.SameBut a s.heap (s.heap.update a (Obj.putSet (order.filterMap (es[·]?)) t')) := Heap.SameBut.update ..
  exact q _ L2 _ (ep + 1) t' but ⟨⟨_, store_at o1 o3, ⟨o2.1, o2.2.1, o2.2.2⟩, rfl⟩, r1, T, by rw [eM]; exact mM, (r2.map (·.2)).nodup_iff.mpr one, fun p hp => isT_same (tup p (r2.mem_iff.mp hp)) o1 o3 but, by rw [eP]; exact pln, by rw [r2.length_eq, eM]; exact room, by rw [r2.length_eq]; exact few⟩ r2
/-- a tuple that is not in is added -/
theorem add_b (R : SetB P w s.heap a L es ep t) {x : Addr} {k : List Int} (hx : IsT P w s.heap k x) (hu : A.units < cLine) (new : k ∉ L.map (·.2)) (few : L.length + 1 ≤ 300) {Q : Bool → Shared → Prop}
    (q : ∀ h' L' es' ep' t', Heap.SameBut a s.heap h' → SetB P w h' a L' es' ep' t' → L'.Perm ((x, k) :: L) → Q true { s with heap := h' }) :
    wpAny (model P w) A (setAddHashed a (.ref x) (thash P w k)) Q E s := by
  obtain ⟨o, o1, o2, o3⟩ := R.obj
  have many := R.many
  have room := R.gap
  unfold setAddHashed
  refine wpAny_holding ?_
  rw [show (100000 : Nat) = 99999 + 1 from rfl, setAddHashedIn_succ]
  refine wpAny_bind (wpAny_setState_of o1 o3 R.fit ?_)
  dsimp only
  refine wp_if_neg (by simp [byScan, Value.scannable]) ?_
  try refine wpAny_bind (wpAny_pure ?_)
  refine wpAny_bind (search_b R true hx hu (fun z => absurd z new) fun G _ gap past => ?_)
  dsimp only
  refine wpAny_bind (wpAny_setState_of o1 o3 R.fit ?_)
  dsimp only
  generalize hp : SetTable.below t.place (way t.mask (thash P w k) G) = p
  obtain ⟨lp, T1⟩ := R.tab.add gap past hp.symm
  have fst : (t.put (way t.mask (thash P w k) G)).2 = p := hp
  have msk : (t.put (way t.mask (thash P w k) G)).1.mask = t.mask := rfl
  have pl1 : (t.put (way t.mask (thash P w k) G)).1.plain = true := R.pln
  generalize t.put (way t.mask (thash P w k) G) = pt at T1 fst msk pl1 ⊢
  obtain ⟨t1, p'⟩ := pt
  dsimp only at T1 fst msk pl1 ⊢
  subst fst
  first
    | (refine wpAny_bind ?_; refine wp_if_pos pl1 ?_; refine hashBy_tup hx ?_)
    | refine wp_if_pos pl1 (wpAny_bind (hashBy_tup hx ?_))
  simp only [if_true]
  have ent1 : (SetTable.insertAt es p' (thash P w k, Value.ref x)).toList = rowsOf P w (L.take p' ++ (x, k) :: L.drop p') := by
    rw [SetTable.toList_insertAt, rows_put, R.ent]
  have perm := put_perm L p' (x, k)
  have hash1 : (L.map fun p => thash P w p.2).take p' ++ thash P w k :: (L.map fun p => thash P w p.2).drop p' = (L.take p' ++ (x, k) :: L.drop p').map fun p => thash P w p.2 := by
    rw [List.map_append, List.map_cons, List.map_take, List.map_drop]
  rw [hash1] at T1
  have one1 : ((L.take p' ++ (x, k) :: L.drop p').map (·.2)).Nodup := (perm.map (·.2)).nodup_iff.mpr (List.nodup_cons.mpr ⟨new, R.one⟩)
  generalize SetTable.insertAt es p' (thash P w k, Value.ref x) = es1 at ent1 ⊢
  generalize L.take p' ++ (x, k) :: L.drop p' = L1 at perm T1 one1 ent1
  have l1 : L1.length = L.length + 1 := perm.length_eq
  have z1 : es1.size = L.length + 1 := by
    have z := congrArg List.length ent1
    rw [Array.length_toList] at z
    rw [z, ← l1]
    unfold rowsOf
    exact List.length_map _
  have here1 : t1.place.size = L.length + 1 := by
    have z := T1.cnt
    rw [List.length_map, l1] at z
    exact z
  have fill1 : t1.fill = L.length + 1 := by
    have z4 : t1.dummies.size = 0 := by rw [T1.nod]; rfl
    unfold SetTable.fill
    omega
  refine wpAny_bind (wpAny_storeSet_of o1 o3 ?_ (by rw [z1, sizeLine_eq]; omega))
  have but : Heap.SameBut a s.heap (s.heap.update a (Obj.putSet es1 t1)) := Heap.SameBut.update ..
  have at1 := store_at (es' := es1) (t' := t1) o1 o3
  generalize s.heap.update a (Obj.putSet es1 t1) = h1 at but at1 ⊢
  have tup1 : ∀ p ∈ L1, IsT P w h1 p.2 p.1 := fun p hp => by
    rcases List.mem_cons.mp (perm.mem_iff.mp hp) with e | hp
    · rw [e]
      exact isT_same hx o1 o3 but
    · exact isT_same (R.tup p hp) o1 o3 but
  by_cases full : t1.tooFull = true
  · have much : (L.length + 1) * 5 ≥ t.mask * 3 := by
      have z := full
      unfold SetTable.tooFull at z
      rw [decide_eq_true_eq, fill1, msk] at z
      exact z
    first
      | (refine wpAny_bind ?_; refine wp_if_pos (by simp [full]) ?_)
      | (refine wp_if_pos (by simp [full]) ?_; refine wpAny_bind ?_)
    rw [many]
    have go : ∀ M, SetTable.sizeAbove (SetTable.grown (L.length + 1)) = M + 1 → Mask M → (L.length + 1) * 5 < M * 3 →
        wpAny (model P w) A (setRelay a (SetTable.grown (L.length + 1))) (fun _ s' => wpAny (model P w) A (pure true) Q E s') E { s with heap := h1 } := fun M m1 m2 m3 => by
      refine relay_b (s := { s with heap := h1 }) at1 ⟨o2.1, o2.2.1, o2.2.2⟩ rfl ent1 (by rw [here1, z1]) T1.nod (by rw [z1, msk]; rcases R.msk with e | e | e | e <;> rw [e] at room ⊢ <;> omega) one1 tup1 pl1 (by omega) m1 m2 (by omega) ?_
      intro h2 L2 es2 ep2 t2 but2 R2 perm2
      exact wpAny_pure (q h2 L2 es2 ep2 t2 (but.trans but2) R2 (perm2.trans perm))
    rcases R.msk with e | e | e | e
    · have e2 : L.length = 4 := by rw [e] at room much; omega
      exact go 31 (by rw [e2, sz_20]) (.inr (.inl rfl)) (by omega)
    · have e2 : L.length = 18 := by rw [e] at room much; omega
      exact go 127 (by rw [e2, sz_76]) (.inr (.inr (.inl rfl))) (by omega)
    · have e2 : L.length = 76 := by rw [e] at room much; omega
      exact go 511 (by rw [e2, sz_308]) (.inr (.inr (.inr rfl))) (by omega)
    · exfalso
      rw [e] at much
      omega
  · first
      | refine wp_if_neg (by simp [full]) ?_
      | (refine wpAny_bind ?_; refine wp_if_neg (by simp [full]) ?_; refine wpAny_pure ?_)
    refine wpAny_pure (q h1 L1 es1 (ep + 1) t1 but ⟨⟨_, at1, ⟨o2.1, o2.2.1, o2.2.2⟩, rfl⟩, ent1, T1, by rw [msk]; exact R.msk, one1, tup1, pl1, ?_, by omega⟩ perm)
    have z := full
    unfold SetTable.tooFull at z
    rw [decide_eq_true_eq, fill1] at z
    omega
end
end Kx

namespace Kx
open PySem PySem.Spec PyProof.Rows L2
section
variable {P : Program} {w : World} {A : Around} {E : Value → Shared → Prop} {s : Shared} {a : Addr} {L : List (Addr × List Int)} {es : Array (Int × Value)} {ep : Nat} {t : SetTable}
theorem SetB.isSet (R : SetB P w s.heap a L es ep t) : s.TypeIs (.ref a) "set" := by
  obtain ⟨o, o1, o2, o3⟩ := R.obj
  exact ⟨o, o1, o2.1⟩
theorem SetB.bare (R : SetB P w s.heap a L es ep t) : ∀ b, Value.ref a = .ref b → ∃ ob, s.heap.get? b = some ob ∧ ob.dict = none := by
  obtain ⟨o, o1, o2, o3⟩ := R.obj
  rintro b ⟨⟩
  exact ⟨o, o1, o2.2.1⟩
theorem SetB.toks (R : SetB P w s.heap a L es ep t) (tk : Nat) : SetB P w ({ s with toks := tk } : Shared).heap a L es ep t := R
/-- x in the set -/
theorem in_b (R : SetB P w s.heap a L es ep t) {x : Addr} {k : List Int} (hx : IsT P w s.heap k x) (hu : A.units + 64 < cLine) {Q : Value → Shared → Prop}
    (q : ∀ tk, Q (.bool (decide (k ∈ L.map (·.2)))) { s with toks := tk }) : wpAny (model P w) A (compareOp .In (.ref x) (.ref a)) Q E s := by
  obtain ⟨o, o1, o2, o3⟩ := R.obj
  have fm := F.slot_set_contains
  show wpAny _ _ (do return .bool (← contains (.ref a) (.ref x))) Q E s
  refine wpAny_bind ?_
  unfold contains
  (try with_reducible refine wpAny_holding ?_)
  refine wpAny_bind (wpAny_specialOf R.isSet fm.lookup ?_)
  show wpAny _ _ (if (some (Value.builtin "set.__contains__") == some Value.none) = true then _ else _) _ _ s
  rw [if_neg (by rw [beq_builtin_none]; decide)]
  have fin : ∀ tk, wpAny (model P w) A.in1 (setFindIn a (.ref x) (thash P w k) 100000) (fun r s' => r.isSome = decide (k ∈ L.map (·.2)) ∧ s' = { s with toks := tk }) No { s with toks := tk } := fun tk => by
    rw [show (100000 : Nat) = 99999 + 1 from rfl]
    unfold setFindIn
    refine wpAny_bind (wpAny_setState_of (s := { s with toks := tk }) o1 o3 R.fit ?_)
    dsimp only
    refine wp_if_neg (by simp [byScan, Value.scannable]) ?_
    (try refine wpAny_bind (wpAny_pure ?_))
    refine wpAny_bind (search_b (s := { s with toks := tk }) R false hx (by show A.units + 1 < cLine; omega) (fun z r hr => ?_) (fun G z _ _ => ?_))
    · rcases hr with e | e
      · cases e
      · exact wpAny_pure ⟨by rw [e, decide_eq_true z], rfl⟩
    · exact wpAny_pure ⟨by rw [decide_eq_false z]; rfl, rfl⟩
  have call : wpAny (model P w) A.in1 (Builtin.«frozenset.__contains__» ⟨[.ref a, .ref x], []⟩) (fun f s' => ∃ v, f = .done (.ret v) ∧ wpAny (model P w) A (truthy v) (fun b s' => wpAny (model P w) A (pure (.bool b)) Q E s') E s') E s := by
    unfold Builtin.«frozenset.__contains__»
    unfold Builtin.Frozenset.oneOther
    simp only [List.isEmpty_nil, bind_assoc]
    unfold Builtin.Frozenset.addrOf Builtin.Frozenset.withSetAsKey
    unfold setContains
    refine wpAny_bind (wpAny_pure ?_)
    (try dsimp only)
    refine wpAny_bind (wpAny_pure ?_)
    (try dsimp only)
    refine wpAny_bind (wpAny_tryCatch (wpAny_holding (wpAny_bind ((TK P w).pyHash (A := A.in1) (by show A.units + 1 < cLine; omega) hx ?_))))
    refine wpAny_bind (noF (fin _) fun r s' hr => wpAny_pure ?_)
    obtain ⟨e, rfl⟩ := hr
    show wpAny _ _ (ret (Value.bool r.isSome)) _ _ _
    rw [e]
    exact wpAny_pure ⟨_, rfl, wpAny_truthy_bool (wpAny_pure (q _))⟩
  exact wpAny_bind (wpAny_callSpecialUnlessNone?_slot (name := Str.ofString "__contains__") R.isSet fm (wpAny_call_entry fm R.isSet entry_set_contains call (F.args_set_contains_2 _ _)))
/-- set.add of a tuple that is not in -/
theorem adds_b (R : SetB P w s.heap a L es ep t) {x : Addr} {k : List Int} (hx : IsT P w s.heap k x) (hu : A.units + 64 < cLine) (new : k ∉ L.map (·.2)) (few : L.length + 1 ≤ 300) {Q : Value → Shared → Prop}
    (q : ∀ h' L' es' ep' t' tk, Heap.SameBut a s.heap h' → SetB P w h' a L' es' ep' t' → L'.Perm ((x, k) :: L) → Q .none { s with heap := h', toks := tk }) :
    wpAny (model P w) A (call (.builtin "set.add") [.ref a, .ref x]) Q E s := by
  refine wpAny_call_entry F.slot_set_add R.isSet F.entry_set_add ?_ (F.args_set_add_2 _ _)
  unfold Builtin.«set.add»
  unfold Builtin.Frozenset.oneOther
  simp only [List.isEmpty_nil, bind_assoc]
  unfold Builtin.Frozenset.addrOf
  unfold setAdd
  refine wpAny_bind (wpAny_pure ?_)
  (try dsimp only)
  refine wpAny_bind (wpAny_pure ?_)
  (try dsimp only)
  refine wpAny_bind (wpAny_holding (wpAny_bind ((TK P w).pyHash (A := A.in1) (by show A.units + 1 < cLine; omega) hx ?_)))
  refine add_b (s := { s with toks := s.toks + (TK P w).draws k }) R hx (by show A.units + 1 < cLine; omega) new few fun h' L' es' ep' t' but R' perm => ?_
  show wpAny _ _ (ret Value.none) _ _ _
  exact wpAny_pure ⟨_, rfl, q h' L' es' ep' t' _ but R' perm⟩
end
end Kx

namespace Kx
open PySem PySem.Spec PyProof.Rows L2
/-! sets of tuples over the layer -/
structure SetL (P : Program) (w : World) (h : Heap) (a : Addr) (L : List (Addr × List Int)) : Prop where
  ex : ∃ (es : Array (Int × Value)) (ep : Nat) (t : SetTable), (∃ o, h.get? a = some o ∧ o.ExactSet ∧ o.data = .set es ep t) ∧ es.toList = rowsOf P w L ∧ Tab t (L.map fun p => thash P w p.2) ∧ Mask t.mask ∧ (L.map (·.2)).Nodup ∧ t.plain = true ∧ L.length * 5 < t.mask * 3 ∧ L.length ≤ 300
def SetO (P : Program) (w : World) (a : Addr) (L : List (Addr × List Int)) : HO := .ext fun h => SetL P w h a L
theorem SetB.l {P : Program} {w : World} {h : Heap} {a : Addr} {L : List (Addr × List Int)} {es : Array (Int × Value)} {ep : Nat} {t : SetTable} (R : SetB P w h a L es ep t) : SetL P w h a L := ⟨es, ep, t, R.obj, R.ent, R.tab, R.msk, R.one, R.pln, R.gap, R.few⟩
theorem SetL.b {P : Program} {w : World} {h : Heap} {a : Addr} {L : List (Addr × List Int)} (R : SetL P w h a L) (tup : ∀ p ∈ L, IsT P w h p.2 p.1) : ∃ es ep t, SetB P w h a L es ep t := by
  obtain ⟨es, ep, t, z1, z2, z3, z4, z5, z6, z7, z8⟩ := R.ex
  exact ⟨es, ep, t, ⟨z1, z2, z3, z4, z5, tup, z6, z7, z8⟩⟩
theorem setO_ok {P : Program} {w : World} {H : Hp} {h : Heap} {a : Addr} {L : List (Addr × List Int)} (R : SetL P w h a L) : ObjOk P w H h a (SetO P w a L) := by
  obtain ⟨es, ep, t, ⟨o, o1, o2⟩, rest⟩ := R.ex
  refine ⟨⟨es, ep, t, ⟨o, o1, o2⟩, rest⟩, ⟨o, o1⟩, fun h1 h2 z keep => ?_⟩
  obtain ⟨es', ep', t', ⟨o', p1, p2⟩, more⟩ := SetL.ex z
  exact ⟨es', ep', t', ⟨o', keep o' p1, p2⟩, more⟩
section
variable {X : Cx} {pins : List (Addr × Obj)} {σ : L2.St} {H : Hp} {s : Shared}
theorem setO_at {a : Addr} {L : List (Addr × List Int)} (I : Inv X pins σ H s) (h : H a = some (SetO X.prog X.w a L)) (tup : ∀ p ∈ L, SqT X.K H p.1 (p.2.map V.int)) : ∃ es ep t, SetB X.prog X.w s.heap a L es ep t :=
  SetL.b (I.hok a _ h).1 fun p hp => I.isT (tup p hp)
/-- set() -/
theorem cr_setNew : CallR X (.type "set") (fun xs H Q => xs = [] ∧ ∀ p, H p = none → Q (.ref p) (upd H p (SetO X.prog X.w p []))) := by
  intro pins s σ H xs us Q I r h
  obtain ⟨rfl, q⟩ := h
  cases r
  refine setR_new fun _ => ?_
  have new : SetL X.prog X.w (s.heap.push { cls := .type "set", dict := none, data := .set #[] 0 (.fresh 0 0 (!X.w.params.followText "set-order")) }) s.heap.objs.size [] :=
    ⟨#[], 0, _, ⟨_, Heap.get?_push_size _ rfl, ⟨rfl, rfl, rfl⟩, rfl⟩, rfl, ⟨List.Pairwise.nil, rfl, rfl, full_old (.inl rfl), (fun x hx => by cases hx), fun i h j e => by cases e⟩, .inl rfl, List.Pairwise.nil, rfl, (show 0 * 5 < 7 * 3 by decide), (show 0 ≤ 300 by decide)⟩
  exact ⟨.ref _, _, I.laid (t' := s.toks) (fun b u e => Heap.get?_push_of_some _ e) (Nat.le_refl _) (setO_ok new), rfl, q _ (I.hok.fresh (Nat.le_refl _))⟩
/-- x in found -/
def rInS (K : PySem.W.Frag) (P : Program) (w : World) : V → V → Hp → VK → Prop := fun x y H Q => ∃ (p a : Addr) (k : List Int) (L : List (Addr × List Int)), x = .ref p ∧ y = .ref a ∧ SqT K H p (k.map V.int) ∧ H a = some (SetO P w a L) ∧ (∀ z ∈ L, SqT K H z.1 (z.2.map V.int)) ∧ Q (.bl (decide (k ∈ L.map (·.2)))) H
theorem op_inS (hu : X.A.units + 64 < cLine) : OpR X (compareOp .In) (rInS X.K X.prog X.w) := by
  intro pins s σ H x y v u Q I rx ry h
  obtain ⟨p, a, k, L, rfl, rfl, hp, ha, tup, q⟩ := h
  cases rx
  cases ry
  obtain ⟨es, ep, t, R⟩ := setO_at I ha tup
  exact in_b R (I.isT hp) hu fun tk => ⟨.bl _, H, I.tok tk, rfl, q⟩
/-- found.add(x), x not in it -/
def rAddS (K : PySem.W.Frag) (P : Program) (w : World) : V → List V → Hp → VK → Prop := fun x xs H Q => ∃ (a p : Addr) (k : List Int) (L : List (Addr × List Int)), x = .ref a ∧ xs = [.ref p] ∧ SqT K H p (k.map V.int) ∧ H a = some (SetO P w a L) ∧ (∀ z ∈ L, SqT K H z.1 (z.2.map V.int)) ∧ k ∉ L.map (·.2) ∧ L.length + 1 ≤ 300 ∧
  ∀ L', L'.Perm ((p, k) :: L) → Q .non (upd H a (SetO P w a L'))
theorem mt_addS (hu : X.A.units + 64 < cLine) : MtR X "set.add" (rAddS X.K X.prog X.w) := by
  intro pins s σ H x xs v us Q I rx rxs h
  obtain ⟨a, p, k, L, rfl, rfl, hp, ha, tup, new, few, q⟩ := h
  cases rx
  obtain ⟨u, rfl, ru⟩ := vals1 rxs
  cases ru
  obtain ⟨es, ep, t, R⟩ := setO_at I ha tup
  refine adds_b R (I.isT hp) hu new few fun h' L' es' ep' t' tk but R' perm => ?_
  obtain ⟨o', p1, _⟩ := R'.obj
  exact ⟨.non, _, I.write (e := a) (t' := tk) (by rw [ha]; trivial) (.inl rfl) (fun b u hb hu => (but.2 b hb).trans hu) ⟨o', p1⟩ (setO_ok R'.l), rfl, q L' perm⟩
def tAddS (K : PySem.W.Frag) (P : Program) (w : World) (to : TE) (t : TA) : TE := fun σ H Q => to σ H fun x H1 => (∃ a L, x = V.ref a ∧ H1 a = some (SetO P w a L)) ∧ t σ H1 fun xs H2 => rAddS K P w x xs H2 Q
theorem pe_addS {o e : Expr} {es : List Expr} {to : TE} {t : TA} {apos cpos : Pos} (hu : X.A.units + 64 < cLine) (ho : PE X o to) (ha : PA X (e :: es) t)
    (hbase : attributeBase o "add" X.env (eval o X.env) = eval o X.env := by rfl)
    (hfew : ((backTo cpos (starEach (e :: es) X.env)).all (fun x => !x.1) && (backToKw cpos (keywordEach [] X.env)).all (fun x => x.1.isSome) && decide ((e :: es).length + ([] : List Keyword).length + (if ([] : List Keyword).isEmpty then 0 else 1) < 30)) = true := by rfl)
    (hline : (apos.endLine == cpos.line) = true := by rfl) (hs : starEach (e :: es) X.env = (false, eval e X.env) :: starEach es X.env := by rfl) (hplain : (backTo cpos (starEach es X.env)).any (·.1) = false := by rfl) :
    PE X (.Call (.Attribute o "add" apos) (e :: es) [] cpos) (tAddS X.K X.prog X.w to t) := by
  refine ⟨fun pins s σ H Q I h => wpAny_Call_method_late hbase hfew hline rfl (thn (ho.run pins s σ H _ I h) fun v s1 out => ?_)⟩
  obtain ⟨x, H1, I1, r1, ⟨a, L, rfl, hka⟩, q1⟩ := out
  cases r1
  obtain ⟨es', ep', t', ⟨ob, b1, b2, b3⟩, _⟩ := SetL.ex (I1.hok a _ hka).1
  refine ⟨"set", "set.add", F.plainAttrs_set, F.slot_set_add, F.type_set_add, ⟨ob, b1, b2.1⟩, (by rintro b ⟨⟩; exact ⟨ob, b1, b2.2.1⟩), ?_⟩
  have args := ha.run cpos pins s1 σ H1 _ I1 q1
  rw [hs] at args ⊢
  refine Calls.callWith_builtin (show (false || (backTo cpos (starEach es X.env)).any (·.1)) = false by rw [hplain]; rfl) (Calls.evalArgs_plain (thn args fun us s2 out => ?_))
  obtain ⟨vs, H2, I2, r2, q2⟩ := out
  exact mt_addS hu pins s2 σ H2 (.ref a) vs (.ref a) us Q I2 rfl r2 q2
end
end Kx

namespace Kx
open PySem PySem.Spec PyProof.Rows L2
abbrev sAsg : Stmt := topS 4
abbrev sSil : Stmt := topS 5
abbrev sDo : Stmt := topS 6
abbrev sSet : Stmt := topS 7
theorem scAsg : FnScope ["variable", "value", "point", "row", "x", "y"] ["variable", "value", "point"] (defScope sAsg) := ⟨rfl, rfl, rfl, by decide +kernel, rfl, by decide +kernel, by decide +kernel⟩
theorem scSil : FnScope ["text", "row"] ["text", "row"] (defScope sSil) := ⟨rfl, rfl, rfl, by decide +kernel, rfl, by decide +kernel, by decide +kernel⟩
theorem scDo : FnScope ["text", "point", "base", "row", "x", "y", "line"] ["text", "point", "base"] (defScope sDo) := ⟨rfl, rfl, rfl, by decide +kernel, rfl, by decide +kernel, by decide +kernel⟩
theorem scSet : FnScope ["text", "point", "base", "met"] ["text", "point", "base"] (defScope sSet) := ⟨rfl, rfl, rfl, by decide +kernel, rfl, by decide +kernel, by decide +kernel⟩
section
variable {P : Program} {w : World} {K : PySem.W.Frag} {mg : Str → Option Value} {base : Heap}
def SilK (K : PySem.W.Frag) (p : Addr) : Prop := ∀ H, SqT K H p [.str "set", .str "if", .str "go"]
def spSil (K : PySem.W.Frag) : Sp := fun vs H Q _ => ∃ (v : V) (t : List Rw) (i : Nat), vs = [v, .int i] ∧ Dt K H v (Tx.d t) ∧ i ≤ t.length ∧ Q (.bl (silentAt t i)) H
theorem ok_sil {f pS : Addr} {fd : FuncData} {k : Nat} (F : Fun K "is_silent" "is_silent" sSil f fd) (ml : mg "len" = none) (gS : mg "SILENT" = some (.ref pS)) (hS : SilK K pS) : FnOk P w K mg base CX0 (k + 1) f fd ["text", "row"] (spSil K) := by
  refine F.ok scSil (fun vs H Q E h => ?_) (fun cdv A outer s H vs Q E hr h => ?_)
  · obtain ⟨v, t, i, rfl, _⟩ := h
    rfl
  · obtain ⟨v, t, i, rfl, hd, hi, q⟩ := h
    obtain ⟨a, xs, rfl, hx, lx, rows⟩ := dt_text hd
    refine ⟨_, pss_one (ps_ret (pe_and (pe_cmpR op_lt (pv 1) (pe_callB call_len_seq (by rfl) ml PySem.boot_len (pa_cons (pv 0) pa_nil)) (nomark _))
      (pe_one (pe_cmpR op_in_seq (pe_ix ix_tup (pe_ix ix_tup (pv 0) (pv 1) (fun _ _ => rfl)) pe_int (fun _ _ => rfl)) (pe_glob (v := .ref pS) rfl gS rfl) (by rfl))))), ?_⟩
    refine ⟨.int i, rfl, .ref a, rfl, a, xs, rfl, .inr hx, i, xs.length, rfl, rfl, _, rfl, ?_⟩
    by_cases h : i < t.length
    · rw [decide_eq_true (show (i : Int) < (xs.length : Int) by omega)]
      obtain ⟨p, ys, e1, e2, e3⟩ := rows i t[i] (List.getElem?_eq_getElem h)
      refine iteT ⟨.ref a, rfl, .int i, rfl, a, _, i, .ref p, rfl, rfl, hx, atI_nat e1, p, _, 0, .str (t[i]).w, rfl, rfl, e2, atI_nat (j := 0) rfl, pS, _, rfl, .inr (hS H), rfl, rfl, ?_⟩
      show Q (.bl (inV (.str (t[i]).w) [.str "set", .str "if", .str "go"])) H
      rw [Rw.w_in]
      unfold silentAt at q
      rw [List.getElem?_eq_getElem h] at q
      exact q
    · rw [decide_eq_false (show ¬ (i : Int) < (xs.length : Int) by omega)]
      refine iteF ?_
      unfold silentAt at q
      rw [List.getElem?_eq_none (by omega)] at q
      exact q
def spAsg (K : PySem.W.Frag) : Sp := fun vs H Q _ => ∃ (v : Str) (n r x y : Int) (p : V), vs = [.str v, .int n, p] ∧ Dt K H p (stI r x y) ∧ ∀ u H', Dt K H' u (if v = "x" then stI (r + 1) n y else stI (r + 1) x n) → Same H H' → Q u H'
theorem ok_asg {f : Addr} {fd : FuncData} {k : Nat} (F : Fun K "assign" "assign" sAsg f fd) : FnOk P w K mg base CX0 (k + 1) f fd ["variable", "value", "point"] (spAsg K) := by
  refine F.ok scAsg (fun vs H Q E h => ?_) (fun cdv A outer s H vs Q E hr h => ?_)
  · obtain ⟨v, n, r, x, y, p, rfl, _⟩ := h
    rfl
  · obtain ⟨v, n, r, x, y, p, rfl, hp, q⟩ := h
    obtain ⟨a, rfl, ha⟩ := dt_stand hp
    refine ⟨_, pss_cons (ps_asg (pv 2) (pg_tup (by rfl) (pgs_cons (pg_name (i := 3) scAsg.nd rfl (.inl rfl)) (pgs_cons (pg_name (i := 4) scAsg.nd rfl (.inl rfl)) (pgs_cons (pg_name (i := 5) scAsg.nd rfl (.inl rfl)) pgs_nil)))))
      (pss_cons (ps_if (pt_cmpR op_eq (pv 0) pe_str (nomark _)) (pss_one (ps_ret (pe_tup (pa_cons (pe_op op_add (pv 3) pe_int) (pa_cons (pv 1) (pa_cons (pv 5) pa_nil)))))) pss_nil)
      (pss_one (ps_ret (pe_tup (pa_cons (pe_op op_add (pv 3) pe_int) (pa_cons (pv 4) (pa_cons (pv 1) pa_nil))))))), ?_⟩
    refine ⟨_, rfl, a, _, rfl, ha, rfl, _, _, rfl, _, _, rfl, _, _, rfl, rfl, ?_⟩
    refine ⟨_, rfl, rfl, _, rfl, ite2 (fun e => ?_) (fun e => ?_)⟩
    · have e1 : v = "x" := V.str.inj (of_decide_eq_true e)
      rw [if_pos e1] at q
      exact ⟨_, rfl, r, 1, rfl, rfl, _, rfl, _, rfl, (by show 3 ≤ sizeLine; decide), fun T nT => q _ _ (dt_new nT (.cons (.int _) (.cons (.int _) (.cons (.int _) .nil)))) (same_new nT)⟩
    · have e1 : ¬ v = "x" := fun z => e (decide_eq_true (by rw [z]))
      rw [if_neg e1] at q
      exact ⟨_, rfl, r, 1, rfl, rfl, _, rfl, _, rfl, (by show 3 ≤ sizeLine; decide), fun T nT => q _ _ (dt_new nT (.cons (.int _) (.cons (.int _) (.cons (.int _) .nil)))) (same_new nT)⟩
def spDo (K : PySem.W.Frag) : Sp := fun vs H Q _ => ∃ (vt vp : V) (t : List Rw) (N : List Str) (b : Int) (p : P3), vs = [vt, vp, .int b] ∧ 2 ≤ b ∧ b ≤ 4 ∧ Tx.ok b N t ∧ Dt K H vt (Tx.d t) ∧ Dt K H vp (ptD p) ∧ Ind t b p ∧ silentAt t p.1 = true ∧ ∀ u H', Dt K H' u (ptD (stp t b p)) → Same H H' → Q u H'
theorem ok_do {f fA fV : Addr} {fd fdA fdV : FuncData} {k : Nat} (F : Fun K "do_silent" "do_silent" sDo f fd) (T : Bi mg) (FA : Fun K "assign" "assign" sAsg fA fdA) (bA : Binds K fdA ["variable", "value", "point"] []) (gA : mg "assign" = some (.ref fA))
    (FV : Fun K "value_of" "value_of" sVal fV fdV) (bV : Binds K fdV ["expression", "point", "base"] []) (gV : mg "value_of" = some (.ref fV)) : FnOk P w K mg base CX0 (k + 3) f fd ["text", "point", "base"] (spDo K) := by
  have GV : FnOk P w K mg base CX0 (k + 2) fV fdV ["expression", "point", "base"] (spVal K) := ok_val FV T bV gV
  have GA : FnOk P w K mg base CX0 (k + 2) fA fdA ["variable", "value", "point"] (spAsg K) := ok_asg FA
  refine F.ok scDo (fun vs H Q E h => ?_) (fun cdv A outer s H vs Q E hr h => ?_)
  · obtain ⟨vt, vp, t, N, b, p, rfl, _⟩ := h
    rfl
  · obtain ⟨vt, vp, t, N, b, ⟨i, x, y⟩, rfl, hb2, hb4, ok, ht, hp, ind, sl, q⟩ := h
    obtain ⟨a, rfl, ha⟩ := dt_stand hp
    obtain ⟨at', xs, rfl, hx, lx, rows⟩ := dt_text ht
    obtain ⟨row, hrow⟩ : ∃ row, t[i]? = some row := by
      unfold silentAt at sl
      cases e : t[i]? with
      | none => rw [show t[((i, x, y) : P3).1]? = t[i]? from rfl, e] at sl; cases sl
      | some r => exact ⟨r, rfl⟩
    obtain ⟨pr, ys, r1, r2, r3⟩ := rows i row hrow
    have rok := ok row (List.mem_of_getElem? hrow)
    have rs : row.silent = true := by
      unfold silentAt at sl
      rw [show t[((i, x, y) : P3).1]? = t[i]? from rfl, hrow] at sl
      exact sl
    have pt : Pt b x y := ⟨ind.2.1, ind.2.2⟩
    have es : stp t b (i, x, y) = stepR b (i, x, y) row := by
      unfold stp
      rw [show t[((i, x, y) : P3).1]? = t[i]? from rfl, hrow]
    rw [es] at q
    refine ⟨_, pss_cons (ps_asg (pv 1) (pg_tup (by rfl) (pgs_cons (pg_name (i := 3) scDo.nd rfl (.inl rfl)) (pgs_cons (pg_name (i := 4) scDo.nd rfl (.inl rfl)) (pgs_cons (pg_name (i := 5) scDo.nd rfl (.inl rfl)) pgs_nil)))))
      (pss_cons (ps_set (i := 6) scDo.nd rfl (.inl rfl) (pe_ix ix_tup (pv 0) (pv 3) (fun _ _ => rfl)))
      (pss_cons (ps_if (pt_cmpR op_eq (pe_ix ix_tup (pv 6) pe_int (fun _ _ => rfl)) pe_str (nomark _)) (pss_one (ps_ret (pe_call GA hr (by rfl) gA FA.kp bA .nil pass0 (pa_cons (pe_ix ix_tup (pv 6) pe_int (fun _ _ => rfl)) (pa_cons (pe_call GV hr (by rfl) gV FV.kp bV .nil pass0 (pa_cons (pe_ix ix_tup (pv 6) pe_int (fun _ _ => rfl)) (pa_cons (pv 1) (pa_cons (pv 2) pa_nil)))) (pa_cons (pv 1) pa_nil)))))) pss_nil)
      (pss_cons (ps_if (pt_cmpR op_eq (pe_ix ix_tup (pv 6) pe_int (fun _ _ => rfl)) pe_str (nomark _)) (pss_one (ps_ret (pe_tup (pa_cons (pe_ix ix_tup (pv 6) pe_int (fun _ _ => rfl)) (pa_cons (pv 4) (pa_cons (pv 5) pa_nil)))))) pss_nil)
      (pss_cons (ps_if (pt_cmpR op_eq (pe_call GV hr (by rfl) gV FV.kp bV .nil pass0 (pa_cons (pe_ix ix_tup (pv 6) pe_int (fun _ _ => rfl)) (pa_cons (pv 1) (pa_cons (pv 2) pa_nil)))) (pe_call GV hr (by rfl) gV FV.kp bV .nil pass0 (pa_cons (pe_ix ix_tup (pv 6) pe_int (fun _ _ => rfl)) (pa_cons (pv 1) (pa_cons (pv 2) pa_nil)))) (nomark _)) (pss_one (ps_ret (pe_tup (pa_cons (pe_ix ix_tup (pv 6) pe_int (fun _ _ => rfl)) (pa_cons (pv 4) (pa_cons (pv 5) pa_nil)))))) pss_nil)
      (pss_one (ps_ret (pe_tup (pa_cons (pe_op op_add (pv 3) pe_int) (pa_cons (pv 4) (pa_cons (pv 5) pa_nil)))))))))), ?_⟩
    refine ⟨_, rfl, a, _, rfl, ha, rfl, _, _, rfl, _, _, rfl, _, _, rfl, rfl, ?_⟩
    refine ⟨_, rfl, _, rfl, at', _, i, .ref pr, rfl, rfl, hx, atI_nat r1, ?_⟩
    have no : ∀ {A B : Prop} {c : Prop} [Decidable c], ¬ c → B → (if decide c = true then A else B) := fun hc hB => by rw [if_neg (by rw [decide_eq_true_eq]; exact hc)]; exact hB
    cases row with
    | set v e =>
      obtain ⟨u0, us0, rfl, d0, q0⟩ := dtall_cons r3
      obtain ⟨u1, us1, rfl, d1, q1⟩ := dtall_cons q0
      obtain rfl := dtall_nil q1
      have z0 : u0 = .str v := by cases d0; rfl
      subst z0
      refine ⟨_, rfl, pr, _, 0, .str "set", rfl, rfl, r2, atI_nat (j := 0) rfl, rfl, _, rfl, ite2 (fun _ => ?_) (fun e => absurd (decide_eq_true rfl) e)⟩
      refine ⟨_, rfl, pr, _, 1, .str v, rfl, rfl, r2, atI_nat (j := 1) rfl, _, rfl, pr, _, 2, u1, rfl, rfl, r2, atI_nat (j := 2) rfl, _, rfl, _, rfl, u1, .ref a, e, b, i, x, y, rfl, hb2, hb4, rok.2, pt, d1, hp, _, rfl, v, e.val b x y, i, x, y, .ref a, rfl, hp, fun u H' du s' => q u H' ?_ s'⟩
      show Dt K H' u (ptD (if v = "x" then (i + 1, e.val b x y, y) else (i + 1, x, e.val b x y)))
      split at du
      · rename_i c
        rw [if_pos c]
        exact du
      · rename_i c
        rw [if_neg c]
        exact du
    | go r =>
      obtain ⟨u0, us0, rfl, d0, q0⟩ := dtall_cons r3
      obtain rfl := dtall_nil q0
      have z0 : u0 = .int r := by cases d0; rfl
      subst z0
      refine ⟨_, rfl, pr, _, 0, .str "go", rfl, rfl, r2, atI_nat (j := 0) rfl, rfl, _, rfl, ite2 (fun e => absurd (of_decide_eq_true e) (by decide +kernel)) (fun _ => ?_)⟩
      refine ⟨_, rfl, pr, _, 0, .str "go", rfl, rfl, r2, atI_nat (j := 0) rfl, rfl, _, rfl, ite2 (fun _ => ?_) (fun e => absurd (decide_eq_true rfl) e)⟩
      have er : ((r.toNat : Nat) : Int) = r := Int.toNat_of_nonneg rok.1
      refine ⟨_, rfl, pr, _, 1, .int r, rfl, rfl, r2, atI_nat (j := 1) rfl, _, rfl, _, rfl, (by show 3 ≤ sizeLine; decide), fun T nT => q _ _ ?_ (same_new nT)⟩
      show Dt K _ _ (stI (r.toNat : Nat) x y)
      rw [er]
      exact dt_new nT (.cons (.int _) (.cons (.int _) (.cons (.int _) .nil)))
    | iff e f r =>
      obtain ⟨u0, us0, rfl, d0, q0⟩ := dtall_cons r3
      obtain ⟨u1, us1, rfl, d1, q1⟩ := dtall_cons q0
      obtain ⟨u2, us2, rfl, d2, q2⟩ := dtall_cons q1
      obtain rfl := dtall_nil q2
      have z2 : u2 = .int r := by cases d2; rfl
      subst z2
      obtain ⟨ok1, ok2, g0, g1⟩ := rok
      refine ⟨_, rfl, pr, _, 0, .str "if", rfl, rfl, r2, atI_nat (j := 0) rfl, rfl, _, rfl, ite2 (fun e => absurd (of_decide_eq_true e) (by decide +kernel)) (fun _ => ?_)⟩
      refine ⟨_, rfl, pr, _, 0, .str "if", rfl, rfl, r2, atI_nat (j := 0) rfl, rfl, _, rfl, ite2 (fun e => absurd (of_decide_eq_true e) (by decide +kernel)) (fun _ => ?_)⟩
      refine ⟨_, rfl, pr, _, 1, u0, rfl, rfl, r2, atI_nat (j := 1) rfl, _, rfl, _, rfl, u0, .ref a, e, b, i, x, y, rfl, hb2, hb4, ok1, pt, d0, hp, _, rfl, pr, _, 2, u1, rfl, rfl, r2, atI_nat (j := 2) rfl, _, rfl, _, rfl, u1, .ref a, f, b, i, x, y, rfl, hb2, hb4, ok2, pt, d1, hp, rfl, _, rfl, ite2 (fun c => ?_) (fun c => ?_)⟩
      · have c1 : e.val b x y = f.val b x y := V.int.inj (of_decide_eq_true c)
        have er : ((r.toNat : Nat) : Int) = r := Int.toNat_of_nonneg g0
        refine ⟨_, rfl, pr, _, 3, .int r, rfl, rfl, r2, atI_nat (j := 3) rfl, _, rfl, _, rfl, (by show 3 ≤ sizeLine; decide), fun T nT => q _ _ ?_ (same_new nT)⟩
        show Dt K _ _ (ptD (if e.val b x y = f.val b x y then (r.toNat, x, y) else (i + 1, x, y)))
        rw [if_pos c1]
        show Dt K _ _ (stI (r.toNat : Nat) x y)
        rw [er]
        exact dt_new nT (.cons (.int _) (.cons (.int _) (.cons (.int _) .nil)))
      · have c1 : ¬ e.val b x y = f.val b x y := fun z => c (decide_eq_true (by rw [z]))
        refine ⟨_, rfl, i, 1, rfl, rfl, _, rfl, _, rfl, (by show 3 ≤ sizeLine; decide), fun T nT => q _ _ ?_ (same_new nT)⟩
        show Dt K _ _ (ptD (if e.val b x y = f.val b x y then (r.toNat, x, y) else (i + 1, x, y)))
        rw [if_neg c1]
        exact dt_new nT (.cons (.int _) (.cons (.int _) (.cons (.int _) .nil)))
    | say e => cases rs
    | ask v => cases rs
    | read c v => cases rs
    | write c e => cases rs
    | call n e v => cases rs
    | fin e => cases rs
end
end Kx

namespace Kx
open PySem PySem.Spec PyProof.Rows L2
abbrev sFst : Stmt := topS 8
theorem scFst : FnScope ["text", "argument", "base"] ["text", "argument", "base"] (defScope sFst) := ⟨rfl, rfl, rfl, by decide +kernel, rfl, by decide +kernel, by decide +kernel⟩
def MuteK (K : PySem.W.Frag) (p : Addr) : Prop := ∀ H, SqT K H p [.int (-1), .int 0, .int 0]
abbrev FnD (K : PySem.W.Frag) (x : Str) (st : Stmt) (kws : List (Str × V)) (f : Addr) (fd : FuncData) : Prop := FunD K x x (defArgs st) (defBody st) (defScope st) [] kws f fd
section
variable {P : Program} {w : World} {K : PySem.W.Frag} {mg : Str → Option Value} {base : Heap}
def spSet (K : PySem.W.Frag) : Sp := fun vs H Q _ => ∃ (vt vp : V) (t : List Rw) (N : List Str) (b : Nat) (p : P3), vs = [vt, vp, .int b] ∧ (b = 2 ∨ b = 3 ∨ b = 4) ∧ t.length ≤ 16 ∧ Tx.ok b N t ∧ Dt K H vt (Tx.d t) ∧ Dt K H vp (ptD p) ∧ Ind t b p ∧ ∀ u H', Dt K H' u (resD t b p) → Same H H' → Q u H'
theorem ok_set {f fA fV fD fZ pM pS : Addr} {fd fdA fdV fdD fdZ : FuncData} {k : Nat} (F : Fun K "settle" "settle" sSet f fd) (T : Bi mg) (ms : mg "set" = none) (gM : mg "MUTE" = some (.ref pM)) (hM : MuteK K pM) (gS : mg "SILENT" = some (.ref pS)) (hS : SilK K pS)
    (FA : Fun K "assign" "assign" sAsg fA fdA) (bA : Binds K fdA ["variable", "value", "point"] []) (gA : mg "assign" = some (.ref fA))
    (FV : Fun K "value_of" "value_of" sVal fV fdV) (bV : Binds K fdV ["expression", "point", "base"] []) (gV : mg "value_of" = some (.ref fV))
    (FD : Fun K "do_silent" "do_silent" sDo fD fdD) (bD : Binds K fdD ["text", "point", "base"] []) (gD : mg "do_silent" = some (.ref fD))
    (FZ : Fun K "is_silent" "is_silent" sSil fZ fdZ) (bZ : Binds K fdZ ["text", "row"] []) (gZ : mg "is_silent" = some (.ref fZ)) : FnOk P w K mg base CX0 (k + 4) f fd ["text", "point", "base"] (spSet K) := by
  have GD : FnOk P w K mg base CX0 (k + 3) fD fdD ["text", "point", "base"] (spDo K) := ok_do FD T FA bA gA FV bV gV
  have GZ : FnOk P w K mg base CX0 (k + 3) fZ fdZ ["text", "row"] (spSil K) := ok_sil FZ T.len gS hS
  refine F.ok scSet (fun vs H Q E h => ?_) (fun cdv A outer s H vs Q E hr h => ?_)
  · obtain ⟨vt, vp, t, N, b, p, rfl, _⟩ := h
    rfl
  · obtain ⟨vt, vp, t, N, b, p, rfl, hb, lt, ok, ht, hp, ind, q⟩ := h
    have hu := hr.units
    have b2 : (2 : Int) ≤ b := by omega
    have b4 : (b : Int) ≤ 4 := by omega
    have big : t.length * b * b ≤ 256 := by
      have z1 : b * b ≤ 16 := by rcases hb with rfl | rfl | rfl <;> decide
      calc t.length * b * b = t.length * (b * b) := Nat.mul_assoc _ _ _
        _ ≤ 16 * 16 := Nat.mul_le_mul lt z1
    refine ⟨_, pss_cons (ps_set (i := 3) scSet.nd rfl (.inl rfl) (pe_callTy0 cr_setNew (by rfl) ms (by decide +kernel)))
      (pss_cons (ps_while PassesOwn.never (pt_val (pe_call GZ hr (by rfl) gZ FZ.kp bZ .nil pass0 (pa_cons (pv 0) (pa_cons (pe_ix ix_tup (pv 1) pe_int (fun _ _ => rfl)) pa_nil))))
        (pss_cons (ps_if (pt_cmpR (op_inS hu) (pv 1) (pv 3) (by rfl)) (pss_one (ps_ret (pe_glob (v := .ref pM) rfl gM rfl))) pss_nil)
        (pss_cons (ps_expr (pe_addS hu (pv 3) (pa_cons (pv 1) pa_nil)))
        (pss_one (ps_set (i := 1) scSet.nd rfl (.inl rfl) (pe_call GD hr (by rfl) gD FD.kp bD .nil pass0 (pa_cons (pv 0) (pa_cons (pv 1) (pa_cons (pv 2) pa_nil)))))))))
      (pss_one (ps_ret (pv 1)))), ?_⟩
    refine ⟨rfl, fun a na => ?_⟩
    refine ⟨fun c σ H' => ∃ (m : Nat) (u : V) (L : List (Addr × List Int)), c + m = 300 ∧ σ = [some vt, some u, some (.int b), some (.ref a)] ∧ Dt K H' u (ptD (it t b p m)) ∧ (∀ j, j < m → silentAt t (it t b p j).1 = true) ∧ ((List.range m).map fun j => three3 (it t b p j)).Nodup ∧
        H' a = some (SetO P w a L) ∧ (L.map (·.2)).Perm ((List.range m).map fun j => three3 (it t b p j)) ∧ (∀ z ∈ L, SqT K H' z.1 (z.2.map V.int)) ∧ Same H H',
      ⟨300, 0, vp, [], rfl, rfl, hp.keep (keepT_same (same_new na)), (fun j hj => absurd hj (Nat.not_lt_zero _)), List.Pairwise.nil, upd_same, List.Perm.refl _, (fun z hz => by cases hz), same_new na⟩, ?_⟩
    rintro c σ H1 ⟨m, u, L, hm, rfl, du, past, nd, hset, perm, tup, s1⟩
    have few := few_points ok ind past nd
    have lL : L.length = m := by
      have z := perm.length_eq
      rw [List.length_map, List.length_map, List.length_range] at z
      exact z
    have ht1 := ht.keep (keepT_same (K := K) s1)
    obtain ⟨pu, rfl, hpu⟩ := dt_stand du
    have inn := it_in ok ind m
    refine ⟨_, rfl, _, rfl, pu, _, 0, .int (it t b p m).1, rfl, rfl, hpu, atI_nat (j := 0) rfl, vt, t, (it t b p m).1, rfl, ht1, inn.1, _, rfl, ?_⟩
    have mem : three3 (it t b p m) ∈ L.map (·.2) ↔ ∃ j, j < m ∧ it t b p m = it t b p j := by
      rw [perm.mem_iff, List.mem_map]
      constructor
      · rintro ⟨j, hj, e⟩
        exact ⟨j, List.mem_range.mp hj, (three3_inj e).symm⟩
      · rintro ⟨j, hj, e⟩
        exact ⟨j, List.mem_range.mpr hj, by rw [e]⟩
    cases sl : silentAt t (it t b p m).1 with
    | false =>
      refine iteF ⟨_, rfl, q _ _ ?_ s1⟩
      rw [res_some past sl few]
      exact du
    | true =>
      refine iteT ⟨fun σ' H' => ∃ (u : V) (L : List (Addr × List Int)), σ' = [some vt, some u, some (.int b), some (.ref a)] ∧ Dt K H' u (ptD (it t b p (m + 1))) ∧ H' a = some (SetO P w a L) ∧ (L.map (·.2)).Perm ((List.range (m + 1)).map fun j => three3 (it t b p j)) ∧ (∀ z ∈ L, SqT K H' z.1 (z.2.map V.int)) ∧ Same H H' ∧ three3 (it t b p m) ∉ (List.range m).map (fun j => three3 (it t b p j)), ?_, ?_⟩
      · rintro σ' H' ⟨u', L', e1, e2, e3, e4, e5, e6, e7⟩
        refine ⟨c - 1, by omega, m + 1, u', L', by omega, e1, e2, fun j hj => ?_, ?_, e3, e4, e5, e6⟩
        · rcases Nat.lt_or_ge j m with z | z
          · exact past j z
          · have : j = m := by omega
            rw [this]
            exact sl
        · rw [List.range_succ, List.map_append]
          refine List.nodup_append.mpr ⟨nd, by simp, fun x hx y hy e => ?_⟩
          rw [List.map_singleton, List.mem_singleton] at hy
          exact e7 (by rw [← hy, ← e]; exact hx)
      · refine ⟨_, rfl, _, rfl, pu, a, three3 (it t b p m), L, rfl, rfl, hpu, hset, tup, _, rfl, ite2 (fun e => ?_) (fun e => ?_)⟩
        · obtain ⟨j, hj, ej⟩ := mem.mp (of_decide_eq_true e)
          refine q _ _ ?_ s1
          rw [res_none fun n _ => forever past hj ej n]
          exact .tup (hM H1) (.cons (.int _) (.cons (.int _) (.cons (.int _) .nil)))
        · have notin : three3 (it t b p m) ∉ L.map (·.2) := fun z => e (decide_eq_true z)
          refine ⟨_, rfl, ⟨a, L, rfl, hset⟩, _, rfl, a, pu, three3 (it t b p m), L, rfl, rfl, hpu, hset, tup, notin, by omega, fun L' perm' => ?_⟩
          have k12 : KeepT K H1 (upd H1 a (SetO P w a L')) := fun x ys z => by
            have off : ∀ {o : HO}, H1 x = some o → (∀ φ, o ≠ .ext φ) → x ≠ a := fun {o} e1 e2 e3 => by
              rw [e3, hset] at e1
              cases e1
              exact e2 _ rfl
            rcases z with (z | ⟨o, z⟩) | z
            · exact .inl (.inl (by rw [upd_ne (off z (by intro φ y; cases y))]; exact z))
            · exact .inl (.inr ⟨o, by rw [upd_ne (off z (by intro φ y; cases y))]; exact z⟩)
            · exact .inr z
          have s2 : Same H (upd H1 a (SetO P w a L')) := same_put na s1
          have tup2 : ∀ z ∈ L', SqT K (upd H1 a (SetO P w a L')) z.1 (z.2.map V.int) := fun z hz => by
            rcases List.mem_cons.mp (perm'.mem_iff.mp hz) with e | e
            · rw [e]
              exact k12 _ _ hpu
            · exact k12 _ _ (tup z e)
          refine ⟨_, rfl, _, rfl, _, rfl, vt, .ref pu, t, N, b, it t b p m, rfl, b2, b4, ok, ht1.keep k12, du.keep k12, inn, sl, fun u' H3 du' s3 => ?_⟩
          refine ⟨u', L', rfl, du', s3 _ _ upd_same, ?_, fun z hz => keepT_same s3 _ _ (tup2 z hz), s2.trans s3, fun z => notin (perm.mem_iff.mpr z)⟩
          refine (perm'.map (·.2)).trans ?_
          rw [List.map_cons, List.range_succ, List.map_append]
          exact (perm.cons _).trans (List.perm_append_singleton _ _).symm
def spFst (K : PySem.W.Frag) : Sp := fun vs H Q _ => ∃ (vt : V) (t : List Rw) (N : List Str) (b n : Nat), vs = [vt, .int n, .int b] ∧ (b = 2 ∨ b = 3 ∨ b = 4) ∧ n < b ∧ t.length ≤ 16 ∧ Tx.ok b N t ∧ Dt K H vt (Tx.d t) ∧ ∀ u H', Dt K H' u (resD t b (0, (n : Int), 0)) → Same H H' → Q u H'
theorem ok_fst {f fS : Addr} {fd fdS : FuncData} {k : Nat} (F : FnD K "first_stand" sFst [("base", .int 3)] f fd) (GS : FnOk P w K mg base CX0 (k + 4) fS fdS ["text", "point", "base"] (spSet K)) (kS : PySem.W.keepIn K (.ref fS) = true) (bS : Binds K fdS ["text", "point", "base"] []) (gS : mg "settle" = some (.ref fS)) :
    FnOk P w K mg base CX0 (k + 5) f fd ["text", "argument", "base"] (spFst K) := by
  refine F.ok scFst (fun vs H Q E h => ?_) (fun cdv A outer s H vs Q E hr h => ?_)
  · obtain ⟨vt, t, N, b, n, rfl, _⟩ := h
    rfl
  · obtain ⟨vt, t, N, b, n, rfl, hb, hn, lt, ok, ht, q⟩ := h
    refine ⟨_, PSs.nox (pss_one (ps_ret (pe_call GS hr (by rfl) gS kS bS .nil pass0 (pa_cons (pv 0) (pa_cons (pe_tup (pa_cons pe_int (pa_cons (pv 1) (pa_cons pe_int pa_nil)))) (pa_cons (pv 2) pa_nil)))))), ?_⟩
    refine ⟨_, rfl, _, rfl, (by show 3 ≤ sizeLine; decide), fun T nT => ?_⟩
    refine ⟨_, rfl, vt, .ref T, t, N, b, (0, (n : Int), 0), rfl, hb, lt, ok, ht.keep (keepT_same (same_new nT)), dt_new nT (.cons (.int _) (.cons (.int _) (.cons (.int _) .nil))), ⟨Nat.zero_le _, ⟨by show (0 : Int) ≤ n; omega, by show (n : Int) < b; omega⟩, by show (0 : Int) ≤ 0; decide, by show (0 : Int) < b; omega⟩, fun u H' du s' => q u H' du ((same_new nT).trans s')⟩
end
end Kx

namespace Kx
open PySem PySem.Spec PyProof.Rows L2
abbrev sLse : Stmt := topS 17
abbrev sLis : Stmt := topS 18
theorem scLse : FnScope ["_law_rows", "_law_at", "_law_x", "_law_y", "_law_radix", "_law_turn", "_law_row_here", "_law_number"] ["_law_rows", "_law_at", "_law_x", "_law_y", "_law_radix"] (defScope sLse) := ⟨rfl, rfl, rfl, by decide +kernel, rfl, by decide +kernel, by decide +kernel⟩
theorem scLis : FnScope ["_law_found", "_law_item"] ["_law_found"] (defScope sLis) := ⟨rfl, rfl, rfl, by decide +kernel, rfl, by decide +kernel, by decide +kernel⟩
section
variable {P : Program} {w : World} {K : PySem.W.Frag} {mg : Str → Option Value} {base : Heap}
def spLis (K : PySem.W.Frag) : Sp := fun vs H Q _ => ∃ (v : V) (r x y : Int), vs = [v] ∧ Dt K H v (stI r x y) ∧ ∀ H', Same H H' → Q (.bl true) H'
theorem ok_lis {f : Addr} {fd : FuncData} {k : Nat} (F : Fun K "_law_is_stand" "_law_is_stand" sLis f fd) (T : Bi mg) (ma : mg "all" = none) : FnOk P w K mg base CX0 (k + 1) f fd ["_law_found"] (spLis K) := by
  refine F.ok scLis (fun vs H Q E h => ?_) (fun cdv A outer s H vs Q E hr h => ?_)
  · obtain ⟨v, r, x, y, rfl, _⟩ := h
    rfl
  · obtain ⟨v, r, x, y, rfl, hd, q⟩ := h
    obtain ⟨a, rfl, ha⟩ := dt_stand hd
    refine ⟨_, pss_cons (ps_if (PW.pt (pw_or (pt_not (pt_val (pe_callB call_isi (by rfl) T.isi (by decide +kernel) (pa_cons (pv 0) (pa_cons (pe_bltn (v := .ty "tuple") (by rfl) T.tuple (by decide +kernel) rfl) pa_nil))))) (pw_or1 (pt_cmpR op_ne (pe_callB call_len_seq (by rfl) T.len PySem.boot_len (pa_cons (pv 0) pa_nil)) pe_int (nomark _))))) (pss_one (ps_ret pe_bl)) pss_nil)
      (pss_one (ps_ret (pe_callB (cr_all (by rfl)) (by rfl) ma (by decide +kernel) (pa_cons (pe_lc (own := [("_law_item", 1)]) (g := gName 1) (te := tAndV (tCB (rIsi K) (tCons (tVar 1) (tCons (tC (.ty "int")) tNil))) (tNotV (tCB (rIsi K) (tCons (tVar 1) (tCons (tC (.ty "bool")) tNil))))) (tt := tYes) (by rfl) scLis.nd (pi_tup (pv 0)) (blkOk_by (N := ["_law_found", "_law_item"]) (sc := defScope sLis) (by decide +kernel)) (fun _ _ _ _ _ => pg_name (i := 1) scLis.nd rfl (Or.inl rfl)) (fun _ _ _ _ _ => pts_nil)
        (fun _ _ _ _ _ => pe_and (pe_callB call_isi (by rfl) T.isi (by decide +kernel) (pa_cons (pv 1) (pa_cons (pe_bltn (v := .ty "int") (by rfl) T.int (by decide +kernel) rfl) pa_nil))) (pe_one (pe_not (pe_callB call_isi (by rfl) T.isi (by decide +kernel) (pa_cons (pv 1) (pa_cons (pe_bltn (v := .ty "bool") (by rfl) T.bool (by decide +kernel) rfl) pa_nil))))))) pa_nil)))), ?_⟩
    refine ⟨_, rfl, _, .ty "tuple", .type "tuple", .type "tuple", true, rfl, .ty _, tyx_tup ha, kit_ty (by decide +kernel), true, rfl, iteF ?_⟩
    refine ⟨_, rfl, a, _, rfl, .inr ha, rfl, _, rfl, ite2 (fun e => by have z : (!decide (V.int (3 : Int) = V.int 3)) = true := e; exact absurd z (by decide)) (fun _ => ?_)⟩
    refine ⟨_, rfl, a, rfl, ⟨_, ha⟩, fun D hD => ?_⟩
    refine lc_tup (K := K) (a := a) (xs := [.int r, .int x, .int y]) (fun i H' => H' D = some (.lst (List.replicate i (.bl true))) ∧ Same H H') ⟨upd_same, same_new hD⟩ (fun i H' _ p => keepT_same p.2 _ _ ha) (fun i v H2 hv p => ?_) (fun H2 p => ?_)
    · obtain ⟨hD2, s2⟩ := p
      obtain ⟨n, rfl⟩ : ∃ n : Int, v = .int n := by
        rcases i with _ | _ | _ | i
        · cases hv; exact ⟨_, rfl⟩
        · cases hv; exact ⟨_, rfl⟩
        · cases hv; exact ⟨_, rfl⟩
        · cases hv
      refine ⟨rfl, _, rfl, _, .ty "int", .type "int", .type "int", true, rfl, .ty _, dp_ty (.int n), kit_ty (by decide +kernel), true, rfl, iteT ⟨_, rfl, _, .ty "bool", .type "int", .type "bool", false, rfl, .ty _, dp_ty (.int n), kit_ty (by decide +kernel), false, rfl, _, hD2, ?_, ?_, same_put hD s2⟩⟩
      · rw [List.length_replicate]
        have := (List.getElem?_eq_some_iff.mp hv).1
        exact small1000 (by have z : i < 3 := this; omega)
      · rw [upd_same]
        show some (HO.lst (List.replicate i (V.bl true) ++ [V.bl true])) = _
        rw [← List.replicate_succ']
    · obtain ⟨hD2, s2⟩ := p
      exact ⟨D, [true, true, true], rfl, SqL.of hD2, q _ s2⟩
def spLse (K : PySem.W.Frag) : Sp := fun vs H Q _ => ∃ (vt : V) (t : List Rw) (N : List Str) (b : Nat) (p : P3), vs = [vt, .int p.1, .int p.2.1, .int p.2.2, .int b] ∧ (b = 2 ∨ b = 3 ∨ b = 4) ∧ t.length ≤ 16 ∧ Tx.ok b N t ∧ Dt K H vt (Tx.d t) ∧ Ind t b p ∧ ∀ u H', Dt K H' u (resD t b p) → Same H H' → Q u H'
theorem ok_lse {f fV : Addr} {fd fdV : FuncData} {k : Nat} (F : Fun K "_law_settled" "_law_settled" sLse f fd) (T : Bi mg) (mr : mg "range" = none) (FV : Fun K "_law_value" "_law_value" sLval fV fdV) (bV : Binds K fdV ["_law_one", "_law_x", "_law_y", "_law_radix"] []) (gV : mg "_law_value" = some (.ref fV)) :
    FnOk P w K mg base CX0 (k + 3) f fd ["_law_rows", "_law_at", "_law_x", "_law_y", "_law_radix"] (spLse K) := by
  have GV : FnOk P w K mg base CX0 (k + 2) fV fdV ["_law_one", "_law_x", "_law_y", "_law_radix"] (spLval K) := ok_lval FV T bV gV
  refine F.ok scLse (fun vs H Q E h => ?_) (fun cdv A outer s H vs Q E hr h => ?_)
  · obtain ⟨vt, t, N, b, p, rfl, _⟩ := h
    rfl
  · obtain ⟨vt, t, N, b, p, rfl, hb, lt, ok, ht, ind, q⟩ := h
    have b2 : (2 : Int) ≤ b := by omega
    have b4 : (b : Int) ≤ 4 := by omega
    obtain ⟨at', xs, rfl, hx, lx, rows⟩ := dt_text ht
    refine ⟨_, pss_cons (ps_for PassesOwn.never rfl (pi_range1 (by rfl) mr (pa_cons (pe_op op_add (pe_op op_mul (pe_op op_mul (pe_callB call_len_seq (by rfl) T.len PySem.boot_len (pa_cons (pv 0) pa_nil)) (pv 4)) (pv 4)) pe_int) pa_nil)) (pg_name (i := 5) scLse.nd rfl (.inl rfl))
        (pss_cons (ps_if (PW.pt (pw_or (pt_cmpR op_eq (pv 1) (pe_callB call_len_seq (by rfl) T.len PySem.boot_len (pa_cons (pv 0) pa_nil)) (nomark _)) (pw_or1 (pt_cmpR op_notIn_seq (pe_ix ix_tup (pe_ix ix_tup (pv 0) (pv 1) (fun _ _ => rfl)) pe_int (fun _ _ => rfl)) (pe_tup (pa_cons pe_str (pa_cons pe_str (pa_cons pe_str pa_nil)))) (by rfl))))) (pss_one (ps_ret (pe_tup (pa_cons (pv 1) (pa_cons (pv 2) (pa_cons (pv 3) pa_nil)))))) pss_nil)
        (pss_cons (ps_set (i := 6) scLse.nd rfl (.inl rfl) (pe_ix ix_tup (pv 0) (pv 1) (fun _ _ => rfl)))
        (pss_cons (ps_set (i := 1) scLse.nd rfl (.inl rfl) (pe_op op_add (pv 1) pe_int))
        (pss_one (ps_if (pt_cmpR op_eq (pe_ix ix_tup (pv 6) pe_int (fun _ _ => rfl)) pe_str (nomark _)) (pss_one (ps_set (i := 1) scLse.nd rfl (.inl rfl) (pe_ix ix_tup (pv 6) pe_int (fun _ _ => rfl)))) (pss_one (ps_if (pt_cmpR op_eq (pe_ix ix_tup (pv 6) pe_int (fun _ _ => rfl)) pe_str (nomark _)) (pss_cons (ps_set (i := 7) scLse.nd rfl (.inl rfl) (pe_call GV hr (by rfl) gV FV.kp bV .nil pass0 (pa_cons (pe_ix ix_tup (pv 6) pe_int (fun _ _ => rfl)) (pa_cons (pv 2) (pa_cons (pv 3) (pa_cons (pv 4) pa_nil)))))) (pss_one (ps_asg (pe_ifExp (pt_cmpR op_eq (pe_ix ix_tup (pv 6) pe_int (fun _ _ => rfl)) pe_str (nomark _)) (pe_tup (pa_cons (pv 7) (pa_cons (pv 3) pa_nil))) (pe_tup (pa_cons (pv 2) (pa_cons (pv 7) pa_nil)))) (pg_tup (by rfl) (pgs_cons (pg_name (i := 2) scLse.nd rfl (.inl rfl)) (pgs_cons (pg_name (i := 3) scLse.nd rfl (.inl rfl)) pgs_nil)))))) (pss_one (ps_if (pt_cmpR op_eq (pe_call GV hr (by rfl) gV FV.kp bV .nil pass0 (pa_cons (pe_ix ix_tup (pv 6) pe_int (fun _ _ => rfl)) (pa_cons (pv 2) (pa_cons (pv 3) (pa_cons (pv 4) pa_nil))))) (pe_call GV hr (by rfl) gV FV.kp bV .nil pass0 (pa_cons (pe_ix ix_tup (pv 6) pe_int (fun _ _ => rfl)) (pa_cons (pv 2) (pa_cons (pv 3) (pa_cons (pv 4) pa_nil))))) (nomark _)) (pss_one (ps_set (i := 1) scLse.nd rfl (.inl rfl) (pe_ix ix_tup (pv 6) pe_int (fun _ _ => rfl)))) pss_nil))))))))))
      (pss_one (ps_ret (pe_tup (pa_cons (pe_un un_neg pe_int) (pa_cons pe_int (pa_cons pe_int pa_nil)))))), ?_⟩
    have big : t.length * b * b ≤ 256 := by
      have z1 : b * b ≤ 16 := by rcases hb with rfl | rfl | rfl <;> decide
      calc t.length * b * b = t.length * (b * b) := Nat.mul_assoc _ _ _
        _ ≤ 16 * 16 := Nat.mul_le_mul lt z1
    have en : ((xs.length : Int) * b * b + 1) = ((t.length * b * b + 1 : Nat) : Int) := by
      rw [lx]
      push_cast
      rfl
    refine ⟨_, rfl, at', xs, rfl, .inr hx, _, rfl, xs.length, b, rfl, rfl, .inl ⟨by omega, by omega⟩, _, rfl, _, b, rfl, rfl, .inr ⟨by omega, by omega⟩, _, 1, rfl, rfl, ((t.length * b * b + 1 : Nat) : Int), (by show [V.int ((xs.length : Int) * b * b + 1)] = _; rw [en]), by omega, by omega, ?_⟩
    refine for_range (lo := 0) (n := t.length * b * b + 1) (fun j σ H' => ∃ y5 y6 y7, σ = [some (.ref at'), some (.int (it t b p j).1), some (.int (it t b p j).2.1), some (.int (it t b p j).2.2), some (.int b), y5, y6, y7] ∧ (∀ i, i < j → silentAt t (it t b p i).1 = true) ∧ Same H H')
      ⟨none, none, none, rfl, (fun i hi => absurd hi (Nat.not_lt_zero _)), Same.refl H⟩ ?_ ?_
    · rintro j σ H2 hj ⟨y5, y6, y7, rfl, past, s2⟩
      have inn := it_in ok ind j
      have nxt : it t b p (j + 1) = stp t b (it t b p j) := rfl
      generalize hpj : it t b p j = pj at inn nxt
      obtain ⟨i, x, y⟩ := pj
      have hx2 := keepT_same (K := K) s2 _ _ hx
      have done : silentAt t i = false → ∀ H3, Same H H3 → ∀ T, H3 T = none → Q (.ref T) (upd H3 T (.tup [.int i, .int x, .int y])) := fun sl H3 s3 T nT => by
        refine q _ _ ?_ (s3.trans (same_new nT))
        rw [res_some past (by rw [hpj]; exact sl) (by omega), hpj]
        exact dt_new nT (.cons (.int _) (.cons (.int _) (.cons (.int _) .nil)))
      refine ⟨_, rfl, _, rfl, at', xs, rfl, .inr hx2, rfl, _, rfl, ite2 (fun e => ?_) (fun e => ?_)⟩
      · have e1 : (i : Int) = (xs.length : Int) := V.int.inj (of_decide_eq_true e)
        exact ⟨_, rfl, _, rfl, _, rfl, (by show 3 ≤ sizeLine; decide), fun T nT => done (by unfold silentAt; rw [List.getElem?_eq_none (by omega)]) H2 s2 T nT⟩
      have ne : i ≠ xs.length := fun z => e (decide_eq_true (by rw [z]))
      have hlt : i < t.length := by
        have := inn.1
        have z : i ≤ t.length := this
        omega
      obtain ⟨row, hrow⟩ : ∃ row, t[i]? = some row := ⟨t[i], List.getElem?_eq_getElem hlt⟩
      obtain ⟨pr, ys, r1, r2, r3⟩ := rows i row hrow
      have rok := ok row (List.mem_of_getElem? hrow)
      have es : stp t b (i, x, y) = stepR b (i, x, y) row := by
        unfold stp
        rw [show t[((i, x, y) : P3).1]? = t[i]? from rfl, hrow]
      refine ⟨_, rfl, _, rfl, at', _, i, .ref pr, rfl, rfl, hx2, atI_nat r1, pr, _, 0, .str row.w, rfl, rfl, keepT_same s2 _ _ r2, atI_nat (j := 0) rfl, (by show 3 ≤ sizeLine; decide), fun q3 n3 => ?_⟩
      have s23 := same_new n3 (o := .tup [.str "set", .str "if", .str "go"])
      have s3 := s2.trans s23
      refine ⟨q3, _, rfl, .inr (SqT.of upd_same), rfl, rfl, _, rfl, ite2 (fun e2 => ?_) (fun e2 => ?_)⟩
      · have e3 : (!inV (.str row.w) [.str "set", .str "if", .str "go"]) = true := e2
        rw [Rw.w_in] at e3
        exact ⟨_, rfl, _, rfl, _, rfl, (by show 3 ≤ sizeLine; decide), fun T nT => done (by unfold silentAt; rw [hrow]; simpa using e3) _ s3 T nT⟩
      have e3 : ¬ (!inV (.str row.w) [.str "set", .str "if", .str "go"]) = true := e2
      rw [Rw.w_in] at e3
      have rs : row.silent = true := by simpa using e3
      have sl : silentAt t (it t b p j).1 = true := by
        rw [hpj]
        unfold silentAt
        rw [show t[((i, x, y) : P3).1]? = t[i]? from rfl, hrow]
        exact rs
      have past2 : ∀ c, c < j + 1 → silentAt t (it t b p c).1 = true := fun c hc => by
        rcases Nat.lt_or_ge c j with z | z
        · exact past c z
        · have : c = j := by omega
          rw [this]
          exact sl
      revert s23 s3
      generalize upd H2 q3 (.tup [.str "set", .str "if", .str "go"]) = H3
      intro s23 s3
      have hx3 := keepT_same (K := K) s3 _ _ hx
      have r23 := keepT_same (K := K) s3 _ _ r2
      have pt : Pt b x y := ⟨inn.2.1, inn.2.2⟩
      refine ⟨_, rfl, _, rfl, at', _, i, .ref pr, rfl, rfl, hx3, atI_nat r1, ?_⟩
      refine ⟨_, rfl, i, 1, rfl, rfl, ?_⟩
      have fin : ∀ (σ' : L2.St) (H' : Hp) (r' x' y' : Int) y5 y6 y7, σ' = [some (.ref at'), some (.int r'), some (.int x'), some (.int y'), some (.int b), y5, y6, y7] → Same H H' → stepR b (i, x, y) row = (r'.toNat, x', y') → 0 ≤ r' →
          ∃ y5 y6 y7, σ' = [some (.ref at'), some (.int (it t b p (j + 1)).1), some (.int (it t b p (j + 1)).2.1), some (.int (it t b p (j + 1)).2.2), some (.int b), y5, y6, y7] ∧ (∀ i, i < j + 1 → silentAt t (it t b p i).1 = true) ∧ Same H H' := fun σ' H' r' x' y' y5 y6 y7 es' sH eit hr' => by
        refine ⟨y5, y6, y7, ?_, past2, sH⟩
        rw [nxt.trans (es.trans eit), es']
        show _ = [some (.ref at'), some (.int ((r'.toNat : Nat) : Int)), some (.int x'), some (.int y'), some (.int b), y5, y6, y7]
        rw [Int.toNat_of_nonneg hr']
      cases row with
      | go r =>
        obtain ⟨u0, us0, rfl, d0, q0⟩ := dtall_cons r3
        obtain rfl := dtall_nil q0
        have z0 : u0 = .int r := by cases d0; rfl
        subst z0
        refine ⟨_, rfl, pr, _, 0, .str "go", rfl, rfl, r23, atI_nat (j := 0) rfl, rfl, _, rfl, ite2 (fun _ => ?_) (fun e => absurd (decide_eq_true rfl) e)⟩
        exact ⟨_, rfl, pr, _, 1, .int r, rfl, rfl, r23, atI_nat (j := 1) rfl, fin _ _ r x y _ _ _ rfl s3 rfl rok.1⟩
      | set v e =>
        obtain ⟨u0, us0, rfl, d0, q0⟩ := dtall_cons r3
        obtain ⟨u1, us1, rfl, d1, q1⟩ := dtall_cons q0
        obtain rfl := dtall_nil q1
        have z0 : u0 = .str v := by cases d0; rfl
        subst z0
        refine ⟨_, rfl, pr, _, 0, .str "set", rfl, rfl, r23, atI_nat (j := 0) rfl, rfl, _, rfl, ite2 (fun e => absurd (of_decide_eq_true e) (by decide +kernel)) (fun _ => ?_)⟩
        refine ⟨_, rfl, pr, _, 0, .str "set", rfl, rfl, r23, atI_nat (j := 0) rfl, rfl, _, rfl, ite2 (fun _ => ?_) (fun e => absurd (decide_eq_true rfl) e)⟩
        refine ⟨_, rfl, pr, _, 2, u1, rfl, rfl, r23, atI_nat (j := 2) rfl, _, rfl, _, rfl, _, rfl, u1, e, b, x, y, rfl, b2, b4, rok.2, pt, d1.keep (keepT_same s3), fun H4 s4 => ?_⟩
        have s34 := s3.trans s4
        have r24 := keepT_same (K := K) s34 _ _ r2
        refine ⟨_, rfl, pr, _, 1, .str v, rfl, rfl, r24, atI_nat (j := 1) rfl, rfl, _, rfl, ite2 (fun c => ?_) (fun c => ?_)⟩
        · have c1 : v = "x" := V.str.inj (of_decide_eq_true c)
          refine ⟨_, rfl, _, rfl, (by show 2 ≤ sizeLine; decide), fun T nT => ?_⟩
          refine ⟨T, _, rfl, SqT.of upd_same, rfl, _, _, rfl, _, _, rfl, rfl, fin _ _ ((i : Int) + 1) (e.val b x y) y _ _ _ rfl (s34.trans (same_new nT)) ?_ (by omega)⟩
          show (if v = "x" then (i + 1, e.val b x y, y) else (i + 1, x, e.val b x y)) = _
          rw [if_pos c1]
          rfl
        · have c1 : ¬ v = "x" := fun z => c (decide_eq_true (by rw [z]))
          refine ⟨_, rfl, _, rfl, (by show 2 ≤ sizeLine; decide), fun T nT => ?_⟩
          refine ⟨T, _, rfl, SqT.of upd_same, rfl, _, _, rfl, _, _, rfl, rfl, fin _ _ ((i : Int) + 1) x (e.val b x y) _ _ _ rfl (s34.trans (same_new nT)) ?_ (by omega)⟩
          show (if v = "x" then (i + 1, e.val b x y, y) else (i + 1, x, e.val b x y)) = _
          rw [if_neg c1]
          rfl
      | iff e f r =>
        obtain ⟨u0, us0, rfl, d0, q0⟩ := dtall_cons r3
        obtain ⟨u1, us1, rfl, d1, q1⟩ := dtall_cons q0
        obtain ⟨u2, us2, rfl, d2, q2⟩ := dtall_cons q1
        obtain rfl := dtall_nil q2
        have z2 : u2 = .int r := by cases d2; rfl
        subst z2
        obtain ⟨ok1, ok2, g0, g1⟩ := rok
        refine ⟨_, rfl, pr, _, 0, .str "if", rfl, rfl, r23, atI_nat (j := 0) rfl, rfl, _, rfl, ite2 (fun e => absurd (of_decide_eq_true e) (by decide +kernel)) (fun _ => ?_)⟩
        refine ⟨_, rfl, pr, _, 0, .str "if", rfl, rfl, r23, atI_nat (j := 0) rfl, rfl, _, rfl, ite2 (fun e => absurd (of_decide_eq_true e) (by decide +kernel)) (fun _ => ?_)⟩
        refine ⟨_, rfl, pr, _, 1, u0, rfl, rfl, r23, atI_nat (j := 1) rfl, _, rfl, _, rfl, _, rfl, u0, e, b, x, y, rfl, b2, b4, ok1, pt, d0.keep (keepT_same s3), fun H4 s4 => ?_⟩
        have s34 := s3.trans s4
        refine ⟨_, rfl, pr, _, 2, u1, rfl, rfl, keepT_same s34 _ _ r2, atI_nat (j := 2) rfl, _, rfl, _, rfl, _, rfl, u1, f, b, x, y, rfl, b2, b4, ok2, pt, d1.keep (keepT_same s34), fun H5 s5 => ?_⟩
        have s35 := s34.trans s5
        refine ⟨rfl, _, rfl, ite2 (fun c => ?_) (fun c => ?_)⟩
        · have c1 : e.val b x y = f.val b x y := V.int.inj (of_decide_eq_true c)
          refine ⟨_, rfl, pr, _, 3, .int r, rfl, rfl, keepT_same s35 _ _ r2, atI_nat (j := 3) rfl, fin _ _ r x y _ _ _ rfl s35 ?_ g0⟩
          show (if e.val b x y = f.val b x y then (r.toNat, x, y) else (i + 1, x, y)) = _
          rw [if_pos c1]
        · have c1 : ¬ e.val b x y = f.val b x y := fun z => c (decide_eq_true (by rw [z]))
          refine fin _ _ ((i : Int) + 1) x y _ _ _ rfl s35 ?_ (by omega)
          show (if e.val b x y = f.val b x y then (r.toNat, x, y) else (i + 1, x, y)) = _
          rw [if_neg c1]
          rfl
      | say e => cases rs
      | ask v => cases rs
      | read c v => cases rs
      | write c e => cases rs
      | call n e v => cases rs
      | fin e => cases rs
    · rintro σ H2 ⟨y5, y6, y7, rfl, past, s2⟩
      refine ⟨1, rfl, (by show 3 ≤ sizeLine; decide), fun T nT => q _ _ ?_ (s2.trans (same_new nT))⟩
      rw [res_none fun j hj => past j (by omega)]
      exact dt_new nT (.cons (.int _) (.cons (.int _) (.cons (.int _) .nil)))
end
end Kx

namespace Kx
open PySem PySem.Spec PyProof.Rows L2
abbrev sLaw : Stmt := topS 19
theorem scLaw : FnScope ["_law_script", "_law_at", "_law_bag_here", "_law_radix", "_law_rows", "_law_turn", "_law_number", "_law_due", "_law_found", "_law_row_here"] ["_law_script"] (defScope sLaw) := ⟨rfl, rfl, rfl, by decide +kernel, rfl, by decide +kernel, by decide +kernel⟩
structure Ui (mg : Str → Option Value) : Prop where
  abs : mg "abs" = none
  range : mg "range" = none
  max : mg "max" = none
  min : mg "min" = none
  all : mg "all" = none
  set : mg "set" = none
def quieted (r : Rw) : Rw := if r.silent = true then r else .set "y" (.t "+" .y (.n 1))
theorem quieted_ok {b : Int} {N : List Str} {t : List Rw} (hb : 2 ≤ b) (ok : Tx.ok b N t) : Tx.ok b N (t.map quieted) := by
  intro r hr
  obtain ⟨r0, h0, rfl⟩ := List.mem_map.mp hr
  rw [List.length_map]
  unfold quieted
  split
  · exact ok r0 h0
  · exact ⟨.inr rfl, .inl rfl, trivial, by decide, by show (1 : Int) < b; omega⟩
theorem res_shape (t : List Rw) (b : Nat) (p : P3) : ∃ r x y : Int, resD t b p = stI r x y := by
  unfold resD
  cases res t b p with
  | none => exact ⟨_, _, _, rfl⟩
  | some q => exact ⟨_, _, _, rfl⟩
theorem st_shaped (r x y : Int) : SeqAt.shaped (stI r x y) = true := rfl
section
variable {P : Program} {w : World} {K : PySem.W.Frag} {mg : Str → Option Value} {base : Heap}
theorem kb_F {f : Addr} {fd : FuncData} (F : FnD K "first_stand" sFst [("base", .int 3)] f fd) : KBn K fd ["text", "argument", "base"] 2 ["base"] (fun us ws => us ++ ws) (fun vs zs => vs ++ zs) := by
  obtain ⟨oc, od, dV, kV, doc, pm, an, cdv, ct, osl, rfl, lk, hcd, hD, hK⟩ := F.ex
  obtain rfl : dV = .none := by
    rcases hD with ⟨_, e⟩ | ⟨e, _⟩
    · exact e
    · exact absurd rfl e
  obtain ⟨D, rfl⟩ : ∃ D, kV = .ref D := by
    rcases hK with e | ⟨D, e, _⟩
    · cases e
    · exact ⟨D, e⟩
  refine ⟨fun s us ws _ h1 h2 => ?_, fun r1 r2 => r1.append r2⟩
  match us, ws, h1, h2 with
  | [u0, u1], [w], _, _ => exact .of_eq rfl
theorem bd_F {f : Addr} {fd : FuncData} (F : FnD K "first_stand" sFst [("base", .int 3)] f fd) : ∃ ds, Vals [.int 3] ds ∧ Binds K fd ["text", "argument", "base"] ds := by
  refine F.binds0 (ps := ["text", "argument", "base"]) 2 (by simp) rfl fun D doc pm an cdv ct us ks h1 h2 => ?_
  match us, ks, h1, h2 with
  | [u0, u1], [v], _, _ => exact ⟨_, _, _, _, _, _, rfl, rfl, rfl⟩
theorem law_run {f pM pS fF fB fT fO fE fR fX fV fE2 fI fY fA fZ fD fS : Addr} {fd fdF fdB fdT fdO fdE fdR fdX fdV fdE2 fdI fdY fdA fdZ fdD fdS : FuncData} (F : Fun K "law" "law" sLaw f fd) (T : Bi mg) (U : Ui mg) (gM : mg "MUTE" = some (.ref pM)) (hM : MuteK K pM) (gSi : mg "SILENT" = some (.ref pS)) (hSi : SilK K pS)
    (FB : Fun K "_law_bag" "_law_bag" sBag fB fdB) (bB : Binds K fdB ["_law_script", "_law_at"] []) (gB : mg "_law_bag" = some (.ref fB))
    (FT : Fun K "_law_take" "_law_take" sTake fT fdT) (bT : Binds K fdT ["_law_bag_here", "_law_many"] []) (gT : mg "_law_take" = some (.ref fT))
    (FO : Fun K "_law_operand" "_law_operand" sOpd fO fdO) (bO : Binds K fdO ["_law_bag_here", "_law_radix"] []) (gO : mg "_law_operand" = some (.ref fO))
    (FE : Fun K "_law_expression" "_law_expression" sExp fE fdE) (bE : Binds K fdE ["_law_bag_here", "_law_radix"] []) (gE : mg "_law_expression" = some (.ref fE))
    (FR : Fun K "_law_row" "_law_row" sRow fR fdR) (bR : Binds K fdR ["_law_bag_here", "_law_radix", "_law_many", "_law_names"] []) (gR : mg "_law_row" = some (.ref fR))
    (FX : Fun K "_law_text" "_law_text" sText fX fdX) (bX : Binds K fdX ["_law_bag_here", "_law_radix", "_law_most", "_law_names"] []) (gX : mg "_law_text" = some (.ref fX))
    (FV : Fun K "_law_value" "_law_value" sLval fV fdV) (bV : Binds K fdV ["_law_one", "_law_x", "_law_y", "_law_radix"] []) (gV : mg "_law_value" = some (.ref fV))
    (FE2 : Fun K "_law_settled" "_law_settled" sLse fE2 fdE2) (bE2 : Binds K fdE2 ["_law_rows", "_law_at", "_law_x", "_law_y", "_law_radix"] []) (gE2 : mg "_law_settled" = some (.ref fE2))
    (FI : Fun K "_law_is_stand" "_law_is_stand" sLis fI fdI) (bI : Binds K fdI ["_law_found"] []) (gI : mg "_law_is_stand" = some (.ref fI))
    (FY : Fun K "value_of" "value_of" sVal fY fdY) (bY : Binds K fdY ["expression", "point", "base"] []) (gY : mg "value_of" = some (.ref fY))
    (FA : Fun K "assign" "assign" sAsg fA fdA) (bA : Binds K fdA ["variable", "value", "point"] []) (gA : mg "assign" = some (.ref fA))
    (FZ : Fun K "is_silent" "is_silent" sSil fZ fdZ) (bZ : Binds K fdZ ["text", "row"] []) (gZ : mg "is_silent" = some (.ref fZ))
    (FD : Fun K "do_silent" "do_silent" sDo fD fdD) (bD : Binds K fdD ["text", "point", "base"] []) (gD : mg "do_silent" = some (.ref fD))
    (FS : Fun K "settle" "settle" sSet fS fdS) (bS : Binds K fdS ["text", "point", "base"] []) (gS : mg "settle" = some (.ref fS))
    (FF : FnD K "first_stand" sFst [("base", .int 3)] fF fdF) (gF : mg "first_stand" = some (.ref fF))
    {H : Hp} {t : Shared} {a : Addr} {ns : List Int} (hn : ns.length ≤ 63) (env0 : Env0 P w K mg base callerA [] t H) (sq : SqL K H a (ns.map V.int)) :
    codeAny (model P w) callerA (.call (.ref f) ⟨[.ref a], []⟩) (CR CX0 [] P w H t (fun v _ => v = .bl true) fun _ _ _ => False) t := by
  have GB : FnOk P w K mg base CX0 8 fB fdB ["_law_script", "_law_at"] (spBag K) := ok_bag FB T.len U.abs
  have GT : FnOk P w K mg base CX0 8 fT fdT ["_law_bag_here", "_law_many"] spTake := ok_take FT
  have GX : FnOk P w K mg base CX0 8 fX fdX ["_law_bag_here", "_law_radix", "_law_most", "_law_names"] (spText K) := ok_text FX FT bT gT FO bO gO FE bE gE T.len FR bR gR T.tuple U.range
  have GE2 : FnOk P w K mg base CX0 8 fE2 fdE2 ["_law_rows", "_law_at", "_law_x", "_law_y", "_law_radix"] (spLse K) := ok_lse FE2 T U.range FV bV gV
  have GI : FnOk P w K mg base CX0 8 fI fdI ["_law_found"] (spLis K) := ok_lis FI T U.all
  have GS : FnOk P w K mg base CX0 7 fS fdS ["text", "point", "base"] (spSet K) := ok_set FS T U.set gM hM gSi hSi FA bA gA FY bY gY FD bD gD FZ bZ gZ
  have GF : FnOk P w K mg base CX0 8 fF fdF ["text", "argument", "base"] (spFst K) := ok_fst (k := 3) FF GS FS.kp bS gS
  have kbF := kb_F FF
  obtain ⟨ddF, vdF, bdF⟩ := bd_F FF
  obtain ⟨oc, od, kV, doc, pm, an, cdv, ct, osl, rfl, lk, hcd⟩ := F.ex
  refine run_at (k := 8) (N := ["_law_script", "_law_at", "_law_bag_here", "_law_radix", "_law_rows", "_law_turn", "_law_number", "_law_due", "_law_found", "_law_row_here"]) (ps := ["_law_script"]) (us := [.ref a]) (vs := [.ref a]) lk hcd scLaw rfl ⟨rfl, by decide, by decide⟩ env0 (.of_eq rfl) (.cons rfl .nil) fun hr => ?_
  have hu := hr.units
  refine ⟨_, PSs.nox (pss_cons (ps_for PassesOwn.never rfl (pi_range1 (by rfl) U.range (pa_cons (pe_callB (call_max2 rfl) (by rfl) U.max (by decide +kernel) (pa_cons pe_int (pa_cons (pe_callB (call_min2 rfl) (by rfl) U.min (by decide +kernel) (pa_cons pe_int (pa_cons (pe_callB call_len_seq (by rfl) T.len PySem.boot_len (pa_cons (pv 0) pa_nil)) pa_nil))) pa_nil))) pa_nil)) (pg_name (i := 1) scLaw.nd rfl (.inl rfl)) (pss_cons (ps_set (i := 2) scLaw.nd rfl (.inl rfl) (pe_call GB hr (by rfl) gB FB.kp bB .nil pass0 (pa_cons (pv 0) (pa_cons (pv 1) pa_nil)))) (pss_cons (ps_set (i := 3) scLaw.nd rfl (.inl rfl) (pe_op op_add pe_int (pe_call GT hr (by rfl) gT FT.kp bT .nil pass0 (pa_cons (pv 2) (pa_cons pe_int pa_nil))))) (pss_cons (ps_set (i := 4) scLaw.nd rfl (.inl rfl) (pe_call GX hr (by rfl) gX FX.kp bX .nil pass0 (pa_cons (pv 2) (pa_cons (pv 3) (pa_cons (pe_ix ix_list (pe_lst (pa_cons pe_int (pa_cons pe_int (pa_cons pe_int pa_nil)))) (pe_call GT hr (by rfl) gT FT.kp bT .nil pass0 (pa_cons (pv 2) (pa_cons pe_int pa_nil))) (fun _ _ => rfl)) (pa_cons (pe_lst (pa_cons pe_str (pa_cons pe_str pa_nil))) pa_nil)))))) (pss_cons (ps_if (pt_cmpR op_eq (pe_call GT hr (by rfl) gT FT.kp bT .nil pass0 (pa_cons (pv 2) (pa_cons pe_int pa_nil))) pe_int (nomark _)) (pss_one (ps_set (i := 4) scLaw.nd rfl (.inl rfl) (pe_callTy call_tuple_of (by rfl) T.tuple (by decide +kernel) (pa_cons (pe_lc (own := [("_law_row_here", 9)]) (g := gName 9) (te := tIf (tTest (tOp (rIn K false) (tOp (rIxT K) (tVar 9) (tC (.int 0))) (tTup (tCons (tC (.str "set")) (tCons (tC (.str "if")) (tCons (tC (.str "go")) tNil)))))) (tVar 9) (tTup (tCons (tC (.str "set")) (tCons (tC (.str "y")) (tCons (tTup (tCons (tC (.str "+")) (tCons (tC (.str "y")) (tCons (tC (.int 1)) tNil)))) tNil))))) (tt := tYes) (by rfl) scLaw.nd (pi_tup (pv 4)) (blkOk_by (N := ["_law_script", "_law_at", "_law_bag_here", "_law_radix", "_law_rows", "_law_turn", "_law_number", "_law_due", "_law_found", "_law_row_here"]) (sc := defScope sLaw) (by decide +kernel)) (fun _ _ _ _ _ => pg_name (i := 9) scLaw.nd rfl (Or.inl rfl)) (fun _ _ _ _ _ => pts_nil) (fun _ _ _ _ _ => (pe_ifExp (pt_cmpR op_in_seq (pe_ix ix_tup (pv 9) pe_int (fun _ _ => rfl)) (pe_tup (pa_cons pe_str (pa_cons pe_str (pa_cons pe_str pa_nil)))) (by rfl)) (pv 9) (pe_tup (pa_cons pe_str (pa_cons pe_str (pa_cons (pe_tup (pa_cons pe_str (pa_cons pe_str (pa_cons pe_int pa_nil)))) pa_nil))))))) pa_nil)))) pss_nil) (pss_one (ps_for PassesOwn.never rfl (pi_range1 (by rfl) U.range (pa_cons pe_int pa_nil)) (pg_name (i := 5) scLaw.nd rfl (.inl rfl)) (pss_one (ps_for PassesOwn.never rfl (pi_range1 (by rfl) U.range (pa_cons (pv 3) pa_nil)) (pg_name (i := 6) scLaw.nd rfl (.inl rfl)) (pss_cons (ps_set (i := 7) scLaw.nd rfl (.inl rfl) (pe_call GE2 hr (by rfl) gE2 FE2.kp bE2 .nil pass0 (pa_cons (pv 4) (pa_cons pe_int (pa_cons (pv 6) (pa_cons pe_int (pa_cons (pv 3) pa_nil))))))) (pss_cons (ps_set (i := 8) scLaw.nd rfl (.inl rfl) (pe_callN GF hr (by rfl) gF FF.kp kbF pass0 (pa_cons (pv 4) (pa_cons (pv 6) pa_nil)) (pk_cons (pv 3) pk_nil))) (pss_cons (ps_if (PW.pt (pw_or (pt_not (pt_val (pe_call GI hr (by rfl) gI FI.kp bI .nil pass0 (pa_cons (pv 8) pa_nil)))) (pw_or (pt_cmpR (op_neD hu) (pv 8) (pv 7) (nomark _)) (pw_or1 (pt_cmpR op_ne (pe_cmpR (op_eqD hu) (pv 8) (pe_glob (v := .ref pM) rfl gM rfl) (nomark _)) (pe_cmpR (op_eqD hu) (pv 7) (pe_tup (pa_cons (pe_un un_neg pe_int) (pa_cons pe_int (pa_cons pe_int pa_nil)))) (nomark _)) (nomark _)))))) (pss_one (ps_ret pe_bl)) pss_nil) (pss_one (ps_if (PW.pt (pw_and (pt_cmpR op_eq (pv 3) pe_int (nomark _)) (pw_and1 (pt_cmpR (op_neD hu) (pe_call GF hr (by rfl) gF FF.kp bdF vdF pass0 (pa_cons (pv 4) (pa_cons (pv 6) pa_nil))) (pv 7) (nomark _))))) (pss_one (ps_ret pe_bl)) pss_nil)))))))))))))) (pss_one (ps_ret (pe_and (pe_call GI hr (by rfl) gI FI.kp bI .nil pass0 (pa_cons (pe_glob (v := .ref pM) rfl gM rfl) pa_nil)) (pe_one (pe_cmpR (op_eqD hu) (pe_glob (v := .ref pM) rfl gM rfl) (pe_tup (pa_cons (pe_un un_neg pe_int) (pa_cons pe_int (pa_cons pe_int pa_nil)))) (nomark _))))))), ?_⟩
  have muteD : ∀ H', Dt K H' (.ref pM) (stI (-1) 0 0) := fun H' => .tup (hM H') (.cons (.int _) (.cons (.int _) (.cons (.int _) .nil)))
  obtain ⟨m, hm, hm6⟩ : ∃ m : Nat, (if (if ((ns.map V.int).length : Int) < 6 then ((ns.map V.int).length : Int) else 6) > 2 then (if ((ns.map V.int).length : Int) < 6 then ((ns.map V.int).length : Int) else 6) else 2) = (m : Int) ∧ m ≤ 6 := by
    refine ⟨(if (if ((ns.map V.int).length : Int) < 6 then ((ns.map V.int).length : Int) else 6) > 2 then (if ((ns.map V.int).length : Int) < 6 then ((ns.map V.int).length : Int) else 6) else 2).toNat, ?_, ?_⟩ <;> split <;> split <;> omega
  refine ⟨.ref a, rfl, a, _, rfl, .inl sq, 6, _, rfl, 2, _, rfl, m, congrArg (fun z => [V.int z]) hm, by omega, by omega, ?_⟩
  refine for_range (lo := 0) (n := m) (fun i σ H' => ∃ y1 y2 y3 y4 y5 y6 y7 y8, σ = [some (.ref a), y1, y2, y3, y4, y5, y6, y7, y8, none] ∧ Same H H') ⟨none, none, none, none, none, none, none, none, rfl, Same.refl H⟩ ?_ ?_
  · rintro i σ H1 hi ⟨y1, y2, y3, y4, y5, y6, y7, y8, rfl, s1⟩
    refine ⟨.ref a, rfl, _, rfl, a, ns, i, (by rw [Int.zero_add]; rfl), s1.seq sq, by omega, fun b H2 nb B2 s2 => ?_⟩
    refine ⟨.ref b, rfl, b, 0, 3, rfl, B2, by decide, by decide, by decide, fun r H3 r0 r1 B3 s3 => ?_⟩
    have S3 := fun x o (e : H1 x = some o) => s3 x o (ne_of_none e nb) (s2 x o e)
    obtain ⟨rb, erb, hrb⟩ : ∃ rb : Nat, 2 + r = (rb : Int) ∧ (rb = 2 ∨ rb = 3 ∨ rb = 4) := ⟨(2 + r).toNat, by omega, by omega⟩
    refine ⟨2, r, rfl, rfl, ?_⟩
    refine ⟨.ref b, rfl, _, rfl, (by show 3 ≤ sizeLine; decide), fun l1 n1 => ?_⟩
    refine ⟨.ref b, rfl, b, 0 + 1, 3, rfl, B3.new n1, by decide, by decide, by decide, fun j H4 j0 j1 B4 s4 => ?_⟩
    have S4 : Same H1 H4 := fun x o e => s4 x o (ne_of_none e nb) ((same_new n1) x o (S3 x o e))
    have hL1 : SqL K H4 l1 [.int 3, .int 8, .int 16] := SqL.of (s4 _ _ (B3.ne n1) upd_same)
    obtain ⟨most, hmost, hj⟩ : ∃ most : Nat, most ≤ 16 ∧ atI [V.int 3, V.int 8, V.int 16] j = some (.int most) := by
      rcases (by omega : j = 0 ∨ j = 1 ∨ j = 2) with rfl | rfl | rfl
      · exact ⟨3, by decide, atI_nat (j := 0) rfl⟩
      · exact ⟨8, by decide, atI_nat (j := 1) rfl⟩
      · exact ⟨16, by decide, atI_nat (j := 2) rfl⟩
    refine ⟨l1, _, j, .int most, rfl, rfl, hL1, hj, (by show 2 ≤ sizeLine; decide), fun l2 n2 => ?_⟩
    refine ⟨b, l2, 0 + 1 + 1, (rb : Int), most, ["f", "g"], (by show [V.ref b, V.int (2 + r), V.int (most : Int), V.ref l2] = _; rw [erb]), B4.new n2, by decide, by omega, by omega, by omega, B4.ne n2, SqL.of upd_same, by decide, by decide, fun v0 t0 H6 lt0 ok0 d6 B6 s6 => ?_⟩
    have S6 : Same H1 H6 := fun x o e => s6 x o (ne_of_none e nb) ((same_new n2) x o (S4 x o e))
    have rb2 : (2 : Int) ≤ rb := by omega
    have rb4 : (rb : Int) ≤ 4 := by omega
    refine ⟨.ref b, rfl, b, 0 + 1 + 1 + 1 + 17 * most, 4, rfl, B6, by omega, by decide, by decide, fun c H7 c0 c1 B7 s7 => ?_⟩
    have S7 : Same H1 H7 := fun x o e => s7 x o (ne_of_none e nb) (S6 x o e)
    have d7 := d6.keep (keepT_x (K := K) B6 s7)
    refine ⟨rfl, _, rfl, ite2 (fun _ => ?b1) (fun _ => ?b2)⟩
    case b2 =>
      have lt16 : t0.length ≤ 16 := by omega
      refine ⟨2, rfl, by decide, by decide, ?_⟩
      refine for_range (lo := 0) (n := 2) (fun j σ H' => ∃ y5 y6 y7 y8, σ = [some (.ref a), some (.int (0 + (i : Int))), some (.ref b), some (.int (2 + r)), some v0, y5, y6, y7, y8, none] ∧ Same H7 H') ⟨y5, y6, y7, y8, rfl, Same.refl H7⟩ ?_ ?_
      · rintro j σ H9 hj ⟨y5, y6, y7, y8, rfl, s9⟩
        refine ⟨_, rfl, (rb : Int), (by rw [erb]), by omega, by omega, ?_⟩
        refine for_range (lo := 0) (n := rb) (fun n σ H' => ∃ y6 y7 y8, σ = [some (.ref a), some (.int (0 + (i : Int))), some (.ref b), some (.int (2 + r)), some v0, some (.int (0 + (j : Int))), y6, y7, y8, none] ∧ Same H7 H') ⟨y6, y7, y8, rfl, s9⟩ ?_ ?_
        · rintro n σ HA hn' ⟨y6, y7, y8, rfl, sA⟩
          have dA := d7.keep (keepT_same (K := K) sA)
          have ind : Ind t0 rb (0, (n : Int), 0) := ⟨Nat.zero_le _, ⟨by show (0 : Int) ≤ n; omega, by show (n : Int) < rb; omega⟩, by show (0 : Int) ≤ 0; decide, by show (0 : Int) < rb; omega⟩
          obtain ⟨rr, xx, yy, eR⟩ := res_shape t0 rb (0, (n : Int), 0)
          refine ⟨v0, rfl, _, rfl, _, rfl, v0, t0, ["f", "g"], rb, (0, (n : Int), 0), (by rw [Int.zero_add, erb]; rfl), hrb, lt16, ok0, dA, ind, fun vd HB dd sB => ?_⟩
          have dB := dA.keep (keepT_same (K := K) sB)
          refine ⟨v0, rfl, _, rfl, _, rfl, rfl, rfl, v0, t0, ["f", "g"], rb, n, (by rw [Int.zero_add, erb]; rfl), hrb, hn', lt16, ok0, dB, fun vf HC df sC => ?_⟩
          rw [eR] at dd df
          have ddC := dd.keep (keepT_same (K := K) sC)
          refine ⟨_, rfl, vf, rr, xx, yy, rfl, df, fun HD sD => ⟨true, rfl, iteF ?_⟩⟩
          have dfD := df.keep (keepT_same (K := K) sD)
          have ddD := ddC.keep (keepT_same (K := K) sD)
          refine ⟨_, rfl, _, rfl, _, _, dfD.dp, ddD.dp, st_shaped _ _ _, st_shaped _ _ _, _, rfl, ite2 (fun e => ?_) (fun _ => ?_)⟩
          · rw [SeqAt.eqv_refl _ (SeqAt.canLay_of_shaped (st_shaped rr xx yy))] at e
            exact absurd e (by decide)
          refine ⟨_, rfl, _, _, dfD.dp, (muteD HD).dp, st_shaped _ _ _, st_shaped _ _ _, _, rfl, 1, rfl, (by show 3 ≤ sizeLine; decide), fun qt nt => ?_⟩
          have sDt := same_new nt (o := .tup [.int (-1), .int 0, .int 0])
          refine ⟨_, _, (ddD.keep (keepT_same sDt)).dp, (dt_new nt (.cons (.int _) (.cons (.int _) (.cons (.int _) .nil)))).dp, st_shaped _ _ _, st_shaped (-1) 0 0, rfl, _, rfl, ite2 (fun e => ?_) (fun _ => ?_)⟩
          · exact absurd e (by simp [stI])
          have sAll := (sA.trans sB).trans ((sC.trans sD).trans sDt)
          refine ⟨_, rfl, rfl, _, rfl, ite2 (fun e => ?_) (fun _ => ?_)⟩
          · have e3 : 2 + r = 3 := V.int.inj (of_decide_eq_true e)
            have e4 : rb = 3 := by omega
            have sBt := (sC.trans sD).trans sDt
            refine ⟨v0, rfl, _, rfl, v0, t0, ["f", "g"], rb, n, (by rw [Int.zero_add, e4]; rfl), hrb, hn', lt16, ok0, dB.keep (keepT_same sBt), fun vg HE dg sE => ?_⟩
            rw [eR] at dg
            refine ⟨_, rfl, _, _, dg.dp, (ddD.keep (keepT_same (sDt.trans sE))).dp, st_shaped _ _ _, st_shaped _ _ _, _, rfl, ite2 (fun e => ?_) (fun _ => ?_)⟩
            · rw [SeqAt.eqv_refl _ (SeqAt.canLay_of_shaped (st_shaped rr xx yy))] at e
              exact absurd e (by decide)
            · exact ⟨_, _, _, rfl, sAll.trans sE⟩
          · exact ⟨_, _, _, rfl, sAll⟩
        · rintro σ HA ⟨y6, y7, y8, rfl, sA⟩
          exact ⟨_, _, _, _, rfl, sA⟩
      · rintro σ H9 ⟨y5, y6, y7, y8, rfl, s9⟩
        exact ⟨_, _, _, _, _, _, _, _, rfl, s1.trans (S7.trans s9)⟩
    case b1 =>
      obtain ⟨at', xs, rfl, hx, lx, rows⟩ := dt_text d7
      refine ⟨_, rfl, at', rfl, ⟨_, hx⟩, fun D hD => ?_⟩
      refine lc_tup (K := K) (a := at') (xs := xs) (fun i H' => ∃ us, H' D = some (.lst us) ∧ us.length = i ∧ DtAll K H' us (((t0.take i).map quieted).map Rw.d) ∧ Same H7 H') ⟨[], upd_same, rfl, .nil, same_new hD⟩ (fun i H' _ ⟨us, _, _, _, s⟩ => keepT_same s _ _ hx) (fun i x H8 hx8 p => ?_) (fun H8 p => ?_)
      · obtain ⟨us, hu8, lu, du, s8⟩ := p
        have li : i < t0.length := by
          have := (List.getElem?_eq_some_iff.mp hx8).1
          omega
        obtain ⟨row, hrow⟩ : ∃ row, t0[i]? = some row := ⟨t0[i], List.getElem?_eq_getElem li⟩
        obtain ⟨pr, ys, r1', r2', r3'⟩ := rows i row hrow
        have ex : x = .ref pr := by rw [r1'] at hx8; exact (Option.some.inj hx8).symm
        subst ex
        have nxt : ∀ (u : V) (H9 : Hp), Same H7 H9 → H9 D = some (.lst us) → DtAll K H9 us (((t0.take i).map quieted).map Rw.d) → Dt K H9 u (quieted row).d →
            ∃ acc, H9 D = some (.lst acc) ∧ acc.length < sizeLine ∧ ∃ us', (upd H9 D (.lst (acc ++ [u]))) D = some (.lst us') ∧ us'.length = i + 1 ∧ DtAll K (upd H9 D (.lst (acc ++ [u]))) us' (((t0.take (i + 1)).map quieted).map Rw.d) ∧ Same H7 (upd H9 D (.lst (acc ++ [u]))) := fun u H9 s9 h9 d9 du9 => by
          have kp := keepT_put (K := K) (ys := us ++ [u]) h9
          refine ⟨us, h9, small1000 (by omega), us ++ [u], upd_same, by rw [List.length_append, lu]; rfl, ?_, same_put hD s9⟩
          rw [List.take_add_one, hrow, Option.toList_some, List.map_append, List.map_append]
          exact (d9.keep kp).snoc (du9.keep kp)
        refine ⟨rfl, _, rfl, pr, _, 0, .str row.w, rfl, rfl, keepT_same s8 _ _ r2', atI_nat (j := 0) rfl, (by show 3 ≤ sizeLine; decide), fun q3 n3 => ?_⟩
        have s89 := same_new n3 (o := .tup [.str "set", .str "if", .str "go"])
        refine ⟨q3, _, rfl, .inr (SqT.of upd_same), rfl, rfl, _, rfl, ite2 (fun e2 => ?_) (fun e2 => ?_)⟩
        · have e3 : inV (.str row.w) [.str "set", .str "if", .str "go"] = true := e2
          rw [Rw.w_in] at e3
          refine ⟨_, rfl, nxt _ _ (s8.trans s89) (s89 _ _ hu8) (du.keep (keepT_same s89)) ?_⟩
          have eq : quieted row = row := if_pos e3
          rw [eq]
          exact .tup (keepT_same (s8.trans s89) _ _ r2') (.cons (.str _) (r3'.keep (keepT_same (s8.trans s89))))
        · have e3 : ¬ inV (.str row.w) [.str "set", .str "if", .str "go"] = true := e2
          rw [Rw.w_in] at e3
          refine ⟨(by show 3 ≤ sizeLine; decide), fun q4 n4 => ⟨(by show 3 ≤ sizeLine; decide), fun q5 n5 => ?_⟩⟩
          have s9a := same_new n4 (o := .tup [.str "+", .str "y", .int 1])
          have s9b := same_new n5 (o := .tup [.str "set", .str "y", .ref q4])
          have sx := (s8.trans s89).trans (s9a.trans s9b)
          have sy := s89.trans (s9a.trans s9b)
          refine nxt _ _ sx (sy _ _ hu8) (du.keep (keepT_same sy)) ?_
          have eq : quieted row = .set "y" (.t "+" .y (.n 1)) := if_neg e3
          rw [eq]
          exact dt_new n5 (.cons (.str _) (.cons (.str _) (.cons (dt_new n4 (.cons (.str _) (.cons (.str _) (.cons (.int _) .nil)))) .nil)))
      · obtain ⟨us, hu8, lu, du, s8⟩ := p
        refine ⟨D, us, rfl, .inl ⟨SqL.of hu8, fun l nl => ?_⟩⟩
        have dn := dt_new nl du
        rw [lx, List.take_length] at dn
        have S9 : Same H1 (upd H8 l (.tup us)) := S7.trans (s8.trans (same_new nl))
        revert dn S9
        generalize upd H8 l (.tup us) = HQ
        intro dn S9
        have lt16 : (t0.map quieted).length ≤ 16 := by rw [List.length_map]; omega
        have okq := quieted_ok rb2 ok0
        revert dn lt16 okq
        generalize t0.map quieted = tq
        intro dn lt16 okq
        clear rows
        refine ⟨2, rfl, by decide, by decide, ?_⟩
        refine for_range (lo := 0) (n := 2) (fun j σ H' => ∃ y5 y6 y7 y8, σ = [some (.ref a), some (.int (0 + (i : Int))), some (.ref b), some (.int (2 + r)), some (V.ref l), y5, y6, y7, y8, none] ∧ Same HQ H') ⟨y5, y6, y7, y8, rfl, Same.refl HQ⟩ ?_ ?_
        · rintro j σ H9 hj ⟨y5, y6, y7, y8, rfl, s9⟩
          refine ⟨_, rfl, (rb : Int), (by rw [erb]), by omega, by omega, ?_⟩
          refine for_range (lo := 0) (n := rb) (fun n σ H' => ∃ y6 y7 y8, σ = [some (.ref a), some (.int (0 + (i : Int))), some (.ref b), some (.int (2 + r)), some (V.ref l), some (.int (0 + (j : Int))), y6, y7, y8, none] ∧ Same HQ H') ⟨y6, y7, y8, rfl, s9⟩ ?_ ?_
          · rintro n σ HA hn' ⟨y6, y7, y8, rfl, sA⟩
            have dA := dn.keep (keepT_same (K := K) sA)
            have ind : Ind tq rb (0, (n : Int), 0) := ⟨Nat.zero_le _, ⟨by show (0 : Int) ≤ n; omega, by show (n : Int) < rb; omega⟩, by show (0 : Int) ≤ 0; decide, by show (0 : Int) < rb; omega⟩
            obtain ⟨rr, xx, yy, eR⟩ := res_shape tq rb (0, (n : Int), 0)
            refine ⟨(V.ref l), rfl, _, rfl, _, rfl, (V.ref l), tq, ["f", "g"], rb, (0, (n : Int), 0), (by rw [Int.zero_add, erb]; rfl), hrb, lt16, okq, dA, ind, fun vd HB dd sB => ?_⟩
            have dB := dA.keep (keepT_same (K := K) sB)
            refine ⟨(V.ref l), rfl, _, rfl, _, rfl, rfl, rfl, (V.ref l), tq, ["f", "g"], rb, n, (by rw [Int.zero_add, erb]; rfl), hrb, hn', lt16, okq, dB, fun vf HC df sC => ?_⟩
            rw [eR] at dd df
            have ddC := dd.keep (keepT_same (K := K) sC)
            refine ⟨_, rfl, vf, rr, xx, yy, rfl, df, fun HD sD => ⟨true, rfl, iteF ?_⟩⟩
            have dfD := df.keep (keepT_same (K := K) sD)
            have ddD := ddC.keep (keepT_same (K := K) sD)
            refine ⟨_, rfl, _, rfl, _, _, dfD.dp, ddD.dp, st_shaped _ _ _, st_shaped _ _ _, _, rfl, ite2 (fun e => ?_) (fun _ => ?_)⟩
            · rw [SeqAt.eqv_refl _ (SeqAt.canLay_of_shaped (st_shaped rr xx yy))] at e
              exact absurd e (by decide)
            refine ⟨_, rfl, _, _, dfD.dp, (muteD HD).dp, st_shaped _ _ _, st_shaped _ _ _, _, rfl, 1, rfl, (by show 3 ≤ sizeLine; decide), fun qt nt => ?_⟩
            have sDt := same_new nt (o := .tup [.int (-1), .int 0, .int 0])
            refine ⟨_, _, (ddD.keep (keepT_same sDt)).dp, (dt_new nt (.cons (.int _) (.cons (.int _) (.cons (.int _) .nil)))).dp, st_shaped _ _ _, st_shaped (-1) 0 0, rfl, _, rfl, ite2 (fun e => ?_) (fun _ => ?_)⟩
            · exact absurd e (by simp [stI])
            have sAll := (sA.trans sB).trans ((sC.trans sD).trans sDt)
            refine ⟨_, rfl, rfl, _, rfl, ite2 (fun e => ?_) (fun _ => ?_)⟩
            · have e3 : 2 + r = 3 := V.int.inj (of_decide_eq_true e)
              have e4 : rb = 3 := by omega
              have sBt := (sC.trans sD).trans sDt
              refine ⟨(V.ref l), rfl, _, rfl, (V.ref l), tq, ["f", "g"], rb, n, (by rw [Int.zero_add, e4]; rfl), hrb, hn', lt16, okq, dB.keep (keepT_same sBt), fun vg HE dg sE => ?_⟩
              rw [eR] at dg
              refine ⟨_, rfl, _, _, dg.dp, (ddD.keep (keepT_same (sDt.trans sE))).dp, st_shaped _ _ _, st_shaped _ _ _, _, rfl, ite2 (fun e => ?_) (fun _ => ?_)⟩
              · rw [SeqAt.eqv_refl _ (SeqAt.canLay_of_shaped (st_shaped rr xx yy))] at e
                exact absurd e (by decide)
              · exact ⟨_, _, _, rfl, sAll.trans sE⟩
            · exact ⟨_, _, _, rfl, sAll⟩
          · rintro σ HA ⟨y6, y7, y8, rfl, sA⟩
            exact ⟨_, _, _, _, rfl, sA⟩
        · rintro σ H9 ⟨y5, y6, y7, y8, rfl, s9⟩
          exact ⟨_, _, _, _, _, _, _, _, rfl, s1.trans (S9.trans s9)⟩
  · rintro σ H1 ⟨y1, y2, y3, y4, y5, y6, y7, y8, rfl, s1⟩
    refine ⟨.ref pM, -1, 0, 0, rfl, muteD H1, fun H2 s2 => ⟨true, rfl, iteT ?_⟩⟩
    refine ⟨1, rfl, (by show 3 ≤ sizeLine; decide), fun qt nt => ?_⟩
    refine ⟨_, _, (muteD _).dp, (dt_new nt (.cons (.int _) (.cons (.int _) (.cons (.int _) .nil)))).dp, st_shaped _ _ _, st_shaped (-1) 0 0, ?_⟩
    show V.bl (PyData.eqv (stI (-1) 0 0) (stI (-1) 0 0)) = .bl true
    rw [SeqAt.eqv_refl _ (SeqAt.canLay_of_shaped (st_shaped (-1) 0 0))]
end
end Kx

namespace Kx
open PySem PySem.Spec PyProof.Rows L2
theorem all_mk {P : Program} {w : World} {K : PySem.W.Frag} {h : Heap} {mg : Str → Option Value} {fa pM pP0 fB fT fO fE fR fX fV fE2 fI fY fA fZ fD fS fLw fF DF : Addr} (X : K.In h) (G : h.Ns mainGlobals mg) (hfa : mg "law" = some (.ref fa))
    {odB anB odT anT odO anO odE anE odR anR odX anX odV anV odE2 anE2 odI anI odY anY odA anA odZ anZ odD anD odS anS odLw anLw odF anF : Option Addr} {slB slT slO slE slR slX slV slE2 slI slY slA slZ slD slS slLw slF : Array (Option Value)} {ocB kVB dcB pmB cdB ctB ocT kVT dcT pmT cdT ctT ocO kVO dcO pmO cdO ctO ocE kVE dcE pmE cdE ctE ocR kVR dcR pmR cdR ctR ocX kVX dcX pmX cdX ctX ocV kVV dcV pmV cdV ctV ocE2 kVE2 dcE2 pmE2 cdE2 ctE2 ocI kVI dcI pmI cdI ctI ocY kVY dcY pmY cdY ctY ocA kVA dcA pmA cdA ctA ocZ kVZ dcZ pmZ cdZ ctZ ocD kVD dcD pmD cdD ctD ocS kVS dcS pmS cdS ctS ocLw kVLw dcLw pmLw cdLw ctLw ocF dcF pmF cdF ctF uuF : Value} {oM oP0 : Obj} {iM iP0 : Array Value} {nM nP0 : Nat}
    (aB : PySem.W.nsIn K mainGlobals "_law_bag" = some (some (.ref fB))) (lB : K.lookup fB = some ⟨ocB, odB, .func (PySem.W.fnOf "_law_bag" "_law_bag" (defArgs sBag) (defBody sBag) (defScope sBag) .none kVB dcB pmB anB cdB ctB), slB⟩) (cB : PySem.W.codeIn K cdB "_law_bag" = true) (kB : PySem.W.keepIn K (.ref fB) = true)
    (aT : PySem.W.nsIn K mainGlobals "_law_take" = some (some (.ref fT))) (lT : K.lookup fT = some ⟨ocT, odT, .func (PySem.W.fnOf "_law_take" "_law_take" (defArgs sTake) (defBody sTake) (defScope sTake) .none kVT dcT pmT anT cdT ctT), slT⟩) (cT : PySem.W.codeIn K cdT "_law_take" = true) (kT : PySem.W.keepIn K (.ref fT) = true)
    (aO : PySem.W.nsIn K mainGlobals "_law_operand" = some (some (.ref fO))) (lO : K.lookup fO = some ⟨ocO, odO, .func (PySem.W.fnOf "_law_operand" "_law_operand" (defArgs sOpd) (defBody sOpd) (defScope sOpd) .none kVO dcO pmO anO cdO ctO), slO⟩) (cO : PySem.W.codeIn K cdO "_law_operand" = true) (kO : PySem.W.keepIn K (.ref fO) = true)
    (aE : PySem.W.nsIn K mainGlobals "_law_expression" = some (some (.ref fE))) (lE : K.lookup fE = some ⟨ocE, odE, .func (PySem.W.fnOf "_law_expression" "_law_expression" (defArgs sExp) (defBody sExp) (defScope sExp) .none kVE dcE pmE anE cdE ctE), slE⟩) (cE : PySem.W.codeIn K cdE "_law_expression" = true) (kE : PySem.W.keepIn K (.ref fE) = true)
    (aR : PySem.W.nsIn K mainGlobals "_law_row" = some (some (.ref fR))) (lR : K.lookup fR = some ⟨ocR, odR, .func (PySem.W.fnOf "_law_row" "_law_row" (defArgs sRow) (defBody sRow) (defScope sRow) .none kVR dcR pmR anR cdR ctR), slR⟩) (cR : PySem.W.codeIn K cdR "_law_row" = true) (kR : PySem.W.keepIn K (.ref fR) = true)
    (aX : PySem.W.nsIn K mainGlobals "_law_text" = some (some (.ref fX))) (lX : K.lookup fX = some ⟨ocX, odX, .func (PySem.W.fnOf "_law_text" "_law_text" (defArgs sText) (defBody sText) (defScope sText) .none kVX dcX pmX anX cdX ctX), slX⟩) (cX : PySem.W.codeIn K cdX "_law_text" = true) (kX : PySem.W.keepIn K (.ref fX) = true)
    (aV : PySem.W.nsIn K mainGlobals "_law_value" = some (some (.ref fV))) (lV : K.lookup fV = some ⟨ocV, odV, .func (PySem.W.fnOf "_law_value" "_law_value" (defArgs sLval) (defBody sLval) (defScope sLval) .none kVV dcV pmV anV cdV ctV), slV⟩) (cV : PySem.W.codeIn K cdV "_law_value" = true) (kV : PySem.W.keepIn K (.ref fV) = true)
    (aE2 : PySem.W.nsIn K mainGlobals "_law_settled" = some (some (.ref fE2))) (lE2 : K.lookup fE2 = some ⟨ocE2, odE2, .func (PySem.W.fnOf "_law_settled" "_law_settled" (defArgs sLse) (defBody sLse) (defScope sLse) .none kVE2 dcE2 pmE2 anE2 cdE2 ctE2), slE2⟩) (cE2 : PySem.W.codeIn K cdE2 "_law_settled" = true) (kE2 : PySem.W.keepIn K (.ref fE2) = true)
    (aI : PySem.W.nsIn K mainGlobals "_law_is_stand" = some (some (.ref fI))) (lI : K.lookup fI = some ⟨ocI, odI, .func (PySem.W.fnOf "_law_is_stand" "_law_is_stand" (defArgs sLis) (defBody sLis) (defScope sLis) .none kVI dcI pmI anI cdI ctI), slI⟩) (cI : PySem.W.codeIn K cdI "_law_is_stand" = true) (kI : PySem.W.keepIn K (.ref fI) = true)
    (aY : PySem.W.nsIn K mainGlobals "value_of" = some (some (.ref fY))) (lY : K.lookup fY = some ⟨ocY, odY, .func (PySem.W.fnOf "value_of" "value_of" (defArgs sVal) (defBody sVal) (defScope sVal) .none kVY dcY pmY anY cdY ctY), slY⟩) (cY : PySem.W.codeIn K cdY "value_of" = true) (kY : PySem.W.keepIn K (.ref fY) = true)
    (aA : PySem.W.nsIn K mainGlobals "assign" = some (some (.ref fA))) (lA : K.lookup fA = some ⟨ocA, odA, .func (PySem.W.fnOf "assign" "assign" (defArgs sAsg) (defBody sAsg) (defScope sAsg) .none kVA dcA pmA anA cdA ctA), slA⟩) (cA : PySem.W.codeIn K cdA "assign" = true) (kA : PySem.W.keepIn K (.ref fA) = true)
    (aZ : PySem.W.nsIn K mainGlobals "is_silent" = some (some (.ref fZ))) (lZ : K.lookup fZ = some ⟨ocZ, odZ, .func (PySem.W.fnOf "is_silent" "is_silent" (defArgs sSil) (defBody sSil) (defScope sSil) .none kVZ dcZ pmZ anZ cdZ ctZ), slZ⟩) (cZ : PySem.W.codeIn K cdZ "is_silent" = true) (kZ : PySem.W.keepIn K (.ref fZ) = true)
    (aD : PySem.W.nsIn K mainGlobals "do_silent" = some (some (.ref fD))) (lD : K.lookup fD = some ⟨ocD, odD, .func (PySem.W.fnOf "do_silent" "do_silent" (defArgs sDo) (defBody sDo) (defScope sDo) .none kVD dcD pmD anD cdD ctD), slD⟩) (cD : PySem.W.codeIn K cdD "do_silent" = true) (kD : PySem.W.keepIn K (.ref fD) = true)
    (aS : PySem.W.nsIn K mainGlobals "settle" = some (some (.ref fS))) (lS : K.lookup fS = some ⟨ocS, odS, .func (PySem.W.fnOf "settle" "settle" (defArgs sSet) (defBody sSet) (defScope sSet) .none kVS dcS pmS anS cdS ctS), slS⟩) (cS : PySem.W.codeIn K cdS "settle" = true) (kS : PySem.W.keepIn K (.ref fS) = true)
    (aLw : PySem.W.nsIn K mainGlobals "law" = some (some (.ref fLw))) (lLw : K.lookup fLw = some ⟨ocLw, odLw, .func (PySem.W.fnOf "law" "law" (defArgs sLaw) (defBody sLaw) (defScope sLaw) .none kVLw dcLw pmLw anLw cdLw ctLw), slLw⟩) (cLw : PySem.W.codeIn K cdLw "law" = true) (kLw : PySem.W.keepIn K (.ref fLw) = true)
    (aF : PySem.W.nsIn K mainGlobals "first_stand" = some (some (.ref fF))) (lF : K.lookup fF = some ⟨ocF, odF, .func (PySem.W.fnOf "first_stand" "first_stand" (defArgs sFst) (defBody sFst) (defScope sFst) .none (.ref DF) dcF pmF anF cdF ctF), slF⟩) (cF : PySem.W.codeIn K cdF "first_stand" = true) (kF : PySem.W.keepIn K (.ref fF) = true) (vF : PySem.W.nsIn K DF "base" = some (some uuF)) (wF : RelV (.int 3) uuF)
    (aM : PySem.W.nsIn K mainGlobals "MUTE" = some (some (.ref pM))) (lM : K.lookup pM = some oM) (xM : oM.cls = .type "tuple") (yM : oM.data = .seq iM nM) (sM : iM.size ≤ sizeLine) (tM : Vals [.int (-1), .int 0, .int 0] iM.toList)
    (aP0 : PySem.W.nsIn K mainGlobals "SILENT" = some (some (.ref pP0))) (lP0 : K.lookup pP0 = some oP0) (xP0 : oP0.cls = .type "tuple") (yP0 : oP0.data = .seq iP0 nP0) (sP0 : iP0.size ≤ sizeLine) (tP0 : Vals [.str "set", .str "if", .str "go"] iP0.toList)
    (z0 : PySem.W.nsIn K mainGlobals "len" = some none) (z1 : PySem.W.nsIn K mainGlobals "isinstance" = some none) (z2 : PySem.W.nsIn K mainGlobals "int" = some none) (z3 : PySem.W.nsIn K mainGlobals "bool" = some none) (z4 : PySem.W.nsIn K mainGlobals "tuple" = some none) (z5 : PySem.W.nsIn K mainGlobals "str" = some none) (z6 : PySem.W.nsIn K mainGlobals "abs" = some none) (z7 : PySem.W.nsIn K mainGlobals "range" = some none) (z8 : PySem.W.nsIn K mainGlobals "max" = some none) (z9 : PySem.W.nsIn K mainGlobals "min" = some none) (z10 : PySem.W.nsIn K mainGlobals "all" = some none) (z11 : PySem.W.nsIn K mainGlobals "set" = some none)
    {bs : Heap} {H : Hp} {t : Shared} {a : Addr} {ns : List Int} (hn : ns.length ≤ 63) (env0 : Env0 P w K mg bs callerA [] t H) (sq : SqL K H a (ns.map V.int)) :
    codeAny (model P w) callerA (.call (.ref fa) ⟨[.ref a], []⟩) (CR CX0 [] P w H t (fun v _ => v = .bl true) fun _ _ _ => False) t := by
  have e := hfa.symm.trans (PySem.W.mg_of X G aLw)
  cases e
  have FB := fun_mk (st := sBag) lB cB kB
  have FT := fun_mk (st := sTake) lT cT kT
  have FO := fun_mk (st := sOpd) lO cO kO
  have FE := fun_mk (st := sExp) lE cE kE
  have FR := fun_mk (st := sRow) lR cR kR
  have FX := fun_mk (st := sText) lX cX kX
  have FV := fun_mk (st := sLval) lV cV kV
  have FE2 := fun_mk (st := sLse) lE2 cE2 kE2
  have FI := fun_mk (st := sLis) lI cI kI
  have FY := fun_mk (st := sVal) lY cY kY
  have FA := fun_mk (st := sAsg) lA cA kA
  have FZ := fun_mk (st := sSil) lZ cZ kZ
  have FD := fun_mk (st := sDo) lD cD kD
  have FS := fun_mk (st := sSet) lS cS kS
  have FLw := fun_mk (st := sLaw) lLw cLw kLw
  have bB := FB.binds (ps := ["_law_script", "_law_at"]) fun _ _ _ _ _ _ us hl => match us, hl with | [_, _], _ => rfl
  have bT := FT.binds (ps := ["_law_bag_here", "_law_many"]) fun _ _ _ _ _ _ us hl => match us, hl with | [_, _], _ => rfl
  have bO := FO.binds (ps := ["_law_bag_here", "_law_radix"]) fun _ _ _ _ _ _ us hl => match us, hl with | [_, _], _ => rfl
  have bE := FE.binds (ps := ["_law_bag_here", "_law_radix"]) fun _ _ _ _ _ _ us hl => match us, hl with | [_, _], _ => rfl
  have bR := FR.binds (ps := ["_law_bag_here", "_law_radix", "_law_many", "_law_names"]) fun _ _ _ _ _ _ us hl => match us, hl with | [_, _, _, _], _ => rfl
  have bX := FX.binds (ps := ["_law_bag_here", "_law_radix", "_law_most", "_law_names"]) fun _ _ _ _ _ _ us hl => match us, hl with | [_, _, _, _], _ => rfl
  have bV := FV.binds (ps := ["_law_one", "_law_x", "_law_y", "_law_radix"]) fun _ _ _ _ _ _ us hl => match us, hl with | [_, _, _, _], _ => rfl
  have bE2 := FE2.binds (ps := ["_law_rows", "_law_at", "_law_x", "_law_y", "_law_radix"]) fun _ _ _ _ _ _ us hl => match us, hl with | [_, _, _, _, _], _ => rfl
  have bI := FI.binds (ps := ["_law_found"]) fun _ _ _ _ _ _ us hl => match us, hl with | [_], _ => rfl
  have bY := FY.binds (ps := ["expression", "point", "base"]) fun _ _ _ _ _ _ us hl => match us, hl with | [_, _, _], _ => rfl
  have bA := FA.binds (ps := ["variable", "value", "point"]) fun _ _ _ _ _ _ us hl => match us, hl with | [_, _, _], _ => rfl
  have bZ := FZ.binds (ps := ["text", "row"]) fun _ _ _ _ _ _ us hl => match us, hl with | [_, _], _ => rfl
  have bD := FD.binds (ps := ["text", "point", "base"]) fun _ _ _ _ _ _ us hl => match us, hl with | [_, _, _], _ => rfl
  have bS := FS.binds (ps := ["text", "point", "base"]) fun _ _ _ _ _ _ us hl => match us, hl with | [_, _, _], _ => rfl
  have FF : FnD K "first_stand" sFst [("base", .int 3)] fF _ := ⟨⟨ocF, odF, .none, .ref DF, dcF, pmF, anF, cdF, ctF, slF, rfl, lF, cF, .inl ⟨rfl, rfl⟩, .inr ⟨DF, rfl, fun q hq => by rw [List.mem_singleton.mp hq]; exact ⟨uuF, vF, wF⟩⟩⟩, kF⟩
  have T : Bi mg := ⟨(PySem.W.mg_none_of X G z0), (PySem.W.mg_none_of X G z1), (PySem.W.mg_none_of X G z2), (PySem.W.mg_none_of X G z3), (PySem.W.mg_none_of X G z4), (PySem.W.mg_none_of X G z5)⟩
  have U : Ui mg := ⟨(PySem.W.mg_none_of X G z6), (PySem.W.mg_none_of X G z7), (PySem.W.mg_none_of X G z8), (PySem.W.mg_none_of X G z9), (PySem.W.mg_none_of X G z10), (PySem.W.mg_none_of X G z11)⟩
  exact law_run FLw T U (PySem.W.mg_of X G aM) (fun H => .inr ⟨oM, iM, nM, lM, xM, yM, sM, tM⟩) (PySem.W.mg_of X G aP0) (fun H => .inr ⟨oP0, iP0, nP0, lP0, xP0, yP0, sP0, tP0⟩) FB bB (PySem.W.mg_of X G aB) FT bT (PySem.W.mg_of X G aT) FO bO (PySem.W.mg_of X G aO) FE bE (PySem.W.mg_of X G aE) FR bR (PySem.W.mg_of X G aR) FX bX (PySem.W.mg_of X G aX) FV bV (PySem.W.mg_of X G aV) FE2 bE2 (PySem.W.mg_of X G aE2) FI bI (PySem.W.mg_of X G aI) FY bY (PySem.W.mg_of X G aY) FA bA (PySem.W.mg_of X G aA) FZ bZ (PySem.W.mg_of X G aZ) FD bD (PySem.W.mg_of X G aD) FS bS (PySem.W.mg_of X G aS) FF (PySem.W.mg_of X G aF) hn env0 sq
end Kx
open PySem PySem.W PyProof.Rows
set_option maxHeartbeats 0 in
theorem PySem.Challenge.cw_callsover_k05_first_stands_holds : PySem.Challenge.rw_callsover_k05_first_stands.Holds := by
  w_on; o_law; k_head; (case hw => w_witness2)
  k_fill
  refine Kx.walk_at_caller (l := PySem.Challenge.rw_callsover_k05_first_stands) (n := 63) rfl (by decide) rfl (fun w h Y => PySem.W.kIn_of Y) ?F
  case F =>
    intro w mg fa h KX G hmg bs H t a ns hn _ _ env0 sq
    refine' Kx.all_mk KX G hmg ?aB ?lB ?cB ?kB ?aT ?lT ?cT ?kT ?aO ?lO ?cO ?kO ?aE ?lE ?cE ?kE ?aR ?lR ?cR ?kR ?aX ?lX ?cX ?kX ?aV ?lV ?cV ?kV ?aE2 ?lE2 ?cE2 ?kE2 ?aI ?lI ?cI ?kI ?aY ?lY ?cY ?kY ?aA ?lA ?cA ?kA ?aZ ?lZ ?cZ ?kZ ?aD ?lD ?cD ?kD ?aS ?lS ?cS ?kS ?aLw ?lLw ?cLw ?kLw ?aF ?lF ?cF ?kF ?vF ?wF ?aM ?lM ?xM ?yM ?sM ?tM ?aP0 ?lP0 ?xP0 ?yP0 ?sP0 ?tP0 ?z0 ?z1 ?z2 ?z3 ?z4 ?z5 ?z6 ?z7 ?z8 ?z9 ?z10 ?z11 hn env0 sq
    (case aB => k_is); (case lB => k_is); (case cB => k_is); (case kB => k_is); (case aT => k_is); (case lT => k_is); (case cT => k_is); (case kT => k_is); (case aO => k_is); (case lO => k_is); (case cO => k_is); (case kO => k_is); (case aE => k_is); (case lE => k_is); (case cE => k_is); (case kE => k_is); (case aR => k_is); (case lR => k_is); (case cR => k_is); (case kR => k_is); (case aX => k_is); (case lX => k_is); (case cX => k_is); (case kX => k_is); (case aV => k_is); (case lV => k_is); (case cV => k_is); (case kV => k_is); (case aE2 => k_is); (case lE2 => k_is); (case cE2 => k_is); (case kE2 => k_is); (case aI => k_is); (case lI => k_is); (case cI => k_is); (case kI => k_is); (case aY => k_is); (case lY => k_is); (case cY => k_is); (case kY => k_is); (case aA => k_is); (case lA => k_is); (case cA => k_is); (case kA => k_is); (case aZ => k_is); (case lZ => k_is); (case cZ => k_is); (case kZ => k_is); (case aD => k_is); (case lD => k_is); (case cD => k_is); (case kD => k_is); (case aS => k_is); (case lS => k_is); (case cS => k_is); (case kS => k_is); (case aLw => k_is); (case lLw => k_is); (case cLw => k_is); (case kLw => k_is); (case aF => k_is); (case lF => k_is); (case cF => k_is); (case kF => k_is); (case vF => k_is); (case wF => exact ⟨_, rfl⟩); (case aM => k_is); (case lM => k_is); (case xM => rfl); (case yM => rfl); (case sM => decide); (case tM => exact (.cons ⟨_, rfl⟩ (.cons ⟨_, rfl⟩ (.cons ⟨_, rfl⟩ .nil)))); (case aP0 => k_is); (case lP0 => k_is); (case xP0 => rfl); (case yP0 => rfl); (case sP0 => decide); (case tP0 => exact (.cons ⟨_, rfl⟩ (.cons ⟨_, rfl⟩ (.cons ⟨_, rfl⟩ .nil)))); (case z0 => k_is); (case z1 => k_is); (case z2 => k_is); (case z3 => k_is); (case z4 => k_is); (case z5 => k_is); (case z6 => k_is); (case z7 => k_is); (case z8 => k_is); (case z9 => k_is); (case z10 => k_is); (case z11 => k_is)

