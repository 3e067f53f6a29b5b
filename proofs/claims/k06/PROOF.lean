import PyProof.Rows.All
import Wide.All
import OpenK.AllK
import Wide.FinOn
import HandS.ForMost
import HandS.IsInst
import HandS.Defaults
import HandS.RaiseMore
import PySem.Challenge.RW_callsover_k06_deeds_and_branches
set_option Elab.async false
set_option linter.all false
set_option maxRecDepth 100000
set_option maxHeartbeats 8000000
namespace Kx
open PySem PySem.Spec PyProof.Rows L2
/-! what is carried from heap to heap -/
def Bag (H : Hp) (b : Addr) (n : Nat) : Prop := ∃ (d m : Int) (c : Nat), H b = some (.lst [.int d, .int m, .int c]) ∧ 0 ≤ d ∧ 0 ≤ m ∧ m < 2305843009213693951 ∧ c ≤ n
def SameX (b : Addr) (H H' : Hp) : Prop := ∀ a o, a ≠ b → H a = some o → H' a = some o
theorem pM : (0 : Int) < 2305843009213693951 := by decide
theorem pM2 : (0 : Int) < 2305843009213693921 := by decide
theorem SameX.refl (b : Addr) (H : Hp) : SameX b H H := fun _ _ _ e => e
theorem SameX.trans {b : Addr} {H H1 H2 : Hp} (x : SameX b H H1) (y : SameX b H1 H2) : SameX b H H2 := fun a o n e => y a o n (x a o n e)
theorem SameX.new {b p : Addr} {H : Hp} {o : HO} (h : H p = none) : SameX b H (upd H p o) := fun a u _ e => by
  rw [upd_ne (ne_of_none e h)]
  exact e
theorem same_new {p : Addr} {H : Hp} {o : HO} (h : H p = none) : Same H (upd H p o) := fun a u e => by
  rw [upd_ne (ne_of_none e h)]
  exact e
theorem Same.x {b : Addr} {H H' : Hp} (h : Same H H') : SameX b H H' := fun a o _ e => h a o e
/-- after a new thing, then what keeps all but it -/
theorem SameX.behind {p : Addr} {H H1 : Hp} {o : HO} (h : H p = none) (s : SameX p (upd H p o) H1) : Same H H1 := fun a u e =>
  s a u (ne_of_none e h) (by rw [upd_ne (ne_of_none e h)]; exact e)
theorem Bag.mono {H : Hp} {b : Addr} {n m : Nat} (h : Bag H b n) (l : n ≤ m) : Bag H b m :=
  let ⟨d, x, c, e, h1, h2, h3, h4⟩ := h
  ⟨d, x, c, e, h1, h2, h3, Nat.le_trans h4 l⟩
theorem Bag.new {H : Hp} {b p : Addr} {n : Nat} {o : HO} (h : Bag H b n) (hp : H p = none) : Bag (upd H p o) b n := by
  obtain ⟨d, x, c, e, r⟩ := h
  exact ⟨d, x, c, by rw [upd_ne (ne_of_none e hp)]; exact e, r⟩
theorem Bag.same {H H' : Hp} {b : Addr} {n : Nat} (h : Bag H b n) (s : Same H H') : Bag H' b n :=
  let ⟨d, x, c, e, r⟩ := h
  ⟨d, x, c, s _ _ e, r⟩
theorem Bag.ne {H : Hp} {b p : Addr} {n : Nat} (h : Bag H b n) (hp : H p = none) : p ≠ b := fun z => by
  obtain ⟨d, x, c, e, r⟩ := h
  rw [← z, hp] at e
  cases e
theorem Bag.neT {H : Hp} {b p : Addr} {n : Nat} {xs : List V} (h : Bag H b n) (hp : H p = some (.tup xs)) : p ≠ b := fun z => by
  obtain ⟨d, x, c, e, r⟩ := h
  rw [← z, hp] at e
  cases e
theorem Bag.neF {H : Hp} {b p : Addr} {n : Nat} {o : Obj} {u : HO} (h : Bag H b n) (hp : H p = some (.frz o u)) : p ≠ b := fun z => by
  obtain ⟨d, x, c, e, r⟩ := h
  rw [← z, hp] at e
  cases e
theorem SameX.seq {K : PySem.W.Frag} {H H' : Hp} {a b : Addr} {xs : List V} (e : SameX b H H') (n : a ≠ b) (h : SqL K H a xs) : SqL K H' a xs := by
  rcases h with (h | ⟨o, h⟩) | h
  · exact .inl (.inl (e _ _ n h))
  · exact .inl (.inr ⟨o, e _ _ n h⟩)
  · exact .inr h
/-- tuples that can be read stay -/
def KeepT (K : PySem.W.Frag) (H H' : Hp) : Prop := ∀ a xs, SqT K H a xs → SqT K H' a xs
theorem KeepT.refl (K : PySem.W.Frag) (H : Hp) : KeepT K H H := fun _ _ h => h
theorem KeepT.trans {K : PySem.W.Frag} {H H1 H2 : Hp} (x : KeepT K H H1) (y : KeepT K H1 H2) : KeepT K H H2 := fun a xs h => y a xs (x a xs h)
theorem keepT_same {K : PySem.W.Frag} {H H' : Hp} (s : Same H H') : KeepT K H H' := fun a xs h => by
  rcases h with (h | ⟨o, h⟩) | h
  · exact .inl (.inl (s _ _ h))
  · exact .inl (.inr ⟨o, s _ _ h⟩)
  · exact .inr h
theorem keepT_x {K : PySem.W.Frag} {H H' : Hp} {b : Addr} {n : Nat} (B : Bag H b n) (s : SameX b H H') : KeepT K H H' := fun a xs h => by
  rcases h with (h | ⟨o, h⟩) | h
  · exact .inl (.inl (s _ _ (B.neT h) h))
  · exact .inl (.inr ⟨o, s _ _ (B.neF h) h⟩)
  · exact .inr h
/-! data without lists -/
mutual
inductive Dt (K : PySem.W.Frag) (H : Hp) : V → PyData → Prop
  | non : Dt K H .non .none
  | bl (b : Bool) : Dt K H (.bl b) (.bool b)
  | int (i : Int) : Dt K H (.int i) (.int i)
  | str (x : Str) : Dt K H (.str x) (.str x)
  | tup {a : Addr} {xs : List V} {ds : List PyData} : SqT K H a xs → DtAll K H xs ds → Dt K H (.ref a) (.tuple ds)
inductive DtAll (K : PySem.W.Frag) (H : Hp) : List V → List PyData → Prop
  | nil : DtAll K H [] []
  | cons {v : V} {vs : List V} {d : PyData} {ds : List PyData} : Dt K H v d → DtAll K H vs ds → DtAll K H (v :: vs) (d :: ds)
end
mutual
theorem Dt.keep {K : PySem.W.Frag} {H H' : Hp} (s : KeepT K H H') : ∀ {v : V} {d : PyData}, Dt K H v d → Dt K H' v d
  | _, _, .non => .non
  | _, _, .bl b => .bl b
  | _, _, .int i => .int i
  | _, _, .str x => .str x
  | _, _, .tup h q => .tup (s _ _ h) (DtAll.keep s q)
theorem DtAll.keep {K : PySem.W.Frag} {H H' : Hp} (s : KeepT K H H') : ∀ {vs : List V} {ds : List PyData}, DtAll K H vs ds → DtAll K H' vs ds
  | _, _, .nil => .nil
  | _, _, .cons h q => .cons (Dt.keep s h) (DtAll.keep s q)
end
mutual
theorem Dt.dp {K : PySem.W.Frag} {H : Hp} : ∀ {v : V} {d : PyData}, Dt K H v d → Dp K H v d
  | _, _, .non => .non
  | _, _, .bl b => .bl b
  | _, _, .int i => .int i
  | _, _, .str x => .str x
  | _, _, .tup h q => .tup h (DtAll.dp q)
theorem DtAll.dp {K : PySem.W.Frag} {H : Hp} : ∀ {vs : List V} {ds : List PyData}, DtAll K H vs ds → DpAll K H vs ds
  | _, _, .nil => .nil
  | _, _, .cons h q => .cons (Dt.dp h) (DtAll.dp q)
end
theorem DtAll.length {K : PySem.W.Frag} {H : Hp} : ∀ {vs : List V} {ds : List PyData}, DtAll K H vs ds → vs.length = ds.length
  | _, _, .nil => rfl
  | _, _, .cons h q => by rw [List.length_cons, List.length_cons, DtAll.length q]
theorem DtAll.get {K : PySem.W.Frag} {H : Hp} : ∀ {vs : List V} {ds : List PyData}, DtAll K H vs ds → ∀ (i : Nat) {d : PyData}, ds[i]? = some d → ∃ v, vs[i]? = some v ∧ Dt K H v d
  | _, _, .nil, i, _, e => by simp at e
  | _, _, .cons h q, 0, _, e => ⟨_, rfl, (Option.some.inj e) ▸ h⟩
  | _, _, .cons h q, i + 1, _, e => DtAll.get q i e
theorem DtAll.app {K : PySem.W.Frag} {H : Hp} : ∀ {vs us : List V} {ds es : List PyData}, DtAll K H vs ds → DtAll K H us es → DtAll K H (vs ++ us) (ds ++ es)
  | _, _, _, _, .nil, q => q
  | _, _, _, _, .cons h r, q => .cons h (DtAll.app r q)
theorem dt_new {K : PySem.W.Frag} {H : Hp} {p : Addr} {xs : List V} {ds : List PyData} (hp : H p = none) (h : DtAll K H xs ds) : Dt K (upd H p (.tup xs)) (.ref p) (.tuple ds) :=
  .tup (SqT.of upd_same) (DtAll.keep (keepT_same (same_new hp)) h)
/-! texts as the laws make them -/
inductive Op
  | x
  | y
  | n (k : Int)
inductive Ex
  | o (a : Op)
  | t (s : Str) (a b : Op)
inductive Rw
  | set (v : Str) (e : Ex)
  | iff (e f : Ex) (r : Int)
  | go (r : Int)
  | say (e : Ex)
  | ask (v : Str)
  | read (c : Int) (v : Str)
  | write (c : Int) (e : Ex)
  | call (n : Str) (e : Ex) (v : Str)
  | fin (e : Ex)
def Op.d : Op → PyData
  | .x => .str "x"
  | .y => .str "y"
  | .n k => .int k
def Ex.d : Ex → PyData
  | .o a => a.d
  | .t s a b => .tuple [.str s, a.d, b.d]
def Rw.w : Rw → Str
  | .set _ _ => "set"
  | .iff _ _ _ => "if"
  | .go _ => "go"
  | .say _ => "say"
  | .ask _ => "ask"
  | .read _ _ => "read"
  | .write _ _ => "write"
  | .call _ _ _ => "call"
  | .fin _ => "end"
def Rw.rest : Rw → List PyData
  | .set v e => [.str v, e.d]
  | .iff e f r => [e.d, f.d, .int r]
  | .go r => [.int r]
  | .say e => [e.d]
  | .ask v => [.str v]
  | .read c v => [.int c, .str v]
  | .write c e => [.int c, e.d]
  | .call n e v => [.str n, e.d, .str v]
  | .fin e => [e.d]
def Rw.d (r : Rw) : PyData := .tuple (.str r.w :: r.rest)
def Op.ok (b : Int) : Op → Prop
  | .x => True
  | .y => True
  | .n k => 0 ≤ k ∧ k < b
def Ex.ok (b : Int) : Ex → Prop
  | .o a => a.ok b
  | .t s a c => (s = "+" ∨ s = "-" ∨ s = "*") ∧ a.ok b ∧ c.ok b
def vok (v : Str) : Prop := v = "x" ∨ v = "y"
def Rw.ok (b m : Int) (N : List Str) : Rw → Prop
  | .set v e => vok v ∧ e.ok b
  | .iff e f r => e.ok b ∧ f.ok b ∧ 0 ≤ r ∧ r ≤ m
  | .go r => 0 ≤ r ∧ r ≤ m
  | .say e => e.ok b
  | .ask v => vok v
  | .read c v => (c = 0 ∨ c = 1) ∧ vok v
  | .write c e => (c = 0 ∨ c = 1) ∧ e.ok b
  | .call n e v => n ∈ N ∧ e.ok b ∧ vok v
  | .fin e => e.ok b
def Tx.ok (b : Int) (N : List Str) (t : List Rw) : Prop := ∀ r ∈ t, r.ok b t.length N
def Tx.d (t : List Rw) : PyData := .tuple (t.map Rw.d)
/-! texts read off the heap; what is silent -/
def Rw.silent : Rw → Bool
  | .set _ _ => true
  | .iff _ _ _ => true
  | .go _ => true
  | _ => false
def silentAt (t : List Rw) (i : Nat) : Bool := match t[i]? with
  | some r => r.silent
  | none => false
theorem Rw.w_in (r : Rw) : inV (.str r.w) [.str "set", .str "if", .str "go"] = r.silent := by
  cases r
  · exact (by decide +kernel : inV (V.str "set") [.str "set", .str "if", .str "go"] = true)
  · exact (by decide +kernel : inV (V.str "if") [.str "set", .str "if", .str "go"] = true)
  · exact (by decide +kernel : inV (V.str "go") [.str "set", .str "if", .str "go"] = true)
  · exact (by decide +kernel : inV (V.str "say") [.str "set", .str "if", .str "go"] = false)
  · exact (by decide +kernel : inV (V.str "ask") [.str "set", .str "if", .str "go"] = false)
  · exact (by decide +kernel : inV (V.str "read") [.str "set", .str "if", .str "go"] = false)
  · exact (by decide +kernel : inV (V.str "write") [.str "set", .str "if", .str "go"] = false)
  · exact (by decide +kernel : inV (V.str "call") [.str "set", .str "if", .str "go"] = false)
  · exact (by decide +kernel : inV (V.str "end") [.str "set", .str "if", .str "go"] = false)
theorem dt_tuple {K : PySem.W.Frag} {H : Hp} {v : V} {ds : List PyData} (h : Dt K H v (.tuple ds)) : ∃ a xs, v = .ref a ∧ SqT K H a xs ∧ DtAll K H xs ds := by
  cases h with
  | tup h q => exact ⟨_, _, rfl, h, q⟩
theorem dt_row {K : PySem.W.Frag} {H : Hp} {v : V} {r : Rw} (h : Dt K H v r.d) : ∃ a xs, v = .ref a ∧ SqT K H a (.str r.w :: xs) ∧ DtAll K H xs r.rest := by
  obtain ⟨a, xs, rfl, hs, hd⟩ := dt_tuple h
  cases hd with
  | cons h1 h2 =>
    cases h1
    exact ⟨a, _, rfl, hs, h2⟩
/-- a text's row at a place -/
theorem dt_text {K : PySem.W.Frag} {H : Hp} {v : V} {t : List Rw} (h : Dt K H v (Tx.d t)) : ∃ a xs, v = .ref a ∧ SqT K H a xs ∧ xs.length = t.length ∧ ∀ (i : Nat) (r : Rw), t[i]? = some r → ∃ p ys, xs[i]? = some (.ref p) ∧ SqT K H p (.str r.w :: ys) ∧ DtAll K H ys r.rest := by
  obtain ⟨a, xs, rfl, hs, hd⟩ := dt_tuple h
  refine ⟨a, xs, rfl, hs, by rw [hd.length, List.length_map], fun i r e => ?_⟩
  obtain ⟨v, e1, e2⟩ := hd.get i (d := r.d) (by rw [List.getElem?_map, e]; rfl)
  obtain ⟨p, ys, rfl, h1, h2⟩ := dt_row e2
  exact ⟨p, ys, e1, h1, h2⟩
end Kx

namespace Kx
open PySem PySem.Spec PyProof.Rows L2
def stD (r x y : Nat) : PyData := .tuple [.int r, .int x, .int y]
def line (b r x : Nat) (n : Nat) : List PyData := (List.range n).map fun y => stD r x y
def blk (b r : Nat) (n : Nat) : List PyData := (List.range n).flatMap fun x => line b r x b
def flat (b r : Nat) (n : Nat) : List PyData := (List.range n).map fun k => stD r (k / b) (k % b)
def loud (t : List Rw) (n : Nat) : List Nat := (List.range n).filter fun i => !silentAt t i
def stands (t : List Rw) (b : Nat) (n : Nat) : List PyData := (loud t n).flatMap fun r => blk b r b
theorem blk_flat {b : Nat} (h : b = 2 ∨ b = 3 ∨ b = 4) (r : Nat) : blk b r b = flat b r (b * b) := by
  rcases h with rfl | rfl | rfl <;> rfl
theorem line_succ (b r x n : Nat) : line b r x (n + 1) = line b r x n ++ [stD r x n] := by
  unfold line
  rw [List.range_succ, List.map_append]
  rfl
theorem blk_succ (b r n : Nat) : blk b r (n + 1) = blk b r n ++ line b r n b := by
  unfold blk
  rw [List.range_succ, List.flatMap_append]
  simp
theorem flat_succ (b r n : Nat) : flat b r (n + 1) = flat b r n ++ [stD r (n / b) (n % b)] := by
  unfold flat
  rw [List.range_succ, List.map_append]
  rfl
theorem loud_succ (t : List Rw) (n : Nat) : loud t (n + 1) = if silentAt t n = true then loud t n else loud t n ++ [n] := by
  unfold loud
  rw [List.range_succ, List.filter_append]
  cases h : silentAt t n <;> simp [h]
theorem stands_succ (t : List Rw) (b n : Nat) : stands t b (n + 1) = if silentAt t n = true then stands t b n else stands t b n ++ blk b n b := by
  unfold stands
  rw [loud_succ]
  split
  · rfl
  · rw [List.flatMap_append]
    simp
theorem blk_len {b : Nat} (h : b = 2 ∨ b = 3 ∨ b = 4) (r : Nat) : (blk b r b).length = b * b := by
  rw [blk_flat h]
  unfold flat
  rw [List.length_map, List.length_range]
theorem stands_len {b : Nat} (h : b = 2 ∨ b = 3 ∨ b = 4) (t : List Rw) : ∀ n, (stands t b n).length ≤ 16 * n
  | 0 => Nat.zero_le _
  | n + 1 => by
    have ih := stands_len h t n
    rw [stands_succ]
    split
    · omega
    · rw [List.length_append, blk_len h]
      rcases h with rfl | rfl | rfl <;> omega
/-- a list that grows at D keeps the tuples -/
theorem keepT_put {K : PySem.W.Frag} {H : Hp} {D : Addr} {xs ys : List V} (h : H D = some (.lst xs)) : KeepT K H (upd H D (.lst ys)) := fun a zs q => by
  rcases q with (q | ⟨o, q⟩) | q
  · exact .inl (.inl (by rw [upd_ne (show a ≠ D from ne_of q h (by intro z; cases z))]; exact q))
  · exact .inl (.inr ⟨o, by rw [upd_ne (show a ≠ D from ne_of q h (by intro z; cases z))]; exact q⟩)
  · exact .inr q
/-- what stood ahead of D stands while D grows -/
theorem same_put {H H1 : Hp} {D : Addr} {o : HO} (h : H D = none) (s : Same H H1) : Same H (upd H1 D o) := fun a u e => by
  rw [upd_ne (ne_of_none e h)]
  exact s a u e
theorem DtAll.snoc {K : PySem.W.Frag} {H : Hp} {vs : List V} {ds : List PyData} {v : V} {d : PyData} (h : DtAll K H vs ds) (q : Dt K H v d) : DtAll K H (vs ++ [v]) (ds ++ [d]) := h.app (.cons q .nil)
end Kx

namespace Kx
open PySem PySem.Spec PyProof.Rows L2
/-! repr of data of any depth, where no repr is under way -/
def rRepr (K : PySem.W.Frag) : List V → Hp → VK → Prop := fun xs H Q => ∃ (a : Addr) (d : PyData), xs = [.ref a] ∧ Dp K H (.ref a) d ∧ d.showable = true ∧ d.hasDict = false ∧ d.depth ≤ 60 ∧ d.shown.length ≤ sizeLine ∧ Q (.str d.shown) H
theorem cr_repr {X : Cx} (hg : X.A.guards = some []) (hu : X.A.units + 64 < cLine) : CallR X (.builtin "repr") (rRepr X.K) := by
  intro pins s σ H xs us Q I r h
  obtain ⟨a, d, rfl, hd, sh, nd, dep, sz, q⟩ := h
  obtain ⟨u, rfl, ru⟩ := vals1 r
  cases ru
  obtain ⟨as, rd⟩ := Dp.reads I d _ _ hd rfl
  exact repr_of_reads' (h₀ := s.heap) rd sh (PyData.noDict_hsm nd) hg (by omega) (fun _ _ e => e) (fun h' u tk hk => ⟨.str d.shown, H, I.kept hk, ⟨u, rfl⟩, q⟩) sz
end Kx

namespace Kx
open PySem PySem.Spec PyProof.Rows L2
section
variable {P : Program} {w : World} {K : PySem.W.Frag} {mg : Str → Option Value}
/-- a def's body, walked where one stands as the caller of a law stands: no repr is under way there -/
theorem run_at {bs : Heap} {k : Nat} {f : Addr} {nam qual : Str} {params : Arguments} {body : List Stmt} {scope : Scope} {dV kV doc pm cdv ct oc : Value} {an od : Option Addr} {osl : Array (Option Value)} {N ps : List Str} {A : Around} {outer : List Env} {s : Shared} {H : Hp} {args : Args} {us : List Value} {vs : List V} {Q : VK} {E : XK}
    (lk : K.lookup f = some ⟨oc, od, .func (PySem.W.fnOf nam qual params body scope dV kV doc pm an cdv ct), osl⟩)
    (hcd : PySem.W.codeIn K cdv qual = true) (S : FnScope N ps scope) (hl : vs.length = ps.length) (room : Room (k + 1) A) (env0 : Env0 P w K mg bs A outer s H)
    (bind : BindsTo s (PySem.W.fnOf nam qual params body scope dV kV doc pm an cdv ct) args (ps.zip us)) (rv : Vals vs us)
    (walk : Room k (A.deeper (envOfC qual scope s.heap.objs.size f cdv)) → ∃ t, PSs (cxOf CX0 P w K mg bs N qual scope f cdv A outer s H E) body t ∧ t { nx := fun _ H' => Q .non H', rt := Q } (start N vs) H) :
    codeAny (model P w) A (.call (.ref f) args) (CR CX0 outer P w H s Q E) s := by
  have keep := fun b o (e : bs.get? b = some o) => (env0.bs b o e).1
  have inK : K.In s.heap := env0.mod.kin.keeps keep
  have noL : s.heap.NoLimit := env0.mod.nolimit.keeps keep
  refine codeAny_call_function room.depth (inK _ _ lk) rfl S.co S.gen rfl (PySem.W.codeRec_of inK hcd) (bind _ _ _ _ ?_)
  refine wpAny_newFunctionEnv_cells S.kind (fun p hp => ?_) fun env same s1 made => ?_
  · rcases S.par p.1 (List.of_mem_zip (a := p.1) (b := p.2) hp).1 with z | z
    · exact .inl z
    · exact .inr ⟨z, PySem.W.cellsFrom_some _ _ _ (.inl z)⟩
  subst same
  refine ⟨noL.keeps made.toInCall.keep, codeAny_func ?_⟩
  obtain ⟨t, dv, rd⟩ := walk (room.deeper _)
  have J := inv_start (CX := CX0) (E := E) S room.hd env0 hl rv made
  refine wpAny_mono (dv.run [] s1 (start N vs) H _ J rd) (fun fl s2 out => ?_) fun _ _ z => z
  cases fl with
  | ret u =>
    obtain ⟨v, σ2, H2, J2, r2, q2⟩ := out
    exact ⟨v, H2, J2.os, J2.bare, J2.base, J2.hok, r2, q2⟩
  | next =>
    obtain ⟨σ2, H2, J2, q2⟩ := out
    exact ⟨.non, H2, J2.os, J2.bare, J2.base, J2.hok, rfl, q2⟩
  | brk =>
    obtain ⟨_, _, _, z⟩ := out
    exact z.elim
  | cont =>
    obtain ⟨_, _, _, z⟩ := out
    exact z.elim
/-- the law's call at the head, from its run alone -/
theorem law_at {mb : Str → Option Value} {fa a : Addr} {t : Shared} {vs : List Value} {ns : List Int}
    (inK : K.In t.heap) (gl : t.heap.Ns mainGlobals mg) (bl : t.heap.Ns builtinsNs mb) (bb : ∀ x : Str, x ≠ "__name__" → mb x = bootBuiltins x) (noL : t.heap.NoLimit) (gn : t.gens = #[])
    (ha : t.heap.get? a = some { cls := .type "list", data := .seq vs.toArray }) (areI : IntsAre vs ns) (few : ns.length ≤ sizeLine)
    (run : ∀ (bs : Heap) (H : Hp), K.In bs → bs.Ns mainGlobals mg → Env0 P w K mg bs callerA [] t H → SqL K H a (ns.map V.int) →
      codeAny (model P w) callerA (.call (.ref fa) ⟨[.ref a], []⟩) (CR CX0 [] P w H t (fun v _ => v = .bl true) fun _ _ _ => False) t) :
    codeAny (model P w) callerA (.call (.ref fa) ⟨[.ref a], []⟩) (fun r s' => r = .ok (.ret (.bool true)) ∧ OldK t.heap s'.heap ∧ s'.os = t.os ∧ AllBare s'.gens) t := by
  have rv := vals_ints areI
  have go : ∀ H : Hp, Only H → SqL K H a (ns.map V.int) → HOk P w H t.heap → (∀ b, H b ≠ none → b = a) → (H a ≠ none → K.lookup a = none) →
      codeAny (model P w) callerA (.call (.ref fa) ⟨[.ref a], []⟩) (fun r s' => r = .ok (.ret (.bool true)) ∧ OldK t.heap s'.heap ∧ s'.os = t.os ∧ AllBare s'.gens) t := by
    intro H only sq hok onlyA notK
    have dictFree : ∀ {b : Addr} {o : Obj} {es : Array DictEntry} {ep : Nat}, t.heap.get? b = some o → o.data = .dict es ep → H b = none := by
      intro b o es ep e d
      refine Classical.byContradiction fun z => ?_
      obtain rfl := onlyA b z
      rw [ha] at e
      cases e
      exact Data.noConfusion d
    have ns' : ∀ {b : Addr} {m : Str → Option Value}, t.heap.Ns b m → (hidT t.heap H).Ns b m := by
      rintro b m ⟨o, es, ep, e, d, r⟩
      exact ⟨o, es, ep, hidT_get e (dictFree e d), d, r⟩
    have inB : K.In (hidT t.heap H) := by
      intro b o e
      refine hidT_get (inK b o e) (Classical.byContradiction fun z => ?_)
      obtain rfl := onlyA b z
      rw [notK z] at e
      cases e
    have md : Mod K mg (hidT t.heap H) := ⟨inB, ns' gl, ⟨mb, ns' bl, bb⟩, by obtain ⟨mc, z1, z2⟩ := noL; exact ⟨mc, ns' z1, z2⟩⟩
    have env0 : Env0 P w K mg (hidT t.heap H) callerA [] t H :=
      ⟨rfl, md, fun b o e => of_hidT e, Nat.le_of_eq (hidT_size _ _), trivial, fun b hb => absurd (show b ∈ ([] : List Addr) from hb) (by simp), hok, .of_eq gn⟩
    refine codeAny_mono (run _ H inB (ns' gl) env0 sq) fun r s2 out => ?_
    match r, out with
    | .error e, out => exact False.elim out
    | .ok .next, out => exact False.elim out
    | .ok .brk, out => exact False.elim out
    | .ok .cont, out => exact False.elim out
    | .ok (.ret u), ⟨v, H2, os, bare, un, hok2, r2, q2⟩ =>
      have q3 : v = .bl true := q2
      subst q3
      have r3 : u = Value.bool true := r2
      subst r3
      refine ⟨rfl, OldK.of_keep fun b o e => ?_, os, bare⟩
      rcases only b with z | ⟨ob, xs, z⟩
      · exact un.keep b o e z (by intro y; exact absurd (show b ∈ ([] : List Addr) from y) (by simp)) (by simp)
      · have one := (hok b _ z).1
        have two := (hok2 b _ (un.frzs b ob _ z)).1
        rw [e] at one
        cases one
        exact two
  cases look : K.lookup a with
  | some o =>
    have e := inK a o look
    rw [ha] at e
    cases e
    exact go (fun _ => none) (fun b => .inl rfl) (.inr ⟨_, vs.toArray, _, look, rfl, rfl, rfl, by rw [List.size_toArray, areI.length]; exact few, by simpa using rv⟩) (fun b u z => by have y : (none : Option HO) = some u := z; cases y) (fun b z => absurd rfl z) (fun z => absurd rfl z)
  | none =>
    have at_a : ∀ b, (fun c => if c = a then some (HO.frz { cls := .type "list", data := .seq vs.toArray } (.lst (ns.map V.int))) else none : Hp) b = if b = a then some (HO.frz { cls := .type "list", data := .seq vs.toArray } (.lst (ns.map V.int))) else none := fun _ => rfl
    refine go (fun c => if c = a then some (HO.frz { cls := .type "list", data := .seq vs.toArray } (.lst (ns.map V.int))) else none) (fun b => ?_) (.inl (.inr ⟨{ cls := .type "list", data := .seq vs.toArray }, (at_a a).trans (if_pos rfl)⟩)) (fun b u z => ?_) (fun b z => ?_) (fun _ => look)
    · by_cases hb : b = a
      · exact .inr ⟨_, _, if_pos hb⟩
      · exact .inl (if_neg hb)
    · rw [at_a] at z
      by_cases hb : b = a
      · rw [if_pos hb] at z
        cases z
        subst hb
        exact ⟨ha, by rw [List.length_map]; exact few, vs, _, rv, ha⟩
      · rw [if_neg hb] at z
        cases z
    · by_cases hb : b = a
      · exact hb
      · exact absurd (if_neg hb) z
end
/-- the end of a law row: what k_head leaves, from the law's walk at its caller -/
theorem walk_at_caller {l : PySem.W.OpenLaw} {n : Nat} {q : Program} {loose : List Str} {XP : (Str → Option Value) → Heap → Prop} {YP : World → Heap → Prop} {d : DefRec} {K : Params → PySem.W.Frag}
    (hn : l.most = some n) (hn2 : n ≤ sizeLine) (hdf : d.params.defaults = [])
    (hY : ∀ (w : World) (h : Heap), YP w h → (K w.params).In h)
    (F : ∀ (w : World) (mg : Str → Option Value) (fa : Addr) (h : Heap), (K w.params).In h → h.Ns mainGlobals mg → mg d.name = some (.ref fa) →
      ∀ (bs : Heap) (H : Hp) (t : Shared) (a : Addr) (ns : List Int), ns.length ≤ n → (K w.params).In bs → bs.Ns mainGlobals mg → Env0 l.prog w (K w.params) mg bs callerA [] t H → SqL (K w.params) H a (ns.map V.int) →
        codeAny (model l.prog w) callerA (.call (.ref fa) ⟨[.ref a], []⟩) (CR CX0 [] l.prog w H t (fun v _ => v = .bl true) fun _ _ _ => False) t) :
    PySem.W.WalkO q loose XP YP l.row.toRowW d [] (fun f vs => PySem.call f vs) := by
  refine Att.attach_call hn hdf fun w s₀ t mg mb fa o pm cd doc a vs ns G Y ho hd hcd hmg hobj hints hlen hg => ?_
  exact law_at (hY w _ Y) G.T.g G.T.b G.T.builtins G.T.nolimit hg hobj hints (Nat.le_trans hlen hn2) fun bs H inB gl env0 sq => F w mg fa _ (hY w _ Y) G.T.g hmg bs H t a ns hlen inB gl env0 sq
end Kx

namespace Kx
open PySem PySem.Spec PyProof.Rows L2
def topS (i : Nat) : Stmt := PySem.Challenge.pw_callsover_k06_deeds_and_branches.main.body.getD i (.Pass ⟨0, 0, 0, 0⟩)
abbrev sBag : Stmt := topS 18
abbrev sTake : Stmt := topS 19
abbrev sOpd : Stmt := topS 21
abbrev sExp : Stmt := topS 22
abbrev sRow : Stmt := topS 23
abbrev sText : Stmt := topS 24
theorem scBag : FnScope ["_law_script", "_law_at", "_law_cell", "_law_digits"] ["_law_script", "_law_at"] (defScope sBag) := ⟨rfl, rfl, rfl, by decide +kernel, rfl, by decide +kernel, by decide +kernel⟩
theorem scTake : FnScope ["_law_bag_here", "_law_many", "_law_digit", "_law_mixed"] ["_law_bag_here", "_law_many"] (defScope sTake) := ⟨rfl, rfl, rfl, by decide +kernel, rfl, by decide +kernel, by decide +kernel⟩
theorem scOpd : FnScope ["_law_bag_here", "_law_radix", "_law_number"] ["_law_bag_here", "_law_radix"] (defScope sOpd) := ⟨rfl, rfl, rfl, by decide +kernel, rfl, by decide +kernel, by decide +kernel⟩
theorem scExp : FnScope ["_law_bag_here", "_law_radix", "_law_left", "_law_right", "_law_sign"] ["_law_bag_here", "_law_radix"] (defScope sExp) := ⟨rfl, rfl, rfl, by decide +kernel, rfl, by decide +kernel, by decide +kernel⟩
section
variable {P : Program} {w : World} {K : PySem.W.Frag} {mg : Str → Option Value} {base : Heap}
def spBag (K : PySem.W.Frag) : Sp := fun vs H Q _ => ∃ (a : Addr) (ns : List Int) (i : Nat), vs = [.ref a, .int i] ∧ SqL K H a (ns.map V.int) ∧ i ≤ 1000 ∧ ∀ p H', H p = none → Bag H' p 0 → Same H H' → Q (.ref p) H'
theorem ok_bag {f : Addr} {fd : FuncData} {k : Nat} (F : Fun K "_law_bag" "_law_bag" sBag f fd) (ml : mg "len" = none) (ma : mg "abs" = none) : FnOk P w K mg base CX0 (k + 1) f fd ["_law_script", "_law_at"] (spBag K) := by
  refine F.ok scBag (fun vs H Q E h => ?_) (fun cdv A outer s H vs Q E hr h => ?_)
  · obtain ⟨a, ns, i, rfl, _⟩ := h
    rfl
  · obtain ⟨a, ns, i, rfl, hS, hi, q⟩ := h
    refine ⟨_, pss_cons (ps_set (i := 2) scBag.nd rfl (.inl rfl) (pe_ifExp (pt_cmpR op_lt (pv 1) (pe_callB call_len_seq (by rfl) ml PySem.boot_len (pa_cons (pv 0) pa_nil)) (nomark _)) (pe_ix ix_list (pv 0) (pv 1) (fun _ _ => rfl)) pe_int))
      (pss_cons (ps_set (i := 3) scBag.nd rfl (.inl rfl) (pe_ifExp (pt_cmpR op_ge (pe_callB call_abs (by rfl) ma (by decide +kernel) (pa_cons (pv 2) pa_nil)) (pe_op op_pow pe_int pe_int) (nomark _)) (pe_callB call_abs (by rfl) ma (by decide +kernel) (pa_cons (pv 2) pa_nil)) pe_int))
      (pss_one (ps_ret (pe_lst (pa_cons (pv 3) (pa_cons (pe_op op_mod (pe_op op_mul (pe_op op_add (pe_op op_add (pe_op op_mod (pv 2) pe_int) (pe_op op_mul pe_int (pv 1))) pe_int) pe_int) pe_int) (pa_cons pe_int pa_nil))))))), ?_⟩
    have fin : ∀ (c d : Int), 0 ≤ d → ∀ p, H p = none → Q (.ref p) (upd H p (.lst [.int d, .int ((c % 2305843009213693951 + 7919 * (i : Int) + 3) * 6700417 % 2305843009213693951), .int 0])) := fun c d hd p hp =>
      q p _ hp ⟨d, _, 0, upd_same, hd, Int.emod_nonneg _ (by decide), Int.emod_lt_of_pos _ (by decide), Nat.le_refl _⟩ (fun b o e => by rw [upd_ne (ne_of_none e hp)]; exact e)
    refine (fun (mid : ∀ c : Int, (?T : Int → Prop) c) => ?main) ?midp
    case main =>
      refine ⟨.int i, rfl, .ref a, rfl, a, _, rfl, .inl hS, _, _, rfl, rfl, _, rfl, ite2 (fun e => ?_) (fun e => ?_)⟩
      · have h1 : i < ns.length := by
          have := of_decide_eq_true e
          rw [List.length_map] at this
          omega
        refine ⟨.ref a, rfl, .int i, rfl, a, _, i, .int ns[i], rfl, rfl, hS, atI_nat (by rw [List.getElem?_map, List.getElem?_eq_getElem h1]; rfl), ?_⟩
        generalize ns[i] = c
        exact mid c
      · exact mid 0
    case midp =>
      intro c
      refine (fun (last : ∀ d : Int, 0 ≤ d → (?T2 : Int → Prop) d) => ?main) ?midp
      case main =>
        refine ⟨.int c, rfl, c, rfl, 10, 18, rfl, rfl, ⟨by decide, by decide, by decide⟩, _, _, rfl, rfl, _, rfl, ite2 (fun e => ⟨.int c, rfl, c, rfl, ?_⟩) (fun e => ?_)⟩
        · have hd : 0 ≤ (if c < 0 then -c else c) := by split <;> omega
          revert hd
          generalize (if c < 0 then -c else c) = d
          intro hd
          exact last d hd
        · exact last 0 (by decide)
      case midp =>
        intro d hd
        exact ⟨.int d, rfl, .int c, rfl, c, 2305843009213693951, rfl, rfl, pM, .int i, rfl, 7919, i, rfl, rfl, .inl ⟨by decide, by decide⟩, _, _, rfl, rfl, _, _, rfl, rfl, _, 6700417, rfl, rfl, .inr ⟨by decide, by decide⟩, _, _, rfl, rfl, pM, (by show 3 ≤ sizeLine; decide), fun p hp => fin c d hd p hp⟩
def spTake : Sp := fun vs H Q _ => ∃ (b : Addr) (n : Nat) (m : Int), vs = [.ref b, .int m] ∧ Bag H b n ∧ n ≤ 1000000 ∧ 1 ≤ m ∧ m ≤ 1000 ∧ ∀ (r : Int) H', 0 ≤ r → r < m → Bag H' b (n + 1) → SameX b H H' → Q (.int r) H'
theorem ok_take {f : Addr} {fd : FuncData} {k : Nat} (F : Fun K "_law_take" "_law_take" sTake f fd) : FnOk P w K mg base CX0 (k + 1) f fd ["_law_bag_here", "_law_many"] spTake := by
  refine F.ok scTake (fun vs H Q E h => ?_) (fun cdv A outer s H vs Q E hr h => ?_)
  · obtain ⟨b, n, m, rfl, _⟩ := h
    rfl
  · obtain ⟨b, n, m, rfl, ⟨d, x, c, hb, hd, hx, hx2, hc⟩, hn, hm, hm2, q⟩ := h
    refine ⟨_, pss_cons (ps_if (pt_cmpR op_gt (pe_ix ix_list (pv 0) pe_int (fun _ _ => rfl)) pe_int (nomark _))
        (pss_cons (ps_set (i := 2) scTake.nd rfl (.inl rfl) (pe_op op_mod (pe_ix ix_list (pv 0) pe_int (fun _ _ => rfl)) (pv 1)))
        (pss_cons (ps_asg (pe_op op_fdiv (pe_ix ix_list (pv 0) pe_int (fun _ _ => rfl)) (pv 1)) (pg_sub (pv 0) pe_int set_list))
        (pss_one (ps_ret (pv 2))))) pss_nil)
      (pss_cons (ps_asg (pe_op op_add (pe_ix ix_list (pv 0) pe_int (fun _ _ => rfl)) pe_int) (pg_sub (pv 0) pe_int set_list))
      (pss_cons (ps_set (i := 3) scTake.nd rfl (.inl rfl) (pe_op op_mod (pe_op op_pow (pe_op op_add (pe_ix ix_list (pv 0) pe_int (fun _ _ => rfl)) (pe_op op_mul pe_int (pe_ix ix_list (pv 0) pe_int (fun _ _ => rfl)))) pe_int) pe_int))
      (pss_cons (ps_set (i := 3) scTake.nd rfl (.inl rfl) (pe_op op_mod (pe_op op_pow (pe_op op_add (pv 3) (pe_op op_mul pe_int (pe_ix ix_list (pv 0) pe_int (fun _ _ => rfl)))) pe_int) pe_int))
      (pss_one (ps_ret (pe_op op_mod (pe_op op_fdiv (pv 3) pe_int) (pv 1))))))), ?_⟩
    have hL : SqL K H b [.int d, .int x, .int c] := SqL.of hb
    refine ⟨.ref b, rfl, b, _, 0, .int d, rfl, rfl, hL, atI_nat (j := 0) rfl, d, 0, rfl, rfl, _, rfl, ite2 (fun e => ?_) (fun e => ?_)⟩
    · have hd0 : 0 < d := of_decide_eq_true e
      refine ⟨.ref b, rfl, b, _, 0, .int d, rfl, rfl, hL, atI_nat (j := 0) rfl, .int m, rfl, d, m, rfl, rfl, (by show 0 < m; omega), ?_⟩
      refine ⟨.ref b, rfl, b, _, 0, .int d, rfl, rfl, hL, atI_nat (j := 0) rfl, .int m, rfl, d, m, rfl, rfl, ⟨by omega, by omega⟩, ?_⟩
      refine ⟨.ref b, rfl, b, _, 0, 0, rfl, rfl, hb, rfl, ?_⟩
      refine ⟨_, rfl, q (d % m) _ (Int.emod_nonneg _ (by omega)) (Int.emod_lt_of_pos _ (by omega)) ⟨d / m, x, c, upd_same, Int.ediv_nonneg hd (by omega), hx, hx2, by omega⟩ (fun a o ne e => by rw [upd_ne ne]; exact e)⟩
    · refine ⟨.ref b, rfl, b, _, 2, .int c, rfl, rfl, hL, atI_nat (j := 2) rfl, c, 1, rfl, rfl, ?_⟩
      refine ⟨.ref b, rfl, b, _, 2, 2, rfl, rfl, hb, rfl, ?_⟩
      have hL2 : SqL K (upd H b (.lst [.int d, .int x, .int (c + 1)])) b [.int d, .int x, .int (c + 1)] := SqL.of upd_same
      refine ⟨.ref b, rfl, b, _, 1, .int x, rfl, rfl, hL2, atI_nat (j := 1) rfl, .ref b, rfl, b, _, 2, .int (c + 1), rfl, rfl, hL2, atI_nat (j := 2) rfl, 1000003, _, rfl, rfl, .inl ⟨by decide, by decide⟩, _, _, rfl, rfl, _, 3, rfl, rfl, ⟨by decide, by decide, ?_⟩, _, 2305843009213693921, rfl, rfl, pM2, ?_⟩
      · omega
      refine ⟨_, rfl, .ref b, rfl, b, _, 2, .int (c + 1), rfl, rfl, hL2, atI_nat (j := 2) rfl, 15485863, _, rfl, rfl, .inl ⟨by decide, by decide⟩, _, _, rfl, rfl, _, 2, rfl, rfl, ⟨by decide, by decide, ?_⟩, _, 2305843009213693951, rfl, rfl, pM, ?_⟩
      · show Int.natAbs ((x + 1000003 * ((c : Int) + 1)) ^ Int.toNat 3 % 2305843009213693921 + 15485863 * ((c : Int) + 1)) < 2 ^ 64
        generalize e1 : (x + 1000003 * ((c : Int) + 1)) ^ Int.toNat 3 % 2305843009213693921 = y
        have y0 : 0 ≤ y := e1 ▸ Int.emod_nonneg _ (by decide)
        have y1 : y < 2305843009213693921 := e1 ▸ Int.emod_lt_of_pos _ (by decide)
        omega
      refine ⟨_, rfl, _, 1024, rfl, rfl, ⟨by decide, by decide⟩, .int m, rfl, _, m, rfl, rfl, (by show 0 < m; omega), ?_⟩
      exact q _ _ (Int.emod_nonneg _ (by omega)) (Int.emod_lt_of_pos _ (by omega)) ⟨d, x, c + 1, upd_same, hd, hx, hx2, by omega⟩ (fun a o ne e => by rw [upd_ne ne]; exact e)
def spOpd (K : PySem.W.Frag) : Sp := fun vs H Q _ => ∃ (b : Addr) (n : Nat) (m : Int), vs = [.ref b, .int m] ∧ Bag H b n ∧ n ≤ 900000 ∧ 1 ≤ m ∧ m ≤ 1000 ∧ ∀ (v : V) (o : Op) H', o.ok m → Dt K H' v o.d → Bag H' b (n + 2) → SameX b H H' → Q v H'
theorem ok_opd {f fT : Addr} {fd fdT : FuncData} {k : Nat} (F : Fun K "_law_operand" "_law_operand" sOpd f fd) (FT : Fun K "_law_take" "_law_take" sTake fT fdT) (bT : Binds K fdT ["_law_bag_here", "_law_many"] []) (gT : mg "_law_take" = some (.ref fT)) :
    FnOk P w K mg base CX0 (k + 2) f fd ["_law_bag_here", "_law_radix"] (spOpd K) := by
  have GT : FnOk P w K mg base CX0 (k + 1) fT fdT ["_law_bag_here", "_law_many"] spTake := ok_take FT
  refine F.ok scOpd (fun vs H Q E h => ?_) (fun cdv A outer s H vs Q E hr h => ?_)
  · obtain ⟨b, n, m, rfl, _⟩ := h
    rfl
  · obtain ⟨b, n, m, rfl, B, hn, hm, hm2, q⟩ := h
    refine ⟨_, pss_cons (ps_set (i := 2) scOpd.nd rfl (.inl rfl) (pe_call GT hr (by rfl) gT FT.kp bT .nil pass0 (pa_cons (pv 0) (pa_cons (pv 1) pa_nil))))
      (pss_one (ps_ret (pe_ix ix_list (pe_lst (pa_cons pe_str (pa_cons pe_str (pa_cons (pv 2) pa_nil)))) (pe_call GT hr (by rfl) gT FT.kp bT .nil pass0 (pa_cons (pv 0) (pa_cons pe_int pa_nil))) (fun _ _ => rfl)))), ?_⟩
    refine ⟨.ref b, rfl, .int m, rfl, b, n, m, rfl, B, by omega, hm, hm2, fun r H1 r0 r1 B1 s1 => ?_⟩
    refine ⟨.int r, rfl, (by show 3 ≤ sizeLine; decide), fun l hl => ?_⟩
    refine ⟨.ref b, rfl, b, n + 1, 3, rfl, B1.new hl, by omega, by decide, by decide, fun j H2 j0 j1 B2 s2 => ?_⟩
    have sx : SameX b H H2 := s1.trans ((SameX.new hl).trans s2)
    have hL : SqL K H2 l [.str "x", .str "y", .int r] := SqL.of (s2 _ _ (B1.ne hl) upd_same)
    rcases (by omega : j = 0 ∨ j = 1 ∨ j = 2) with rfl | rfl | rfl
    · exact ⟨l, _, 0, _, rfl, rfl, hL, atI_nat (j := 0) rfl, q _ .x H2 trivial (.str _) B2 sx⟩
    · exact ⟨l, _, 1, _, rfl, rfl, hL, atI_nat (j := 1) rfl, q _ .y H2 trivial (.str _) B2 sx⟩
    · exact ⟨l, _, 2, _, rfl, rfl, hL, atI_nat (j := 2) rfl, q _ (.n r) H2 ⟨r0, r1⟩ (.int _) B2 sx⟩
def spExp (K : PySem.W.Frag) : Sp := fun vs H Q _ => ∃ (b : Addr) (n : Nat) (m : Int), vs = [.ref b, .int m] ∧ Bag H b n ∧ n ≤ 800000 ∧ 1 ≤ m ∧ m ≤ 1000 ∧ ∀ (v : V) (o : Ex) H', o.ok m → Dt K H' v o.d → Bag H' b (n + 6) → SameX b H H' → Q v H'
theorem ok_exp {f fT fO : Addr} {fd fdT fdO : FuncData} {k : Nat} (F : Fun K "_law_expression" "_law_expression" sExp f fd) (FT : Fun K "_law_take" "_law_take" sTake fT fdT) (bT : Binds K fdT ["_law_bag_here", "_law_many"] []) (gT : mg "_law_take" = some (.ref fT))
    (FO : Fun K "_law_operand" "_law_operand" sOpd fO fdO) (bO : Binds K fdO ["_law_bag_here", "_law_radix"] []) (gO : mg "_law_operand" = some (.ref fO)) :
    FnOk P w K mg base CX0 (k + 3) f fd ["_law_bag_here", "_law_radix"] (spExp K) := by
  have GT : FnOk P w K mg base CX0 (k + 2) fT fdT ["_law_bag_here", "_law_many"] spTake := ok_take FT
  have GO : FnOk P w K mg base CX0 (k + 2) fO fdO ["_law_bag_here", "_law_radix"] (spOpd K) := ok_opd FO FT bT gT
  refine F.ok scExp (fun vs H Q E h => ?_) (fun cdv A outer s H vs Q E hr h => ?_)
  · obtain ⟨b, n, m, rfl, _⟩ := h
    rfl
  · obtain ⟨b, n, m, rfl, B, hn, hm, hm2, q⟩ := h
    refine ⟨_, pss_cons (ps_par (i := 2) (j := 3) (by rfl) scExp.nd rfl rfl (by decide) rfl rfl (pa_cons (pe_call GO hr (by rfl) gO FO.kp bO .nil pass0 (pa_cons (pv 0) (pa_cons (pv 1) pa_nil))) (pa_cons (pe_call GO hr (by rfl) gO FO.kp bO .nil pass0 (pa_cons (pv 0) (pa_cons (pv 1) pa_nil))) pa_nil)) (by rfl))
      (pss_cons (ps_set (i := 4) scExp.nd rfl (.inl rfl) (pe_ix ix_list (pe_lst (pa_cons pe_str (pa_cons pe_str (pa_cons pe_str pa_nil)))) (pe_call GT hr (by rfl) gT FT.kp bT .nil pass0 (pa_cons (pv 0) (pa_cons pe_int pa_nil))) (fun _ _ => rfl)))
      (pss_one (ps_ret (pe_ix ix_list (pe_lst (pa_cons (pv 2) (pa_cons (pv 2) (pa_cons (pe_tup (pa_cons (pv 4) (pa_cons (pv 2) (pa_cons (pv 3) pa_nil)))) pa_nil)))) (pe_call GT hr (by rfl) gT FT.kp bT .nil pass0 (pa_cons (pv 0) (pa_cons pe_int pa_nil))) (fun _ _ => rfl))))), ?_⟩
    refine ⟨.ref b, rfl, .int m, rfl, b, n, m, rfl, B, by omega, hm, hm2, fun v1 o1 H1 ok1 d1 B1 s1 => ?_⟩
    refine ⟨.ref b, rfl, .int m, rfl, b, n + 2, m, rfl, B1, by omega, hm, hm2, fun v2 o2 H2 ok2 d2 B2 s2 => ?_⟩
    refine ⟨v1, v2, rfl, (by show 3 ≤ sizeLine; decide), fun l hl => ?_⟩
    refine ⟨.ref b, rfl, b, n + 4, 3, rfl, B2.new hl, by omega, by decide, by decide, fun j H3 j0 j1 B3 s3 => ?_⟩
    have hL : SqL K H3 l [.str "+", .str "-", .str "*"] := SqL.of (s3 _ _ (B2.ne hl) upd_same)
    obtain ⟨z, hz, ha⟩ : ∃ z : Str, (z = "+" ∨ z = "-" ∨ z = "*") ∧ atI [V.str "+", V.str "-", V.str "*"] j = some (.str z) := by
      rcases (by omega : j = 0 ∨ j = 1 ∨ j = 2) with rfl | rfl | rfl
      · exact ⟨_, .inl rfl, atI_nat (j := 0) rfl⟩
      · exact ⟨_, .inr (.inl rfl), atI_nat (j := 1) rfl⟩
      · exact ⟨_, .inr (.inr rfl), atI_nat (j := 2) rfl⟩
    refine ⟨l, _, j, .str z, rfl, rfl, hL, ha, ?_⟩
    refine ⟨v1, rfl, v1, rfl, .str z, rfl, v1, rfl, v2, rfl, (by show 3 ≤ sizeLine; decide), fun t ht => ⟨(by show 3 ≤ sizeLine; decide), fun l2 hl2 => ?_⟩⟩
    have k13 : KeepT K H1 H3 := (keepT_x B1 s2).trans ((keepT_same (same_new hl)).trans (keepT_x (B2.new hl) s3))
    have k23 : KeepT K H2 H3 := (keepT_same (same_new hl)).trans (keepT_x (B2.new hl) s3)
    have e1 := d1.keep k13
    have e2 := d2.keep k23
    have dT : Dt K (upd H3 t (.tup [.str z, v1, v2])) (.ref t) (Ex.t z o1 o2).d := dt_new ht (.cons (.str z) (.cons e1 (.cons e2 .nil)))
    have B4 := (B3.new ht (o := .tup [.str z, v1, v2])).new hl2 (o := .lst [v1, v1, .ref t])
    refine ⟨.ref b, rfl, b, n + 4 + 1, 3, rfl, B4, by omega, by decide, by decide, fun j' H5 j0' j1' B5 s5 => ?_⟩
    have sx : SameX b H H5 := s1.trans (s2.trans ((SameX.new hl).trans (s3.trans ((SameX.new ht).trans ((SameX.new hl2).trans s5)))))
    have k5 : KeepT K (upd H3 t (.tup [.str z, v1, v2])) H5 := (keepT_same (same_new hl2)).trans (keepT_x B4 s5)
    have k35 : KeepT K H3 H5 := (keepT_same (same_new ht)).trans k5
    have hL2 : SqL K H5 l2 [v1, v1, .ref t] := SqL.of (s5 _ _ ((B3.new ht).ne hl2) upd_same)
    rcases (by omega : j' = 0 ∨ j' = 1 ∨ j' = 2) with rfl | rfl | rfl
    · exact ⟨l2, _, 0, _, rfl, rfl, hL2, atI_nat (j := 0) rfl, q _ (.o o1) H5 ok1 (e1.keep k35) B5 sx⟩
    · exact ⟨l2, _, 1, _, rfl, rfl, hL2, atI_nat (j := 1) rfl, q _ (.o o1) H5 ok1 (e1.keep k35) B5 sx⟩
    · exact ⟨l2, _, 2, _, rfl, rfl, hL2, atI_nat (j := 2) rfl, q _ (.t z o1 o2) H5 ⟨hz, ok1, ok2⟩ (dT.keep k5) B5 sx⟩
end
end Kx

namespace Kx
open PySem PySem.Spec PyProof.Rows L2
theorem scRow : FnScope ["_law_bag_here", "_law_radix", "_law_many", "_law_names_here", "_law_one", "_law_other", "_law_variable", "_law_name", "_law_goal", "_law_cell", "_law_some"] ["_law_bag_here", "_law_radix", "_law_many", "_law_names_here"] (defScope sRow) := ⟨rfl, rfl, rfl, by decide +kernel, rfl, by decide +kernel, by decide +kernel⟩
section
variable {P : Program} {w : World} {K : PySem.W.Frag} {mg : Str → Option Value} {base : Heap}
def spRow (K : PySem.W.Frag) : Sp := fun vs H Q _ => ∃ (b nn : Addr) (n : Nat) (m k : Int) (N : List Str), vs = [.ref b, .int m, .int k, .ref nn] ∧ Bag H b n ∧ n ≤ 700000 ∧ 1 ≤ m ∧ m ≤ 1000 ∧ 0 ≤ k ∧ k ≤ 900 ∧ nn ≠ b ∧ SqL K H nn (N.map V.str) ∧ 0 < N.length ∧ N.length ≤ 1000 ∧
    ∀ (v : V) (o : Rw) H', o.ok m k N → Dt K H' v o.d → Bag H' b (n + 17) → SameX b H H' → Q v H'
theorem ok_row {f fT fO fE : Addr} {fd fdT fdO fdE : FuncData} {k : Nat} (F : Fun K "_law_row" "_law_row" sRow f fd) (FT : Fun K "_law_take" "_law_take" sTake fT fdT) (bT : Binds K fdT ["_law_bag_here", "_law_many"] []) (gT : mg "_law_take" = some (.ref fT))
    (FO : Fun K "_law_operand" "_law_operand" sOpd fO fdO) (bO : Binds K fdO ["_law_bag_here", "_law_radix"] []) (gO : mg "_law_operand" = some (.ref fO))
    (FE : Fun K "_law_expression" "_law_expression" sExp fE fdE) (bE : Binds K fdE ["_law_bag_here", "_law_radix"] []) (gE : mg "_law_expression" = some (.ref fE)) (ml : mg "len" = none) :
    FnOk P w K mg base CX0 (k + 4) f fd ["_law_bag_here", "_law_radix", "_law_many", "_law_names_here"] (spRow K) := by
  have GT : FnOk P w K mg base CX0 (k + 3) fT fdT ["_law_bag_here", "_law_many"] spTake := ok_take FT
  have GE : FnOk P w K mg base CX0 (k + 3) fE fdE ["_law_bag_here", "_law_radix"] (spExp K) := ok_exp FE FT bT gT FO bO gO
  refine F.ok scRow (fun vs H Q E h => ?_) (fun cdv A outer s H vs Q E hr h => ?_)
  · obtain ⟨b, nn, n, m, k, N, rfl, _⟩ := h
    rfl
  · obtain ⟨b, nn, n, m, k, N, rfl, B, hn, hm, hm2, hk, hk2, nnb, hN, hN0, hN1, q⟩ := h
    refine ⟨_, pss_cons (ps_par (i := 4) (j := 5) (by rfl) scRow.nd rfl rfl (by decide) rfl rfl (pa_cons (pe_call GE hr (by rfl) gE FE.kp bE .nil pass0 (pa_cons (pv 0) (pa_cons (pv 1) pa_nil))) (pa_cons (pe_call GE hr (by rfl) gE FE.kp bE .nil pass0 (pa_cons (pv 0) (pa_cons (pv 1) pa_nil))) pa_nil)) (by rfl))
      (pss_cons (ps_par (i := 6) (j := 7) (by rfl) scRow.nd rfl rfl (by decide) rfl rfl (pa_cons (pe_ix ix_list (pe_lst (pa_cons pe_str (pa_cons pe_str pa_nil))) (pe_call GT hr (by rfl) gT FT.kp bT .nil pass0 (pa_cons (pv 0) (pa_cons pe_int pa_nil))) (fun _ _ => rfl)) (pa_cons (pe_ix ix_list (pv 3) (pe_call GT hr (by rfl) gT FT.kp bT .nil pass0 (pa_cons (pv 0) (pa_cons (pe_callB call_len_seq (by rfl) ml PySem.boot_len (pa_cons (pv 3) pa_nil)) pa_nil))) (fun _ _ => rfl)) pa_nil)) (by rfl))
      (pss_cons (ps_par (i := 8) (j := 9) (by rfl) scRow.nd rfl rfl (by decide) rfl rfl (pa_cons (pe_call GT hr (by rfl) gT FT.kp bT .nil pass0 (pa_cons (pv 0) (pa_cons (pe_op op_add (pv 2) pe_int) pa_nil))) (pa_cons (pe_call GT hr (by rfl) gT FT.kp bT .nil pass0 (pa_cons (pv 0) (pa_cons pe_int pa_nil))) pa_nil)) (by rfl))
      (pss_cons (ps_set (i := 10) scRow.nd rfl (.inl rfl) (pe_lst (pa_cons (pe_tup (pa_cons pe_str (pa_cons (pv 4) pa_nil))) (pa_cons (pe_tup (pa_cons pe_str (pa_cons (pv 6) pa_nil))) (pa_cons (pe_tup (pa_cons pe_str (pa_cons (pv 4) pa_nil))) (pa_cons (pe_tup (pa_cons pe_str (pa_cons (pv 6) pa_nil))) (pa_cons (pe_tup (pa_cons pe_str (pa_cons (pv 6) (pa_cons (pv 4) pa_nil)))) pa_nil)))))))
      (pss_cons (ps_set (i := 10) scRow.nd rfl (.inl rfl) (pe_op op_cat (pv 10) (pe_lst (pa_cons (pe_tup (pa_cons pe_str (pa_cons (pv 4) (pa_cons (pv 5) (pa_cons (pv 8) pa_nil))))) (pa_cons (pe_tup (pa_cons pe_str (pa_cons (pv 9) (pa_cons (pv 6) pa_nil)))) (pa_cons (pe_tup (pa_cons pe_str (pa_cons (pv 9) (pa_cons (pv 4) pa_nil)))) (pa_cons (pe_tup (pa_cons pe_str (pa_cons (pv 8) pa_nil))) pa_nil)))))))
      (pss_one (ps_ret (pe_ix ix_list (pe_op op_cat (pv 10) (pe_lst (pa_cons (pe_tup (pa_cons pe_str (pa_cons (pv 7) (pa_cons (pv 4) (pa_cons (pv 6) pa_nil))))) (pa_cons (pe_tup (pa_cons pe_str (pa_cons (pv 4) pa_nil))) (pa_cons (pe_tup (pa_cons pe_str (pa_cons (pv 4) (pa_cons (pv 5) (pa_cons (pv 8) pa_nil))))) pa_nil))))) (pe_call GT hr (by rfl) gT FT.kp bT .nil pass0 (pa_cons (pv 0) (pa_cons pe_int pa_nil))) (fun _ _ => rfl)))))))), ?_⟩
    refine ⟨.ref b, rfl, .int m, rfl, b, n, m, rfl, B, by omega, hm, hm2, fun v1 o1 H1 ok1 d1 B1 s1 => ?_⟩
    refine ⟨.ref b, rfl, .int m, rfl, b, n + 6, m, rfl, B1, by omega, hm, hm2, fun v2 o2 H2 ok2 d2 B2 s2 => ?_⟩
    refine ⟨v1, v2, rfl, (by show 2 ≤ sizeLine; decide), fun l hl => ?_⟩
    refine ⟨.ref b, rfl, b, n + 12, 2, rfl, B2.new hl, by omega, by decide, by decide, fun j H3 j0 j1 B3 s3 => ?_⟩
    have hL : SqL K H3 l [.str "x", .str "y"] := SqL.of (s3 _ _ (B2.ne hl) upd_same)
    obtain ⟨z, hz, ha⟩ : ∃ z : Str, vok z ∧ atI [V.str "x", V.str "y"] j = some (.str z) := by
      rcases (by omega : j = 0 ∨ j = 1) with rfl | rfl
      · exact ⟨_, .inl rfl, atI_nat (j := 0) rfl⟩
      · exact ⟨_, .inr rfl, atI_nat (j := 1) rfl⟩
    refine ⟨l, _, j, .str z, rfl, rfl, hL, ha, ?_⟩
    have x3 : SameX b H H3 := s1.trans (s2.trans ((SameX.new hl).trans s3))
    have hN3 := x3.seq nnb hN
    refine ⟨.ref nn, rfl, .ref b, rfl, .ref nn, rfl, nn, _, rfl, .inl hN3, b, n + 13, _, rfl, B3, by omega, ?_, ?_, fun j2 H4 j20 j21 B4 s4 => ?_⟩
    · rw [List.length_map]
      omega
    · rw [List.length_map]
      omega
    obtain ⟨nm, hnm, ha2⟩ : ∃ nm : Str, nm ∈ N ∧ atI (N.map V.str) j2 = some (.str nm) := by
      rw [List.length_map] at j21
      obtain ⟨i, rfl⟩ : ∃ i : Nat, j2 = i := ⟨j2.toNat, by omega⟩
      have hi : i < N.length := by omega
      exact ⟨N[i], List.getElem_mem hi, atI_nat (by rw [List.getElem?_map, List.getElem?_eq_getElem hi]; rfl)⟩
    refine ⟨nn, _, j2, .str nm, rfl, rfl, s4.seq nnb hN3, ha2, .str z, .str nm, rfl, ?_⟩
    refine ⟨.ref b, rfl, .int k, rfl, k, 1, rfl, rfl, b, n + 14, k + 1, rfl, B4, by omega, by omega, by omega, fun g H5 g0 g1 B5 s5 => ?_⟩
    refine ⟨.ref b, rfl, b, n + 15, 2, rfl, B5, by omega, by decide, by decide, fun c H6 c0 c1 B6 s6 => ?_⟩
    have k13 : KeepT K H2 H3 := (keepT_same (same_new hl)).trans (keepT_x (B2.new hl) s3)
    have k36 : KeepT K H3 H6 := (keepT_x B3 s4).trans ((keepT_x B4 s5).trans (keepT_x B5 s6))
    have x6 : SameX b H H6 := x3.trans (s4.trans (s5.trans s6))
    have e1 : Dt K H6 v1 o1.d := d1.keep ((keepT_x B1 s2).trans (k13.trans k36))
    have e2 : Dt K H6 v2 o2.d := d2.keep (k13.trans k36)
    refine ⟨.int g, .int c, rfl, ?_⟩
    refine ⟨v1, rfl, (by show 2 ≤ sizeLine; decide), fun t1 h1 => ?_⟩
    refine ⟨.str z, rfl, (by show 2 ≤ sizeLine; decide), fun t2 h2 => ?_⟩
    refine ⟨v1, rfl, (by show 2 ≤ sizeLine; decide), fun t3 h3 => ?_⟩
    refine ⟨.str z, rfl, (by show 2 ≤ sizeLine; decide), fun t4 h4 => ?_⟩
    refine ⟨.str z, rfl, v1, rfl, (by show 3 ≤ sizeLine; decide), fun t5 h5 => ?_⟩
    refine ⟨(by show 5 ≤ sizeLine; decide), fun l1 hl1 => ?_⟩
    refine ⟨.ref l1, rfl, v1, rfl, v2, rfl, .int g, rfl, (by show 4 ≤ sizeLine; decide), fun t6 h6 => ?_⟩
    refine ⟨.int c, rfl, .str z, rfl, (by show 3 ≤ sizeLine; decide), fun t7 h7 => ?_⟩
    refine ⟨.int c, rfl, v1, rfl, (by show 3 ≤ sizeLine; decide), fun t8 h8 => ?_⟩
    refine ⟨.int g, rfl, (by show 2 ≤ sizeLine; decide), fun t9 h9 => ?_⟩
    refine ⟨(by show 4 ≤ sizeLine; decide), fun l2 hl2 => ?_⟩
    have L1 := (same_new hl2 (o := .lst [.ref t6, .ref t7, .ref t8, .ref t9])) l1 _ ((same_new h9 (o := .tup [.str "go", .int g])) l1 _ ((same_new h8 (o := .tup [.str "write", .int c, v1])) l1 _ ((same_new h7 (o := .tup [.str "read", .int c, .str z])) l1 _ ((same_new h6 (o := .tup [.str "if", v1, v2, .int g])) l1 _ (upd_same (o := HO.lst [.ref t1, .ref t2, .ref t3, .ref t4, .ref t5]))))))
    refine ⟨l1, l2, _, _, rfl, rfl, L1, upd_same, (by show 9 ≤ sizeLine; decide), fun p1 hp1 => ?_⟩
    refine ⟨.ref p1, rfl, .str nm, rfl, v1, rfl, .str z, rfl, (by show 4 ≤ sizeLine; decide), fun t10 h10 => ?_⟩
    refine ⟨v1, rfl, (by show 2 ≤ sizeLine; decide), fun t11 h11 => ?_⟩
    refine ⟨v1, rfl, v2, rfl, .int g, rfl, (by show 4 ≤ sizeLine; decide), fun t12 h12 => ?_⟩
    refine ⟨(by show 3 ≤ sizeLine; decide), fun l3 hl3 => ?_⟩
    have L2 := (same_new hl3 (o := .lst [.ref t10, .ref t11, .ref t12])) p1 _ ((same_new h12 (o := .tup [.str "if", v1, v2, .int g])) p1 _ ((same_new h11 (o := .tup [.str "end", v1])) p1 _ ((same_new h10 (o := .tup [.str "call", .str nm, v1, .str z])) p1 _ (upd_same (o := HO.lst [.ref t1, .ref t2, .ref t3, .ref t4, .ref t5, .ref t6, .ref t7, .ref t8, .ref t9])))))
    refine ⟨p1, l3, _, _, rfl, rfl, L2, upd_same, (by show 12 ≤ sizeLine; decide), fun p2 hp2 => ?_⟩
    have S1 := same_new h1 (o := .tup [.str "say", v1])
    have S2 := same_new h2 (o := .tup [.str "ask", .str z])
    have S3 := same_new h3 (o := .tup [.str "say", v1])
    have S4 := same_new h4 (o := .tup [.str "ask", .str z])
    have S5 := same_new h5 (o := .tup [.str "set", .str z, v1])
    have S6 := same_new hl1 (o := .lst [.ref t1, .ref t2, .ref t3, .ref t4, .ref t5])
    have S7 := same_new h6 (o := .tup [.str "if", v1, v2, .int g])
    have S8 := same_new h7 (o := .tup [.str "read", .int c, .str z])
    have S9 := same_new h8 (o := .tup [.str "write", .int c, v1])
    have S10 := same_new h9 (o := .tup [.str "go", .int g])
    have S11 := same_new hl2 (o := .lst [.ref t6, .ref t7, .ref t8, .ref t9])
    have S12 := same_new hp1 (o := .lst [.ref t1, .ref t2, .ref t3, .ref t4, .ref t5, .ref t6, .ref t7, .ref t8, .ref t9])
    have S13 := same_new h10 (o := .tup [.str "call", .str nm, v1, .str z])
    have S14 := same_new h11 (o := .tup [.str "end", v1])
    have S15 := same_new h12 (o := .tup [.str "if", v1, v2, .int g])
    have S16 := same_new hl3 (o := .lst [.ref t10, .ref t11, .ref t12])
    have S17 := same_new hp2 (o := .lst [.ref t1, .ref t2, .ref t3, .ref t4, .ref t5, .ref t6, .ref t7, .ref t8, .ref t9, .ref t10, .ref t11, .ref t12])
    have R16 := S17
    have R15 := S16.trans R16
    have R14 := S15.trans R15
    have R13 := S14.trans R14
    have R12 := S13.trans R13
    have R11 := S12.trans R12
    have R10 := S11.trans R11
    have R9 := S10.trans R10
    have R8 := S9.trans R9
    have R7 := S8.trans R8
    have R6 := S7.trans R7
    have R5 := S6.trans R6
    have R4 := S5.trans R5
    have R3 := S4.trans R4
    have R2 := S3.trans R3
    have R1 := S2.trans R2
    have R0 := S1.trans R1
    have B7 := B6.same R0
    refine ⟨.ref b, rfl, b, n + 16, 12, rfl, B7, by omega, by decide, by decide, fun x Hf x0 x1 Bf sf => ?_⟩
    have kf := keepT_x (K := K) B7 sf
    have sx : SameX b H Hf := x6.trans ((Same.x R0).trans sf)
    have f1 := e1.keep ((keepT_same R0).trans kf)
    have f2 := e2.keep ((keepT_same R0).trans kf)
    have hP : SqL K Hf p2 [.ref t1, .ref t2, .ref t3, .ref t4, .ref t5, .ref t6, .ref t7, .ref t8, .ref t9, .ref t10, .ref t11, .ref t12] := SqL.of (sf _ _ (Bag.ne (B6.same (S1.trans (S2.trans (S3.trans (S4.trans (S5.trans (S6.trans (S7.trans (S8.trans (S9.trans (S10.trans (S11.trans (S12.trans (S13.trans (S14.trans (S15.trans (S16))))))))))))))))) hp2) upd_same)
    rcases (by omega : x = 0 ∨ x = 1 ∨ x = 2 ∨ x = 3 ∨ x = 4 ∨ x = 5 ∨ x = 6 ∨ x = 7 ∨ x = 8 ∨ x = 9 ∨ x = 10 ∨ x = 11) with rfl | rfl | rfl | rfl | rfl | rfl | rfl | rfl | rfl | rfl | rfl | rfl
    · exact ⟨p2, _, 0, _, rfl, rfl, hP, atI_nat (j := 0) rfl, q _ (.say o1) Hf ok1 (.tup (kf _ _ (SqT.of (R1 t1 _ upd_same))) (.cons (.str _) (.cons f1 .nil))) Bf sx⟩
    · exact ⟨p2, _, 1, _, rfl, rfl, hP, atI_nat (j := 1) rfl, q _ (.ask z) Hf hz (.tup (kf _ _ (SqT.of (R2 t2 _ upd_same))) (.cons (.str _) (.cons (.str _) .nil))) Bf sx⟩
    · exact ⟨p2, _, 2, _, rfl, rfl, hP, atI_nat (j := 2) rfl, q _ (.say o1) Hf ok1 (.tup (kf _ _ (SqT.of (R3 t3 _ upd_same))) (.cons (.str _) (.cons f1 .nil))) Bf sx⟩
    · exact ⟨p2, _, 3, _, rfl, rfl, hP, atI_nat (j := 3) rfl, q _ (.ask z) Hf hz (.tup (kf _ _ (SqT.of (R4 t4 _ upd_same))) (.cons (.str _) (.cons (.str _) .nil))) Bf sx⟩
    · exact ⟨p2, _, 4, _, rfl, rfl, hP, atI_nat (j := 4) rfl, q _ (.set z o1) Hf ⟨hz, ok1⟩ (.tup (kf _ _ (SqT.of (R5 t5 _ upd_same))) (.cons (.str _) (.cons (.str _) (.cons f1 .nil)))) Bf sx⟩
    · exact ⟨p2, _, 5, _, rfl, rfl, hP, atI_nat (j := 5) rfl, q _ (.iff o1 o2 g) Hf ⟨ok1, ok2, g0, by omega⟩ (.tup (kf _ _ (SqT.of (R7 t6 _ upd_same))) (.cons (.str _) (.cons f1 (.cons f2 (.cons (.int _) .nil))))) Bf sx⟩
    · exact ⟨p2, _, 6, _, rfl, rfl, hP, atI_nat (j := 6) rfl, q _ (.read c z) Hf ⟨by omega, hz⟩ (.tup (kf _ _ (SqT.of (R8 t7 _ upd_same))) (.cons (.str _) (.cons (.int _) (.cons (.str _) .nil)))) Bf sx⟩
    · exact ⟨p2, _, 7, _, rfl, rfl, hP, atI_nat (j := 7) rfl, q _ (.write c o1) Hf ⟨by omega, ok1⟩ (.tup (kf _ _ (SqT.of (R9 t8 _ upd_same))) (.cons (.str _) (.cons (.int _) (.cons f1 .nil)))) Bf sx⟩
    · exact ⟨p2, _, 8, _, rfl, rfl, hP, atI_nat (j := 8) rfl, q _ (.go g) Hf ⟨g0, by omega⟩ (.tup (kf _ _ (SqT.of (R10 t9 _ upd_same))) (.cons (.str _) (.cons (.int _) .nil))) Bf sx⟩
    · exact ⟨p2, _, 9, _, rfl, rfl, hP, atI_nat (j := 9) rfl, q _ (.call nm o1 z) Hf ⟨hnm, ok1, hz⟩ (.tup (kf _ _ (SqT.of (R13 t10 _ upd_same))) (.cons (.str _) (.cons (.str _) (.cons f1 (.cons (.str _) .nil))))) Bf sx⟩
    · exact ⟨p2, _, 10, _, rfl, rfl, hP, atI_nat (j := 10) rfl, q _ (.fin o1) Hf ok1 (.tup (kf _ _ (SqT.of (R14 t11 _ upd_same))) (.cons (.str _) (.cons f1 .nil))) Bf sx⟩
    · exact ⟨p2, _, 11, _, rfl, rfl, hP, atI_nat (j := 11) rfl, q _ (.iff o1 o2 g) Hf ⟨ok1, ok2, g0, by omega⟩ (.tup (kf _ _ (SqT.of (R15 t12 _ upd_same))) (.cons (.str _) (.cons f1 (.cons f2 (.cons (.int _) .nil))))) Bf sx⟩
end
end Kx

namespace Kx
open PySem PySem.Spec PyProof.Rows L2
theorem scText : FnScope ["_law_bag_here", "_law_radix", "_law_most", "_law_names_here", "_law_many", "_law_k"] ["_law_bag_here", "_law_radix", "_law_most", "_law_names_here"] (defScope sText) := ⟨rfl, rfl, rfl, by decide +kernel, rfl, by decide +kernel, by decide +kernel⟩
section
variable {P : Program} {w : World} {K : PySem.W.Frag} {mg : Str → Option Value} {base : Heap}
def spText (K : PySem.W.Frag) : Sp := fun vs H Q _ => ∃ (b nn : Addr) (n : Nat) (m : Int) (k : Nat) (N : List Str), vs = [.ref b, .int m, .int k, .ref nn] ∧ Bag H b n ∧ n ≤ 100000 ∧ 1 ≤ m ∧ m ≤ 1000 ∧ k ≤ 900 ∧ nn ≠ b ∧ SqL K H nn (N.map V.str) ∧ 0 < N.length ∧ N.length ≤ 1000 ∧
    ∀ (v : V) (t : List Rw) H', t.length ≤ k → Tx.ok m N t → Dt K H' v (Tx.d t) → Bag H' b (n + 1 + 17 * k) → SameX b H H' → Q v H'
theorem ok_text {f fT fO fE fR : Addr} {fd fdT fdO fdE fdR : FuncData} {k : Nat} (F : Fun K "_law_text" "_law_text" sText f fd) (FT : Fun K "_law_take" "_law_take" sTake fT fdT) (bT : Binds K fdT ["_law_bag_here", "_law_many"] []) (gT : mg "_law_take" = some (.ref fT))
    (FO : Fun K "_law_operand" "_law_operand" sOpd fO fdO) (bO : Binds K fdO ["_law_bag_here", "_law_radix"] []) (gO : mg "_law_operand" = some (.ref fO))
    (FE : Fun K "_law_expression" "_law_expression" sExp fE fdE) (bE : Binds K fdE ["_law_bag_here", "_law_radix"] []) (gE : mg "_law_expression" = some (.ref fE)) (ml : mg "len" = none)
    (FR : Fun K "_law_row" "_law_row" sRow fR fdR) (bR : Binds K fdR ["_law_bag_here", "_law_radix", "_law_many", "_law_names_here"] []) (gR : mg "_law_row" = some (.ref fR)) (mt : mg "tuple" = none) (mr : mg "range" = none) :
    FnOk P w K mg base CX0 (k + 5) f fd ["_law_bag_here", "_law_radix", "_law_most", "_law_names_here"] (spText K) := by
  have GT : FnOk P w K mg base CX0 (k + 4) fT fdT ["_law_bag_here", "_law_many"] spTake := ok_take FT
  have GR : FnOk P w K mg base CX0 (k + 4) fR fdR ["_law_bag_here", "_law_radix", "_law_many", "_law_names_here"] (spRow K) := ok_row FR FT bT gT FO bO gO FE bE gE ml
  refine F.ok scText (fun vs H Q E h => ?_) (fun cdv A outer s H vs Q E hr h => ?_)
  · obtain ⟨b, nn, n, m, k, N, rfl, _⟩ := h
    rfl
  · obtain ⟨b, nn, n, m, k, N, rfl, B, hn, hm, hm2, hk, nnb, hN, hN0, hN1, q⟩ := h
    refine ⟨_, pss_cons (ps_set (i := 4) scText.nd rfl (.inr rfl) (pe_call GT hr (by rfl) gT FT.kp bT .nil pass0 (pa_cons (pv 0) (pa_cons (pe_op op_add (pv 2) pe_int) pa_nil))))
      (pss_one (ps_ret (pe_callTy call_tuple_of (by rfl) mt (by decide +kernel) (pa_cons
        (pe_lc (own := [("_law_k", 5)]) (g := gName 5) (tt := tYes) (by rfl) scText.nd (pi_range1 (by rfl) mr (pa_cons (pv 4) pa_nil)) (blkOk_by (N := ["_law_bag_here", "_law_radix", "_law_most", "_law_names_here", "_law_many", "_law_k"]) (sc := defScope sText) (by decide +kernel))
          (fun _ _ _ _ _ => pg_name (i := 5) scText.nd rfl (Or.inl rfl)) (fun _ _ _ _ _ => pts_nil)
          (fun _ _ _ _ _ => pe_call GR hr (by rfl) gR FR.kp bR .nil pass0 (pa_cons (pv 0) (pa_cons (pv 1) (pa_cons (pv 4) (pa_cons (pv 3) pa_nil)))))) pa_nil)))), ?_⟩
    refine ⟨.ref b, rfl, .int k, rfl, k, 1, rfl, rfl, b, n, k + 1, rfl, B, by omega, by omega, by omega, fun r H1 r0 r1 B1 s1 => ?_⟩
    obtain ⟨c, rfl⟩ : ∃ c : Nat, r = c := ⟨r.toNat, by omega⟩
    refine ⟨.int c, rfl, c, rfl, by omega, by omega, fun D hD => ?_⟩
    refine lc_range (lo := 0) (n := c) (fun i H' => ∃ (xs : List V) (t : List Rw), H' D = some (.lst xs) ∧ xs.length = i ∧ t.length = i ∧ (∀ r ∈ t, r.ok m c N) ∧ DtAll K H' xs (t.map Rw.d) ∧ Bag H' b (n + 1 + 17 * i) ∧ SameX b H1 H')
      ⟨[], [], upd_same, rfl, rfl, (fun r hr => by cases hr), .nil, B1.new hD, SameX.new hD⟩ (fun i H2 hi p => ?_) (fun H2 p => ?_)
    · obtain ⟨xs, t, hx, lx, lt, ok, dt, B2, s2⟩ := p
      have x2 : SameX b H H2 := s1.trans s2
      refine ⟨rfl, ?_⟩
      refine ⟨.ref b, rfl, .int m, rfl, .int c, rfl, .ref nn, rfl, b, nn, n + 1 + 17 * i, m, c, N, rfl, B2, by omega, hm, hm2, by omega, by omega, nnb, x2.seq nnb hN, hN0, hN1, fun v o H3 ok3 d3 B3 s3 => ?_⟩
      have nD : D ≠ b := B1.ne hD
      have hx3 := s3 _ _ nD hx
      have k3 : KeepT K H3 (upd H3 D (.lst (xs ++ [v]))) := fun a ys h => by
        rcases h with (h | ⟨o, h⟩) | h
        · exact .inl (.inl (by rw [upd_ne (show a ≠ D from ne_of h hx3 (by intro z; cases z))]; exact h))
        · exact .inl (.inr ⟨o, by rw [upd_ne (show a ≠ D from ne_of h hx3 (by intro z; cases z))]; exact h⟩)
        · exact .inr h
      refine ⟨xs, hx3, ?_, xs ++ [v], t ++ [o], upd_same, by rw [List.length_append, lx]; rfl, by rw [List.length_append, lt]; rfl, fun r hr => ?_, ?_, ?_, fun a u na e => ?_⟩
      · exact small1000 (by omega)
      · rcases List.mem_append.mp hr with z | z
        · exact ok r z
        · rw [List.mem_singleton.mp z]
          exact ok3
      · rw [List.map_append]
        exact DtAll.app ((dt.keep ((keepT_x B2 s3))).keep k3) (.cons (d3.keep k3) .nil)
      · obtain ⟨d', x', c', e', r'⟩ := B3
        exact ⟨d', x', c', by rw [upd_ne nD.symm]; exact e', r'.1, r'.2.1, r'.2.2.1, by omega⟩
      · have naD : a ≠ D := ne_of_none e hD
        rw [upd_ne naD]
        exact s3 _ _ na (s2 _ _ na e)
    · obtain ⟨xs, t, hx, lx, lt, ok, dt, B2, s2⟩ := p
      refine ⟨D, xs, rfl, .inl ⟨SqL.of hx, fun l hl => ?_⟩⟩
      exact q _ t _ (by omega) (fun r hr => by rw [lt]; exact ok r hr) (dt_new hl dt) ((B2.new hl).mono (by omega)) (s1.trans (s2.trans (SameX.new hl)))
end
end Kx

namespace Kx
open PySem PySem.Spec PyProof.Rows L2
def Op.val (x y : Int) : Op → Int
  | .x => x
  | .y => y
  | .n k => k
def sgn (s : Str) (b l r : Int) : Int := if s = "+" then (l + r) % b else if s = "-" then (l - r) % b else (l * r) % b
def Ex.val (b x y : Int) : Ex → Int
  | .o a => a.val x y
  | .t s l r => sgn s b (l.val x y) (r.val x y)
theorem Op.val_in {b x y : Int} {o : Op} (h : o.ok b) (hx : 0 ≤ x ∧ x < b) (hy : 0 ≤ y ∧ y < b) : 0 ≤ o.val x y ∧ o.val x y < b := by
  cases o with
  | x => exact hx
  | y => exact hy
  | n k => exact h
theorem Ex.val_in {b x y : Int} {o : Ex} (h : o.ok b) (hx : 0 ≤ x ∧ x < b) (hy : 0 ≤ y ∧ y < b) : 0 ≤ o.val b x y ∧ o.val b x y < b := by
  cases o with
  | o a => exact Op.val_in h hx hy
  | t s l r =>
    have hb : 0 < b := by omega
    show 0 ≤ sgn s b (l.val x y) (r.val x y) ∧ sgn s b (l.val x y) (r.val x y) < b
    generalize l.val x y = p
    generalize r.val x y = q
    unfold sgn
    split
    · exact ⟨Int.emod_nonneg _ (by omega), Int.emod_lt_of_pos _ hb⟩
    · split
      · exact ⟨Int.emod_nonneg _ (by omega), Int.emod_lt_of_pos _ hb⟩
      · exact ⟨Int.emod_nonneg _ (by omega), Int.emod_lt_of_pos _ hb⟩
/-- a stand, as data -/
def stI (r x y : Int) : PyData := .tuple [.int r, .int x, .int y]
theorem tyx_tup {K : PySem.W.Frag} {H : Hp} {a : Addr} {xs : List V} (h : SqT K H a xs) : TyX K H (.ref a) (.type "tuple") := by
  rcases h with (h | ⟨o, h⟩) | ⟨o, its, n, h, c, _⟩
  · exact .base (.tup h)
  · exact .fTuple h
  · exact .kTuple h c
theorem tyx_lst {K : PySem.W.Frag} {H : Hp} {a : Addr} {xs : List V} (h : SqL K H a xs) : TyX K H (.ref a) (.type "list") := by
  rcases h with (h | ⟨o, h⟩) | ⟨o, its, n, h, c, _⟩
  · exact .base (.lst h)
  · exact .base (.frz h)
  · exact .kList h c
/-- the class of data -/
def tyName : PyData → String
  | .none => "NoneType"
  | .bool _ => "bool"
  | .int _ => "int"
  | .str _ => "str"
  | .list _ => "list"
  | .tuple _ => "tuple"
  | .dict _ => "dict"
theorem dp_ty {K : PySem.W.Frag} {H : Hp} {v : V} {d : PyData} (h : Dp K H v d) : TyX K H v (.type (tyName d)) := by
  cases h with
  | non => exact .base .non
  | bl b => exact .base (.bl b)
  | int i => exact .base (.int i)
  | str x => exact .base (.str x)
  | lst h q => exact tyx_lst h
  | tup h q => exact tyx_tup h
/-- isinstance(v, T) of data -/
theorem isi_at {K : PySem.W.Frag} {H : Hp} {v : V} {d : PyData} {T : String} {b : Bool} {Q : VK} (h : Dp K H v d) (k : kitB (tyName d) T = some b) (q : Q (.bl b) H) : rIsi K [v, .ty T] H Q :=
  ⟨v, .ty T, .type (tyName d), .type T, b, rfl, .ty T, dp_ty h, kit_ty k, q⟩
def isInt : PyData → Bool
  | .int _ => true
  | _ => false
def isBelow (top : Int) : PyData → Bool
  | .int i => decide (0 ≤ i) && decide (i < top)
  | _ => false
theorem dt_op {K : PySem.W.Frag} {H : Hp} {v : V} {o : Op} (h : Dt K H v o.d) : (o = .x ∧ v = .str "x") ∨ (o = .y ∧ v = .str "y") ∨ ∃ k, o = .n k ∧ v = .int k := by
  cases o with
  | x => cases h; exact .inl ⟨rfl, rfl⟩
  | y => cases h; exact .inr (.inl ⟨rfl, rfl⟩)
  | n k => cases h; exact .inr (.inr ⟨k, rfl, rfl⟩)
theorem dt_three {K : PySem.W.Frag} {H : Hp} {v : V} {d e f : PyData} (h : Dt K H v (.tuple [d, e, f])) : ∃ a x y z, v = .ref a ∧ SqT K H a [x, y, z] ∧ Dt K H x d ∧ Dt K H y e ∧ Dt K H z f := by
  obtain ⟨a, xs, rfl, hs, hd⟩ := dt_tuple h
  cases hd with
  | cons h1 q => cases q with
    | cons h2 q => cases q with
      | cons h3 q => cases q; exact ⟨a, _, _, _, rfl, hs, h1, h2, h3⟩
theorem dt_stand {K : PySem.W.Frag} {H : Hp} {v : V} {r x y : Int} (h : Dt K H v (stI r x y)) : ∃ a, v = .ref a ∧ SqT K H a [.int r, .int x, .int y] := by
  obtain ⟨a, _, _, _, rfl, hs, h1, h2, h3⟩ := dt_three h
  cases h1; cases h2; cases h3
  exact ⟨a, rfl, hs⟩
theorem dtall_cons {K : PySem.W.Frag} {H : Hp} {vs : List V} {d : PyData} {ds : List PyData} (h : DtAll K H vs (d :: ds)) : ∃ u us, vs = u :: us ∧ Dt K H u d ∧ DtAll K H us ds := by
  cases h with
  | cons h q => exact ⟨_, _, rfl, h, q⟩
theorem dtall_nil {K : PySem.W.Frag} {H : Hp} {vs : List V} (h : DtAll K H vs []) : vs = [] := by
  cases h
  rfl
end Kx

namespace Kx
open PySem PySem.Spec PyProof.Rows L2
abbrev sInt : Stmt := topS 1
abbrev sBel : Stmt := topS 2
abbrev sVal : Stmt := topS 10
abbrev sLval : Stmt := topS 25
theorem scInt : FnScope ["thing"] ["thing"] (defScope sInt) := ⟨rfl, rfl, rfl, by decide +kernel, rfl, by decide +kernel, by decide +kernel⟩
theorem scBel : FnScope ["thing", "top"] ["thing", "top"] (defScope sBel) := ⟨rfl, rfl, rfl, by decide +kernel, rfl, by decide +kernel, by decide +kernel⟩
theorem scVal : FnScope ["expression", "point", "base", "sign", "left", "right", "one", "other"] ["expression", "point", "base"] (defScope sVal) := ⟨rfl, rfl, rfl, by decide +kernel, rfl, by decide +kernel, by decide +kernel⟩
theorem scLval : FnScope ["_law_one", "_law_x", "_law_y", "_law_radix", "_law_left", "_law_right"] ["_law_one", "_law_x", "_law_y", "_law_radix"] (defScope sLval) := ⟨rfl, rfl, rfl, by decide +kernel, rfl, by decide +kernel, by decide +kernel⟩
structure Bi (mg : Str → Option Value) : Prop where
  len : mg "len" = none
  isi : mg "isinstance" = none
  int : mg "int" = none
  bool : mg "bool" = none
  tuple : mg "tuple" = none
  str : mg "str" = none
section
variable {P : Program} {w : World} {K : PySem.W.Frag} {mg : Str → Option Value} {base : Heap}
def spInt (K : PySem.W.Frag) : Sp := fun vs H Q _ => ∃ (v : V) (d : PyData), vs = [v] ∧ Dp K H v d ∧ Q (.bl (isInt d)) H
theorem ok_int {f : Addr} {fd : FuncData} {k : Nat} (F : Fun K "is_integer" "is_integer" sInt f fd) (T : Bi mg) : FnOk P w K mg base CX0 (k + 1) f fd ["thing"] (spInt K) := by
  refine F.ok scInt (fun vs H Q E h => ?_) (fun cdv A outer s H vs Q E hr h => ?_)
  · obtain ⟨v, d, rfl, _⟩ := h
    rfl
  · obtain ⟨v, d, rfl, hd, q⟩ := h
    refine ⟨_, pss_one (ps_ret (pe_and (pe_callB call_isi (by rfl) T.isi (by decide +kernel) (pa_cons (pv 0) (pa_cons (pe_bltn (v := .ty "int") (by rfl) T.int (by decide +kernel) rfl) pa_nil)))
      (pe_one (pe_not (pe_callB call_isi (by rfl) T.isi (by decide +kernel) (pa_cons (pv 0) (pa_cons (pe_bltn (v := .ty "bool") (by rfl) T.bool (by decide +kernel) rfl) pa_nil))))))), ?_⟩
    cases hd with
    | non => exact ⟨_, rfl, _, .ty "int", .type "NoneType", .type "int", false, rfl, .ty _, dp_ty .non, kit_ty (by decide +kernel), false, rfl, iteF q⟩
    | bl b => exact ⟨_, rfl, _, .ty "int", .type "bool", .type "int", true, rfl, .ty _, dp_ty (.bl b), kit_ty (by decide +kernel), true, rfl, iteT ⟨_, rfl, _, .ty "bool", .type "bool", .type "bool", true, rfl, .ty _, dp_ty (.bl b), kit_ty (by decide +kernel), true, rfl, q⟩⟩
    | int i => exact ⟨_, rfl, _, .ty "int", .type "int", .type "int", true, rfl, .ty _, dp_ty (.int i), kit_ty (by decide +kernel), true, rfl, iteT ⟨_, rfl, _, .ty "bool", .type "int", .type "bool", false, rfl, .ty _, dp_ty (.int i), kit_ty (by decide +kernel), false, rfl, q⟩⟩
    | str x => exact ⟨_, rfl, _, .ty "int", .type "str", .type "int", false, rfl, .ty _, dp_ty (.str x), kit_ty (by decide +kernel), false, rfl, iteF q⟩
    | lst h z => exact ⟨_, rfl, _, .ty "int", .type "list", .type "int", false, rfl, .ty _, dp_ty (.lst h z), kit_ty (by decide +kernel), false, rfl, iteF q⟩
    | tup h z => exact ⟨_, rfl, _, .ty "int", .type "tuple", .type "int", false, rfl, .ty _, dp_ty (.tup h z), kit_ty (by decide +kernel), false, rfl, iteF q⟩
def spBel (K : PySem.W.Frag) : Sp := fun vs H Q _ => ∃ (v : V) (d : PyData) (top : Int), vs = [v, .int top] ∧ Dp K H v d ∧ Q (.bl (isBelow top d)) H
theorem ok_bel {f fI : Addr} {fd fdI : FuncData} {k : Nat} (F : Fun K "is_below" "is_below" sBel f fd) (T : Bi mg) (FI : Fun K "is_integer" "is_integer" sInt fI fdI) (bI : Binds K fdI ["thing"] []) (gI : mg "is_integer" = some (.ref fI)) : FnOk P w K mg base CX0 (k + 2) f fd ["thing", "top"] (spBel K) := by
  have GI : FnOk P w K mg base CX0 (k + 1) fI fdI ["thing"] (spInt K) := ok_int FI T
  refine F.ok scBel (fun vs H Q E h => ?_) (fun cdv A outer s H vs Q E hr h => ?_)
  · obtain ⟨v, d, top, rfl, _⟩ := h
    rfl
  · obtain ⟨v, d, top, rfl, hd, q⟩ := h
    refine ⟨_, pss_one (ps_ret (pe_and (pe_call GI hr (by rfl) gI FI.kp bI .nil pass0 (pa_cons (pv 0) pa_nil)) (pe_one (pe_chain op_le op_lt pe_int (pv 0) (pv 1))))), ?_⟩
    refine ⟨v, rfl, v, d, rfl, hd, _, rfl, ?_⟩
    cases hd with
    | int i =>
      refine iteT ?_
      refine ⟨_, rfl, 0, i, rfl, rfl, _, rfl, ite2 (fun e => ?_) (fun e => ?_)⟩
      · refine ⟨_, rfl, i, top, rfl, rfl, ?_⟩
        have q' : Q (.bl (decide (0 ≤ i) && decide (i < top))) H := q
        have e' : decide (0 ≤ i) = true := e
        rw [e', Bool.true_and] at q'
        exact q'
      · have q' : Q (.bl (decide (0 ≤ i) && decide (i < top))) H := q
        have e' : ¬ decide (0 ≤ i) = true := e
        rw [Bool.not_eq_true] at e'
        rw [e', Bool.false_and] at q'
        exact q'
    | non => exact iteF q
    | bl b => exact iteF q
    | str x => exact iteF q
    | lst h z => exact iteF q
    | tup h z => exact iteF q
def Pt (b : Int) (x y : Int) : Prop := (0 ≤ x ∧ x < b) ∧ 0 ≤ y ∧ y < b
def spVal0 (K : PySem.W.Frag) : Sp := fun vs H Q _ => ∃ (v p : V) (o : Op) (b r x y : Int), vs = [v, p, .int b] ∧ Dt K H v o.d ∧ Dt K H p (stI r x y) ∧ Q (.int (o.val x y)) H
def spVal (K : PySem.W.Frag) : Sp := fun vs H Q _ => ∃ (v p : V) (o : Ex) (b r x y : Int), vs = [v, p, .int b] ∧ 2 ≤ b ∧ b ≤ 4 ∧ o.ok b ∧ Pt b x y ∧ Dt K H v o.d ∧ Dt K H p (stI r x y) ∧ Q (.int (o.val b x y)) H
theorem ne_xy : ¬ (V.str "y" = V.str "x") := by decide +kernel
def spNo : Sp := fun _ _ _ _ => False
theorem ok_no {f : Addr} {fd : FuncData} {k : Nat} {ps : List Str} : FnOk P w K mg base CX0 k f fd ps spNo := ⟨fun _ _ _ _ h => h.elim, fun _ _ _ _ _ _ _ _ _ _ _ _ _ h => h.elim⟩
theorem ok_val0 {f : Addr} {fd : FuncData} {k : Nat} (F : Fun K "value_of" "value_of" sVal f fd) (T : Bi mg) (bV : Binds K fd ["expression", "point", "base"] []) (gV : mg "value_of" = some (.ref f)) : FnOk P w K mg base CX0 (k + 1) f fd ["expression", "point", "base"] (spVal0 K) := by
  have G : FnOk P w K mg base CX0 k f fd ["expression", "point", "base"] spNo := ok_no
  refine F.ok scVal (fun vs H Q E h => ?_) (fun cdv A outer s H vs Q E hr h => ?_)
  · obtain ⟨v, p, o, b, r, x, y, rfl, _⟩ := h
    rfl
  · obtain ⟨v, p, o, b, r, x, y, rfl, hd, hp, q⟩ := h
    obtain ⟨pa, rfl, hs⟩ := dt_stand hp
    refine ⟨_, pss_cons (ps_if (pt_val (pe_callB call_isi (by rfl) T.isi (by decide +kernel) (pa_cons (pv 0) (pa_cons (pe_bltn (v := .ty "tuple") (by rfl) T.tuple (by decide +kernel) rfl) pa_nil))))
        (pss_cons (ps_asg (pv 0) (pg_tup (by rfl) (pgs_cons (pg_name (i := 3) scVal.nd rfl (.inl rfl)) (pgs_cons (pg_name (i := 4) scVal.nd rfl (.inl rfl)) (pgs_cons (pg_name (i := 5) scVal.nd rfl (.inl rfl)) pgs_nil)))))
        (pss_cons (ps_set (i := 6) scVal.nd rfl (.inl rfl) (pe_call G hr (by rfl) gV F.kp bV .nil pass0 (pa_cons (pv 4) (pa_cons (pv 1) (pa_cons (pv 2) pa_nil)))))
        (pss_cons (ps_set (i := 7) scVal.nd rfl (.inl rfl) (pe_call G hr (by rfl) gV F.kp bV .nil pass0 (pa_cons (pv 5) (pa_cons (pv 1) (pa_cons (pv 2) pa_nil)))))
        (pss_cons (ps_if (pt_cmpR op_eq (pv 3) pe_str (nomark _)) (pss_one (ps_ret (pe_op op_mod (pe_op op_add (pv 6) (pv 7)) (pv 2)))) pss_nil)
        (pss_cons (ps_if (pt_cmpR op_eq (pv 3) pe_str (nomark _)) (pss_one (ps_ret (pe_op op_mod (pe_op op_sub (pv 6) (pv 7)) (pv 2)))) pss_nil)
        (pss_one (ps_ret (pe_op op_mod (pe_op op_mul (pv 6) (pv 7)) (pv 2))))))))) pss_nil)
      (pss_cons (ps_if (pt_cmpR op_eq (pv 0) pe_str (nomark _)) (pss_one (ps_ret (pe_ix ix_tup (pv 1) pe_int (fun _ _ => rfl)))) pss_nil)
      (pss_cons (ps_if (pt_cmpR op_eq (pv 0) pe_str (nomark _)) (pss_one (ps_ret (pe_ix ix_tup (pv 1) pe_int (fun _ _ => rfl)))) pss_nil)
      (pss_one (ps_ret (pv 0))))), ?_⟩
    rcases dt_op hd with ⟨rfl, rfl⟩ | ⟨rfl, rfl⟩ | ⟨k, rfl, rfl⟩
    · refine ⟨_, rfl, _, .ty "tuple", .type "str", .type "tuple", false, rfl, .ty _, dp_ty (.str "x"), kit_ty (by decide +kernel), false, rfl, iteF ?_⟩
      refine ⟨_, rfl, rfl, _, rfl, ite2 (fun _ => ?_) (fun e => absurd (decide_eq_true rfl) e)⟩
      exact ⟨_, rfl, pa, _, 1, .int x, rfl, rfl, hs, atI_nat (j := 1) rfl, q⟩
    · refine ⟨_, rfl, _, .ty "tuple", .type "str", .type "tuple", false, rfl, .ty _, dp_ty (.str "y"), kit_ty (by decide +kernel), false, rfl, iteF ?_⟩
      refine ⟨_, rfl, rfl, _, rfl, ite2 (fun e => absurd (of_decide_eq_true e) ne_xy) (fun _ => ?_)⟩
      refine ⟨_, rfl, rfl, _, rfl, ite2 (fun _ => ?_) (fun e => absurd (decide_eq_true rfl) e)⟩
      exact ⟨_, rfl, pa, _, 2, .int y, rfl, rfl, hs, atI_nat (j := 2) rfl, q⟩
    · refine ⟨_, rfl, _, .ty "tuple", .type "int", .type "tuple", false, rfl, .ty _, dp_ty (.int k), kit_ty (by decide +kernel), false, rfl, iteF ?_⟩
      refine ⟨_, rfl, rfl, _, rfl, ite2 (fun e => by have z := of_decide_eq_true e; cases z) (fun _ => ?_)⟩
      refine ⟨_, rfl, rfl, _, rfl, ite2 (fun e => by have z := of_decide_eq_true e; cases z) (fun _ => ?_)⟩
      exact ⟨_, rfl, q⟩
theorem ok_val {f : Addr} {fd : FuncData} {k : Nat} (F : Fun K "value_of" "value_of" sVal f fd) (T : Bi mg) (bV : Binds K fd ["expression", "point", "base"] []) (gV : mg "value_of" = some (.ref f)) : FnOk P w K mg base CX0 (k + 2) f fd ["expression", "point", "base"] (spVal K) := by
  have G : FnOk P w K mg base CX0 (k + 1) f fd ["expression", "point", "base"] (spVal0 K) := ok_val0 F T bV gV
  refine F.ok scVal (fun vs H Q E h => ?_) (fun cdv A outer s H vs Q E hr h => ?_)
  · obtain ⟨v, p, o, b, r, x, y, rfl, _⟩ := h
    rfl
  · obtain ⟨v, p, o, b, r, x, y, rfl, hb2, hb4, ok, pt, hd, hp, q⟩ := h
    obtain ⟨pa, rfl, hs⟩ := dt_stand hp
    refine ⟨_, pss_cons (ps_if (pt_val (pe_callB call_isi (by rfl) T.isi (by decide +kernel) (pa_cons (pv 0) (pa_cons (pe_bltn (v := .ty "tuple") (by rfl) T.tuple (by decide +kernel) rfl) pa_nil))))
        (pss_cons (ps_asg (pv 0) (pg_tup (by rfl) (pgs_cons (pg_name (i := 3) scVal.nd rfl (.inl rfl)) (pgs_cons (pg_name (i := 4) scVal.nd rfl (.inl rfl)) (pgs_cons (pg_name (i := 5) scVal.nd rfl (.inl rfl)) pgs_nil)))))
        (pss_cons (ps_set (i := 6) scVal.nd rfl (.inl rfl) (pe_call G hr (by rfl) gV F.kp bV .nil pass0 (pa_cons (pv 4) (pa_cons (pv 1) (pa_cons (pv 2) pa_nil)))))
        (pss_cons (ps_set (i := 7) scVal.nd rfl (.inl rfl) (pe_call G hr (by rfl) gV F.kp bV .nil pass0 (pa_cons (pv 5) (pa_cons (pv 1) (pa_cons (pv 2) pa_nil)))))
        (pss_cons (ps_if (pt_cmpR op_eq (pv 3) pe_str (nomark _)) (pss_one (ps_ret (pe_op op_mod (pe_op op_add (pv 6) (pv 7)) (pv 2)))) pss_nil)
        (pss_cons (ps_if (pt_cmpR op_eq (pv 3) pe_str (nomark _)) (pss_one (ps_ret (pe_op op_mod (pe_op op_sub (pv 6) (pv 7)) (pv 2)))) pss_nil)
        (pss_one (ps_ret (pe_op op_mod (pe_op op_mul (pv 6) (pv 7)) (pv 2))))))))) pss_nil)
      (pss_cons (ps_if (pt_cmpR op_eq (pv 0) pe_str (nomark _)) (pss_one (ps_ret (pe_ix ix_tup (pv 1) pe_int (fun _ _ => rfl)))) pss_nil)
      (pss_cons (ps_if (pt_cmpR op_eq (pv 0) pe_str (nomark _)) (pss_one (ps_ret (pe_ix ix_tup (pv 1) pe_int (fun _ _ => rfl)))) pss_nil)
      (pss_one (ps_ret (pv 0))))), ?_⟩
    cases o with
    | o a =>
      rcases dt_op hd with ⟨rfl, rfl⟩ | ⟨rfl, rfl⟩ | ⟨k, rfl, rfl⟩
      · refine ⟨_, rfl, _, .ty "tuple", .type "str", .type "tuple", false, rfl, .ty _, dp_ty (.str "x"), kit_ty (by decide +kernel), false, rfl, iteF ?_⟩
        refine ⟨_, rfl, rfl, _, rfl, ite2 (fun _ => ?_) (fun e => absurd (decide_eq_true rfl) e)⟩
        exact ⟨_, rfl, pa, _, 1, .int x, rfl, rfl, hs, atI_nat (j := 1) rfl, q⟩
      · refine ⟨_, rfl, _, .ty "tuple", .type "str", .type "tuple", false, rfl, .ty _, dp_ty (.str "y"), kit_ty (by decide +kernel), false, rfl, iteF ?_⟩
        refine ⟨_, rfl, rfl, _, rfl, ite2 (fun e => absurd (of_decide_eq_true e) ne_xy) (fun _ => ?_)⟩
        refine ⟨_, rfl, rfl, _, rfl, ite2 (fun _ => ?_) (fun e => absurd (decide_eq_true rfl) e)⟩
        exact ⟨_, rfl, pa, _, 2, .int y, rfl, rfl, hs, atI_nat (j := 2) rfl, q⟩
      · refine ⟨_, rfl, _, .ty "tuple", .type "int", .type "tuple", false, rfl, .ty _, dp_ty (.int k), kit_ty (by decide +kernel), false, rfl, iteF ?_⟩
        refine ⟨_, rfl, rfl, _, rfl, ite2 (fun e => by have z := of_decide_eq_true e; cases z) (fun _ => ?_)⟩
        refine ⟨_, rfl, rfl, _, rfl, ite2 (fun e => by have z := of_decide_eq_true e; cases z) (fun _ => ?_)⟩
        exact ⟨_, rfl, q⟩
    | t z l r1 =>
      obtain ⟨hz, okl, okr⟩ := ok
      obtain ⟨a, v1, v2, v3, rfl, ha, h1, h2, h3⟩ := dt_three hd
      cases h1
      have il := Op.val_in okl pt.1 pt.2
      have ir := Op.val_in okr pt.1 pt.2
      refine ⟨_, rfl, _, .ty "tuple", .type "tuple", .type "tuple", true, rfl, .ty _, tyx_tup ha, kit_ty (by decide +kernel), true, rfl, iteT ?_⟩
      refine ⟨_, rfl, a, _, rfl, ha, rfl, _, _, rfl, _, _, rfl, _, _, rfl, rfl, ?_⟩
      refine ⟨v2, rfl, .ref pa, rfl, .int b, rfl, v2, .ref pa, l, b, r, x, y, rfl, h2, hp, ?_⟩
      refine ⟨v3, rfl, .ref pa, rfl, .int b, rfl, v3, .ref pa, r1, b, r, x, y, rfl, h3, hp, ?_⟩
      have b0 : (0 : Int) < b := by omega
      have q' : Q (.int (sgn z b (l.val x y) (r1.val x y))) H := q
      rcases hz with rfl | rfl | rfl
      · refine ⟨_, rfl, rfl, _, rfl, ite2 (fun _ => ?_) (fun e => absurd (decide_eq_true rfl) e)⟩
        exact ⟨_, rfl, _, rfl, _, _, rfl, rfl, _, rfl, _, b, rfl, rfl, b0, q'⟩
      · refine ⟨_, rfl, rfl, _, rfl, ite2 (fun e => absurd (of_decide_eq_true e) (by decide +kernel)) (fun _ => ?_)⟩
        refine ⟨_, rfl, rfl, _, rfl, ite2 (fun _ => ?_) (fun e => absurd (decide_eq_true rfl) e)⟩
        exact ⟨_, rfl, _, rfl, _, _, rfl, rfl, _, rfl, _, b, rfl, rfl, b0, q'⟩
      · refine ⟨_, rfl, rfl, _, rfl, ite2 (fun e => absurd (of_decide_eq_true e) (by decide +kernel)) (fun _ => ?_)⟩
        refine ⟨_, rfl, rfl, _, rfl, ite2 (fun e => absurd (of_decide_eq_true e) (by decide +kernel)) (fun _ => ?_)⟩
        exact ⟨_, rfl, _, rfl, _, _, rfl, rfl, .inl ⟨by omega, by omega⟩, _, rfl, _, b, rfl, rfl, b0, q'⟩
end
end Kx

namespace Kx
open PySem PySem.Spec PyProof.Rows L2
section
variable {P : Program} {w : World} {K : PySem.W.Frag} {mg : Str → Option Value} {base : Heap}
def spLval0 (K : PySem.W.Frag) : Sp := fun vs H Q _ => ∃ (v : V) (o : Op) (b x y : Int), vs = [v, .int x, .int y, .int b] ∧ Dt K H v o.d ∧ Q (.int (o.val x y)) H
def spLval (K : PySem.W.Frag) : Sp := fun vs H Q _ => ∃ (v : V) (o : Ex) (b x y : Int), vs = [v, .int x, .int y, .int b] ∧ 2 ≤ b ∧ b ≤ 4 ∧ o.ok b ∧ Pt b x y ∧ Dt K H v o.d ∧ ∀ H', Same H H' → Q (.int (o.val b x y)) H'
theorem pick3 (A B C : V) : valV (mergeK [] [((Sum.inr "+" : Key), A), (Sum.inr "-", B), (Sum.inr "*", C)]) (Sum.inr "+") = some A ∧ valV (mergeK [] [((Sum.inr "+" : Key), A), (Sum.inr "-", B), (Sum.inr "*", C)]) (Sum.inr "-") = some B ∧ valV (mergeK [] [((Sum.inr "+" : Key), A), (Sum.inr "-", B), (Sum.inr "*", C)]) (Sum.inr "*") = some C := by
  refine ⟨rfl, rfl, rfl⟩
theorem ok_lval0 {f : Addr} {fd : FuncData} {k : Nat} (F : Fun K "_law_value" "_law_value" sLval f fd) (T : Bi mg) (bV : Binds K fd ["_law_one", "_law_x", "_law_y", "_law_radix"] []) (gV : mg "_law_value" = some (.ref f)) : FnOk P w K mg base CX0 (k + 1) f fd ["_law_one", "_law_x", "_law_y", "_law_radix"] (spLval0 K) := by
  have G : FnOk P w K mg base CX0 k f fd ["_law_one", "_law_x", "_law_y", "_law_radix"] spNo := ok_no
  refine F.ok scLval (fun vs H Q E h => ?_) (fun cdv A outer s H vs Q E hr h => ?_)
  · obtain ⟨v, o, b, x, y, rfl, _⟩ := h
    rfl
  · obtain ⟨v, o, b, x, y, rfl, hd, q⟩ := h
    refine ⟨_, pss_cons (ps_if (pt_val (pe_callB call_isi (by rfl) T.isi (by decide +kernel) (pa_cons (pv 0) (pa_cons (pe_bltn (v := .ty "str") (by rfl) T.str (by decide +kernel) rfl) pa_nil)))) (pss_one (ps_ret (pe_ifExp (pt_cmpR op_eq (pv 0) pe_str (nomark _)) (pv 1) (pv 2)))) pss_nil)
      (pss_cons (ps_if (pt_not (pt_val (pe_callB call_isi (by rfl) T.isi (by decide +kernel) (pa_cons (pv 0) (pa_cons (pe_bltn (v := .ty "tuple") (by rfl) T.tuple (by decide +kernel) rfl) pa_nil))))) (pss_one (ps_ret (pv 0))) pss_nil)
      (pss_cons (ps_par (i := 4) (j := 5) (by rfl) scLval.nd rfl rfl (by decide) rfl rfl (pa_cons (pe_call G hr (by rfl) gV F.kp bV .nil pass0 (pa_cons (pe_ix ix_tup (pv 0) pe_int (fun _ _ => rfl)) (pa_cons (pv 1) (pa_cons (pv 2) (pa_cons (pv 3) pa_nil))))) (pa_cons (pe_call G hr (by rfl) gV F.kp bV .nil pass0 (pa_cons (pe_ix ix_tup (pv 0) pe_int (fun _ _ => rfl)) (pa_cons (pv 1) (pa_cons (pv 2) (pa_cons (pv 3) pa_nil))))) pa_nil)) (by rfl))
      (pss_one (ps_ret (pe_op op_mod (pe_dget (hu_of hr) (pe_disp (pps_cons pe_str (pe_op op_add (pv 4) (pv 5)) (pps_cons pe_str (pe_op op_sub (pv 4) (pv 5)) (pps_cons pe_str (pe_op op_mul (pv 4) (pv 5)) pps_nil))) (by rfl) (by rfl) (fun z => by cases z) (by decide)) (pe_ix ix_tup (pv 0) pe_int (fun _ _ => rfl)) (fun _ _ => rfl)) (pv 3)))))), ?_⟩
    rcases dt_op hd with ⟨rfl, rfl⟩ | ⟨rfl, rfl⟩ | ⟨k, rfl, rfl⟩
    · refine ⟨_, rfl, _, .ty "str", .type "str", .type "str", true, rfl, .ty _, dp_ty (.str "x"), kit_ty (by decide +kernel), true, rfl, iteT ?_⟩
      exact ⟨_, rfl, rfl, _, rfl, ite2 (fun _ => ⟨_, rfl, q⟩) (fun e => absurd (decide_eq_true rfl) e)⟩
    · refine ⟨_, rfl, _, .ty "str", .type "str", .type "str", true, rfl, .ty _, dp_ty (.str "y"), kit_ty (by decide +kernel), true, rfl, iteT ?_⟩
      exact ⟨_, rfl, rfl, _, rfl, ite2 (fun e => absurd (of_decide_eq_true e) ne_xy) (fun _ => ⟨_, rfl, q⟩)⟩
    · refine ⟨_, rfl, _, .ty "str", .type "int", .type "str", false, rfl, .ty _, dp_ty (.int k), kit_ty (by decide +kernel), false, rfl, iteF ?_⟩
      refine ⟨_, rfl, _, .ty "tuple", .type "int", .type "tuple", false, rfl, .ty _, dp_ty (.int k), kit_ty (by decide +kernel), false, rfl, iteT ?_⟩
      exact ⟨_, rfl, q⟩
theorem ok_lval {f : Addr} {fd : FuncData} {k : Nat} (F : Fun K "_law_value" "_law_value" sLval f fd) (T : Bi mg) (bV : Binds K fd ["_law_one", "_law_x", "_law_y", "_law_radix"] []) (gV : mg "_law_value" = some (.ref f)) : FnOk P w K mg base CX0 (k + 2) f fd ["_law_one", "_law_x", "_law_y", "_law_radix"] (spLval K) := by
  have G : FnOk P w K mg base CX0 (k + 1) f fd ["_law_one", "_law_x", "_law_y", "_law_radix"] (spLval0 K) := ok_lval0 F T bV gV
  refine F.ok scLval (fun vs H Q E h => ?_) (fun cdv A outer s H vs Q E hr h => ?_)
  · obtain ⟨v, o, b, x, y, rfl, _⟩ := h
    rfl
  · obtain ⟨v, o, b, x, y, rfl, hb2, hb4, ok, pt, hd, q⟩ := h
    refine ⟨_, pss_cons (ps_if (pt_val (pe_callB call_isi (by rfl) T.isi (by decide +kernel) (pa_cons (pv 0) (pa_cons (pe_bltn (v := .ty "str") (by rfl) T.str (by decide +kernel) rfl) pa_nil)))) (pss_one (ps_ret (pe_ifExp (pt_cmpR op_eq (pv 0) pe_str (nomark _)) (pv 1) (pv 2)))) pss_nil)
      (pss_cons (ps_if (pt_not (pt_val (pe_callB call_isi (by rfl) T.isi (by decide +kernel) (pa_cons (pv 0) (pa_cons (pe_bltn (v := .ty "tuple") (by rfl) T.tuple (by decide +kernel) rfl) pa_nil))))) (pss_one (ps_ret (pv 0))) pss_nil)
      (pss_cons (ps_par (i := 4) (j := 5) (by rfl) scLval.nd rfl rfl (by decide) rfl rfl (pa_cons (pe_call G hr (by rfl) gV F.kp bV .nil pass0 (pa_cons (pe_ix ix_tup (pv 0) pe_int (fun _ _ => rfl)) (pa_cons (pv 1) (pa_cons (pv 2) (pa_cons (pv 3) pa_nil))))) (pa_cons (pe_call G hr (by rfl) gV F.kp bV .nil pass0 (pa_cons (pe_ix ix_tup (pv 0) pe_int (fun _ _ => rfl)) (pa_cons (pv 1) (pa_cons (pv 2) (pa_cons (pv 3) pa_nil))))) pa_nil)) (by rfl))
      (pss_one (ps_ret (pe_op op_mod (pe_dget (hu_of hr) (pe_disp (pps_cons pe_str (pe_op op_add (pv 4) (pv 5)) (pps_cons pe_str (pe_op op_sub (pv 4) (pv 5)) (pps_cons pe_str (pe_op op_mul (pv 4) (pv 5)) pps_nil))) (by rfl) (by rfl) (fun z => by cases z) (by decide)) (pe_ix ix_tup (pv 0) pe_int (fun _ _ => rfl)) (fun _ _ => rfl)) (pv 3)))))), ?_⟩
    cases o with
    | o a =>
      rcases dt_op hd with ⟨rfl, rfl⟩ | ⟨rfl, rfl⟩ | ⟨k, rfl, rfl⟩
      · refine ⟨_, rfl, _, .ty "str", .type "str", .type "str", true, rfl, .ty _, dp_ty (.str "x"), kit_ty (by decide +kernel), true, rfl, iteT ?_⟩
        exact ⟨_, rfl, rfl, _, rfl, ite2 (fun _ => ⟨_, rfl, q _ (Same.refl H)⟩) (fun e => absurd (decide_eq_true rfl) e)⟩
      · refine ⟨_, rfl, _, .ty "str", .type "str", .type "str", true, rfl, .ty _, dp_ty (.str "y"), kit_ty (by decide +kernel), true, rfl, iteT ?_⟩
        exact ⟨_, rfl, rfl, _, rfl, ite2 (fun e => absurd (of_decide_eq_true e) ne_xy) (fun _ => ⟨_, rfl, q _ (Same.refl H)⟩)⟩
      · refine ⟨_, rfl, _, .ty "str", .type "int", .type "str", false, rfl, .ty _, dp_ty (.int k), kit_ty (by decide +kernel), false, rfl, iteF ?_⟩
        refine ⟨_, rfl, _, .ty "tuple", .type "int", .type "tuple", false, rfl, .ty _, dp_ty (.int k), kit_ty (by decide +kernel), false, rfl, iteT ?_⟩
        exact ⟨_, rfl, q _ (Same.refl H)⟩
    | t z l r1 =>
      obtain ⟨hz, okl, okr⟩ := ok
      obtain ⟨a, v1, v2, v3, rfl, ha, h1, h2, h3⟩ := dt_three hd
      cases h1
      have il := Op.val_in okl pt.1 pt.2
      have ir := Op.val_in okr pt.1 pt.2
      refine ⟨_, rfl, _, .ty "str", .type "tuple", .type "str", false, rfl, .ty _, tyx_tup ha, kit_ty (by decide +kernel), false, rfl, iteF ?_⟩
      refine ⟨_, rfl, _, .ty "tuple", .type "tuple", .type "tuple", true, rfl, .ty _, tyx_tup ha, kit_ty (by decide +kernel), true, rfl, iteF ?_⟩
      refine ⟨_, rfl, a, _, 1, v2, rfl, rfl, ha, atI_nat (j := 1) rfl, _, rfl, _, rfl, _, rfl, v2, l, b, x, y, rfl, h2, ?_⟩
      refine ⟨_, rfl, a, _, 2, v3, rfl, rfl, ha, atI_nat (j := 2) rfl, _, rfl, _, rfl, _, rfl, v3, r1, b, x, y, rfl, h3, ?_⟩
      refine ⟨_, _, rfl, fun p np => ?_⟩
      refine ⟨_, rfl, _, rfl, _, _, rfl, rfl, _, rfl, _, rfl, _, _, rfl, rfl, _, rfl, _, rfl, _, _, rfl, rfl, .inl ⟨by omega, by omega⟩, upd_same, [(Sum.inr "+", .int (l.val x y + r1.val x y)), (Sum.inr "-", .int (l.val x y - r1.val x y)), (Sum.inr "*", .int (l.val x y * r1.val x y))], rfl, (by show 3 ≤ 15; decide), ?_⟩
      have s1 : Same H (upd (upd H p (.dK [])) p (.dK (mergeK [] [(Sum.inr "+", .int (l.val x y + r1.val x y)), (Sum.inr "-", .int (l.val x y - r1.val x y)), (Sum.inr "*", .int (l.val x y * r1.val x y))]))) := same_put np (same_new np)
      have hp : (upd (upd H p (.dK [])) p (.dK (mergeK [] [((Sum.inr "+" : Key), V.int (l.val x y + r1.val x y)), (Sum.inr "-", .int (l.val x y - r1.val x y)), (Sum.inr "*", .int (l.val x y * r1.val x y))]))) p = some (.dK (mergeK [] [(Sum.inr "+", .int (l.val x y + r1.val x y)), (Sum.inr "-", .int (l.val x y - r1.val x y)), (Sum.inr "*", .int (l.val x y * r1.val x y))])) := upd_same
      have b0 : (0 : Int) < b := by omega
      have q' := q _ s1
      have ha' := keepT_same (K := K) s1 _ _ ha
      have g := pick3 (.int (l.val x y + r1.val x y)) (.int (l.val x y - r1.val x y)) (.int (l.val x y * r1.val x y))
      rcases hz with rfl | rfl | rfl
      · exact ⟨_, rfl, a, _, 0, .str "+", rfl, rfl, ha', atI_nat (j := 0) rfl, p, .int (l.val x y + r1.val x y), rfl, g.1 ▸ DGet.k (k := Sum.inr "+") hp, _, rfl, _, b, rfl, rfl, b0, q'⟩
      · exact ⟨_, rfl, a, _, 0, .str "-", rfl, rfl, ha', atI_nat (j := 0) rfl, p, .int (l.val x y - r1.val x y), rfl, g.2.1 ▸ DGet.k (k := Sum.inr "-") hp, _, rfl, _, b, rfl, rfl, b0, q'⟩
      · exact ⟨_, rfl, a, _, 0, .str "*", rfl, rfl, ha', atI_nat (j := 0) rfl, p, .int (l.val x y * r1.val x y), rfl, g.2.2 ▸ DGet.k (k := Sum.inr "*") hp, _, rfl, _, b, rfl, rfl, b0, q'⟩
end
end Kx

namespace Kx
open PySem PySem.Spec PyProof.Rows L2
abbrev sSil : Stmt := topS 11
abbrev sLstands : Stmt := topS 28
theorem scSil : FnScope ["text", "row"] ["text", "row"] (defScope sSil) := ⟨rfl, rfl, rfl, by decide +kernel, rfl, by decide +kernel, by decide +kernel⟩
theorem scLst : FnScope ["_law_rows", "_law_radix", "_law_found", "_law_at", "_law_k"] ["_law_rows", "_law_radix"] (defScope sLstands) := ⟨rfl, rfl, rfl, by decide +kernel, rfl, by decide +kernel, by decide +kernel⟩
section
variable {P : Program} {w : World} {K : PySem.W.Frag} {mg : Str → Option Value} {base : Heap}
def SilK (K : PySem.W.Frag) (p : Addr) : Prop := ∀ H, SqT K H p [.str "set", .str "if", .str "go"]
def spSil (K : PySem.W.Frag) : Sp := fun vs H Q _ => ∃ (v : V) (t : List Rw) (i : Nat), vs = [v, .int i] ∧ Dt K H v (Tx.d t) ∧ i ≤ t.length ∧ Q (.bl (silentAt t i)) H
theorem ok_sil {f pS : Addr} {fd : FuncData} {k : Nat} (F : Fun K "is_silent" "is_silent" sSil f fd) (ml : mg "len" = none) (gS : mg "SILENT" = some (.ref pS)) (hS : SilK K pS) : FnOk P w K mg base CX0 (k + 1) f fd ["text", "row"] (spSil K) := by
  refine F.ok scSil (fun vs H Q E h => ?_) (fun cdv A outer s H vs Q E hr h => ?_)
  · obtain ⟨v, t, i, rfl, _⟩ := h
    rfl
  · obtain ⟨v, t, i, rfl, hd, hi, q⟩ := h
    obtain ⟨a, xs, rfl, hx, lx, rows⟩ := dt_text hd
    refine ⟨_, pss_one (ps_ret (pe_and (pe_cmpR op_lt (pv 1) (pe_callB call_len_seq (by rfl) ml PySem.boot_len (pa_cons (pv 0) pa_nil)) (nomark _))
      (pe_one (pe_cmpR op_in_seq (pe_ix ix_tup (pe_ix ix_tup (pv 0) (pv 1) (fun _ _ => rfl)) pe_int (fun _ _ => rfl)) (pe_glob (v := .ref pS) rfl gS rfl) (by rfl))))), ?_⟩
    refine ⟨.int i, rfl, .ref a, rfl, a, xs, rfl, .inr hx, i, xs.length, rfl, rfl, _, rfl, ?_⟩
    by_cases h : i < t.length
    · rw [decide_eq_true (show (i : Int) < (xs.length : Int) by omega)]
      obtain ⟨p, ys, e1, e2, e3⟩ := rows i t[i] (List.getElem?_eq_getElem h)
      refine iteT ⟨.ref a, rfl, .int i, rfl, a, _, i, .ref p, rfl, rfl, hx, atI_nat e1, p, _, 0, .str (t[i]).w, rfl, rfl, e2, atI_nat (j := 0) rfl, pS, _, rfl, .inr (hS H), rfl, rfl, ?_⟩
      show Q (.bl (inV (.str (t[i]).w) [.str "set", .str "if", .str "go"])) H
      rw [Rw.w_in]
      unfold silentAt at q
      rw [List.getElem?_eq_getElem h] at q
      exact q
    · rw [decide_eq_false (show ¬ (i : Int) < (xs.length : Int) by omega)]
      refine iteF ?_
      unfold silentAt at q
      rw [List.getElem?_eq_none (by omega)] at q
      exact q
def spLst (K : PySem.W.Frag) : Sp := fun vs H Q _ => ∃ (v : V) (t : List Rw) (b : Nat), vs = [v, .int b] ∧ Dt K H v (Tx.d t) ∧ t.length ≤ 100 ∧ (b = 2 ∨ b = 3 ∨ b = 4) ∧ ∀ p xs H', H p = none → H' p = some (.lst xs) → DtAll K H' xs (stands t b (t.length + 1)) → Same H H' → Q (.ref p) H'
theorem ok_lst {f : Addr} {fd : FuncData} {k : Nat} (F : Fun K "_law_stands" "_law_stands" sLstands f fd) (ml : mg "len" = none) (mr : mg "range" = none) : FnOk P w K mg base CX0 (k + 1) f fd ["_law_rows", "_law_radix"] (spLst K) := by
  refine F.ok scLst (fun vs H Q E h => ?_) (fun cdv A outer s H vs Q E hr h => ?_)
  · obtain ⟨v, t, b, rfl, _⟩ := h
    rfl
  · obtain ⟨v, t, b, rfl, hd, lt, hb, q⟩ := h
    obtain ⟨a, xs, rfl, hx, lx, rows⟩ := dt_text hd
    refine ⟨_, pss_cons (ps_set (i := 2) scLst.nd rfl (.inl rfl) (pe_lst pa_nil))
      (pss_cons (ps_for PassesOwn.never rfl (pi_range1 (by rfl) mr (pa_cons (pe_op op_add (pe_callB call_len_seq (by rfl) ml PySem.boot_len (pa_cons (pv 0) pa_nil)) pe_int) pa_nil)) (pg_name (i := 3) scLst.nd rfl (.inr rfl))
        (pss_one (ps_if (PW.pt (pw_or (pt_cmpR op_eq (pv 3) (pe_callB call_len_seq (by rfl) ml PySem.boot_len (pa_cons (pv 0) pa_nil)) (nomark _)) (pw_or1 (pt_cmpR op_notIn_seq (pe_ix ix_tup (pe_ix ix_tup (pv 0) (pv 3) (fun _ _ => rfl)) pe_int (fun _ _ => rfl)) (pe_tup (pa_cons pe_str (pa_cons pe_str (pa_cons pe_str pa_nil)))) (by rfl)))))
          (pss_one (ps_expr (pe_bm PySem.F.plainAttrs_list PySem.F.slot_list_extend PySem.F.type_list_extend mt_extend (pv 2) (pa_cons
            (pe_lc (own := [("_law_k", 4)]) (g := gName 4) (tt := tYes) (by rfl) scLst.nd (pi_range1 (by rfl) mr (pa_cons (pe_op op_mul (pv 1) (pv 1)) pa_nil)) (blkOk_by (N := ["_law_rows", "_law_radix", "_law_found", "_law_at", "_law_k"]) (sc := defScope sLstands) (by decide +kernel))
              (fun _ _ _ _ _ => pg_name (i := 4) scLst.nd rfl (Or.inl rfl)) (fun _ _ _ _ _ => pts_nil)
              (fun _ _ _ _ _ => pe_tup (pa_cons (pv 3) (pa_cons (pe_op op_fdiv (pv 4) (pv 1)) (pa_cons (pe_op op_mod (pv 4) (pv 1)) pa_nil))))) pa_nil)))) pss_nil)))
      (pss_one (ps_ret (pv 2)))), ?_⟩
    refine ⟨Nat.zero_le _, fun p hp => ?_⟩
    refine ⟨.ref a, rfl, a, xs, rfl, .inr ((keepT_same (same_new hp)) _ _ hx), _, 1, rfl, rfl, _, rfl, by omega, by omega, ?_⟩
    refine for_range (lo := 0) (n := xs.length + 1) (fun i σ H' => ∃ y3, σ = [some (.ref a), some (.int b), some (.ref p), y3, none] ∧ ∃ zs, H' p = some (.lst zs) ∧ DtAll K H' zs (stands t b i) ∧ Same H H')
      ⟨none, rfl, [], upd_same, .nil, same_new hp⟩ ?_ ?_
    · rintro i σ H2 hi ⟨y3, rfl, zs, hz, dz, s2⟩
      have hx2 := keepT_same (K := K) s2 _ _ hx
      refine (fun (mid : ∀ H3, Same H H3 → H3 p = some (.lst zs) → DtAll K H3 zs (stands t b i) → silentAt t i = false → (?T : Hp → Prop) H3) => ?main) ?midp
      case main =>
        refine ⟨_, rfl, .ref a, rfl, a, xs, rfl, .inr hx2, rfl, _, rfl, ite2 (fun e => ?_) (fun e => ?_)⟩
        · have e1 : (0 + (i : Int)) = (xs.length : Int) := V.int.inj (of_decide_eq_true e)
          exact mid H2 s2 hz dz (by unfold silentAt; rw [List.getElem?_eq_none (by omega)])
        · have ne : i ≠ xs.length := fun z => e (decide_eq_true (by rw [z, Int.zero_add]))
          have hlt : i < t.length := by omega
          obtain ⟨pr, ys, r1, r2, r3⟩ := rows i t[i] (List.getElem?_eq_getElem hlt)
          refine ⟨.ref a, rfl, _, rfl, a, _, (0 + (i : Int)), .ref pr, rfl, rfl, hx2, (by rw [Int.zero_add]; exact atI_nat r1), pr, _, 0, .str (t[i]).w, rfl, rfl, keepT_same s2 _ _ r2, atI_nat (j := 0) rfl, (by show 3 ≤ sizeLine; decide), fun q3 n3 => ?_⟩
          refine ⟨q3, _, rfl, .inr (SqT.of upd_same), rfl, rfl, _, rfl, ite2 (fun e2 => ?_) (fun e2 => ?_)⟩
          · have e3 : (!inV (.str (t[i]).w) [.str "set", .str "if", .str "go"]) = true := e2
            rw [Rw.w_in] at e3
            have s3 := s2.trans (same_new n3 (o := .tup [.str "set", .str "if", .str "go"]))
            have s23 := same_new n3 (o := .tup [.str "set", .str "if", .str "go"])
            revert s3 s23
            generalize upd H2 q3 (.tup [.str "set", .str "if", .str "go"]) = H3
            intro s3 s23
            exact mid H3 s3 (s23 _ _ hz) (dz.keep (keepT_same s23)) (by unfold silentAt; rw [List.getElem?_eq_getElem hlt]; simpa using e3)
          · have e3 : ¬ (!inV (.str (t[i]).w) [.str "set", .str "if", .str "go"]) = true := e2
            rw [Rw.w_in] at e3
            have s23 := same_new n3 (o := .tup [.str "set", .str "if", .str "go"])
            have sl : silentAt t i = true := by unfold silentAt; rw [List.getElem?_eq_getElem hlt]; simpa using e3
            exact ⟨_, rfl, zs, s23 _ _ hz, by rw [stands_succ, if_pos sl]; exact dz.keep (keepT_same s23), s2.trans s23⟩
      case midp =>
        intro H3 s3 hz3 dz3 sl
        refine ⟨.ref p, rfl, .inl ⟨rfl, _, SqL.of hz3⟩, .int b, rfl, .int b, rfl, b, b, rfl, rfl, .inl ⟨by omega, by omega⟩, _, rfl, ?_, ?_, fun D hD => ?_⟩
        · rcases hb with rfl | rfl | rfl <;> decide
        · rcases hb with rfl | rfl | rfl <;> decide
        have pD : p ≠ D := ne_of_none hz3 hD
        refine lc_range (lo := 0) (n := b * b) (fun j H' => ∃ us, H' D = some (.lst us) ∧ us.length = j ∧ DtAll K H' us (flat b i j) ∧ Same H3 H') ⟨[], upd_same, rfl, .nil, same_new hD⟩ (fun j H4 hj pj => ?_) (fun H4 pj => ?_)
        · obtain ⟨us, hu, lu, du, s4⟩ := pj
          have b0 : (0 : Int) < b := by omega
          refine ⟨rfl, _, rfl, _, rfl, .int b, rfl, (0 + (j : Int)), b, rfl, rfl, ⟨b0, by omega⟩, _, rfl, .int b, rfl, (0 + (j : Int)), b, rfl, rfl, b0, (by show 3 ≤ sizeLine; decide), fun T nT => ?_⟩
          have s45 := same_new nT (o := .tup [.int (0 + (i : Int)), .int ((0 + (j : Int)) / (b : Int)), .int ((0 + (j : Int)) % (b : Int))])
          have hu5 := s45 _ _ hu
          have dT : Dt K (upd H4 T (.tup [.int (0 + (i : Int)), .int ((0 + (j : Int)) / (b : Int)), .int ((0 + (j : Int)) % (b : Int))])) (.ref T) (stD i (j / b) (j % b)) := by
            have z := dt_new (K := K) nT (xs := [.int (0 + (i : Int)), .int ((0 + (j : Int)) / (b : Int)), .int ((0 + (j : Int)) % (b : Int))]) (ds := [.int (0 + (i : Int)), .int ((0 + (j : Int)) / (b : Int)), .int ((0 + (j : Int)) % (b : Int))]) (.cons (.int _) (.cons (.int _) (.cons (.int _) .nil)))
            rw [Int.zero_add, Int.zero_add] at z ⊢
            exact z
          have kp := keepT_put (K := K) (ys := us ++ [.ref T]) hu5
          refine ⟨us, hu5, small1000 (by rcases hb with rfl | rfl | rfl <;> omega), us ++ [.ref T], upd_same, by rw [List.length_append, lu]; rfl, ?_, same_put hD (s4.trans s45)⟩
          rw [flat_succ]
          exact ((du.keep (keepT_same s45)).keep kp).snoc (dT.keep kp)
        · obtain ⟨us, hu, lu, du, s4⟩ := pj
          have hz4 := s4 _ _ hz3
          have kp := keepT_put (K := K) (ys := zs ++ us) hz4
          have lz := dz3.length
          have l2 := stands_len hb t i
          refine ⟨p, D, zs, us, rfl, rfl, hz4, hu, ?_, _, rfl, zs ++ us, upd_same, ?_, ?_⟩
          · have : b * b ≤ 16 := by rcases hb with rfl | rfl | rfl <;> decide
            exact Nat.le_of_lt (Nat.lt_of_le_of_lt (show zs.length + us.length ≤ 5000 by omega) (by decide))
          · rw [stands_succ, if_neg (by rw [sl]; decide), blk_flat hb]
            exact ((dz3.keep (keepT_same s4)).keep kp).app (du.keep kp)
          · exact same_put hp (s3.trans s4)
    · rintro σ H2 ⟨y3, rfl, zs, hz, dz, s2⟩
      refine ⟨.ref p, rfl, q p zs H2 hp hz ?_ s2⟩
      rw [← lx]
      exact dz
end
end Kx

namespace Kx
open PySem PySem.Spec PyProof.Rows L2
abbrev sIst : Stmt := topS 12
abbrev sChk : Stmt := topS 13
theorem scIst : FnScope ["text", "thing", "base", "row", "x", "y", "part"] ["text", "thing", "base"] (defScope sIst) := ⟨rfl, rfl, rfl, by decide +kernel, rfl, by decide +kernel, by decide +kernel⟩
theorem scChk : FnScope ["text", "thing", "base"] ["text", "thing", "base"] (defScope sChk) := ⟨rfl, rfl, rfl, by decide +kernel, rfl, by decide +kernel, by decide +kernel⟩
/-- (r, x, y) is a stand of the text -/
def Stand (t : List Rw) (b r x y : Int) : Prop := (r = -1 ∧ x = 0 ∧ y = 0) ∨ ∃ i : Nat, r = i ∧ i ≤ t.length ∧ silentAt t i = false ∧ Pt b x y
section
variable {P : Program} {w : World} {K : PySem.W.Frag} {mg : Str → Option Value} {base : Heap}
def MuteK (K : PySem.W.Frag) (p : Addr) : Prop := ∀ H, SqT K H p [.int (-1), .int 0, .int 0]
def spIst (K : PySem.W.Frag) : Sp := fun vs H Q _ => ∃ (vt vs' : V) (t : List Rw) (b r x y : Int), vs = [vt, vs', .int b] ∧ Dt K H vt (Tx.d t) ∧ Dt K H vs' (stI r x y) ∧ Stand t b r x y ∧ ∀ H', Same H H' → Q (.bl true) H'
theorem ok_ist {f fI fB fS pM pS : Addr} {fd fdI fdB fdS : FuncData} {k : Nat} (F : Fun K "is_stand" "is_stand" sIst f fd) (T : Bi mg) (ma : mg "all" = none) (gM : mg "MUTE" = some (.ref pM)) (hM : MuteK K pM) (gSi : mg "SILENT" = some (.ref pS)) (hSi : SilK K pS)
    (FI : Fun K "is_integer" "is_integer" sInt fI fdI) (bI : Binds K fdI ["thing"] []) (gI : mg "is_integer" = some (.ref fI))
    (FB : Fun K "is_below" "is_below" sBel fB fdB) (bB : Binds K fdB ["thing", "top"] []) (gB : mg "is_below" = some (.ref fB))
    (FS : Fun K "is_silent" "is_silent" sSil fS fdS) (bS : Binds K fdS ["text", "row"] []) (gS : mg "is_silent" = some (.ref fS)) : FnOk P w K mg base CX0 (k + 3) f fd ["text", "thing", "base"] (spIst K) := by
  have GI : FnOk P w K mg base CX0 (k + 2) fI fdI ["thing"] (spInt K) := ok_int FI T
  have GB : FnOk P w K mg base CX0 (k + 2) fB fdB ["thing", "top"] (spBel K) := ok_bel FB T FI bI gI
  have GS : FnOk P w K mg base CX0 (k + 2) fS fdS ["text", "row"] (spSil K) := ok_sil FS T.len gSi hSi
  refine F.ok scIst (fun vs H Q E h => ?_) (fun cdv A outer s H vs Q E hr h => ?_)
  · obtain ⟨vt, vs', t, b, r, x, y, rfl, _⟩ := h
    rfl
  · obtain ⟨vt, vs', t, b, r, x, y, rfl, ht, hs, st, q⟩ := h
    obtain ⟨a, rfl, ha⟩ := dt_stand hs
    have hu := hr.units
    refine ⟨_, pss_cons (ps_if (PW.pt (pw_or (pt_not (pt_val (pe_callB call_isi (by rfl) T.isi (by decide +kernel) (pa_cons (pv 1) (pa_cons (pe_bltn (v := .ty "tuple") (by rfl) T.tuple (by decide +kernel) rfl) pa_nil))))) (pw_or1 (pt_cmpR op_ne (pe_callB call_len_seq (by rfl) T.len PySem.boot_len (pa_cons (pv 1) pa_nil)) pe_int (nomark _))))) (pss_one (ps_ret pe_bl)) pss_nil)
      (pss_cons (ps_if (pt_not (pt_val (pe_callB (cr_all (by rfl)) (by rfl) ma (by decide +kernel) (pa_cons
          (pe_lc (own := [("part", 6)]) (g := gName 6) (tt := tYes) (by rfl) scIst.nd (pi_tup (pv 1)) (blkOk_by (N := ["text", "thing", "base", "row", "x", "y", "part"]) (sc := defScope sIst) (by decide +kernel)) (fun _ _ _ _ _ => pg_name (i := 6) scIst.nd rfl (Or.inl rfl)) (fun _ _ _ _ _ => pts_nil)
            (fun _ _ _ _ _ => pe_call GI hr (by rfl) gI FI.kp bI .nil pass0 (pa_cons (pv 6) pa_nil))) pa_nil)))) (pss_one (ps_ret pe_bl)) pss_nil)
      (pss_cons (ps_if (pt_cmpR (op_eqD hu) (pv 1) (pe_glob (v := .ref pM) rfl gM rfl) (nomark _)) (pss_one (ps_ret pe_bl)) pss_nil)
      (pss_cons (ps_asg (pv 1) (pg_tup (by rfl) (pgs_cons (pg_name (i := 3) scIst.nd rfl (.inl rfl)) (pgs_cons (pg_name (i := 4) scIst.nd rfl (.inl rfl)) (pgs_cons (pg_name (i := 5) scIst.nd rfl (.inl rfl)) pgs_nil)))))
      (pss_cons (ps_if (PW.pt (pw_or (pt_not (pt_val (pe_call GB hr (by rfl) gB FB.kp bB .nil pass0 (pa_cons (pv 3) (pa_cons (pe_op op_add (pe_callB call_len_seq (by rfl) T.len PySem.boot_len (pa_cons (pv 0) pa_nil)) pe_int) pa_nil))))) (pw_or1 (pt_val (pe_call GS hr (by rfl) gS FS.kp bS .nil pass0 (pa_cons (pv 0) (pa_cons (pv 3) pa_nil))))))) (pss_one (ps_ret pe_bl)) pss_nil)
      (pss_one (ps_ret (pe_and (pe_call GB hr (by rfl) gB FB.kp bB .nil pass0 (pa_cons (pv 4) (pa_cons (pv 2) pa_nil))) (pe_one (pe_call GB hr (by rfl) gB FB.kp bB .nil pass0 (pa_cons (pv 5) (pa_cons (pv 2) pa_nil))))))))))), ?_⟩
    refine ⟨_, rfl, _, .ty "tuple", .type "tuple", .type "tuple", true, rfl, .ty _, tyx_tup ha, kit_ty (by decide +kernel), true, rfl, iteF ?_⟩
    refine ⟨_, rfl, a, _, rfl, .inr ha, rfl, _, rfl, ite2 (fun e => by have z : (!decide (V.int (3 : Int) = V.int 3)) = true := e; exact absurd z (by decide)) (fun _ => ?_)⟩
    refine ⟨_, rfl, a, rfl, ⟨_, ha⟩, fun D hD => ?_⟩
    refine lc_tup (K := K) (a := a) (xs := [.int r, .int x, .int y]) (fun i H' => H' D = some (.lst (List.replicate i (.bl true))) ∧ Same H H') ⟨upd_same, same_new hD⟩ (fun i H' _ p => keepT_same p.2 _ _ ha) (fun i v H2 hv p => ?_) (fun H2 p => ?_)
    · obtain ⟨hD2, s2⟩ := p
      obtain ⟨n, rfl⟩ : ∃ n : Int, v = .int n := by
        rcases i with _ | _ | _ | i
        · cases hv; exact ⟨_, rfl⟩
        · cases hv; exact ⟨_, rfl⟩
        · cases hv; exact ⟨_, rfl⟩
        · cases hv
      refine ⟨rfl, _, rfl, _, .int n, rfl, .int n, _, hD2, ?_, ?_, same_put hD s2⟩
      · rw [List.length_replicate]
        have := (List.getElem?_eq_some_iff.mp hv).1
        exact small1000 (by have z : i < 3 := this; omega)
      · rw [upd_same]
        show some (HO.lst (List.replicate i (V.bl true) ++ [V.bl true])) = _
        rw [← List.replicate_succ']
    · obtain ⟨hD2, s2⟩ := p
      refine ⟨D, [true, true, true], rfl, SqL.of hD2, true, rfl, iteF ?_⟩
      have ha2 := keepT_same (K := K) s2 _ _ ha
      refine ⟨_, rfl, .tuple [.int r, .int x, .int y], .tuple [.int (-1), .int 0, .int 0], .tup ha2 (.cons (.int _) (.cons (.int _) (.cons (.int _) .nil))), .tup (hM H2) (.cons (.int _) (.cons (.int _) (.cons (.int _) .nil))), rfl, rfl, _, rfl, ite2 (fun _ => q _ s2) (fun ne => ?_)⟩
      rcases st with ⟨rfl, rfl, rfl⟩ | ⟨i, rfl, hi, sl, px, py⟩
      · exact absurd (by decide +kernel) ne
      · refine ⟨_, rfl, a, _, rfl, ha2, rfl, _, _, rfl, _, _, rfl, _, _, rfl, rfl, ?_⟩
        obtain ⟨at', xs, rfl, hx, lx, _⟩ := dt_text (ht.keep (keepT_same s2))
        refine ⟨_, rfl, _, rfl, at', xs, rfl, .inr hx, _, _, rfl, rfl, _, .int i, _, rfl, .int _, _, rfl, ?_⟩
        have e1 : isBelow ((xs.length : Int) + 1) (.int (i : Int)) = true := by
          show (decide (0 ≤ (i : Int)) && decide ((i : Int) < (xs.length : Int) + 1)) = true
          rw [decide_eq_true (by omega), decide_eq_true (by omega)]
          rfl
        have e2 : isBelow b (.int x) = true := by
          show (decide (0 ≤ x) && decide (x < b)) = true
          rw [decide_eq_true px.1, decide_eq_true px.2]
          rfl
        have e3 : isBelow b (.int y) = true := by
          show (decide (0 ≤ y) && decide (y < b)) = true
          rw [decide_eq_true py.1, decide_eq_true py.2]
          rfl
        rw [e1]
        refine iteF ?_
        refine ⟨_, rfl, _, rfl, .ref at', t, i, rfl, ht.keep (keepT_same s2), hi, _, rfl, ?_⟩
        rw [sl]
        refine iteF ?_
        refine ⟨_, rfl, _, rfl, .int x, .int x, b, rfl, .int x, _, rfl, ?_⟩
        rw [e2]
        refine iteT ?_
        refine ⟨_, rfl, _, rfl, .int y, .int y, b, rfl, .int y, ?_⟩
        rw [e3]
        exact q _ s2
def spChk (K : PySem.W.Frag) : Sp := fun vs H Q _ => ∃ (vt vs' : V) (t : List Rw) (b r x y : Int), vs = [vt, vs', .int b] ∧ Dt K H vt (Tx.d t) ∧ Dt K H vs' (stI r x y) ∧ Stand t b r x y ∧ ∀ H', Same H H' → Q .non H'
theorem ok_chk {f fI fB fS fQ pM pS : Addr} {fd fdI fdB fdS fdQ : FuncData} {k : Nat} (F : Fun K "check_stand" "check_stand" sChk f fd) (T : Bi mg) (ma : mg "all" = none) (gM : mg "MUTE" = some (.ref pM)) (hM : MuteK K pM) (gSi : mg "SILENT" = some (.ref pS)) (hSi : SilK K pS)
    (FI : Fun K "is_integer" "is_integer" sInt fI fdI) (bI : Binds K fdI ["thing"] []) (gI : mg "is_integer" = some (.ref fI))
    (FB : Fun K "is_below" "is_below" sBel fB fdB) (bB : Binds K fdB ["thing", "top"] []) (gB : mg "is_below" = some (.ref fB))
    (FS : Fun K "is_silent" "is_silent" sSil fS fdS) (bS : Binds K fdS ["text", "row"] []) (gS : mg "is_silent" = some (.ref fS))
    (FQ : Fun K "is_stand" "is_stand" sIst fQ fdQ) (bQ : Binds K fdQ ["text", "thing", "base"] []) (gQ : mg "is_stand" = some (.ref fQ)) : FnOk P w K mg base CX0 (k + 4) f fd ["text", "thing", "base"] (spChk K) := by
  have GQ : FnOk P w K mg base CX0 (k + 3) fQ fdQ ["text", "thing", "base"] (spIst K) := ok_ist FQ T ma gM hM gSi hSi FI bI gI FB bB gB FS bS gS
  refine F.ok scChk (fun vs H Q E h => ?_) (fun cdv A outer s H vs Q E hr h => ?_)
  · obtain ⟨vt, vs', t, b, r, x, y, rfl, _⟩ := h
    rfl
  · obtain ⟨vt, vs', t, b, r, x, y, rfl, ht, hs, st, q⟩ := h
    refine ⟨_, pss_one (ps_if (pt_not (pt_val (pe_call GQ hr (by rfl) gQ FQ.kp bQ .nil pass0 (pa_cons (pv 0) (pa_cons (pv 1) (pa_cons (pv 2) pa_nil)))))) (pss_one ps_never) pss_nil), ?_⟩
    exact ⟨_, rfl, _, rfl, _, rfl, vt, vs', t, b, r, x, y, rfl, ht, hs, st, fun H' s' => ⟨true, rfl, iteF (q H' s')⟩⟩
end
end Kx

namespace Kx
open PySem PySem.Spec PyProof.Rows L2
abbrev sDat : Stmt := topS 14
abbrev sLde : Stmt := topS 26
theorem scDat : FnScope ["text", "stand", "base", "line"] ["text", "stand", "base"] (defScope sDat) := ⟨rfl, rfl, rfl, by decide +kernel, rfl, by decide +kernel, by decide +kernel⟩
theorem scLde : FnScope ["_law_rows", "_law_stand", "_law_radix", "_law_at", "_law_x", "_law_y", "_law_row_here"] ["_law_rows", "_law_stand", "_law_radix"] (defScope sLde) := ⟨rfl, rfl, rfl, by decide +kernel, rfl, by decide +kernel, by decide +kernel⟩
def Rw.deed (b x y : Int) : Rw → List PyData
  | .say e => [.str "say", .int (e.val b x y)]
  | .ask _ => [.str "ask"]
  | .read c _ => [.str "read", .int c]
  | .write c e => [.str "write", .int c, .int (e.val b x y)]
  | .call n e _ => [.str "call", .str n, .int (e.val b x y)]
  | .fin e => [.str "end", .int (e.val b x y)]
  | _ => []
def deedD (t : List Rw) (b r x y : Int) : PyData := if r = -1 then .tuple [.str "mute"] else match t[r.toNat]? with
  | some row => .tuple (row.deed b x y)
  | none => .tuple [.str "end", .int 0]
theorem eqv_stand {r x y : Int} (h : PyData.eqv (.tuple [.int r, .int x, .int y]) (.tuple [.int (-1), .int 0, .int 0]) = true) : r = -1 := by
  simp only [PyData.eqv, PyData.eqvAll, Bool.and_eq_true, beq_iff_eq] at h
  exact h.1
theorem silent_row {t : List Rw} {i : Nat} {r : Rw} (h : t[i]? = some r) (s : silentAt t i = false) : r.silent = false := by
  unfold silentAt at s
  rw [h] at s
  exact s
section
variable {P : Program} {w : World} {K : PySem.W.Frag} {mg : Str → Option Value} {base : Heap}
def spDat (K : PySem.W.Frag) : Sp := fun vs H Q _ => ∃ (vt vs' : V) (t : List Rw) (N : List Str) (b r x y : Int), vs = [vt, vs', .int b] ∧ 2 ≤ b ∧ b ≤ 4 ∧ Tx.ok b N t ∧ Dt K H vt (Tx.d t) ∧ Dt K H vs' (stI r x y) ∧ Stand t b r x y ∧ ∀ v H', Dt K H' v (deedD t b r x y) → Same H H' → Q v H'
theorem ok_dat {f fV pM : Addr} {fd fdV : FuncData} {k : Nat} (F : Fun K "deed_at" "deed_at" sDat f fd) (T : Bi mg) (gM : mg "MUTE" = some (.ref pM)) (hM : MuteK K pM)
    (FV : Fun K "value_of" "value_of" sVal fV fdV) (bV : Binds K fdV ["expression", "point", "base"] []) (gV : mg "value_of" = some (.ref fV)) : FnOk P w K mg base CX0 (k + 3) f fd ["text", "stand", "base"] (spDat K) := by
  have GV : FnOk P w K mg base CX0 (k + 2) fV fdV ["expression", "point", "base"] (spVal K) := ok_val FV T bV gV
  refine F.ok scDat (fun vs H Q E h => ?_) (fun cdv A outer s H vs Q E hr h => ?_)
  · obtain ⟨vt, vs', t, N, b, r, x, y, rfl, _⟩ := h
    rfl
  · obtain ⟨vt, vs', t, N, b, r, x, y, rfl, hb2, hb4, ok, ht, hs, st, q⟩ := h
    obtain ⟨a, rfl, ha⟩ := dt_stand hs
    have hu := hr.units
    refine ⟨_, (pss_cons (ps_if (pt_cmpR (op_eqD hu) (pv 1) (pe_glob (v := .ref pM) rfl gM rfl) (nomark _)) (pss_one (ps_ret (pe_tup (pa_cons pe_str pa_nil)))) pss_nil) (pss_cons (ps_if (pt_cmpR op_eq (pe_ix ix_tup (pv 1) pe_int (fun _ _ => rfl)) (pe_callB call_len_seq (by rfl) T.len PySem.boot_len (pa_cons (pv 0) pa_nil)) (nomark _)) (pss_one (ps_ret (pe_tup (pa_cons pe_str (pa_cons pe_int pa_nil))))) pss_nil) (pss_cons (ps_set (i := 3) scDat.nd rfl (.inl rfl) (pe_ix ix_tup (pv 0) (pe_ix ix_tup (pv 1) pe_int (fun _ _ => rfl)) (fun _ _ => rfl))) (pss_cons (ps_if (pt_cmpR op_eq (pe_ix ix_tup (pv 3) pe_int (fun _ _ => rfl)) pe_str (nomark _)) (pss_one (ps_ret (pe_tup (pa_cons pe_str pa_nil)))) pss_nil) (pss_cons (ps_if (pt_cmpR op_eq (pe_ix ix_tup (pv 3) pe_int (fun _ _ => rfl)) pe_str (nomark _)) (pss_one (ps_ret (pe_tup (pa_cons pe_str (pa_cons (pe_ix ix_tup (pv 3) pe_int (fun _ _ => rfl)) pa_nil))))) pss_nil) (pss_cons (ps_if (PW.pt (pw_or (pt_cmpR op_eq (pe_ix ix_tup (pv 3) pe_int (fun _ _ => rfl)) pe_str (nomark _)) (pw_or1 (pt_cmpR op_eq (pe_ix ix_tup (pv 3) pe_int (fun _ _ => rfl)) pe_str (nomark _))))) (pss_one (ps_ret (pe_tup (pa_cons (pe_ix ix_tup (pv 3) pe_int (fun _ _ => rfl)) (pa_cons (pe_ix ix_tup (pv 3) pe_int (fun _ _ => rfl)) (pa_cons (pe_call GV hr (by rfl) gV FV.kp bV .nil pass0 (pa_cons (pe_ix ix_tup (pv 3) pe_int (fun _ _ => rfl)) (pa_cons (pv 1) (pa_cons (pv 2) pa_nil)))) pa_nil)))))) pss_nil) (pss_one (ps_ret (pe_tup (pa_cons (pe_ix ix_tup (pv 3) pe_int (fun _ _ => rfl)) (pa_cons (pe_call GV hr (by rfl) gV FV.kp bV .nil pass0 (pa_cons (pe_ix ix_tup (pv 3) pe_int (fun _ _ => rfl)) (pa_cons (pv 1) (pa_cons (pv 2) pa_nil)))) pa_nil))))))))))), ?_⟩
    refine ⟨_, rfl, .tuple [.int r, .int x, .int y], .tuple [.int (-1), .int 0, .int 0], .tup ha (.cons (.int _) (.cons (.int _) (.cons (.int _) .nil))), .tup (hM H) (.cons (.int _) (.cons (.int _) (.cons (.int _) .nil))), rfl, rfl, _, rfl, ite2 (fun e => ?_) (fun ne => ?_)⟩
    · have e1 := eqv_stand e
      refine ⟨(by show 1 ≤ sizeLine; decide), fun T nT => q _ _ ?_ (same_new nT)⟩
      unfold deedD
      rw [if_pos e1]
      exact dt_new nT (.cons (.str _) .nil)
    · rcases st with ⟨rfl, rfl, rfl⟩ | ⟨i, rfl, hi, sl, pt⟩
      · exact absurd (by decide +kernel) ne
      obtain ⟨at', xs, rfl, hx, lx, rows⟩ := dt_text ht
      refine ⟨_, rfl, a, _, 0, .int i, rfl, rfl, ha, atI_nat (j := 0) rfl, _, rfl, at', xs, rfl, .inr hx, rfl, _, rfl, ite2 (fun e => ?_) (fun e => ?_)⟩
      · have e1 : (i : Int) = (xs.length : Int) := V.int.inj (of_decide_eq_true e)
        refine ⟨(by show 2 ≤ sizeLine; decide), fun T nT => q _ _ ?_ (same_new nT)⟩
        unfold deedD
        rw [if_neg (by omega), Int.toNat_natCast, List.getElem?_eq_none (by omega)]
        exact dt_new nT (.cons (.str _) (.cons (.int _) .nil))
      have ne1 : i ≠ xs.length := fun z => e (decide_eq_true (by rw [z]))
      have lt : i < t.length := by omega
      obtain ⟨row, hrow⟩ : ∃ row, t[i]? = some row := ⟨t[i], List.getElem?_eq_getElem lt⟩
      obtain ⟨pr, ys, r1, r2, r3⟩ := rows i row hrow
      have rok := ok row (List.mem_of_getElem? hrow)
      have rs := silent_row hrow sl
      have dd : deedD t b i x y = .tuple (row.deed b x y) := by
        unfold deedD
        rw [if_neg (by omega), Int.toNat_natCast, hrow]
      rw [dd] at q
      refine ⟨_, rfl, _, rfl, a, _, 0, .int i, rfl, rfl, ha, atI_nat (j := 0) rfl, at', _, i, .ref pr, rfl, rfl, hx, atI_nat r1, ?_⟩
      cases row with
      | set v e => cases rs
      | iff e f r => cases rs
      | go r => cases rs
      | say e =>
        obtain ⟨u0, us0, rfl, d0, q0⟩ := dtall_cons r3
        obtain rfl := dtall_nil q0
        refine ⟨_, rfl, pr, _, 0, .str "say", rfl, rfl, r2, atI_nat (j := 0) rfl, rfl, _, rfl, ite2 (fun e => absurd (of_decide_eq_true e) (by decide +kernel)) (fun _ => ?_)⟩
        refine ⟨_, rfl, pr, _, 0, .str "say", rfl, rfl, r2, atI_nat (j := 0) rfl, rfl, _, rfl, ite2 (fun e => absurd (of_decide_eq_true e) (by decide +kernel)) (fun _ => ?_)⟩
        refine ⟨_, rfl, pr, _, 0, .str "say", rfl, rfl, r2, atI_nat (j := 0) rfl, rfl, _, rfl, ite2 (fun e => absurd (of_decide_eq_true e) (by decide +kernel)) (fun _ => ?_)⟩
        refine ⟨_, rfl, pr, _, 0, .str "say", rfl, rfl, r2, atI_nat (j := 0) rfl, rfl, _, rfl, ite2 (fun e => absurd (of_decide_eq_true e) (by decide +kernel)) (fun _ => ?_)⟩
        exact ⟨_, rfl, pr, _, 0, .str "say", rfl, rfl, r2, atI_nat (j := 0) rfl, _, rfl, pr, _, 1, u0, rfl, rfl, r2, atI_nat (j := 1) rfl, _, rfl, _, rfl, u0, .ref a, e, b, (i : Int), x, y, rfl, hb2, hb4, rok, pt, d0, hs, (by show 2 ≤ sizeLine; decide), fun T nT => q _ _ (dt_new nT (.cons (.str _) (.cons (.int _) .nil))) (same_new nT)⟩
      | fin e =>
        obtain ⟨u0, us0, rfl, d0, q0⟩ := dtall_cons r3
        obtain rfl := dtall_nil q0
        refine ⟨_, rfl, pr, _, 0, .str "end", rfl, rfl, r2, atI_nat (j := 0) rfl, rfl, _, rfl, ite2 (fun e => absurd (of_decide_eq_true e) (by decide +kernel)) (fun _ => ?_)⟩
        refine ⟨_, rfl, pr, _, 0, .str "end", rfl, rfl, r2, atI_nat (j := 0) rfl, rfl, _, rfl, ite2 (fun e => absurd (of_decide_eq_true e) (by decide +kernel)) (fun _ => ?_)⟩
        refine ⟨_, rfl, pr, _, 0, .str "end", rfl, rfl, r2, atI_nat (j := 0) rfl, rfl, _, rfl, ite2 (fun e => absurd (of_decide_eq_true e) (by decide +kernel)) (fun _ => ?_)⟩
        refine ⟨_, rfl, pr, _, 0, .str "end", rfl, rfl, r2, atI_nat (j := 0) rfl, rfl, _, rfl, ite2 (fun e => absurd (of_decide_eq_true e) (by decide +kernel)) (fun _ => ?_)⟩
        exact ⟨_, rfl, pr, _, 0, .str "end", rfl, rfl, r2, atI_nat (j := 0) rfl, _, rfl, pr, _, 1, u0, rfl, rfl, r2, atI_nat (j := 1) rfl, _, rfl, _, rfl, u0, .ref a, e, b, (i : Int), x, y, rfl, hb2, hb4, rok, pt, d0, hs, (by show 2 ≤ sizeLine; decide), fun T nT => q _ _ (dt_new nT (.cons (.str _) (.cons (.int _) .nil))) (same_new nT)⟩
      | ask v =>
        refine ⟨_, rfl, pr, _, 0, .str "ask", rfl, rfl, r2, atI_nat (j := 0) rfl, rfl, _, rfl, ite2 (fun _ => ?_) (fun e => absurd (decide_eq_true rfl) e)⟩
        exact ⟨(by show 1 ≤ sizeLine; decide), fun T nT => q _ _ (dt_new nT (.cons (.str _) .nil)) (same_new nT)⟩
      | read c v =>
        obtain ⟨u0, us0, rfl, d0, q0⟩ := dtall_cons r3
        obtain ⟨u1, us1, rfl, d1, q1⟩ := dtall_cons q0
        obtain rfl := dtall_nil q1
        refine ⟨_, rfl, pr, _, 0, .str "read", rfl, rfl, r2, atI_nat (j := 0) rfl, rfl, _, rfl, ite2 (fun e => absurd (of_decide_eq_true e) (by decide +kernel)) (fun _ => ?_)⟩
        refine ⟨_, rfl, pr, _, 0, .str "read", rfl, rfl, r2, atI_nat (j := 0) rfl, rfl, _, rfl, ite2 (fun _ => ?_) (fun e => absurd (decide_eq_true rfl) e)⟩
        cases d0
        exact ⟨_, rfl, pr, _, 1, .int c, rfl, rfl, r2, atI_nat (j := 1) rfl, (by show 2 ≤ sizeLine; decide), fun T nT => q _ _ (dt_new nT (.cons (.str _) (.cons (.int _) .nil))) (same_new nT)⟩
      | write c e =>
        obtain ⟨u0, us0, rfl, d0, q0⟩ := dtall_cons r3
        obtain ⟨u1, us1, rfl, d1, q1⟩ := dtall_cons q0
        obtain rfl := dtall_nil q1
        refine ⟨_, rfl, pr, _, 0, .str "write", rfl, rfl, r2, atI_nat (j := 0) rfl, rfl, _, rfl, ite2 (fun e => absurd (of_decide_eq_true e) (by decide +kernel)) (fun _ => ?_)⟩
        refine ⟨_, rfl, pr, _, 0, .str "write", rfl, rfl, r2, atI_nat (j := 0) rfl, rfl, _, rfl, ite2 (fun e => absurd (of_decide_eq_true e) (by decide +kernel)) (fun _ => ?_)⟩
        refine ⟨_, rfl, pr, _, 0, .str "write", rfl, rfl, r2, atI_nat (j := 0) rfl, rfl, _, rfl, ite2 (fun _ => ?_) (fun e => absurd (decide_eq_true rfl) e)⟩
        have z0 : u0 = .int c := by cases d0; rfl
        subst z0
        exact ⟨_, rfl, pr, _, 0, .str "write", rfl, rfl, r2, atI_nat (j := 0) rfl, _, rfl, pr, _, 1, .int c, rfl, rfl, r2, atI_nat (j := 1) rfl, _, rfl, pr, _, 2, u1, rfl, rfl, r2, atI_nat (j := 2) rfl, _, rfl, _, rfl, u1, .ref a, e, b, (i : Int), x, y, rfl, hb2, hb4, rok.2, pt, d1, hs, (by show 3 ≤ sizeLine; decide), fun T nT => q _ _ (dt_new nT (.cons (.str _) (.cons (.int _) (.cons (.int _) .nil)))) (same_new nT)⟩
      | call n e v =>
        obtain ⟨u0, us0, rfl, d0, q0⟩ := dtall_cons r3
        obtain ⟨u1, us1, rfl, d1, q1⟩ := dtall_cons q0
        obtain ⟨u2, us2, rfl, d2, q2⟩ := dtall_cons q1
        obtain rfl := dtall_nil q2
        refine ⟨_, rfl, pr, _, 0, .str "call", rfl, rfl, r2, atI_nat (j := 0) rfl, rfl, _, rfl, ite2 (fun e => absurd (of_decide_eq_true e) (by decide +kernel)) (fun _ => ?_)⟩
        refine ⟨_, rfl, pr, _, 0, .str "call", rfl, rfl, r2, atI_nat (j := 0) rfl, rfl, _, rfl, ite2 (fun e => absurd (of_decide_eq_true e) (by decide +kernel)) (fun _ => ?_)⟩
        refine ⟨_, rfl, pr, _, 0, .str "call", rfl, rfl, r2, atI_nat (j := 0) rfl, rfl, _, rfl, ite2 (fun e => absurd (of_decide_eq_true e) (by decide +kernel)) (fun _ => ?_)⟩
        refine ⟨_, rfl, pr, _, 0, .str "call", rfl, rfl, r2, atI_nat (j := 0) rfl, rfl, _, rfl, ite2 (fun _ => ?_) (fun e => absurd (decide_eq_true rfl) e)⟩
        have z0 : u0 = .str n := by cases d0; rfl
        subst z0
        exact ⟨_, rfl, pr, _, 0, .str "call", rfl, rfl, r2, atI_nat (j := 0) rfl, _, rfl, pr, _, 1, .str n, rfl, rfl, r2, atI_nat (j := 1) rfl, _, rfl, pr, _, 2, u1, rfl, rfl, r2, atI_nat (j := 2) rfl, _, rfl, _, rfl, u1, .ref a, e, b, (i : Int), x, y, rfl, hb2, hb4, rok.2.1, pt, d1, hs, (by show 3 ≤ sizeLine; decide), fun T nT => q _ _ (dt_new nT (.cons (.str _) (.cons (.str _) (.cons (.int _) .nil)))) (same_new nT)⟩
end
end Kx

namespace Kx
open PySem PySem.Spec PyProof.Rows L2
theorem cut2 (u v : V) : cutV [u, v] none (some (-1)) = [u] := rfl
theorem cut3 (u v z : V) : cutV [u, v, z] none (some (-1)) = [u, v] := rfl
section
variable {P : Program} {w : World} {K : PySem.W.Frag} {mg : Str → Option Value} {base : Heap}
theorem ok_lde {f fV : Addr} {fd fdV : FuncData} {k : Nat} (F : Fun K "_law_deed" "_law_deed" sLde f fd) (T : Bi mg)
    (FV : Fun K "_law_value" "_law_value" sLval fV fdV) (bV : Binds K fdV ["_law_one", "_law_x", "_law_y", "_law_radix"] []) (gV : mg "_law_value" = some (.ref fV)) : FnOk P w K mg base CX0 (k + 3) f fd ["_law_rows", "_law_stand", "_law_radix"] (spDat K) := by
  have GV : FnOk P w K mg base CX0 (k + 2) fV fdV ["_law_one", "_law_x", "_law_y", "_law_radix"] (spLval K) := ok_lval FV T bV gV
  refine F.ok scLde (fun vs H Q E h => ?_) (fun cdv A outer s H vs Q E hr h => ?_)
  · obtain ⟨vt, vs', t, N, b, r, x, y, rfl, _⟩ := h
    rfl
  · obtain ⟨vt, vs', t, N, b, r, x, y, rfl, hb2, hb4, ok, ht, hs, st, q⟩ := h
    obtain ⟨a, rfl, ha⟩ := dt_stand hs
    obtain ⟨at', xs, rfl, hx, lx, rows⟩ := dt_text ht
    refine ⟨_, (pss_cons (ps_asg (pv 1) (pg_tup (by rfl) (pgs_cons (pg_name (i := 3) scLde.nd rfl (.inl rfl)) (pgs_cons (pg_name (i := 4) scLde.nd rfl (.inl rfl)) (pgs_cons (pg_name (i := 5) scLde.nd rfl (.inl rfl)) pgs_nil))))) (pss_cons (ps_if (PW.pt (pw_or (pt_cmpR op_eq (pv 3) (pe_un un_neg pe_int) (nomark _)) (pw_or1 (pt_cmpR op_eq (pv 3) (pe_callB call_len_seq (by rfl) T.len PySem.boot_len (pa_cons (pv 0) pa_nil)) (nomark _))))) (pss_one (ps_ret (pe_ifExp (pt_cmpR op_eq (pv 3) (pe_un un_neg pe_int) (nomark _)) (pe_tup (pa_cons pe_str pa_nil)) (pe_tup (pa_cons pe_str (pa_cons pe_int pa_nil)))))) pss_nil) (pss_cons (ps_set (i := 6) scLde.nd rfl (.inl rfl) (pe_ix ix_tup (pv 0) (pv 3) (fun _ _ => rfl))) (pss_cons (ps_if (pt_cmpR op_in_seq (pe_ix ix_tup (pv 6) pe_int (fun _ _ => rfl)) (pe_tup (pa_cons pe_str (pa_cons pe_str pa_nil))) (by rfl)) (pss_one (ps_ret (pe_slice sl_tup (pv 6) po_none (po_some (pe_un un_neg pe_int))))) pss_nil) (pss_cons (ps_if (pt_cmpR op_in_seq (pe_ix ix_tup (pv 6) pe_int (fun _ _ => rfl)) (pe_tup (pa_cons pe_str (pa_cons pe_str pa_nil))) (by rfl)) (pss_one (ps_ret (pe_tup (pa_cons (pe_ix ix_tup (pv 6) pe_int (fun _ _ => rfl)) (pa_cons (pe_ix ix_tup (pv 6) pe_int (fun _ _ => rfl)) (pa_cons (pe_call GV hr (by rfl) gV FV.kp bV .nil pass0 (pa_cons (pe_ix ix_tup (pv 6) pe_int (fun _ _ => rfl)) (pa_cons (pv 4) (pa_cons (pv 5) (pa_cons (pv 2) pa_nil))))) pa_nil)))))) pss_nil) (pss_one (ps_ret (pe_tup (pa_cons (pe_ix ix_tup (pv 6) pe_int (fun _ _ => rfl)) (pa_cons (pe_call GV hr (by rfl) gV FV.kp bV .nil pass0 (pa_cons (pe_ix ix_tup (pv 6) pe_int (fun _ _ => rfl)) (pa_cons (pv 4) (pa_cons (pv 5) (pa_cons (pv 2) pa_nil))))) pa_nil)))))))))), ?_⟩
    refine ⟨_, rfl, a, _, rfl, ha, rfl, _, _, rfl, _, _, rfl, _, _, rfl, rfl, ?_⟩
    rcases st with ⟨rfl, rfl, rfl⟩ | ⟨i, rfl, hi, sl, pt⟩
    · refine ⟨_, rfl, 1, rfl, rfl, _, rfl, ite2 (fun _ => ?_) (fun e => absurd (decide_eq_true rfl) e)⟩
      refine ⟨_, rfl, 1, rfl, rfl, _, rfl, ite2 (fun _ => ?_) (fun e => absurd (decide_eq_true rfl) e)⟩
      exact ⟨(by show 1 ≤ sizeLine; decide), fun T nT => q _ _ (dt_new nT (.cons (.str _) .nil)) (same_new nT)⟩
    · have nm : ¬ (V.int (i : Int) = V.int (-1)) := fun z => by
        have := V.int.inj z
        omega
      refine ⟨_, rfl, 1, rfl, rfl, _, rfl, ite2 (fun e => absurd (of_decide_eq_true e) nm) (fun _ => ?_)⟩
      refine ⟨_, rfl, _, rfl, at', xs, rfl, .inr hx, rfl, _, rfl, ite2 (fun e => ?_) (fun e => ?_)⟩
      · have e1 : (i : Int) = (xs.length : Int) := V.int.inj (of_decide_eq_true e)
        refine ⟨_, rfl, 1, rfl, rfl, _, rfl, ite2 (fun e => absurd (of_decide_eq_true e) nm) (fun _ => ?_)⟩
        refine ⟨(by show 2 ≤ sizeLine; decide), fun T nT => q _ _ ?_ (same_new nT)⟩
        unfold deedD
        rw [if_neg (by omega), Int.toNat_natCast, List.getElem?_eq_none (by omega)]
        exact dt_new nT (.cons (.str _) (.cons (.int _) .nil))
      have ne1 : i ≠ xs.length := fun z => e (decide_eq_true (by rw [z]))
      have lt : i < t.length := by omega
      obtain ⟨row, hrow⟩ : ∃ row, t[i]? = some row := ⟨t[i], List.getElem?_eq_getElem lt⟩
      obtain ⟨pr, ys, r1, r2, r3⟩ := rows i row hrow
      have rok := ok row (List.mem_of_getElem? hrow)
      have rs := silent_row hrow sl
      have dd : deedD t b i x y = .tuple (row.deed b x y) := by
        unfold deedD
        rw [if_neg (by omega), Int.toNat_natCast, hrow]
      rw [dd] at q
      refine ⟨_, rfl, _, rfl, at', _, i, .ref pr, rfl, rfl, hx, atI_nat r1, ?_⟩
      cases row with
      | set v e => cases rs
      | iff e f r => cases rs
      | go r => cases rs
      | say e =>
        obtain ⟨u0, us0, rfl, d0, q0⟩ := dtall_cons r3
        obtain rfl := dtall_nil q0
        refine ⟨_, rfl, pr, _, 0, .str "say", rfl, rfl, r2, atI_nat (j := 0) rfl, (by show 2 ≤ sizeLine; decide), fun p1 n1 => ?_⟩
        have S1 := same_new n1 (o := .tup [.str "ask", .str "read"])
        refine ⟨p1, _, rfl, .inr (SqT.of upd_same), rfl, rfl, _, rfl, ite2 (fun e => absurd e (by decide +kernel)) (fun _ => ?_)⟩
        refine ⟨_, rfl, pr, _, 0, .str "say", rfl, rfl, (keepT_same S1 _ _ r2), atI_nat (j := 0) rfl, (by show 2 ≤ sizeLine; decide), fun p2 n2 => ?_⟩
        have S2 := S1.trans (same_new n2 (o := .tup [.str "write", .str "call"]))
        refine ⟨p2, _, rfl, .inr (SqT.of upd_same), rfl, rfl, _, rfl, ite2 (fun e => absurd e (by decide +kernel)) (fun _ => ?_)⟩
        exact ⟨_, rfl, pr, _, 0, .str "say", rfl, rfl, keepT_same S2 _ _ r2, atI_nat (j := 0) rfl, _, rfl, pr, _, 1, u0, rfl, rfl, keepT_same S2 _ _ r2, atI_nat (j := 1) rfl, _, rfl, _, rfl, _, rfl, u0, e, b, x, y, rfl, hb2, hb4, rok, pt, d0.keep (keepT_same S2), fun H4 S4 => ⟨(by show 2 ≤ sizeLine; decide), fun T nT => q _ _ (dt_new nT (.cons (.str _) (.cons (.int _) .nil))) ((S2.trans S4).trans (same_new nT))⟩⟩
      | fin e =>
        obtain ⟨u0, us0, rfl, d0, q0⟩ := dtall_cons r3
        obtain rfl := dtall_nil q0
        refine ⟨_, rfl, pr, _, 0, .str "end", rfl, rfl, r2, atI_nat (j := 0) rfl, (by show 2 ≤ sizeLine; decide), fun p1 n1 => ?_⟩
        have S1 := same_new n1 (o := .tup [.str "ask", .str "read"])
        refine ⟨p1, _, rfl, .inr (SqT.of upd_same), rfl, rfl, _, rfl, ite2 (fun e => absurd e (by decide +kernel)) (fun _ => ?_)⟩
        refine ⟨_, rfl, pr, _, 0, .str "end", rfl, rfl, (keepT_same S1 _ _ r2), atI_nat (j := 0) rfl, (by show 2 ≤ sizeLine; decide), fun p2 n2 => ?_⟩
        have S2 := S1.trans (same_new n2 (o := .tup [.str "write", .str "call"]))
        refine ⟨p2, _, rfl, .inr (SqT.of upd_same), rfl, rfl, _, rfl, ite2 (fun e => absurd e (by decide +kernel)) (fun _ => ?_)⟩
        exact ⟨_, rfl, pr, _, 0, .str "end", rfl, rfl, keepT_same S2 _ _ r2, atI_nat (j := 0) rfl, _, rfl, pr, _, 1, u0, rfl, rfl, keepT_same S2 _ _ r2, atI_nat (j := 1) rfl, _, rfl, _, rfl, _, rfl, u0, e, b, x, y, rfl, hb2, hb4, rok, pt, d0.keep (keepT_same S2), fun H4 S4 => ⟨(by show 2 ≤ sizeLine; decide), fun T nT => q _ _ (dt_new nT (.cons (.str _) (.cons (.int _) .nil))) ((S2.trans S4).trans (same_new nT))⟩⟩
      | ask v =>
        obtain ⟨u0, us0, rfl, d0, q0⟩ := dtall_cons r3
        obtain rfl := dtall_nil q0
        refine ⟨_, rfl, pr, _, 0, .str "ask", rfl, rfl, r2, atI_nat (j := 0) rfl, (by show 2 ≤ sizeLine; decide), fun p1 n1 => ?_⟩
        have S1 := same_new n1 (o := .tup [.str "ask", .str "read"])
        refine ⟨p1, _, rfl, .inr (SqT.of upd_same), rfl, rfl, _, rfl, ite2 (fun _ => ?_) (fun e => absurd (by decide +kernel) e)⟩
        exact ⟨_, rfl, 1, rfl, _, rfl, pr, _, rfl, keepT_same S1 _ _ r2, (by show ¬ (HT.sIx 2 0 none = 0 ∧ HT.sIx 2 2 (some (-1)) = 2); decide +kernel), fun T nT => q _ _ (dt_new nT (.cons (.str _) .nil)) (S1.trans (same_new nT))⟩
      | read c v =>
        obtain ⟨u0, us0, rfl, d0, q0⟩ := dtall_cons r3
        obtain ⟨u1, us1, rfl, d1, q1⟩ := dtall_cons q0
        obtain rfl := dtall_nil q1
        refine ⟨_, rfl, pr, _, 0, .str "read", rfl, rfl, r2, atI_nat (j := 0) rfl, (by show 2 ≤ sizeLine; decide), fun p1 n1 => ?_⟩
        have S1 := same_new n1 (o := .tup [.str "ask", .str "read"])
        refine ⟨p1, _, rfl, .inr (SqT.of upd_same), rfl, rfl, _, rfl, ite2 (fun _ => ?_) (fun e => absurd (by decide +kernel) e)⟩
        have z0 : u0 = .int c := by cases d0; rfl
        subst z0
        exact ⟨_, rfl, 1, rfl, _, rfl, pr, _, rfl, keepT_same S1 _ _ r2, (by show ¬ (HT.sIx 3 0 none = 0 ∧ HT.sIx 3 3 (some (-1)) = 3); decide +kernel), fun T nT => q _ _ (dt_new nT (.cons (.str _) (.cons (.int _) .nil))) (S1.trans (same_new nT))⟩
      | write c e =>
        obtain ⟨u0, us0, rfl, d0, q0⟩ := dtall_cons r3
        obtain ⟨u1, us1, rfl, d1, q1⟩ := dtall_cons q0
        obtain rfl := dtall_nil q1
        refine ⟨_, rfl, pr, _, 0, .str "write", rfl, rfl, r2, atI_nat (j := 0) rfl, (by show 2 ≤ sizeLine; decide), fun p1 n1 => ?_⟩
        have S1 := same_new n1 (o := .tup [.str "ask", .str "read"])
        refine ⟨p1, _, rfl, .inr (SqT.of upd_same), rfl, rfl, _, rfl, ite2 (fun e => absurd e (by decide +kernel)) (fun _ => ?_)⟩
        refine ⟨_, rfl, pr, _, 0, .str "write", rfl, rfl, (keepT_same S1 _ _ r2), atI_nat (j := 0) rfl, (by show 2 ≤ sizeLine; decide), fun p2 n2 => ?_⟩
        have S2 := S1.trans (same_new n2 (o := .tup [.str "write", .str "call"]))
        refine ⟨p2, _, rfl, .inr (SqT.of upd_same), rfl, rfl, _, rfl, ite2 (fun _ => ?_) (fun e => absurd (by decide +kernel) e)⟩
        have z0 : u0 = .int c := by cases d0; rfl
        subst z0
        exact ⟨_, rfl, pr, _, 0, .str "write", rfl, rfl, keepT_same S2 _ _ r2, atI_nat (j := 0) rfl, _, rfl, pr, _, 1, .int c, rfl, rfl, keepT_same S2 _ _ r2, atI_nat (j := 1) rfl, _, rfl, pr, _, 2, u1, rfl, rfl, keepT_same S2 _ _ r2, atI_nat (j := 2) rfl, _, rfl, _, rfl, _, rfl, u1, e, b, x, y, rfl, hb2, hb4, rok.2, pt, d1.keep (keepT_same S2), fun H4 S4 => ⟨(by show 3 ≤ sizeLine; decide), fun T nT => q _ _ (dt_new nT (.cons (.str _) (.cons (.int _) (.cons (.int _) .nil)))) ((S2.trans S4).trans (same_new nT))⟩⟩
      | call n e v =>
        obtain ⟨u0, us0, rfl, d0, q0⟩ := dtall_cons r3
        obtain ⟨u1, us1, rfl, d1, q1⟩ := dtall_cons q0
        obtain ⟨u2, us2, rfl, d2, q2⟩ := dtall_cons q1
        obtain rfl := dtall_nil q2
        refine ⟨_, rfl, pr, _, 0, .str "call", rfl, rfl, r2, atI_nat (j := 0) rfl, (by show 2 ≤ sizeLine; decide), fun p1 n1 => ?_⟩
        have S1 := same_new n1 (o := .tup [.str "ask", .str "read"])
        refine ⟨p1, _, rfl, .inr (SqT.of upd_same), rfl, rfl, _, rfl, ite2 (fun e => absurd e (by decide +kernel)) (fun _ => ?_)⟩
        refine ⟨_, rfl, pr, _, 0, .str "call", rfl, rfl, (keepT_same S1 _ _ r2), atI_nat (j := 0) rfl, (by show 2 ≤ sizeLine; decide), fun p2 n2 => ?_⟩
        have S2 := S1.trans (same_new n2 (o := .tup [.str "write", .str "call"]))
        refine ⟨p2, _, rfl, .inr (SqT.of upd_same), rfl, rfl, _, rfl, ite2 (fun _ => ?_) (fun e => absurd (by decide +kernel) e)⟩
        have z0 : u0 = .str n := by cases d0; rfl
        subst z0
        exact ⟨_, rfl, pr, _, 0, .str "call", rfl, rfl, keepT_same S2 _ _ r2, atI_nat (j := 0) rfl, _, rfl, pr, _, 1, .str n, rfl, rfl, keepT_same S2 _ _ r2, atI_nat (j := 1) rfl, _, rfl, pr, _, 2, u1, rfl, rfl, keepT_same S2 _ _ r2, atI_nat (j := 2) rfl, _, rfl, _, rfl, _, rfl, u1, e, b, x, y, rfl, hb2, hb4, rok.2.1, pt, d1.keep (keepT_same S2), fun H4 S4 => ⟨(by show 3 ≤ sizeLine; decide), fun T nT => q _ _ (dt_new nT (.cons (.str _) (.cons (.str _) (.cons (.int _) .nil)))) ((S2.trans S4).trans (same_new nT))⟩⟩
end
end Kx

namespace Kx
open PySem PySem.Spec PyProof.Rows L2
abbrev sNam : Stmt := topS 20
theorem scNam : FnScope ["_law_bag_here", "_law_letters", "_law_found", "_law_k", "_law_many", "_law_name", "_law_j"] ["_law_bag_here"] (defScope sNam) := ⟨rfl, rfl, rfl, by decide +kernel, rfl, by decide +kernel, by decide +kernel⟩
def sok (s : Str) : Prop := ∀ c ∈ s.cps.toList, c < 1000
def Nm (s : Str) : Prop := s.length ≤ 8 ∧ sok s
theorem sok_app {a b : Str} (ha : sok a) (hb : sok b) : sok (a ++ b) := by
  intro c hc
  have e : (a ++ b).cps.toList = a.cps.toList ++ b.cps.toList := Array.toList_append
  rw [e] at hc
  rcases List.mem_append.mp hc with z | z
  · exact ha c z
  · exact hb c z
theorem join_ok : ∀ (ys : List Str), (∀ s ∈ ys, s.length = 1 ∧ sok s) → (Str.join "" ys).length = ys.length ∧ sok (Str.join "" ys)
  | [], _ => ⟨rfl, fun c hc => by cases hc⟩
  | [x], h => ⟨(h x (List.mem_cons_self ..)).1, (h x (List.mem_cons_self ..)).2⟩
  | x :: y :: r, h => by
    have ih := join_ok (y :: r) fun s hs => h s (List.mem_cons_of_mem _ hs)
    have hx := h x (List.mem_cons_self ..)
    have e : Str.join "" (x :: y :: r) = x ++ ("" : Str) ++ Str.join "" (y :: r) := rfl
    have e0 : (Str.ofString "").length = 0 := by decide
    constructor
    · rw [e, strLen_append, strLen_append, ih.1, hx.1, e0]
      simp only [List.length_cons]
      omega
    · rw [e]
      exact sok_app (sok_app hx.2 (fun c hc => by cases hc)) ih.2
def abc : Str := "abcdefghijklmnopqrstuvwxyz"
theorem abc_all : ∀ c ∈ abc.cps.toList, c < 1000 := by decide +kernel
theorem abc_len : abc.cps.toList.length = 26 := by decide +kernel
section
variable {P : Program} {w : World} {K : PySem.W.Frag} {mg : Str → Option Value} {base : Heap}
def spNam : Sp := fun vs H Q _ => ∃ (b : Addr) (n : Nat), vs = [.ref b] ∧ Bag H b n ∧ n ≤ 1000 ∧ ∀ (p : Addr) (N : List Str) H', H p = none → H' p = some (.lst (N.map V.str)) → 0 < N.length → N.length ≤ 3 → (∀ s ∈ N, Nm s) → Bag H' b (n + 40) → SameX b H H' → Q (.ref p) H'
theorem ok_nam {f fT : Addr} {fd fdT : FuncData} {k : Nat} (F : Fun K "_law_names" "_law_names" sNam f fd) (FT : Fun K "_law_take" "_law_take" sTake fT fdT) (bT : Binds K fdT ["_law_bag_here", "_law_many"] []) (gT : mg "_law_take" = some (.ref fT)) (mr : mg "range" = none) :
    FnOk P w K mg base CX0 (k + 2) f fd ["_law_bag_here"] spNam := by
  have GT : FnOk P w K mg base CX0 (k + 1) fT fdT ["_law_bag_here", "_law_many"] spTake := ok_take FT
  refine F.ok scNam (fun vs H Q E h => ?_) (fun cdv A outer s H vs Q E hr h => ?_)
  · obtain ⟨b, n, rfl, _⟩ := h
    rfl
  · obtain ⟨b, n, rfl, B, hn, q⟩ := h
    refine ⟨_, pss_cons (ps_asg (pe_tup (pa_cons pe_str (pa_cons (pe_lst pa_nil) pa_nil))) (pg_tup (by rfl) (pgs_cons (pg_name (i := 1) scNam.nd rfl (.inr rfl)) (pgs_cons (pg_name (i := 2) scNam.nd rfl (.inl rfl)) pgs_nil))))
      (pss_cons (ps_for PassesOwn.never rfl (pi_range1 (by rfl) mr (pa_cons (pe_op op_add pe_int (pe_call GT hr (by rfl) gT FT.kp bT .nil pass0 (pa_cons (pv 0) (pa_cons pe_int pa_nil)))) pa_nil)) (pg_name (i := 3) scNam.nd rfl (.inl rfl))
        (pss_cons (ps_set (i := 4) scNam.nd rfl (.inl rfl) (pe_ix ix_list (pe_lst (pa_cons pe_int (pa_cons pe_int (pa_cons pe_int (pa_cons pe_int (pa_cons pe_int pa_nil)))))) (pe_call GT hr (by rfl) gT FT.kp bT .nil pass0 (pa_cons (pv 0) (pa_cons pe_int pa_nil))) (fun _ _ => rfl)))
        (pss_cons (ps_set (i := 5) scNam.nd rfl (.inl rfl) (pe_join pe_str
          (pe_lc (own := [("_law_j", 6)]) (g := gName 6) (tt := tYes) (by rfl) scNam.nd (pi_range1 (by rfl) mr (pa_cons (pv 4) pa_nil)) (blkOk_by (N := ["_law_bag_here", "_law_letters", "_law_found", "_law_k", "_law_many", "_law_name", "_law_j"]) (sc := defScope sNam) (by decide +kernel)) (fun _ _ _ _ _ => pg_name (i := 6) scNam.nd rfl (Or.inl rfl)) (fun _ _ _ _ _ => pts_nil)
            (fun _ _ _ _ _ => pe_ix ix_str (pv 1) (pe_call GT hr (by rfl) gT FT.kp bT .nil pass0 (pa_cons (pv 0) (pa_cons pe_int pa_nil))) (fun _ _ => rfl)))))
        (pss_one (ps_if (pt_cmpR op_notIn_seq (pv 5) (pv 2) (by rfl)) (pss_one (ps_expr (pe_bm PySem.F.plainAttrs_list PySem.F.slot_list_append PySem.F.type_list_append mt_append (pv 2) (pa_cons (pv 5) pa_nil)))) pss_nil)))))
      (pss_one (ps_ret (pv 2)))), ?_⟩
    refine ⟨Nat.zero_le _, fun p hp => ⟨(by show 2 ≤ sizeLine; decide), fun T nT => ?_⟩⟩
    refine ⟨T, _, rfl, SqT.of upd_same, rfl, _, _, rfl, _, _, rfl, rfl, ?_⟩
    have B1 := (B.new hp (o := .lst [])).new nT (o := .tup [.str abc, .ref p])
    have s01 : Same H (upd (upd H p (.lst [])) T (.tup [.str abc, .ref p])) := (same_new hp).trans (same_new nT)
    have hp1 : (upd (upd H p (.lst [])) T (.tup [.str abc, .ref p])) p = some (.lst []) := (same_new nT) _ _ upd_same
    have pb : p ≠ b := B.ne hp
    refine ⟨.ref b, rfl, b, n, 3, rfl, B1, by omega, by decide, by decide, fun r H2 r0 r1 B2 s2 => ?_⟩
    obtain ⟨c, hc, hc1, hc3⟩ : ∃ c : Nat, 1 + r = (c : Int) ∧ 1 ≤ c ∧ c ≤ 3 := ⟨(1 + r).toNat, by omega, by omega, by omega⟩
    refine ⟨1, r, rfl, rfl, c, (by show [V.int (1 + r)] = _; rw [hc]), by omega, by omega, ?_⟩
    have hp2 := s2 _ _ pb hp1
    have x2 : SameX b H H2 := (Same.x s01).trans s2
    refine for_range (lo := 0) (n := c) (fun i σ H' => ∃ y3 y4 y5, σ = [some (.ref b), some (.str abc), some (.ref p), y3, y4, y5, none] ∧ ∃ N : List Str, H' p = some (.lst (N.map V.str)) ∧ N.length ≤ i ∧ (0 < i → 0 < N.length) ∧ (∀ s ∈ N, Nm s) ∧ Bag H' b (n + 1 + 9 * i) ∧ SameX b H H')
      ⟨none, none, none, rfl, [], hp2, Nat.le_refl _, fun z => absurd z (Nat.lt_irrefl _), (fun s hs => by cases hs), B2, x2⟩ ?_ ?_
    · rintro i σ H3 hi ⟨y3, y4, y5, rfl, N, hp3, lN, l0, hN, B3, x3⟩
      refine ⟨(by show 5 ≤ sizeLine; decide), fun l nl => ?_⟩
      refine ⟨.ref b, rfl, b, n + 1 + 9 * i, 5, rfl, B3.new nl, by omega, by decide, by decide, fun j H4 j0 j1 B4 s4 => ?_⟩
      have hL : SqL K H4 l [.int 1, .int 1, .int 2, .int 4, .int 8] := SqL.of (s4 _ _ (B3.ne nl) upd_same)
      obtain ⟨m, hm, hj⟩ : ∃ m : Nat, m ≤ 8 ∧ atI [V.int 1, V.int 1, V.int 2, V.int 4, V.int 8] j = some (.int m) := by
        rcases (by omega : j = 0 ∨ j = 1 ∨ j = 2 ∨ j = 3 ∨ j = 4) with rfl | rfl | rfl | rfl | rfl
        · exact ⟨1, by decide, atI_nat (j := 0) rfl⟩
        · exact ⟨1, by decide, atI_nat (j := 1) rfl⟩
        · exact ⟨2, by decide, atI_nat (j := 2) rfl⟩
        · exact ⟨4, by decide, atI_nat (j := 3) rfl⟩
        · exact ⟨8, by decide, atI_nat (j := 4) rfl⟩
      refine ⟨l, _, j, .int m, rfl, rfl, hL, hj, ?_⟩
      have x4 : SameX b H3 H4 := (SameX.new nl).trans s4
      refine ⟨⟨_, rfl⟩, .int m, rfl, m, rfl, by omega, by omega, fun D hD => ?_⟩
      have Db : D ≠ b := B4.ne hD
      refine lc_range (lo := 0) (n := m) (fun j H' => ∃ ys : List Str, H' D = some (.lst (ys.map V.str)) ∧ ys.length = j ∧ (∀ s ∈ ys, s.length = 1 ∧ sok s) ∧ Bag H' b (n + 1 + 9 * i + 1 + j) ∧ SameX b H4 H') ⟨[], upd_same, rfl, (fun s hs => by cases hs), B4.new hD, SameX.new hD⟩ (fun j H5 hj5 pj => ?_) (fun H5 pj => ?_)
      · obtain ⟨ys, hy, ly, oy, B5, s5⟩ := pj
        refine ⟨rfl, _, rfl, .ref b, rfl, b, n + 1 + 9 * i + 1 + j, 26, rfl, B5, by omega, by decide, by decide, fun u H6 u0 u1 B6 s6 => ?_⟩
        obtain ⟨v, rfl⟩ : ∃ v : Nat, u = v := ⟨u.toNat, by omega⟩
        have lv : v < abc.cps.toList.length := by rw [abc_len]; omega
        refine ⟨abc, v, abc.cps.toList[v], rfl, rfl, (by decide), atI_nat (List.getElem?_eq_getElem lv), _, s6 _ _ Db hy, ?_, ys ++ [⟨#[abc.cps.toList[v]]⟩], ?_, ?_, ?_, ?_, ?_⟩
        · rw [List.length_map]
          exact small1000 (by omega)
        · rw [upd_same, List.map_append]
          rfl
        · rw [List.length_append, ly]
          rfl
        · intro s hs
          rcases List.mem_append.mp hs with z | z
          · exact oy s z
          · rw [List.mem_singleton.mp z]
            refine ⟨rfl, fun c hc => ?_⟩
            have : c = abc.cps.toList[v] := by simpa using hc
            rw [this]
            exact abc_all _ (List.getElem_mem lv)
        · obtain ⟨d', x', c', e', r'⟩ := B6
          exact ⟨d', x', c', by rw [upd_ne Db.symm]; exact e', r'.1, r'.2.1, r'.2.2.1, by have := r'.2.2.2; omega⟩
        · intro a o na e
          rw [upd_ne (ne_of_none e hD)]
          exact s6 _ _ na (s5 _ _ na e)
      · obtain ⟨ys, hy, ly, oy, B5, s5⟩ := pj
        have jo := join_ok ys oy
        rw [← TL.join_eq] at jo
        refine ⟨_, D, ys, rfl, rfl, .inl (SqL.of hy), ?_, ?_⟩
        · have e0 : (Str.ofString "").length = 0 := by decide
          have : (ys.map (·.length)).sum = ys.length := by
            clear hy ly jo B5 s5
            induction ys with
            | nil => rfl
            | cons y ys ih =>
              rw [List.map_cons, List.sum_cons, ih fun s hs => oy s (List.mem_cons_of_mem _ hs), (oy y (List.mem_cons_self ..)).1, List.length_cons]
              omega
          rw [this, e0]
          omega
        have hp5 : H5 p = some (.lst (N.map V.str)) := s5 _ _ pb (x4 _ _ pb hp3)
        have x5 : SameX b H H5 := x3.trans (x4.trans s5)
        have flat : (N.map V.str).all flatV = true := by
          rw [List.all_map]
          exact List.all_eq_true.mpr fun _ _ => rfl
        refine ⟨_, rfl, _, rfl, p, _, rfl, .inl (SqL.of hp5), rfl, flat, _, rfl, ite2 (fun e => ?_) (fun e => ?_)⟩
        · refine ⟨.ref p, rfl, .inl ⟨rfl, _, SqL.of hp5⟩, _, rfl, p, _, _, rfl, rfl, hp5, ?_, _, _, _, rfl, N ++ [Txt.join "" ys], ?_, ?_, ?_, ?_, ?_, ?_⟩
          · rw [List.length_map]
            exact small1000 (by omega)
          · rw [upd_same, List.map_append]
            rfl
          · rw [List.length_append]
            show _ + 1 ≤ _
            omega
          · intro _
            rw [List.length_append]
            show 0 < _ + 1
            omega
          · intro s hs
            rcases List.mem_append.mp hs with z | z
            · exact hN s z
            · rw [List.mem_singleton.mp z]
              exact ⟨by rw [jo.1]; omega, jo.2⟩
          · obtain ⟨d', x', c', e', r'⟩ := B5
            exact ⟨d', x', c', by rw [upd_ne pb.symm]; exact e', r'.1, r'.2.1, r'.2.2.1, by have := r'.2.2.2; omega⟩
          · intro a o na e
            rw [upd_ne (ne_of_none e hp)]
            exact x5 _ _ na e
        · have e1 : ¬ (!inV (V.str (Txt.join "" ys)) (N.map V.str)) = true := e
          have N0 : 0 < N.length := by
            cases N with
            | nil => exact absurd rfl e1
            | cons _ _ => exact Nat.succ_pos _
          exact ⟨_, _, _, rfl, N, hp5, by omega, fun _ => N0, hN, B5.mono (by omega), x5⟩
    · rintro σ H3 ⟨y3, y4, y5, rfl, N, hp3, lN, l0, hN, B3, x3⟩
      exact ⟨_, rfl, q p N H3 hp hp3 (l0 (by omega)) (by omega) hN (B3.mono (by omega)) x3⟩
end
end Kx

namespace Kx
open PySem PySem.Spec PyProof.Rows L2
abbrev sDof : Stmt := topS 15
abbrev sBrc : Stmt := topS 16
abbrev sLco : Stmt := topS 27
theorem scDof : FnScope ["text", "stand", "base"] ["text", "stand", "base"] (defScope sDof) := ⟨rfl, rfl, rfl, by decide +kernel, rfl, by decide +kernel, by decide +kernel⟩
theorem scBrc : FnScope ["deed", "base"] ["deed", "base"] (defScope sBrc) := ⟨rfl, rfl, rfl, by decide +kernel, rfl, by decide +kernel, by decide +kernel⟩
theorem scLco : FnScope ["_law_rows", "_law_stand", "_law_radix"] ["_law_rows", "_law_stand", "_law_radix"] (defScope sLco) := ⟨rfl, rfl, rfl, by decide +kernel, rfl, by decide +kernel, by decide +kernel⟩
def Word (w : Str) : Prop := w = "say" ∨ w = "ask" ∨ w = "read" ∨ w = "write" ∨ w = "call" ∨ w = "end" ∨ w = "mute"
theorem deed_word {t : List Rw} {b r x y : Int} (st : Stand t b r x y) : ∃ w rest, deedD t b r x y = .tuple (.str w :: rest) ∧ Word w := by
  rcases st with ⟨rfl, rfl, rfl⟩ | ⟨i, rfl, hi, sl, pt⟩
  · exact ⟨"mute", [], rfl, by unfold Word; simp⟩
  · unfold deedD
    rw [if_neg (by omega), Int.toNat_natCast]
    cases h : t[i]? with
    | none => exact ⟨"end", _, rfl, by unfold Word; simp⟩
    | some row =>
      have rs := silent_row h sl
      cases row with
      | set v e => cases rs
      | iff e f r => cases rs
      | go r => cases rs
      | say e => exact ⟨"say", _, rfl, by unfold Word; simp⟩
      | ask v => exact ⟨"ask", _, rfl, by unfold Word; simp⟩
      | read c v => exact ⟨"read", _, rfl, by unfold Word; simp⟩
      | write c e => exact ⟨"write", _, rfl, by unfold Word; simp⟩
      | call n e v => exact ⟨"call", _, rfl, by unfold Word; simp⟩
      | fin e => exact ⟨"end", _, rfl, by unfold Word; simp⟩
def cnt (b : Int) (w : Str) : Int := if inV (.str w) [.str "ask", .str "read", .str "call"] = true then b else if inV (.str w) [.str "say", .str "write"] = true then 1 else 0
theorem cnt_eq {b : Int} {w : Str} (h : Word w) : (valV (mergeK [] [((Sum.inr "say" : Key), V.int 1), (Sum.inr "write", .int 1), (Sum.inr "end", .int 0), (Sum.inr "mute", .int 0)]) (Sum.inr w)).getD (.int b) = .int (cnt b w) := by
  rcases h with rfl | rfl | rfl | rfl | rfl | rfl | rfl
  · show V.int 1 = _; unfold cnt; rw [if_neg (by decide +kernel), if_pos (by decide +kernel)]
  · show V.int b = _; unfold cnt; rw [if_pos (by decide +kernel)]
  · show V.int b = _; unfold cnt; rw [if_pos (by decide +kernel)]
  · show V.int 1 = _; unfold cnt; rw [if_neg (by decide +kernel), if_pos (by decide +kernel)]
  · show V.int b = _; unfold cnt; rw [if_pos (by decide +kernel)]
  · show V.int 0 = _; unfold cnt; rw [if_neg (by decide +kernel), if_neg (by decide +kernel)]
  · show V.int 0 = _; unfold cnt; rw [if_neg (by decide +kernel), if_neg (by decide +kernel)]
section
variable {P : Program} {w : World} {K : PySem.W.Frag} {mg : Str → Option Value} {base : Heap}
abbrev FnD (K : PySem.W.Frag) (x : Str) (st : Stmt) (kws : List (Str × V)) (f : Addr) (fd : FuncData) : Prop := FunD K x x (defArgs st) (defBody st) (defScope st) [] kws f fd
def RecK (K : PySem.W.Frag) (p : Addr) : Prop := ∀ H, SqT K H p [.str "ask", .str "read", .str "call"]
def PasK (K : PySem.W.Frag) (p : Addr) : Prop := ∀ H, SqT K H p [.str "say", .str "write"]
def spBrc (K : PySem.W.Frag) : Sp := fun vs H Q _ => ∃ (v : V) (w : Str) (rest : List PyData) (b : Int), vs = [v, .int b] ∧ Dt K H v (.tuple (.str w :: rest)) ∧ Q (.int (cnt b w)) H
theorem ok_brc {f pR pP : Addr} {fd : FuncData} {k : Nat} (F : FnD K "branch_count" sBrc [("base", .int 3)] f fd) (gR : mg "RECEIVING" = some (.ref pR)) (hR : RecK K pR) (gP : mg "PASSING" = some (.ref pP)) (hP : PasK K pP) : FnOk P w K mg base CX0 (k + 1) f fd ["deed", "base"] (spBrc K) := by
  refine F.ok scBrc (fun vs H Q E h => ?_) (fun cdv A outer s H vs Q E hr h => ?_)
  · obtain ⟨v, w, rest, b, rfl, _⟩ := h
    rfl
  · obtain ⟨v, w, rest, b, rfl, hd, q⟩ := h
    obtain ⟨a, xs, rfl, ha, hxs⟩ := dt_tuple hd
    obtain ⟨u, us, rfl, d0, q0⟩ := dtall_cons hxs
    cases d0
    refine ⟨_, PSs.nox (pss_cons (ps_if (pt_cmpR op_in_seq (pe_ix ix_tup (pv 0) pe_int (fun _ _ => rfl)) (pe_glob (v := .ref pR) rfl gR rfl) (by rfl)) (pss_one (ps_ret (pv 1))) pss_nil)
      (pss_cons (ps_if (pt_cmpR op_in_seq (pe_ix ix_tup (pv 0) pe_int (fun _ _ => rfl)) (pe_glob (v := .ref pP) rfl gP rfl) (by rfl)) (pss_one (ps_ret pe_int)) pss_nil)
      (pss_one (ps_ret pe_int)))), ?_⟩
    refine ⟨_, rfl, a, _, 0, .str w, rfl, rfl, ha, atI_nat (j := 0) rfl, pR, _, rfl, .inr (hR H), rfl, rfl, _, rfl, ite2 (fun e => ?_) (fun e => ?_)⟩
    · have e' : inV (.str w) [.str "ask", .str "read", .str "call"] = true := e
      unfold cnt at q
      rw [if_pos e'] at q
      exact ⟨_, rfl, q⟩
    · have e' : ¬ inV (.str w) [.str "ask", .str "read", .str "call"] = true := e
      unfold cnt at q
      rw [if_neg e'] at q
      refine ⟨_, rfl, a, _, 0, .str w, rfl, rfl, ha, atI_nat (j := 0) rfl, pP, _, rfl, .inr (hP H), rfl, rfl, _, rfl, ite2 (fun e2 => ?_) (fun e2 => ?_)⟩
      · have e3 : inV (.str w) [.str "say", .str "write"] = true := e2
        rw [if_pos e3] at q
        exact q
      · have e3 : ¬ inV (.str w) [.str "say", .str "write"] = true := e2
        rw [if_neg e3] at q
        exact q
theorem ok_dof {f fC fA pM : Addr} {fd fdC fdA : FuncData} {k : Nat} (F : FnD K "deed_of" sDof [("base", .int 3)] f fd)
    (GC : FnOk P w K mg base CX0 (k + 4) fC fdC ["text", "thing", "base"] (spChk K)) (kC : PySem.W.keepIn K (.ref fC) = true) (bC : Binds K fdC ["text", "thing", "base"] []) (gC : mg "check_stand" = some (.ref fC))
    (GA : FnOk P w K mg base CX0 (k + 4) fA fdA ["text", "stand", "base"] (spDat K)) (kA : PySem.W.keepIn K (.ref fA) = true) (bA : Binds K fdA ["text", "stand", "base"] []) (gA : mg "deed_at" = some (.ref fA)) : FnOk P w K mg base CX0 (k + 5) f fd ["text", "stand", "base"] (spDat K) := by
  refine F.ok scDof (fun vs H Q E h => ?_) (fun cdv A outer s H vs Q E hr h => ?_)
  · obtain ⟨vt, vs', t, N, b, r, x, y, rfl, _⟩ := h
    rfl
  · obtain ⟨vt, vs', t, N, b, r, x, y, rfl, hb2, hb4, ok, ht, hs, st, q⟩ := h
    refine ⟨_, PSs.nox (pss_cons (ps_expr (pe_call GC hr (by rfl) gC kC bC .nil pass0 (pa_cons (pv 0) (pa_cons (pv 1) (pa_cons (pv 2) pa_nil)))))
      (pss_one (ps_ret (pe_call GA hr (by rfl) gA kA bA .nil pass0 (pa_cons (pv 0) (pa_cons (pv 1) (pa_cons (pv 2) pa_nil))))))), ?_⟩
    refine ⟨_, rfl, _, rfl, _, rfl, vt, vs', t, b, r, x, y, rfl, ht, hs, st, fun H1 s1 => ?_⟩
    exact ⟨_, rfl, _, rfl, _, rfl, vt, vs', t, N, b, r, x, y, rfl, hb2, hb4, ok, ht.keep (keepT_same s1), hs.keep (keepT_same s1), st, fun v H2 d2 s2 => q v H2 d2 (s1.trans s2)⟩
def spLco (K : PySem.W.Frag) : Sp := fun vs H Q _ => ∃ (vt vs' : V) (t : List Rw) (N : List Str) (b r x y : Int) (w : Str) (rest : List PyData), vs = [vt, vs', .int b] ∧ 2 ≤ b ∧ b ≤ 4 ∧ Tx.ok b N t ∧ Dt K H vt (Tx.d t) ∧ Dt K H vs' (stI r x y) ∧ Stand t b r x y ∧ deedD t b r x y = .tuple (.str w :: rest) ∧ Word w ∧ ∀ H', Same H H' → Q (.int (cnt b w)) H'
theorem ok_lco {f fL fV : Addr} {fd fdL fdV : FuncData} {k : Nat} (F : Fun K "_law_count" "_law_count" sLco f fd) (T : Bi mg) (FL : Fun K "_law_deed" "_law_deed" sLde fL fdL) (bL : Binds K fdL ["_law_rows", "_law_stand", "_law_radix"] []) (gL : mg "_law_deed" = some (.ref fL))
    (FV : Fun K "_law_value" "_law_value" sLval fV fdV) (bV : Binds K fdV ["_law_one", "_law_x", "_law_y", "_law_radix"] []) (gV : mg "_law_value" = some (.ref fV)) : FnOk P w K mg base CX0 (k + 4) f fd ["_law_rows", "_law_stand", "_law_radix"] (spLco K) := by
  have GL : FnOk P w K mg base CX0 (k + 3) fL fdL ["_law_rows", "_law_stand", "_law_radix"] (spDat K) := ok_lde FL T FV bV gV
  refine F.ok scLco (fun vs H Q E h => ?_) (fun cdv A outer s H vs Q E hr h => ?_)
  · obtain ⟨vt, vs', t, N, b, r, x, y, w, rest, rfl, _⟩ := h
    rfl
  · obtain ⟨vt, vs', t, N, b, r, x, y, w, rest, rfl, hb2, hb4, ok, ht, hs, st, dw, hw, q⟩ := h
    refine ⟨_, pss_one (ps_ret (pe_dget2 (hu_of hr) (pe_disp (pps_cons pe_str pe_int (pps_cons pe_str pe_int (pps_cons pe_str pe_int (pps_cons pe_str pe_int pps_nil)))) (by rfl) (by rfl) (fun z => by cases z) (by decide))
      (pe_ix ix_tup (pe_call GL hr (by rfl) gL FL.kp bL .nil pass0 (pa_cons (pv 0) (pa_cons (pv 1) (pa_cons (pv 2) pa_nil)))) pe_int (fun _ _ => rfl)) (pv 2) ⟨rfl, rfl, rfl, rfl⟩)), ?_⟩
    refine fun p np => ⟨upd_same, [(Sum.inr "say", .int 1), (Sum.inr "write", .int 1), (Sum.inr "end", .int 0), (Sum.inr "mute", .int 0)], rfl, (by show 4 ≤ 15; decide), p, rfl, .inl ⟨_, .inl upd_same⟩, ?_⟩
    have s1 : Same H (upd (upd H p (.dK [])) p (.dK (mergeK [] [(Sum.inr "say", .int 1), (Sum.inr "write", .int 1), (Sum.inr "end", .int 0), (Sum.inr "mute", .int 0)]))) := same_put np (same_new np)
    refine ⟨_, rfl, _, rfl, _, rfl, vt, vs', t, N, b, r, x, y, rfl, hb2, hb4, ok, ht.keep (keepT_same s1), hs.keep (keepT_same s1), st, fun v H2 d2 s2 => ?_⟩
    rw [dw] at d2
    obtain ⟨a, xs, rfl, ha, hxs⟩ := dt_tuple d2
    obtain ⟨u, us, rfl, d0, q0⟩ := dtall_cons hxs
    cases d0
    refine ⟨a, _, 0, .str w, rfl, rfl, ha, atI_nat (j := 0) rfl, _, rfl, _, DGet.k (k := Sum.inr w) (s2 _ _ upd_same), ?_⟩
    rw [cnt_eq hw]
    exact q _ (s1.trans s2)
end
end Kx

namespace Kx
open PySem PySem.Spec PyProof.Rows L2
theorem text_le : ∀ (ts : List Str) (k : Nat) (acc : Str), (textFrom k acc ts).length ≤ acc.length + piled ts
  | [], k, acc => Nat.le_add_right _ _
  | t :: ts, k, acc => by
    have ih := text_le ts (k + 1) (acc ++ (if k > 0 then ", " else "" : String) ++ t)
    rw [strLen_append, strLen_append] at ih
    rw [piled_cons]
    show (textFrom (k + 1) (acc ++ (if k > 0 then ", " else "" : String) ++ t) ts).length ≤ _
    refine Nat.le_trans ih ?_
    have : (Str.ofString (if k > 0 then ", " else "")).length ≤ 2 := by split <;> decide
    omega
theorem list_le (ts : List Str) : (listText ts).length ≤ piled ts + 2 := by
  unfold listText
  rw [strLen_append]
  have h := text_le ts 0 "["
  have h1 : (Str.ofString "[").length = 1 := by decide
  have h2 : (Str.ofString "]").length = 1 := by decide
  rw [h1] at h
  rw [h2]
  omega
def Elt (d : PyData) : Prop := d.showable = true ∧ d.hasDict = false ∧ d.depth ≤ 3 ∧ d.shown.length ≤ 20
def Fine (d : PyData) : Prop := d.showable = true ∧ d.hasDict = false ∧ d.depth ≤ 60 ∧ d.shown.length ≤ sizeLine
theorem fine_list {ds : List PyData} (h : ∀ d ∈ ds, Elt d) (n : ds.length ≤ 10000) : Fine (.list ds) := by
  have a : PyData.showableAll ds = true ∧ PyData.hasDictAll ds = false ∧ PyData.depthAll ds ≤ 3 ∧ piled (PyData.shownAll ds) ≤ 22 * ds.length := by
    clear n
    induction ds with
    | nil => exact ⟨rfl, rfl, Nat.zero_le _, Nat.le_refl _⟩
    | cons d ds ih =>
      obtain ⟨a1, a2, a3, a4⟩ := ih fun x hx => h x (List.mem_cons_of_mem _ hx)
      obtain ⟨b1, b2, b3, b4⟩ := h d (List.mem_cons_self ..)
      refine ⟨?_, ?_, ?_, ?_⟩
      · simp only [PyData.showableAll, a1, b1, Bool.and_self]
      · simp only [PyData.hasDictAll, a2, b2, Bool.or_self]
      · simp only [PyData.depthAll]
        omega
      · simp only [PyData.shownAll, piled_cons, List.length_cons]
        omega
  obtain ⟨a1, a2, a3, a4⟩ := a
  refine ⟨?_, ?_, ?_, ?_⟩
  · simp only [PyData.showable]
    exact a1
  · simp only [PyData.hasDict]
    exact a2
  · simp only [PyData.depth]
    omega
  · simp only [PyData.shown]
    have := list_le (PyData.shownAll ds)
    exact Nat.le_trans this (Nat.le_trans (show piled (PyData.shownAll ds) + 2 ≤ 300000 by omega) (by decide))
theorem elt_none : Elt .none := by
  refine ⟨rfl, rfl, Nat.zero_le _, ?_⟩
  decide +kernel
theorem elt_all : ∀ r, r < 18 → ∀ x, x < 4 → ∀ y, y < 4 → (stD r x y).shown.length ≤ 20 := by decide +kernel
theorem elt_st {r x y : Nat} (hr : r < 18) (hx : x < 4) (hy : y < 4) : Elt (stD r x y) := by
  refine ⟨?_, rfl, ?_, elt_all r hr x hx y hy⟩
  · have big : ∀ n : Nat, n < 200 → decide ((n : Int).natAbs.log2 < 1920) = true := by decide +kernel
    simp only [stD, PyData.showable, PyData.showableAll, big r (by omega), big x (by omega), big y (by omega), Bool.and_self]
  · simp only [stD, PyData.depth, PyData.depthAll]
    omega
theorem elt_stands {t : List Rw} {b : Nat} (hb : b = 2 ∨ b = 3 ∨ b = 4) (ht : t.length ≤ 16) : ∀ d ∈ stands t b (t.length + 1), Elt d := by
  intro d hd
  unfold stands at hd
  obtain ⟨r, hr, hd⟩ := List.mem_flatMap.mp hd
  unfold blk at hd
  obtain ⟨x, hx, hd⟩ := List.mem_flatMap.mp hd
  unfold line at hd
  obtain ⟨y, hy, rfl⟩ := List.mem_map.mp hd
  unfold loud at hr
  have h1 := List.mem_range.mp (List.mem_filter.mp hr).1
  have h2 := List.mem_range.mp hx
  have h3 := List.mem_range.mp hy
  exact elt_st (by omega) (by omega) (by omega)
/-- the lists that the law holds, with their texts; none of them is the list that holds them -/
def Held (K : PySem.W.Frag) (h : Addr) (H : Hp) (hs : List V) : Prop := ∀ v ∈ hs, ∃ (p l : Addr) (ys : List V) (ds : List PyData), v = .ref p ∧ l ≠ h ∧ H p = some (.tup [.ref l, .str (PyData.list ds).shown]) ∧ H l = some (.lst ys) ∧ DtAll K H ys ds ∧ Fine (.list ds)
theorem keepT_l {K : PySem.W.Frag} {H H' : Hp} {b : Addr} {zs : List V} (B : H b = some (.lst zs)) (s : SameX b H H') : KeepT K H H' := fun a xs h => by
  rcases h with (h | ⟨o, h⟩) | h
  · exact .inl (.inl (s _ _ (ne_of h B (by intro z; cases z)) h))
  · exact .inl (.inr ⟨o, s _ _ (ne_of h B (by intro z; cases z)) h⟩)
  · exact .inr h
theorem Held.same {K : PySem.W.Frag} {h : Addr} {H H' : Hp} {hs : List V} (q : Held K h H hs) (s : Same H H') : Held K h H' hs := fun v hv => by
  obtain ⟨p, l, ys, ds, e, n, h1, h2, h3, h4⟩ := q v hv
  exact ⟨p, l, ys, ds, e, n, s _ _ h1, s _ _ h2, h3.keep (keepT_same s), h4⟩
theorem Held.put {K : PySem.W.Frag} {h : Addr} {H : Hp} {hs xs zs : List V} (q : Held K h H hs) (e : H h = some (.lst xs)) : Held K h (upd H h (.lst zs)) hs := fun v hv => by
  obtain ⟨p, l, ys, ds, ev, n, h1, h2, h3, h4⟩ := q v hv
  have np : p ≠ h := ne_of h1 e (by intro z; cases z)
  exact ⟨p, l, ys, ds, ev, n, by rw [upd_ne np]; exact h1, by rw [upd_ne n]; exact h2, h3.keep (keepT_put e), h4⟩
theorem DtAll.rev {K : PySem.W.Frag} {H : Hp} : ∀ {vs : List V} {ds : List PyData}, DtAll K H vs ds → DtAll K H vs.reverse ds.reverse
  | _, _, .nil => .nil
  | _, _, .cons h q => by
    rw [List.reverse_cons, List.reverse_cons]
    exact (DtAll.rev q).snoc h
/-- a new thing b, then what keeps all but b -/
theorem Same.then {b : Addr} {H H1 H2 : Hp} (n : H b = none) (s : Same H H1) (x : SameX b H1 H2) : Same H H2 := fun a o e => x a o (ne_of_none e n) (s a o e)
end Kx

namespace Kx
open PySem PySem.Spec PyProof.Rows L2
def Flat1 (d : PyData) : Prop := (∃ k : Int, d = .int k ∧ 0 ≤ k ∧ k < 100) ∨ ∃ s : Str, d = .str s ∧ s.length ≤ 8 ∧ sok s
theorem small_int : ∀ n : Nat, n < 100 → decide ((n : Int).natAbs.log2 < 1920) = true ∧ (PyData.int (n : Int)).shown.length ≤ 100 := by decide +kernel
theorem flat1_elt {d : PyData} (h : Flat1 d) : d.showable = true ∧ d.hasDict = false ∧ d.depth = 0 ∧ d.shown.length ≤ 100 ∧ d.canLay0 = true := by
  rcases h with ⟨k, rfl, h0, h1⟩ | ⟨s, rfl, hl, hs⟩
  · obtain ⟨n, rfl⟩ : ∃ n : Nat, k = n := ⟨k.toNat, by omega⟩
    have z := small_int n (by omega)
    exact ⟨z.1, rfl, rfl, z.2, rfl⟩
  · refine ⟨rfl, rfl, rfl, ?_, ?_⟩
    rotate_left
    · show PyData.strOk s = true
      unfold PyData.strOk
      rw [Array.all_eq_true']
      intro c hc
      exact decide_eq_true (Nat.lt_trans (hs c (Array.mem_toList_iff.mpr hc)) (by decide))
    have z := StrLaws.reprText_len s fun c hc => Nat.lt_trans (hs c hc) (by decide)
    have e : (PyData.str s).shown = reprText s := by simp only [PyData.shown]
    rw [e]
    omega
theorem fine_tuple {ds : List PyData} (h : ∀ d ∈ ds, Flat1 d) (n : ds.length ≤ 100) : Fine (.tuple ds) ∧ SeqAt.shaped (.tuple ds) = true := by
  have a : PyData.showableAll ds = true ∧ PyData.hasDictAll ds = false ∧ PyData.depthAll ds = 0 ∧ piled (PyData.shownAll ds) ≤ 102 * ds.length ∧ PyData.canLayAll0 ds = true := by
    clear n
    induction ds with
    | nil => exact ⟨rfl, rfl, rfl, Nat.le_refl _, rfl⟩
    | cons d ds ih =>
      obtain ⟨a1, a2, a3, a4, a5⟩ := ih fun x hx => h x (List.mem_cons_of_mem _ hx)
      obtain ⟨b1, b2, b3, b4, b5⟩ := flat1_elt (h d (List.mem_cons_self ..))
      refine ⟨?_, ?_, ?_, ?_, ?_⟩
      · simp only [PyData.showableAll, a1, b1, Bool.and_self]
      · simp only [PyData.hasDictAll, a2, b2, Bool.or_self]
      · simp only [PyData.depthAll, a3, b3, Nat.max_self]
      · simp only [PyData.shownAll, piled_cons, List.length_cons]
        omega
      · simp only [PyData.canLayAll0, a5, b5, Bool.and_self]
  obtain ⟨a1, a2, a3, a4, a5⟩ := a
  have dep : (PyData.tuple ds).depth = 1 := by simp only [PyData.depth, a3]
  refine ⟨⟨?_, ?_, by omega, ?_⟩, ?_⟩
  · simp only [PyData.showable]
    exact a1
  · simp only [PyData.hasDict]
    exact a2
  · simp only [PyData.shown]
    have : (tupleText (PyData.shownAll ds)).length ≤ piled (PyData.shownAll ds) + 10 := by
      unfold tupleText
      rw [strLen_append, strLen_append]
      have e1 : (Str.ofString "(").length = 1 := by decide
      have e2 : (Str.ofString (if (PyData.shownAll ds).length == 1 then ",)" else ")")).length ≤ 2 := by split <;> decide
      rw [e1]
      by_cases z : PyData.shownAll ds = []
      · rw [z] at e2 ⊢
        have e3 : (Str.join (Str.ofString ", ") []).length = 0 := rfl
        rw [e3]
        omega
      · have := join_length_add _ z
        omega
    exact Nat.le_trans this (Nat.le_trans (show piled (PyData.shownAll ds) + 10 ≤ 11000 by omega) (by decide))
  · unfold SeqAt.shaped
    rw [dep]
    have : (PyData.tuple ds).canLay0 = true := by simp only [PyData.canLay0]; exact a5
    rw [this]
    rfl
theorem wflat (s : Str) (h : s.length ≤ 8 ∧ sok s) : Flat1 (.str s) := .inr ⟨s, rfl, h⟩
theorem iflat {k : Int} (h0 : 0 ≤ k) (h1 : k < 100) : Flat1 (.int k) := .inl ⟨k, rfl, h0, h1⟩
theorem sok_of {s : Str} (h : s.cps.toList.all (fun c => decide (c < 1000)) = true) : sok s := fun c hc => of_decide_eq_true (List.all_eq_true.mp h c hc)
theorem wordflat {w : Str} (h : Word w) : Flat1 (.str w) := by
  rcases h with rfl | rfl | rfl | rfl | rfl | rfl | rfl <;> exact wflat _ ⟨by decide, sok_of (by decide +kernel)⟩
theorem deed_fine {t : List Rw} {N : List Str} {b r x y : Int} (hb2 : 2 ≤ b) (hb : b ≤ 4) (ok : Tx.ok b N t) (hN : ∀ s ∈ N, Nm s) (st : Stand t b r x y) : Fine (deedD t b r x y) ∧ SeqAt.shaped (deedD t b r x y) = true := by
  have W : ∀ w, Word w → Flat1 (.str w) := fun w h => wordflat h
  have two : ∀ {c d : PyData}, Flat1 c → Flat1 d → Fine (.tuple [c, d]) ∧ SeqAt.shaped (.tuple [c, d]) = true := fun hc hd => fine_tuple (fun e he => by
    rcases List.mem_cons.mp he with rfl | he
    · exact hc
    · rw [List.mem_singleton.mp he]; exact hd) (by show 2 ≤ 100; decide)
  have one : ∀ {c : PyData}, Flat1 c → Fine (.tuple [c]) ∧ SeqAt.shaped (.tuple [c]) = true := fun hc => fine_tuple (fun e he => by
    rw [List.mem_singleton.mp he]; exact hc) (by show 1 ≤ 100; decide)
  have three : ∀ {c d e : PyData}, Flat1 c → Flat1 d → Flat1 e → Fine (.tuple [c, d, e]) ∧ SeqAt.shaped (.tuple [c, d, e]) = true := fun hc hd he => fine_tuple (fun f hf => by
    rcases List.mem_cons.mp hf with rfl | hf
    · exact hc
    · rcases List.mem_cons.mp hf with rfl | hf
      · exact hd
      · rw [List.mem_singleton.mp hf]; exact he) (by show 3 ≤ 100; decide)
  rcases st with ⟨rfl, rfl, rfl⟩ | ⟨i, rfl, hi, sl, pt⟩
  · exact one (W "mute" (by unfold Word; simp))
  · unfold deedD
    rw [if_neg (by omega), Int.toNat_natCast]
    cases h : t[i]? with
    | none => exact two (W "end" (by unfold Word; simp)) (iflat (by decide) (by decide))
    | some row =>
      have rs := silent_row h sl
      have rok := ok row (List.mem_of_getElem? h)
      cases row with
      | set v e => cases rs
      | iff e f r => cases rs
      | go r => cases rs
      | say e =>
        have z := Ex.val_in (o := e) rok pt.1 pt.2
        exact two (W "say" (by unfold Word; simp)) (iflat z.1 (by omega))
      | ask v => exact one (W "ask" (by unfold Word; simp))
      | read c v => exact two (W "read" (by unfold Word; simp)) (iflat (by rcases rok.1 with rfl | rfl <;> decide) (by rcases rok.1 with rfl | rfl <;> decide))
      | write c e =>
        have z := Ex.val_in (o := e) rok.2 pt.1 pt.2
        exact three (W "write" (by unfold Word; simp)) (iflat (by rcases rok.1 with rfl | rfl <;> decide) (by rcases rok.1 with rfl | rfl <;> decide)) (iflat z.1 (by omega))
      | call n e v =>
        have z := Ex.val_in (o := e) rok.2.1 pt.1 pt.2
        exact three (W "call" (by unfold Word; simp)) (wflat n (hN n rok.1)) (iflat z.1 (by omega))
      | fin e =>
        have z := Ex.val_in (o := e) rok pt.1 pt.2
        exact two (W "end" (by unfold Word; simp)) (iflat z.1 (by omega))
/-- what stands in the list of stands is a stand -/
theorem stands_in {t : List Rw} {b : Nat} {d : PyData} (h : d ∈ stands t b (t.length + 1)) : ∃ r x y : Int, d = stI r x y ∧ Stand t b r x y := by
  unfold stands at h
  obtain ⟨r, hr, h⟩ := List.mem_flatMap.mp h
  unfold blk at h
  obtain ⟨x, hx, h⟩ := List.mem_flatMap.mp h
  unfold line at h
  obtain ⟨y, hy, rfl⟩ := List.mem_map.mp h
  unfold loud at hr
  have h1 := List.mem_range.mp (List.mem_filter.mp hr).1
  have h2 := List.mem_range.mp hx
  have h3 := List.mem_range.mp hy
  have h4 := (List.mem_filter.mp hr).2
  exact ⟨r, x, y, rfl, .inr ⟨r, rfl, by omega, by simpa using h4, ⟨by omega, by omega⟩, by omega, by omega⟩⟩
theorem DtAll.at {K : PySem.W.Frag} {H : Hp} : ∀ {vs : List V} {ds : List PyData}, DtAll K H vs ds → ∀ (i : Nat) {v : V}, vs[i]? = some v → ∃ d, ds[i]? = some d ∧ Dt K H v d
  | _, _, .nil, i, _, e => by simp at e
  | _, _, .cons h q, 0, _, e => ⟨_, rfl, (Option.some.inj e) ▸ h⟩
  | _, _, .cons h q, i + 1, _, e => DtAll.at q i e
theorem cnt_small {b : Int} {w : Str} (h0 : 0 ≤ b) (h1 : b ≤ 4) : (cnt b w).natAbs.log2 < 1920 := by
  have z : ∀ n : Nat, n < 10 → n.log2 < 1920 := by decide +kernel
  unfold cnt
  split
  · exact z _ (by omega)
  · split
    · exact z _ (by decide)
    · exact z _ (by decide)
end Kx

namespace Kx
open PySem PySem.Spec PyProof.Rows L2
abbrev sLaw : Stmt := topS 29
theorem scLaw : FnScope ["_law_script", "_law_at", "_law_bag_here", "_law_radix", "_law_names_here", "_law_rows", "_law_place", "_law_due", "_law_found"] ["_law_script"] (defScope sLaw) := ⟨rfl, rfl, rfl, by decide +kernel, rfl, by decide +kernel, by decide +kernel⟩
structure Ui (mg : Str → Option Value) : Prop where
  abs : mg "abs" = none
  range : mg "range" = none
  max : mg "max" = none
  min : mg "min" = none
  repr : mg "repr" = none
  all : mg "all" = none
section
variable {P : Program} {w : World} {K : PySem.W.Frag} {mg : Str → Option Value} {base : Heap}
theorem kb_D {f : Addr} {fd : FuncData} (F : FnD K "deed_of" sDof [("base", .int 3)] f fd) : KBn K fd ["text", "stand", "base"] 2 ["base"] (fun us ws => us ++ ws) (fun vs zs => vs ++ zs) := by
  obtain ⟨oc, od, dV, kV, doc, pm, an, cdv, ct, osl, rfl, lk, hcd, hD, hK⟩ := F.ex
  obtain rfl : dV = .none := by
    rcases hD with ⟨_, e⟩ | ⟨e, _⟩
    · exact e
    · exact absurd rfl e
  obtain ⟨D, rfl⟩ : ∃ D, kV = .ref D := by
    rcases hK with e | ⟨D, e, _⟩
    · cases e
    · exact ⟨D, e⟩
  refine ⟨fun s us ws _ h1 h2 => ?_, fun r1 r2 => r1.append r2⟩
  match us, ws, h1, h2 with
  | [u0, u1], [w], _, _ => exact .of_eq rfl
theorem bd_D {f : Addr} {fd : FuncData} (F : FnD K "deed_of" sDof [("base", .int 3)] f fd) : ∃ ds, Vals [.int 3] ds ∧ Binds K fd ["text", "stand", "base"] ds := by
  refine F.binds0 (ps := ["text", "stand", "base"]) 2 (by simp) rfl fun D doc pm an cdv ct us ks h1 h2 => ?_
  match us, ks, h1, h2 with
  | [u0, u1], [v], _, _ => exact ⟨_, _, _, _, _, _, rfl, rfl, rfl⟩
theorem kb_B {f : Addr} {fd : FuncData} (F : FnD K "branch_count" sBrc [("base", .int 3)] f fd) : KBn K fd ["deed", "base"] 1 ["base"] (fun us ws => us ++ ws) (fun vs zs => vs ++ zs) := by
  obtain ⟨oc, od, dV, kV, doc, pm, an, cdv, ct, osl, rfl, lk, hcd, hD, hK⟩ := F.ex
  obtain rfl : dV = .none := by
    rcases hD with ⟨_, e⟩ | ⟨e, _⟩
    · exact e
    · exact absurd rfl e
  obtain ⟨D, rfl⟩ : ∃ D, kV = .ref D := by
    rcases hK with e | ⟨D, e, _⟩
    · cases e
    · exact ⟨D, e⟩
  refine ⟨fun s us ws _ h1 h2 => ?_, fun r1 r2 => r1.append r2⟩
  match us, ws, h1, h2 with
  | [u0], [w], _, _ => exact .of_eq rfl
theorem bd_B {f : Addr} {fd : FuncData} (F : FnD K "branch_count" sBrc [("base", .int 3)] f fd) : ∃ ds, Vals [.int 3] ds ∧ Binds K fd ["deed", "base"] ds := by
  refine F.binds0 (ps := ["deed", "base"]) 1 (by simp) rfl fun D doc pm an cdv ct us ks h1 h2 => ?_
  match us, ks, h1, h2 with
  | [u0], [v], _, _ => exact ⟨_, _, _, _, _, _, rfl, rfl, rfl⟩
theorem law_run {f pM pS pR pP fD fBr fB fT fN fO fE fR fX fV fL fC fS fI fW fY fZ fQ fK fA : Addr} {fd fdD fdBr fdB fdT fdN fdO fdE fdR fdX fdV fdL fdC fdS fdI fdW fdY fdZ fdQ fdK fdA : FuncData} (F : Fun K "law" "law" sLaw f fd) (T : Bi mg) (U : Ui mg) (gM : mg "MUTE" = some (.ref pM)) (hM : MuteK K pM) (gSi : mg "SILENT" = some (.ref pS)) (hSi : SilK K pS) (gRe : mg "RECEIVING" = some (.ref pR)) (hRe : RecK K pR) (gPa : mg "PASSING" = some (.ref pP)) (hPa : PasK K pP)
    (FB : Fun K "_law_bag" "_law_bag" sBag fB fdB) (bB : Binds K fdB ["_law_script", "_law_at"] []) (gB : mg "_law_bag" = some (.ref fB))
    (FT : Fun K "_law_take" "_law_take" sTake fT fdT) (bT : Binds K fdT ["_law_bag_here", "_law_many"] []) (gT : mg "_law_take" = some (.ref fT))
    (FN : Fun K "_law_names" "_law_names" sNam fN fdN) (bN : Binds K fdN ["_law_bag_here"] []) (gN : mg "_law_names" = some (.ref fN))
    (FO : Fun K "_law_operand" "_law_operand" sOpd fO fdO) (bO : Binds K fdO ["_law_bag_here", "_law_radix"] []) (gO : mg "_law_operand" = some (.ref fO))
    (FE : Fun K "_law_expression" "_law_expression" sExp fE fdE) (bE : Binds K fdE ["_law_bag_here", "_law_radix"] []) (gE : mg "_law_expression" = some (.ref fE))
    (FR : Fun K "_law_row" "_law_row" sRow fR fdR) (bR : Binds K fdR ["_law_bag_here", "_law_radix", "_law_many", "_law_names_here"] []) (gR : mg "_law_row" = some (.ref fR))
    (FX : Fun K "_law_text" "_law_text" sText fX fdX) (bX : Binds K fdX ["_law_bag_here", "_law_radix", "_law_most", "_law_names_here"] []) (gX : mg "_law_text" = some (.ref fX))
    (FV : Fun K "_law_value" "_law_value" sLval fV fdV) (bV : Binds K fdV ["_law_one", "_law_x", "_law_y", "_law_radix"] []) (gV : mg "_law_value" = some (.ref fV))
    (FL : Fun K "_law_deed" "_law_deed" sLde fL fdL) (bL : Binds K fdL ["_law_rows", "_law_stand", "_law_radix"] []) (gL : mg "_law_deed" = some (.ref fL))
    (FC : Fun K "_law_count" "_law_count" sLco fC fdC) (bC : Binds K fdC ["_law_rows", "_law_stand", "_law_radix"] []) (gC : mg "_law_count" = some (.ref fC))
    (FS : Fun K "_law_stands" "_law_stands" sLstands fS fdS) (bS : Binds K fdS ["_law_rows", "_law_radix"] []) (gS : mg "_law_stands" = some (.ref fS))
    (FI : Fun K "is_integer" "is_integer" sInt fI fdI) (bI : Binds K fdI ["thing"] []) (gI : mg "is_integer" = some (.ref fI))
    (FW : Fun K "is_below" "is_below" sBel fW fdW) (bW : Binds K fdW ["thing", "top"] []) (gW : mg "is_below" = some (.ref fW))
    (FY : Fun K "value_of" "value_of" sVal fY fdY) (bY : Binds K fdY ["expression", "point", "base"] []) (gY : mg "value_of" = some (.ref fY))
    (FZ : Fun K "is_silent" "is_silent" sSil fZ fdZ) (bZ : Binds K fdZ ["text", "row"] []) (gZ : mg "is_silent" = some (.ref fZ))
    (FQ : Fun K "is_stand" "is_stand" sIst fQ fdQ) (bQ : Binds K fdQ ["text", "thing", "base"] []) (gQ : mg "is_stand" = some (.ref fQ))
    (FK : Fun K "check_stand" "check_stand" sChk fK fdK) (bK : Binds K fdK ["text", "thing", "base"] []) (gK : mg "check_stand" = some (.ref fK))
    (FA : Fun K "deed_at" "deed_at" sDat fA fdA) (bA : Binds K fdA ["text", "stand", "base"] []) (gA : mg "deed_at" = some (.ref fA))
    (FD : FnD K "deed_of" sDof [("base", .int 3)] fD fdD) (gD : mg "deed_of" = some (.ref fD)) (FBr : FnD K "branch_count" sBrc [("base", .int 3)] fBr fdBr) (gBr : mg "branch_count" = some (.ref fBr))
    {H : Hp} {t : Shared} {a : Addr} {ns : List Int} (hn : ns.length ≤ 63) (env0 : Env0 P w K mg base callerA [] t H) (sq : SqL K H a (ns.map V.int)) :
    codeAny (model P w) callerA (.call (.ref f) ⟨[.ref a], []⟩) (CR CX0 [] P w H t (fun v _ => v = .bl true) fun _ _ _ => False) t := by
  have GB : FnOk P w K mg base CX0 8 fB fdB ["_law_script", "_law_at"] (spBag K) := ok_bag FB T.len U.abs
  have GT : FnOk P w K mg base CX0 8 fT fdT ["_law_bag_here", "_law_many"] spTake := ok_take FT
  have GN : FnOk P w K mg base CX0 8 fN fdN ["_law_bag_here"] spNam := ok_nam FN FT bT gT U.range
  have GX : FnOk P w K mg base CX0 8 fX fdX ["_law_bag_here", "_law_radix", "_law_most", "_law_names_here"] (spText K) := ok_text FX FT bT gT FO bO gO FE bE gE T.len FR bR gR T.tuple U.range
  have GL : FnOk P w K mg base CX0 8 fL fdL ["_law_rows", "_law_stand", "_law_radix"] (spDat K) := ok_lde FL T FV bV gV
  have GC : FnOk P w K mg base CX0 8 fC fdC ["_law_rows", "_law_stand", "_law_radix"] (spLco K) := ok_lco FC T FL bL gL FV bV gV
  have GS : FnOk P w K mg base CX0 8 fS fdS ["_law_rows", "_law_radix"] (spLst K) := ok_lst FS T.len U.range
  have GA : FnOk P w K mg base CX0 7 fA fdA ["text", "stand", "base"] (spDat K) := ok_dat FA T gM hM FY bY gY
  have GK : FnOk P w K mg base CX0 7 fK fdK ["text", "thing", "base"] (spChk K) := ok_chk FK T U.all gM hM gSi hSi FI bI gI FW bW gW FZ bZ gZ FQ bQ gQ
  have GD : FnOk P w K mg base CX0 8 fD fdD ["text", "stand", "base"] (spDat K) := ok_dof (k := 3) (pM := pM) FD GK FK.kp bK gK GA FA.kp bA gA
  have GBr : FnOk P w K mg base CX0 8 fBr fdBr ["deed", "base"] (spBrc K) := ok_brc FBr gRe hRe gPa hPa
  have kbD := kb_D FD
  have kbB := kb_B FBr
  obtain ⟨ddD, vdD, bdD⟩ := bd_D FD
  obtain ⟨ddB, vdB, bdB⟩ := bd_B FBr
  obtain ⟨oc, od, kV, doc, pm, an, cdv, ct, osl, rfl, lk, hcd⟩ := F.ex
  refine run_at (k := 8) (N := ["_law_script", "_law_at", "_law_bag_here", "_law_radix", "_law_names_here", "_law_rows", "_law_place", "_law_due", "_law_found"]) (ps := ["_law_script"]) (us := [.ref a]) (vs := [.ref a]) lk hcd scLaw rfl ⟨rfl, by decide, by decide⟩ env0 (.of_eq rfl) (.cons rfl .nil) fun hr => ?_
  have hu := hr.units
  refine ⟨_, PSs.nox (pss_cons (ps_for PassesOwn.never rfl (pi_range1 (by rfl) U.range (pa_cons (pe_callB (call_max2 rfl) (by rfl) U.max (by decide +kernel) (pa_cons pe_int (pa_cons (pe_callB (call_min2 rfl) (by rfl) U.min (by decide +kernel) (pa_cons pe_int (pa_cons (pe_callB call_len_seq (by rfl) T.len PySem.boot_len (pa_cons (pv 0) pa_nil)) pa_nil))) pa_nil))) pa_nil)) (pg_name (i := 1) scLaw.nd rfl (.inl rfl)) (pss_cons (ps_set (i := 2) scLaw.nd rfl (.inl rfl) (pe_call GB hr (by rfl) gB FB.kp bB .nil pass0 (pa_cons (pv 0) (pa_cons (pv 1) pa_nil)))) (pss_cons (ps_par (i := 3) (j := 4) (by rfl) scLaw.nd rfl rfl (by decide) rfl rfl (pa_cons (pe_op op_add pe_int (pe_call GT hr (by rfl) gT FT.kp bT .nil pass0 (pa_cons (pv 2) (pa_cons pe_int pa_nil)))) (pa_cons (pe_call GN hr (by rfl) gN FN.kp bN .nil pass0 (pa_cons (pv 2) pa_nil)) pa_nil)) (by rfl)) (pss_cons (ps_set (i := 5) scLaw.nd rfl (.inl rfl) (pe_call GX hr (by rfl) gX FX.kp bX .nil pass0 (pa_cons (pv 2) (pa_cons (pv 3) (pa_cons (pe_ix ix_list (pe_lst (pa_cons pe_int (pa_cons pe_int (pa_cons pe_int pa_nil)))) (pe_call GT hr (by rfl) gT FT.kp bT .nil pass0 (pa_cons (pv 2) (pa_cons pe_int pa_nil))) (fun _ _ => rfl)) (pa_cons (pv 4) pa_nil)))))) (pss_one (ps_for PassesOwn.never rfl (pi_list (pe_op op_cat (pe_call GS hr (by rfl) gS FS.kp bS .nil pass0 (pa_cons (pv 5) (pa_cons (pv 3) pa_nil))) (pe_lst (pa_cons (pe_glob (v := .ref pM) rfl gM rfl) pa_nil)))) (pg_name (i := 6) scLaw.nd rfl (.inl rfl)) (pss_cons (ps_set (i := 7) scLaw.nd rfl (.inl rfl) (pe_call GL hr (by rfl) gL FL.kp bL .nil pass0 (pa_cons (pv 5) (pa_cons (pv 6) (pa_cons (pv 3) pa_nil))))) (pss_cons (ps_set (i := 8) scLaw.nd rfl (.inl rfl) (pe_callN GD hr (by rfl) gD FD.kp kbD pass0 (pa_cons (pv 5) (pa_cons (pv 6) pa_nil)) (pk_cons (pv 3) pk_nil))) (pss_cons (ps_if (pt_cmpR op_ne (pe_callB (cr_repr rfl hu) (by rfl) U.repr (by decide +kernel) (pa_cons (pv 8) pa_nil)) (pe_callB (cr_repr rfl hu) (by rfl) U.repr (by decide +kernel) (pa_cons (pv 7) pa_nil)) (nomark _)) (pss_one (ps_ret pe_bl)) pss_nil) (pss_cons (ps_if (pt_cmpR op_ne (pe_callB SkE.call_repr_int (by rfl) U.repr (by decide +kernel) (pa_cons (pe_callN GBr hr (by rfl) gBr FBr.kp kbB pass0 (pa_cons (pv 8) pa_nil) (pk_cons (pv 3) pk_nil)) pa_nil)) (pe_callB SkE.call_repr_int (by rfl) U.repr (by decide +kernel) (pa_cons (pe_call GC hr (by rfl) gC FC.kp bC .nil pass0 (pa_cons (pv 5) (pa_cons (pv 6) (pa_cons (pv 3) pa_nil)))) pa_nil)) (nomark _)) (pss_one (ps_ret pe_bl)) pss_nil) (pss_cons (ps_if (PW.pt (pw_and (pt_cmpR op_eq (pv 3) pe_int (nomark _)) (pw_and1 (pt_cmpR (op_neD hu) (pe_call GD hr (by rfl) gD FD.kp bdD vdD pass0 (pa_cons (pv 5) (pa_cons (pv 6) pa_nil))) (pv 7) (nomark _))))) (pss_one (ps_ret pe_bl)) pss_nil) (pss_one (ps_if (PW.pt (pw_and (pt_cmpR op_eq (pv 3) pe_int (nomark _)) (pw_and1 (pt_cmpR op_ne (pe_call GBr hr (by rfl) gBr FBr.kp bdB vdB pass0 (pa_cons (pv 7) pa_nil)) (pe_call GC hr (by rfl) gC FC.kp bC .nil pass0 (pa_cons (pv 5) (pa_cons (pv 6) (pa_cons pe_int pa_nil)))) (nomark _))))) (pss_one (ps_ret pe_bl)) pss_nil))))))))))))) (pss_one (ps_ret pe_bl))), ?_⟩
  obtain ⟨m, hm, hm6⟩ : ∃ m : Nat, (if (if ((ns.map V.int).length : Int) < 6 then ((ns.map V.int).length : Int) else 6) > 2 then (if ((ns.map V.int).length : Int) < 6 then ((ns.map V.int).length : Int) else 6) else 2) = (m : Int) ∧ m ≤ 6 := by
    refine ⟨(if (if ((ns.map V.int).length : Int) < 6 then ((ns.map V.int).length : Int) else 6) > 2 then (if ((ns.map V.int).length : Int) < 6 then ((ns.map V.int).length : Int) else 6) else 2).toNat, ?_, ?_⟩ <;> split <;> split <;> omega
  refine ⟨.ref a, rfl, a, _, rfl, .inl sq, 6, _, rfl, 2, _, rfl, m, congrArg (fun z => [V.int z]) hm, by omega, by omega, ?_⟩
  refine for_range (lo := 0) (n := m) (fun i σ H' => ∃ y1 y2 y3 y4 y5 y6 y7 y8, σ = [some (.ref a), y1, y2, y3, y4, y5, y6, y7, y8] ∧ Same H H') ⟨none, none, none, none, none, none, none, none, rfl, Same.refl H⟩ ?_ ?_
  · rintro i σ H1 hi ⟨y1, y2, y3, y4, y5, y6, y7, y8, rfl, s1⟩
    refine ⟨.ref a, rfl, _, rfl, a, ns, i, (by rw [Int.zero_add]; rfl), s1.seq sq, by omega, fun b H2 nb B2 s2 => ?_⟩
    refine ⟨.ref b, rfl, b, 0, 3, rfl, B2, by decide, by decide, by decide, fun r H3 r0 r1 B3 s3 => ?_⟩
    have S3 := Same.then nb s2 s3
    obtain ⟨rb, erb, hrb⟩ : ∃ rb : Nat, 2 + r = (rb : Int) ∧ (rb = 2 ∨ rb = 3 ∨ rb = 4) := ⟨(2 + r).toNat, by omega, by omega⟩
    refine ⟨2, r, rfl, rfl, ?_⟩
    refine ⟨.ref b, rfl, b, 0 + 1, rfl, B3, by decide, fun pn N H4 npn hpn N0 N3 hNm B4 s4 => ?_⟩
    have S4 := Same.then nb S3 s4
    have pnb : pn ≠ b := B3.ne npn
    refine ⟨_, _, rfl, ?_⟩
    refine ⟨.ref b, rfl, _, rfl, (by show 3 ≤ sizeLine; decide), fun l1 n1 => ?_⟩
    refine ⟨.ref b, rfl, b, 0 + 1 + 40, 3, rfl, B4.new n1, by decide, by decide, by decide, fun j H5 j0 j1 B5 s5 => ?_⟩
    have S5 := Same.then nb (S4.trans (same_new n1)) s5
    have hL1 : SqL K H5 l1 [.int 3, .int 8, .int 16] := SqL.of (s5 _ _ (B4.ne n1) upd_same)
    obtain ⟨most, hmost, hj⟩ : ∃ most : Nat, most ≤ 16 ∧ atI [V.int 3, V.int 8, V.int 16] j = some (.int most) := by
      rcases (by omega : j = 0 ∨ j = 1 ∨ j = 2) with rfl | rfl | rfl
      · exact ⟨3, by decide, atI_nat (j := 0) rfl⟩
      · exact ⟨8, by decide, atI_nat (j := 1) rfl⟩
      · exact ⟨16, by decide, atI_nat (j := 2) rfl⟩
    refine ⟨l1, _, j, .int most, rfl, rfl, hL1, hj, .ref pn, rfl, ?_⟩
    have hpn5 : SqL K H5 pn (N.map V.str) := SqL.of (s5 _ _ pnb ((same_new n1) _ _ hpn))
    refine ⟨b, pn, 0 + 1 + 40 + 1, (rb : Int), most, N, (by show [V.ref b, V.int (2 + r), V.int (most : Int), V.ref pn] = _; rw [erb]), B5, by decide, by omega, by omega, by omega, pnb, hpn5, N0, by omega, fun v t H6 lt ok d6 B6 s6 => ?_⟩
    have S6 := Same.then nb S5 s6
    have rb2 : (2 : Int) ≤ rb := by omega
    have rb4 : (rb : Int) ≤ 4 := by omega
    refine ⟨v, rfl, _, rfl, v, t, rb, (by show [v, V.int (2 + r)] = _; rw [erb]), d6, by omega, hrb, fun ps zs H7 nps hps dps s7 => ?_⟩
    refine ⟨(by show 1 ≤ sizeLine; decide), fun l3 n3 => ?_⟩
    have lz := dps.length
    have lst := stands_len hrb t (t.length + 1)
    refine ⟨ps, l3, zs, _, rfl, rfl, (same_new n3) _ _ hps, upd_same, ?_, fun pc npc => ?_⟩
    · exact Nat.le_of_lt (Nat.lt_of_le_of_lt (show zs.length + 1 ≤ 5000 by omega) (by decide))
    have s78 : Same H7 (upd (upd H7 l3 (.lst [.ref pM])) pc (.lst (zs ++ [.ref pM]))) := (same_new n3).trans (same_new npc)
    have hpc : (upd (upd H7 l3 (.lst [.ref pM])) pc (.lst (zs ++ [.ref pM]))) pc = some (.lst (zs ++ [.ref pM])) := upd_same
    refine ⟨pc, rfl, ⟨_, SqL.of hpc⟩, ?_⟩
    revert s78 hpc
    generalize upd (upd H7 l3 (.lst [.ref pM])) pc (.lst (zs ++ [.ref pM])) = H8
    intro s78 hpc
    have S8 : Same H1 H8 := (S6.trans s7).trans s78
    have d8 := d6.keep (keepT_same (K := K) (s7.trans s78))
    have dps8 := dps.keep (keepT_same (K := K) s78)
    refine for_list (K := K) (a := pc) (xs := zs ++ [.ref pM]) (fun j σ H' => ∃ y6 y7 y8, σ = [some (.ref a), some (.int (0 + (i : Int))), some (.ref b), some (.int (2 + r)), some (.ref pn), some v, y6, y7, y8] ∧ Same H8 H')
      ⟨y6, y7, y8, rfl, Same.refl H8⟩ (fun j σ H' _ ⟨_, _, _, _, s9⟩ => SqL.of (s9 _ _ hpc)) ?_ ?_
    · rintro j x σ H9 hx ⟨y6, y7, y8, rfl, s9⟩
      obtain ⟨r0', x0, y0, dx, st⟩ : ∃ r0' x0 y0 : Int, Dt K H9 x (stI r0' x0 y0) ∧ Stand t rb r0' x0 y0 := by
        by_cases hj : j < zs.length
        · rw [List.getElem?_append_left hj] at hx
          obtain ⟨d, e1, e2⟩ := DtAll.at dps8 j hx
          obtain ⟨r1', x1, y1', rfl, st⟩ := stands_in (List.mem_of_getElem? e1)
          exact ⟨r1', x1, y1', e2.keep (keepT_same s9), st⟩
        · rw [List.getElem?_append_right (by omega)] at hx
          have e : j - zs.length = 0 := by
            have := (List.getElem?_eq_some_iff.mp hx).1
            have z : j - zs.length < 1 := this
            omega
          rw [e] at hx
          cases hx
          exact ⟨-1, 0, 0, .tup (hM H9) (.cons (.int _) (.cons (.int _) (.cons (.int _) .nil))), .inl ⟨rfl, rfl, rfl⟩⟩
      have d9 := d8.keep (keepT_same (K := K) s9)
      obtain ⟨dw, rest, edw, hw⟩ := deed_word st
      obtain ⟨fineD, shD⟩ := deed_fine rb2 rb4 ok hNm st
      refine ⟨v, rfl, x, rfl, _, rfl, v, x, t, N, rb, r0', x0, y0, (by rw [erb]; rfl), rb2, rb4, ok, d9, dx, st, fun vd HA dd sA => ?_⟩
      have dxA := dx.keep (keepT_same (K := K) sA)
      have d9A := d9.keep (keepT_same (K := K) sA)
      refine ⟨v, rfl, x, rfl, _, rfl, rfl, rfl, v, x, t, N, rb, r0', x0, y0, (by rw [erb]; rfl), rb2, rb4, ok, d9A, dxA, st, fun vf HB df sB => ?_⟩
      have ddB := dd.keep (keepT_same (K := K) sB)
      obtain ⟨ad, xsd, rfl, _, _⟩ := dt_tuple (edw ▸ ddB)
      obtain ⟨af, xsf, rfl, _, _⟩ := dt_tuple (edw ▸ df)
      refine ⟨_, rfl, af, _, rfl, df.dp, fineD.1, fineD.2.1, fineD.2.2.1, fineD.2.2.2, _, rfl, ad, _, rfl, ddB.dp, fineD.1, fineD.2.1, fineD.2.2.1, fineD.2.2.2, rfl, _, rfl, ite2 (fun e => ?_) (fun _ => ?_)⟩
      · exact absurd e (by simp)
      have dxB := dxA.keep (keepT_same (K := K) sB)
      have d9B := d9A.keep (keepT_same (K := K) sB)
      have sm := cnt_small (b := (rb : Int)) (w := dw) (by omega) rb4
      refine ⟨_, rfl, _, rfl, rfl, rfl, _, dw, rest, rb, (by rw [erb]; rfl), edw ▸ df, _, rfl, sm, v, rfl, x, rfl, _, rfl, v, x, t, N, rb, r0', x0, y0, dw, rest, (by rw [erb]; rfl), rb2, rb4, ok, d9B, dxB, st, edw, hw, fun HC sC => ?_⟩
      refine ⟨_, rfl, sm, rfl, _, rfl, ite2 (fun e => ?_) (fun _ => ?_)⟩
      · exact absurd e (by simp)
      refine (fun (mid4 : ∀ HE, Same HB HE → (?T4 : Hp → Prop) HE) => ?main4) ?midp4
      case main4 =>
        refine ⟨_, rfl, rfl, _, rfl, ite2 (fun e => ?_) (fun _ => ?_)⟩
        · have e3 : 2 + r = 3 := V.int.inj (of_decide_eq_true e)
          have e4 : rb = 3 := by omega
          refine ⟨v, rfl, x, rfl, v, x, t, N, rb, r0', x0, y0, (by rw [e4]; rfl), rb2, rb4, ok, d9B.keep (keepT_same sC), dxB.keep (keepT_same sC), st, fun vg HD dg sD => ?_⟩
          refine ⟨_, rfl, _, _, dg.dp, (ddB.keep (keepT_same (sC.trans sD))).dp, shD, shD, _, rfl, ite2 (fun e => ?_) (fun _ => ?_)⟩
          · rw [SeqAt.eqv_refl _ (SeqAt.canLay_of_shaped shD)] at e
            exact absurd e (by decide)
          · exact mid4 HD (sC.trans sD)
        · exact mid4 HC sC
      case midp4 =>
        intro HE sE
        refine ⟨_, rfl, rfl, _, rfl, ite2 (fun e => ?_) (fun _ => ?_)⟩
        · have e3 : 2 + r = 3 := V.int.inj (of_decide_eq_true e)
          have e4 : rb = 3 := by omega
          refine ⟨_, rfl, _, dw, rest, rb, (by rw [e4]; rfl), edw ▸ (ddB.keep (keepT_same sE)), v, rfl, x, rfl, v, x, t, N, rb, r0', x0, y0, dw, rest, (by rw [e4]; rfl), rb2, rb4, ok, d9B.keep (keepT_same sE), dxB.keep (keepT_same sE), st, edw, hw, fun HF sF => ?_⟩
          refine ⟨rfl, _, rfl, ite2 (fun e => ?_) (fun _ => ?_)⟩
          · exact absurd e (by simp)
          · exact ⟨_, _, _, rfl, s9.trans (sA.trans (sB.trans (sE.trans sF)))⟩
        · exact ⟨_, _, _, rfl, s9.trans (sA.trans (sB.trans sE))⟩
    · rintro σ H9 ⟨y6, y7, y8, rfl, s9⟩
      exact ⟨_, _, _, _, _, _, _, _, rfl, s1.trans (S8.trans s9)⟩
  · rintro σ H1 ⟨y1, y2, y3, y4, y5, y6, y7, y8, rfl, s1⟩
    exact rfl
end
end Kx

namespace Kx
open PySem PySem.Spec PyProof.Rows L2
theorem all_mk {P : Program} {w : World} {K : PySem.W.Frag} {h : Heap} {mg : Str → Option Value} {fa pM pP0 pP1 pP2 fB fT fN fO fE fR fX fV fL fC fS fI fW fY fZ fQ fK fA fLw fD fBr DD DBr : Addr} (X : K.In h) (G : h.Ns mainGlobals mg) (hfa : mg "law" = some (.ref fa))
    {odB anB odT anT odN anN odO anO odE anE odR anR odX anX odV anV odL anL odC anC odS anS odI anI odW anW odY anY odZ anZ odQ anQ odK anK odA anA odLw anLw odD anD odBr anBr : Option Addr} {slB slT slN slO slE slR slX slV slL slC slS slI slW slY slZ slQ slK slA slLw slD slBr : Array (Option Value)} {ocB kVB dcB pmB cdB ctB ocT kVT dcT pmT cdT ctT ocN kVN dcN pmN cdN ctN ocO kVO dcO pmO cdO ctO ocE kVE dcE pmE cdE ctE ocR kVR dcR pmR cdR ctR ocX kVX dcX pmX cdX ctX ocV kVV dcV pmV cdV ctV ocL kVL dcL pmL cdL ctL ocC kVC dcC pmC cdC ctC ocS kVS dcS pmS cdS ctS ocI kVI dcI pmI cdI ctI ocW kVW dcW pmW cdW ctW ocY kVY dcY pmY cdY ctY ocZ kVZ dcZ pmZ cdZ ctZ ocQ kVQ dcQ pmQ cdQ ctQ ocK kVK dcK pmK cdK ctK ocA kVA dcA pmA cdA ctA ocLw kVLw dcLw pmLw cdLw ctLw ocD dcD pmD cdD ctD uuD ocBr dcBr pmBr cdBr ctBr uuBr : Value} {oM oP0 oP1 oP2 : Obj} {iM iP0 iP1 iP2 : Array Value} {nM nP0 nP1 nP2 : Nat}
    (aB : PySem.W.nsIn K mainGlobals "_law_bag" = some (some (.ref fB))) (lB : K.lookup fB = some ⟨ocB, odB, .func (PySem.W.fnOf "_law_bag" "_law_bag" (defArgs sBag) (defBody sBag) (defScope sBag) .none kVB dcB pmB anB cdB ctB), slB⟩) (cB : PySem.W.codeIn K cdB "_law_bag" = true) (kB : PySem.W.keepIn K (.ref fB) = true)
    (aT : PySem.W.nsIn K mainGlobals "_law_take" = some (some (.ref fT))) (lT : K.lookup fT = some ⟨ocT, odT, .func (PySem.W.fnOf "_law_take" "_law_take" (defArgs sTake) (defBody sTake) (defScope sTake) .none kVT dcT pmT anT cdT ctT), slT⟩) (cT : PySem.W.codeIn K cdT "_law_take" = true) (kT : PySem.W.keepIn K (.ref fT) = true)
    (aN : PySem.W.nsIn K mainGlobals "_law_names" = some (some (.ref fN))) (lN : K.lookup fN = some ⟨ocN, odN, .func (PySem.W.fnOf "_law_names" "_law_names" (defArgs sNam) (defBody sNam) (defScope sNam) .none kVN dcN pmN anN cdN ctN), slN⟩) (cN : PySem.W.codeIn K cdN "_law_names" = true) (kN : PySem.W.keepIn K (.ref fN) = true)
    (aO : PySem.W.nsIn K mainGlobals "_law_operand" = some (some (.ref fO))) (lO : K.lookup fO = some ⟨ocO, odO, .func (PySem.W.fnOf "_law_operand" "_law_operand" (defArgs sOpd) (defBody sOpd) (defScope sOpd) .none kVO dcO pmO anO cdO ctO), slO⟩) (cO : PySem.W.codeIn K cdO "_law_operand" = true) (kO : PySem.W.keepIn K (.ref fO) = true)
    (aE : PySem.W.nsIn K mainGlobals "_law_expression" = some (some (.ref fE))) (lE : K.lookup fE = some ⟨ocE, odE, .func (PySem.W.fnOf "_law_expression" "_law_expression" (defArgs sExp) (defBody sExp) (defScope sExp) .none kVE dcE pmE anE cdE ctE), slE⟩) (cE : PySem.W.codeIn K cdE "_law_expression" = true) (kE : PySem.W.keepIn K (.ref fE) = true)
    (aR : PySem.W.nsIn K mainGlobals "_law_row" = some (some (.ref fR))) (lR : K.lookup fR = some ⟨ocR, odR, .func (PySem.W.fnOf "_law_row" "_law_row" (defArgs sRow) (defBody sRow) (defScope sRow) .none kVR dcR pmR anR cdR ctR), slR⟩) (cR : PySem.W.codeIn K cdR "_law_row" = true) (kR : PySem.W.keepIn K (.ref fR) = true)
    (aX : PySem.W.nsIn K mainGlobals "_law_text" = some (some (.ref fX))) (lX : K.lookup fX = some ⟨ocX, odX, .func (PySem.W.fnOf "_law_text" "_law_text" (defArgs sText) (defBody sText) (defScope sText) .none kVX dcX pmX anX cdX ctX), slX⟩) (cX : PySem.W.codeIn K cdX "_law_text" = true) (kX : PySem.W.keepIn K (.ref fX) = true)
    (aV : PySem.W.nsIn K mainGlobals "_law_value" = some (some (.ref fV))) (lV : K.lookup fV = some ⟨ocV, odV, .func (PySem.W.fnOf "_law_value" "_law_value" (defArgs sLval) (defBody sLval) (defScope sLval) .none kVV dcV pmV anV cdV ctV), slV⟩) (cV : PySem.W.codeIn K cdV "_law_value" = true) (kV : PySem.W.keepIn K (.ref fV) = true)
    (aL : PySem.W.nsIn K mainGlobals "_law_deed" = some (some (.ref fL))) (lL : K.lookup fL = some ⟨ocL, odL, .func (PySem.W.fnOf "_law_deed" "_law_deed" (defArgs sLde) (defBody sLde) (defScope sLde) .none kVL dcL pmL anL cdL ctL), slL⟩) (cL : PySem.W.codeIn K cdL "_law_deed" = true) (kL : PySem.W.keepIn K (.ref fL) = true)
    (aC : PySem.W.nsIn K mainGlobals "_law_count" = some (some (.ref fC))) (lC : K.lookup fC = some ⟨ocC, odC, .func (PySem.W.fnOf "_law_count" "_law_count" (defArgs sLco) (defBody sLco) (defScope sLco) .none kVC dcC pmC anC cdC ctC), slC⟩) (cC : PySem.W.codeIn K cdC "_law_count" = true) (kC : PySem.W.keepIn K (.ref fC) = true)
    (aS : PySem.W.nsIn K mainGlobals "_law_stands" = some (some (.ref fS))) (lS : K.lookup fS = some ⟨ocS, odS, .func (PySem.W.fnOf "_law_stands" "_law_stands" (defArgs sLstands) (defBody sLstands) (defScope sLstands) .none kVS dcS pmS anS cdS ctS), slS⟩) (cS : PySem.W.codeIn K cdS "_law_stands" = true) (kS : PySem.W.keepIn K (.ref fS) = true)
    (aI : PySem.W.nsIn K mainGlobals "is_integer" = some (some (.ref fI))) (lI : K.lookup fI = some ⟨ocI, odI, .func (PySem.W.fnOf "is_integer" "is_integer" (defArgs sInt) (defBody sInt) (defScope sInt) .none kVI dcI pmI anI cdI ctI), slI⟩) (cI : PySem.W.codeIn K cdI "is_integer" = true) (kI : PySem.W.keepIn K (.ref fI) = true)
    (aW : PySem.W.nsIn K mainGlobals "is_below" = some (some (.ref fW))) (lW : K.lookup fW = some ⟨ocW, odW, .func (PySem.W.fnOf "is_below" "is_below" (defArgs sBel) (defBody sBel) (defScope sBel) .none kVW dcW pmW anW cdW ctW), slW⟩) (cW : PySem.W.codeIn K cdW "is_below" = true) (kW : PySem.W.keepIn K (.ref fW) = true)
    (aY : PySem.W.nsIn K mainGlobals "value_of" = some (some (.ref fY))) (lY : K.lookup fY = some ⟨ocY, odY, .func (PySem.W.fnOf "value_of" "value_of" (defArgs sVal) (defBody sVal) (defScope sVal) .none kVY dcY pmY anY cdY ctY), slY⟩) (cY : PySem.W.codeIn K cdY "value_of" = true) (kY : PySem.W.keepIn K (.ref fY) = true)
    (aZ : PySem.W.nsIn K mainGlobals "is_silent" = some (some (.ref fZ))) (lZ : K.lookup fZ = some ⟨ocZ, odZ, .func (PySem.W.fnOf "is_silent" "is_silent" (defArgs sSil) (defBody sSil) (defScope sSil) .none kVZ dcZ pmZ anZ cdZ ctZ), slZ⟩) (cZ : PySem.W.codeIn K cdZ "is_silent" = true) (kZ : PySem.W.keepIn K (.ref fZ) = true)
    (aQ : PySem.W.nsIn K mainGlobals "is_stand" = some (some (.ref fQ))) (lQ : K.lookup fQ = some ⟨ocQ, odQ, .func (PySem.W.fnOf "is_stand" "is_stand" (defArgs sIst) (defBody sIst) (defScope sIst) .none kVQ dcQ pmQ anQ cdQ ctQ), slQ⟩) (cQ : PySem.W.codeIn K cdQ "is_stand" = true) (kQ : PySem.W.keepIn K (.ref fQ) = true)
    (aK : PySem.W.nsIn K mainGlobals "check_stand" = some (some (.ref fK))) (lK : K.lookup fK = some ⟨ocK, odK, .func (PySem.W.fnOf "check_stand" "check_stand" (defArgs sChk) (defBody sChk) (defScope sChk) .none kVK dcK pmK anK cdK ctK), slK⟩) (cK : PySem.W.codeIn K cdK "check_stand" = true) (kK : PySem.W.keepIn K (.ref fK) = true)
    (aA : PySem.W.nsIn K mainGlobals "deed_at" = some (some (.ref fA))) (lA : K.lookup fA = some ⟨ocA, odA, .func (PySem.W.fnOf "deed_at" "deed_at" (defArgs sDat) (defBody sDat) (defScope sDat) .none kVA dcA pmA anA cdA ctA), slA⟩) (cA : PySem.W.codeIn K cdA "deed_at" = true) (kA : PySem.W.keepIn K (.ref fA) = true)
    (aLw : PySem.W.nsIn K mainGlobals "law" = some (some (.ref fLw))) (lLw : K.lookup fLw = some ⟨ocLw, odLw, .func (PySem.W.fnOf "law" "law" (defArgs sLaw) (defBody sLaw) (defScope sLaw) .none kVLw dcLw pmLw anLw cdLw ctLw), slLw⟩) (cLw : PySem.W.codeIn K cdLw "law" = true) (kLw : PySem.W.keepIn K (.ref fLw) = true)
    (aD : PySem.W.nsIn K mainGlobals "deed_of" = some (some (.ref fD))) (lD : K.lookup fD = some ⟨ocD, odD, .func (PySem.W.fnOf "deed_of" "deed_of" (defArgs sDof) (defBody sDof) (defScope sDof) .none (.ref DD) dcD pmD anD cdD ctD), slD⟩) (cD : PySem.W.codeIn K cdD "deed_of" = true) (kD : PySem.W.keepIn K (.ref fD) = true) (vD : PySem.W.nsIn K DD "base" = some (some uuD)) (wD : RelV (.int 3) uuD)
    (aBr : PySem.W.nsIn K mainGlobals "branch_count" = some (some (.ref fBr))) (lBr : K.lookup fBr = some ⟨ocBr, odBr, .func (PySem.W.fnOf "branch_count" "branch_count" (defArgs sBrc) (defBody sBrc) (defScope sBrc) .none (.ref DBr) dcBr pmBr anBr cdBr ctBr), slBr⟩) (cBr : PySem.W.codeIn K cdBr "branch_count" = true) (kBr : PySem.W.keepIn K (.ref fBr) = true) (vBr : PySem.W.nsIn K DBr "base" = some (some uuBr)) (wBr : RelV (.int 3) uuBr)
    (aM : PySem.W.nsIn K mainGlobals "MUTE" = some (some (.ref pM))) (lM : K.lookup pM = some oM) (xM : oM.cls = .type "tuple") (yM : oM.data = .seq iM nM) (sM : iM.size ≤ sizeLine) (tM : Vals [.int (-1), .int 0, .int 0] iM.toList)
    (aP0 : PySem.W.nsIn K mainGlobals "SILENT" = some (some (.ref pP0))) (lP0 : K.lookup pP0 = some oP0) (xP0 : oP0.cls = .type "tuple") (yP0 : oP0.data = .seq iP0 nP0) (sP0 : iP0.size ≤ sizeLine) (tP0 : Vals [.str "set", .str "if", .str "go"] iP0.toList)
    (aP1 : PySem.W.nsIn K mainGlobals "RECEIVING" = some (some (.ref pP1))) (lP1 : K.lookup pP1 = some oP1) (xP1 : oP1.cls = .type "tuple") (yP1 : oP1.data = .seq iP1 nP1) (sP1 : iP1.size ≤ sizeLine) (tP1 : Vals [.str "ask", .str "read", .str "call"] iP1.toList)
    (aP2 : PySem.W.nsIn K mainGlobals "PASSING" = some (some (.ref pP2))) (lP2 : K.lookup pP2 = some oP2) (xP2 : oP2.cls = .type "tuple") (yP2 : oP2.data = .seq iP2 nP2) (sP2 : iP2.size ≤ sizeLine) (tP2 : Vals [.str "say", .str "write"] iP2.toList)
    (z0 : PySem.W.nsIn K mainGlobals "len" = some none) (z1 : PySem.W.nsIn K mainGlobals "isinstance" = some none) (z2 : PySem.W.nsIn K mainGlobals "int" = some none) (z3 : PySem.W.nsIn K mainGlobals "bool" = some none) (z4 : PySem.W.nsIn K mainGlobals "tuple" = some none) (z5 : PySem.W.nsIn K mainGlobals "str" = some none) (z6 : PySem.W.nsIn K mainGlobals "abs" = some none) (z7 : PySem.W.nsIn K mainGlobals "range" = some none) (z8 : PySem.W.nsIn K mainGlobals "max" = some none) (z9 : PySem.W.nsIn K mainGlobals "min" = some none) (z10 : PySem.W.nsIn K mainGlobals "repr" = some none) (z11 : PySem.W.nsIn K mainGlobals "all" = some none)
    {bs : Heap} {H : Hp} {t : Shared} {a : Addr} {ns : List Int} (hn : ns.length ≤ 63) (env0 : Env0 P w K mg bs callerA [] t H) (sq : SqL K H a (ns.map V.int)) :
    codeAny (model P w) callerA (.call (.ref fa) ⟨[.ref a], []⟩) (CR CX0 [] P w H t (fun v _ => v = .bl true) fun _ _ _ => False) t := by
  have e := hfa.symm.trans (PySem.W.mg_of X G aLw)
  cases e
  have FB := fun_mk (st := sBag) lB cB kB
  have FT := fun_mk (st := sTake) lT cT kT
  have FN := fun_mk (st := sNam) lN cN kN
  have FO := fun_mk (st := sOpd) lO cO kO
  have FE := fun_mk (st := sExp) lE cE kE
  have FR := fun_mk (st := sRow) lR cR kR
  have FX := fun_mk (st := sText) lX cX kX
  have FV := fun_mk (st := sLval) lV cV kV
  have FL := fun_mk (st := sLde) lL cL kL
  have FC := fun_mk (st := sLco) lC cC kC
  have FS := fun_mk (st := sLstands) lS cS kS
  have FI := fun_mk (st := sInt) lI cI kI
  have FW := fun_mk (st := sBel) lW cW kW
  have FY := fun_mk (st := sVal) lY cY kY
  have FZ := fun_mk (st := sSil) lZ cZ kZ
  have FQ := fun_mk (st := sIst) lQ cQ kQ
  have FK := fun_mk (st := sChk) lK cK kK
  have FA := fun_mk (st := sDat) lA cA kA
  have FLw := fun_mk (st := sLaw) lLw cLw kLw
  have bB := FB.binds (ps := ["_law_script", "_law_at"]) fun _ _ _ _ _ _ us hl => match us, hl with | [_, _], _ => rfl
  have bT := FT.binds (ps := ["_law_bag_here", "_law_many"]) fun _ _ _ _ _ _ us hl => match us, hl with | [_, _], _ => rfl
  have bN := FN.binds (ps := ["_law_bag_here"]) fun _ _ _ _ _ _ us hl => match us, hl with | [_], _ => rfl
  have bO := FO.binds (ps := ["_law_bag_here", "_law_radix"]) fun _ _ _ _ _ _ us hl => match us, hl with | [_, _], _ => rfl
  have bE := FE.binds (ps := ["_law_bag_here", "_law_radix"]) fun _ _ _ _ _ _ us hl => match us, hl with | [_, _], _ => rfl
  have bR := FR.binds (ps := ["_law_bag_here", "_law_radix", "_law_many", "_law_names_here"]) fun _ _ _ _ _ _ us hl => match us, hl with | [_, _, _, _], _ => rfl
  have bX := FX.binds (ps := ["_law_bag_here", "_law_radix", "_law_most", "_law_names_here"]) fun _ _ _ _ _ _ us hl => match us, hl with | [_, _, _, _], _ => rfl
  have bV := FV.binds (ps := ["_law_one", "_law_x", "_law_y", "_law_radix"]) fun _ _ _ _ _ _ us hl => match us, hl with | [_, _, _, _], _ => rfl
  have bL := FL.binds (ps := ["_law_rows", "_law_stand", "_law_radix"]) fun _ _ _ _ _ _ us hl => match us, hl with | [_, _, _], _ => rfl
  have bC := FC.binds (ps := ["_law_rows", "_law_stand", "_law_radix"]) fun _ _ _ _ _ _ us hl => match us, hl with | [_, _, _], _ => rfl
  have bS := FS.binds (ps := ["_law_rows", "_law_radix"]) fun _ _ _ _ _ _ us hl => match us, hl with | [_, _], _ => rfl
  have bI := FI.binds (ps := ["thing"]) fun _ _ _ _ _ _ us hl => match us, hl with | [_], _ => rfl
  have bW := FW.binds (ps := ["thing", "top"]) fun _ _ _ _ _ _ us hl => match us, hl with | [_, _], _ => rfl
  have bY := FY.binds (ps := ["expression", "point", "base"]) fun _ _ _ _ _ _ us hl => match us, hl with | [_, _, _], _ => rfl
  have bZ := FZ.binds (ps := ["text", "row"]) fun _ _ _ _ _ _ us hl => match us, hl with | [_, _], _ => rfl
  have bQ := FQ.binds (ps := ["text", "thing", "base"]) fun _ _ _ _ _ _ us hl => match us, hl with | [_, _, _], _ => rfl
  have bK := FK.binds (ps := ["text", "thing", "base"]) fun _ _ _ _ _ _ us hl => match us, hl with | [_, _, _], _ => rfl
  have bA := FA.binds (ps := ["text", "stand", "base"]) fun _ _ _ _ _ _ us hl => match us, hl with | [_, _, _], _ => rfl
  have FD : FnD K "deed_of" sDof [("base", .int 3)] fD _ := ⟨⟨ocD, odD, .none, .ref DD, dcD, pmD, anD, cdD, ctD, slD, rfl, lD, cD, .inl ⟨rfl, rfl⟩, .inr ⟨DD, rfl, fun q hq => by rw [List.mem_singleton.mp hq]; exact ⟨uuD, vD, wD⟩⟩⟩, kD⟩
  have FBr : FnD K "branch_count" sBrc [("base", .int 3)] fBr _ := ⟨⟨ocBr, odBr, .none, .ref DBr, dcBr, pmBr, anBr, cdBr, ctBr, slBr, rfl, lBr, cBr, .inl ⟨rfl, rfl⟩, .inr ⟨DBr, rfl, fun q hq => by rw [List.mem_singleton.mp hq]; exact ⟨uuBr, vBr, wBr⟩⟩⟩, kBr⟩
  have T : Bi mg := ⟨(PySem.W.mg_none_of X G z0), (PySem.W.mg_none_of X G z1), (PySem.W.mg_none_of X G z2), (PySem.W.mg_none_of X G z3), (PySem.W.mg_none_of X G z4), (PySem.W.mg_none_of X G z5)⟩
  have U : Ui mg := ⟨(PySem.W.mg_none_of X G z6), (PySem.W.mg_none_of X G z7), (PySem.W.mg_none_of X G z8), (PySem.W.mg_none_of X G z9), (PySem.W.mg_none_of X G z10), (PySem.W.mg_none_of X G z11)⟩
  exact law_run FLw T U (PySem.W.mg_of X G aM) (fun H => .inr ⟨oM, iM, nM, lM, xM, yM, sM, tM⟩) (PySem.W.mg_of X G aP0) (fun H => .inr ⟨oP0, iP0, nP0, lP0, xP0, yP0, sP0, tP0⟩) (PySem.W.mg_of X G aP1) (fun H => .inr ⟨oP1, iP1, nP1, lP1, xP1, yP1, sP1, tP1⟩) (PySem.W.mg_of X G aP2) (fun H => .inr ⟨oP2, iP2, nP2, lP2, xP2, yP2, sP2, tP2⟩) FB bB (PySem.W.mg_of X G aB) FT bT (PySem.W.mg_of X G aT) FN bN (PySem.W.mg_of X G aN) FO bO (PySem.W.mg_of X G aO) FE bE (PySem.W.mg_of X G aE) FR bR (PySem.W.mg_of X G aR) FX bX (PySem.W.mg_of X G aX) FV bV (PySem.W.mg_of X G aV) FL bL (PySem.W.mg_of X G aL) FC bC (PySem.W.mg_of X G aC) FS bS (PySem.W.mg_of X G aS) FI bI (PySem.W.mg_of X G aI) FW bW (PySem.W.mg_of X G aW) FY bY (PySem.W.mg_of X G aY) FZ bZ (PySem.W.mg_of X G aZ) FQ bQ (PySem.W.mg_of X G aQ) FK bK (PySem.W.mg_of X G aK) FA bA (PySem.W.mg_of X G aA) FD (PySem.W.mg_of X G aD) FBr (PySem.W.mg_of X G aBr) hn env0 sq
end Kx
open PySem PySem.W PyProof.Rows
set_option maxHeartbeats 0 in
theorem PySem.Challenge.cw_callsover_k06_deeds_and_branches_holds : PySem.Challenge.rw_callsover_k06_deeds_and_branches.Holds := by
  w_on; o_law; k_head; (case hw => w_witness2)
  k_fill
  refine Kx.walk_at_caller (l := PySem.Challenge.rw_callsover_k06_deeds_and_branches) (n := 63) rfl (by decide) rfl (fun w h Y => PySem.W.kIn_of Y) ?F
  case F =>
    intro w mg fa h KX G hmg bs H t a ns hn _ _ env0 sq
    refine' Kx.all_mk KX G hmg ?aB ?lB ?cB ?kB ?aT ?lT ?cT ?kT ?aN ?lN ?cN ?kN ?aO ?lO ?cO ?kO ?aE ?lE ?cE ?kE ?aR ?lR ?cR ?kR ?aX ?lX ?cX ?kX ?aV ?lV ?cV ?kV ?aL ?lL ?cL ?kL ?aC ?lC ?cC ?kC ?aS ?lS ?cS ?kS ?aI ?lI ?cI ?kI ?aW ?lW ?cW ?kW ?aY ?lY ?cY ?kY ?aZ ?lZ ?cZ ?kZ ?aQ ?lQ ?cQ ?kQ ?aK ?lK ?cK ?kK ?aA ?lA ?cA ?kA ?aLw ?lLw ?cLw ?kLw ?aD ?lD ?cD ?kD ?vD ?wD ?aBr ?lBr ?cBr ?kBr ?vBr ?wBr ?aM ?lM ?xM ?yM ?sM ?tM ?aP0 ?lP0 ?xP0 ?yP0 ?sP0 ?tP0 ?aP1 ?lP1 ?xP1 ?yP1 ?sP1 ?tP1 ?aP2 ?lP2 ?xP2 ?yP2 ?sP2 ?tP2 ?z0 ?z1 ?z2 ?z3 ?z4 ?z5 ?z6 ?z7 ?z8 ?z9 ?z10 ?z11 hn env0 sq
    (case aB => k_is); (case lB => k_is); (case cB => k_is); (case kB => k_is); (case aT => k_is); (case lT => k_is); (case cT => k_is); (case kT => k_is); (case aN => k_is); (case lN => k_is); (case cN => k_is); (case kN => k_is); (case aO => k_is); (case lO => k_is); (case cO => k_is); (case kO => k_is); (case aE => k_is); (case lE => k_is); (case cE => k_is); (case kE => k_is); (case aR => k_is); (case lR => k_is); (case cR => k_is); (case kR => k_is); (case aX => k_is); (case lX => k_is); (case cX => k_is); (case kX => k_is); (case aV => k_is); (case lV => k_is); (case cV => k_is); (case kV => k_is); (case aL => k_is); (case lL => k_is); (case cL => k_is); (case kL => k_is); (case aC => k_is); (case lC => k_is); (case cC => k_is); (case kC => k_is); (case aS => k_is); (case lS => k_is); (case cS => k_is); (case kS => k_is); (case aI => k_is); (case lI => k_is); (case cI => k_is); (case kI => k_is); (case aW => k_is); (case lW => k_is); (case cW => k_is); (case kW => k_is); (case aY => k_is); (case lY => k_is); (case cY => k_is); (case kY => k_is); (case aZ => k_is); (case lZ => k_is); (case cZ => k_is); (case kZ => k_is); (case aQ => k_is); (case lQ => k_is); (case cQ => k_is); (case kQ => k_is); (case aK => k_is); (case lK => k_is); (case cK => k_is); (case kK => k_is); (case aA => k_is); (case lA => k_is); (case cA => k_is); (case kA => k_is); (case aLw => k_is); (case lLw => k_is); (case cLw => k_is); (case kLw => k_is); (case aD => k_is); (case lD => k_is); (case cD => k_is); (case kD => k_is); (case vD => k_is); (case wD => exact ⟨_, rfl⟩); (case aBr => k_is); (case lBr => k_is); (case cBr => k_is); (case kBr => k_is); (case vBr => k_is); (case wBr => exact ⟨_, rfl⟩); (case aM => k_is); (case lM => k_is); (case xM => rfl); (case yM => rfl); (case sM => decide); (case tM => exact (.cons ⟨_, rfl⟩ (.cons ⟨_, rfl⟩ (.cons ⟨_, rfl⟩ .nil)))); (case aP0 => k_is); (case lP0 => k_is); (case xP0 => rfl); (case yP0 => rfl); (case sP0 => decide); (case tP0 => exact (.cons ⟨_, rfl⟩ (.cons ⟨_, rfl⟩ (.cons ⟨_, rfl⟩ .nil)))); (case aP1 => k_is); (case lP1 => k_is); (case xP1 => rfl); (case yP1 => rfl); (case sP1 => decide); (case tP1 => exact (.cons ⟨_, rfl⟩ (.cons ⟨_, rfl⟩ (.cons ⟨_, rfl⟩ .nil)))); (case aP2 => k_is); (case lP2 => k_is); (case xP2 => rfl); (case yP2 => rfl); (case sP2 => decide); (case tP2 => exact (.cons ⟨_, rfl⟩ (.cons ⟨_, rfl⟩ .nil))); (case z0 => k_is); (case z1 => k_is); (case z2 => k_is); (case z3 => k_is); (case z4 => k_is); (case z5 => k_is); (case z6 => k_is); (case z7 => k_is); (case z8 => k_is); (case z9 => k_is); (case z10 => k_is); (case z11 => k_is)

