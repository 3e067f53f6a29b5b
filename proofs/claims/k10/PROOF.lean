import PyProof.Rows.All
import Wide.All
import OpenK.AllK
import Wide.FinOn
import HandS.ForMost
import HandS.IsInst
import HandS.Defaults
import PySem.Challenge.RW_callsover_k10_stands_listed
set_option Elab.async false
set_option linter.all false
set_option maxRecDepth 100000
set_option maxHeartbeats 8000000
namespace Kx
open PySem PySem.Spec PyProof.Rows L2
/-! what is carried from heap to heap -/
def Bag (H : Hp) (b : Addr) (n : Nat) : Prop := ∃ (d m : Int) (c : Nat), H b = some (.lst [.int d, .int m, .int c]) ∧ 0 ≤ d ∧ 0 ≤ m ∧ m < 2305843009213693951 ∧ c ≤ n
def SameX (b : Addr) (H H' : Hp) : Prop := ∀ a o, a ≠ b → H a = some o → H' a = some o
theorem pM : (0 : Int) < 2305843009213693951 := by decide
theorem pM2 : (0 : Int) < 2305843009213693921 := by decide
theorem SameX.refl (b : Addr) (H : Hp) : SameX b H H := fun _ _ _ e => e
theorem SameX.trans {b : Addr} {H H1 H2 : Hp} (x : SameX b H H1) (y : SameX b H1 H2) : SameX b H H2 := fun a o n e => y a o n (x a o n e)
theorem SameX.new {b p : Addr} {H : Hp} {o : HO} (h : H p = none) : SameX b H (upd H p o) := fun a u _ e => by
  rw [upd_ne (ne_of_none e h)]
  exact e
theorem same_new {p : Addr} {H : Hp} {o : HO} (h : H p = none) : Same H (upd H p o) := fun a u e => by
  rw [upd_ne (ne_of_none e h)]
  exact e
theorem Same.x {b : Addr} {H H' : Hp} (h : Same H H') : SameX b H H' := fun a o _ e => h a o e
/-- after a new thing, then what keeps all but it -/
theorem SameX.behind {p : Addr} {H H1 : Hp} {o : HO} (h : H p = none) (s : SameX p (upd H p o) H1) : Same H H1 := fun a u e =>
  s a u (ne_of_none e h) (by rw [upd_ne (ne_of_none e h)]; exact e)
theorem Bag.mono {H : Hp} {b : Addr} {n m : Nat} (h : Bag H b n) (l : n ≤ m) : Bag H b m :=
  let ⟨d, x, c, e, h1, h2, h3, h4⟩ := h
  ⟨d, x, c, e, h1, h2, h3, Nat.le_trans h4 l⟩
theorem Bag.new {H : Hp} {b p : Addr} {n : Nat} {o : HO} (h : Bag H b n) (hp : H p = none) : Bag (upd H p o) b n := by
  obtain ⟨d, x, c, e, r⟩ := h
  exact ⟨d, x, c, by rw [upd_ne (ne_of_none e hp)]; exact e, r⟩
theorem Bag.same {H H' : Hp} {b : Addr} {n : Nat} (h : Bag H b n) (s : Same H H') : Bag H' b n :=
  let ⟨d, x, c, e, r⟩ := h
  ⟨d, x, c, s _ _ e, r⟩
theorem Bag.ne {H : Hp} {b p : Addr} {n : Nat} (h : Bag H b n) (hp : H p = none) : p ≠ b := fun z => by
  obtain ⟨d, x, c, e, r⟩ := h
  rw [← z, hp] at e
  cases e
theorem Bag.neT {H : Hp} {b p : Addr} {n : Nat} {xs : List V} (h : Bag H b n) (hp : H p = some (.tup xs)) : p ≠ b := fun z => by
  obtain ⟨d, x, c, e, r⟩ := h
  rw [← z, hp] at e
  cases e
theorem Bag.neF {H : Hp} {b p : Addr} {n : Nat} {o : Obj} {u : HO} (h : Bag H b n) (hp : H p = some (.frz o u)) : p ≠ b := fun z => by
  obtain ⟨d, x, c, e, r⟩ := h
  rw [← z, hp] at e
  cases e
theorem SameX.seq {K : PySem.W.Frag} {H H' : Hp} {a b : Addr} {xs : List V} (e : SameX b H H') (n : a ≠ b) (h : SqL K H a xs) : SqL K H' a xs := by
  rcases h with (h | ⟨o, h⟩) | h
  · exact .inl (.inl (e _ _ n h))
  · exact .inl (.inr ⟨o, e _ _ n h⟩)
  · exact .inr h
/-- tuples that can be read stay -/
def KeepT (K : PySem.W.Frag) (H H' : Hp) : Prop := ∀ a xs, SqT K H a xs → SqT K H' a xs
theorem KeepT.refl (K : PySem.W.Frag) (H : Hp) : KeepT K H H := fun _ _ h => h
theorem KeepT.trans {K : PySem.W.Frag} {H H1 H2 : Hp} (x : KeepT K H H1) (y : KeepT K H1 H2) : KeepT K H H2 := fun a xs h => y a xs (x a xs h)
theorem keepT_same {K : PySem.W.Frag} {H H' : Hp} (s : Same H H') : KeepT K H H' := fun a xs h => by
  rcases h with (h | ⟨o, h⟩) | h
  · exact .inl (.inl (s _ _ h))
  · exact .inl (.inr ⟨o, s _ _ h⟩)
  · exact .inr h
theorem keepT_x {K : PySem.W.Frag} {H H' : Hp} {b : Addr} {n : Nat} (B : Bag H b n) (s : SameX b H H') : KeepT K H H' := fun a xs h => by
  rcases h with (h | ⟨o, h⟩) | h
  · exact .inl (.inl (s _ _ (B.neT h) h))
  · exact .inl (.inr ⟨o, s _ _ (B.neF h) h⟩)
  · exact .inr h
/-! data without lists -/
mutual
inductive Dt (K : PySem.W.Frag) (H : Hp) : V → PyData → Prop
  | non : Dt K H .non .none
  | bl (b : Bool) : Dt K H (.bl b) (.bool b)
  | int (i : Int) : Dt K H (.int i) (.int i)
  | str (x : Str) : Dt K H (.str x) (.str x)
  | tup {a : Addr} {xs : List V} {ds : List PyData} : SqT K H a xs → DtAll K H xs ds → Dt K H (.ref a) (.tuple ds)
inductive DtAll (K : PySem.W.Frag) (H : Hp) : List V → List PyData → Prop
  | nil : DtAll K H [] []
  | cons {v : V} {vs : List V} {d : PyData} {ds : List PyData} : Dt K H v d → DtAll K H vs ds → DtAll K H (v :: vs) (d :: ds)
end
mutual
theorem Dt.keep {K : PySem.W.Frag} {H H' : Hp} (s : KeepT K H H') : ∀ {v : V} {d : PyData}, Dt K H v d → Dt K H' v d
  | _, _, .non => .non
  | _, _, .bl b => .bl b
  | _, _, .int i => .int i
  | _, _, .str x => .str x
  | _, _, .tup h q => .tup (s _ _ h) (DtAll.keep s q)
theorem DtAll.keep {K : PySem.W.Frag} {H H' : Hp} (s : KeepT K H H') : ∀ {vs : List V} {ds : List PyData}, DtAll K H vs ds → DtAll K H' vs ds
  | _, _, .nil => .nil
  | _, _, .cons h q => .cons (Dt.keep s h) (DtAll.keep s q)
end
mutual
theorem Dt.dp {K : PySem.W.Frag} {H : Hp} : ∀ {v : V} {d : PyData}, Dt K H v d → Dp K H v d
  | _, _, .non => .non
  | _, _, .bl b => .bl b
  | _, _, .int i => .int i
  | _, _, .str x => .str x
  | _, _, .tup h q => .tup h (DtAll.dp q)
theorem DtAll.dp {K : PySem.W.Frag} {H : Hp} : ∀ {vs : List V} {ds : List PyData}, DtAll K H vs ds → DpAll K H vs ds
  | _, _, .nil => .nil
  | _, _, .cons h q => .cons (Dt.dp h) (DtAll.dp q)
end
theorem DtAll.length {K : PySem.W.Frag} {H : Hp} : ∀ {vs : List V} {ds : List PyData}, DtAll K H vs ds → vs.length = ds.length
  | _, _, .nil => rfl
  | _, _, .cons h q => by rw [List.length_cons, List.length_cons, DtAll.length q]
theorem DtAll.get {K : PySem.W.Frag} {H : Hp} : ∀ {vs : List V} {ds : List PyData}, DtAll K H vs ds → ∀ (i : Nat) {d : PyData}, ds[i]? = some d → ∃ v, vs[i]? = some v ∧ Dt K H v d
  | _, _, .nil, i, _, e => by simp at e
  | _, _, .cons h q, 0, _, e => ⟨_, rfl, (Option.some.inj e) ▸ h⟩
  | _, _, .cons h q, i + 1, _, e => DtAll.get q i e
theorem DtAll.app {K : PySem.W.Frag} {H : Hp} : ∀ {vs us : List V} {ds es : List PyData}, DtAll K H vs ds → DtAll K H us es → DtAll K H (vs ++ us) (ds ++ es)
  | _, _, _, _, .nil, q => q
  | _, _, _, _, .cons h r, q => .cons h (DtAll.app r q)
theorem dt_new {K : PySem.W.Frag} {H : Hp} {p : Addr} {xs : List V} {ds : List PyData} (hp : H p = none) (h : DtAll K H xs ds) : Dt K (upd H p (.tup xs)) (.ref p) (.tuple ds) :=
  .tup (SqT.of upd_same) (DtAll.keep (keepT_same (same_new hp)) h)
/-! texts as the laws make them -/
inductive Op
  | x
  | y
  | n (k : Int)
inductive Ex
  | o (a : Op)
  | t (s : Str) (a b : Op)
inductive Rw
  | set (v : Str) (e : Ex)
  | iff (e f : Ex) (r : Int)
  | go (r : Int)
  | say (e : Ex)
  | ask (v : Str)
  | read (c : Int) (v : Str)
  | write (c : Int) (e : Ex)
  | call (n : Str) (e : Ex) (v : Str)
  | fin (e : Ex)
def Op.d : Op → PyData
  | .x => .str "x"
  | .y => .str "y"
  | .n k => .int k
def Ex.d : Ex → PyData
  | .o a => a.d
  | .t s a b => .tuple [.str s, a.d, b.d]
def Rw.w : Rw → Str
  | .set _ _ => "set"
  | .iff _ _ _ => "if"
  | .go _ => "go"
  | .say _ => "say"
  | .ask _ => "ask"
  | .read _ _ => "read"
  | .write _ _ => "write"
  | .call _ _ _ => "call"
  | .fin _ => "end"
def Rw.rest : Rw → List PyData
  | .set v e => [.str v, e.d]
  | .iff e f r => [e.d, f.d, .int r]
  | .go r => [.int r]
  | .say e => [e.d]
  | .ask v => [.str v]
  | .read c v => [.int c, .str v]
  | .write c e => [.int c, e.d]
  | .call n e v => [.str n, e.d, .str v]
  | .fin e => [e.d]
def Rw.d (r : Rw) : PyData := .tuple (.str r.w :: r.rest)
def Op.ok (b : Int) : Op → Prop
  | .x => True
  | .y => True
  | .n k => 0 ≤ k ∧ k < b
def Ex.ok (b : Int) : Ex → Prop
  | .o a => a.ok b
  | .t s a c => (s = "+" ∨ s = "-" ∨ s = "*") ∧ a.ok b ∧ c.ok b
def vok (v : Str) : Prop := v = "x" ∨ v = "y"
def Rw.ok (b m : Int) (N : List Str) : Rw → Prop
  | .set v e => vok v ∧ e.ok b
  | .iff e f r => e.ok b ∧ f.ok b ∧ 0 ≤ r ∧ r ≤ m
  | .go r => 0 ≤ r ∧ r ≤ m
  | .say e => e.ok b
  | .ask v => vok v
  | .read c v => (c = 0 ∨ c = 1) ∧ vok v
  | .write c e => (c = 0 ∨ c = 1) ∧ e.ok b
  | .call n e v => n ∈ N ∧ e.ok b ∧ vok v
  | .fin e => e.ok b
def Tx.ok (b : Int) (N : List Str) (t : List Rw) : Prop := ∀ r ∈ t, r.ok b t.length N
def Tx.d (t : List Rw) : PyData := .tuple (t.map Rw.d)
/-! texts read off the heap; what is silent -/
def Rw.silent : Rw → Bool
  | .set _ _ => true
  | .iff _ _ _ => true
  | .go _ => true
  | _ => false
def silentAt (t : List Rw) (i : Nat) : Bool := match t[i]? with
  | some r => r.silent
  | none => false
theorem Rw.w_in (r : Rw) : inV (.str r.w) [.str "set", .str "if", .str "go"] = r.silent := by
  cases r
  · exact (by decide +kernel : inV (V.str "set") [.str "set", .str "if", .str "go"] = true)
  · exact (by decide +kernel : inV (V.str "if") [.str "set", .str "if", .str "go"] = true)
  · exact (by decide +kernel : inV (V.str "go") [.str "set", .str "if", .str "go"] = true)
  · exact (by decide +kernel : inV (V.str "say") [.str "set", .str "if", .str "go"] = false)
  · exact (by decide +kernel : inV (V.str "ask") [.str "set", .str "if", .str "go"] = false)
  · exact (by decide +kernel : inV (V.str "read") [.str "set", .str "if", .str "go"] = false)
  · exact (by decide +kernel : inV (V.str "write") [.str "set", .str "if", .str "go"] = false)
  · exact (by decide +kernel : inV (V.str "call") [.str "set", .str "if", .str "go"] = false)
  · exact (by decide +kernel : inV (V.str "end") [.str "set", .str "if", .str "go"] = false)
theorem dt_tuple {K : PySem.W.Frag} {H : Hp} {v : V} {ds : List PyData} (h : Dt K H v (.tuple ds)) : ∃ a xs, v = .ref a ∧ SqT K H a xs ∧ DtAll K H xs ds := by
  cases h with
  | tup h q => exact ⟨_, _, rfl, h, q⟩
theorem dt_row {K : PySem.W.Frag} {H : Hp} {v : V} {r : Rw} (h : Dt K H v r.d) : ∃ a xs, v = .ref a ∧ SqT K H a (.str r.w :: xs) ∧ DtAll K H xs r.rest := by
  obtain ⟨a, xs, rfl, hs, hd⟩ := dt_tuple h
  cases hd with
  | cons h1 h2 =>
    cases h1
    exact ⟨a, _, rfl, hs, h2⟩
/-- a text's row at a place -/
theorem dt_text {K : PySem.W.Frag} {H : Hp} {v : V} {t : List Rw} (h : Dt K H v (Tx.d t)) : ∃ a xs, v = .ref a ∧ SqT K H a xs ∧ xs.length = t.length ∧ ∀ (i : Nat) (r : Rw), t[i]? = some r → ∃ p ys, xs[i]? = some (.ref p) ∧ SqT K H p (.str r.w :: ys) ∧ DtAll K H ys r.rest := by
  obtain ⟨a, xs, rfl, hs, hd⟩ := dt_tuple h
  refine ⟨a, xs, rfl, hs, by rw [hd.length, List.length_map], fun i r e => ?_⟩
  obtain ⟨v, e1, e2⟩ := hd.get i (d := r.d) (by rw [List.getElem?_map, e]; rfl)
  obtain ⟨p, ys, rfl, h1, h2⟩ := dt_row e2
  exact ⟨p, ys, e1, h1, h2⟩
end Kx

namespace Kx
open PySem PySem.Spec PyProof.Rows L2
def stD (r x y : Nat) : PyData := .tuple [.int r, .int x, .int y]
def line (b r x : Nat) (n : Nat) : List PyData := (List.range n).map fun y => stD r x y
def blk (b r : Nat) (n : Nat) : List PyData := (List.range n).flatMap fun x => line b r x b
def flat (b r : Nat) (n : Nat) : List PyData := (List.range n).map fun k => stD r (k / b) (k % b)
def loud (t : List Rw) (n : Nat) : List Nat := (List.range n).filter fun i => !silentAt t i
def stands (t : List Rw) (b : Nat) (n : Nat) : List PyData := (loud t n).flatMap fun r => blk b r b
theorem blk_flat {b : Nat} (h : b = 2 ∨ b = 3 ∨ b = 4) (r : Nat) : blk b r b = flat b r (b * b) := by
  rcases h with rfl | rfl | rfl <;> rfl
theorem line_succ (b r x n : Nat) : line b r x (n + 1) = line b r x n ++ [stD r x n] := by
  unfold line
  rw [List.range_succ, List.map_append]
  rfl
theorem blk_succ (b r n : Nat) : blk b r (n + 1) = blk b r n ++ line b r n b := by
  unfold blk
  rw [List.range_succ, List.flatMap_append]
  simp
theorem flat_succ (b r n : Nat) : flat b r (n + 1) = flat b r n ++ [stD r (n / b) (n % b)] := by
  unfold flat
  rw [List.range_succ, List.map_append]
  rfl
theorem loud_succ (t : List Rw) (n : Nat) : loud t (n + 1) = if silentAt t n = true then loud t n else loud t n ++ [n] := by
  unfold loud
  rw [List.range_succ, List.filter_append]
  cases h : silentAt t n <;> simp [h]
theorem stands_succ (t : List Rw) (b n : Nat) : stands t b (n + 1) = if silentAt t n = true then stands t b n else stands t b n ++ blk b n b := by
  unfold stands
  rw [loud_succ]
  split
  · rfl
  · rw [List.flatMap_append]
    simp
theorem blk_len {b : Nat} (h : b = 2 ∨ b = 3 ∨ b = 4) (r : Nat) : (blk b r b).length = b * b := by
  rw [blk_flat h]
  unfold flat
  rw [List.length_map, List.length_range]
theorem stands_len {b : Nat} (h : b = 2 ∨ b = 3 ∨ b = 4) (t : List Rw) : ∀ n, (stands t b n).length ≤ 16 * n
  | 0 => Nat.zero_le _
  | n + 1 => by
    have ih := stands_len h t n
    rw [stands_succ]
    split
    · omega
    · rw [List.length_append, blk_len h]
      rcases h with rfl | rfl | rfl <;> omega
/-- a list that grows at D keeps the tuples -/
theorem keepT_put {K : PySem.W.Frag} {H : Hp} {D : Addr} {xs ys : List V} (h : H D = some (.lst xs)) : KeepT K H (upd H D (.lst ys)) := fun a zs q => by
  rcases q with (q | ⟨o, q⟩) | q
  · exact .inl (.inl (by rw [upd_ne (show a ≠ D from ne_of q h (by intro z; cases z))]; exact q))
  · exact .inl (.inr ⟨o, by rw [upd_ne (show a ≠ D from ne_of q h (by intro z; cases z))]; exact q⟩)
  · exact .inr q
/-- what stood ahead of D stands while D grows -/
theorem same_put {H H1 : Hp} {D : Addr} {o : HO} (h : H D = none) (s : Same H H1) : Same H (upd H1 D o) := fun a u e => by
  rw [upd_ne (ne_of_none e h)]
  exact s a u e
theorem DtAll.snoc {K : PySem.W.Frag} {H : Hp} {vs : List V} {ds : List PyData} {v : V} {d : PyData} (h : DtAll K H vs ds) (q : Dt K H v d) : DtAll K H (vs ++ [v]) (ds ++ [d]) := h.app (.cons q .nil)
end Kx

namespace Kx
open PySem PySem.Spec PyProof.Rows L2
/-! repr of data of any depth, where no repr is under way -/
def rRepr (K : PySem.W.Frag) : List V → Hp → VK → Prop := fun xs H Q => ∃ (a : Addr) (d : PyData), xs = [.ref a] ∧ Dp K H (.ref a) d ∧ d.showable = true ∧ d.hasDict = false ∧ d.depth ≤ 60 ∧ d.shown.length ≤ sizeLine ∧ Q (.str d.shown) H
theorem cr_repr {X : Cx} (hg : X.A.guards = some []) (hu : X.A.units + 64 < cLine) : CallR X (.builtin "repr") (rRepr X.K) := by
  intro pins s σ H xs us Q I r h
  obtain ⟨a, d, rfl, hd, sh, nd, dep, sz, q⟩ := h
  obtain ⟨u, rfl, ru⟩ := vals1 r
  cases ru
  obtain ⟨as, rd⟩ := Dp.reads I d _ _ hd rfl
  exact repr_of_reads' (h₀ := s.heap) rd sh (PyData.noDict_hsm nd) hg (by omega) (fun _ _ e => e) (fun h' u tk hk => ⟨.str d.shown, H, I.kept hk, ⟨u, rfl⟩, q⟩) sz
end Kx

namespace Kx
open PySem PySem.Spec PyProof.Rows L2
section
variable {P : Program} {w : World} {K : PySem.W.Frag} {mg : Str → Option Value}
/-- a def's body, walked where one stands as the caller of a law stands: no repr is under way there -/
theorem run_at {bs : Heap} {k : Nat} {f : Addr} {nam qual : Str} {params : Arguments} {body : List Stmt} {scope : Scope} {dV kV doc pm cdv ct oc : Value} {an od : Option Addr} {osl : Array (Option Value)} {N ps : List Str} {A : Around} {outer : List Env} {s : Shared} {H : Hp} {args : Args} {us : List Value} {vs : List V} {Q : VK} {E : XK}
    (lk : K.lookup f = some ⟨oc, od, .func (PySem.W.fnOf nam qual params body scope dV kV doc pm an cdv ct), osl⟩)
    (hcd : PySem.W.codeIn K cdv qual = true) (S : FnScope N ps scope) (hl : vs.length = ps.length) (room : Room (k + 1) A) (env0 : Env0 P w K mg bs A outer s H)
    (bind : BindsTo s (PySem.W.fnOf nam qual params body scope dV kV doc pm an cdv ct) args (ps.zip us)) (rv : Vals vs us)
    (walk : Room k (A.deeper (envOfC qual scope s.heap.objs.size f cdv)) → ∃ t, PSs (cxOf CX0 P w K mg bs N qual scope f cdv A outer s H E) body t ∧ t { nx := fun _ H' => Q .non H', rt := Q } (start N vs) H) :
    codeAny (model P w) A (.call (.ref f) args) (CR CX0 outer P w H s Q E) s := by
  have keep := fun b o (e : bs.get? b = some o) => (env0.bs b o e).1
  have inK : K.In s.heap := env0.mod.kin.keeps keep
  have noL : s.heap.NoLimit := env0.mod.nolimit.keeps keep
  refine codeAny_call_function room.depth (inK _ _ lk) rfl S.co S.gen rfl (PySem.W.codeRec_of inK hcd) (bind _ _ _ _ ?_)
  refine wpAny_newFunctionEnv_cells S.kind (fun p hp => ?_) fun env same s1 made => ?_
  · rcases S.par p.1 (List.of_mem_zip (a := p.1) (b := p.2) hp).1 with z | z
    · exact .inl z
    · exact .inr ⟨z, PySem.W.cellsFrom_some _ _ _ (.inl z)⟩
  subst same
  refine ⟨noL.keeps made.toInCall.keep, codeAny_func ?_⟩
  obtain ⟨t, dv, rd⟩ := walk (room.deeper _)
  have J := inv_start (CX := CX0) (E := E) S room.hd env0 hl rv made
  refine wpAny_mono (dv.run [] s1 (start N vs) H _ J rd) (fun fl s2 out => ?_) fun _ _ z => z
  cases fl with
  | ret u =>
    obtain ⟨v, σ2, H2, J2, r2, q2⟩ := out
    exact ⟨v, H2, J2.os, J2.bare, J2.base, J2.hok, r2, q2⟩
  | next =>
    obtain ⟨σ2, H2, J2, q2⟩ := out
    exact ⟨.non, H2, J2.os, J2.bare, J2.base, J2.hok, rfl, q2⟩
  | brk =>
    obtain ⟨_, _, _, z⟩ := out
    exact z.elim
  | cont =>
    obtain ⟨_, _, _, z⟩ := out
    exact z.elim
/-- the law's call at the head, from its run alone -/
theorem law_at {mb : Str → Option Value} {fa a : Addr} {t : Shared} {vs : List Value} {ns : List Int}
    (inK : K.In t.heap) (gl : t.heap.Ns mainGlobals mg) (bl : t.heap.Ns builtinsNs mb) (bb : ∀ x : Str, x ≠ "__name__" → mb x = bootBuiltins x) (noL : t.heap.NoLimit) (gn : t.gens = #[])
    (ha : t.heap.get? a = some { cls := .type "list", data := .seq vs.toArray }) (areI : IntsAre vs ns) (few : ns.length ≤ sizeLine)
    (run : ∀ (bs : Heap) (H : Hp), K.In bs → bs.Ns mainGlobals mg → Env0 P w K mg bs callerA [] t H → SqL K H a (ns.map V.int) →
      codeAny (model P w) callerA (.call (.ref fa) ⟨[.ref a], []⟩) (CR CX0 [] P w H t (fun v _ => v = .bl true) fun _ _ _ => False) t) :
    codeAny (model P w) callerA (.call (.ref fa) ⟨[.ref a], []⟩) (fun r s' => r = .ok (.ret (.bool true)) ∧ OldK t.heap s'.heap ∧ s'.os = t.os ∧ AllBare s'.gens) t := by
  have rv := vals_ints areI
  have go : ∀ H : Hp, Only H → SqL K H a (ns.map V.int) → HOk P w H t.heap → (∀ b, H b ≠ none → b = a) → (H a ≠ none → K.lookup a = none) →
      codeAny (model P w) callerA (.call (.ref fa) ⟨[.ref a], []⟩) (fun r s' => r = .ok (.ret (.bool true)) ∧ OldK t.heap s'.heap ∧ s'.os = t.os ∧ AllBare s'.gens) t := by
    intro H only sq hok onlyA notK
    have dictFree : ∀ {b : Addr} {o : Obj} {es : Array DictEntry} {ep : Nat}, t.heap.get? b = some o → o.data = .dict es ep → H b = none := by
      intro b o es ep e d
      refine Classical.byContradiction fun z => ?_
      obtain rfl := onlyA b z
      rw [ha] at e
      cases e
      exact Data.noConfusion d
    have ns' : ∀ {b : Addr} {m : Str → Option Value}, t.heap.Ns b m → (hidT t.heap H).Ns b m := by
      rintro b m ⟨o, es, ep, e, d, r⟩
      exact ⟨o, es, ep, hidT_get e (dictFree e d), d, r⟩
    have inB : K.In (hidT t.heap H) := by
      intro b o e
      refine hidT_get (inK b o e) (Classical.byContradiction fun z => ?_)
      obtain rfl := onlyA b z
      rw [notK z] at e
      cases e
    have md : Mod K mg (hidT t.heap H) := ⟨inB, ns' gl, ⟨mb, ns' bl, bb⟩, by obtain ⟨mc, z1, z2⟩ := noL; exact ⟨mc, ns' z1, z2⟩⟩
    have env0 : Env0 P w K mg (hidT t.heap H) callerA [] t H :=
      ⟨rfl, md, fun b o e => of_hidT e, Nat.le_of_eq (hidT_size _ _), trivial, fun b hb => absurd (show b ∈ ([] : List Addr) from hb) (by simp), hok, .of_eq gn⟩
    refine codeAny_mono (run _ H inB (ns' gl) env0 sq) fun r s2 out => ?_
    match r, out with
    | .error e, out => exact False.elim out
    | .ok .next, out => exact False.elim out
    | .ok .brk, out => exact False.elim out
    | .ok .cont, out => exact False.elim out
    | .ok (.ret u), ⟨v, H2, os, bare, un, hok2, r2, q2⟩ =>
      have q3 : v = .bl true := q2
      subst q3
      have r3 : u = Value.bool true := r2
      subst r3
      refine ⟨rfl, OldK.of_keep fun b o e => ?_, os, bare⟩
      rcases only b with z | ⟨ob, xs, z⟩
      · exact un.keep b o e z (by intro y; exact absurd (show b ∈ ([] : List Addr) from y) (by simp)) (by simp)
      · have one := (hok b _ z).1
        have two := (hok2 b _ (un.frzs b ob _ z)).1
        rw [e] at one
        cases one
        exact two
  cases look : K.lookup a with
  | some o =>
    have e := inK a o look
    rw [ha] at e
    cases e
    exact go (fun _ => none) (fun b => .inl rfl) (.inr ⟨_, vs.toArray, _, look, rfl, rfl, rfl, by rw [List.size_toArray, areI.length]; exact few, by simpa using rv⟩) (fun b u z => by have y : (none : Option HO) = some u := z; cases y) (fun b z => absurd rfl z) (fun z => absurd rfl z)
  | none =>
    have at_a : ∀ b, (fun c => if c = a then some (HO.frz { cls := .type "list", data := .seq vs.toArray } (.lst (ns.map V.int))) else none : Hp) b = if b = a then some (HO.frz { cls := .type "list", data := .seq vs.toArray } (.lst (ns.map V.int))) else none := fun _ => rfl
    refine go (fun c => if c = a then some (HO.frz { cls := .type "list", data := .seq vs.toArray } (.lst (ns.map V.int))) else none) (fun b => ?_) (.inl (.inr ⟨{ cls := .type "list", data := .seq vs.toArray }, (at_a a).trans (if_pos rfl)⟩)) (fun b u z => ?_) (fun b z => ?_) (fun _ => look)
    · by_cases hb : b = a
      · exact .inr ⟨_, _, if_pos hb⟩
      · exact .inl (if_neg hb)
    · rw [at_a] at z
      by_cases hb : b = a
      · rw [if_pos hb] at z
        cases z
        subst hb
        exact ⟨ha, by rw [List.length_map]; exact few, vs, _, rv, ha⟩
      · rw [if_neg hb] at z
        cases z
    · by_cases hb : b = a
      · exact hb
      · exact absurd (if_neg hb) z
end
/-- the end of a law row: what k_head leaves, from the law's walk at its caller -/
theorem walk_at_caller {l : PySem.W.OpenLaw} {n : Nat} {q : Program} {loose : List Str} {XP : (Str → Option Value) → Heap → Prop} {YP : World → Heap → Prop} {d : DefRec} {K : Params → PySem.W.Frag}
    (hn : l.most = some n) (hn2 : n ≤ sizeLine) (hdf : d.params.defaults = [])
    (hY : ∀ (w : World) (h : Heap), YP w h → (K w.params).In h)
    (F : ∀ (w : World) (mg : Str → Option Value) (fa : Addr) (h : Heap), (K w.params).In h → h.Ns mainGlobals mg → mg d.name = some (.ref fa) →
      ∀ (bs : Heap) (H : Hp) (t : Shared) (a : Addr) (ns : List Int), ns.length ≤ n → (K w.params).In bs → bs.Ns mainGlobals mg → Env0 l.prog w (K w.params) mg bs callerA [] t H → SqL (K w.params) H a (ns.map V.int) →
        codeAny (model l.prog w) callerA (.call (.ref fa) ⟨[.ref a], []⟩) (CR CX0 [] l.prog w H t (fun v _ => v = .bl true) fun _ _ _ => False) t) :
    PySem.W.WalkO q loose XP YP l.row.toRowW d [] (fun f vs => PySem.call f vs) := by
  refine Att.attach_call hn hdf fun w s₀ t mg mb fa o pm cd doc a vs ns G Y ho hd hcd hmg hobj hints hlen hg => ?_
  exact law_at (hY w _ Y) G.T.g G.T.b G.T.builtins G.T.nolimit hg hobj hints (Nat.le_trans hlen hn2) fun bs H inB gl env0 sq => F w mg fa _ (hY w _ Y) G.T.g hmg bs H t a ns hlen inB gl env0 sq
end Kx

namespace Kx
open PySem PySem.Spec PyProof.Rows L2
abbrev E3 (elt t0 i0 t1 i1 t2 i2 : Expr) (sc : Scope) (pos : Pos) : Expr := .ListComp elt [⟨t0, i0, [], 0⟩, ⟨t1, i1, [], 0⟩, ⟨t2, i2, [], 0⟩] sc pos
def midTurn (e : Expr) (d : Nat) (tg iter nxt : Expr) (it acc : Value) (env : Env) : Sem Fin := do
  standAt iter.pos
  match ← pyNext it with
  | none => pure (.done .next)
  | some v =>
    letOwnedTupleGo tg it v
    assign tg env v
    let mut ok := true
    for c in ([] : List Expr) do
      if ok then ok ← isTrue c env (eval c env)
    if ok then
      let x ← eval nxt env
      standAt nxt.pos
      let x ← foldedSetIterable nxt env x
      let _ ← runOwn (.compStart e (d + 1) (← holding [x] (pyIter x)) acc env) env
    again (.compLoop e d it acc env)
def endTurn (e : Expr) (d : Nat) (tg iter elt : Expr) (it acc : Value) (env : Env) : Sem Fin := do
  standAt iter.pos
  match ← pyNext it with
  | none => pure (.done .next)
  | some v =>
    letOwnedTupleGo tg it v
    assign tg env v
    let mut ok := true
    for c in ([] : List Expr) do
      if ok then ok ← isTrue c env (eval c env)
    if ok then
      (do let _ ← call (.builtin "list.append") [acc, ← eval elt env])
    again (.compLoop e d it acc env)
section
variable {prog : Program} {w : World} {A : Around} {R : Result → Shared → Prop} {s : Shared} {elt t0 i0 t1 i1 t2 i2 : Expr} {sc : Scope} {pos : Pos} {it acc : Value} {env : Env}
theorem turn3_0 : compTurn (E3 elt t0 i0 t1 i1 t2 i2 sc pos) 0 it acc env = midTurn (E3 elt t0 i0 t1 i1 t2 i2 sc pos) 0 t0 i0 i1 it acc env := by rfl
theorem turn3_1 : compTurn (E3 elt t0 i0 t1 i1 t2 i2 sc pos) 1 it acc env = midTurn (E3 elt t0 i0 t1 i1 t2 i2 sc pos) 1 t1 i1 i2 it acc env := by rfl
theorem turn3_2 : compTurn (E3 elt t0 i0 t1 i1 t2 i2 sc pos) 2 it acc env = endTurn (E3 elt t0 i0 t1 i1 t2 i2 sc pos) 2 t2 i2 elt it acc env := by rfl
abbrev No : Value → Shared → Prop := fun _ _ => False
theorem noF {α : Type} {t : Sem α} {Q Q' : α → Shared → Prop} {M : Model} {E : Value → Shared → Prop} (h : wpAny M A t Q No s) (hQ : ∀ a s, Q a s → Q' a s) : wpAny M A t Q' E s := wpAny_mono h hQ fun _ _ z => z.elim
/-- a loop of a clause that has another behind it -/
theorem loop_mid {d : Nat} {tg iter nxt : Expr} (heq : ∀ it, compTurn (E3 elt t0 i0 t1 i1 t2 i2 sc pos) d it acc env = midTurn (E3 elt t0 i0 t1 i1 t2 i2 sc pos) d tg iter nxt it acc env)
    (fs : ∀ x, foldedSetIterable nxt env x = pure x) (I : Nat → Shared → Prop)
    (turn : ∀ n s, I n s → wpAny (model prog w) A (pyNext it) (fun r s1 => match r with
      | none => R (.ok .next) s1
      | some v => wpAny (model prog w) A (letOwnedTupleGo tg it v) (fun _ s2 => wpAny (model prog w) A (assign tg env v) (fun _ s3 =>
          wpAny (model prog w) A (eval nxt env) (fun x s4 => wpAny (model prog w) A (pyIter x) (fun j s5 =>
            codeAny (model prog w) A (.compStart (E3 elt t0 i0 t1 i1 t2 i2 sc pos) (d + 1) j acc env) (fun r s' => match r with
              | .ok _ => ∃ m, m < n ∧ I m s'
              | .error _ => False) s5) No s4) No s3) No s2) No s1) No s)
    (n : Nat) (h : I n s) : codeAny (model prog w) A (.compLoop (E3 elt t0 i0 t1 i1 t2 i2 sc pos) d it acc env) R s := by
  refine codeAny_loop rfl I (fun n s hI => ?_) n h
  show wpAny _ A ((compTurn (E3 elt t0 i0 t1 i1 t2 i2 sc pos) d it acc env).onRaise (fun x => do noteFrame x env; theTreesLotGoes x)) _ _ s
  refine wpAny_noted ?_
  rw [heq]
  refine wpAny_bind (wpAny_standAt (wpAny_bind (noF (turn n s hI) fun r s1 h1 => ?_)))
  cases r with
  | none => exact wpAny_pure h1
  | some v =>
    refine wpAny_bind (noF h1 fun _ s2 h2 => wpAny_bind (noF h2 fun _ s3 h3 => wpAny_bind (wpAny_tests_nil ?_)))
    refine wpAny_bind (noF h3 fun x s4 h4 => wpAny_bind (wpAny_standAt (wpAny_bind (wpAny_of_eq (fs x) (wpAny_bind (wpAny_holding (noF h4 fun j s5 h5 => ?_)))))))
    refine wpAny_bind (wpAny_runOwn ?_)
    rw [Around.mark_none]
    refine codeAny_mono h5 fun r s' hr => ?_
    cases r with
    | ok f => first | exact wpAny_pure ⟨rfl, hr⟩ | exact wpAny_bind (wpAny_pure (wpAny_pure ⟨rfl, hr⟩))
    | error e => exact hr.elim
theorem loop_end {d : Nat} {tg iter : Expr} (heq : ∀ it, compTurn (E3 elt t0 i0 t1 i1 t2 i2 sc pos) d it acc env = endTurn (E3 elt t0 i0 t1 i1 t2 i2 sc pos) d tg iter elt it acc env) (I : Nat → Shared → Prop)
    (turn : ∀ n s, I n s → wpAny (model prog w) A (pyNext it) (fun r s1 => match r with
      | none => R (.ok .next) s1
      | some v => wpAny (model prog w) A (letOwnedTupleGo tg it v) (fun _ s2 => wpAny (model prog w) A (assign tg env v) (fun _ s3 =>
          wpAny (model prog w) A (eval elt env) (fun x s4 => wpAny (model prog w) A (call (.builtin "list.append") [acc, x]) (fun _ s5 => ∃ m, m < n ∧ I m s5) No s4) No s3) No s2) No s1) No s)
    (n : Nat) (h : I n s) : codeAny (model prog w) A (.compLoop (E3 elt t0 i0 t1 i1 t2 i2 sc pos) d it acc env) R s := by
  refine codeAny_loop rfl I (fun n s hI => ?_) n h
  show wpAny _ A ((compTurn (E3 elt t0 i0 t1 i1 t2 i2 sc pos) d it acc env).onRaise (fun x => do noteFrame x env; theTreesLotGoes x)) _ _ s
  refine wpAny_noted ?_
  rw [heq]
  refine wpAny_bind (wpAny_standAt (wpAny_bind (noF (turn n s hI) fun r s1 h1 => ?_)))
  cases r with
  | none => exact wpAny_pure h1
  | some v =>
    refine wpAny_bind (noF h1 fun _ s2 h2 => wpAny_bind (noF h2 fun _ s3 h3 => wpAny_bind (wpAny_tests_nil ?_)))
    exact wpAny_bind (wpAny_bind (noF h3 fun x s4 h4 => wpAny_bind (noF h4 fun _ s5 h5 => wpAny_pure (wpAny_pure ⟨rfl, h5⟩))))
theorem start_at {d : Nat} {g : Comprehension} (hd : ([⟨t0, i0, [], 0⟩, ⟨t1, i1, [], 0⟩, ⟨t2, i2, [], 0⟩] : List Comprehension)[d]? = some g) (ha : g.is_async = 0)
    (h0 : codeAny (model prog w) A (.compLoop (E3 elt t0 i0 t1 i1 t2 i2 sc pos) d it acc env) R s)
    (h : wpAny (model prog w) A (pyIter it) (fun j s' => codeAny (model prog w) A (.compLoop (E3 elt t0 i0 t1 i1 t2 i2 sc pos) d j acc env) R s') (notedBy (model prog w) A env fun x s' => R (.error x) s') s) :
    codeAny (model prog w) A (.compStart (E3 elt t0 i0 t1 i1 t2 i2 sc pos) d it acc env) R s := by
  refine codeAny_of_tree ?_
  show wpAny _ _ ((compStart (E3 elt t0 i0 t1 i1 t2 i2 sc pos) d it acc env).onRaise (fun x => do noteFrame x env; standAt theWindowsPlace)) _ _ s
  refine wpAny_notedAt ?_
  have hc : clausesOf (E3 elt t0 i0 t1 i1 t2 i2 sc pos) = [⟨t0, i0, [], 0⟩, ⟨t1, i1, [], 0⟩, ⟨t2, i2, [], 0⟩] := rfl
  unfold compStart
  rw [hc, hd]
  simp only [Option.elim, ha]
  show wpAny _ _ (ask >>= _) _ _ s
  refine wpAny_bind (wpAny_askSetting (wpAny_ite ?_))
  split
  · first
      | exact wpAny_bind (wpAny_pure (wpAny_pure (And.intro rfl h0)))
      | exact wpAny_pure (And.intro rfl h0)
  · refine wpAny_bind (wpAny_rule ?_)
    show wpAny _ _ (standAt g.iter.pos >>= _) _ _ s
    exact wpAny_bind (wpAny_standAt (wpAny_bind (wpAny_mono h (fun j s' h' => wpAny_pure (And.intro rfl h')) fun _ _ x => x)))
end
end Kx

namespace Kx
open PySem PySem.Spec PyProof.Rows L2
abbrev Cl := L2.St → Hp → (Hp → Prop) → Prop
/-- a clause and those behind it, run within one turn of the clause ahead -/
structure PCl (Y : Cx) (e : Expr) (d : Nat) (iter : Expr) (D : Addr) (vs : List Nat) (t : Cl) : Prop where
  run : ∀ (pins : List (Addr × Obj)) (s : Shared) (σ : L2.St) (H : Hp) (Nx : Hp → Prop), Inv Y pins σ H s → t σ H Nx →
    wpAny (model Y.prog Y.w) Y.A (eval iter Y.env) (fun x s4 => wpAny (model Y.prog Y.w) Y.A (pyIter x) (fun j s5 =>
      codeAny (model Y.prog Y.w) Y.A (.compStart e d j (.ref D) Y.env) (fun r s' => match r with
        | .ok _ => ∃ H', Inv Y pins (wipe σ vs) H' s' ∧ Nx H'
        | .error _ => False) s5) No s4) No s
def tCl (wi : TI) (g : TG) (rest : Cl) (vs : List Nat) : Cl := fun σ H Nx => wi σ H fun J H1 => ∃ W : Nat → Nat → Hp → Prop, (∃ m, W 0 m H1) ∧ ∀ i m H, W i m H →
  (J.stop i H ∧ Nx H) ∨ (J.go i H ∧ ∃ N1 : Hp → Prop, (∀ H', N1 H' → ∃ m', m' < m ∧ W (i + 1) m' H') ∧ ∀ x H', J.yld i H x H' → g x (wipe σ vs) H' fun σ2 H2 => wipe σ2 vs = wipe σ vs ∧ rest σ2 H2 N1)
def tEmit (te : TE) (D : Addr) : Cl := fun σ H Nx => te σ H fun y H1 => ∃ acc, H1 D = some (.lst acc) ∧ acc.length < sizeLine ∧ Nx (upd H1 D (.lst (acc ++ [y])))
section
variable {Y : Cx} {elt t0 i0 t1 i1 t2 i2 : Expr} {sc : Scope} {pos : Pos}
theorem noX {α : Type} {t : Sem α} {Q Q' : α → Shared → Prop} {M : Model} {A : Around} {s : Shared} {E' : Value → Shared → Prop} (hxe : ∀ v s, Y.xe v s → False) (h : wpAny M A t Q Y.xe s) (hQ : ∀ a s, Q a s → Q' a s) : wpAny M A t Q' E' s := wpAny_mono h hQ fun _ _ z => (hxe _ _ z).elim
/-- slots known ahead of a turn are known behind it -/
theorem wipe_sub {σ σ2 : L2.St} {vs vs' : List Nat} (e : wipe σ2 vs = wipe σ vs) (sub : ∀ j ∈ vs', j ∈ vs) (j : Nat) (v : V) (h : (wipe σ vs)[j]? = some (some v)) : (wipe σ2 vs')[j]? = some (some v) := by
  rw [← e] at h
  obtain ⟨h1, h2⟩ := wipe_some h
  rw [wipe_out fun z => h2 (sub j z)]
  exact h1
theorem run_mid (hxe : ∀ v s, Y.xe v s → False) (hc : Y.calm = true) {d : Nat} {tg iter nxt : Expr} {g : TG} {t' : Cl} {vs vs' : List Nat} {D it : Addr} {fp : List Addr} {tn : Nat → Heap → Prop} {J : It} {pins : List (Addr × Obj)} {σ : L2.St} {H : Hp} {s : Shared} {Nx : Hp → Prop} {R : Result → Shared → Prop} {W : Nat → Nat → Hp → Prop} {m0 : Nat}
    (heq : ∀ it, compTurn (E3 elt t0 i0 t1 i1 t2 i2 sc pos) d it (.ref D) Y.env = midTurn (E3 elt t0 i0 t1 i1 t2 i2 sc pos) d tg iter nxt it (.ref D) Y.env) (fs : ∀ x, foldedSetIterable nxt Y.env x = pure x)
    (T : Turn Y.prog Y.w Y.K tg J fp it tn) (pg : PG Y tg g) (rest : PCl Y (E3 elt t0 i0 t1 i1 t2 i2 sc pos) (d + 1) nxt D vs' t') (sub : ∀ j ∈ vs', j ∈ vs)
    (fpk : ∀ H' : Hp, (∀ b ∈ fp, H' b = none) → ∀ b ∈ fp, FpOk Y pins H' b) (I : Inv Y pins (wipe σ vs) H s) (st : tn 0 s.heap) (nf : ∀ b ∈ fp, H b = none) (w0 : W 0 m0 H)
    (turn : ∀ i m H, W i m H → (J.stop i H ∧ Nx H) ∨ (J.go i H ∧ ∃ N1 : Hp → Prop, (∀ H', N1 H' → ∃ m', m' < m ∧ W (i + 1) m' H') ∧ ∀ x H', J.yld i H x H' → g x (wipe σ vs) H' fun σ2 H2 => wipe σ2 vs = wipe σ vs ∧ t' σ2 H2 N1))
    (fin : ∀ s' H', Inv Y pins (wipe σ vs) H' s' → Nx H' → R (.ok .next) s') :
    codeAny (model Y.prog Y.w) Y.A (.compLoop (E3 elt t0 i0 t1 i1 t2 i2 sc pos) d (.ref it) (.ref D) Y.env) R s := by
  refine loop_mid heq fs (fun n s' => ∃ i H', Inv Y pins (wipe σ vs) H' s' ∧ tn i s'.heap ∧ (∀ b ∈ fp, H' b = none) ∧ W i n H') ?_ m0 ⟨0, H, I, st, nf, w0⟩
  rintro n s5 ⟨i, H5, I5, st5, n5, w5⟩
  rcases turn i n H5 w5 with ⟨stp, nx⟩ | ⟨go, N1, hN1, step⟩
  · refine noF (T.done Y rfl rfl rfl hc i pins s5 _ H5 No I5 (fpk H5 n5) st5 stp) fun r s6 out => ?_
    obtain ⟨rfl, I6⟩ := out
    exact fin s6 H5 I6 nx
  · refine noF (T.item Y rfl rfl rfl hc i pins s5 _ H5 No I5 (fpk H5 n5) st5 go) fun r s6 out => ?_
    obtain ⟨u, rfl, h6⟩ := out
    refine noF h6 fun _ s7 out => ?_
    obtain ⟨x, H7, I7, r7, y7, st7, n7⟩ := out
    have I8 := I7.pinned (fpk H7 n7) (T.obj _ _ st7)
    refine noX hxe (pg.run _ s7 _ H7 x u _ I8 r7 (step x H7 y7)) fun _ s8 out => ?_
    obtain ⟨σ8, H8, I9, hw, q8⟩ := out
    refine noF (rest.run _ s8 σ8 H8 N1 I9 q8) fun xv s9 h9 => noF h9 fun jv s10 h10 => codeAny_mono h10 fun r s' out => ?_
    cases r with
    | error e => exact out.elim
    | ok f =>
      obtain ⟨H', I', nx⟩ := out
      obtain ⟨m', hm, w'⟩ := hN1 H' nx
      have pin' : ∀ b ∈ fp, ∀ o, s7.heap.get? b = some o → s'.heap.get? b = some o ∧ H' b = none := fun b hb o e =>
        let z := I'.pin (b, o) (List.mem_append_right _ (List.mem_append_right _ (mem_pinsAt hb e)))
        ⟨z.1, z.2.1⟩
      have lw : (wipe σ vs).length = (wipe σ8 vs').length := by rw [← hw, wipe_length, wipe_length]
      refine ⟨m', hm, i + 1, H', I'.unpinned.weak lw (wipe_sub hw sub), T.keep _ _ _ st7 fun b hb o e => (pin' b hb o e).1, fun b hb => ?_, w'⟩
      obtain ⟨o, e, _⟩ := T.obj _ _ st7 b hb
      exact (pin' b hb o e).2
theorem run_end (hxe : ∀ v s, Y.xe v s → False) (hc : Y.calm = true) {d : Nat} {tg iter : Expr} {g : TG} {te : TE} {vs : List Nat} {D it : Addr} {fp : List Addr} {tn : Nat → Heap → Prop} {J : It} {pins : List (Addr × Obj)} {σ : L2.St} {H : Hp} {s : Shared} {Nx : Hp → Prop} {R : Result → Shared → Prop} {W : Nat → Nat → Hp → Prop} {m0 : Nat}
    (heq : ∀ it, compTurn (E3 elt t0 i0 t1 i1 t2 i2 sc pos) d it (.ref D) Y.env = endTurn (E3 elt t0 i0 t1 i1 t2 i2 sc pos) d tg iter elt it (.ref D) Y.env)
    (T : Turn Y.prog Y.w Y.K tg J fp it tn) (pg : PG Y tg g) (pe : PE Y elt te)
    (fpk : ∀ H' : Hp, (∀ b ∈ fp, H' b = none) → ∀ b ∈ fp, FpOk Y pins H' b) (I : Inv Y pins (wipe σ vs) H s) (st : tn 0 s.heap) (nf : ∀ b ∈ fp, H b = none) (w0 : W 0 m0 H)
    (turn : ∀ i m H, W i m H → (J.stop i H ∧ Nx H) ∨ (J.go i H ∧ ∃ N1 : Hp → Prop, (∀ H', N1 H' → ∃ m', m' < m ∧ W (i + 1) m' H') ∧ ∀ x H', J.yld i H x H' → g x (wipe σ vs) H' fun σ2 H2 => wipe σ2 vs = wipe σ vs ∧ tEmit te D σ2 H2 N1))
    (fin : ∀ s' H', Inv Y pins (wipe σ vs) H' s' → Nx H' → R (.ok .next) s') :
    codeAny (model Y.prog Y.w) Y.A (.compLoop (E3 elt t0 i0 t1 i1 t2 i2 sc pos) d (.ref it) (.ref D) Y.env) R s := by
  refine loop_end heq (fun n s' => ∃ i H', Inv Y pins (wipe σ vs) H' s' ∧ tn i s'.heap ∧ (∀ b ∈ fp, H' b = none) ∧ W i n H') ?_ m0 ⟨0, H, I, st, nf, w0⟩
  rintro n s5 ⟨i, H5, I5, st5, n5, w5⟩
  rcases turn i n H5 w5 with ⟨stp, nx⟩ | ⟨go, N1, hN1, step⟩
  · refine noF (T.done Y rfl rfl rfl hc i pins s5 _ H5 No I5 (fpk H5 n5) st5 stp) fun r s6 out => ?_
    obtain ⟨rfl, I6⟩ := out
    exact fin s6 H5 I6 nx
  · refine noF (T.item Y rfl rfl rfl hc i pins s5 _ H5 No I5 (fpk H5 n5) st5 go) fun r s6 out => ?_
    obtain ⟨u, rfl, h6⟩ := out
    refine noF h6 fun _ s7 out => ?_
    obtain ⟨x, H7, I7, r7, y7, st7, n7⟩ := out
    have I8 := I7.pinned (fpk H7 n7) (T.obj _ _ st7)
    refine noX hxe (pg.run _ s7 _ H7 x u _ I8 r7 (step x H7 y7)) fun _ s8 out => ?_
    obtain ⟨σ8, H8, I9, hw, q8⟩ := out
    refine noX hxe (pe.run _ s8 σ8 H8 _ I9 q8) fun z s9 out => ?_
    obtain ⟨y, H9, I10, r9, acc, hD, hz, nx⟩ := out
    refine app_ok (X := Y) I10 hD hz r9 fun s' I' => ?_
    obtain ⟨m', hm, w'⟩ := hN1 _ nx
    have pin' : ∀ b ∈ fp, ∀ o, s7.heap.get? b = some o → s'.heap.get? b = some o ∧ (upd H9 D (.lst (acc ++ [y]))) b = none := fun b hb o e =>
      let z := I'.pin (b, o) (List.mem_append_right _ (List.mem_append_right _ (mem_pinsAt hb e)))
      ⟨z.1, z.2.1⟩
    have lw : (wipe σ vs).length = σ8.length := by rw [← hw, wipe_length]
    refine ⟨m', hm, i + 1, _, I'.unpinned.weak lw (fun j v e => by rw [← hw] at e; exact (wipe_some e).1), T.keep _ _ _ st7 fun b hb o e => (pin' b hb o e).1, fun b hb => ?_, w'⟩
    obtain ⟨o, e, _⟩ := T.obj _ _ st7 b hb
    exact (pin' b hb o e).2
theorem cl_end (hxe : ∀ v s, Y.xe v s → False) (hc : Y.calm = true) {wi : TI} {g : TG} {te : TE} {vs : List Nat} {D : Addr} (pi : PI Y t2 i2 wi) (pg : PG Y t2 g) (pe : PE Y elt te) :
    PCl Y (E3 elt t0 i0 t1 i1 t2 i2 sc pos) 2 i2 D vs (tCl wi g (tEmit te D) vs) := by
  refine ⟨fun pins s σ H Nx I h => ?_⟩
  refine noX hxe (pi.run pins s σ H _ I h) fun x s4 h4 => noX hxe h4 fun jv s5 out => ?_
  obtain ⟨it, fp, tn, J, H5, rfl, I5, T, st5, f5, W, ⟨m0, w0⟩, turn⟩ := out
  have lp := run_end (elt := elt) (t0 := t0) (i0 := i0) (t1 := t1) (i1 := i1) (t2 := t2) (i2 := i2) (sc := sc) (pos := pos) (d := 2) (iter := i2) (R := fun r s' => match r with
        | .ok _ => ∃ H', Inv Y pins (wipe σ vs) H' s' ∧ Nx H'
        | .error _ => False) hxe hc (fun _ => turn3_2) T pg pe (fun H' hn b hb => ⟨hn b hb, (f5 b hb).2⟩) (I5.weak (wipe_length σ vs) (fun j v e => (wipe_some e).1)) st5 (fun b hb => (f5 b hb).1) w0 turn (fun s' H' I' nx => ⟨H', I', nx⟩)
  exact start_at (g := ⟨t2, i2, [], 0⟩) rfl rfl lp (T.self Y.A 0 _ _ _ st5 lp)
theorem cl_mid (hxe : ∀ v s, Y.xe v s → False) (hc : Y.calm = true) {wi : TI} {g : TG} {t' : Cl} {vs vs' : List Nat} {D : Addr} (pi : PI Y t1 i1 wi) (pg : PG Y t1 g) (rest : PCl Y (E3 elt t0 i0 t1 i1 t2 i2 sc pos) 2 i2 D vs' t') (sub : ∀ j ∈ vs', j ∈ vs) (fs : ∀ x, foldedSetIterable i2 Y.env x = pure x) :
    PCl Y (E3 elt t0 i0 t1 i1 t2 i2 sc pos) 1 i1 D vs (tCl wi g t' vs) := by
  refine ⟨fun pins s σ H Nx I h => ?_⟩
  refine noX hxe (pi.run pins s σ H _ I h) fun x s4 h4 => noX hxe h4 fun jv s5 out => ?_
  obtain ⟨it, fp, tn, J, H5, rfl, I5, T, st5, f5, W, ⟨m0, w0⟩, turn⟩ := out
  have lp := run_mid (elt := elt) (t0 := t0) (i0 := i0) (t1 := t1) (i1 := i1) (t2 := t2) (i2 := i2) (sc := sc) (pos := pos) (d := 1) (iter := i1) (R := fun r s' => match r with
        | .ok _ => ∃ H', Inv Y pins (wipe σ vs) H' s' ∧ Nx H'
        | .error _ => False) hxe hc (fun _ => turn3_1) fs T pg rest sub (fun H' hn b hb => ⟨hn b hb, (f5 b hb).2⟩) (I5.weak (wipe_length σ vs) (fun j v e => (wipe_some e).1)) st5 (fun b hb => (f5 b hb).1) w0 turn (fun s' H' I' nx => ⟨H', I', nx⟩)
  exact start_at (g := ⟨t1, i1, [], 0⟩) rfl rfl lp (T.self Y.A 0 _ _ _ st5 lp)
end
end Kx

namespace Kx
open PySem PySem.Spec PyProof.Rows L2
/-- [elt for t0 in i0 for t1 in i1 for t2 in i2] -/
def tLc3 (wi : TI) (g : TG) (rest : Addr → Cl) (vs : List Nat) : TE := fun σ H Q => wi σ H fun J H1 => ∀ D, H1 D = none → ∃ W : Nat → Nat → Hp → Prop, (∃ m, W 0 m (upd H1 D (.lst []))) ∧ ∀ i m H, W i m H →
  (J.stop i H ∧ Q (.ref D) H) ∨ (J.go i H ∧ ∃ N1 : Hp → Prop, (∀ H', N1 H' → ∃ m', m' < m ∧ W (i + 1) m' H') ∧ ∀ x H', J.yld i H x H' → g x (wipe σ vs) H' fun σ2 H2 => wipe σ2 vs = wipe σ vs ∧ rest D σ2 H2 N1)
section
variable {X : Cx} {elt t0 i0 t1 i1 t2 i2 : Expr} {sc : Scope} {pos : Pos}
theorem pe_lc3 {own : List (Str × Nat)} {vs1 vs2 : List Nat} {wi wi1 wi2 : TI} {g g1 g2 : TG} {te : TE} (hc : X.calm = true) (hN : X.N.Nodup) (pi0 : PI X t0 i0 wi) (ok : BlkOk X.N X.env.scope sc own)
    (sub1 : ∀ j ∈ vs1, j ∈ own.map (·.2)) (sub2 : ∀ j ∈ vs2, j ∈ vs1)
    (pg0 : ∀ (s : Shared) (H : Hp) (C : Addr) (cl : List (Str × Addr)) (fp : List Addr), PG (X.blk s H sc (compEnvC sc cl C X.env) fp) t0 g)
    (pi1 : ∀ (s : Shared) (H : Hp) (C : Addr) (cl : List (Str × Addr)) (fp : List Addr), PI (X.blk s H sc (compEnvC sc cl C X.env) fp) t1 i1 wi1)
    (pg1 : ∀ (s : Shared) (H : Hp) (C : Addr) (cl : List (Str × Addr)) (fp : List Addr), PG (X.blk s H sc (compEnvC sc cl C X.env) fp) t1 g1)
    (pi2 : ∀ (s : Shared) (H : Hp) (C : Addr) (cl : List (Str × Addr)) (fp : List Addr), PI (X.blk s H sc (compEnvC sc cl C X.env) fp) t2 i2 wi2)
    (pg2 : ∀ (s : Shared) (H : Hp) (C : Addr) (cl : List (Str × Addr)) (fp : List Addr), PG (X.blk s H sc (compEnvC sc cl C X.env) fp) t2 g2)
    (pel : ∀ (s : Shared) (H : Hp) (C : Addr) (cl : List (Str × Addr)) (fp : List Addr), PE (X.blk s H sc (compEnvC sc cl C X.env) fp) elt te)
    (fs0 : ∀ x, foldedSetIterable i0 X.env x = pure x := by intro _; rfl) (fs1 : ∀ env x, foldedSetIterable i1 env x = pure x := by intro _ _; rfl) (fs2 : ∀ env x, foldedSetIterable i2 env x = pure x := by intro _ _; rfl) :
    PE X (E3 elt t0 i0 t1 i1 t2 i2 sc pos) (tLc3 wi g (fun D => tCl wi1 g1 (tCl wi2 g2 (tEmit te D) vs2) vs1) (own.map (·.2))) := by
  refine ⟨fun pins s σ H Q I h => ?_⟩
  show wpAny (model X.prog X.w) X.A (eval (.ListComp elt [⟨t0, i0, [], 0⟩, ⟨t1, i1, [], 0⟩, ⟨t2, i2, [], 0⟩] sc pos) X.env) _ _ s
  rw [eval_ListComp]
  have cells : ∀ y ∈ sc.names, y.2 = .free → ∃ c, X.env.cells.lookup y.1 = some c := by
    intro y hy e
    rcases ok.free y hy e with z | z
    · exact I.ok.has _ (.inl z)
    · exact I.ok.has _ (.inr z)
  refine wpAny_comprehension_free (use := none) rfl fs0 (closure_ok cells) ok.kind (fun y hy e => by rw [ok.uniq y hy, e]) (thn (pi0.run pins s σ H _ I h) fun xv s1 hx => thn hx fun jv s2 out => ?_)
  obtain ⟨it, fp, tn, J, H2, rfl, I2, T, st2, f2, q⟩ := out
  refine wpAny_newObj_type (newEnv_comp ?_) (by show 0 ≤ sizeLine; decide)
  generalize hD : s2.heap.objs.size = D
  have freeD : H2 D = none := I2.hok.fresh (Nat.le_of_eq hD)
  obtain ⟨W, ⟨m0, w0⟩, turn⟩ := q D freeD
  generalize hs3 : ({ s2 with heap := s2.heap.push { cls := .type "list", data := .seq ([] : List Value).toArray } } : Shared) = s3
  have heap3 : s3.heap = s2.heap.push { cls := .type "list", data := .seq ([] : List Value).toArray } := by rw [← hs3]
  have I3 : Inv X pins σ (upd H2 D (.lst [])) s3 := by
    rw [← hs3]
    refine I2.laid (t' := s2.toks) (fun b o e => Heap.get?_push_of_some _ e) (Nat.le_of_eq hD) ⟨Nat.zero_le _, [], 0, .nil, ?_⟩
    rw [← hD]
    exact Heap.get?_push_size _ rfl
  have f3 : ∀ b ∈ fp, FpOk X pins (upd H2 D (.lst [])) b ∧ b < s3.heap.objs.size := by
    intro b hb
    obtain ⟨o, e, _⟩ := T.obj _ _ st2 b hb
    have lt := Heap.lt_size e
    refine ⟨⟨?_, (f2 b hb).2⟩, by rw [heap3, Heap.size_push]; exact Nat.lt_succ_of_lt lt⟩
    rw [upd_ne (by rw [← hD]; exact Nat.ne_of_lt lt)]
    exact (f2 b hb).1
  have st3 : tn 0 s3.heap := T.keep _ _ _ st2 fun b _ o e => by rw [heap3]; exact Heap.get?_push_of_some _ e
  have I4 := block_start I3 ok hN f3
  generalize hcl : cellsFrom (s3.heap.objs.size + 1) sc.names (cloFrom X.env.cells sc.names []) = cl at I4
  have pg := pg0 s3 (upd H2 D (.lst [])) s3.heap.objs.size cl fp
  have Q1 := pi1 s3 (upd H2 D (.lst [])) s3.heap.objs.size cl fp
  have G1 := pg1 s3 (upd H2 D (.lst [])) s3.heap.objs.size cl fp
  have Q2 := pi2 s3 (upd H2 D (.lst [])) s3.heap.objs.size cl fp
  have G2 := pg2 s3 (upd H2 D (.lst [])) s3.heap.objs.size cl fp
  have El := pel s3 (upd H2 D (.lst [])) s3.heap.objs.size cl fp
  show codeAny _ _ (.compStart (E3 elt t0 i0 t1 i1 t2 i2 sc pos) 0 (.ref it) (.ref D) (compEnvC sc cl s3.heap.objs.size X.env)) (compPost (model X.prog X.w) X.A X.xe none _ (.ref D) s3.heap.objs.size) { s3 with heap := pushCells (s3.heap.push { cls := .type "dict", data := .dict #[] }) sc.names }
  have nf3 : ∀ b ∈ fp, (upd H2 D (.lst [])) b = none := fun b hb => (f3 b hb).1.1
  generalize hce : compEnvC sc cl s3.heap.objs.size X.env = ce at I4 pg Q1 G1 Q2 G2 El ⊢
  have atL : ce.locals = s3.heap.objs.size := by subst hce; rfl
  generalize hH3 : upd H2 D (.lst []) = H3 at I3 I4 pg Q1 G1 Q2 G2 El w0 nf3 f3
  generalize hs4 : ({ s3 with heap := pushCells (s3.heap.push { cls := .type "dict", data := .dict #[] }) sc.names } : Shared) = s4 at I4 ⊢
  have st4 : tn 0 s4.heap := T.keep _ _ _ st3 fun b _ o e => by rw [← hs4]; exact pushCells_keeps _ _ _ _ (Heap.get?_push_of_some _ e)
  have nox : ∀ v t, (X.blk s3 H3 sc ce fp).xe v t → False := fun _ _ z => z
  have C2 : PCl (X.blk s3 H3 sc ce fp) (E3 elt t0 i0 t1 i1 t2 i2 sc pos) 2 i2 D vs2 (tCl wi2 g2 (tEmit te D) vs2) := cl_end nox hc Q2 G2 El
  have C1 : PCl (X.blk s3 H3 sc ce fp) (E3 elt t0 i0 t1 i1 t2 i2 sc pos) 1 i1 D vs1 (tCl wi1 g1 (tCl wi2 g2 (tEmit te D) vs2) vs1) := cl_mid nox hc Q1 G1 C2 sub2 (fs2 ce)
  have stat : ∀ H' : Hp, (∀ b ∈ fp, H' b = none) → ∀ b ∈ fp, FpOk (X.blk s3 H3 sc ce fp) [] H' b := fun H' hn b hb =>
    ⟨hn b hb, (I4.ok.exf b hb).1, I4.ok.exfs b hb, .inl hb, fun x c e => (I4.ok.exf b hb).2 x c e, fun p hp => absurd (show p ∈ ([] : List (Addr × Obj)) ++ [] from hp) (by simp)⟩
  have lp : codeAny (model X.prog X.w) X.A (.compLoop (E3 elt t0 i0 t1 i1 t2 i2 sc pos) 0 (.ref it) (.ref D) ce) (compPost (model X.prog X.w) X.A X.xe none (EP X pins σ Q) (.ref D) s3.heap.objs.size) s4 := by
    refine run_mid (Y := X.blk s3 H3 sc ce fp) (pins := []) nox hc (fun _ => turn3_0) (fs1 ce) T pg C1 sub1 stat I4 st4 nf3 w0 turn (fun s6 H5 I6 qq => ?_)
    have I7 : Inv X pins σ H5 s6 := I3.call' (ch := fp) I6.os I6.base I6.hok I6.bare fun b hb => ⟨(f3 b hb).1.2.2.2.1, (f3 b hb).1.2.1, (f3 b hb).1.2.2.2.2.1, (f3 b hb).1.2.2.2.2.2⟩
    have freeC : H5 s3.heap.objs.size = none := by
      have z : H5 ce.locals = none := I6.free
      rw [atL] at z
      exact z
    obtain ⟨mm, hn, _⟩ := I6.loc
    have hn' : s6.heap.Ns ce.locals mm := hn
    rw [atL] at hn'
    obtain ⟨c0, c1, c2, c3, c4, c5⟩ := I3.fpOk (H' := H5) (Nat.le_refl _) freeC
    exact ⟨mm, hn', fun h'' sb => ⟨.ref D, H5, I7.turned (t' := s6.toks) (fun b o hb e => (sb.2 b hb).trans e) c0 c1 c3 c4 c5, rfl, qq⟩⟩
  exact codeAny_compStart_list lp (T.self X.A 0 _ _ _ st4 lp)
end
end Kx

namespace Kx
open PySem PySem.Spec PyProof.Rows L2
theorem cl_range {n : Nat} {g : TG} {rest : Cl} {vs : List Nat} {σ : L2.St} {H1 : Hp} {Nx : Hp → Prop} (Pv : Nat → Hp → Prop) (h0 : Pv 0 H1)
    (hs : ∀ i H, i < n → Pv i H → g (.int (0 + (i : Int))) (wipe σ vs) H fun σ2 H2 => wipe σ2 vs = wipe σ vs ∧ rest σ2 H2 (Pv (i + 1))) (hd : ∀ H, Pv n H → Nx H) :
    ∃ W : Nat → Nat → Hp → Prop, (∃ m, W 0 m H1) ∧ ∀ i m H, W i m H → ((Itr 0 n).stop i H ∧ Nx H) ∨ ((Itr 0 n).go i H ∧ ∃ N1 : Hp → Prop, (∀ H', N1 H' → ∃ m', m' < m ∧ W (i + 1) m' H') ∧
      ∀ x H', (Itr 0 n).yld i H x H' → g x (wipe σ vs) H' fun σ2 H2 => wipe σ2 vs = wipe σ vs ∧ rest σ2 H2 N1) := by
  refine ⟨fun i m H => m = n - i ∧ i ≤ n ∧ Pv i H, ⟨n, by simp, Nat.zero_le _, h0⟩, ?_⟩
  rintro i m H ⟨rfl, hi, p⟩
  by_cases lt : i < n
  · refine .inr ⟨lt, Pv (i + 1), fun H' p' => ⟨n - (i + 1), by omega, rfl, lt, p'⟩, fun x H' out => ?_⟩
    obtain ⟨e1, e2⟩ := out
    subst e1 e2
    exact hs i _ lt p
  · obtain rfl : i = n := by omega
    exact .inl ⟨Nat.le_refl _, hd H p⟩
theorem lc3_list {K : PySem.W.Frag} {a : Addr} {xs : List V} {g : TG} {rest : Cl} {vs : List Nat} {σ : L2.St} {H1 : Hp} {Nx : Hp → Prop} (Pv : Nat → Hp → Prop) (h0 : Pv 0 H1) (hl : ∀ i H, i ≤ xs.length → Pv i H → SqL K H a xs)
    (hs : ∀ i x H, xs[i]? = some x → Pv i H → g x (wipe σ vs) H fun σ2 H2 => wipe σ2 vs = wipe σ vs ∧ rest σ2 H2 (Pv (i + 1))) (hd : ∀ H, Pv xs.length H → Nx H) :
    ∃ W : Nat → Nat → Hp → Prop, (∃ m, W 0 m H1) ∧ ∀ i m H, W i m H → ((Itl K a).stop i H ∧ Nx H) ∨ ((Itl K a).go i H ∧ ∃ N1 : Hp → Prop, (∀ H', N1 H' → ∃ m', m' < m ∧ W (i + 1) m' H') ∧
      ∀ x H', (Itl K a).yld i H x H' → g x (wipe σ vs) H' fun σ2 H2 => wipe σ2 vs = wipe σ vs ∧ rest σ2 H2 N1) := by
  refine ⟨fun i m H => m = xs.length - i ∧ i ≤ xs.length ∧ Pv i H, ⟨xs.length, by simp, Nat.zero_le _, h0⟩, ?_⟩
  rintro i m H ⟨rfl, hi, p⟩
  have sq := hl i H hi p
  by_cases lt : i < xs.length
  · refine .inr ⟨⟨xs, xs[i], sq, by simp [lt]⟩, Pv (i + 1), fun H' p' => ⟨xs.length - (i + 1), by omega, rfl, lt, p'⟩, fun x H' out => ?_⟩
    obtain ⟨e1, e2⟩ := out
    subst e1
    exact hs i x _ (e2 xs sq) p
  · obtain rfl : i = xs.length := by omega
    exact .inl ⟨⟨xs, sq, Nat.le_refl _⟩, hd H p⟩
end Kx

namespace Kx
open PySem PySem.Spec PyProof.Rows L2
def topS (i : Nat) : Stmt := PySem.Challenge.pw_callsover_k10_stands_listed.main.body.getD i (.Pass ⟨0, 0, 0, 0⟩)
abbrev sBag : Stmt := topS 5
abbrev sTake : Stmt := topS 6
abbrev sOpd : Stmt := topS 7
abbrev sExp : Stmt := topS 8
abbrev sRow : Stmt := topS 9
abbrev sText : Stmt := topS 10
theorem scBag : FnScope ["_law_script", "_law_at", "_law_cell", "_law_digits"] ["_law_script", "_law_at"] (defScope sBag) := ⟨rfl, rfl, rfl, by decide +kernel, rfl, by decide +kernel, by decide +kernel⟩
theorem scTake : FnScope ["_law_bag_here", "_law_many", "_law_digit", "_law_mixed"] ["_law_bag_here", "_law_many"] (defScope sTake) := ⟨rfl, rfl, rfl, by decide +kernel, rfl, by decide +kernel, by decide +kernel⟩
theorem scOpd : FnScope ["_law_bag_here", "_law_radix", "_law_number"] ["_law_bag_here", "_law_radix"] (defScope sOpd) := ⟨rfl, rfl, rfl, by decide +kernel, rfl, by decide +kernel, by decide +kernel⟩
theorem scExp : FnScope ["_law_bag_here", "_law_radix", "_law_left", "_law_right", "_law_sign"] ["_law_bag_here", "_law_radix"] (defScope sExp) := ⟨rfl, rfl, rfl, by decide +kernel, rfl, by decide +kernel, by decide +kernel⟩
section
variable {P : Program} {w : World} {K : PySem.W.Frag} {mg : Str → Option Value} {base : Heap}
def spBag (K : PySem.W.Frag) : Sp := fun vs H Q _ => ∃ (a : Addr) (ns : List Int) (i : Nat), vs = [.ref a, .int i] ∧ SqL K H a (ns.map V.int) ∧ i ≤ 1000 ∧ ∀ p H', H p = none → Bag H' p 0 → Same H H' → Q (.ref p) H'
theorem ok_bag {f : Addr} {fd : FuncData} {k : Nat} (F : Fun K "_law_bag" "_law_bag" sBag f fd) (ml : mg "len" = none) (ma : mg "abs" = none) : FnOk P w K mg base CX0 (k + 1) f fd ["_law_script", "_law_at"] (spBag K) := by
  refine F.ok scBag (fun vs H Q E h => ?_) (fun cdv A outer s H vs Q E hr h => ?_)
  · obtain ⟨a, ns, i, rfl, _⟩ := h
    rfl
  · obtain ⟨a, ns, i, rfl, hS, hi, q⟩ := h
    refine ⟨_, pss_cons (ps_set (i := 2) scBag.nd rfl (.inl rfl) (pe_ifExp (pt_cmpR op_lt (pv 1) (pe_callB call_len_seq (by rfl) ml PySem.boot_len (pa_cons (pv 0) pa_nil)) (nomark _)) (pe_ix ix_list (pv 0) (pv 1) (fun _ _ => rfl)) pe_int))
      (pss_cons (ps_set (i := 3) scBag.nd rfl (.inl rfl) (pe_ifExp (pt_cmpR op_ge (pe_callB call_abs (by rfl) ma (by decide +kernel) (pa_cons (pv 2) pa_nil)) (pe_op op_pow pe_int pe_int) (nomark _)) (pe_callB call_abs (by rfl) ma (by decide +kernel) (pa_cons (pv 2) pa_nil)) pe_int))
      (pss_one (ps_ret (pe_lst (pa_cons (pv 3) (pa_cons (pe_op op_mod (pe_op op_mul (pe_op op_add (pe_op op_add (pe_op op_mod (pv 2) pe_int) (pe_op op_mul pe_int (pv 1))) pe_int) pe_int) pe_int) (pa_cons pe_int pa_nil))))))), ?_⟩
    have fin : ∀ (c d : Int), 0 ≤ d → ∀ p, H p = none → Q (.ref p) (upd H p (.lst [.int d, .int ((c % 2305843009213693951 + 7919 * (i : Int) + 3) * 6700417 % 2305843009213693951), .int 0])) := fun c d hd p hp =>
      q p _ hp ⟨d, _, 0, upd_same, hd, Int.emod_nonneg _ (by decide), Int.emod_lt_of_pos _ (by decide), Nat.le_refl _⟩ (fun b o e => by rw [upd_ne (ne_of_none e hp)]; exact e)
    refine (fun (mid : ∀ c : Int, (?T : Int → Prop) c) => ?main) ?midp
    case main =>
      refine ⟨.int i, rfl, .ref a, rfl, a, _, rfl, .inl hS, _, _, rfl, rfl, _, rfl, ite2 (fun e => ?_) (fun e => ?_)⟩
      · have h1 : i < ns.length := by
          have := of_decide_eq_true e
          rw [List.length_map] at this
          omega
        refine ⟨.ref a, rfl, .int i, rfl, a, _, i, .int ns[i], rfl, rfl, hS, atI_nat (by rw [List.getElem?_map, List.getElem?_eq_getElem h1]; rfl), ?_⟩
        generalize ns[i] = c
        exact mid c
      · exact mid 0
    case midp =>
      intro c
      refine (fun (last : ∀ d : Int, 0 ≤ d → (?T2 : Int → Prop) d) => ?main) ?midp
      case main =>
        refine ⟨.int c, rfl, c, rfl, 10, 18, rfl, rfl, ⟨by decide, by decide, by decide⟩, _, _, rfl, rfl, _, rfl, ite2 (fun e => ⟨.int c, rfl, c, rfl, ?_⟩) (fun e => ?_)⟩
        · have hd : 0 ≤ (if c < 0 then -c else c) := by split <;> omega
          revert hd
          generalize (if c < 0 then -c else c) = d
          intro hd
          exact last d hd
        · exact last 0 (by decide)
      case midp =>
        intro d hd
        exact ⟨.int d, rfl, .int c, rfl, c, 2305843009213693951, rfl, rfl, pM, .int i, rfl, 7919, i, rfl, rfl, .inl ⟨by decide, by decide⟩, _, _, rfl, rfl, _, _, rfl, rfl, _, 6700417, rfl, rfl, .inr ⟨by decide, by decide⟩, _, _, rfl, rfl, pM, (by show 3 ≤ sizeLine; decide), fun p hp => fin c d hd p hp⟩
def spTake : Sp := fun vs H Q _ => ∃ (b : Addr) (n : Nat) (m : Int), vs = [.ref b, .int m] ∧ Bag H b n ∧ n ≤ 1000000 ∧ 1 ≤ m ∧ m ≤ 1000 ∧ ∀ (r : Int) H', 0 ≤ r → r < m → Bag H' b (n + 1) → SameX b H H' → Q (.int r) H'
theorem ok_take {f : Addr} {fd : FuncData} {k : Nat} (F : Fun K "_law_take" "_law_take" sTake f fd) : FnOk P w K mg base CX0 (k + 1) f fd ["_law_bag_here", "_law_many"] spTake := by
  refine F.ok scTake (fun vs H Q E h => ?_) (fun cdv A outer s H vs Q E hr h => ?_)
  · obtain ⟨b, n, m, rfl, _⟩ := h
    rfl
  · obtain ⟨b, n, m, rfl, ⟨d, x, c, hb, hd, hx, hx2, hc⟩, hn, hm, hm2, q⟩ := h
    refine ⟨_, pss_cons (ps_if (pt_cmpR op_gt (pe_ix ix_list (pv 0) pe_int (fun _ _ => rfl)) pe_int (nomark _))
        (pss_cons (ps_set (i := 2) scTake.nd rfl (.inl rfl) (pe_op op_mod (pe_ix ix_list (pv 0) pe_int (fun _ _ => rfl)) (pv 1)))
        (pss_cons (ps_asg (pe_op op_fdiv (pe_ix ix_list (pv 0) pe_int (fun _ _ => rfl)) (pv 1)) (pg_sub (pv 0) pe_int set_list))
        (pss_one (ps_ret (pv 2))))) pss_nil)
      (pss_cons (ps_asg (pe_op op_add (pe_ix ix_list (pv 0) pe_int (fun _ _ => rfl)) pe_int) (pg_sub (pv 0) pe_int set_list))
      (pss_cons (ps_set (i := 3) scTake.nd rfl (.inl rfl) (pe_op op_mod (pe_op op_pow (pe_op op_add (pe_ix ix_list (pv 0) pe_int (fun _ _ => rfl)) (pe_op op_mul pe_int (pe_ix ix_list (pv 0) pe_int (fun _ _ => rfl)))) pe_int) pe_int))
      (pss_cons (ps_set (i := 3) scTake.nd rfl (.inl rfl) (pe_op op_mod (pe_op op_pow (pe_op op_add (pv 3) (pe_op op_mul pe_int (pe_ix ix_list (pv 0) pe_int (fun _ _ => rfl)))) pe_int) pe_int))
      (pss_one (ps_ret (pe_op op_mod (pe_op op_fdiv (pv 3) pe_int) (pv 1))))))), ?_⟩
    have hL : SqL K H b [.int d, .int x, .int c] := SqL.of hb
    refine ⟨.ref b, rfl, b, _, 0, .int d, rfl, rfl, hL, atI_nat (j := 0) rfl, d, 0, rfl, rfl, _, rfl, ite2 (fun e => ?_) (fun e => ?_)⟩
    · have hd0 : 0 < d := of_decide_eq_true e
      refine ⟨.ref b, rfl, b, _, 0, .int d, rfl, rfl, hL, atI_nat (j := 0) rfl, .int m, rfl, d, m, rfl, rfl, (by show 0 < m; omega), ?_⟩
      refine ⟨.ref b, rfl, b, _, 0, .int d, rfl, rfl, hL, atI_nat (j := 0) rfl, .int m, rfl, d, m, rfl, rfl, ⟨by omega, by omega⟩, ?_⟩
      refine ⟨.ref b, rfl, b, _, 0, 0, rfl, rfl, hb, rfl, ?_⟩
      refine ⟨_, rfl, q (d % m) _ (Int.emod_nonneg _ (by omega)) (Int.emod_lt_of_pos _ (by omega)) ⟨d / m, x, c, upd_same, Int.ediv_nonneg hd (by omega), hx, hx2, by omega⟩ (fun a o ne e => by rw [upd_ne ne]; exact e)⟩
    · refine ⟨.ref b, rfl, b, _, 2, .int c, rfl, rfl, hL, atI_nat (j := 2) rfl, c, 1, rfl, rfl, ?_⟩
      refine ⟨.ref b, rfl, b, _, 2, 2, rfl, rfl, hb, rfl, ?_⟩
      have hL2 : SqL K (upd H b (.lst [.int d, .int x, .int (c + 1)])) b [.int d, .int x, .int (c + 1)] := SqL.of upd_same
      refine ⟨.ref b, rfl, b, _, 1, .int x, rfl, rfl, hL2, atI_nat (j := 1) rfl, .ref b, rfl, b, _, 2, .int (c + 1), rfl, rfl, hL2, atI_nat (j := 2) rfl, 1000003, _, rfl, rfl, .inl ⟨by decide, by decide⟩, _, _, rfl, rfl, _, 3, rfl, rfl, ⟨by decide, by decide, ?_⟩, _, 2305843009213693921, rfl, rfl, pM2, ?_⟩
      · omega
      refine ⟨_, rfl, .ref b, rfl, b, _, 2, .int (c + 1), rfl, rfl, hL2, atI_nat (j := 2) rfl, 15485863, _, rfl, rfl, .inl ⟨by decide, by decide⟩, _, _, rfl, rfl, _, 2, rfl, rfl, ⟨by decide, by decide, ?_⟩, _, 2305843009213693951, rfl, rfl, pM, ?_⟩
      · show Int.natAbs ((x + 1000003 * ((c : Int) + 1)) ^ Int.toNat 3 % 2305843009213693921 + 15485863 * ((c : Int) + 1)) < 2 ^ 64
        generalize e1 : (x + 1000003 * ((c : Int) + 1)) ^ Int.toNat 3 % 2305843009213693921 = y
        have y0 : 0 ≤ y := e1 ▸ Int.emod_nonneg _ (by decide)
        have y1 : y < 2305843009213693921 := e1 ▸ Int.emod_lt_of_pos _ (by decide)
        omega
      refine ⟨_, rfl, _, 1024, rfl, rfl, ⟨by decide, by decide⟩, .int m, rfl, _, m, rfl, rfl, (by show 0 < m; omega), ?_⟩
      exact q _ _ (Int.emod_nonneg _ (by omega)) (Int.emod_lt_of_pos _ (by omega)) ⟨d, x, c + 1, upd_same, hd, hx, hx2, by omega⟩ (fun a o ne e => by rw [upd_ne ne]; exact e)
def spOpd (K : PySem.W.Frag) : Sp := fun vs H Q _ => ∃ (b : Addr) (n : Nat) (m : Int), vs = [.ref b, .int m] ∧ Bag H b n ∧ n ≤ 900000 ∧ 1 ≤ m ∧ m ≤ 1000 ∧ ∀ (v : V) (o : Op) H', o.ok m → Dt K H' v o.d → Bag H' b (n + 2) → SameX b H H' → Q v H'
theorem ok_opd {f fT : Addr} {fd fdT : FuncData} {k : Nat} (F : Fun K "_law_operand" "_law_operand" sOpd f fd) (FT : Fun K "_law_take" "_law_take" sTake fT fdT) (bT : Binds K fdT ["_law_bag_here", "_law_many"] []) (gT : mg "_law_take" = some (.ref fT)) :
    FnOk P w K mg base CX0 (k + 2) f fd ["_law_bag_here", "_law_radix"] (spOpd K) := by
  have GT : FnOk P w K mg base CX0 (k + 1) fT fdT ["_law_bag_here", "_law_many"] spTake := ok_take FT
  refine F.ok scOpd (fun vs H Q E h => ?_) (fun cdv A outer s H vs Q E hr h => ?_)
  · obtain ⟨b, n, m, rfl, _⟩ := h
    rfl
  · obtain ⟨b, n, m, rfl, B, hn, hm, hm2, q⟩ := h
    refine ⟨_, pss_cons (ps_set (i := 2) scOpd.nd rfl (.inl rfl) (pe_call GT hr (by rfl) gT FT.kp bT .nil pass0 (pa_cons (pv 0) (pa_cons (pv 1) pa_nil))))
      (pss_one (ps_ret (pe_ix ix_list (pe_lst (pa_cons pe_str (pa_cons pe_str (pa_cons (pv 2) pa_nil)))) (pe_call GT hr (by rfl) gT FT.kp bT .nil pass0 (pa_cons (pv 0) (pa_cons pe_int pa_nil))) (fun _ _ => rfl)))), ?_⟩
    refine ⟨.ref b, rfl, .int m, rfl, b, n, m, rfl, B, by omega, hm, hm2, fun r H1 r0 r1 B1 s1 => ?_⟩
    refine ⟨.int r, rfl, (by show 3 ≤ sizeLine; decide), fun l hl => ?_⟩
    refine ⟨.ref b, rfl, b, n + 1, 3, rfl, B1.new hl, by omega, by decide, by decide, fun j H2 j0 j1 B2 s2 => ?_⟩
    have sx : SameX b H H2 := s1.trans ((SameX.new hl).trans s2)
    have hL : SqL K H2 l [.str "x", .str "y", .int r] := SqL.of (s2 _ _ (B1.ne hl) upd_same)
    rcases (by omega : j = 0 ∨ j = 1 ∨ j = 2) with rfl | rfl | rfl
    · exact ⟨l, _, 0, _, rfl, rfl, hL, atI_nat (j := 0) rfl, q _ .x H2 trivial (.str _) B2 sx⟩
    · exact ⟨l, _, 1, _, rfl, rfl, hL, atI_nat (j := 1) rfl, q _ .y H2 trivial (.str _) B2 sx⟩
    · exact ⟨l, _, 2, _, rfl, rfl, hL, atI_nat (j := 2) rfl, q _ (.n r) H2 ⟨r0, r1⟩ (.int _) B2 sx⟩
def spExp (K : PySem.W.Frag) : Sp := fun vs H Q _ => ∃ (b : Addr) (n : Nat) (m : Int), vs = [.ref b, .int m] ∧ Bag H b n ∧ n ≤ 800000 ∧ 1 ≤ m ∧ m ≤ 1000 ∧ ∀ (v : V) (o : Ex) H', o.ok m → Dt K H' v o.d → Bag H' b (n + 6) → SameX b H H' → Q v H'
theorem ok_exp {f fT fO : Addr} {fd fdT fdO : FuncData} {k : Nat} (F : Fun K "_law_expression" "_law_expression" sExp f fd) (FT : Fun K "_law_take" "_law_take" sTake fT fdT) (bT : Binds K fdT ["_law_bag_here", "_law_many"] []) (gT : mg "_law_take" = some (.ref fT))
    (FO : Fun K "_law_operand" "_law_operand" sOpd fO fdO) (bO : Binds K fdO ["_law_bag_here", "_law_radix"] []) (gO : mg "_law_operand" = some (.ref fO)) :
    FnOk P w K mg base CX0 (k + 3) f fd ["_law_bag_here", "_law_radix"] (spExp K) := by
  have GT : FnOk P w K mg base CX0 (k + 2) fT fdT ["_law_bag_here", "_law_many"] spTake := ok_take FT
  have GO : FnOk P w K mg base CX0 (k + 2) fO fdO ["_law_bag_here", "_law_radix"] (spOpd K) := ok_opd FO FT bT gT
  refine F.ok scExp (fun vs H Q E h => ?_) (fun cdv A outer s H vs Q E hr h => ?_)
  · obtain ⟨b, n, m, rfl, _⟩ := h
    rfl
  · obtain ⟨b, n, m, rfl, B, hn, hm, hm2, q⟩ := h
    refine ⟨_, pss_cons (ps_par (i := 2) (j := 3) (by rfl) scExp.nd rfl rfl (by decide) rfl rfl (pa_cons (pe_call GO hr (by rfl) gO FO.kp bO .nil pass0 (pa_cons (pv 0) (pa_cons (pv 1) pa_nil))) (pa_cons (pe_call GO hr (by rfl) gO FO.kp bO .nil pass0 (pa_cons (pv 0) (pa_cons (pv 1) pa_nil))) pa_nil)) (by rfl))
      (pss_cons (ps_set (i := 4) scExp.nd rfl (.inl rfl) (pe_ix ix_list (pe_lst (pa_cons pe_str (pa_cons pe_str (pa_cons pe_str pa_nil)))) (pe_call GT hr (by rfl) gT FT.kp bT .nil pass0 (pa_cons (pv 0) (pa_cons pe_int pa_nil))) (fun _ _ => rfl)))
      (pss_one (ps_ret (pe_ix ix_list (pe_lst (pa_cons (pv 2) (pa_cons (pv 2) (pa_cons (pe_tup (pa_cons (pv 4) (pa_cons (pv 2) (pa_cons (pv 3) pa_nil)))) pa_nil)))) (pe_call GT hr (by rfl) gT FT.kp bT .nil pass0 (pa_cons (pv 0) (pa_cons pe_int pa_nil))) (fun _ _ => rfl))))), ?_⟩
    refine ⟨.ref b, rfl, .int m, rfl, b, n, m, rfl, B, by omega, hm, hm2, fun v1 o1 H1 ok1 d1 B1 s1 => ?_⟩
    refine ⟨.ref b, rfl, .int m, rfl, b, n + 2, m, rfl, B1, by omega, hm, hm2, fun v2 o2 H2 ok2 d2 B2 s2 => ?_⟩
    refine ⟨v1, v2, rfl, (by show 3 ≤ sizeLine; decide), fun l hl => ?_⟩
    refine ⟨.ref b, rfl, b, n + 4, 3, rfl, B2.new hl, by omega, by decide, by decide, fun j H3 j0 j1 B3 s3 => ?_⟩
    have hL : SqL K H3 l [.str "+", .str "-", .str "*"] := SqL.of (s3 _ _ (B2.ne hl) upd_same)
    obtain ⟨z, hz, ha⟩ : ∃ z : Str, (z = "+" ∨ z = "-" ∨ z = "*") ∧ atI [V.str "+", V.str "-", V.str "*"] j = some (.str z) := by
      rcases (by omega : j = 0 ∨ j = 1 ∨ j = 2) with rfl | rfl | rfl
      · exact ⟨_, .inl rfl, atI_nat (j := 0) rfl⟩
      · exact ⟨_, .inr (.inl rfl), atI_nat (j := 1) rfl⟩
      · exact ⟨_, .inr (.inr rfl), atI_nat (j := 2) rfl⟩
    refine ⟨l, _, j, .str z, rfl, rfl, hL, ha, ?_⟩
    refine ⟨v1, rfl, v1, rfl, .str z, rfl, v1, rfl, v2, rfl, (by show 3 ≤ sizeLine; decide), fun t ht => ⟨(by show 3 ≤ sizeLine; decide), fun l2 hl2 => ?_⟩⟩
    have k13 : KeepT K H1 H3 := (keepT_x B1 s2).trans ((keepT_same (same_new hl)).trans (keepT_x (B2.new hl) s3))
    have k23 : KeepT K H2 H3 := (keepT_same (same_new hl)).trans (keepT_x (B2.new hl) s3)
    have e1 := d1.keep k13
    have e2 := d2.keep k23
    have dT : Dt K (upd H3 t (.tup [.str z, v1, v2])) (.ref t) (Ex.t z o1 o2).d := dt_new ht (.cons (.str z) (.cons e1 (.cons e2 .nil)))
    have B4 := (B3.new ht (o := .tup [.str z, v1, v2])).new hl2 (o := .lst [v1, v1, .ref t])
    refine ⟨.ref b, rfl, b, n + 4 + 1, 3, rfl, B4, by omega, by decide, by decide, fun j' H5 j0' j1' B5 s5 => ?_⟩
    have sx : SameX b H H5 := s1.trans (s2.trans ((SameX.new hl).trans (s3.trans ((SameX.new ht).trans ((SameX.new hl2).trans s5)))))
    have k5 : KeepT K (upd H3 t (.tup [.str z, v1, v2])) H5 := (keepT_same (same_new hl2)).trans (keepT_x B4 s5)
    have k35 : KeepT K H3 H5 := (keepT_same (same_new ht)).trans k5
    have hL2 : SqL K H5 l2 [v1, v1, .ref t] := SqL.of (s5 _ _ ((B3.new ht).ne hl2) upd_same)
    rcases (by omega : j' = 0 ∨ j' = 1 ∨ j' = 2) with rfl | rfl | rfl
    · exact ⟨l2, _, 0, _, rfl, rfl, hL2, atI_nat (j := 0) rfl, q _ (.o o1) H5 ok1 (e1.keep k35) B5 sx⟩
    · exact ⟨l2, _, 1, _, rfl, rfl, hL2, atI_nat (j := 1) rfl, q _ (.o o1) H5 ok1 (e1.keep k35) B5 sx⟩
    · exact ⟨l2, _, 2, _, rfl, rfl, hL2, atI_nat (j := 2) rfl, q _ (.t z o1 o2) H5 ⟨hz, ok1, ok2⟩ (dT.keep k5) B5 sx⟩
end
end Kx

namespace Kx
open PySem PySem.Spec PyProof.Rows L2
theorem scRow : FnScope ["_law_bag_here", "_law_radix", "_law_many", "_law_names", "_law_one", "_law_other", "_law_variable", "_law_name", "_law_goal", "_law_cell", "_law_some"] ["_law_bag_here", "_law_radix", "_law_many", "_law_names"] (defScope sRow) := ⟨rfl, rfl, rfl, by decide +kernel, rfl, by decide +kernel, by decide +kernel⟩
section
variable {P : Program} {w : World} {K : PySem.W.Frag} {mg : Str → Option Value} {base : Heap}
def spRow (K : PySem.W.Frag) : Sp := fun vs H Q _ => ∃ (b nn : Addr) (n : Nat) (m k : Int) (N : List Str), vs = [.ref b, .int m, .int k, .ref nn] ∧ Bag H b n ∧ n ≤ 700000 ∧ 1 ≤ m ∧ m ≤ 1000 ∧ 0 ≤ k ∧ k ≤ 900 ∧ nn ≠ b ∧ SqL K H nn (N.map V.str) ∧ 0 < N.length ∧ N.length ≤ 1000 ∧
    ∀ (v : V) (o : Rw) H', o.ok m k N → Dt K H' v o.d → Bag H' b (n + 17) → SameX b H H' → Q v H'
theorem ok_row {f fT fO fE : Addr} {fd fdT fdO fdE : FuncData} {k : Nat} (F : Fun K "_law_row" "_law_row" sRow f fd) (FT : Fun K "_law_take" "_law_take" sTake fT fdT) (bT : Binds K fdT ["_law_bag_here", "_law_many"] []) (gT : mg "_law_take" = some (.ref fT))
    (FO : Fun K "_law_operand" "_law_operand" sOpd fO fdO) (bO : Binds K fdO ["_law_bag_here", "_law_radix"] []) (gO : mg "_law_operand" = some (.ref fO))
    (FE : Fun K "_law_expression" "_law_expression" sExp fE fdE) (bE : Binds K fdE ["_law_bag_here", "_law_radix"] []) (gE : mg "_law_expression" = some (.ref fE)) (ml : mg "len" = none) :
    FnOk P w K mg base CX0 (k + 4) f fd ["_law_bag_here", "_law_radix", "_law_many", "_law_names"] (spRow K) := by
  have GT : FnOk P w K mg base CX0 (k + 3) fT fdT ["_law_bag_here", "_law_many"] spTake := ok_take FT
  have GE : FnOk P w K mg base CX0 (k + 3) fE fdE ["_law_bag_here", "_law_radix"] (spExp K) := ok_exp FE FT bT gT FO bO gO
  refine F.ok scRow (fun vs H Q E h => ?_) (fun cdv A outer s H vs Q E hr h => ?_)
  · obtain ⟨b, nn, n, m, k, N, rfl, _⟩ := h
    rfl
  · obtain ⟨b, nn, n, m, k, N, rfl, B, hn, hm, hm2, hk, hk2, nnb, hN, hN0, hN1, q⟩ := h
    refine ⟨_, pss_cons (ps_par (i := 4) (j := 5) (by rfl) scRow.nd rfl rfl (by decide) rfl rfl (pa_cons (pe_call GE hr (by rfl) gE FE.kp bE .nil pass0 (pa_cons (pv 0) (pa_cons (pv 1) pa_nil))) (pa_cons (pe_call GE hr (by rfl) gE FE.kp bE .nil pass0 (pa_cons (pv 0) (pa_cons (pv 1) pa_nil))) pa_nil)) (by rfl))
      (pss_cons (ps_par (i := 6) (j := 7) (by rfl) scRow.nd rfl rfl (by decide) rfl rfl (pa_cons (pe_ix ix_list (pe_lst (pa_cons pe_str (pa_cons pe_str pa_nil))) (pe_call GT hr (by rfl) gT FT.kp bT .nil pass0 (pa_cons (pv 0) (pa_cons pe_int pa_nil))) (fun _ _ => rfl)) (pa_cons (pe_ix ix_list (pv 3) (pe_call GT hr (by rfl) gT FT.kp bT .nil pass0 (pa_cons (pv 0) (pa_cons (pe_callB call_len_seq (by rfl) ml PySem.boot_len (pa_cons (pv 3) pa_nil)) pa_nil))) (fun _ _ => rfl)) pa_nil)) (by rfl))
      (pss_cons (ps_par (i := 8) (j := 9) (by rfl) scRow.nd rfl rfl (by decide) rfl rfl (pa_cons (pe_call GT hr (by rfl) gT FT.kp bT .nil pass0 (pa_cons (pv 0) (pa_cons (pe_op op_add (pv 2) pe_int) pa_nil))) (pa_cons (pe_call GT hr (by rfl) gT FT.kp bT .nil pass0 (pa_cons (pv 0) (pa_cons pe_int pa_nil))) pa_nil)) (by rfl))
      (pss_cons (ps_set (i := 10) scRow.nd rfl (.inl rfl) (pe_lst (pa_cons (pe_tup (pa_cons pe_str (pa_cons (pv 4) pa_nil))) (pa_cons (pe_tup (pa_cons pe_str (pa_cons (pv 6) pa_nil))) (pa_cons (pe_tup (pa_cons pe_str (pa_cons (pv 4) pa_nil))) (pa_cons (pe_tup (pa_cons pe_str (pa_cons (pv 6) pa_nil))) (pa_cons (pe_tup (pa_cons pe_str (pa_cons (pv 6) (pa_cons (pv 4) pa_nil)))) pa_nil)))))))
      (pss_cons (ps_set (i := 10) scRow.nd rfl (.inl rfl) (pe_op op_cat (pv 10) (pe_lst (pa_cons (pe_tup (pa_cons pe_str (pa_cons (pv 4) (pa_cons (pv 5) (pa_cons (pv 8) pa_nil))))) (pa_cons (pe_tup (pa_cons pe_str (pa_cons (pv 9) (pa_cons (pv 6) pa_nil)))) (pa_cons (pe_tup (pa_cons pe_str (pa_cons (pv 9) (pa_cons (pv 4) pa_nil)))) (pa_cons (pe_tup (pa_cons pe_str (pa_cons (pv 8) pa_nil))) pa_nil)))))))
      (pss_one (ps_ret (pe_ix ix_list (pe_op op_cat (pv 10) (pe_lst (pa_cons (pe_tup (pa_cons pe_str (pa_cons (pv 7) (pa_cons (pv 4) (pa_cons (pv 6) pa_nil))))) (pa_cons (pe_tup (pa_cons pe_str (pa_cons (pv 4) pa_nil))) (pa_cons (pe_tup (pa_cons pe_str (pa_cons (pv 4) (pa_cons (pv 5) (pa_cons (pv 8) pa_nil))))) pa_nil))))) (pe_call GT hr (by rfl) gT FT.kp bT .nil pass0 (pa_cons (pv 0) (pa_cons pe_int pa_nil))) (fun _ _ => rfl)))))))), ?_⟩
    refine ⟨.ref b, rfl, .int m, rfl, b, n, m, rfl, B, by omega, hm, hm2, fun v1 o1 H1 ok1 d1 B1 s1 => ?_⟩
    refine ⟨.ref b, rfl, .int m, rfl, b, n + 6, m, rfl, B1, by omega, hm, hm2, fun v2 o2 H2 ok2 d2 B2 s2 => ?_⟩
    refine ⟨v1, v2, rfl, (by show 2 ≤ sizeLine; decide), fun l hl => ?_⟩
    refine ⟨.ref b, rfl, b, n + 12, 2, rfl, B2.new hl, by omega, by decide, by decide, fun j H3 j0 j1 B3 s3 => ?_⟩
    have hL : SqL K H3 l [.str "x", .str "y"] := SqL.of (s3 _ _ (B2.ne hl) upd_same)
    obtain ⟨z, hz, ha⟩ : ∃ z : Str, vok z ∧ atI [V.str "x", V.str "y"] j = some (.str z) := by
      rcases (by omega : j = 0 ∨ j = 1) with rfl | rfl
      · exact ⟨_, .inl rfl, atI_nat (j := 0) rfl⟩
      · exact ⟨_, .inr rfl, atI_nat (j := 1) rfl⟩
    refine ⟨l, _, j, .str z, rfl, rfl, hL, ha, ?_⟩
    have x3 : SameX b H H3 := s1.trans (s2.trans ((SameX.new hl).trans s3))
    have hN3 := x3.seq nnb hN
    refine ⟨.ref nn, rfl, .ref b, rfl, .ref nn, rfl, nn, _, rfl, .inl hN3, b, n + 13, _, rfl, B3, by omega, ?_, ?_, fun j2 H4 j20 j21 B4 s4 => ?_⟩
    · rw [List.length_map]
      omega
    · rw [List.length_map]
      omega
    obtain ⟨nm, hnm, ha2⟩ : ∃ nm : Str, nm ∈ N ∧ atI (N.map V.str) j2 = some (.str nm) := by
      rw [List.length_map] at j21
      obtain ⟨i, rfl⟩ : ∃ i : Nat, j2 = i := ⟨j2.toNat, by omega⟩
      have hi : i < N.length := by omega
      exact ⟨N[i], List.getElem_mem hi, atI_nat (by rw [List.getElem?_map, List.getElem?_eq_getElem hi]; rfl)⟩
    refine ⟨nn, _, j2, .str nm, rfl, rfl, s4.seq nnb hN3, ha2, .str z, .str nm, rfl, ?_⟩
    refine ⟨.ref b, rfl, .int k, rfl, k, 1, rfl, rfl, b, n + 14, k + 1, rfl, B4, by omega, by omega, by omega, fun g H5 g0 g1 B5 s5 => ?_⟩
    refine ⟨.ref b, rfl, b, n + 15, 2, rfl, B5, by omega, by decide, by decide, fun c H6 c0 c1 B6 s6 => ?_⟩
    have k13 : KeepT K H2 H3 := (keepT_same (same_new hl)).trans (keepT_x (B2.new hl) s3)
    have k36 : KeepT K H3 H6 := (keepT_x B3 s4).trans ((keepT_x B4 s5).trans (keepT_x B5 s6))
    have x6 : SameX b H H6 := x3.trans (s4.trans (s5.trans s6))
    have e1 : Dt K H6 v1 o1.d := d1.keep ((keepT_x B1 s2).trans (k13.trans k36))
    have e2 : Dt K H6 v2 o2.d := d2.keep (k13.trans k36)
    refine ⟨.int g, .int c, rfl, ?_⟩
    refine ⟨v1, rfl, (by show 2 ≤ sizeLine; decide), fun t1 h1 => ?_⟩
    refine ⟨.str z, rfl, (by show 2 ≤ sizeLine; decide), fun t2 h2 => ?_⟩
    refine ⟨v1, rfl, (by show 2 ≤ sizeLine; decide), fun t3 h3 => ?_⟩
    refine ⟨.str z, rfl, (by show 2 ≤ sizeLine; decide), fun t4 h4 => ?_⟩
    refine ⟨.str z, rfl, v1, rfl, (by show 3 ≤ sizeLine; decide), fun t5 h5 => ?_⟩
    refine ⟨(by show 5 ≤ sizeLine; decide), fun l1 hl1 => ?_⟩
    refine ⟨.ref l1, rfl, v1, rfl, v2, rfl, .int g, rfl, (by show 4 ≤ sizeLine; decide), fun t6 h6 => ?_⟩
    refine ⟨.int c, rfl, .str z, rfl, (by show 3 ≤ sizeLine; decide), fun t7 h7 => ?_⟩
    refine ⟨.int c, rfl, v1, rfl, (by show 3 ≤ sizeLine; decide), fun t8 h8 => ?_⟩
    refine ⟨.int g, rfl, (by show 2 ≤ sizeLine; decide), fun t9 h9 => ?_⟩
    refine ⟨(by show 4 ≤ sizeLine; decide), fun l2 hl2 => ?_⟩
    have L1 := (same_new hl2 (o := .lst [.ref t6, .ref t7, .ref t8, .ref t9])) l1 _ ((same_new h9 (o := .tup [.str "go", .int g])) l1 _ ((same_new h8 (o := .tup [.str "write", .int c, v1])) l1 _ ((same_new h7 (o := .tup [.str "read", .int c, .str z])) l1 _ ((same_new h6 (o := .tup [.str "if", v1, v2, .int g])) l1 _ (upd_same (o := HO.lst [.ref t1, .ref t2, .ref t3, .ref t4, .ref t5]))))))
    refine ⟨l1, l2, _, _, rfl, rfl, L1, upd_same, (by show 9 ≤ sizeLine; decide), fun p1 hp1 => ?_⟩
    refine ⟨.ref p1, rfl, .str nm, rfl, v1, rfl, .str z, rfl, (by show 4 ≤ sizeLine; decide), fun t10 h10 => ?_⟩
    refine ⟨v1, rfl, (by show 2 ≤ sizeLine; decide), fun t11 h11 => ?_⟩
    refine ⟨v1, rfl, v2, rfl, .int g, rfl, (by show 4 ≤ sizeLine; decide), fun t12 h12 => ?_⟩
    refine ⟨(by show 3 ≤ sizeLine; decide), fun l3 hl3 => ?_⟩
    have L2 := (same_new hl3 (o := .lst [.ref t10, .ref t11, .ref t12])) p1 _ ((same_new h12 (o := .tup [.str "if", v1, v2, .int g])) p1 _ ((same_new h11 (o := .tup [.str "end", v1])) p1 _ ((same_new h10 (o := .tup [.str "call", .str nm, v1, .str z])) p1 _ (upd_same (o := HO.lst [.ref t1, .ref t2, .ref t3, .ref t4, .ref t5, .ref t6, .ref t7, .ref t8, .ref t9])))))
    refine ⟨p1, l3, _, _, rfl, rfl, L2, upd_same, (by show 12 ≤ sizeLine; decide), fun p2 hp2 => ?_⟩
    have S1 := same_new h1 (o := .tup [.str "say", v1])
    have S2 := same_new h2 (o := .tup [.str "ask", .str z])
    have S3 := same_new h3 (o := .tup [.str "say", v1])
    have S4 := same_new h4 (o := .tup [.str "ask", .str z])
    have S5 := same_new h5 (o := .tup [.str "set", .str z, v1])
    have S6 := same_new hl1 (o := .lst [.ref t1, .ref t2, .ref t3, .ref t4, .ref t5])
    have S7 := same_new h6 (o := .tup [.str "if", v1, v2, .int g])
    have S8 := same_new h7 (o := .tup [.str "read", .int c, .str z])
    have S9 := same_new h8 (o := .tup [.str "write", .int c, v1])
    have S10 := same_new h9 (o := .tup [.str "go", .int g])
    have S11 := same_new hl2 (o := .lst [.ref t6, .ref t7, .ref t8, .ref t9])
    have S12 := same_new hp1 (o := .lst [.ref t1, .ref t2, .ref t3, .ref t4, .ref t5, .ref t6, .ref t7, .ref t8, .ref t9])
    have S13 := same_new h10 (o := .tup [.str "call", .str nm, v1, .str z])
    have S14 := same_new h11 (o := .tup [.str "end", v1])
    have S15 := same_new h12 (o := .tup [.str "if", v1, v2, .int g])
    have S16 := same_new hl3 (o := .lst [.ref t10, .ref t11, .ref t12])
    have S17 := same_new hp2 (o := .lst [.ref t1, .ref t2, .ref t3, .ref t4, .ref t5, .ref t6, .ref t7, .ref t8, .ref t9, .ref t10, .ref t11, .ref t12])
    have R16 := S17
    have R15 := S16.trans R16
    have R14 := S15.trans R15
    have R13 := S14.trans R14
    have R12 := S13.trans R13
    have R11 := S12.trans R12
    have R10 := S11.trans R11
    have R9 := S10.trans R10
    have R8 := S9.trans R9
    have R7 := S8.trans R8
    have R6 := S7.trans R7
    have R5 := S6.trans R6
    have R4 := S5.trans R5
    have R3 := S4.trans R4
    have R2 := S3.trans R3
    have R1 := S2.trans R2
    have R0 := S1.trans R1
    have B7 := B6.same R0
    refine ⟨.ref b, rfl, b, n + 16, 12, rfl, B7, by omega, by decide, by decide, fun x Hf x0 x1 Bf sf => ?_⟩
    have kf := keepT_x (K := K) B7 sf
    have sx : SameX b H Hf := x6.trans ((Same.x R0).trans sf)
    have f1 := e1.keep ((keepT_same R0).trans kf)
    have f2 := e2.keep ((keepT_same R0).trans kf)
    have hP : SqL K Hf p2 [.ref t1, .ref t2, .ref t3, .ref t4, .ref t5, .ref t6, .ref t7, .ref t8, .ref t9, .ref t10, .ref t11, .ref t12] := SqL.of (sf _ _ (Bag.ne (B6.same (S1.trans (S2.trans (S3.trans (S4.trans (S5.trans (S6.trans (S7.trans (S8.trans (S9.trans (S10.trans (S11.trans (S12.trans (S13.trans (S14.trans (S15.trans (S16))))))))))))))))) hp2) upd_same)
    rcases (by omega : x = 0 ∨ x = 1 ∨ x = 2 ∨ x = 3 ∨ x = 4 ∨ x = 5 ∨ x = 6 ∨ x = 7 ∨ x = 8 ∨ x = 9 ∨ x = 10 ∨ x = 11) with rfl | rfl | rfl | rfl | rfl | rfl | rfl | rfl | rfl | rfl | rfl | rfl
    · exact ⟨p2, _, 0, _, rfl, rfl, hP, atI_nat (j := 0) rfl, q _ (.say o1) Hf ok1 (.tup (kf _ _ (SqT.of (R1 t1 _ upd_same))) (.cons (.str _) (.cons f1 .nil))) Bf sx⟩
    · exact ⟨p2, _, 1, _, rfl, rfl, hP, atI_nat (j := 1) rfl, q _ (.ask z) Hf hz (.tup (kf _ _ (SqT.of (R2 t2 _ upd_same))) (.cons (.str _) (.cons (.str _) .nil))) Bf sx⟩
    · exact ⟨p2, _, 2, _, rfl, rfl, hP, atI_nat (j := 2) rfl, q _ (.say o1) Hf ok1 (.tup (kf _ _ (SqT.of (R3 t3 _ upd_same))) (.cons (.str _) (.cons f1 .nil))) Bf sx⟩
    · exact ⟨p2, _, 3, _, rfl, rfl, hP, atI_nat (j := 3) rfl, q _ (.ask z) Hf hz (.tup (kf _ _ (SqT.of (R4 t4 _ upd_same))) (.cons (.str _) (.cons (.str _) .nil))) Bf sx⟩
    · exact ⟨p2, _, 4, _, rfl, rfl, hP, atI_nat (j := 4) rfl, q _ (.set z o1) Hf ⟨hz, ok1⟩ (.tup (kf _ _ (SqT.of (R5 t5 _ upd_same))) (.cons (.str _) (.cons (.str _) (.cons f1 .nil)))) Bf sx⟩
    · exact ⟨p2, _, 5, _, rfl, rfl, hP, atI_nat (j := 5) rfl, q _ (.iff o1 o2 g) Hf ⟨ok1, ok2, g0, by omega⟩ (.tup (kf _ _ (SqT.of (R7 t6 _ upd_same))) (.cons (.str _) (.cons f1 (.cons f2 (.cons (.int _) .nil))))) Bf sx⟩
    · exact ⟨p2, _, 6, _, rfl, rfl, hP, atI_nat (j := 6) rfl, q _ (.read c z) Hf ⟨by omega, hz⟩ (.tup (kf _ _ (SqT.of (R8 t7 _ upd_same))) (.cons (.str _) (.cons (.int _) (.cons (.str _) .nil)))) Bf sx⟩
    · exact ⟨p2, _, 7, _, rfl, rfl, hP, atI_nat (j := 7) rfl, q _ (.write c o1) Hf ⟨by omega, ok1⟩ (.tup (kf _ _ (SqT.of (R9 t8 _ upd_same))) (.cons (.str _) (.cons (.int _) (.cons f1 .nil)))) Bf sx⟩
    · exact ⟨p2, _, 8, _, rfl, rfl, hP, atI_nat (j := 8) rfl, q _ (.go g) Hf ⟨g0, by omega⟩ (.tup (kf _ _ (SqT.of (R10 t9 _ upd_same))) (.cons (.str _) (.cons (.int _) .nil))) Bf sx⟩
    · exact ⟨p2, _, 9, _, rfl, rfl, hP, atI_nat (j := 9) rfl, q _ (.call nm o1 z) Hf ⟨hnm, ok1, hz⟩ (.tup (kf _ _ (SqT.of (R13 t10 _ upd_same))) (.cons (.str _) (.cons (.str _) (.cons f1 (.cons (.str _) .nil))))) Bf sx⟩
    · exact ⟨p2, _, 10, _, rfl, rfl, hP, atI_nat (j := 10) rfl, q _ (.fin o1) Hf ok1 (.tup (kf _ _ (SqT.of (R14 t11 _ upd_same))) (.cons (.str _) (.cons f1 .nil))) Bf sx⟩
    · exact ⟨p2, _, 11, _, rfl, rfl, hP, atI_nat (j := 11) rfl, q _ (.iff o1 o2 g) Hf ⟨ok1, ok2, g0, by omega⟩ (.tup (kf _ _ (SqT.of (R15 t12 _ upd_same))) (.cons (.str _) (.cons f1 (.cons f2 (.cons (.int _) .nil))))) Bf sx⟩
end
end Kx

namespace Kx
open PySem PySem.Spec PyProof.Rows L2
theorem scText : FnScope ["_law_bag_here", "_law_radix", "_law_most", "_law_names", "_law_many", "_law_k"] ["_law_bag_here", "_law_radix", "_law_most", "_law_names"] (defScope sText) := ⟨rfl, rfl, rfl, by decide +kernel, rfl, by decide +kernel, by decide +kernel⟩
section
variable {P : Program} {w : World} {K : PySem.W.Frag} {mg : Str → Option Value} {base : Heap}
def spText (K : PySem.W.Frag) : Sp := fun vs H Q _ => ∃ (b nn : Addr) (n : Nat) (m : Int) (k : Nat) (N : List Str), vs = [.ref b, .int m, .int k, .ref nn] ∧ Bag H b n ∧ n ≤ 100000 ∧ 1 ≤ m ∧ m ≤ 1000 ∧ k ≤ 900 ∧ nn ≠ b ∧ SqL K H nn (N.map V.str) ∧ 0 < N.length ∧ N.length ≤ 1000 ∧
    ∀ (v : V) (t : List Rw) H', t.length ≤ k → Tx.ok m N t → Dt K H' v (Tx.d t) → Bag H' b (n + 1 + 17 * k) → SameX b H H' → Q v H'
theorem ok_text {f fT fO fE fR : Addr} {fd fdT fdO fdE fdR : FuncData} {k : Nat} (F : Fun K "_law_text" "_law_text" sText f fd) (FT : Fun K "_law_take" "_law_take" sTake fT fdT) (bT : Binds K fdT ["_law_bag_here", "_law_many"] []) (gT : mg "_law_take" = some (.ref fT))
    (FO : Fun K "_law_operand" "_law_operand" sOpd fO fdO) (bO : Binds K fdO ["_law_bag_here", "_law_radix"] []) (gO : mg "_law_operand" = some (.ref fO))
    (FE : Fun K "_law_expression" "_law_expression" sExp fE fdE) (bE : Binds K fdE ["_law_bag_here", "_law_radix"] []) (gE : mg "_law_expression" = some (.ref fE)) (ml : mg "len" = none)
    (FR : Fun K "_law_row" "_law_row" sRow fR fdR) (bR : Binds K fdR ["_law_bag_here", "_law_radix", "_law_many", "_law_names"] []) (gR : mg "_law_row" = some (.ref fR)) (mt : mg "tuple" = none) (mr : mg "range" = none) :
    FnOk P w K mg base CX0 (k + 5) f fd ["_law_bag_here", "_law_radix", "_law_most", "_law_names"] (spText K) := by
  have GT : FnOk P w K mg base CX0 (k + 4) fT fdT ["_law_bag_here", "_law_many"] spTake := ok_take FT
  have GR : FnOk P w K mg base CX0 (k + 4) fR fdR ["_law_bag_here", "_law_radix", "_law_many", "_law_names"] (spRow K) := ok_row FR FT bT gT FO bO gO FE bE gE ml
  refine F.ok scText (fun vs H Q E h => ?_) (fun cdv A outer s H vs Q E hr h => ?_)
  · obtain ⟨b, nn, n, m, k, N, rfl, _⟩ := h
    rfl
  · obtain ⟨b, nn, n, m, k, N, rfl, B, hn, hm, hm2, hk, nnb, hN, hN0, hN1, q⟩ := h
    refine ⟨_, pss_cons (ps_set (i := 4) scText.nd rfl (.inr rfl) (pe_call GT hr (by rfl) gT FT.kp bT .nil pass0 (pa_cons (pv 0) (pa_cons (pe_op op_add (pv 2) pe_int) pa_nil))))
      (pss_one (ps_ret (pe_callTy call_tuple_of (by rfl) mt (by decide +kernel) (pa_cons
        (pe_lc (own := [("_law_k", 5)]) (g := gName 5) (tt := tYes) (by rfl) scText.nd (pi_range1 (by rfl) mr (pa_cons (pv 4) pa_nil)) (blkOk_by (N := ["_law_bag_here", "_law_radix", "_law_most", "_law_names", "_law_many", "_law_k"]) (sc := defScope sText) (by decide +kernel))
          (fun _ _ _ _ _ => pg_name (i := 5) scText.nd rfl (Or.inl rfl)) (fun _ _ _ _ _ => pts_nil)
          (fun _ _ _ _ _ => pe_call GR hr (by rfl) gR FR.kp bR .nil pass0 (pa_cons (pv 0) (pa_cons (pv 1) (pa_cons (pv 4) (pa_cons (pv 3) pa_nil)))))) pa_nil)))), ?_⟩
    refine ⟨.ref b, rfl, .int k, rfl, k, 1, rfl, rfl, b, n, k + 1, rfl, B, by omega, by omega, by omega, fun r H1 r0 r1 B1 s1 => ?_⟩
    obtain ⟨c, rfl⟩ : ∃ c : Nat, r = c := ⟨r.toNat, by omega⟩
    refine ⟨.int c, rfl, c, rfl, by omega, by omega, fun D hD => ?_⟩
    refine lc_range (lo := 0) (n := c) (fun i H' => ∃ (xs : List V) (t : List Rw), H' D = some (.lst xs) ∧ xs.length = i ∧ t.length = i ∧ (∀ r ∈ t, r.ok m c N) ∧ DtAll K H' xs (t.map Rw.d) ∧ Bag H' b (n + 1 + 17 * i) ∧ SameX b H1 H')
      ⟨[], [], upd_same, rfl, rfl, (fun r hr => by cases hr), .nil, B1.new hD, SameX.new hD⟩ (fun i H2 hi p => ?_) (fun H2 p => ?_)
    · obtain ⟨xs, t, hx, lx, lt, ok, dt, B2, s2⟩ := p
      have x2 : SameX b H H2 := s1.trans s2
      refine ⟨rfl, ?_⟩
      refine ⟨.ref b, rfl, .int m, rfl, .int c, rfl, .ref nn, rfl, b, nn, n + 1 + 17 * i, m, c, N, rfl, B2, by omega, hm, hm2, by omega, by omega, nnb, x2.seq nnb hN, hN0, hN1, fun v o H3 ok3 d3 B3 s3 => ?_⟩
      have nD : D ≠ b := B1.ne hD
      have hx3 := s3 _ _ nD hx
      have k3 : KeepT K H3 (upd H3 D (.lst (xs ++ [v]))) := fun a ys h => by
        rcases h with (h | ⟨o, h⟩) | h
        · exact .inl (.inl (by rw [upd_ne (show a ≠ D from ne_of h hx3 (by intro z; cases z))]; exact h))
        · exact .inl (.inr ⟨o, by rw [upd_ne (show a ≠ D from ne_of h hx3 (by intro z; cases z))]; exact h⟩)
        · exact .inr h
      refine ⟨xs, hx3, ?_, xs ++ [v], t ++ [o], upd_same, by rw [List.length_append, lx]; rfl, by rw [List.length_append, lt]; rfl, fun r hr => ?_, ?_, ?_, fun a u na e => ?_⟩
      · exact small1000 (by omega)
      · rcases List.mem_append.mp hr with z | z
        · exact ok r z
        · rw [List.mem_singleton.mp z]
          exact ok3
      · rw [List.map_append]
        exact DtAll.app ((dt.keep ((keepT_x B2 s3))).keep k3) (.cons (d3.keep k3) .nil)
      · obtain ⟨d', x', c', e', r'⟩ := B3
        exact ⟨d', x', c', by rw [upd_ne nD.symm]; exact e', r'.1, r'.2.1, r'.2.2.1, by omega⟩
      · have naD : a ≠ D := ne_of_none e hD
        rw [upd_ne naD]
        exact s3 _ _ na (s2 _ _ na e)
    · obtain ⟨xs, t, hx, lx, lt, ok, dt, B2, s2⟩ := p
      refine ⟨D, xs, rfl, .inl ⟨SqL.of hx, fun l hl => ?_⟩⟩
      exact q _ t _ (by omega) (fun r hr => by rw [lt]; exact ok r hr) (dt_new hl dt) ((B2.new hl).mono (by omega)) (s1.trans (s2.trans (SameX.new hl)))
end
end Kx

namespace Kx
open PySem PySem.Spec PyProof.Rows L2
abbrev sSil : Stmt := topS 2
abbrev sStands : Stmt := topS 3
abbrev sLstands : Stmt := topS 11
theorem scSil : FnScope ["text", "row"] ["text", "row"] (defScope sSil) := ⟨rfl, rfl, rfl, by decide +kernel, rfl, by decide +kernel, by decide +kernel⟩
theorem scLst : FnScope ["_law_rows", "_law_radix", "_law_found", "_law_at", "_law_k"] ["_law_rows", "_law_radix"] (defScope sLstands) := ⟨rfl, rfl, rfl, by decide +kernel, rfl, by decide +kernel, by decide +kernel⟩
section
variable {P : Program} {w : World} {K : PySem.W.Frag} {mg : Str → Option Value} {base : Heap}
def SilK (K : PySem.W.Frag) (p : Addr) : Prop := ∀ H, SqT K H p [.str "set", .str "if", .str "go"]
def spSil (K : PySem.W.Frag) : Sp := fun vs H Q _ => ∃ (v : V) (t : List Rw) (i : Nat), vs = [v, .int i] ∧ Dt K H v (Tx.d t) ∧ i ≤ t.length ∧ Q (.bl (silentAt t i)) H
theorem ok_sil {f pS : Addr} {fd : FuncData} {k : Nat} (F : Fun K "is_silent" "is_silent" sSil f fd) (ml : mg "len" = none) (gS : mg "SILENT" = some (.ref pS)) (hS : SilK K pS) : FnOk P w K mg base CX0 (k + 1) f fd ["text", "row"] (spSil K) := by
  refine F.ok scSil (fun vs H Q E h => ?_) (fun cdv A outer s H vs Q E hr h => ?_)
  · obtain ⟨v, t, i, rfl, _⟩ := h
    rfl
  · obtain ⟨v, t, i, rfl, hd, hi, q⟩ := h
    obtain ⟨a, xs, rfl, hx, lx, rows⟩ := dt_text hd
    refine ⟨_, pss_one (ps_ret (pe_and (pe_cmpR op_lt (pv 1) (pe_callB call_len_seq (by rfl) ml PySem.boot_len (pa_cons (pv 0) pa_nil)) (nomark _))
      (pe_one (pe_cmpR op_in_seq (pe_ix ix_tup (pe_ix ix_tup (pv 0) (pv 1) (fun _ _ => rfl)) pe_int (fun _ _ => rfl)) (pe_glob (v := .ref pS) rfl gS rfl) (by rfl))))), ?_⟩
    refine ⟨.int i, rfl, .ref a, rfl, a, xs, rfl, .inr hx, i, xs.length, rfl, rfl, _, rfl, ?_⟩
    by_cases h : i < t.length
    · rw [decide_eq_true (show (i : Int) < (xs.length : Int) by omega)]
      obtain ⟨p, ys, e1, e2, e3⟩ := rows i t[i] (List.getElem?_eq_getElem h)
      refine iteT ⟨.ref a, rfl, .int i, rfl, a, _, i, .ref p, rfl, rfl, hx, atI_nat e1, p, _, 0, .str (t[i]).w, rfl, rfl, e2, atI_nat (j := 0) rfl, pS, _, rfl, .inr (hS H), rfl, rfl, ?_⟩
      show Q (.bl (inV (.str (t[i]).w) [.str "set", .str "if", .str "go"])) H
      rw [Rw.w_in]
      unfold silentAt at q
      rw [List.getElem?_eq_getElem h] at q
      exact q
    · rw [decide_eq_false (show ¬ (i : Int) < (xs.length : Int) by omega)]
      refine iteF ?_
      unfold silentAt at q
      rw [List.getElem?_eq_none (by omega)] at q
      exact q
def spLst (K : PySem.W.Frag) : Sp := fun vs H Q _ => ∃ (v : V) (t : List Rw) (b : Nat), vs = [v, .int b] ∧ Dt K H v (Tx.d t) ∧ t.length ≤ 100 ∧ (b = 2 ∨ b = 3 ∨ b = 4) ∧ ∀ p xs H', H p = none → H' p = some (.lst xs) → DtAll K H' xs (stands t b (t.length + 1)) → Same H H' → Q (.ref p) H'
theorem ok_lst {f : Addr} {fd : FuncData} {k : Nat} (F : Fun K "_law_stands" "_law_stands" sLstands f fd) (ml : mg "len" = none) (mr : mg "range" = none) : FnOk P w K mg base CX0 (k + 1) f fd ["_law_rows", "_law_radix"] (spLst K) := by
  refine F.ok scLst (fun vs H Q E h => ?_) (fun cdv A outer s H vs Q E hr h => ?_)
  · obtain ⟨v, t, b, rfl, _⟩ := h
    rfl
  · obtain ⟨v, t, b, rfl, hd, lt, hb, q⟩ := h
    obtain ⟨a, xs, rfl, hx, lx, rows⟩ := dt_text hd
    refine ⟨_, pss_cons (ps_set (i := 2) scLst.nd rfl (.inl rfl) (pe_lst pa_nil))
      (pss_cons (ps_for PassesOwn.never rfl (pi_range1 (by rfl) mr (pa_cons (pe_op op_add (pe_callB call_len_seq (by rfl) ml PySem.boot_len (pa_cons (pv 0) pa_nil)) pe_int) pa_nil)) (pg_name (i := 3) scLst.nd rfl (.inr rfl))
        (pss_one (ps_if (PW.pt (pw_or (pt_cmpR op_eq (pv 3) (pe_callB call_len_seq (by rfl) ml PySem.boot_len (pa_cons (pv 0) pa_nil)) (nomark _)) (pw_or1 (pt_cmpR op_notIn_seq (pe_ix ix_tup (pe_ix ix_tup (pv 0) (pv 3) (fun _ _ => rfl)) pe_int (fun _ _ => rfl)) (pe_tup (pa_cons pe_str (pa_cons pe_str (pa_cons pe_str pa_nil)))) (by rfl)))))
          (pss_one (ps_expr (pe_bm PySem.F.plainAttrs_list PySem.F.slot_list_extend PySem.F.type_list_extend mt_extend (pv 2) (pa_cons
            (pe_lc (own := [("_law_k", 4)]) (g := gName 4) (tt := tYes) (by rfl) scLst.nd (pi_range1 (by rfl) mr (pa_cons (pe_op op_mul (pv 1) (pv 1)) pa_nil)) (blkOk_by (N := ["_law_rows", "_law_radix", "_law_found", "_law_at", "_law_k"]) (sc := defScope sLstands) (by decide +kernel))
              (fun _ _ _ _ _ => pg_name (i := 4) scLst.nd rfl (Or.inl rfl)) (fun _ _ _ _ _ => pts_nil)
              (fun _ _ _ _ _ => pe_tup (pa_cons (pv 3) (pa_cons (pe_op op_fdiv (pv 4) (pv 1)) (pa_cons (pe_op op_mod (pv 4) (pv 1)) pa_nil))))) pa_nil)))) pss_nil)))
      (pss_one (ps_ret (pv 2)))), ?_⟩
    refine ⟨Nat.zero_le _, fun p hp => ?_⟩
    refine ⟨.ref a, rfl, a, xs, rfl, .inr ((keepT_same (same_new hp)) _ _ hx), _, 1, rfl, rfl, _, rfl, by omega, by omega, ?_⟩
    refine for_range (lo := 0) (n := xs.length + 1) (fun i σ H' => ∃ y3, σ = [some (.ref a), some (.int b), some (.ref p), y3, none] ∧ ∃ zs, H' p = some (.lst zs) ∧ DtAll K H' zs (stands t b i) ∧ Same H H')
      ⟨none, rfl, [], upd_same, .nil, same_new hp⟩ ?_ ?_
    · rintro i σ H2 hi ⟨y3, rfl, zs, hz, dz, s2⟩
      have hx2 := keepT_same (K := K) s2 _ _ hx
      refine (fun (mid : ∀ H3, Same H H3 → H3 p = some (.lst zs) → DtAll K H3 zs (stands t b i) → silentAt t i = false → (?T : Hp → Prop) H3) => ?main) ?midp
      case main =>
        refine ⟨_, rfl, .ref a, rfl, a, xs, rfl, .inr hx2, rfl, _, rfl, ite2 (fun e => ?_) (fun e => ?_)⟩
        · have e1 : (0 + (i : Int)) = (xs.length : Int) := V.int.inj (of_decide_eq_true e)
          exact mid H2 s2 hz dz (by unfold silentAt; rw [List.getElem?_eq_none (by omega)])
        · have ne : i ≠ xs.length := fun z => e (decide_eq_true (by rw [z, Int.zero_add]))
          have hlt : i < t.length := by omega
          obtain ⟨pr, ys, r1, r2, r3⟩ := rows i t[i] (List.getElem?_eq_getElem hlt)
          refine ⟨.ref a, rfl, _, rfl, a, _, (0 + (i : Int)), .ref pr, rfl, rfl, hx2, (by rw [Int.zero_add]; exact atI_nat r1), pr, _, 0, .str (t[i]).w, rfl, rfl, keepT_same s2 _ _ r2, atI_nat (j := 0) rfl, (by show 3 ≤ sizeLine; decide), fun q3 n3 => ?_⟩
          refine ⟨q3, _, rfl, .inr (SqT.of upd_same), rfl, rfl, _, rfl, ite2 (fun e2 => ?_) (fun e2 => ?_)⟩
          · have e3 : (!inV (.str (t[i]).w) [.str "set", .str "if", .str "go"]) = true := e2
            rw [Rw.w_in] at e3
            have s3 := s2.trans (same_new n3 (o := .tup [.str "set", .str "if", .str "go"]))
            have s23 := same_new n3 (o := .tup [.str "set", .str "if", .str "go"])
            revert s3 s23
            generalize upd H2 q3 (.tup [.str "set", .str "if", .str "go"]) = H3
            intro s3 s23
            exact mid H3 s3 (s23 _ _ hz) (dz.keep (keepT_same s23)) (by unfold silentAt; rw [List.getElem?_eq_getElem hlt]; simpa using e3)
          · have e3 : ¬ (!inV (.str (t[i]).w) [.str "set", .str "if", .str "go"]) = true := e2
            rw [Rw.w_in] at e3
            have s23 := same_new n3 (o := .tup [.str "set", .str "if", .str "go"])
            have sl : silentAt t i = true := by unfold silentAt; rw [List.getElem?_eq_getElem hlt]; simpa using e3
            exact ⟨_, rfl, zs, s23 _ _ hz, by rw [stands_succ, if_pos sl]; exact dz.keep (keepT_same s23), s2.trans s23⟩
      case midp =>
        intro H3 s3 hz3 dz3 sl
        refine ⟨.ref p, rfl, .inl ⟨rfl, _, SqL.of hz3⟩, .int b, rfl, .int b, rfl, b, b, rfl, rfl, .inl ⟨by omega, by omega⟩, _, rfl, ?_, ?_, fun D hD => ?_⟩
        · rcases hb with rfl | rfl | rfl <;> decide
        · rcases hb with rfl | rfl | rfl <;> decide
        have pD : p ≠ D := ne_of_none hz3 hD
        refine lc_range (lo := 0) (n := b * b) (fun j H' => ∃ us, H' D = some (.lst us) ∧ us.length = j ∧ DtAll K H' us (flat b i j) ∧ Same H3 H') ⟨[], upd_same, rfl, .nil, same_new hD⟩ (fun j H4 hj pj => ?_) (fun H4 pj => ?_)
        · obtain ⟨us, hu, lu, du, s4⟩ := pj
          have b0 : (0 : Int) < b := by omega
          refine ⟨rfl, _, rfl, _, rfl, .int b, rfl, (0 + (j : Int)), b, rfl, rfl, ⟨b0, by omega⟩, _, rfl, .int b, rfl, (0 + (j : Int)), b, rfl, rfl, b0, (by show 3 ≤ sizeLine; decide), fun T nT => ?_⟩
          have s45 := same_new nT (o := .tup [.int (0 + (i : Int)), .int ((0 + (j : Int)) / (b : Int)), .int ((0 + (j : Int)) % (b : Int))])
          have hu5 := s45 _ _ hu
          have dT : Dt K (upd H4 T (.tup [.int (0 + (i : Int)), .int ((0 + (j : Int)) / (b : Int)), .int ((0 + (j : Int)) % (b : Int))])) (.ref T) (stD i (j / b) (j % b)) := by
            have z := dt_new (K := K) nT (xs := [.int (0 + (i : Int)), .int ((0 + (j : Int)) / (b : Int)), .int ((0 + (j : Int)) % (b : Int))]) (ds := [.int (0 + (i : Int)), .int ((0 + (j : Int)) / (b : Int)), .int ((0 + (j : Int)) % (b : Int))]) (.cons (.int _) (.cons (.int _) (.cons (.int _) .nil)))
            rw [Int.zero_add, Int.zero_add] at z ⊢
            exact z
          have kp := keepT_put (K := K) (ys := us ++ [.ref T]) hu5
          refine ⟨us, hu5, small1000 (by rcases hb with rfl | rfl | rfl <;> omega), us ++ [.ref T], upd_same, by rw [List.length_append, lu]; rfl, ?_, same_put hD (s4.trans s45)⟩
          rw [flat_succ]
          exact ((du.keep (keepT_same s45)).keep kp).snoc (dT.keep kp)
        · obtain ⟨us, hu, lu, du, s4⟩ := pj
          have hz4 := s4 _ _ hz3
          have kp := keepT_put (K := K) (ys := zs ++ us) hz4
          have lz := dz3.length
          have l2 := stands_len hb t i
          refine ⟨p, D, zs, us, rfl, rfl, hz4, hu, ?_, _, rfl, zs ++ us, upd_same, ?_, ?_⟩
          · have : b * b ≤ 16 := by rcases hb with rfl | rfl | rfl <;> decide
            exact Nat.le_of_lt (Nat.lt_of_le_of_lt (show zs.length + us.length ≤ 5000 by omega) (by decide))
          · rw [stands_succ, if_neg (by rw [sl]; decide), blk_flat hb]
            exact ((dz3.keep (keepT_same s4)).keep kp).app (du.keep kp)
          · exact same_put hp (s3.trans s4)
    · rintro σ H2 ⟨y3, rfl, zs, hz, dz, s2⟩
      refine ⟨.ref p, rfl, q p zs H2 hp hz ?_ s2⟩
      rw [← lx]
      exact dz
end
end Kx

namespace Kx
open PySem PySem.Spec PyProof.Rows L2
theorem scSo : FnScope ["text", "base", "rows", "row", "x", "y"] ["text", "base"] (defScope sStands) := ⟨rfl, rfl, rfl, by decide +kernel, rfl, by decide +kernel, by decide +kernel⟩
section
variable {P : Program} {w : World} {K : PySem.W.Frag} {mg : Str → Option Value} {base : Heap}
abbrev FnD (K : PySem.W.Frag) (x : Str) (st : Stmt) (kws : List (Str × V)) (f : Addr) (fd : FuncData) : Prop := FunD K x x (defArgs st) (defBody st) (defScope st) [] kws f fd
theorem ok_so {f fS pS : Addr} {fd fdS : FuncData} {k : Nat} (F : FnD K "stands_of" sStands [("base", .int 3)] f fd) (FS : Fun K "is_silent" "is_silent" sSil fS fdS) (bS : Binds K fdS ["text", "row"] []) (gS : mg "is_silent" = some (.ref fS)) (ml : mg "len" = none) (mr : mg "range" = none)
    (gP : mg "SILENT" = some (.ref pS)) (hS : SilK K pS) : FnOk P w K mg base CX0 (k + 2) f fd ["text", "base"] (spLst K) := by
  have GS : FnOk P w K mg base CX0 (k + 1) fS fdS ["text", "row"] (spSil K) := ok_sil FS ml gP hS
  refine F.ok scSo (fun vs H Q E h => ?_) (fun cdv A outer s H vs Q E hr h => ?_)
  · obtain ⟨v, t, b, rfl, _⟩ := h
    rfl
  · obtain ⟨v, t, b, rfl, hd, lt, hb, q⟩ := h
    obtain ⟨a, xs, rfl, hx, lx, rows⟩ := dt_text hd
    refine ⟨_, PSs.nox (pss_cons (ps_setLc (i := 2) (own := [("row", 3)]) (g := gName 3) (by rfl) scSo.nd rfl rfl (sw_true rfl rfl rfl (by decide +kernel)) (pi_range1 (by rfl) mr (pa_cons (pe_op op_add (pe_callB call_len_seq (by rfl) ml PySem.boot_len (pa_cons (pv 0) pa_nil)) pe_int) pa_nil)) (blkOk_by (N := ["text", "base", "rows", "row", "x", "y"]) (sc := defScope sStands) (by decide +kernel))
          (fun _ _ _ _ _ => pg_name (i := 3) scSo.nd rfl (Or.inl rfl)) (fun _ _ _ _ _ => pts_one (pt_not (pt_val (pe_call GS hr (by rfl) gS FS.kp bS .nil pass0 (pa_cons (pv 0) (pa_cons (pv 3) pa_nil))))))
          (fun _ _ _ _ _ => pv 3))
      (pss_one (ps_ret (pe_lc3 (own := [("row", 3), ("x", 4), ("y", 5)]) (vs1 := [4, 5]) (vs2 := [5]) (g := gName 3) (g1 := gName 4) (g2 := gName 5) (by rfl) scSo.nd (pi_list (pv 2)) (blkOk_by (N := ["text", "base", "rows", "row", "x", "y"]) (sc := defScope sStands) (by decide +kernel)) (by decide) (by decide)
          (fun _ _ _ _ _ => pg_name (i := 3) scSo.nd rfl (Or.inl rfl))
          (fun _ _ _ _ _ => pi_range1 (by rfl) mr (pa_cons (pv 1) pa_nil)) (fun _ _ _ _ _ => pg_name (i := 4) scSo.nd rfl (Or.inl rfl))
          (fun _ _ _ _ _ => pi_range1 (by rfl) mr (pa_cons (pv 1) pa_nil)) (fun _ _ _ _ _ => pg_name (i := 5) scSo.nd rfl (Or.inl rfl))
          (fun _ _ _ _ _ => pe_tup (pa_cons (pv 3) (pa_cons (pv 4) (pa_cons (pv 5) pa_nil)))))))), ?_⟩
    refine ⟨.ref a, rfl, a, xs, rfl, .inr hx, _, 1, rfl, rfl, _, rfl, by omega, by omega, fun p hp => ?_⟩
    refine lc_range (lo := 0) (n := xs.length + 1) (fun i H' => H' p = some (.lst ((loud t i).map fun (r : Nat) => V.int r)) ∧ Same H H') ⟨upd_same, same_new hp⟩ (fun i H2 hi pi => ?_) (fun H2 pi => ?_)
    · obtain ⟨hz, s2⟩ := pi
      refine ⟨rfl, .ref a, rfl, _, rfl, .ref a, t, i, (by rw [Int.zero_add]; rfl), hd.keep (keepT_same s2), by omega, _, rfl, ?_⟩
      cases sl : silentAt t i with
      | true =>
        refine iteF ⟨?_, s2⟩
        rw [loud_succ, if_pos sl]
        exact hz
      | false =>
        refine iteT ⟨_, rfl, _, hz, ?_, ?_, same_put hp s2⟩
        · rw [List.length_map]
          have : (loud t i).length ≤ i := by
            unfold loud
            exact Nat.le_trans (List.length_filter_le _ _) (by rw [List.length_range]; exact Nat.le_refl _)
          exact small1000 (by omega)
        · rw [upd_same, loud_succ, if_neg (by rw [sl]; decide), List.map_append, Int.zero_add]
          rfl
    · obtain ⟨hz, s2⟩ := pi
      generalize hn : xs.length + 1 = n at hz
      refine ⟨.ref p, rfl, p, rfl, ⟨_, SqL.of hz⟩, fun D hD => ?_⟩
      have pD : p ≠ D := ne_of_none hz hD
      refine lc3_list (K := K) (a := p) (xs := (loud t n).map fun (r : Nat) => V.int r) (fun i H' => ∃ us, H' D = some (.lst us) ∧ DtAll K H' us (((loud t n).take i).flatMap fun r => blk b r b) ∧ Same H2 H') ⟨[], upd_same, .nil, same_new hD⟩ (fun i H' _ ⟨us, _, _, s3⟩ => SqL.of (s3 _ _ hz)) (fun i x H3 hx3 pi => ?_) (fun H3 pi => ?_)
      · obtain ⟨us, hu, du, s3⟩ := pi
        obtain ⟨r, hr1, rfl⟩ : ∃ r, (loud t n)[i]? = some r ∧ x = V.int r := by
          rw [List.getElem?_map] at hx3
          cases e : (loud t n)[i]? with
          | none => rw [e] at hx3; cases hx3
          | some r => rw [e] at hx3; cases hx3; exact ⟨r, rfl, rfl⟩
        have il : i < (loud t n).length := (List.getElem?_eq_some_iff.mp hr1).1
        have ln : (loud t n).length ≤ n := by
          unfold loud
          exact Nat.le_trans (List.length_filter_le _ _) (by rw [List.length_range]; exact Nat.le_refl _)
        generalize hpre : (((loud t n).take i).flatMap fun r => blk b r b) = pre at du
        have lp : pre.length ≤ 16 * i := by
          rw [← hpre]
          have : ∀ l : List Nat, (l.flatMap fun r => blk b r b).length ≤ 16 * l.length := fun l => by
            induction l with
            | nil => exact Nat.zero_le _
            | cons c l ih =>
              rw [List.flatMap_cons, List.length_append, blk_len hb, List.length_cons]
              have : b * b ≤ 16 := by rcases hb with rfl | rfl | rfl <;> decide
              omega
          exact Nat.le_trans (this _) (by rw [List.length_take]; omega)
        refine ⟨rfl, .int b, rfl, b, rfl, by omega, by omega, ?_⟩
        refine cl_range (n := b) (fun x H' => ∃ us, H' D = some (.lst us) ∧ DtAll K H' us (pre ++ blk b r x) ∧ Same H2 H') ⟨us, hu, by rw [show blk b r 0 = [] from rfl, List.append_nil]; exact du, s3⟩ (fun x H4 hx4 px => ?_) (fun H4 px => ?_)
        · obtain ⟨us, hu, du, s4⟩ := px
          refine ⟨rfl, .int b, rfl, b, rfl, by omega, by omega, ?_⟩
          refine cl_range (n := b) (fun y H' => ∃ us, H' D = some (.lst us) ∧ DtAll K H' us (pre ++ blk b r x ++ line b r x y) ∧ Same H2 H') ⟨us, hu, by rw [show line b r x 0 = [] from rfl, List.append_nil]; exact du, s4⟩ (fun y H5 hy5 py => ?_) (fun H5 py => ?_)
          · obtain ⟨us, hu, du, s5⟩ := py
            refine ⟨rfl, .int r, rfl, _, rfl, _, rfl, (by show 3 ≤ sizeLine; decide), fun T nT => ?_⟩
            have s56 := same_new nT (o := .tup [.int (r : Int), .int (0 + (x : Int)), .int (0 + (y : Int))])
            have hu6 := s56 _ _ hu
            have dT : Dt K (upd H5 T (.tup [.int (r : Int), .int (0 + (x : Int)), .int (0 + (y : Int))])) (.ref T) (stD r x y) := by
              have z := dt_new (K := K) nT (xs := [.int (r : Int), .int (0 + (x : Int)), .int (0 + (y : Int))]) (ds := [.int (r : Int), .int (0 + (x : Int)), .int (0 + (y : Int))]) (.cons (.int _) (.cons (.int _) (.cons (.int _) .nil)))
              rw [Int.zero_add, Int.zero_add] at z ⊢
              exact z
            have kp := keepT_put (K := K) (ys := us ++ [.ref T]) hu6
            refine ⟨us, hu6, ?_, us ++ [.ref T], upd_same, ?_, same_put hD (s5.trans s56)⟩
            · have l1 := du.length
              have l2 : (blk b r x).length ≤ 16 := by
                have : ∀ m, (blk b r m).length = b * m := fun m => by
                  induction m with
                  | zero => rfl
                  | succ m ih =>
                    rw [blk_succ, List.length_append, ih]
                    unfold line
                    rw [List.length_map, List.length_range]
                    rfl
                rw [this]
                rcases hb with rfl | rfl | rfl <;> omega
              have l3 : (line b r x y).length = y := by
                unfold line
                rw [List.length_map, List.length_range]
              rw [List.length_append, List.length_append] at l1
              exact Nat.lt_of_le_of_lt (show us.length ≤ 5000 by omega) (by decide)
            · rw [line_succ, ← List.append_assoc]
              exact ((du.keep (keepT_same s56)).keep kp).snoc (dT.keep kp)
          · obtain ⟨us, hu, du, s5⟩ := py
            exact ⟨us, hu, by rw [blk_succ, ← List.append_assoc]; exact du, s5⟩
        · obtain ⟨us, hu, du, s4⟩ := px
          refine ⟨us, hu, ?_, s4⟩
          rw [List.take_add_one, hr1, List.flatMap_append, hpre]
          simpa using du
      · obtain ⟨us, hu, du, s3⟩ := pi
        refine q D us H3 ?_ hu ?_ (s2.trans s3)
        · exact s2.free hD
        · rw [List.length_map, List.take_length] at du
          rw [← lx, hn]
          exact du
end
end Kx

namespace Kx
open PySem PySem.Spec PyProof.Rows L2
theorem text_le : ∀ (ts : List Str) (k : Nat) (acc : Str), (textFrom k acc ts).length ≤ acc.length + piled ts
  | [], k, acc => Nat.le_add_right _ _
  | t :: ts, k, acc => by
    have ih := text_le ts (k + 1) (acc ++ (if k > 0 then ", " else "" : String) ++ t)
    rw [strLen_append, strLen_append] at ih
    rw [piled_cons]
    show (textFrom (k + 1) (acc ++ (if k > 0 then ", " else "" : String) ++ t) ts).length ≤ _
    refine Nat.le_trans ih ?_
    have : (Str.ofString (if k > 0 then ", " else "")).length ≤ 2 := by split <;> decide
    omega
theorem list_le (ts : List Str) : (listText ts).length ≤ piled ts + 2 := by
  unfold listText
  rw [strLen_append]
  have h := text_le ts 0 "["
  have h1 : (Str.ofString "[").length = 1 := by decide
  have h2 : (Str.ofString "]").length = 1 := by decide
  rw [h1] at h
  rw [h2]
  omega
def Elt (d : PyData) : Prop := d.showable = true ∧ d.hasDict = false ∧ d.depth ≤ 3 ∧ d.shown.length ≤ 20
def Fine (d : PyData) : Prop := d.showable = true ∧ d.hasDict = false ∧ d.depth ≤ 60 ∧ d.shown.length ≤ sizeLine
theorem fine_list {ds : List PyData} (h : ∀ d ∈ ds, Elt d) (n : ds.length ≤ 10000) : Fine (.list ds) := by
  have a : PyData.showableAll ds = true ∧ PyData.hasDictAll ds = false ∧ PyData.depthAll ds ≤ 3 ∧ piled (PyData.shownAll ds) ≤ 22 * ds.length := by
    clear n
    induction ds with
    | nil => exact ⟨rfl, rfl, Nat.zero_le _, Nat.le_refl _⟩
    | cons d ds ih =>
      obtain ⟨a1, a2, a3, a4⟩ := ih fun x hx => h x (List.mem_cons_of_mem _ hx)
      obtain ⟨b1, b2, b3, b4⟩ := h d (List.mem_cons_self ..)
      refine ⟨?_, ?_, ?_, ?_⟩
      · simp only [PyData.showableAll, a1, b1, Bool.and_self]
      · simp only [PyData.hasDictAll, a2, b2, Bool.or_self]
      · simp only [PyData.depthAll]
        omega
      · simp only [PyData.shownAll, piled_cons, List.length_cons]
        omega
  obtain ⟨a1, a2, a3, a4⟩ := a
  refine ⟨?_, ?_, ?_, ?_⟩
  · simp only [PyData.showable]
    exact a1
  · simp only [PyData.hasDict]
    exact a2
  · simp only [PyData.depth]
    omega
  · simp only [PyData.shown]
    have := list_le (PyData.shownAll ds)
    exact Nat.le_trans this (Nat.le_trans (show piled (PyData.shownAll ds) + 2 ≤ 300000 by omega) (by decide))
theorem elt_none : Elt .none := by
  refine ⟨rfl, rfl, Nat.zero_le _, ?_⟩
  decide +kernel
theorem elt_all : ∀ r, r < 18 → ∀ x, x < 4 → ∀ y, y < 4 → (stD r x y).shown.length ≤ 20 := by decide +kernel
theorem elt_st {r x y : Nat} (hr : r < 18) (hx : x < 4) (hy : y < 4) : Elt (stD r x y) := by
  refine ⟨?_, rfl, ?_, elt_all r hr x hx y hy⟩
  · have big : ∀ n : Nat, n < 200 → decide ((n : Int).natAbs.log2 < 1920) = true := by decide +kernel
    simp only [stD, PyData.showable, PyData.showableAll, big r (by omega), big x (by omega), big y (by omega), Bool.and_self]
  · simp only [stD, PyData.depth, PyData.depthAll]
    omega
theorem elt_stands {t : List Rw} {b : Nat} (hb : b = 2 ∨ b = 3 ∨ b = 4) (ht : t.length ≤ 16) : ∀ d ∈ stands t b (t.length + 1), Elt d := by
  intro d hd
  unfold stands at hd
  obtain ⟨r, hr, hd⟩ := List.mem_flatMap.mp hd
  unfold blk at hd
  obtain ⟨x, hx, hd⟩ := List.mem_flatMap.mp hd
  unfold line at hd
  obtain ⟨y, hy, rfl⟩ := List.mem_map.mp hd
  unfold loud at hr
  have h1 := List.mem_range.mp (List.mem_filter.mp hr).1
  have h2 := List.mem_range.mp hx
  have h3 := List.mem_range.mp hy
  exact elt_st (by omega) (by omega) (by omega)
/-- the lists that the law holds, with their texts; none of them is the list that holds them -/
def Held (K : PySem.W.Frag) (h : Addr) (H : Hp) (hs : List V) : Prop := ∀ v ∈ hs, ∃ (p l : Addr) (ys : List V) (ds : List PyData), v = .ref p ∧ l ≠ h ∧ H p = some (.tup [.ref l, .str (PyData.list ds).shown]) ∧ H l = some (.lst ys) ∧ DtAll K H ys ds ∧ Fine (.list ds)
theorem keepT_l {K : PySem.W.Frag} {H H' : Hp} {b : Addr} {zs : List V} (B : H b = some (.lst zs)) (s : SameX b H H') : KeepT K H H' := fun a xs h => by
  rcases h with (h | ⟨o, h⟩) | h
  · exact .inl (.inl (s _ _ (ne_of h B (by intro z; cases z)) h))
  · exact .inl (.inr ⟨o, s _ _ (ne_of h B (by intro z; cases z)) h⟩)
  · exact .inr h
theorem Held.same {K : PySem.W.Frag} {h : Addr} {H H' : Hp} {hs : List V} (q : Held K h H hs) (s : Same H H') : Held K h H' hs := fun v hv => by
  obtain ⟨p, l, ys, ds, e, n, h1, h2, h3, h4⟩ := q v hv
  exact ⟨p, l, ys, ds, e, n, s _ _ h1, s _ _ h2, h3.keep (keepT_same s), h4⟩
theorem Held.put {K : PySem.W.Frag} {h : Addr} {H : Hp} {hs xs zs : List V} (q : Held K h H hs) (e : H h = some (.lst xs)) : Held K h (upd H h (.lst zs)) hs := fun v hv => by
  obtain ⟨p, l, ys, ds, ev, n, h1, h2, h3, h4⟩ := q v hv
  have np : p ≠ h := ne_of h1 e (by intro z; cases z)
  exact ⟨p, l, ys, ds, ev, n, by rw [upd_ne np]; exact h1, by rw [upd_ne n]; exact h2, h3.keep (keepT_put e), h4⟩
theorem DtAll.rev {K : PySem.W.Frag} {H : Hp} : ∀ {vs : List V} {ds : List PyData}, DtAll K H vs ds → DtAll K H vs.reverse ds.reverse
  | _, _, .nil => .nil
  | _, _, .cons h q => by
    rw [List.reverse_cons, List.reverse_cons]
    exact (DtAll.rev q).snoc h
/-- a new thing b, then what keeps all but b -/
theorem Same.then {b : Addr} {H H1 H2 : Hp} (n : H b = none) (s : Same H H1) (x : SameX b H1 H2) : Same H H2 := fun a o e => x a o (ne_of_none e n) (s a o e)
end Kx

namespace Kx
open PySem PySem.Spec PyProof.Rows L2
abbrev sLaw : Stmt := topS 12
theorem scLaw : FnScope ["_law_script", "_law_held", "_law_at", "_law_bag_here", "_law_radix", "_law_rows", "_law_due", "_law_turn", "_law_found", "_law_told", "_law_text_here"] ["_law_script"] (defScope sLaw) := ⟨rfl, rfl, rfl, by decide +kernel, rfl, by decide +kernel, by decide +kernel⟩
section
variable {P : Program} {w : World} {K : PySem.W.Frag} {mg : Str → Option Value} {base : Heap}
theorem kb_so {f : Addr} {fd : FuncData} (F : FnD K "stands_of" sStands [("base", .int 3)] f fd) : KBn K fd ["text", "base"] 1 ["base"] (fun us ws => us ++ ws) (fun vs zs => vs ++ zs) := by
  obtain ⟨oc, od, dV, kV, doc, pm, an, cdv, ct, osl, rfl, lk, hcd, hD, hK⟩ := F.ex
  obtain rfl : dV = .none := by
    rcases hD with ⟨_, e⟩ | ⟨e, _⟩
    · exact e
    · exact absurd rfl e
  obtain ⟨D, rfl⟩ : ∃ D, kV = .ref D := by
    rcases hK with e | ⟨D, e, _⟩
    · cases e
    · exact ⟨D, e⟩
  refine ⟨fun s us ws _ h1 h2 => ?_, fun r1 r2 => r1.append r2⟩
  match us, ws, h1, h2 with
  | [u], [w], _, _ => exact .of_eq rfl
theorem bd_so {f : Addr} {fd : FuncData} (F : FnD K "stands_of" sStands [("base", .int 3)] f fd) : ∃ ds, Vals [.int 3] ds ∧ Binds K fd ["text", "base"] ds := by
  refine F.binds0 (ps := ["text", "base"]) 1 (by simp) rfl fun D doc pm an cdv ct us ks h1 h2 => ?_
  match us, ks, h1, h2 with
  | [u], [v], _, _ => exact ⟨_, _, _, _, _, _, rfl, rfl, rfl⟩
structure Txt (K : PySem.W.Frag) (mg : Str → Option Value) (pS : Addr) : Prop where
  len : mg "len" = none
  abs : mg "abs" = none
  tuple : mg "tuple" = none
  range : mg "range" = none
  max : mg "max" = none
  min : mg "min" = none
  isi : mg "isinstance" = none
  list : mg "list" = none
  repr : mg "repr" = none
  all : mg "all" = none
  gS : mg "SILENT" = some (.ref pS)
  hS : SilK K pS
theorem law_run {f fB fT fO fE fR fX fL fI fS pS : Addr} {fd fdB fdT fdO fdE fdR fdX fdL fdI fdS : FuncData} (F : Fun K "law" "law" sLaw f fd) (T : Txt K mg pS)
    (FB : Fun K "_law_bag" "_law_bag" sBag fB fdB) (bB : Binds K fdB ["_law_script", "_law_at"] []) (gB : mg "_law_bag" = some (.ref fB))
    (FT : Fun K "_law_take" "_law_take" sTake fT fdT) (bT : Binds K fdT ["_law_bag_here", "_law_many"] []) (gT : mg "_law_take" = some (.ref fT))
    (FO : Fun K "_law_operand" "_law_operand" sOpd fO fdO) (bO : Binds K fdO ["_law_bag_here", "_law_radix"] []) (gO : mg "_law_operand" = some (.ref fO))
    (FE : Fun K "_law_expression" "_law_expression" sExp fE fdE) (bE : Binds K fdE ["_law_bag_here", "_law_radix"] []) (gE : mg "_law_expression" = some (.ref fE))
    (FR : Fun K "_law_row" "_law_row" sRow fR fdR) (bR : Binds K fdR ["_law_bag_here", "_law_radix", "_law_many", "_law_names"] []) (gR : mg "_law_row" = some (.ref fR))
    (FX : Fun K "_law_text" "_law_text" sText fX fdX) (bX : Binds K fdX ["_law_bag_here", "_law_radix", "_law_most", "_law_names"] []) (gX : mg "_law_text" = some (.ref fX))
    (FL : Fun K "_law_stands" "_law_stands" sLstands fL fdL) (bL : Binds K fdL ["_law_rows", "_law_radix"] []) (gL : mg "_law_stands" = some (.ref fL))
    (FI : Fun K "is_silent" "is_silent" sSil fI fdI) (bI : Binds K fdI ["text", "row"] []) (gI : mg "is_silent" = some (.ref fI))
    (FS : FnD K "stands_of" sStands [("base", .int 3)] fS fdS) (gS : mg "stands_of" = some (.ref fS))
    {H : Hp} {t : Shared} {a : Addr} {ns : List Int} (hn : ns.length ≤ 63) (env0 : Env0 P w K mg base callerA [] t H) (sq : SqL K H a (ns.map V.int)) :
    codeAny (model P w) callerA (.call (.ref f) ⟨[.ref a], []⟩) (CR CX0 [] P w H t (fun v _ => v = .bl true) fun _ _ _ => False) t := by
  have GB : FnOk P w K mg base CX0 6 fB fdB ["_law_script", "_law_at"] (spBag K) := ok_bag FB T.len T.abs
  have GT : FnOk P w K mg base CX0 6 fT fdT ["_law_bag_here", "_law_many"] spTake := ok_take FT
  have GX : FnOk P w K mg base CX0 6 fX fdX ["_law_bag_here", "_law_radix", "_law_most", "_law_names"] (spText K) := ok_text FX FT bT gT FO bO gO FE bE gE T.len FR bR gR T.tuple T.range
  have GL : FnOk P w K mg base CX0 6 fL fdL ["_law_rows", "_law_radix"] (spLst K) := ok_lst FL T.len T.range
  have GS : FnOk P w K mg base CX0 6 fS fdS ["text", "base"] (spLst K) := ok_so FS FI bI gI T.len T.range T.gS T.hS
  have kb := kb_so FS
  obtain ⟨dd, vd, bd⟩ := bd_so FS
  obtain ⟨oc, od, kV, doc, pm, an, cdv, ct, osl, rfl, lk, hcd⟩ := F.ex
  refine run_at (k := 6) (N := ["_law_script", "_law_held", "_law_at", "_law_bag_here", "_law_radix", "_law_rows", "_law_due", "_law_turn", "_law_found", "_law_told", "_law_text_here"]) (ps := ["_law_script"]) (us := [.ref a]) (vs := [.ref a]) lk hcd scLaw rfl ⟨rfl, by decide, by decide⟩ env0 (.of_eq rfl) (.cons rfl .nil) fun hr => ?_
  have hu := hr.units
  refine ⟨_, PSs.nox (pss_cons (ps_set (i := 1) scLaw.nd rfl (.inl rfl) (pe_lst pa_nil)) (pss_cons (ps_for PassesOwn.never rfl (pi_range1 (by rfl) T.range (pa_cons (pe_callB (call_max2 rfl) (by rfl) T.max (by decide +kernel) (pa_cons pe_int (pa_cons (pe_callB (call_min2 rfl) (by rfl) T.min (by decide +kernel) (pa_cons pe_int (pa_cons (pe_callB call_len_seq (by rfl) T.len PySem.boot_len (pa_cons (pv 0) pa_nil)) pa_nil))) pa_nil))) pa_nil)) (pg_name (i := 2) scLaw.nd rfl (.inl rfl)) (pss_cons (ps_set (i := 3) scLaw.nd rfl (.inl rfl) (pe_call GB hr (by rfl) gB FB.kp bB .nil pass0 (pa_cons (pv 0) (pa_cons (pv 2) pa_nil)))) (pss_cons (ps_set (i := 4) scLaw.nd rfl (.inl rfl) (pe_op op_add pe_int (pe_call GT hr (by rfl) gT FT.kp bT .nil pass0 (pa_cons (pv 3) (pa_cons pe_int pa_nil))))) (pss_cons (ps_set (i := 5) scLaw.nd rfl (.inl rfl) (pe_call GX hr (by rfl) gX FX.kp bX .nil pass0 (pa_cons (pv 3) (pa_cons (pv 4) (pa_cons (pe_ix ix_list (pe_lst (pa_cons pe_int (pa_cons pe_int (pa_cons pe_int pa_nil)))) (pe_call GT hr (by rfl) gT FT.kp bT .nil pass0 (pa_cons (pv 3) (pa_cons pe_int pa_nil))) (fun _ _ => rfl)) (pa_cons (pe_lst (pa_cons pe_str (pa_cons pe_str pa_nil))) pa_nil)))))) (pss_cons (ps_set (i := 6) scLaw.nd rfl (.inl rfl) (pe_call GL hr (by rfl) gL FL.kp bL .nil pass0 (pa_cons (pv 5) (pa_cons (pv 4) pa_nil)))) (pss_one (ps_for PassesOwn.never rfl (pi_range1 (by rfl) T.range (pa_cons pe_int pa_nil)) (pg_name (i := 7) scLaw.nd rfl (.inl rfl)) (pss_cons (ps_set (i := 8) scLaw.nd rfl (.inl rfl) (pe_callN GS hr (by rfl) gS FS.kp kb pass0 (pa_cons (pv 5) pa_nil) (pk_cons (pv 4) pk_nil))) (pss_cons (ps_if (PW.pt (pw_or (pt_not (pt_val (pe_callB call_isi (by rfl) T.isi (by decide +kernel) (pa_cons (pv 8) (pa_cons (pe_bltn (v := .ty "list") (by rfl) T.list (by decide +kernel) rfl) pa_nil))))) (pw_or1 (pt_cmpR op_ne (pe_callB (cr_repr rfl hu) (by rfl) T.repr (by decide +kernel) (pa_cons (pv 8) pa_nil)) (pe_callB (cr_repr rfl hu) (by rfl) T.repr (by decide +kernel) (pa_cons (pv 6) pa_nil)) (nomark _))))) (pss_one (ps_ret pe_bl)) pss_nil) (pss_cons (ps_if (PW.pt (pw_and (pt_cmpR op_eq (pv 4) pe_int (nomark _)) (pw_and1 (pt_cmpR op_ne (pe_callB (cr_repr rfl hu) (by rfl) T.repr (by decide +kernel) (pa_cons (pe_call GS hr (by rfl) gS FS.kp bd vd pass0 (pa_cons (pv 5) pa_nil)) pa_nil)) (pe_callB (cr_repr rfl hu) (by rfl) T.repr (by decide +kernel) (pa_cons (pv 6) pa_nil)) (nomark _))))) (pss_one (ps_ret pe_bl)) pss_nil) (pss_cons (ps_expr (pe_bm PySem.F.plainAttrs_list PySem.F.slot_list_append PySem.F.type_list_append mt_append (pv 8) (pa_cons pe_non pa_nil))) (pss_cons (ps_expr (pe_bm0 PySem.F.plainAttrs_list PySem.F.slot_list_reverse PySem.F.type_list_reverse mt_reverse (pv 8))) (pss_one (ps_expr (pe_bm PySem.F.plainAttrs_list PySem.F.slot_list_append PySem.F.type_list_append mt_append (pv 1) (pa_cons (pe_tup (pa_cons (pv 8) (pa_cons (pe_callB (cr_repr rfl hu) (by rfl) T.repr (by decide +kernel) (pa_cons (pv 8) pa_nil)) pa_nil))) pa_nil)))))))))))))))) (pss_one (ps_ret (pe_callB (cr_all (by rfl)) (by rfl) T.all (by decide +kernel) (pa_cons (pe_lc (own := [("_law_told", 9), ("_law_text_here", 10)]) (g := gTup K 2 (gCons (gName 9) (gCons (gName 10) gNil))) (te := tOp rEq (tCB (rRepr K) (tCons (tVar 9) tNil)) (tVar 10)) (tt := tYes) (by rfl) scLaw.nd (pi_list (pv 1)) (blkOk_by (N := ["_law_script", "_law_held", "_law_at", "_law_bag_here", "_law_radix", "_law_rows", "_law_due", "_law_turn", "_law_found", "_law_told", "_law_text_here"]) (sc := defScope sLaw) (by decide +kernel)) (fun _ _ _ _ _ => pg_tup rfl (pgs_cons (pg_name (i := 9) scLaw.nd rfl (Or.inl rfl)) (pgs_cons (pg_name (i := 10) scLaw.nd rfl (Or.inl rfl)) pgs_nil))) (fun _ _ _ _ _ => pts_nil) (fun _ _ _ _ _ => pe_cmpR op_eq (pe_callB (cr_repr rfl hu) (by rfl) T.repr (by decide +kernel) (pa_cons (pv 9) pa_nil)) (pv 10) (nomark _))) pa_nil)))))), ?_⟩
  refine ⟨Nat.zero_le _, fun h hh => ?_⟩
  have s01 : Same H (upd H h (.lst [])) := same_new hh
  obtain ⟨m, hm, hm6⟩ : ∃ m : Nat, (if (if ((ns.map V.int).length : Int) < 6 then ((ns.map V.int).length : Int) else 6) > 2 then (if ((ns.map V.int).length : Int) < 6 then ((ns.map V.int).length : Int) else 6) else 2) = (m : Int) ∧ m ≤ 6 := by
    refine ⟨(if (if ((ns.map V.int).length : Int) < 6 then ((ns.map V.int).length : Int) else 6) > 2 then (if ((ns.map V.int).length : Int) < 6 then ((ns.map V.int).length : Int) else 6) else 2).toNat, ?_, ?_⟩ <;> split <;> split <;> omega
  refine ⟨.ref a, rfl, a, _, rfl, .inl (s01.seq sq), 6, _, rfl, 2, _, rfl, m, congrArg (fun z => [V.int z]) hm, by omega, by omega, ?_⟩
  refine for_range (lo := 0) (n := m) (fun i σ H' => ∃ y2 y3 y4 y5 y6 y7 y8, σ = [some (.ref a), some (.ref h), y2, y3, y4, y5, y6, y7, y8, none, none] ∧ Same H H' ∧ ∃ hs, H' h = some (.lst hs) ∧ hs.length ≤ 2 * i ∧ Held K h H' hs)
    ⟨none, none, none, none, none, none, none, rfl, s01, [], upd_same, Nat.zero_le _, fun v hv => by cases hv⟩ ?_ ?_
  · rintro i σ H1 hi ⟨y2, y3, y4, y5, y6, y7, y8, rfl, s1, hs, hh1, lh, held⟩
    refine ⟨.ref a, rfl, _, rfl, a, ns, i, (by rw [Int.zero_add]; rfl), s1.seq sq, by omega, fun b H2 nb B2 s2 => ?_⟩
    refine ⟨.ref b, rfl, b, 0, 3, rfl, B2, by decide, by decide, by decide, fun r H3 r0 r1 B3 s3 => ?_⟩
    have S3 := Same.then nb s2 s3
    obtain ⟨rb, erb, hrb⟩ : ∃ rb : Nat, 2 + r = (rb : Int) ∧ (rb = 2 ∨ rb = 3 ∨ rb = 4) := ⟨(2 + r).toNat, by omega, by omega⟩
    refine ⟨2, r, rfl, rfl, ?_⟩
    refine ⟨.ref b, rfl, _, rfl, (by show 3 ≤ sizeLine; decide), fun l1 n1 => ?_⟩
    refine ⟨.ref b, rfl, b, 0 + 1, 3, rfl, B3.new n1, by decide, by decide, by decide, fun j H4 j0 j1 B4 s4 => ?_⟩
    have S4 := Same.then nb (S3.trans (same_new n1)) s4
    have hL1 : SqL K H4 l1 [.int 2, .int 8, .int 16] := SqL.of (s4 _ _ (B3.ne n1) upd_same)
    obtain ⟨most, hmost, hj⟩ : ∃ most : Nat, most ≤ 16 ∧ atI [V.int 2, V.int 8, V.int 16] j = some (.int most) := by
      rcases (by omega : j = 0 ∨ j = 1 ∨ j = 2) with rfl | rfl | rfl
      · exact ⟨2, by decide, atI_nat (j := 0) rfl⟩
      · exact ⟨8, by decide, atI_nat (j := 1) rfl⟩
      · exact ⟨16, by decide, atI_nat (j := 2) rfl⟩
    refine ⟨l1, _, j, .int most, rfl, rfl, hL1, hj, (by show 2 ≤ sizeLine; decide), fun l2 n2 => ?_⟩
    refine ⟨b, l2, 0 + 1 + 1, (rb : Int), most, ["f", "g"], (by show [V.ref b, V.int (2 + r), V.int (most : Int), V.ref l2] = _; rw [erb]), B4.new n2, by decide, by omega, by omega, by omega, B4.ne n2, SqL.of upd_same, by decide, by decide, fun v t H6 lt ok d6 B6 s6 => ?_⟩
    have S6 := Same.then nb (S4.trans (same_new n2)) s6
    refine ⟨v, rfl, _, rfl, v, t, rb, (by show [v, V.int (2 + r)] = _; rw [erb]), d6, by omega, hrb, fun pd xs H7 npd hpd dpd s7 => ?_⟩
    have S7 := S6.trans s7
    have lt16 : t.length ≤ 16 := by omega
    have fineD : Fine (.list (stands t rb (t.length + 1))) := fine_list (elt_stands hrb lt16) (Nat.le_trans (stands_len hrb t _) (by omega))
    have pdh : pd ≠ h := fun z => by
      rw [z, S6 _ _ hh1] at npd
      cases npd
    refine ⟨2, rfl, by decide, by decide, ?_⟩
    refine for_range (lo := 0) (n := 2) (fun j σ H' => ∃ y7 y8, σ = [some (.ref a), some (.ref h), some (.int (0 + (i : Int))), some (.ref b), some (.int (2 + r)), some v, some (.ref pd), y7, y8, none, none] ∧ Same H H' ∧ (∃ hs, H' h = some (.lst hs) ∧ hs.length ≤ 2 * i + j ∧ Held K h H' hs) ∧ Dt K H' v (Tx.d t) ∧ H' pd = some (.lst xs) ∧ DtAll K H' xs (stands t rb (t.length + 1)))
      ⟨y7, y8, rfl, s1.trans S7, ⟨hs, S7 _ _ hh1, lh, held.same S7⟩, d6.keep (keepT_same s7), hpd, dpd⟩ ?_ ?_
    · rintro j σ H8 hj ⟨y7, y8, rfl, s8, ⟨hs, hh8, lh, held⟩, d8, hpd8, dpd8⟩
      refine ⟨v, rfl, _, rfl, rfl, rfl, v, t, rb, (by rw [erb]; rfl), d8, by omega, hrb, fun pf fs H9 nf hf df s9 => ?_⟩
      have rD : ∀ {H' : Hp}, Same H8 H' → Dp K H' (.ref pd) (.list (stands t rb (t.length + 1))) := fun s => .lst (SqL.of (s _ _ hpd8)) (dpd8.keep (keepT_same s)).dp
      have rF : Dp K H9 (.ref pf) (.list (stands t rb (t.length + 1))) := .lst (SqL.of hf) df.dp
      refine ⟨.ref pf, rfl, .ref pf, .ty "list", .type "list", .type "list", true, rfl, .ty _, .base (.lst hf), kit_ty (by decide +kernel), true, rfl, iteF ?_⟩
      refine ⟨.ref pf, rfl, pf, _, rfl, rF, fineD.1, fineD.2.1, fineD.2.2.1, fineD.2.2.2, .ref pd, rfl, pd, _, rfl, rD s9, fineD.1, fineD.2.1, fineD.2.2.1, fineD.2.2.2, rfl, _, rfl, ite2 (fun e => ?_) (fun e => ?_)⟩
      · exact absurd e (by simp)
      refine (fun (mid : ∀ H10, Same H9 H10 → (?T : Hp → Prop) H10) => ?main) ?midp
      case main =>
        refine ⟨_, rfl, rfl, _, rfl, ite2 (fun e => ?_) (fun e => ?_)⟩
        · have e3 : 2 + r = 3 := V.int.inj (of_decide_eq_true e)
          have e4 : rb = 3 := by omega
          refine ⟨v, rfl, v, t, rb, (by rw [e4]; rfl), d8.keep (keepT_same s9), by omega, hrb, fun pg gs H10 ng hg dg s10 => ?_⟩
          have rG : Dp K H10 (.ref pg) (.list (stands t rb (t.length + 1))) := .lst (SqL.of hg) dg.dp
          refine ⟨pg, _, rfl, rG, fineD.1, fineD.2.1, fineD.2.2.1, fineD.2.2.2, .ref pd, rfl, pd, _, rfl, rD (s9.trans s10), fineD.1, fineD.2.1, fineD.2.2.1, fineD.2.2.2, rfl, _, rfl, ite2 (fun e => ?_) (fun e => ?_)⟩
          · exact absurd e (by simp)
          · exact mid H10 s10
        · exact mid H9 (Same.refl H9)
      case midp =>
        intro H10 s910
        have s10 : Same H8 H10 := s9.trans s910
        have hf10 := s910 _ _ hf
        have df10 := df.keep (keepT_same (K := K) s910)
        have lf := df.length
        have lst := stands_len hrb t (t.length + 1)
        refine ⟨.ref pf, rfl, .inl ⟨rfl, _, SqL.of hf10⟩, pf, fs, _, rfl, rfl, hf10, ?_, ?_⟩
        · exact small1000 (by omega)
        have k11 := keepT_put (K := K) (ys := fs ++ [V.non]) hf10
        refine ⟨.ref pf, rfl, .inl ⟨rfl, _, SqL.of upd_same⟩, pf, _, rfl, rfl, upd_same, ?_⟩
        have k12 := keepT_put (K := K) (H := upd H10 pf (.lst (fs ++ [V.non]))) (ys := (fs ++ [V.non]).reverse) upd_same
        have s12 : Same H8 (upd (upd H10 pf (.lst (fs ++ [V.non]))) pf (.lst (fs ++ [V.non]).reverse)) := same_put nf (same_put nf s10)
        have hp12 : (upd (upd H10 pf (.lst (fs ++ [V.non]))) pf (.lst (fs ++ [V.non]).reverse)) pf = some (.lst (fs ++ [V.non]).reverse) := upd_same
        have d12 : DtAll K (upd (upd H10 pf (.lst (fs ++ [V.non]))) pf (.lst (fs ++ [V.non]).reverse)) (fs ++ [V.non]).reverse (stands t rb (t.length + 1) ++ [PyData.none]).reverse := (((df10.keep k11).keep k12).snoc .non).rev
        revert k12 s12 hp12 d12
        generalize upd (upd H10 pf (.lst (fs ++ [V.non]))) pf (.lst (fs ++ [V.non]).reverse) = H12
        intro k12 s12 hp12 d12
        have fineR : Fine (.list (stands t rb (t.length + 1) ++ [PyData.none]).reverse) := fine_list (fun d hd => by
          rcases List.mem_append.mp (List.mem_reverse.mp hd) with z | z
          · exact elt_stands hrb lt16 d z
          · rw [List.mem_singleton.mp z]
            exact elt_none) (by rw [List.length_reverse, List.length_append]; show _ + 1 ≤ 10000; omega)
        have hh12 := s12 _ _ hh8
        refine ⟨.ref h, rfl, .inl ⟨rfl, _, SqL.of hh12⟩, .ref pf, rfl, .ref pf, rfl, pf, _, rfl, .lst (SqL.of hp12) d12.dp, fineR.1, fineR.2.1, fineR.2.2.1, fineR.2.2.2, (by show 2 ≤ sizeLine; decide), fun T nT => ?_⟩
        have s13 := same_new nT (o := .tup [.ref pf, .str (PyData.list (stands t rb (t.length + 1) ++ [PyData.none]).reverse).shown])
        have hT : (upd H12 T (.tup [.ref pf, .str (PyData.list (stands t rb (t.length + 1) ++ [PyData.none]).reverse).shown])) T = some (.tup [.ref pf, .str (PyData.list (stands t rb (t.length + 1) ++ [PyData.none]).reverse).shown]) := upd_same
        revert s13 hT
        generalize upd H12 T (.tup [.ref pf, .str (PyData.list (stands t rb (t.length + 1) ++ [PyData.none]).reverse).shown]) = H13
        intro s13 hT
        have s813 := s12.trans s13
        have hh13 := s813 _ _ hh8
        refine ⟨h, hs, _, rfl, rfl, hh13, small1000 (by omega), _, _, rfl, same_put hh (s8.trans s813), ⟨hs ++ [.ref T], upd_same, by rw [List.length_append]; show _ + 1 ≤ _; omega, ?_⟩, (d8.keep (keepT_same s813)).keep (keepT_put hh13), by rw [upd_ne pdh]; exact s813 _ _ hpd8, (dpd8.keep (keepT_same s813)).keep (keepT_put hh13)⟩
        have npf : pf ≠ h := fun z => by
          rw [z, hh8] at nf
          cases nf
        intro v' hv'
        rcases List.mem_append.mp hv' with z | z
        · exact (held.same s813).put hh13 v' z
        · rw [List.mem_singleton.mp z]
          exact ⟨T, pf, _, _, rfl, npf, by rw [upd_ne (ne_of hT hh13 (by intro z; cases z))]; exact hT, by rw [upd_ne npf]; exact s13 _ _ hp12, (d12.keep (keepT_same s13)).keep (keepT_put hh13), fineR⟩
    · rintro σ H8 ⟨y7, y8, rfl, s8, ⟨hs, hh8, lh, held⟩, _⟩
      exact ⟨_, _, _, _, _, _, _, rfl, s8, hs, hh8, by omega, held⟩
  · rintro σ H1 ⟨y2, y3, y4, y5, y6, y7, y8, rfl, s1, hs, hh1, lh, held⟩
    refine ⟨.ref h, rfl, h, rfl, ⟨_, SqL.of hh1⟩, fun D hD => ?_⟩
    refine lc_list (K := K) (a := h) (xs := hs) (fun i H' => H' D = some (.lst (List.replicate i (.bl true))) ∧ Same H1 H') ⟨upd_same, same_new hD⟩ (fun i H' _ p => SqL.of (p.2 _ _ hh1)) (fun i x H2 hx p => ?_) (fun H2 p => ?_)
    · obtain ⟨hD2, s2⟩ := p
      obtain ⟨pp, l, ys, ds, rfl, nl, h1, h2, h3, h4⟩ := held.same s2 x (List.mem_of_getElem? hx)
      refine ⟨pp, _, rfl, SqT.of h1, rfl, _, _, rfl, _, _, rfl, rfl, rfl, ?_⟩
      refine ⟨.ref l, rfl, l, _, rfl, .lst (SqL.of h2) h3.dp, h4.1, h4.2.1, h4.2.2.1, h4.2.2.2, _, rfl, rfl, _, hD2, ?_, ?_, same_put hD s2⟩
      · rw [List.length_replicate]
        have := (List.getElem?_eq_some_iff.mp hx).1
        exact small1000 (by omega)
      · rw [upd_same, decide_eq_true rfl, ← List.replicate_succ']
    · obtain ⟨hD2, s2⟩ := p
      refine ⟨D, List.replicate hs.length true, rfl, SqL.of (by rw [List.map_replicate]; exact hD2), ?_⟩
      show V.bl ((List.replicate hs.length true).all id) = .bl true
      rw [List.all_replicate]
      simp
end
end Kx

namespace Kx
open PySem PySem.Spec PyProof.Rows L2
theorem all_mk {P : Program} {w : World} {K : PySem.W.Frag} {h : Heap} {mg : Str → Option Value} {fa pS : Addr} {fB fT fO fE fR fX fL fI fW fS DS : Addr} (X : K.In h) (G : h.Ns mainGlobals mg) (hfa : mg "law" = some (.ref fa))
    {odB anB odT anT odO anO odE anE odR anR odX anX odL anL odI anI odW anW odS anS : Option Addr} {slB slT slO slE slR slX slL slI slW slS : Array (Option Value)} {ocB kVB dcB pmB cdB ctB ocT kVT dcT pmT cdT ctT ocO kVO dcO pmO cdO ctO ocE kVE dcE pmE cdE ctE ocR kVR dcR pmR cdR ctR ocX kVX dcX pmX cdX ctX ocL kVL dcL pmL cdL ctL ocI kVI dcI pmI cdI ctI ocW kVW dcW pmW cdW ctW ocS dcS pmS cdS ctS : Value} {oP : Obj} {iP : Array Value} {nP : Nat} {uS : Value}
    (aB : PySem.W.nsIn K mainGlobals "_law_bag" = some (some (.ref fB))) (lB : K.lookup fB = some ⟨ocB, odB, .func (PySem.W.fnOf "_law_bag" "_law_bag" (defArgs sBag) (defBody sBag) (defScope sBag) .none kVB dcB pmB anB cdB ctB), slB⟩) (cB : PySem.W.codeIn K cdB "_law_bag" = true) (kB : PySem.W.keepIn K (.ref fB) = true)
    (aT : PySem.W.nsIn K mainGlobals "_law_take" = some (some (.ref fT))) (lT : K.lookup fT = some ⟨ocT, odT, .func (PySem.W.fnOf "_law_take" "_law_take" (defArgs sTake) (defBody sTake) (defScope sTake) .none kVT dcT pmT anT cdT ctT), slT⟩) (cT : PySem.W.codeIn K cdT "_law_take" = true) (kT : PySem.W.keepIn K (.ref fT) = true)
    (aO : PySem.W.nsIn K mainGlobals "_law_operand" = some (some (.ref fO))) (lO : K.lookup fO = some ⟨ocO, odO, .func (PySem.W.fnOf "_law_operand" "_law_operand" (defArgs sOpd) (defBody sOpd) (defScope sOpd) .none kVO dcO pmO anO cdO ctO), slO⟩) (cO : PySem.W.codeIn K cdO "_law_operand" = true) (kO : PySem.W.keepIn K (.ref fO) = true)
    (aE : PySem.W.nsIn K mainGlobals "_law_expression" = some (some (.ref fE))) (lE : K.lookup fE = some ⟨ocE, odE, .func (PySem.W.fnOf "_law_expression" "_law_expression" (defArgs sExp) (defBody sExp) (defScope sExp) .none kVE dcE pmE anE cdE ctE), slE⟩) (cE : PySem.W.codeIn K cdE "_law_expression" = true) (kE : PySem.W.keepIn K (.ref fE) = true)
    (aR : PySem.W.nsIn K mainGlobals "_law_row" = some (some (.ref fR))) (lR : K.lookup fR = some ⟨ocR, odR, .func (PySem.W.fnOf "_law_row" "_law_row" (defArgs sRow) (defBody sRow) (defScope sRow) .none kVR dcR pmR anR cdR ctR), slR⟩) (cR : PySem.W.codeIn K cdR "_law_row" = true) (kR : PySem.W.keepIn K (.ref fR) = true)
    (aX : PySem.W.nsIn K mainGlobals "_law_text" = some (some (.ref fX))) (lX : K.lookup fX = some ⟨ocX, odX, .func (PySem.W.fnOf "_law_text" "_law_text" (defArgs sText) (defBody sText) (defScope sText) .none kVX dcX pmX anX cdX ctX), slX⟩) (cX : PySem.W.codeIn K cdX "_law_text" = true) (kX : PySem.W.keepIn K (.ref fX) = true)
    (aL : PySem.W.nsIn K mainGlobals "_law_stands" = some (some (.ref fL))) (lL : K.lookup fL = some ⟨ocL, odL, .func (PySem.W.fnOf "_law_stands" "_law_stands" (defArgs sLstands) (defBody sLstands) (defScope sLstands) .none kVL dcL pmL anL cdL ctL), slL⟩) (cL : PySem.W.codeIn K cdL "_law_stands" = true) (kL : PySem.W.keepIn K (.ref fL) = true)
    (aI : PySem.W.nsIn K mainGlobals "is_silent" = some (some (.ref fI))) (lI : K.lookup fI = some ⟨ocI, odI, .func (PySem.W.fnOf "is_silent" "is_silent" (defArgs sSil) (defBody sSil) (defScope sSil) .none kVI dcI pmI anI cdI ctI), slI⟩) (cI : PySem.W.codeIn K cdI "is_silent" = true) (kI : PySem.W.keepIn K (.ref fI) = true)
    (aW : PySem.W.nsIn K mainGlobals "law" = some (some (.ref fW))) (lW : K.lookup fW = some ⟨ocW, odW, .func (PySem.W.fnOf "law" "law" (defArgs sLaw) (defBody sLaw) (defScope sLaw) .none kVW dcW pmW anW cdW ctW), slW⟩) (cW : PySem.W.codeIn K cdW "law" = true) (kW : PySem.W.keepIn K (.ref fW) = true)
    (aS : PySem.W.nsIn K mainGlobals "stands_of" = some (some (.ref fS))) (lS : K.lookup fS = some ⟨ocS, odS, .func (PySem.W.fnOf "stands_of" "stands_of" (defArgs sStands) (defBody sStands) (defScope sStands) .none (.ref DS) dcS pmS anS cdS ctS), slS⟩) (cS : PySem.W.codeIn K cdS "stands_of" = true) (kS : PySem.W.keepIn K (.ref fS) = true) (uS1 : PySem.W.nsIn K DS "base" = some (some uS)) (uS2 : RelV (.int 3) uS)
    (aP : PySem.W.nsIn K mainGlobals "SILENT" = some (some (.ref pS))) (lP : K.lookup pS = some oP) (lP1 : oP.cls = .type "tuple") (lP2 : oP.data = .seq iP nP) (lP3 : iP.size ≤ sizeLine) (lP4 : Vals [.str "set", .str "if", .str "go"] iP.toList)
    (z0 : PySem.W.nsIn K mainGlobals "len" = some none) (z1 : PySem.W.nsIn K mainGlobals "abs" = some none) (z2 : PySem.W.nsIn K mainGlobals "tuple" = some none) (z3 : PySem.W.nsIn K mainGlobals "range" = some none) (z4 : PySem.W.nsIn K mainGlobals "max" = some none) (z5 : PySem.W.nsIn K mainGlobals "min" = some none) (z6 : PySem.W.nsIn K mainGlobals "isinstance" = some none) (z7 : PySem.W.nsIn K mainGlobals "list" = some none) (z8 : PySem.W.nsIn K mainGlobals "repr" = some none) (z9 : PySem.W.nsIn K mainGlobals "all" = some none)
    {bs : Heap} {H : Hp} {t : Shared} {a : Addr} {ns : List Int} (hn : ns.length ≤ 63) (env0 : Env0 P w K mg bs callerA [] t H) (sq : SqL K H a (ns.map V.int)) :
    codeAny (model P w) callerA (.call (.ref fa) ⟨[.ref a], []⟩) (CR CX0 [] P w H t (fun v _ => v = .bl true) fun _ _ _ => False) t := by
  have e := hfa.symm.trans (PySem.W.mg_of X G aW)
  cases e
  have FB := fun_mk (st := sBag) lB cB kB
  have FT := fun_mk (st := sTake) lT cT kT
  have FO := fun_mk (st := sOpd) lO cO kO
  have FE := fun_mk (st := sExp) lE cE kE
  have FR := fun_mk (st := sRow) lR cR kR
  have FX := fun_mk (st := sText) lX cX kX
  have FL := fun_mk (st := sLstands) lL cL kL
  have FI := fun_mk (st := sSil) lI cI kI
  have FW := fun_mk (st := sLaw) lW cW kW
  have bB := FB.binds (ps := ["_law_script", "_law_at"]) fun _ _ _ _ _ _ us hl => match us, hl with | [_, _], _ => rfl
  have bT := FT.binds (ps := ["_law_bag_here", "_law_many"]) fun _ _ _ _ _ _ us hl => match us, hl with | [_, _], _ => rfl
  have bO := FO.binds (ps := ["_law_bag_here", "_law_radix"]) fun _ _ _ _ _ _ us hl => match us, hl with | [_, _], _ => rfl
  have bE := FE.binds (ps := ["_law_bag_here", "_law_radix"]) fun _ _ _ _ _ _ us hl => match us, hl with | [_, _], _ => rfl
  have bR := FR.binds (ps := ["_law_bag_here", "_law_radix", "_law_many", "_law_names"]) fun _ _ _ _ _ _ us hl => match us, hl with | [_, _, _, _], _ => rfl
  have bX := FX.binds (ps := ["_law_bag_here", "_law_radix", "_law_most", "_law_names"]) fun _ _ _ _ _ _ us hl => match us, hl with | [_, _, _, _], _ => rfl
  have bL := FL.binds (ps := ["_law_rows", "_law_radix"]) fun _ _ _ _ _ _ us hl => match us, hl with | [_, _], _ => rfl
  have bI := FI.binds (ps := ["text", "row"]) fun _ _ _ _ _ _ us hl => match us, hl with | [_, _], _ => rfl
  have FS : FnD K "stands_of" sStands [("base", .int 3)] fS _ := ⟨⟨ocS, odS, .none, .ref DS, dcS, pmS, anS, cdS, ctS, slS, rfl, lS, cS, .inl ⟨rfl, rfl⟩, .inr ⟨DS, rfl, fun q hq => by rw [List.mem_singleton.mp hq]; exact ⟨uS, uS1, uS2⟩⟩⟩, kS⟩
  have T : Txt K mg pS := ⟨(PySem.W.mg_none_of X G z0), (PySem.W.mg_none_of X G z1), (PySem.W.mg_none_of X G z2), (PySem.W.mg_none_of X G z3), (PySem.W.mg_none_of X G z4), (PySem.W.mg_none_of X G z5), (PySem.W.mg_none_of X G z6), (PySem.W.mg_none_of X G z7), (PySem.W.mg_none_of X G z8), (PySem.W.mg_none_of X G z9), PySem.W.mg_of X G aP, fun H => .inr ⟨oP, iP, nP, lP, lP1, lP2, lP3, lP4⟩⟩
  exact law_run FW T FB bB (PySem.W.mg_of X G aB) FT bT (PySem.W.mg_of X G aT) FO bO (PySem.W.mg_of X G aO) FE bE (PySem.W.mg_of X G aE) FR bR (PySem.W.mg_of X G aR) FX bX (PySem.W.mg_of X G aX) FL bL (PySem.W.mg_of X G aL) FI bI (PySem.W.mg_of X G aI) FS (PySem.W.mg_of X G aS) hn env0 sq
end Kx
open PySem PySem.W PyProof.Rows
set_option maxHeartbeats 0 in
theorem PySem.Challenge.cw_callsover_k10_stands_listed_holds : PySem.Challenge.rw_callsover_k10_stands_listed.Holds := by
  w_on; o_law; k_head; (case hw => w_witness2)
  k_fill
  refine Kx.walk_at_caller (l := PySem.Challenge.rw_callsover_k10_stands_listed) (n := 63) rfl (by decide) rfl (fun w h Y => PySem.W.kIn_of Y) ?F
  case F =>
    intro w mg fa h KX G hmg bs H t a ns hn _ _ env0 sq
    refine' Kx.all_mk KX G hmg ?aB ?lB ?cB ?kB ?aT ?lT ?cT ?kT ?aO ?lO ?cO ?kO ?aE ?lE ?cE ?kE ?aR ?lR ?cR ?kR ?aX ?lX ?cX ?kX ?aL ?lL ?cL ?kL ?aI ?lI ?cI ?kI ?aW ?lW ?cW ?kW ?aS ?lS ?cS ?kS ?uS1 ?uS2 ?aP ?lP ?lP1 ?lP2 ?lP3 ?lP4 ?z0 ?z1 ?z2 ?z3 ?z4 ?z5 ?z6 ?z7 ?z8 ?z9 hn env0 sq
    (case aB => k_is); (case lB => k_is); (case cB => k_is); (case kB => k_is); (case aT => k_is); (case lT => k_is); (case cT => k_is); (case kT => k_is); (case aO => k_is); (case lO => k_is); (case cO => k_is); (case kO => k_is); (case aE => k_is); (case lE => k_is); (case cE => k_is); (case kE => k_is); (case aR => k_is); (case lR => k_is); (case cR => k_is); (case kR => k_is); (case aX => k_is); (case lX => k_is); (case cX => k_is); (case kX => k_is); (case aL => k_is); (case lL => k_is); (case cL => k_is); (case kL => k_is); (case aI => k_is); (case lI => k_is); (case cI => k_is); (case kI => k_is); (case aW => k_is); (case lW => k_is); (case cW => k_is); (case kW => k_is); (case aS => k_is); (case lS => k_is); (case cS => k_is); (case kS => k_is); (case uS1 => k_is); (case uS2 => exact ⟨_, rfl⟩); (case aP => k_is); (case lP => k_is); (case lP1 => rfl); (case lP2 => rfl); (case lP3 => decide); (case lP4 => exact .cons ⟨_, rfl⟩ (.cons ⟨_, rfl⟩ (.cons ⟨_, rfl⟩ .nil))); (case z0 => k_is); (case z1 => k_is); (case z2 => k_is); (case z3 => k_is); (case z4 => k_is); (case z5 => k_is); (case z6 => k_is); (case z7 => k_is); (case z8 => k_is); (case z9 => k_is)

