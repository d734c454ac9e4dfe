import PyProof.Rows.All
import Wide.All
import OpenK.AllK
import Wide.FinOn
import PyProof.EqAt
import PyProof.EqKinds
import PyProof.TupleCall
import HandS.ForMost
import HandS.IsInst
import HandS.Zip
import HandS.Deep
import HandS.More
import HandS.Wide
import HandS.StrMore
import HandS.Style
import HandS.DictComp
import HandS.Flow
import PyProof.TypeEq
import PyProof.InstEq
import KE.KDictList
import PyProof.ListRange
import PyProof.LongRange
import HandS.Conv
import HandS.Rev
import HandS.Dict
import PyProof.SumAny
import HandS.Sort
import HandS.ListItems
import HandS.SortKw
import KE.KDictCopyH
import KE.DatumOrd
import HandS.DeepEq
import PySem.Challenge.RW_lastcopy_k36_possible_survivor_counts
set_option Elab.async false
set_option linter.all false
set_option maxRecDepth 100000
set_option maxHeartbeats 1000000
namespace Y
open PySem L2

/-! ### canonical readings: what the model itself asks -/
section
variable (X : Cx)
def sE (e : Expr) : TE := fun σ H Q => ∀ pins s, Inv X pins σ H s → wpAny (model X.prog X.w) X.A (eval e X.env) (EP X pins σ Q) X.xe s
def sT (e : Expr) : TT := fun σ H Q => ∀ pins s, Inv X pins σ H s → wpAny (model X.prog X.w) X.A (isTrue e X.env (eval e X.env)) (TP X pins σ Q) X.xe s
def sA (es : List Expr) : TA := fun σ H Q => ∀ pos pins s, Inv X pins σ H s → wpAny (model X.prog X.w) X.A (spliced (backTo pos (starEach es X.env))) (AP X pins σ Q) X.xe s
def sS (st : Stmt) : TS := fun D σ H => ∀ pins s, Inv X pins σ H s → wpAny (model X.prog X.w) X.A (exec st X.env) (SP X pins D) X.xe s
def sB (st : List Stmt) : TS := fun D σ H => ∀ pins s, Inv X pins σ H s → wpAny (model X.prog X.w) X.A (execs st X.env) (SP X pins D) X.xe s
def sG (t : Expr) : TG := fun v σ H Q => ∀ pins s u, Inv X pins σ H s → RelV v u → wpAny (model X.prog X.w) X.A (assign t X.env u) (fun _ s' => ∃ σ' H', Inv X pins σ' H' s' ∧ Q σ' H') X.xe s
end
section
variable {X : Cx} {e : Expr} {es : List Expr} {st : Stmt} {sts : List Stmt}
theorem pe_s : PE X e (sE X e) := ⟨fun pins s _ _ _ I h => h pins s I⟩
theorem pt_s : PT X e (sT X e) := ⟨fun pins s _ _ _ I h => h pins s I⟩
theorem pa_s : PA X es (sA X es) := ⟨fun pos pins s _ _ _ I h => h pos pins s I⟩
theorem ps_s : PS X st (sS X st) := ⟨fun pins s _ _ _ I h => h pins s I⟩
theorem pss_s : PSs X sts (sB X sts) := ⟨fun pins s _ _ _ I h => h pins s I⟩
theorem pg_s : PG X e (sG X e) := ⟨fun pins s _ _ _ u _ I r h => h pins s u I r⟩
theorem e_of {t : TE} {σ : St} {H : Hp} {Q : VK} (h : PE X e t) (q : t σ H Q) : sE X e σ H Q := fun pins s I => h.run pins s σ H Q I q
theorem t_of {t : TT} {σ : St} {H : Hp} {Q : Bool → Hp → Prop} (h : PT X e t) (q : t σ H Q) : sT X e σ H Q := fun pins s I => h.run pins s σ H Q I q
theorem a_of {t : TA} {σ : St} {H : Hp} {Q : List V → Hp → Prop} (h : PA X es t) (q : t σ H Q) : sA X es σ H Q := fun pos pins s I => h.run pos pins s σ H Q I q
theorem s_of {t : TS} {σ : St} {H : Hp} {D : Ends} (h : PS X st t) (q : t D σ H) : sS X st D σ H := fun pins s I => h.run pins s σ H D I q
theorem b_of {t : TS} {σ : St} {H : Hp} {D : Ends} (h : PSs X sts t) (q : t D σ H) : sB X sts D σ H := fun pins s I => h.run pins s σ H D I q
theorem g_of {t : TG} {v : V} {σ : St} {H : Hp} {Q : St → Hp → Prop} (h : PG X e t) (q : t v σ H Q) : sG X e v σ H Q := fun pins s u I r => h.run pins s σ H v u Q I r q
end

/-! ### data, cells -/
def Ex (G G' : Hp) : Prop := ∀ a o, G a = some o → G' a = some o
theorem Ex.refl (G : Hp) : Ex G G := fun _ _ h => h
theorem Ex.trans {A B C : Hp} (a : Ex A B) (b : Ex B C) : Ex A C := fun x o h => b x o (a x o h)
theorem Ex.new {G : Hp} {p : Addr} {o : HO} (h : G p = none) : Ex G (upd G p o) := fun a u e => by
  rw [upd_ne (ne_of_none e h)]
  exact e
def KL (K : PySem.W.Frag) (a : Addr) (xs : List V) : Prop := ∃ (o : Obj) (its : Array Value) (n : Nat), K.lookup a = some o ∧ o.cls = .type "list" ∧ o.dict = none ∧ o.data = .seq its n ∧ its.size ≤ sizeLine ∧ Vals xs its.toList
def kD : Key → PyData
  | .inl i => .int i
  | .inr x => .str x
mutual
inductive At (K : PySem.W.Frag) (G : Hp) : V → PyData → Prop
  | non : At K G .non .none
  | bl (b : Bool) : At K G (.bl b) (.bool b)
  | int (i : Int) : At K G (.int i) (.int i)
  | str (x : Str) : At K G (.str x) (.str x)
  | lst {a : Addr} {xs : List V} {ds : List PyData} : G a = some (.lst xs) → AtL K G xs ds → At K G (.ref a) (.list ds)
  | tup {a : Addr} {xs : List V} {ds : List PyData} : G a = some (.tup xs) → AtL K G xs ds → At K G (.ref a) (.tuple ds)
  | dic {a : Addr} {kvs : List (Key × V)} {ds : List (PyData × PyData)} : G a = some (.dK kvs) → AtK K G kvs ds → At K G (.ref a) (.dict ds)
inductive AtL (K : PySem.W.Frag) (G : Hp) : List V → List PyData → Prop
  | nil : AtL K G [] []
  | cons {v : V} {vs : List V} {d : PyData} {ds : List PyData} : At K G v d → AtL K G vs ds → AtL K G (v :: vs) (d :: ds)
inductive AtK (K : PySem.W.Frag) (G : Hp) : List (Key × V) → List (PyData × PyData) → Prop
  | nil : AtK K G [] []
  | cons {k : Key} {v : V} {kvs : List (Key × V)} {d : PyData} {ds : List (PyData × PyData)} : At K G v d → AtK K G kvs ds → AtK K G ((k, v) :: kvs) ((kD k, d) :: ds)
end
mutual
theorem At.mono {K : PySem.W.Frag} {G G' : Hp} (e : Ex G G') : ∀ {v : V} {d : PyData}, At K G v d → At K G' v d
  | _, _, .non => .non
  | _, _, .bl b => .bl b
  | _, _, .int i => .int i
  | _, _, .str x => .str x
  | _, _, .lst h a => .lst (e _ _ h) (AtL.mono e a)
  | _, _, .tup h a => .tup (e _ _ h) (AtL.mono e a)
  | _, _, .dic h a => .dic (e _ _ h) (AtK.mono e a)
theorem AtL.mono {K : PySem.W.Frag} {G G' : Hp} (e : Ex G G') : ∀ {v : List V} {d : List PyData}, AtL K G v d → AtL K G' v d
  | _, _, .nil => .nil
  | _, _, .cons a b => .cons (At.mono e a) (AtL.mono e b)
theorem AtK.mono {K : PySem.W.Frag} {G G' : Hp} (e : Ex G G') : ∀ {v : List (Key × V)} {d : List (PyData × PyData)}, AtK K G v d → AtK K G' v d
  | _, _, .nil => .nil
  | _, _, .cons a b => .cons (At.mono e a) (AtK.mono e b)
end
/-- a value as a proof sees it: data, a cell, a class, a tuple of such -/
inductive Sl where
  | d (x : PyData) | c (a : Addr) | t (n : String) | u (ss : List Sl) | s (ns : List Int)
inductive Cell where
  | l (ss : List Sl) | k (kvs : List (Key × Sl))
abbrev Cs := Addr → Option Cell
def updC (M : Cs) (a : Addr) (c : Cell) : Cs := fun b => if b = a then some c else M b
def delC (M : Cs) (a : Addr) : Cs := fun b => if b = a then none else M b
theorem updC_same {M : Cs} {a : Addr} {c : Cell} : updC M a c a = some c := by unfold updC; rw [if_pos rfl]
theorem updC_ne {M : Cs} {a b : Addr} {c : Cell} (h : b ≠ a) : updC M a c b = M b := by unfold updC; rw [if_neg h]
theorem updC_updC {M : Cs} {a : Addr} {c c' : Cell} : updC (updC M a c) a c' = updC M a c' := by
  funext b; unfold updC; split <;> rfl
theorem delC_same {M : Cs} {a : Addr} : delC M a a = none := by unfold delC; rw [if_pos rfl]
theorem delC_ne {M : Cs} {a b : Addr} (h : b ≠ a) : delC M a b = M b := by unfold delC; rw [if_neg h]
theorem delC_updC {M : Cs} {a : Addr} {c : Cell} (h : M a = none) : delC (updC M a c) a = M := by
  funext b
  unfold delC updC
  by_cases e : b = a
  · rw [if_pos e, e, h]
  · rw [if_neg e, if_neg e]
theorem neC {M : Cs} {a b : Addr} {c : Cell} (h : M a = some c) (h' : M b = none) : a ≠ b := by
  intro e; subst e; rw [h] at h'; cases h'
mutual
inductive SlAt (K : PySem.W.Frag) (G : Hp) : V → Sl → Prop
  | d {v : V} {x : PyData} : At K G v x → SlAt K G v (.d x)
  | c (a : Addr) : SlAt K G (.ref a) (.c a)
  | t (n : String) : SlAt K G (.ty n) (.t n)
  | u {a : Addr} {xs : List V} {ss : List Sl} : G a = some (.tup xs) → SlL K G xs ss → SlAt K G (.ref a) (.u ss)
  | s {a : Addr} {ns : List Int} : (G a = some (.lst (ns.map V.int)) ∨ KL K a (ns.map V.int)) → SlAt K G (.ref a) (.s ns)
inductive SlL (K : PySem.W.Frag) (G : Hp) : List V → List Sl → Prop
  | nil : SlL K G [] []
  | cons {v : V} {vs : List V} {s : Sl} {ss : List Sl} : SlAt K G v s → SlL K G vs ss → SlL K G (v :: vs) (s :: ss)
end
mutual
theorem SlAt.mono {K : PySem.W.Frag} {G G' : Hp} (e : Ex G G') : ∀ {v : V} {s : Sl}, SlAt K G v s → SlAt K G' v s
  | _, _, .d a => .d (a.mono e)
  | _, _, .c a => .c a
  | _, _, .t n => .t n
  | _, _, .u h a => .u (e _ _ h) (SlL.mono e a)
  | _, _, .s h => .s (h.imp (e _ _) id)
theorem SlL.mono {K : PySem.W.Frag} {G G' : Hp} (e : Ex G G') : ∀ {v : List V} {s : List Sl}, SlL K G v s → SlL K G' v s
  | _, _, .nil => .nil
  | _, _, .cons a b => .cons (SlAt.mono e a) (SlL.mono e b)
end
section
variable {K : PySem.W.Frag} {G : Hp}
theorem SlL.len : ∀ {vs : List V} {ss : List Sl}, SlL K G vs ss → vs.length = ss.length
  | _, _, .nil => rfl
  | _, _, .cons _ b => by rw [List.length_cons, List.length_cons, b.len]
theorem SlL.get : ∀ {vs : List V} {ss : List Sl} {i : Nat} {s : Sl}, SlL K G vs ss → ss[i]? = some s → ∃ v, vs[i]? = some v ∧ SlAt K G v s
  | _, _, _, _, .nil, e => by simp at e
  | _, _, 0, _, .cons a _, e => by simp at e; subst e; exact ⟨_, rfl, a⟩
  | _, _, i + 1, s, .cons _ b, e => by
    obtain ⟨v, h1, h2⟩ := b.get (i := i) (s := s) (by simpa using e)
    exact ⟨v, by simpa using h1, h2⟩
theorem SlL.append : ∀ {vs ws : List V} {ss ts : List Sl}, SlL K G vs ss → SlL K G ws ts → SlL K G (vs ++ ws) (ss ++ ts)
  | _, _, _, _, .nil, b => b
  | _, _, _, _, .cons a t, b => .cons a (t.append b)
theorem SlL.set {v : V} {s : Sl} (a : SlAt K G v s) : ∀ {vs : List V} {ss : List Sl} (i : Nat), SlL K G vs ss → SlL K G (vs.set i v) (ss.set i s)
  | _, _, _, .nil => .nil
  | _, _, 0, .cons _ b => .cons a b
  | _, _, i + 1, .cons h b => .cons h (b.set a i)
theorem SlL.take : ∀ {vs : List V} {ss : List Sl} (n : Nat), SlL K G vs ss → SlL K G (vs.take n) (ss.take n)
  | _, _, 0, _ => .nil
  | _, _, _ + 1, .nil => .nil
  | _, _, n + 1, .cons a b => .cons a (b.take n)
theorem SlL.drop : ∀ {vs : List V} {ss : List Sl} (n : Nat), SlL K G vs ss → SlL K G (vs.drop n) (ss.drop n)
  | _, _, 0, h => h
  | _, _, _ + 1, .nil => .nil
  | _, _, n + 1, .cons _ b => b.drop n
theorem AtL.sl : ∀ {vs : List V} {ds : List PyData}, AtL K G vs ds → SlL K G vs (ds.map Sl.d)
  | _, _, .nil => .nil
  | _, _, .cons a b => .cons (.d a) b.sl
theorem SlL.at : ∀ {vs : List V} {ds : List PyData}, SlL K G vs (ds.map Sl.d) → AtL K G vs ds
  | _, [], .nil => .nil
  | _, _ :: _, .cons (.d a) b => .cons a b.at
theorem AtL.len {vs : List V} {ds : List PyData} (h : AtL K G vs ds) : vs.length = ds.length := by
  have := h.sl.len
  rwa [List.length_map] at this
end
/-- a dict cell's entries -/
def KvAt (K : PySem.W.Frag) (G : Hp) : List (Key × V) → List (Key × Sl) → Prop
  | [], [] => True
  | p :: ps, q :: qs => p.1 = q.1 ∧ SlAt K G p.2 q.2 ∧ KvAt K G ps qs
  | _, _ => False
theorem KvAt.mono {K : PySem.W.Frag} {G G' : Hp} (e : Ex G G') : ∀ {ps : List (Key × V)} {qs : List (Key × Sl)}, KvAt K G ps qs → KvAt K G' ps qs
  | [], [], _ => trivial
  | _ :: _, _ :: _, ⟨a, b, c⟩ => ⟨a, b.mono e, KvAt.mono e c⟩
  | [], _ :: _, h => h.elim
  | _ :: _, [], h => h.elim
def CellOk (K : PySem.W.Frag) (G H : Hp) (a : Addr) : Cell → Prop
  | .l ss => ∃ xs, H a = some (.lst xs) ∧ SlL K G xs ss
  | .k kvs => ∃ xs, H a = some (.dK xs) ∧ KvAt K G xs kvs
abbrev Lk := List (Addr × Obj × HO)
def VwO (L : Lk) (H : Hp) (a : Addr) (o : HO) : Prop := H a = some o ∨ ∃ x ∈ L, x.1 = a ∧ x.2.2 = o
structure GoodM (K : PySem.W.Frag) (L : Lk) (M : Cs) (G H : Hp) : Prop where
  vw : ∀ a o, G a = some o → VwO L H a o
  cell : ∀ a c, M a = some c → G a = none ∧ CellOk K G H a c
  lk : ∀ x ∈ L, H x.1 = some (.frz x.2.1 x.2.2)
structure GoodS (K : PySem.W.Frag) (G : Hp) (σ : St) (τ : List (Option Sl)) : Prop where
  len : σ.length = τ.length
  get : ∀ (i : Nat) (s : Sl), τ[i]? = some (some s) → ∃ v, σ[i]? = some (some v) ∧ SlAt K G v s
section
variable {K : PySem.W.Frag} {L : Lk} {M : Cs} {G G' H : Hp} {σ : St} {τ : List (Option Sl)}
theorem GoodS.mono (g : GoodS K G σ τ) (e : Ex G G') : GoodS K G' σ τ := ⟨g.len, fun i s h => by
  obtain ⟨v, h1, h2⟩ := g.get i s h
  exact ⟨v, h1, h2.mono e⟩⟩
theorem GoodS.set {v : V} {s : Sl} (g : GoodS K G σ τ) (a : SlAt K G v s) (i : Nat) : GoodS K G (σ.set i (some v)) (τ.set i (some s)) := ⟨by rw [List.length_set, List.length_set, g.len], fun j t h => by
  by_cases e : i = j
  · subst e
    by_cases hl : i < τ.length
    · rw [List.getElem?_set_self hl] at h
      cases h
      exact ⟨v, by rw [List.getElem?_set_self (by rw [g.len]; exact hl)], a⟩
    · rw [List.getElem?_eq_none (by rw [List.length_set]; omega)] at h
      cases h
  · rw [List.getElem?_set_ne e] at h
    obtain ⟨w, h1, h2⟩ := g.get j t h
    exact ⟨w, by rw [List.getElem?_set_ne e]; exact h1, h2⟩⟩
/-- a free address: nothing knows it -/
theorem GoodM.free {p : Addr} (g : GoodM K L M G H) (h : H p = none) : G p = none ∧ M p = none := by
  constructor
  · cases e : G p with
    | none => rfl
    | some o =>
      rcases g.vw p o e with z | ⟨x, hx, z, _⟩
      · rw [h] at z; cases z
      · have y := g.lk x hx
        rw [z, h] at y; cases y
  · cases e : M p with
    | none => rfl
    | some c =>
      have z := (g.cell p c e).2
      cases c with
      | l ss => obtain ⟨xs, z, _⟩ := z; rw [h] at z; cases z
      | k ss => obtain ⟨xs, z, _⟩ := z; rw [h] at z; cases z
theorem rd_upd {p a : Addr} {o u : HO} (h : H p = none) (r : VwO L H a o) : VwO L (upd H p u) a o := by
  rcases r with z | z
  · exact .inl (by rw [upd_ne (ne_of_none z h)]; exact z)
  · exact .inr z
theorem GoodM.rd {a : Addr} {o : HO} (g : GoodM K L M G H) (e : G a = some o) : Rd H a o := by
  rcases g.vw a o e with z | ⟨x, hx, z, w⟩
  · exact .inl z
  · have y := g.lk x hx
    rw [z, w] at y
    exact .inr ⟨_, y⟩
theorem CellOk.mono {a : Addr} {c : Cell} {H' : Hp} (x : CellOk K G H a c) (e : Ex G G') (h : ∀ o, H a = some o → H' a = some o) : CellOk K G' H' a c := by
  cases c with
  | l ss => obtain ⟨xs, h1, h2⟩ := x; exact ⟨xs, h _ h1, h2.mono e⟩
  | k ss => obtain ⟨xs, h1, h2⟩ := x; exact ⟨xs, h _ h1, h2.mono e⟩
/-- new data -/
theorem GoodM.newD {p : Addr} {o : HO} (g : GoodM K L M G H) (h : H p = none) : GoodM K L M (upd G p o) (upd H p o) := by
  have f := g.free h
  refine ⟨fun a u e => ?_, fun a c e => ?_, fun x hx => ?_⟩
  · by_cases ha : a = p
    · subst ha
      rw [upd_same] at e
      cases e
      exact .inl upd_same
    · rw [upd_ne ha] at e
      exact rd_upd h (g.vw a u e)
  · have ha : a ≠ p := neC e f.2
    obtain ⟨z1, z2⟩ := g.cell a c e
    exact ⟨by rw [upd_ne ha]; exact z1, z2.mono (Ex.new f.1) fun o q => by rw [upd_ne ha]; exact q⟩
  · rw [upd_ne (ne_of_none (g.lk x hx) h)]
    exact g.lk x hx
/-- the heap of a cell and a new cell -/
def hoC (xs : List V) : HO := .lst xs
theorem GoodM.newC {p : Addr} {o : HO} {c : Cell} (g : GoodM K L M G H) (h : H p = none) (ok : CellOk K G (upd H p o) p c) : GoodM K L (updC M p c) G (upd H p o) := by
  have f := g.free h
  refine ⟨fun a u e => rd_upd h (g.vw a u e), fun a c' e => ?_, fun x hx => ?_⟩
  · by_cases ha : a = p
    · subst ha
      rw [updC_same] at e
      cases e
      exact ⟨f.1, ok⟩
    · rw [updC_ne ha] at e
      obtain ⟨z1, z2⟩ := g.cell a c' e
      exact ⟨z1, z2.mono (Ex.refl G) fun o q => by rw [upd_ne ha]; exact q⟩
  · rw [upd_ne (ne_of_none (g.lk x hx) h)]
    exact g.lk x hx
/-- a cell is written -/
theorem GoodM.write {p : Addr} {o u : HO} {c c' : Cell} (g : GoodM K L M G H) (hc : M p = some c) (hu : H p = some u) (nf : ∀ b z, u ≠ .frz b z) (ok : CellOk K G (upd H p o) p c') : GoodM K L (updC M p c') G (upd H p o) := by
  have f := g.cell p c hc
  refine ⟨fun a u' e => ?_, fun a c'' e => ?_, fun x hx => ?_⟩
  · have ha : a ≠ p := by
      intro z
      subst z
      rw [f.1] at e
      cases e
    rcases g.vw a u' e with z | z
    · exact .inl (by rw [upd_ne ha]; exact z)
    · exact .inr z
  · by_cases ha : a = p
    · subst ha
      rw [updC_same] at e
      cases e
      exact ⟨f.1, ok⟩
    · rw [updC_ne ha] at e
      obtain ⟨z1, z2⟩ := g.cell a c'' e
      exact ⟨z1, z2.mono (Ex.refl G) fun o q => by rw [upd_ne ha]; exact q⟩
  · have hx' := g.lk x hx
    have ha : x.1 ≠ p := by
      intro z
      rw [z, hu] at hx'
      exact nf _ _ (Option.some.inj hx')
    rw [upd_ne ha]
    exact hx'
/-- a cell becomes data -/
theorem GoodM.freeze {p : Addr} {ds : List PyData} (g : GoodM K L M G H) (hc : M p = some (.l (ds.map .d))) : ∃ G', Ex G G' ∧ GoodM K L (delC M p) G' H ∧ At K G' (.ref p) (.list ds) := by
  obtain ⟨f, xs, h1, h2⟩ := g.cell p _ hc
  refine ⟨upd G p (.lst xs), Ex.new f, ⟨fun a u e => ?_, fun a c e => ?_, g.lk⟩, .lst upd_same (h2.at.mono (Ex.new f))⟩
  · by_cases ha : a = p
    · subst ha
      rw [upd_same] at e
      cases e
      exact .inl h1
    · rw [upd_ne ha] at e
      exact g.vw a u e
  · by_cases ha : a = p
    · subst ha
      rw [delC_same] at e
      cases e
    · rw [delC_ne ha] at e
      obtain ⟨z1, z2⟩ := g.cell a c e
      exact ⟨by rw [upd_ne ha]; exact z1, z2.mono (Ex.new f) fun o q => q⟩
end
end Y

namespace Y
open PySem L2

/-! ### judgements over data -/
section
variable (K : PySem.W.Frag) (L : Lk)
def Ret (G : Hp) (Q : Sl → Cs → Prop) (Q' : VK) : Prop := ∀ s M' v G' H', Q s M' → Ex G G' → GoodM K L M' G' H' → SlAt K G' v s → Q' v H'
def RetB (G : Hp) (Q : Bool → Cs → Prop) (Q' : Bool → Hp → Prop) : Prop := ∀ b M' G' H', Q b M' → Ex G G' → GoodM K L M' G' H' → Q' b H'
def RetA (G : Hp) (Q : List Sl → Cs → Prop) (Q' : List V → Hp → Prop) : Prop := ∀ s M' v G' H', Q s M' → Ex G G' → GoodM K L M' G' H' → SlL K G' v s → Q' v H'
def RetG (G : Hp) (Q : List (Option Sl) → Cs → Prop) (Q' : St → Hp → Prop) : Prop := ∀ τ' M' σ' G' H', Q τ' M' → Ex G G' → GoodM K L M' G' H' → GoodS K G' σ' τ' → Q' σ' H'
def WE (te : TE) (τ : List (Option Sl)) (M : Cs) (Q : Sl → Cs → Prop) : Prop := ∀ σ G H Q', GoodS K G σ τ → GoodM K L M G H → Ret K L G Q Q' → te σ H Q'
def WT (tt : TT) (τ : List (Option Sl)) (M : Cs) (Q : Bool → Cs → Prop) : Prop := ∀ σ G H Q', GoodS K G σ τ → GoodM K L M G H → RetB K L G Q Q' → tt σ H Q'
def WA (ta : TA) (τ : List (Option Sl)) (M : Cs) (Q : List Sl → Cs → Prop) : Prop := ∀ σ G H Q', GoodS K G σ τ → GoodM K L M G H → RetA K L G Q Q' → ta σ H Q'
def WG (g : TG) (s : Sl) (τ : List (Option Sl)) (M : Cs) (Q : List (Option Sl) → Cs → Prop) : Prop := ∀ σ G H v Q', GoodS K G σ τ → GoodM K L M G H → SlAt K G v s → RetG K L G Q Q' → g v σ H Q'
def WGs (g : TGs) (ss : List Sl) (τ : List (Option Sl)) (M : Cs) (Q : List (Option Sl) → Cs → Prop) : Prop := ∀ σ G H vs Q', GoodS K G σ τ → GoodM K L M G H → SlL K G vs ss → RetG K L G Q Q' → g vs σ H Q'
/-- operations on values -/
def R2k (r : R2) (x y : Sl) (M : Cs) (Q : Sl → Cs → Prop) : Prop := ∀ G H v u Q', GoodM K L M G H → SlAt K G v x → SlAt K G u y → Ret K L G Q Q' → r v u H Q'
def RCk (r : List V → Hp → VK → Prop) (xs : List Sl) (M : Cs) (Q : Sl → Cs → Prop) : Prop := ∀ G H vs Q', GoodM K L M G H → SlL K G vs xs → Ret K L G Q Q' → r vs H Q'
structure Ks where
  nx : List (Option Sl) → Cs → Prop
  rt : Sl → Cs → Prop
  bk : List (Option Sl) → Cs → Prop := fun _ _ => False
  ct : List (Option Sl) → Cs → Prop := fun _ _ => False
structure EndsOk (G : Hp) (E : Ks) (D : Ends) : Prop where
  nx : RetG K L G E.nx D.nx
  rt : Ret K L G E.rt D.rt
  bk : RetG K L G E.bk D.bk
  ct : RetG K L G E.ct D.ct
def WS (ts : TS) (τ : List (Option Sl)) (M : Cs) (E : Ks) : Prop := ∀ σ G H D, GoodS K G σ τ → GoodM K L M G H → EndsOk K L G E D → ts D σ H
end
section
variable {K : PySem.W.Frag} {L : Lk} {G G' : Hp}
theorem Ret.mono {Q : Sl → Cs → Prop} {Q' : VK} (k : Ret K L G Q Q') (e : Ex G G') : Ret K L G' Q Q' := fun s M v G2 H2 q e2 => k s M v G2 H2 q (e.trans e2)
theorem RetB.mono {Q : Bool → Cs → Prop} {Q' : Bool → Hp → Prop} (k : RetB K L G Q Q') (e : Ex G G') : RetB K L G' Q Q' := fun b M G2 H2 q e2 => k b M G2 H2 q (e.trans e2)
theorem RetA.mono {Q : List Sl → Cs → Prop} {Q' : List V → Hp → Prop} (k : RetA K L G Q Q') (e : Ex G G') : RetA K L G' Q Q' := fun s M v G2 H2 q e2 => k s M v G2 H2 q (e.trans e2)
theorem RetG.mono {Q : List (Option Sl) → Cs → Prop} {Q' : St → Hp → Prop} (k : RetG K L G Q Q') (e : Ex G G') : RetG K L G' Q Q' := fun s M v G2 H2 q e2 => k s M v G2 H2 q (e.trans e2)
theorem EndsOk.mono {E : Ks} {D : Ends} (k : EndsOk K L G E D) (e : Ex G G') : EndsOk K L G' E D := ⟨k.nx.mono e, k.rt.mono e, k.bk.mono e, k.ct.mono e⟩
theorem Ret.go {Q : Sl → Cs → Prop} {Q' : VK} (k : Ret K L G Q Q') {s : Sl} {M : Cs} {v : V} {H : Hp} (q : Q s M) (g : GoodM K L M G H) (a : SlAt K G v s) : Q' v H := k s M v G H q (Ex.refl G) g a
theorem RetB.go {Q : Bool → Cs → Prop} {Q' : Bool → Hp → Prop} (k : RetB K L G Q Q') {b : Bool} {M : Cs} {H : Hp} (q : Q b M) (g : GoodM K L M G H) : Q' b H := k b M G H q (Ex.refl G) g
theorem RetA.go {Q : List Sl → Cs → Prop} {Q' : List V → Hp → Prop} (k : RetA K L G Q Q') {s : List Sl} {M : Cs} {v : List V} {H : Hp} (q : Q s M) (g : GoodM K L M G H) (a : SlL K G v s) : Q' v H := k s M v G H q (Ex.refl G) g a
theorem RetG.go {Q : List (Option Sl) → Cs → Prop} {Q' : St → Hp → Prop} (k : RetG K L G Q Q') {τ : List (Option Sl)} {M : Cs} {σ : St} {H : Hp} (q : Q τ M) (g : GoodM K L M G H) (a : GoodS K G σ τ) : Q' σ H := k τ M σ G H q (Ex.refl G) g a
end
section
variable (X : Cx) (L : Lk)
abbrev DE (e : Expr) := WE X.K L (sE X e)
abbrev DT (e : Expr) := WT X.K L (sT X e)
abbrev DA (es : List Expr) := WA X.K L (sA X es)
abbrev DG (t : Expr) := WG X.K L (sG X t)
abbrev DS (st : Stmt) := WS X.K L (sS X st)
abbrev DB (st : List Stmt) := WS X.K L (sB X st)
end
section
variable {X : Cx} {L : Lk} {τ : List (Option Sl)} {M : Cs} {Q : Sl → Cs → Prop} {QB : Bool → Cs → Prop} {QA : List Sl → Cs → Prop} {e a b c : Expr} {es : List Expr} {pos : Pos} {E : Ks} {st : Stmt} {sts : List Stmt} {p p2 : Pos}
theorem de_of {te : TE} (h : PE X e te) (w : WE X.K L te τ M Q) : DE X L e τ M Q := fun σ G H Q' gs gm k => e_of h (w σ G H Q' gs gm k)
theorem dt_of {tt : TT} (h : PT X e tt) (w : WT X.K L tt τ M QB) : DT X L e τ M QB := fun σ G H Q' gs gm k => t_of h (w σ G H Q' gs gm k)
theorem da_of {ta : TA} (h : PA X es ta) (w : WA X.K L ta τ M QA) : DA X L es τ M QA := fun σ G H Q' gs gm k => a_of h (w σ G H Q' gs gm k)
theorem ds_of {ts : TS} (h : PS X st ts) (w : WS X.K L ts τ M E) : DS X L st τ M E := fun σ G H D gs gm k => s_of h (w σ G H D gs gm k)
theorem db_of {ts : TS} (h : PSs X sts ts) (w : WS X.K L ts τ M E) : DB X L sts τ M E := fun σ G H D gs gm k => b_of h (w σ G H D gs gm k)
theorem de_imp {Q2 : Sl → Cs → Prop} (w : DE X L e τ M Q2) (h : ∀ s M', Q2 s M' → Q s M') : DE X L e τ M Q := fun σ G H Q' gs gm k => w σ G H Q' gs gm fun s M' v G' H' q => k s M' v G' H' (h s M' q)
/-- names, constants -/
theorem de_name {i : Nat} {x : Str} {s : Sl} (hN : X.N[i]? = some x) (hv : Vis X.env.scope x) (ht : τ[i]? = some (some s)) (q : Q s M) (hd : (x == ("__debug__" : Str)) = false := by decide) (hcd : (x == ("__classdict__" : Str)) = false := by decide) : DE X L (.Name x pos) τ M Q :=
  de_of (pe_var hN hv hd hcd) fun σ G H Q' gs gm k => by
    obtain ⟨v, h1, h2⟩ := gs.get i s ht
    exact ⟨v, h1, k.go q gm h2⟩
theorem de_int {k : Int} {j} (q : Q (.d (.int k)) M) : DE X L (.Constant (.int k) j pos) τ M Q := de_of pe_int fun σ G H Q' gs gm k => k.go q gm (.d (.int _))
theorem de_bl {k : Bool} {j} (q : Q (.d (.bool k)) M) : DE X L (.Constant (.bool k) j pos) τ M Q := de_of pe_bl fun σ G H Q' gs gm k => k.go q gm (.d (.bl _))
theorem de_non {j} (q : Q (.d .none) M) : DE X L (.Constant .none j pos) τ M Q := de_of pe_non fun σ G H Q' gs gm k => k.go q gm (.d .non)
theorem de_str {x : Str} {j} (q : Q (.d (.str x)) M) : DE X L (.Constant (.str x) j pos) τ M Q := de_of pe_str fun σ G H Q' gs gm k => k.go q gm (.d (.str _))
theorem de_type {x : Str} {n : String} (hg : Gl X x) (hm : X.mg x = none) (hv : bootBuiltins x = some (.type n)) (q : Q (.t n) M) (hn : x ≠ "__name__" := by decide) (hdb : (x == ("__debug__" : Str)) = false := by decide) : DE X L (.Name x pos) τ M Q :=
  de_of (te := tC (.ty n)) ⟨fun pins s σ H Q I h => ld_blt I hg hm hv ⟨.ty n, H, I, rfl, h⟩ hn hdb⟩ fun σ G H Q' gs gm k => k.go q gm (.t n)
theorem de_glob {x : Str} {i : Int} {v : Value} (hg : Gl X x) (hm : X.mg x = some v) (hr : RelV (.int i) v) (q : Q (.d (.int i)) M) (hdb : (x == ("__debug__" : Str)) = false := by decide) : DE X L (.Name x pos) τ M Q := de_of (pe_glob hg hm hr hdb) fun σ G H Q' gs gm k => k.go q gm (.d (.int _))
/-- argument lists -/
theorem da_nil (q : QA [] M) : DA X L [] τ M QA := da_of pa_nil fun σ G H Q' gs gm k => k.go q gm .nil
theorem da_cons (w : DE X L e τ M fun s M1 => DA X L es τ M1 fun ss M2 => QA (s :: ss) M2) (hs : starEach (e :: es) X.env = (false, eval e X.env) :: starEach es X.env := by rfl) : DA X L (e :: es) τ M QA :=
  da_of (pa_cons pe_s pa_s hs) fun σ G H Q' gs gm k => w σ G H _ gs gm fun s M1 v G1 H1 q e1 g1 a1 =>
    q σ G1 H1 _ (gs.mono e1) g1 fun ss M2 vs G2 H2 q2 e2 g2 a2 => k (s :: ss) M2 (v :: vs) G2 H2 q2 (e1.trans e2) g2 (.cons (a1.mono e2) a2)
/-- two-place operations -/
theorem we_op {r : R2} (w : DE X L a τ M fun x M1 => DE X L b τ M1 fun y M2 => R2k X.K L r x y M2 Q) : WE X.K L (tOp r (sE X a) (sE X b)) τ M Q := fun σ G H Q' gs gm k =>
  w σ G H _ gs gm fun x M1 v G1 H1 q e1 g1 a1 => q σ G1 H1 _ (gs.mono e1) g1 fun y M2 u G2 H2 q2 e2 g2 a2 => q2 G2 H2 v u Q' g2 (a1.mono e2) a2 (k.mono (e1.trans e2))
theorem de_op {op : Operator} {r : R2} (ho : OpR X (binaryOp op) r) (w : DE X L a τ M fun x M1 => DE X L b τ M1 fun y M2 => R2k X.K L r x y M2 Q) : DE X L (.BinOp a op b pos) τ M Q := de_of (pe_op ho pe_s pe_s) (we_op w)
theorem de_cmp {op : CmpOp} {r : R2} (ho : OpR X (compareOp op) r) (w : DE X L a τ M fun x M1 => DE X L b τ M1 fun y M2 => R2k X.K L r x y M2 Q) (hm : behindInMarks op b = false) : DE X L (.Compare a [op] [b] pos) τ M Q := de_of (pe_cmpR ho pe_s pe_s hm) (we_op w)
/-- a value in the place of a test -/
def BoolQ (QB : Bool → Cs → Prop) : Sl → Cs → Prop := fun s M => ∃ k, s = .d (.bool k) ∧ QB k M
theorem sl_bl {K : PySem.W.Frag} {G : Hp} {v : V} {k : Bool} (a : SlAt K G v (.d (.bool k))) : v = .bl k := by
  cases a with | d a => cases a; rfl
theorem sl_int {K : PySem.W.Frag} {G : Hp} {v : V} {k : Int} (a : SlAt K G v (.d (.int k))) : v = .int k := by
  cases a with | d a => cases a; rfl
theorem sl_str {K : PySem.W.Frag} {G : Hp} {v : V} {k : Str} (a : SlAt K G v (.d (.str k))) : v = .str k := by
  cases a with | d a => cases a; rfl
theorem sl_non {K : PySem.W.Frag} {G : Hp} {v : V} (a : SlAt K G v (.d .none)) : v = .non := by
  cases a with | d a => cases a; rfl
theorem sl_t {K : PySem.W.Frag} {G : Hp} {v : V} {n : String} (a : SlAt K G v (.t n)) : v = .ty n := by
  cases a; rfl
theorem sl_c {K : PySem.W.Frag} {G : Hp} {v : V} {n : Addr} (a : SlAt K G v (.c n)) : v = .ref n := by
  cases a; rfl
theorem dt_cmp {op : CmpOp} {r : R2} (ho : OpR X (compareOp op) r) (w : DE X L a τ M fun x M1 => DE X L b τ M1 fun y M2 => R2k X.K L r x y M2 (BoolQ QB)) (hm : behindInMarks op b = false) : DT X L (.Compare a [op] [b] pos) τ M QB :=
  dt_of (pt_cmpR ho pe_s pe_s hm) fun σ G H Q' gs gm k => we_op w σ G H _ gs gm fun s M1 v G1 H1 ⟨d, e, q⟩ e1 g1 a1 => by
    subst e
    exact ⟨d, sl_bl a1, k d M1 G1 H1 q e1 g1⟩
theorem dt_val (w : DE X L e τ M (BoolQ QB)) (he : ∀ whole, isTrue e X.env whole = (do let v ← whole; standAt e.pos; holding [v] (truthy v)) := by intro _; rfl) : DT X L e τ M QB :=
  dt_of (pt_val pe_s he) fun σ G H Q' gs gm k => w σ G H _ gs gm fun s M1 v G1 H1 ⟨d, e, q⟩ e1 g1 a1 => by
    subst e
    exact ⟨d, sl_bl a1, k d M1 G1 H1 q e1 g1⟩
/-- chains -/
theorem we_chain {r r' : R2} (w : DE X L a τ M fun x M1 => DE X L b τ M1 fun y M2 => R2k X.K L r x y M2 (BoolQ fun d M3 => (d = true → DE X L c τ M3 fun z M4 => R2k X.K L r' y z M4 Q) ∧ (d = false → Q (.d (.bool false)) M3))) :
    WE X.K L (tChain r r' (sE X a) (sE X b) (sE X c)) τ M Q := fun σ G H Q' gs gm k =>
  w σ G H _ gs gm fun x M1 v G1 H1 q e1 g1 a1 => q σ G1 H1 _ (gs.mono e1) g1 fun y M2 u G2 H2 q2 e2 g2 a2 => q2 G2 H2 v u _ g2 (a1.mono e2) a2 fun s M3 z G3 H3 ⟨d, e, q3, q4⟩ e3 g3 a3 => by
    subst e
    refine ⟨d, sl_bl a3, ?_⟩
    have e13 := (e1.trans e2).trans e3
    cases d with
    | true =>
      rw [if_pos rfl]
      exact q3 rfl σ G3 H3 _ (gs.mono e13) g3 fun t M4 w' G4 H4 q5 e4 g4 a4 => q5 G4 H4 u w' Q' g4 ((a2.mono e3).mono e4) a4 (k.mono (e13.trans e4))
    | false =>
      rw [if_neg Bool.false_ne_true]
      exact (k.mono e13).go (q4 rfl) g3 (.d (.bl false))
theorem de_chain {op op' : CmpOp} {r r' : R2} (ho : OpR X (compareOp op) r) (ho' : OpR X (compareOp op') r')
    (w : DE X L a τ M fun x M1 => DE X L b τ M1 fun y M2 => R2k X.K L r x y M2 (BoolQ fun d M3 => (d = true → DE X L c τ M3 fun z M4 => R2k X.K L r' y z M4 Q) ∧ (d = false → Q (.d (.bool false)) M3)))
    (hm : lastMarks [op, op'] [b, c] = false := by with_unfolding_all rfl) : DE X L (.Compare a [op, op'] [b, c] pos) τ M Q := de_of (pe_chain ho ho' pe_s pe_s pe_s hm) (we_chain w)
theorem dt_chain {op op' : CmpOp} {r r' : R2} (ho : OpR X (compareOp op) r) (ho' : OpR X (compareOp op') r')
    (w : DE X L a τ M fun x M1 => DE X L b τ M1 fun y M2 => R2k X.K L r x y M2 (BoolQ fun d M3 => (d = true → DE X L c τ M3 fun z M4 => R2k X.K L r' y z M4 (BoolQ QB)) ∧ (d = false → QB false M3)))
    (hm : lastMarks [op, op'] [b, c] = false := by with_unfolding_all rfl) : DT X L (.Compare a [op, op'] [b, c] pos) τ M QB :=
  dt_of (pt_chain ho ho' pe_s pe_s pe_s hm) fun σ G H Q' gs gm k => we_chain (Q := BoolQ QB) (de_imp w fun x M1 q => de_imp q fun y M2 q2 => fun G H v u Q' g a1 a2 k => q2 G H v u Q' g a1 a2 fun s M3 z G3 H3 ⟨d, e, q3, q4⟩ => k s M3 z G3 H3 ⟨d, e, q3, fun z => ⟨false, rfl, q4 z⟩⟩) σ G H _ gs gm fun s M1 v G1 H1 ⟨d, e, q⟩ e1 g1 a1 => by
    subst e
    exact ⟨d, sl_bl a1, k d M1 G1 H1 q e1 g1⟩
/-! and, or, not as tests -/
variable {rest : List Expr}
def DW (X : Cx) (L : Lk) (e : Expr) (τ : List (Option Sl)) (M : Cs) (QB : Bool → Cs → Prop) : Prop := ∃ tt, PW X e tt ∧ WT X.K L tt τ M QB
theorem dt_not (w : DT X L a τ M fun k M1 => QB (!k) M1) : DT X L (.UnaryOp .Not a pos) τ M QB := dt_of (pt_not pt_s) fun σ G H Q' gs gm k => w σ G H _ gs gm fun d M1 G1 H1 q e1 g1 => k _ M1 G1 H1 q e1 g1
theorem dt_and2 (w : DT X L a τ M fun k M1 => (k = true → DT X L b τ M1 QB) ∧ (k = false → QB false M1)) : DT X L (.BoolOp .And [a, b] pos) τ M QB :=
  dt_of (pw_and pt_s (pw_and1 pt_s)).pt fun σ G H Q' gs gm k => w σ G H _ gs gm fun d M1 G1 H1 q e1 g1 => by
    cases d with
    | true => rw [if_pos rfl]; exact q.1 rfl σ G1 H1 Q' (gs.mono e1) g1 (k.mono e1)
    | false => rw [if_neg Bool.false_ne_true]; exact (k.mono e1).go (q.2 rfl) g1
theorem dt_or2 (w : DT X L a τ M fun k M1 => (k = true → QB true M1) ∧ (k = false → DT X L b τ M1 QB)) : DT X L (.BoolOp .Or [a, b] pos) τ M QB :=
  dt_of (pw_or pt_s (pw_or1 pt_s)).pt fun σ G H Q' gs gm k => w σ G H _ gs gm fun d M1 G1 H1 q e1 g1 => by
    cases d with
    | false => rw [if_neg Bool.false_ne_true]; exact q.2 rfl σ G1 H1 Q' (gs.mono e1) g1 (k.mono e1)
    | true => rw [if_pos rfl]; exact (k.mono e1).go (q.1 rfl) g1
theorem dt_and3 (w : DT X L a τ M fun k M1 => (k = true → DT X L b τ M1 fun k2 M2 => (k2 = true → DT X L c τ M2 QB) ∧ (k2 = false → QB false M2)) ∧ (k = false → QB false M1)) : DT X L (.BoolOp .And [a, b, c] pos) τ M QB :=
  dt_of (pw_and pt_s (pw_and pt_s (pw_and1 pt_s))).pt fun σ G H Q' gs gm k => w σ G H _ gs gm fun d M1 G1 H1 q e1 g1 => by
    cases d with
    | true =>
      rw [if_pos rfl]
      refine q.1 rfl σ G1 H1 _ (gs.mono e1) g1 fun d2 M2 G2 H2 q2 e2 g2 => ?_
      cases d2 with
      | true => rw [if_pos rfl]; exact q2.1 rfl σ G2 H2 Q' (gs.mono (e1.trans e2)) g2 (k.mono (e1.trans e2))
      | false => rw [if_neg Bool.false_ne_true]; exact (k.mono (e1.trans e2)).go (q2.2 rfl) g2
    | false => rw [if_neg Bool.false_ne_true]; exact (k.mono e1).go (q.2 rfl) g1
theorem dt_or3 (w : DT X L a τ M fun k M1 => (k = true → QB true M1) ∧ (k = false → DT X L b τ M1 fun k2 M2 => (k2 = true → QB true M2) ∧ (k2 = false → DT X L c τ M2 QB))) : DT X L (.BoolOp .Or [a, b, c] pos) τ M QB :=
  dt_of (pw_or pt_s (pw_or pt_s (pw_or1 pt_s))).pt fun σ G H Q' gs gm k => w σ G H _ gs gm fun d M1 G1 H1 q e1 g1 => by
    cases d with
    | false =>
      rw [if_neg Bool.false_ne_true]
      refine q.2 rfl σ G1 H1 _ (gs.mono e1) g1 fun d2 M2 G2 H2 q2 e2 g2 => ?_
      cases d2 with
      | false => rw [if_neg Bool.false_ne_true]; exact q2.2 rfl σ G2 H2 Q' (gs.mono (e1.trans e2)) g2 (k.mono (e1.trans e2))
      | true => rw [if_pos rfl]; exact (k.mono (e1.trans e2)).go (q2.1 rfl) g2
    | true => rw [if_pos rfl]; exact (k.mono e1).go (q.1 rfl) g1
/-- .. as values -/
theorem de_one {op} (w : DE X L a τ M Q) : DE X L (.BoolOp op [a] pos) τ M Q := de_of (pe_one pe_s) w
theorem de_and (w : DE X L a τ M (BoolQ fun k M1 => (k = true → DE X L (.BoolOp .And (b :: rest) pos) τ M1 Q) ∧ (k = false → Q (.d (.bool false)) M1))) : DE X L (.BoolOp .And (a :: b :: rest) pos) τ M Q :=
  de_of (pe_and pe_s pe_s) fun σ G H Q' gs gm k => w σ G H _ gs gm fun s M1 v G1 H1 ⟨d, e, q⟩ e1 g1 a1 => by
    subst e
    refine ⟨d, sl_bl a1, ?_⟩
    cases d with
    | true => rw [if_pos rfl]; exact q.1 rfl σ G1 H1 Q' (gs.mono e1) g1 (k.mono e1)
    | false => rw [if_neg Bool.false_ne_true]; exact (k.mono e1).go (q.2 rfl) g1 (.d (.bl false))
theorem de_or (w : DE X L a τ M (BoolQ fun k M1 => (k = true → Q (.d (.bool true)) M1) ∧ (k = false → DE X L (.BoolOp .Or (b :: rest) pos) τ M1 Q))) : DE X L (.BoolOp .Or (a :: b :: rest) pos) τ M Q :=
  de_of (pe_or pe_s pe_s) fun σ G H Q' gs gm k => w σ G H _ gs gm fun s M1 v G1 H1 ⟨d, e, q⟩ e1 g1 a1 => by
    subst e
    refine ⟨d, sl_bl a1, ?_⟩
    cases d with
    | false => rw [if_neg Bool.false_ne_true]; exact q.2 rfl σ G1 H1 Q' (gs.mono e1) g1 (k.mono e1)
    | true => rw [if_pos rfl]; exact (k.mono e1).go (q.1 rfl) g1 (.d (.bl true))
theorem de_not (w : DE X L a τ M (BoolQ fun k M1 => Q (.d (.bool (!k))) M1)) : DE X L (.UnaryOp .Not a pos) τ M Q :=
  de_of (pe_not pe_s) fun σ G H Q' gs gm k => w σ G H _ gs gm fun s M1 v G1 H1 ⟨d, e, q⟩ e1 g1 a1 => by
    subst e
    exact ⟨d, sl_bl a1, (k.mono e1).go q g1 (.d (.bl _))⟩
theorem de_if (w : DT X L c τ M fun k M1 => (k = true → DE X L a τ M1 Q) ∧ (k = false → DE X L b τ M1 Q)) : DE X L (.IfExp c a b pos) τ M Q :=
  de_of (pe_ifExp pt_s pe_s pe_s) fun σ G H Q' gs gm k => w σ G H _ gs gm fun d M1 G1 H1 q e1 g1 => by
    cases d with
    | true => rw [if_pos rfl]; exact q.1 rfl σ G1 H1 Q' (gs.mono e1) g1 (k.mono e1)
    | false => rw [if_neg Bool.false_ne_true]; exact q.2 rfl σ G1 H1 Q' (gs.mono e1) g1 (k.mono e1)
/-- negation of an int -/
theorem de_neg (w : DE X L a τ M fun s M1 => ∃ i, s = .d (.int i) ∧ Q (.d (.int (-i))) M1) : DE X L (.UnaryOp .USub a pos) τ M Q :=
  de_of (pe_un un_neg pe_s) fun σ G H Q' gs gm k => w σ G H _ gs gm fun s M1 v G1 H1 ⟨i, e, q⟩ e1 g1 a1 => by
    subst e
    exact ⟨i, sl_int a1, (k.mono e1).go q g1 (.d (.int _))⟩
/-! ### displays -/
theorem de_tup (w : DA X L es τ M fun ss M1 => ss.length ≤ sizeLine ∧ Q (.u ss) M1) {x1} : DE X L (.Tuple es x1 pos) τ M Q :=
  de_of (pe_tup pa_s) fun σ G H Q' gs gm k => w σ G H _ gs gm fun ss M1 vs G1 H1 ⟨hl, q⟩ e1 g1 a1 => ⟨by rw [a1.len]; exact hl, fun p hp =>
    k (.u ss) M1 (.ref p) (upd G1 p (.tup vs)) _ q (e1.trans (Ex.new (g1.free hp).1)) (g1.newD hp) (.u upd_same (a1.mono (Ex.new (g1.free hp).1)))⟩
theorem de_tupD (w : DA X L es τ M fun ss M1 => ∃ ds : List PyData, ss = ds.map Sl.d ∧ ds.length ≤ sizeLine ∧ Q (.d (.tuple ds)) M1) {x1} : DE X L (.Tuple es x1 pos) τ M Q :=
  de_of (pe_tup pa_s) fun σ G H Q' gs gm k => w σ G H _ gs gm fun ss M1 vs G1 H1 ⟨ds, e, hl, q⟩ e1 g1 a1 => by
    subst e
    exact ⟨by rw [a1.len, List.length_map]; exact hl, fun p hp =>
      k (.d (.tuple ds)) M1 (.ref p) (upd G1 p (.tup vs)) _ q (e1.trans (Ex.new (g1.free hp).1)) (g1.newD hp) (.d (.tup upd_same (a1.at.mono (Ex.new (g1.free hp).1))))⟩
theorem de_lstD (w : DA X L es τ M fun ss M1 => ∃ ds : List PyData, ss = ds.map Sl.d ∧ ds.length ≤ sizeLine ∧ Q (.d (.list ds)) M1) : DE X L (.List es pos) τ M Q :=
  de_of (pe_lst pa_s) fun σ G H Q' gs gm k => w σ G H _ gs gm fun ss M1 vs G1 H1 ⟨ds, e, hl, q⟩ e1 g1 a1 => by
    subst e
    exact ⟨by rw [a1.len, List.length_map]; exact hl, fun p hp =>
      k (.d (.list ds)) M1 (.ref p) (upd G1 p (.lst vs)) _ q (e1.trans (Ex.new (g1.free hp).1)) (g1.newD hp) (.d (.lst upd_same (a1.at.mono (Ex.new (g1.free hp).1))))⟩
theorem de_lstC (w : DA X L es τ M fun ss M1 => ss.length ≤ sizeLine ∧ ∀ p, M1 p = none → Q (.c p) (updC M1 p (.l ss))) : DE X L (.List es pos) τ M Q :=
  de_of (pe_lst pa_s) fun σ G H Q' gs gm k => w σ G H _ gs gm fun ss M1 vs G1 H1 ⟨hl, q⟩ e1 g1 a1 => ⟨by rw [a1.len]; exact hl, fun p hp =>
    k (.c p) (updC M1 p (.l ss)) (.ref p) G1 _ (q p (g1.free hp).2) e1 (g1.newC hp ⟨vs, upd_same, a1⟩) (.c p)⟩
theorem de_dictC (q : ∀ p, M p = none → Q (.c p) (updC M p (.k []))) : DE X L (.Dict [] [] pos) τ M Q :=
  de_of pe_dnewK fun σ G H Q' gs gm k p hp => k (.c p) (updC M p (.k [])) (.ref p) G _ (q p (gm.free hp).2) (Ex.refl G) (gm.newC hp ⟨[], upd_same, trivial⟩) (.c p)
/-- a cell of data becomes data -/
theorem de_frz (w : DE X L e τ M fun s M1 => ∃ p ds, s = .c p ∧ M1 p = some (.l (ds.map .d)) ∧ Q (.d (.list ds)) (delC M1 p)) : DE X L e τ M Q := fun σ G H Q' gs gm k =>
  w σ G H _ gs gm fun s M1 v G1 H1 ⟨p, ds, e, hp, q⟩ e1 g1 a1 => by
    subst e
    obtain ⟨G2, e2, g2, a2⟩ := g1.freeze hp
    rw [sl_c a1]
    exact k _ _ _ G2 H1 q (e1.trans e2) g2 (.d a2)
end
end Y

namespace Y
open PySem L2 PyProof.Rows

/-! ### sequences -/
def dI (i : Int) : Sl := .d (.int i)
def seqOf (M : Cs) : Sl → Option (List Sl)
  | .d (.list ds) => some (ds.map .d)
  | .d (.tuple ds) => some (ds.map .d)
  | .u ss => some ss
  | .s ns => some (ns.map dI)
  | .c a => match M a with
    | some (.l ss) => some ss
    | _ => none
  | _ => none
def isTup : Sl → Bool
  | .d (.tuple _) => true
  | .u _ => true
  | _ => false
section
variable {K : PySem.W.Frag} {L : Lk} {M : Cs} {G H : Hp} {v : V} {s : Sl} {ss : List Sl}
theorem ints_sl : ∀ ns : List Int, SlL K G (ns.map V.int) (ns.map dI)
  | [] => .nil
  | n :: r => .cons (.d (.int n)) (ints_sl r)
theorem seq_at (g : GoodM K L M G H) (a : SlAt K G v s) (h : seqOf M s = some ss) : ∃ p xs, v = .ref p ∧ (if isTup s = true then SqT K H p xs else SqL K H p xs) ∧ SlL K G xs ss := by
  cases a with
  | d a =>
    cases a with
    | lst e l =>
      cases h
      exact ⟨_, _, rfl, .inl (g.rd e), l.sl⟩
    | tup e l =>
      cases h
      exact ⟨_, _, rfl, .inl (g.rd e), l.sl⟩
    | non => cases h
    | bl => cases h
    | int => cases h
    | str => cases h
    | dic => cases h
  | c p =>
    cases e : M p with
    | none => simp only [seqOf, e] at h; cases h
    | some c =>
      cases c with
      | k kvs => simp only [seqOf, e] at h; cases h
      | l ts =>
        simp only [seqOf, e] at h
        cases h
        obtain ⟨_, xs, h1, h2⟩ := g.cell p _ e
        exact ⟨p, xs, rfl, SqL.of h1, h2⟩
  | t n => cases h
  | u e l =>
    cases h
    exact ⟨_, _, rfl, .inl (g.rd e), l⟩
  | s e =>
    cases h
    refine ⟨_, _, rfl, ?_, ints_sl _⟩
    show SqL K H _ _
    rcases e with e | e
    · exact .inl (g.rd e)
    · exact .inr e
theorem seq_at' (g : GoodM K L M G H) (a : SlAt K G v s) (h : seqOf M s = some ss) : ∃ p xs, v = .ref p ∧ (SqL K H p xs ∨ SqT K H p xs) ∧ SlL K G xs ss := by
  obtain ⟨p, xs, e, q, l⟩ := seq_at g a h
  refine ⟨p, xs, e, ?_, l⟩
  cases z : isTup s with
  | true => rw [z, if_pos rfl] at q; exact .inr q
  | false => rw [z, if_neg Bool.false_ne_true] at q; exact .inl q
theorem atI_sl {xs : List V} {i : Int} {x : Sl} (l : SlL K G xs ss) (h : atI ss i = some x) : ∃ v, atI xs i = some v ∧ SlAt K G v x := by
  unfold atI at h ⊢
  rw [l.len]
  cases e : ixN ss.length i with
  | none => rw [e] at h; cases h
  | some j =>
    rw [e] at h
    obtain ⟨v, h1, h2⟩ := l.get (i := j) h
    exact ⟨v, h1, h2⟩
def cutG {α : Type} (xs : List α) (lo hi : Option Int) : List α := (xs.drop (HT.sIx xs.length 0 lo)).take (HT.sIx xs.length xs.length hi - HT.sIx xs.length 0 lo)
theorem cut_sl {xs : List V} (l : SlL K G xs ss) (lo hi : Option Int) : SlL K G (cutV xs lo hi) (cutG ss lo hi) := by
  unfold cutV cutG
  rw [l.len]
  exact (l.drop _).take _
end
section
variable {X : Cx} {L : Lk} {τ : List (Option Sl)} {M : Cs} {Q : Sl → Cs → Prop} {QB : Bool → Cs → Prop} {QA : List Sl → Cs → Prop} {e a b c : Expr} {es : List Expr} {pos : Pos} {E : Ks} {st : Stmt} {sts : List Stmt} {p p2 : Pos} {x y : Sl}
/-- what operations ask -/
theorem k_int {K : PySem.W.Frag} {f : Int → Int → Int} {i j : Int} (q : Q (.d (.int (f i j))) M) : R2k K L (rI0 fun i j => .int (f i j)) (.d (.int i)) (.d (.int j)) M Q := fun G H v u Q' g a1 a2 k => ⟨i, j, sl_int a1, sl_int a2, k.go q g (.d (.int _))⟩
theorem k_intC {K : PySem.W.Frag} {C : Int → Int → Prop} {f : Int → Int → Int} {i j : Int} (hc : C i j) (q : Q (.d (.int (f i j))) M) : R2k K L (rI C fun i j => .int (f i j)) (.d (.int i)) (.d (.int j)) M Q := fun G H v u Q' g a1 a2 k => ⟨i, j, sl_int a1, sl_int a2, hc, k.go q g (.d (.int _))⟩
theorem k_bool {K : PySem.W.Frag} {f : Int → Int → Bool} {i j : Int} (q : Q (.d (.bool (f i j))) M) : R2k K L (rI0 fun i j => .bl (f i j)) (.d (.int i)) (.d (.int j)) M Q := fun G H v u Q' g a1 a2 k => ⟨i, j, sl_int a1, sl_int a2, k.go q g (.d (.bl _))⟩
theorem de_add (w : DE X L a τ M fun x M1 => DE X L b τ M1 fun y M2 => ∃ i j, x = .d (.int i) ∧ y = .d (.int j) ∧ Q (.d (.int (i + j))) M2) : DE X L (.BinOp a .Add b pos) τ M Q :=
  de_op op_add (de_imp w fun x M1 q0 => de_imp q0 fun y M2 ⟨i, j, e1, e2, q1⟩ => by subst e1 e2; exact k_int q1)
theorem de_sub (w : DE X L a τ M fun x M1 => DE X L b τ M1 fun y M2 => ∃ i j, x = .d (.int i) ∧ y = .d (.int j) ∧ Q (.d (.int (i - j))) M2) : DE X L (.BinOp a .Sub b pos) τ M Q :=
  de_op op_sub (de_imp w fun x M1 q0 => de_imp q0 fun y M2 ⟨i, j, e1, e2, q1⟩ => by subst e1 e2; exact k_int q1)
theorem de_mul (w : DE X L a τ M fun x M1 => DE X L b τ M1 fun y M2 => ∃ i j, x = .d (.int i) ∧ y = .d (.int j) ∧ CMul i j ∧ Q (.d (.int (i * j))) M2) : DE X L (.BinOp a .Mult b pos) τ M Q :=
  de_op op_mul (de_imp w fun x M1 q0 => de_imp q0 fun y M2 ⟨i, j, e1, e2, c, q1⟩ => by subst e1 e2; exact k_intC c q1)
theorem de_mod (w : DE X L a τ M fun x M1 => DE X L b τ M1 fun y M2 => ∃ i j, x = .d (.int i) ∧ y = .d (.int j) ∧ 0 < j ∧ Q (.d (.int (i % j))) M2) : DE X L (.BinOp a .Mod b pos) τ M Q :=
  de_op op_mod (de_imp w fun x M1 q0 => de_imp q0 fun y M2 ⟨i, j, e1, e2, c, q1⟩ => by subst e1 e2; exact k_intC c q1)
theorem de_div (w : DE X L a τ M fun x M1 => DE X L b τ M1 fun y M2 => ∃ i j, x = .d (.int i) ∧ y = .d (.int j) ∧ CDivW i j ∧ Q (.d (.int (i / j))) M2) : DE X L (.BinOp a .FloorDiv b pos) τ M Q :=
  de_op op_fdivW (de_imp w fun x M1 q0 => de_imp q0 fun y M2 ⟨i, j, e1, e2, c, q1⟩ => by subst e1 e2; exact k_intC c q1)
def CPowW (i j : Int) : Prop := 0 ≤ j ∧ (Builtin.Int.intBits i : Int) * j ≤ 2 ^ 27
theorem op_powW : OpR X (binaryOp .Pow) (rI CPowW fun i j => .int (i ^ j.toNat)) := opI fun _ _ _ _ _ _ _ hc q => PyProof.Rows.pow_int hc.1 hc.2 q
theorem de_pow (w : DE X L a τ M fun x M1 => DE X L b τ M1 fun y M2 => ∃ i j, x = .d (.int i) ∧ y = .d (.int j) ∧ CPowW i j ∧ Q (.d (.int (i ^ j.toNat))) M2) : DE X L (.BinOp a .Pow b pos) τ M Q :=
  de_op op_powW (de_imp w fun x M1 q0 => de_imp q0 fun y M2 ⟨i, j, e1, e2, c, q1⟩ => by subst e1 e2; exact k_intC c q1)
/-- lists joined -/
def lstOf (M : Cs) : Sl → Option (List Sl)
  | .d (.list ds) => some (ds.map .d)
  | .c a => match M a with
    | some (.l ss) => some ss
    | _ => none
  | _ => none
theorem lst_at {K : PySem.W.Frag} {G H : Hp} {v : V} {s : Sl} {ss : List Sl} (g : GoodM K L M G H) (a : SlAt K G v s) (h : lstOf M s = some ss) : ∃ p xs, v = .ref p ∧ Rd H p (.lst xs) ∧ SlL K G xs ss := by
  cases a with
  | d a =>
    cases a with
    | lst e l =>
      cases h
      exact ⟨_, _, rfl, g.rd e, l.sl⟩
    | tup e l => cases h
    | non => cases h
    | bl => cases h
    | int => cases h
    | str => cases h
    | dic => cases h
  | c p =>
    cases e : M p with
    | none => simp only [lstOf, e] at h; cases h
    | some c =>
      cases c with
      | k kvs => simp only [lstOf, e] at h; cases h
      | l ts =>
        simp only [lstOf, e] at h
        cases h
        obtain ⟨_, xs, h1, h2⟩ := g.cell p _ e
        exact ⟨p, xs, rfl, .inl h1, h2⟩
  | t n => cases h
  | u e l => cases h
  | s e => cases h
def rCatR : R2 := fun x y H Q => ∃ l b xs zs, x = .ref l ∧ y = .ref b ∧ Rd H l (.lst xs) ∧ Rd H b (.lst zs) ∧ xs.length + zs.length ≤ sizeLine ∧ ∀ p, H p = none → Q (.ref p) (upd H p (.lst (xs ++ zs)))
theorem op_catR : OpR X (binaryOp .Add) rCatR := by
  intro pins s σ H x y v u Q I rx ry h
  obtain ⟨l, b, xs, zs, rfl, rfl, hH, hB, hz, q⟩ := h
  cases rx
  cases ry
  obtain ⟨z, its, n, r, e⟩ := hH.ok I.hok
  obtain ⟨z2, its2, n2, r2, e2⟩ := hB.ok I.hok
  refine PySem.P.add_list e e2 ?_ (by rw [List.size_toArray, List.size_toArray]; have := r.length; have := r2.length; omega)
  have ea : its.toArray ++ its2.toArray = (its ++ its2).toArray := by simp
  rw [ea]
  exact ⟨.ref _, _, I.lnew (t' := s.toks) (r.append r2) (by rw [List.length_append]; omega), rfl, q _ I.fresh⟩
theorem de_cat (w : DE X L a τ M fun x M1 => DE X L b τ M1 fun y M2 => ∃ ss ts, lstOf M2 x = some ss ∧ lstOf M2 y = some ts ∧ ss.length + ts.length ≤ sizeLine ∧ ∀ p, M2 p = none → Q (.c p) (updC M2 p (.l (ss ++ ts)))) : DE X L (.BinOp a .Add b pos) τ M Q :=
  de_op op_catR (de_imp w fun x M1 q => de_imp q fun y M2 ⟨ss, ts, e1, e2, hl, q⟩ => fun G H v u Q' g a1 a2 k => by
    obtain ⟨p1, xs, rfl, r1, l1⟩ := lst_at g a1 e1
    obtain ⟨p2, zs, rfl, r2, l2⟩ := lst_at g a2 e2
    exact ⟨p1, p2, xs, zs, rfl, rfl, r1, r2, by rw [l1.len, l2.len]; exact hl, fun p hp => k _ _ _ G _ (q p (g.free hp).2) (Ex.refl G) (g.newC hp ⟨_, upd_same, l1.append l2⟩) (.c p)⟩)
/-- subscripts -/
theorem de_ix (w : DE X L a τ M fun x M1 => DE X L b τ M1 fun y M2 => ∃ ss i z, seqOf M2 x = some ss ∧ y = .d (.int i) ∧ atI ss i = some z ∧ Q z M2) (hs : PlainIx b := by exact fun _ _ => rfl) : DE X L (.Subscript a b pos) τ M Q :=
  de_of (pe_ix ix_seq pe_s pe_s hs) (we_op (de_imp w fun x M1 q => de_imp q fun y M2 ⟨ss, i, z, e1, e2, ha, q⟩ => fun G H v u Q' g a1 a2 k => by
    subst e2
    obtain ⟨p, xs, rfl, r, l⟩ := seq_at' g a1 e1
    obtain ⟨w', hw, sw⟩ := atI_sl l ha
    rcases r with r | r
    · exact .inl ⟨p, xs, i, w', rfl, sl_int a2, r, hw, k.go q g sw⟩
    · exact .inr (.inl ⟨p, xs, i, w', rfl, sl_int a2, r, hw, k.go q g sw⟩)))
/-- slices of lists -/
def sO (o : Option Expr) (X : Cx) (L : Lk) (τ : List (Option Sl)) (M : Cs) (Q : Option Int → Cs → Prop) : Prop := match o with
  | none => Q none M
  | some e => DE X L e τ M fun s M1 => ∃ i, s = .d (.int i) ∧ Q (some i) M1
theorem de_sl {lo hi : Option Expr} (w : DE X L a τ M fun x M1 => sO lo X L τ M1 fun l M2 => sO hi X L τ M2 fun h M3 => ∃ ss, isTup x = false ∧ seqOf M3 x = some ss ∧ ∀ p, M3 p = none → Q (.c p) (updC M3 p (.l (cutG ss l h)))) :
    DE X L (.Subscript a (.Slice lo hi none p2) pos) τ M Q := by
  have fin : ∀ {x : Sl} {l h : Option Int} {M3 : Cs} {v : V} {G H : Hp} {Q' : VK}, GoodM X.K L M3 G H → SlAt X.K G v x → Ret X.K L G Q Q' → (∃ ss, isTup x = false ∧ seqOf M3 x = some ss ∧ ∀ p, M3 p = none → Q (.c p) (updC M3 p (.l (cutG ss l h)))) → rSlL X.K v l h H Q' := by
    intro x l h M3 v G H Q' g a1 k ⟨ss, hT, hs, q⟩
    obtain ⟨p, xs, rfl, r, ll⟩ := seq_at g a1 hs
    rw [hT, if_neg Bool.false_ne_true] at r
    exact ⟨p, xs, rfl, r, fun c hc => k _ _ _ G _ (q c (g.free hc).2) (Ex.refl G) (g.newC hc ⟨_, upd_same, cut_sl ll l h⟩) (.c c)⟩
  cases lo with
  | none =>
    cases hi with
    | none =>
      exact de_of (pe_slice sl_list pe_s po_none po_none) fun σ G H Q' gs gm k => w σ G H _ gs gm fun x M1 v G1 H1 q e1 g1 a1 => fin g1 a1 (k.mono e1) q
    | some b =>
      exact de_of (pe_slice sl_list pe_s po_none (po_some pe_s)) fun σ G H Q' gs gm k => w σ G H _ gs gm fun x M1 v G1 H1 q e1 g1 a1 => q σ G1 H1 _ (gs.mono e1) g1 fun y M2 u G2 H2 ⟨i, ei, q2⟩ e2 g2 a2 => by
        subst ei
        exact ⟨i, sl_int a2, fin g2 (a1.mono e2) (k.mono (e1.trans e2)) q2⟩
  | some b =>
    cases hi with
    | none =>
      exact de_of (pe_slice sl_list pe_s (po_some pe_s) po_none) fun σ G H Q' gs gm k => w σ G H _ gs gm fun x M1 v G1 H1 q e1 g1 a1 => q σ G1 H1 _ (gs.mono e1) g1 fun y M2 u G2 H2 ⟨i, ei, q2⟩ e2 g2 a2 => by
        subst ei
        exact ⟨i, sl_int a2, fin g2 (a1.mono e2) (k.mono (e1.trans e2)) q2⟩
    | some c =>
      exact de_of (pe_slice sl_list pe_s (po_some pe_s) (po_some pe_s)) fun σ G H Q' gs gm k => w σ G H _ gs gm fun x M1 v G1 H1 q e1 g1 a1 => q σ G1 H1 _ (gs.mono e1) g1 fun y M2 u G2 H2 ⟨i, ei, q2⟩ e2 g2 a2 => by
        subst ei
        exact ⟨i, sl_int a2, q2 σ G2 H2 _ (gs.mono (e1.trans e2)) g2 fun z M3 t G3 H3 ⟨j, ej, q3⟩ e3 g3 a3 => by
          subst ej
          exact ⟨j, sl_int a3, fin g3 ((a1.mono e2).mono e3) (k.mono ((e1.trans e2).trans e3)) q3⟩⟩
/-! ### calls of built-ins -/
theorem de_callB {id : String} {r : List V → Hp → VK → Prop} {x : Str} (hc : CallR X (.builtin id) r) (hg : Gl X x) (hm : X.mg x = none) (hv : bootBuiltins x = some (.builtin id)) (w : DA X L (e :: es) τ M fun ss M1 => RCk X.K L r ss M1 Q) (hn : x ≠ "__name__" := by decide) (hdb : (x == ("__debug__" : Str)) = false := by decide)
    (he : starEach (e :: es) X.env = (false, eval e X.env) :: starEach es X.env := by rfl) (hpl : (backTo pos (starEach es X.env)).any (·.1) = false := by rfl) : DE X L (.Call (.Name x p) (e :: es) [] pos) τ M Q :=
  de_of (pe_callB hc hg hm hv pa_s hn hdb he hpl) fun σ G H Q' gs gm k => w σ G H _ gs gm fun ss M1 vs G1 H1 q e1 g1 a1 => q G1 H1 vs Q' g1 a1 (k.mono e1)
theorem de_callT {T : String} {r : List V → Hp → VK → Prop} {x : Str} (hc : CallR X (.type T) r) (hg : Gl X x) (hm : X.mg x = none) (hv : bootBuiltins x = some (.type T)) (w : DA X L (e :: es) τ M fun ss M1 => RCk X.K L r ss M1 Q) (hn : x ≠ "__name__" := by decide) (hdb : (x == ("__debug__" : Str)) = false := by decide)
    (he : starEach (e :: es) X.env = (false, eval e X.env) :: starEach es X.env := by rfl) (hpl : (backTo pos (starEach es X.env)).any (·.1) = false := by rfl) : DE X L (.Call (.Name x p) (e :: es) [] pos) τ M Q :=
  de_of (pe_callTy hc hg hm hv pa_s hn hdb he hpl) fun σ G H Q' gs gm k => w σ G H _ gs gm fun ss M1 vs G1 H1 q e1 g1 a1 => q G1 H1 vs Q' g1 a1 (k.mono e1)
theorem sl1 {K : PySem.W.Frag} {G : Hp} {vs : List V} {s : Sl} (a : SlL K G vs [s]) : ∃ v, vs = [v] ∧ SlAt K G v s := by
  cases a with | cons a b => cases b; exact ⟨_, rfl, a⟩
theorem sl2 {K : PySem.W.Frag} {G : Hp} {vs : List V} {s t : Sl} (a : SlL K G vs [s, t]) : ∃ v u, vs = [v, u] ∧ SlAt K G v s ∧ SlAt K G u t := by
  cases a with | cons a b => cases b with | cons b c => cases c; exact ⟨_, _, rfl, a, b⟩
theorem k_len {s : Sl} {ss : List Sl} (h : seqOf M s = some ss) (q : Q (.d (.int ss.length)) M) : RCk X.K L (fun xs H Q => ∃ p ys, xs = [.ref p] ∧ (SqL X.K H p ys ∨ SqT X.K H p ys) ∧ Q (.int ys.length) H) [s] M Q := fun G H vs Q' g a k => by
  obtain ⟨v, rfl, a1⟩ := sl1 a
  obtain ⟨p, xs, rfl, r, l⟩ := seq_at' g a1 h
  exact ⟨p, xs, rfl, r, by rw [l.len]; exact k.go q g (.d (.int _))⟩
theorem k_lenS {x : Str} (hz : x.length ≤ sizeLine) (q : Q (.d (.int x.length)) M) : RCk X.K L (fun xs H Q => ∃ z : Str, xs = [.str z] ∧ z.length ≤ sizeLine ∧ Q (.int z.length) H) [.d (.str x)] M Q := fun G H vs Q' g a k => by
  obtain ⟨v, rfl, a1⟩ := sl1 a
  rw [sl_str a1]
  exact ⟨x, rfl, hz, k.go q g (.d (.int _))⟩
theorem k_min2 {i j : Int} (q : Q (.d (.int (if j < i then j else i))) M) : RCk X.K L (fun xs H Q => ∃ i j, xs = [.int i, .int j] ∧ Q (.int (if j < i then j else i)) H) [.d (.int i), .d (.int j)] M Q := fun G H vs Q' g a k => by
  obtain ⟨v, u, rfl, a1, b1⟩ := sl2 a
  rw [sl_int a1, sl_int b1]
  exact ⟨i, j, rfl, k.go q g (.d (.int _))⟩
/-! ### calls of one's own defs -/
abbrev Rr := Lk → List Sl → Cs → (Sl → Cs → Prop) → Prop
def Spk (K : PySem.W.Frag) (R : Rr) : Sp := fun vs H Q _ => ∃ L M G ss Q0, GoodM K L M G H ∧ SlL K G vs ss ∧ R L ss M Q0 ∧ Ret K L G Q0 Q
theorem de_call {R : Rr} {k : Nat} {f : Addr} {fd : FuncData} {ps : List Str} {x : Str} (F : FnOk X.prog X.w X.K X.mg X.base CX0 k f fd ps (Spk X.K R)) (hr : Room k X.A) (hg : Gl X x) (hm : X.mg x = some (.ref f)) (hk : PySem.W.keepIn X.K (.ref f) = true) (hb : Binds X.K fd ps [])
    (w : DA X L (e :: es) τ M fun ss M1 => R L ss M1 Q) (hdb : (x == ("__debug__" : Str)) = false := by decide) (he : starEach (e :: es) X.env = (false, eval e X.env) :: starEach es X.env := by rfl) (hpl : (backTo pos (starEach es X.env)).any (·.1) = false := by rfl) : DE X L (.Call (.Name x p) (e :: es) [] pos) τ M Q :=
  de_of (pe_call F hr hg hm hk hb .nil pass0 pa_s hdb he hpl) fun σ G H Q' gs gm k => w σ G H _ gs gm fun ss M1 vs G1 H1 q e1 g1 a1 => ⟨L, M1, G1, ss, Q, g1, by rw [List.append_nil]; exact a1, q, k.mono e1⟩
def startK (N : List Str) (ss : List Sl) : List (Option Sl) := ss.map some ++ List.replicate (N.length - ss.length) none
theorem good_start {K : PySem.W.Frag} {G : Hp} {N : List Str} {vs : List V} {ss : List Sl} (a : SlL K G vs ss) : GoodS K G (L2.start N vs) (startK N ss) := by
  refine ⟨by unfold L2.start startK; simp [a.len], fun i s h => ?_⟩
  unfold startK at h
  by_cases hi : i < ss.length
  · rw [List.getElem?_append_left (by simpa using hi), List.getElem?_map] at h
    cases e : ss[i]? with
    | none => rw [e] at h; cases h
    | some t =>
      rw [e] at h
      have h' : some t = some s := Option.some.inj h
      cases h'
      obtain ⟨v, h1, h2⟩ := a.get e
      refine ⟨v, ?_, h2⟩
      unfold L2.start
      rw [List.getElem?_append_left (by rw [List.length_map, a.len]; exact hi), List.getElem?_map, h1]
      rfl
  · rw [List.getElem?_append_right (by simpa using hi), List.getElem?_replicate] at h
    split at h <;> cases h
section
variable {P : Program} {w : World} {K : PySem.W.Frag} {mg : Str → Option Value} {base : Heap}
theorem fn_k {R : Rr} {x qual : Str} {st : Stmt} {f : Addr} {fd : FuncData} {N ps : List Str} {k : Nat} (F : Fun K x qual st f fd) (S : FnScope N ps (defScope st)) (hl : ∀ L ss M Q, R L ss M Q → ss.length = ps.length)
    (hb : ∀ (cdv : Value) (A : Around) (outer : List Env) (s : Shared) (H : Hp) (E : XK) (L : Lk) (ss : List Sl) (M : Cs) (Q : Sl → Cs → Prop), Room k (A.deeper (envOfC qual (defScope st) s.heap.objs.size f cdv)) → R L ss M Q →
      DB ((cxOf CX0 P w K mg base N qual (defScope st) f cdv A outer s H E).nox) L (defBody st) (startK N ss) M { nx := fun _ M' => Q (.d .none) M', rt := Q }) : FnOk P w K mg base CX0 (k + 1) f fd ps (Spk K R) := by
  refine F.ok S (fun vs H Q E h => ?_) (fun cdv A outer s H vs Q E hr h => ?_)
  · obtain ⟨L, M, G, ss, Q0, g, a, r, _⟩ := h
    rw [a.len]
    exact hl L ss M Q0 r
  · obtain ⟨L, M, G, ss, Q0, g, a, r, q⟩ := h
    refine ⟨_, pss_s, ?_⟩
    refine hb cdv A outer s H E L ss M Q0 hr r _ G H _ (good_start a) g ⟨fun τ' M' σ' G' H' h e g' _ => q _ M' _ G' H' h e g' (.d .non), q, fun _ _ _ _ _ h => h.elim, fun _ _ _ _ _ h => h.elim⟩
end
/-! ### statements -/
theorem db_nil (h : E.nx τ M) : DB X L [] τ M E := db_of pss_nil fun σ G H D gs gm k => k.nx.go h gm gs
theorem db_cons (w : DS X L st τ M { E with nx := fun τ' M' => DB X L sts τ' M' E }) : DB X L (st :: sts) τ M E :=
  db_of (pss_cons ps_s pss_s) fun σ G H D gs gm k => w σ G H _ gs gm ⟨fun τ' M' σ' G' H' q e g s => q σ' G' H' D s g (k.mono e), k.rt, k.bk, k.ct⟩
theorem ds_ret (w : DE X L e τ M E.rt) : DS X L (.Return (some e) pos) τ M E := ds_of (ps_ret pe_s) fun σ G H D gs gm k => w σ G H _ gs gm k.rt
theorem ds_expr (w : DE X L e τ M fun _ M1 => E.nx τ M1) (hs : swapsWith e none pos.line X.env = pure false := by rfl) : DS X L (.Expr e pos) τ M E :=
  ds_of (ps_expr pe_s hs) fun σ G H D gs gm k => w σ G H _ gs gm fun s M1 v G1 H1 q e1 g1 a1 => k.nx τ M1 σ G1 H1 q e1 g1 (gs.mono e1)
theorem ds_if (w : DT X L c τ M fun d M1 => (d = true → DB X L sts τ M1 E) ∧ (d = false → DB X L st2 τ M1 E)) : DS X L (.If c sts st2 pos) τ M E :=
  ds_of (ps_if pt_s pss_s pss_s) fun σ G H D gs gm k => w σ G H _ gs gm fun d M1 G1 H1 q e1 g1 => by
    cases d with
    | true => rw [if_pos rfl]; exact q.1 rfl σ G1 H1 D (gs.mono e1) g1 (k.mono e1)
    | false => rw [if_neg Bool.false_ne_true]; exact q.2 rfl σ G1 H1 D (gs.mono e1) g1 (k.mono e1)
theorem ds_brk (h : E.bk τ M) : DS X L (.Break pos) τ M E := ds_of ps_break fun σ G H D gs gm k => k.bk.go h gm gs
theorem ds_cont (h : E.ct τ M) : DS X L (.Continue pos) τ M E := ds_of ps_continue fun σ G H D gs gm k => k.ct.go h gm gs
theorem ds_pass (h : E.nx τ M) : DS X L (.Pass pos) τ M E := ds_of ps_pass fun σ G H D gs gm k => k.nx.go h gm gs
/-! targets -/
variable {QG : List (Option Sl) → Cs → Prop} {s : Sl} {i : Nat} {nm : Str}
theorem dg_of {g : TG} {t : Expr} (h : PG X t g) (w : WG X.K L g s τ M QG) : DG X L t s τ M QG := fun σ G H v Q' gs gm a k => g_of h (w σ G H v Q' gs gm a k)
theorem wg_name (q : QG (τ.set i (some s)) M) : WG X.K L (gName i) s τ M QG := fun σ G H v Q' gs gm a k => k _ M _ G H q (Ex.refl G) gm (gs.set a i)
theorem dg_name (hN : X.N.Nodup) (hi : X.N[i]? = some nm) (hx : Loc X.env.scope nm) (q : QG (τ.set i (some s)) M) (hf : X.fn nm = true ∨ X.env.scope.names.lookup nm = some .local := by first | exact .inl rfl | exact .inr rfl | assumption) : DG X L (.Name nm pos) s τ M QG :=
  dg_of (pg_name hN hi hx hf) (wg_name q)
theorem ds_asg {tg : Expr} (w : DE X L e τ M fun s M1 => DG X L tg s τ M1 E.nx) (hs : swapsWithSole [tg] e pos.line X.env = pure false := by rfl) (hw : swappedStores [tg] e X.env = pure none := by rfl)
    (h1 : (assignEach [tg] X.env).map (·.2) = [assign tg X.env] := by rfl) : DS X L (.Assign [tg] e pos) τ M E :=
  ds_of (ps_asg pe_s pg_s hs hw h1) fun σ G H D gs gm k => w σ G H _ gs gm fun s M1 v G1 H1 q e1 g1 a1 => q σ G1 H1 v _ (gs.mono e1) g1 a1 (k.nx.mono e1)
theorem ds_set (hN : X.N.Nodup) (hi : X.N[i]? = some nm) (hx : Loc X.env.scope nm) (w : DE X L e τ M fun s M1 => E.nx (τ.set i (some s)) M1) (hs : swapsWith e (some (.Name nm p)) pos.line X.env = pure false := by rfl) (hf : X.fn nm = true ∨ X.env.scope.names.lookup nm = some .local := by first | exact .inl rfl | exact .inr rfl | assumption) : DS X L (.Assign [.Name nm p] e pos) τ M E :=
  ds_of (ps_set hN hi hx pe_s hs hf) fun σ G H D gs gm k => w σ G H _ gs gm fun s M1 v G1 H1 q e1 g1 a1 => (k.nx.mono e1).go q g1 ((gs.mono e1).set a1 i)
/-- a, b, .. = a tuple -/
theorem wgs_nil (q : QG τ M) : WGs X.K L gNil [] τ M QG := fun σ G H vs Q' gs gm a k => by
  cases a
  exact ⟨rfl, k.go q gm gs⟩
theorem wgs_cons {t : TG} {u : TGs} {ss : List Sl} (w : WG X.K L t s τ M fun τ1 M1 => WGs X.K L u ss τ1 M1 QG) : WGs X.K L (gCons t u) (s :: ss) τ M QG := fun σ G H vs Q' gs gm a k => by
  cases a with
  | cons a b => exact ⟨_, _, rfl, w σ G H _ _ gs gm a fun τ1 M1 σ1 G1 H1 q e1 g1 s1 => q σ1 G1 H1 _ Q' s1 g1 (b.mono e1) (k.mono e1)⟩
theorem wg_tup {n : Nat} {t : TGs} {ss : List Sl} (hT : isTup s = true) (h : seqOf M s = some ss) (hn : ss.length = n) (w : WGs X.K L t ss τ M QG) : WG X.K L (gTup X.K n t) s τ M QG := fun σ G H v Q' gs gm a k => by
  obtain ⟨p, xs, rfl, r, l⟩ := seq_at gm a h
  rw [hT, if_pos rfl] at r
  exact ⟨p, xs, rfl, r, by rw [l.len]; exact hn, w σ G H xs Q' gs gm l k⟩
/-- a, b = e1, e2 -/
theorem ds_par {j : Nat} {x y : Str} {px py pt : Pos} {kt k2 pt2} (hc : X.calm = true) (hN : X.N.Nodup) (hi : X.N[i]? = some x) (hj : X.N[j]? = some y) (hij : i ≠ j)
    (hx : X.env.scope.names.lookup x = some .local) (hy : X.env.scope.names.lookup y = some .local) (w : DA X L [a, b] τ M fun ss M1 => ∃ s t, ss = [s, t] ∧ E.nx ((τ.set i (some s)).set j (some t)) M1)
    (hw : swappedStores [.Tuple [.Name x px, .Name y py] kt pt] (.Tuple [a, b] k2 pt2) X.env = pure (some [x, y]) := by rfl)
    (hs : swapsWithSole [.Tuple [.Name x px, .Name y py] kt pt] (.Tuple [a, b] k2 pt2) pos.line X.env = pure false := by rfl) : DS X L (.Assign [.Tuple [.Name x px, .Name y py] kt pt] (.Tuple [a, b] k2 pt2) pos) τ M E :=
  ds_of (ps_par hc hN hi hj hij hx hy pa_s hw hs) fun σ G H D gs gm k => w σ G H _ gs gm fun ss M1 vs G1 H1 ⟨s, t, e, q⟩ e1 g1 a1 => by
    subst e
    obtain ⟨v, u, rfl, h1, h2⟩ := sl2 a1
    exact ⟨v, u, rfl, (k.nx.mono e1).go q g1 (((gs.mono e1).set h1 i).set h2 j)⟩
/-- x op= e -/
theorem ds_aug {op : Operator} {ti : TIp} (hN : X.N.Nodup) (hi : X.N[i]? = some nm) (hx : Loc X.env.scope nm) (ho : PIp X op ti) (ht : τ[i]? = some (some s)) (w : DE X L e τ M fun y M1 => R2k X.K L ti s y M1 fun z M2 => E.nx (τ.set i (some z)) M2)
    (hf : X.fn nm = true ∨ X.env.scope.names.lookup nm = some .local := by first | exact .inl rfl | exact .inr rfl | assumption) : DS X L (.AugAssign (.Name nm p) op e pos) τ M E :=
  ds_of (ps_aug hN hi hx pe_s ho hf) fun σ G H D gs gm k => by
    obtain ⟨v, h1, h2⟩ := gs.get i s ht
    exact ⟨v, h1, w σ G H _ gs gm fun y M1 u G1 H1 q e1 g1 a1 => q G1 H1 v u _ g1 (h2.mono e1) a1 fun z M2 t G2 H2 q2 e2 g2 a2 => (k.nx.mono (e1.trans e2)).go q2 g2 ((gs.mono (e1.trans e2)).set a2 i)⟩
end
end Y

namespace Y
open PySem L2 PyProof.Rows PySem.TypeEq

theorem slot_type_ne : Slot "type" (cmpInfo .NotEq).2.1 "object.__ne__" :=
  .of (owner := "object") (n := "__ne__") (by rw [typeLookup_type, builtinLookup_eq_fast]; kernel_rfl) (by decide +kernel) (by decide +kernel) (by decide +kernel)
    (by first | exact .inl (by decide +kernel) | exact .inr (by decide +kernel)) (by rw [isSubtype_type]; kernel_rfl)
theorem slot_type_ne_refl : Slot "type" (cmpInfo .NotEq).2.2 "object.__ne__" :=
  .of (owner := "object") (n := "__ne__") (by rw [typeLookup_type, builtinLookup_eq_fast]; kernel_rfl) (by decide +kernel) (by decide +kernel) (by decide +kernel)
    (by first | exact .inl (by decide +kernel) | exact .inr (by decide +kernel)) (by rw [isSubtype_type]; kernel_rfl)
theorem slot_type_eqN : Slot "type" "__eq__" "object.__eq__" := slot_type_eq
theorem object_ne_same {X : String} (hX : ∀ s' : Shared, s'.TypeIs (.type X) "type") : Gives (Builtin.«object.__ne__» ⟨[.type X, .type X], []⟩) (.val (.bool false)) := fun prog w A R s h => by
  unfold Builtin.«object.__ne__»
  repeat (first | with_reducible refine wpAny_cRoomFor_or (.inl rfl) ?_ | (refine wpAny_bind (m := callSpecialIfBound? (.type X) (Str.ofString "__eq__") [.type X]) (wpAny_callSpecialIfBound?_slot (hX _) slot_type_eqN (call_gives slot_type_eqN (hX _) F.entry_object_eq (F.args_object_eq_2 _ _) (object_eq_same rfl (by simp)) ?_))) | wp_step)
  show wpAny _ _ _ _ _ _
  refine wpAny_bind (wpAny_truthy_bool ?_)
  exact wpAny_pure h
theorem object_ne_other {X Y : String} (hX : ∀ s' : Shared, s'.TypeIs (.type X) "type") (hne : (Value.type X == Value.type Y) = false) : Gives (Builtin.«object.__ne__» ⟨[.type X, .type Y], []⟩) (.val .notImplemented) := fun prog w A R s h => by
  unfold Builtin.«object.__ne__»
  repeat (first | with_reducible refine wpAny_cRoomFor_or (.inl rfl) ?_ | (refine wpAny_bind (m := callSpecialIfBound? (.type X) (Str.ofString "__eq__") [.type Y]) (wpAny_callSpecialIfBound?_slot (hX _) slot_type_eqN (call_gives slot_type_eqN (hX _) F.entry_object_eq (F.args_object_eq_2 _ _) (object_eq_other rfl hne) ?_))) | wp_step)
  show wpAny _ _ _ _ _ _
  exact wpAny_pure h
section
variable {M : Model} {prog : Program} {w : World} {A : Around} {E : Value → Shared → Prop} {s : Shared}
theorem rc_ne_same_decline {a b : Value} {T id : String} {k : Bool} {Q : Value → Shared → Prop} (ha : ∀ s' : Shared, s'.TypeIs a T) (hb : ∀ s' : Shared, s'.TypeIs b T)
    (h1 : Slot T (cmpInfo .NotEq).2.1 id) (h2 : Slot T (cmpInfo .NotEq).2.2 id) (hv : [a, b].any Value.onHeap = false) (hk : isSame a b = pure k)
    (hc : wpAny M A (call (.builtin id) [a, b]) (fun v s₁ => v = .notImplemented ∧ wpAny M A (call (.builtin id) [b, a]) (fun v s₂ => v = .notImplemented ∧ Q (.bool (!k)) s₂) E s₁) E s) :
    wpAny M A (richCompare .NotEq a b) Q E s := by
  rcases hi : cmpInfo CmpOp.NotEq with ⟨sym, f, r⟩
  rw [hi] at h1 h2
  simp only [richCompare, hi, (ha s).oneThing_none]
  try with_reducible refine wpAny_holding ?_
  refine wpAny_bind (wpAny_cRoomFor_or (.inl hv) ?_)
  refine wpAny_bind (wpAny_typeOf (ha s) (wpAny_bind (wpAny_typeOf (hb s) ?_)))
  simp only [bne_self_eq_false, Bool.false_eq_true, if_false, pure_bind, Bool.not_false, if_true]
  refine wpAny_bind (m := tryCompare a _ b) (wpAny_tryCompare_declines (ha s) h1 (wpAny_mono hc (fun v s₁ h₁ => ⟨h₁.1, ?_⟩) fun _ _ x => x))
  refine wpAny_bind (m := tryCompare b _ a) (wpAny_tryCompare_declines (hb s₁) h2 (wpAny_mono h₁.2 (fun v s₂ h₂ => ⟨h₂.1, ?_⟩) fun _ _ x => x))
  refine wpAny_bind (wpAny_rule (wpAny_bind (wpAny_of_eq hk (wpAny_pure h₂.2))))
theorem ne_type_same {X : String} {Q : Value → Shared → Prop} (hX : ∀ s' : Shared, s'.TypeIs (.type X) "type") (h : Q (.bool false) s) : wpAny (model prog w) A (compareOp .NotEq (.type X) (.type X)) Q E s := by
  show wpAny _ A (richCompare .NotEq _ _) Q E s
  exact wpAny_richCompare_same (T := "type") (hX s) (hX s) slot_type_ne (call_gives slot_type_ne (hX s) F.cmpEntry_ne (F.cmpArgs_ne _ _) (object_ne_same hX) ⟨(by intro e; cases e), h⟩)
theorem ne_type_other {X Y : String} {Q : Value → Shared → Prop} (hX : ∀ s' : Shared, s'.TypeIs (.type X) "type") (hY : ∀ s' : Shared, s'.TypeIs (.type Y) "type") (hne : (Value.type X == Value.type Y) = false) (h : Q (.bool true) s) : wpAny (model prog w) A (compareOp .NotEq (.type X) (.type Y)) Q E s := by
  have hne' : (Value.type Y == Value.type X) = false := by
    rw [Bool.eq_false_iff] at hne ⊢
    intro e
    exact hne (by rw [beq_iff_eq] at e ⊢; exact e.symm)
  show wpAny _ A (richCompare .NotEq _ _) Q E s
  exact rc_ne_same_decline (T := "type") (k := false) hX hY slot_type_ne slot_type_ne_refl rfl (by rw [isSame_plain rfl, hne])
    (call_gives slot_type_ne (hX s) F.cmpEntry_ne (F.cmpArgs_ne _ _) (object_ne_other hX hne) ⟨rfl, call_gives slot_type_ne_refl (hY s) F.cmpEntry_ne (F.cmpArgs_ne _ _) (object_ne_other hY hne') ⟨rfl, h⟩⟩)
end
/-- the classes that the programs name -/
def okTy (n : String) : Prop := ∀ s' : Shared, s'.TypeIs (.type n) "type"
section
variable {X : Cx} {L : Lk} {M : Cs} {Q : Sl → Cs → Prop}
def rNeTy : R2 := fun x y H Q => ∃ a b, x = .ty a ∧ y = .ty b ∧ okTy a ∧ okTy b ∧ Q (.bl (!decide (a = b))) H
def rEqTy : R2 := fun x y H Q => ∃ a b, x = .ty a ∧ y = .ty b ∧ okTy a ∧ okTy b ∧ Q (.bl (decide (a = b))) H
theorem ty_ne {a b : String} (h : a ≠ b) : (Value.type a == Value.type b) = false := beq_eq_false_iff_ne.mpr fun z => h (Value.type.inj z)
theorem op_neTy : OpR X (compareOp .NotEq) rNeTy := by
  intro pins s σ H x y v u Q I rx ry h
  obtain ⟨a, b, rfl, rfl, ha, hb, q⟩ := h
  cases (show v = Value.type a from rx)
  cases (show u = Value.type b from ry)
  by_cases e : a = b
  · subst e
    exact ne_type_same ha (fin_bl I q (by simp))
  · exact ne_type_other ha hb (ty_ne e) (fin_bl I q (by simp [e]))
theorem op_eqTy : OpR X (compareOp .Eq) rEqTy := by
  intro pins s σ H x y v u Q I rx ry h
  obtain ⟨a, b, rfl, rfl, ha, hb, q⟩ := h
  cases (show v = Value.type a from rx)
  cases (show u = Value.type b from ry)
  by_cases e : a = b
  · subst e
    exact eq_type_same ha (fin_bl I q (by simp))
  · exact eq_type_other ha hb (ty_ne e) (fin_bl I q (by simp [e]))
theorem eqAt_ty {A : Around} {s : Shared} {a b : String} (ha : okTy a) (hb : okTy b) : SeqAt.EqAt A s (.type a) (.type b) (decide (a = b)) := fun prog w E Q h => by
  unfold eqBool
  refine wpAny_holding ?_
  by_cases e : a = b
  · subst e
    refine wpAny_ite_split (fun _ => ?_) (fun z => absurd (beq_self_eq_true (Value.type a)) z)
    rw [decide_eq_true rfl] at h
    exact wpAny_bind (wpAny_rule (wpAny_pure h))
  · refine wpAny_ite_split (fun z => absurd z (by rw [ty_ne e]; exact Bool.false_ne_true)) (fun _ => ?_)
    rw [decide_eq_false e] at h
    exact wpAny_bind (eq_type_other ha hb (ty_ne e) (wpAny_truthy_bool h))
/-- a class in, not in a tuple of classes -/
def rInTy (neg : Bool) : R2 := fun x y H Q => ∃ (a : String) (p : Addr) (ts : List String), x = .ty a ∧ y = .ref p ∧ Rd H p (.tup (ts.map V.ty)) ∧ okTy a ∧ (∀ t ∈ ts, okTy t) ∧ Q (.bl (if neg then !(ts.any fun t => decide (t = a)) else ts.any fun t => decide (t = a))) H
theorem tys_eq : ∀ {ts : List String} {us : List Value}, Vals (ts.map V.ty) us → us = ts.map Value.type
  | [], _, h => by cases h; rfl
  | t :: r, _, h => by
    cases h with
    | cons a b =>
      have e := tys_eq (ts := r) b
      rw [e]
      cases (show _ = Value.type t from a)
      rfl
def tyIs (a : String) (v : Value) : Bool := match v with
  | .type t => decide (t = a)
  | _ => false
theorem tys_any (a : String) : ∀ ts : List String, (ts.map Value.type).any (tyIs a) = ts.any fun t => decide (t = a)
  | [] => rfl
  | t :: r => by
    rw [List.map_cons, List.any_cons, List.any_cons, tys_any a r]
    rfl
theorem op_niTy : OpR X (compareOp .NotIn) (rInTy true) := by
  intro pins s σ H x y v u Q I rx ry h
  obtain ⟨a, p, ts, rfl, rfl, hq, ha, ht, q⟩ := h
  cases (show v = Value.type a from rx)
  cases ry
  obtain ⟨its, r, pl, hz⟩ := I.tuple (.inl hq)
  have e := tys_eq r
  subst e
  refine SeqAt.notIn_tupleAt (tyIs a) pl (fun w hw => ?_) ⟨.bl _, H, I, rfl, ?_⟩
  · have hw : w ∈ ts.map Value.type := by simpa using hw
    obtain ⟨t, h1, rfl⟩ := List.mem_map.mp hw
    exact eqAt_ty (ht t h1) ha
  · rw [show (ts.map Value.type).toArray.any (tyIs a) = (ts.map Value.type).any (tyIs a) by simp, tys_any]
    exact q
end
end Y

namespace Y
open PySem L2 PyProof.Rows

/-! ### what is walked -/
def sI (X : Cx) (tg iter : Expr) : TI := fun σ H R => ∀ pins s, Inv X pins σ H s → wpAny (model X.prog X.w) X.A (eval iter X.env) (fun v s1 => wpAny (model X.prog X.w) X.A (pyIter v) (PIE X pins σ tg R) X.xe s1) X.xe s
theorem pi_s {X : Cx} {tg iter : Expr} : PI X tg iter (sI X tg iter) := ⟨fun pins s _ _ _ I h => h pins s I⟩
theorem i_of {X : Cx} {tg iter : Expr} {wi : TI} {σ : L2.St} {H : Hp} {R : It → Hp → Prop} (h : PI X tg iter wi) (q : wi σ H R) : sI X tg iter σ H R := fun pins s I => h.run pins s σ H R I q
structure ItOk (K : PySem.W.Frag) (L : Lk) (G1 : Hp) (J : It) (n : Nat) (S : Cs → Prop) (ys : Nat → Sl → Prop) : Prop where
  stop : ∀ M' G' H, S M' → Ex G1 G' → GoodM K L M' G' H → J.stop n H
  go : ∀ i M' G' H, i < n → S M' → Ex G1 G' → GoodM K L M' G' H → J.go i H ∧ ∀ x H', J.yld i H x H' → ∃ y G'', ys i y ∧ Ex G' G'' ∧ GoodM K L M' G'' H' ∧ SlAt K G'' x y
abbrev QI := Nat → (Cs → Prop) → (Nat → Sl → Prop) → Cs → Prop
def DI (X : Cx) (L : Lk) (tg iter : Expr) (τ : List (Option Sl)) (M : Cs) (Q : QI) : Prop := ∀ σ G H R, GoodS X.K G σ τ → GoodM X.K L M G H → (∀ n S ys M1 G1 H1 J, Q n S ys M1 → Ex G G1 → GoodM X.K L M1 G1 H1 → ItOk X.K L G1 J n S ys → R J H1) → sI X tg iter σ H R
def iSeq (K : PySem.W.Frag) (tl : TE) : TI := fun σ H R => tl σ H fun x H1 => ∃ a, x = .ref a ∧ (((∃ xs, SqL K H1 a xs) ∧ R (Itl K a) H1) ∨ ((∃ xs, SqT K H1 a xs) ∧ R (Itt K a) H1))
section
variable {X : Cx} {L : Lk} {τ : List (Option Sl)} {M : Cs} {Q : Sl → Cs → Prop} {QB : Bool → Cs → Prop} {QA : List Sl → Cs → Prop} {e a b c tg iter : Expr} {es : List Expr} {pos : Pos} {E : Ks} {st : Stmt} {sts body : List Stmt} {p p2 : Pos} {x y : Sl} {QJ : QI}
theorem pi_seq {l : Expr} {tl : TE} (hl : PE X l tl) : PI X tg l (iSeq X.K tl) := by
  refine ⟨fun pins s σ H R I h => ?_⟩
  refine thn (hl.run pins s σ H _ I h) fun v s1 ⟨x, H1, I1, r1, q1⟩ => ?_
  obtain ⟨a, e, q⟩ := q1
  subst e
  cases r1
  have fp : ∀ {o : Obj}, ∀ b ∈ [s1.heap.objs.size], FpOk X pins H1 b := fun {o} b hb => by
    have e : b = s1.heap.objs.size := by simpa using hb
    subst e
    exact I1.fpOk (Nat.le_refl _) (I1.hok.fresh (Nat.le_refl _))
  rcases q with ⟨⟨xs, hq⟩, q⟩ | ⟨⟨xs, hq⟩, q⟩
  · obtain ⟨its, rv, p, hz⟩ := I1.list hq
    refine wpAny_pyIter_list p.isList ?_
    exact ⟨s1.heap.objs.size, [s1.heap.objs.size], _, _, H1, rfl, I1.kept (t' := s1.toks) fun b o e => Heap.get?_push_of_some _ e, turn_list a _, ⟨_, Heap.get?_push_size _ rfl, rfl, rfl⟩, fp (o := default), q⟩
  · obtain ⟨its, rv, p, hz⟩ := I1.tuple hq
    refine wpAny_pyIter_tuple (show s1.heap.IsTuple a its.toArray from p) ?_
    exact ⟨s1.heap.objs.size, [s1.heap.objs.size], _, _, H1, rfl, I1.kept (t' := s1.toks) fun b o e => Heap.get?_push_of_some _ e, turn_tuple a _, ⟨_, Heap.get?_push_size _ rfl, rfl, rfl⟩, fp (o := default), q⟩
theorem di_seq (w : DE X L iter τ M fun s M1 => ∃ ss, seqOf M1 s = some ss ∧ QJ ss.length (fun M' => seqOf M' s = some ss) (fun i y => ss[i]? = some y) M1) : DI X L tg iter τ M QJ := fun σ G H R gs gm k => by
    refine i_of (pi_seq pe_s) ?_
    show sE X iter σ H (fun x H1 => ∃ a, x = .ref a ∧ (((∃ xs, SqL X.K H1 a xs) ∧ R (Itl X.K a) H1) ∨ ((∃ xs, SqT X.K H1 a xs) ∧ R (Itt X.K a) H1)))
    refine w σ G H _ gs gm ?_
    rintro s M1 v G1 H1 ⟨ss, hs, q⟩ e1 g1 a1
    obtain ⟨p, xs, rfl, r, l⟩ := seq_at g1 a1 hs
    refine ⟨p, rfl, ?_⟩
    cases hT : isTup s with
    | false =>
      rw [hT, if_neg Bool.false_ne_true] at r
      refine .inl ⟨⟨xs, r⟩, k _ _ _ M1 G1 H1 _ q e1 g1 ⟨fun M' G' H' sM e' g' => ?_, fun i M' G' H' hi sM e' g' => ?_⟩⟩
      · obtain ⟨p', xs', ep, r', l'⟩ := seq_at g' (a1.mono e') sM
        cases ep
        rw [hT, if_neg Bool.false_ne_true] at r'
        exact ⟨xs', r', Nat.le_of_eq l'.len⟩
      · obtain ⟨p', xs', ep, r', l'⟩ := seq_at g' (a1.mono e') sM
        cases ep
        rw [hT, if_neg Bool.false_ne_true] at r'
        obtain ⟨v, hv, av⟩ := l'.get (List.getElem?_eq_getElem hi)
        refine ⟨⟨xs', v, r', hv⟩, fun x H2 hy => ?_⟩
        obtain ⟨rfl, f⟩ := hy
        have ex := Option.some.inj ((f _ r').symm.trans hv)
        subst ex
        exact ⟨_, G', List.getElem?_eq_getElem hi, Ex.refl _, g', av⟩
    | true =>
      rw [hT, if_pos rfl] at r
      refine .inr ⟨⟨xs, r⟩, k _ _ _ M1 G1 H1 _ q e1 g1 ⟨fun M' G' H' sM e' g' => ?_, fun i M' G' H' hi sM e' g' => ?_⟩⟩
      · obtain ⟨p', xs', ep, r', l'⟩ := seq_at g' (a1.mono e') sM
        cases ep
        rw [hT, if_pos rfl] at r'
        exact ⟨xs', r', Nat.le_of_eq l'.len⟩
      · obtain ⟨p', xs', ep, r', l'⟩ := seq_at g' (a1.mono e') sM
        cases ep
        rw [hT, if_pos rfl] at r'
        obtain ⟨v, hv, av⟩ := l'.get (List.getElem?_eq_getElem hi)
        refine ⟨⟨xs', v, r', hv⟩, fun x H2 hy => ?_⟩
        obtain ⟨rfl, f⟩ := hy
        have ex := Option.some.inj ((f _ r').symm.trans hv)
        subst ex
        exact ⟨_, G', List.getElem?_eq_getElem hi, Ex.refl _, g', av⟩
theorem itr_ok {K : PySem.W.Frag} {L : Lk} {G1 : Hp} {lo : Int} {n : Nat} : ItOk K L G1 (Itr lo n) n (fun _ => True) (fun i y => y = dI (lo + i)) :=
  ⟨fun M' G' H _ _ _ => Nat.le_refl _, fun i M' G' H hi _ _ g' => ⟨hi, fun x H' ⟨e1, e2⟩ => by
    subst e1 e2
    exact ⟨_, G', rfl, Ex.refl _, g', .d (.int _)⟩⟩⟩
theorem di_range1 (hg : Gl X "range") (hm : X.mg "range" = none) (w : DE X L a τ M fun s M1 => ∃ j : Int, s = dI j ∧ -(2 ^ 62) ≤ j ∧ j < 2 ^ 62 ∧ QJ j.toNat (fun _ => True) (fun i y => y = dI i) M1)
    (hs : starEach [a] X.env = [(false, eval a X.env)] := by rfl) (hs0 : starEach (a :: []) X.env = (false, eval a X.env) :: starEach [] X.env := by rfl) : DI X L tg (.Call (.Name "range" p) [a] [] pos) τ M QJ := fun σ G H R gs gm k => by
    refine i_of (pi_range1 hg hm (pa_cons pe_s pa_nil hs0) hs) ?_
    show sE X a σ H (fun x H1 => ∃ j : Int, [x] = [V.int j] ∧ -(2 ^ 62) ≤ j ∧ j < 2 ^ 62 ∧ R (Itr 0 j.toNat) H1)
    refine w σ G H _ gs gm ?_
    rintro s M1 v G1 H1 ⟨j, es, h1, h2, q⟩ e1 g1 a1
    subst es
    refine ⟨j, by rw [sl_int a1], h1, h2, k _ _ _ M1 G1 H1 _ q e1 g1 ?_⟩
    have z := itr_ok (K := X.K) (L := L) (G1 := G1) (lo := 0) (n := j.toNat)
    simpa using z
theorem di_range2 (hg : Gl X "range") (hm : X.mg "range" = none) (w : DE X L a τ M fun s M1 => DE X L b τ M1 fun t M2 => ∃ i j : Int, s = dI i ∧ t = dI j ∧ (-(2 ^ 62) ≤ i ∧ i < 2 ^ 62 ∧ -(2 ^ 62) ≤ j ∧ j < 2 ^ 62) ∧ QJ (j - i).toNat (fun _ => True) (fun n y => y = dI (i + n)) M2)
    (hs : starEach [a, b] X.env = [(false, eval a X.env), (false, eval b X.env)] := by rfl) (hs2 : starEach [b] X.env = [(false, eval b X.env)] := by rfl) (hs0 : starEach (a :: [b]) X.env = (false, eval a X.env) :: starEach [b] X.env := by rfl) (hs1 : starEach (b :: []) X.env = (false, eval b X.env) :: starEach [] X.env := by rfl) :
    DI X L tg (.Call (.Name "range" p) [a, b] [] pos) τ M QJ := fun σ G H R gs gm k => by
    refine i_of (pi_range2 hg hm (pa_cons pe_s (pa_cons pe_s pa_nil hs1) hs0) hs hs2) ?_
    show sE X a σ H (fun x H1 => sE X b σ H1 fun y H2 => ∃ i j : Int, [x, y] = [V.int i, V.int j] ∧ (-(2 ^ 62) ≤ i ∧ i < 2 ^ 62 ∧ -(2 ^ 62) ≤ j ∧ j < 2 ^ 62) ∧ R (Itr i (j - i).toNat) H2)
    refine w σ G H _ gs gm fun s M1 v G1 H1 q e1 g1 a1 => q σ G1 H1 _ (gs.mono e1) g1 ?_
    rintro t M2 u G2 H2 ⟨i, j, es, et, hb, q1⟩ e2 g2 a2
    subst es et
    exact ⟨i, j, by rw [sl_int a1, sl_int a2], hb, k _ _ _ M2 G2 H2 _ q1 (e1.trans e2) g2 itr_ok⟩
/-! ### for, while -/
theorem ds_for (hp : PassesOwn (model X.prog X.w) X.A X.env X.xe) (hc : X.calm = true) (w : DI X L tg iter τ M fun n S ys M1 => ∃ Iv : Nat → List (Option Sl) → Cs → Prop, Iv 0 τ M1 ∧ (∀ i τ' M', Iv i τ' M' → S M') ∧
      (∀ i y τ' M', i < n → ys i y → Iv i τ' M' → DG X L tg y τ' M' fun τ2 M2 => DB X L body τ2 M2 { E with nx := Iv (i + 1), ct := Iv (i + 1), bk := E.nx }) ∧ (∀ τ' M', Iv n τ' M' → E.nx τ' M'))
    (hs : ∀ x, foldedSetIterable iter X.env x = pure x := by intro _; rfl) : DS X L (.For tg iter body [] pos) τ M E :=
  ds_of (ps_for hp hc pi_s pg_s pss_s hs) fun σ G H D gs gm k => w σ G H _ gs gm fun n S ys M1 G1 H1 J ⟨Iv, i0, st, turn, fin⟩ e1 g1 ok => by
    refine ⟨fun i m σ' H' => m = n - i ∧ i ≤ n ∧ ∃ τ' M' G', Iv i τ' M' ∧ Ex G1 G' ∧ GoodS X.K G' σ' τ' ∧ GoodM X.K L M' G' H', ⟨n, by simp, Nat.zero_le _, τ, M1, G1, i0, Ex.refl _, gs.mono e1, g1⟩, ?_⟩
    rintro i m σ' H' ⟨rfl, hi, τ', M', G', iv, e', s', g'⟩
    by_cases hlt : i < n
    · obtain ⟨go, yl⟩ := ok.go i M' G' H' hlt (st _ _ _ iv) e' g'
      refine .inr ⟨go, fun σ2 H2 => ∃ τ2 M2 G2, Iv (i + 1) τ2 M2 ∧ Ex G1 G2 ∧ GoodS X.K G2 σ2 τ2 ∧ GoodM X.K L M2 G2 H2, fun σ2 H2 ⟨τ2, M2, G2, h⟩ => ⟨n - (i + 1), by omega, rfl, hlt, τ2, M2, G2, h⟩, fun x H2 hy => ?_⟩
      obtain ⟨y, G2, yy, e2, g2, ay⟩ := yl x H2 hy
      have e12 := e'.trans e2
      refine turn i y τ' M' hlt yy iv σ' G2 H2 x _ (s'.mono e2) g2 ay fun τ3 M3 σ3 G3 H3 q3 e3 g3 s3 => ?_
      have e13 := e12.trans e3
      exact q3 σ3 G3 H3 _ s3 g3 ⟨fun τ4 M4 σ4 G4 H4 q4 e4 g4 s4 => ⟨τ4, M4, G4, q4, e13.trans e4, s4, g4⟩, k.rt.mono (e1.trans e13), k.nx.mono (e1.trans e13), fun τ4 M4 σ4 G4 H4 q4 e4 g4 s4 => ⟨τ4, M4, G4, q4, e13.trans e4, s4, g4⟩⟩
    · have e : i = n := by omega
      subst e
      exact .inl ⟨ok.stop M' G' H' (st _ _ _ iv) e' g', k.nx τ' M' σ' G' H' (fin _ _ iv) (e1.trans e') g' s'⟩
theorem ds_while (hp : PassesOwn (model X.prog X.w) X.A X.env X.xe) (Iv : Nat → List (Option Sl) → Cs → Prop) (n : Nat) (i0 : Iv n τ M)
    (turn : ∀ m τ' M', Iv m τ' M' → DT X L c τ' M' fun d M1 => (d = true → DB X L body τ' M1 { E with nx := fun τ2 M2 => ∃ m', m' < m ∧ Iv m' τ2 M2, ct := fun τ2 M2 => ∃ m', m' < m ∧ Iv m' τ2 M2, bk := E.nx }) ∧ (d = false → E.nx τ' M1)) : DS X L (.While c body [] pos) τ M E :=
  ds_of (ps_while hp pt_s pss_s) fun σ G H D gs gm k => by
    refine ⟨fun m σ' H' => ∃ τ' M' G', Iv m τ' M' ∧ Ex G G' ∧ GoodS X.K G' σ' τ' ∧ GoodM X.K L M' G' H', ⟨n, τ, M, G, i0, Ex.refl _, gs, gm⟩, ?_⟩
    rintro m σ' H' ⟨τ', M', G', iv, e', s', g'⟩
    refine turn m τ' M' iv σ' G' H' _ s' g' fun d M1 G1 H1 q e1 g1 => ?_
    have e01 := e'.trans e1
    cases d with
    | true =>
      rw [if_pos rfl]
      refine ⟨fun σ2 H2 => ∃ m', m' < m ∧ ∃ τ2 M2 G2, Iv m' τ2 M2 ∧ Ex G G2 ∧ GoodS X.K G2 σ2 τ2 ∧ GoodM X.K L M2 G2 H2, fun σ2 H2 ⟨m', hm, h⟩ => ⟨m', hm, h⟩, ?_⟩
      exact q.1 rfl σ' G1 H1 _ (s'.mono e1) g1 ⟨fun τ4 M4 σ4 G4 H4 ⟨m', hm, q4⟩ e4 g4 s4 => ⟨m', hm, τ4, M4, G4, q4, e01.trans e4, s4, g4⟩, k.rt.mono e01, k.nx.mono e01, fun τ4 M4 σ4 G4 H4 ⟨m', hm, q4⟩ e4 g4 s4 => ⟨m', hm, τ4, M4, G4, q4, e01.trans e4, s4, g4⟩⟩
    | false =>
      rw [if_neg Bool.false_ne_true]
      exact k.nx τ' M1 σ' G1 H1 (q.2 rfl) e01 g1 (s'.mono e1)
end
/-! ### comprehensions -/
def wipeK (τ : List (Option Sl)) : List Nat → List (Option Sl)
  | [] => τ
  | v :: vs => (wipeK τ vs).set v none
theorem GoodS.drop {K : PySem.W.Frag} {G : Hp} {σ : L2.St} {τ : List (Option Sl)} (g : GoodS K G σ τ) (i : Nat) : GoodS K G (σ.set i none) (τ.set i none) := ⟨by rw [List.length_set, List.length_set, g.len], fun j t h => by
  by_cases e : i = j
  · subst e
    by_cases hl : i < τ.length
    · rw [List.getElem?_set_self hl] at h
      cases h
    · rw [List.getElem?_eq_none (by rw [List.length_set]; omega)] at h
      cases h
  · rw [List.getElem?_set_ne e] at h
    obtain ⟨w, h1, h2⟩ := g.get j t h
    exact ⟨w, by rw [List.getElem?_set_ne e]; exact h1, h2⟩⟩
theorem GoodS.wipe {K : PySem.W.Frag} {G : Hp} {σ : L2.St} {τ : List (Option Sl)} (g : GoodS K G σ τ) : ∀ vs : List Nat, GoodS K G (L2.wipe σ vs) (wipeK τ vs)
  | [] => g
  | v :: vs => (GoodS.wipe g vs).drop v
theorem wipe_get {σ : L2.St} {i : Nat} : ∀ {vs : List Nat}, (L2.wipe σ vs)[i]? = if i ∈ vs then (σ[i]?.map fun _ => none) else σ[i]?
  | [] => by simp [L2.wipe]
  | v :: vs => by
    unfold L2.wipe
    rw [List.getElem?_set, wipe_get (vs := vs), wipe_length]
    by_cases hv : v = i
    · subst hv
      by_cases hl : v < σ.length
      · simp [hl]
      · simp [hl]
    · have hv' : ¬ i = v := fun z => hv z.symm
      simp [hv, hv']
theorem wipe_set {σ : L2.St} {i : Nat} {o : Option V} {vs : List Nat} (h : i ∈ vs) : L2.wipe (σ.set i o) vs = L2.wipe σ vs := by
  apply List.ext_getElem?
  intro j
  rw [wipe_get, wipe_get]
  by_cases hj : j ∈ vs
  · rw [if_pos hj, if_pos hj, List.getElem?_set]
    by_cases e : i = j
    · subst e
      by_cases hl : i < σ.length <;> simp [hl]
    · simp [e]
  · rw [if_neg hj, if_neg hj, List.getElem?_set_ne (fun e : i = j => hj (by rw [← e]; exact h))]
theorem wipe_wipe {σ : L2.St} {vs : List Nat} : L2.wipe (L2.wipe σ vs) vs = L2.wipe σ vs := by
  apply List.ext_getElem?
  intro j
  rw [wipe_get, wipe_get]
  by_cases hj : j ∈ vs
  · rw [if_pos hj, if_pos hj]
    cases σ[j]? <;> rfl
  · rw [if_neg hj, if_neg hj]
section
variable (K : PySem.W.Frag) (L : Lk) (vs : List Nat)
def WGw (g : TG) (s : Sl) (τ : List (Option Sl)) (M : Cs) (Q : List (Option Sl) → Cs → Prop) : Prop := ∀ σ G H v Q', GoodS K G σ τ → GoodM K L M G H → SlAt K G v s → (∀ τ' M' σ' G' H', Q τ' M' → Ex G G' → GoodM K L M' G' H' → GoodS K G' σ' τ' → L2.wipe σ' vs = L2.wipe σ vs → Q' σ' H') → g v σ H Q'
def WGws (g : TGs) (ss : List Sl) (τ : List (Option Sl)) (M : Cs) (Q : List (Option Sl) → Cs → Prop) : Prop := ∀ σ G H v Q', GoodS K G σ τ → GoodM K L M G H → SlL K G v ss → (∀ τ' M' σ' G' H', Q τ' M' → Ex G G' → GoodM K L M' G' H' → GoodS K G' σ' τ' → L2.wipe σ' vs = L2.wipe σ vs → Q' σ' H') → g v σ H Q'
end
section
variable {K : PySem.W.Frag} {L : Lk} {vs : List Nat} {τ : List (Option Sl)} {M : Cs} {QG : List (Option Sl) → Cs → Prop} {s : Sl} {ss : List Sl} {i : Nat}
theorem wgw_name (hi : i ∈ vs) (q : QG (τ.set i (some s)) M) : WGw K L vs (gName i) s τ M QG := fun σ G H v Q' gs gm a k => k _ M _ G H q (Ex.refl G) gm (gs.set a i) (wipe_set hi)
theorem wgws_nil (q : QG τ M) : WGws K L vs gNil [] τ M QG := fun σ G H v Q' gs gm a k => by
  cases a
  exact ⟨rfl, k τ M σ G H q (Ex.refl G) gm gs rfl⟩
theorem wgws_cons {t : TG} {u : TGs} (w : WGw K L vs t s τ M fun τ1 M1 => WGws K L vs u ss τ1 M1 QG) : WGws K L vs (gCons t u) (s :: ss) τ M QG := fun σ G H v Q' gs gm a k => by
  cases a with
  | cons a b => exact ⟨_, _, rfl, w σ G H _ _ gs gm a fun τ1 M1 σ1 G1 H1 q e1 g1 s1 z1 => q σ1 G1 H1 _ Q' s1 g1 (b.mono e1) fun τ2 M2 σ2 G2 H2 q2 e2 g2 s2 z2 => k τ2 M2 σ2 G2 H2 q2 (e1.trans e2) g2 s2 (z2.trans z1)⟩
theorem wgw_tup {n : Nat} {t : TGs} (hT : isTup s = true) (h : seqOf M s = some ss) (hn : ss.length = n) (w : WGws K L vs t ss τ M QG) : WGw K L vs (gTup K n t) s τ M QG := fun σ G H v Q' gs gm a k => by
  obtain ⟨p, xs, rfl, r, l⟩ := seq_at gm a h
  rw [hT, if_pos rfl] at r
  exact ⟨p, xs, rfl, r, by rw [l.len]; exact hn, w σ G H xs Q' gs gm l k⟩
end
section
variable (X : Cx) (scope : Scope)
/-- in every block of this scope -/
def bE (e : Expr) : TE := fun σ H Q => ∀ (s0 : Shared) (H0 : Hp) (C : Addr) (cl : List (Str × Addr)) (fp : List Addr), sE (X.blk s0 H0 scope (compEnvC scope cl C X.env) fp) e σ H Q
def bT (e : Expr) : TT := fun σ H Q => ∀ (s0 : Shared) (H0 : Hp) (C : Addr) (cl : List (Str × Addr)) (fp : List Addr), sT (X.blk s0 H0 scope (compEnvC scope cl C X.env) fp) e σ H Q
def DEb (L : Lk) (e : Expr) (τ : List (Option Sl)) (M : Cs) (Q : Sl → Cs → Prop) : Prop := ∀ (s0 : Shared) (H0 : Hp) (C : Addr) (cl : List (Str × Addr)) (fp : List Addr), DE (X.blk s0 H0 scope (compEnvC scope cl C X.env) fp) L e τ M Q
def DTb (L : Lk) (e : Expr) (τ : List (Option Sl)) (M : Cs) (Q : Bool → Cs → Prop) : Prop := ∀ (s0 : Shared) (H0 : Hp) (C : Addr) (cl : List (Str × Addr)) (fp : List Addr), DT (X.blk s0 H0 scope (compEnvC scope cl C X.env) fp) L e τ M Q
end
section
variable {X : Cx} {L : Lk} {τ : List (Option Sl)} {M : Cs} {Q : Sl → Cs → Prop} {elt kx vx tg iter c : Expr} {scope : Scope} {own : List (Str × Nat)} {pos : Pos} {g : TG}
theorem web {e : Expr} (h : DEb X scope L e τ M Q) : WE X.K L (bE X scope e) τ M Q := fun σ G H Q' gs gm k s0 H0 C cl fp => h s0 H0 C cl fp σ G H Q' gs gm k
theorem wtb {e : Expr} {QB : Bool → Cs → Prop} (h : DTb X scope L e τ M QB) : WT X.K L (bT X scope e) τ M QB := fun σ G H Q' gs gm k s0 H0 C cl fp => h s0 H0 C cl fp σ G H Q' gs gm k
theorem we_lc {tt : TT} {te : TE} {vs : List Nat} (w : DI X L tg iter τ M fun n S ys M1 => ∀ D, M1 D = none → ∃ Iv : Nat → Cs → Prop, Iv 0 (updC M1 D (.l [])) ∧ (∀ i M', Iv i M' → S M') ∧
      (∀ i y M', i < n → ys i y → Iv i M' → WGw X.K L vs g y (wipeK τ vs) M' fun τ2 M2 => WT X.K L tt τ2 M2 fun d M3 => (d = true → WE X.K L te τ2 M3 fun z M4 => ∃ acc, M4 D = some (.l acc) ∧ acc.length < sizeLine ∧ Iv (i + 1) (updC M4 D (.l (acc ++ [z])))) ∧ (d = false → Iv (i + 1) M3)) ∧ (∀ M', Iv n M' → Q (.c D) M')) :
    WE X.K L (tLc (sI X tg iter) g tt te vs) τ M Q := fun σ G H Q' gs gm k => w σ G H _ gs gm fun n S ys M1 G1 H1 J q e1 g1 ok D hD => by
  obtain ⟨Iv, i0, st, turn, fin⟩ := q D (g1.free hD).2
  refine ⟨fun i m H' => m = n - i ∧ i ≤ n ∧ ∃ M' G', Iv i M' ∧ Ex G1 G' ∧ GoodM X.K L M' G' H', ⟨n, by simp, Nat.zero_le _, _, G1, i0, Ex.refl _, g1.newC hD ⟨[], upd_same, .nil⟩⟩, ?_⟩
  rintro i m H' ⟨rfl, hi, M', G', iv, e', g'⟩
  by_cases hlt : i < n
  · obtain ⟨go, yl⟩ := ok.go i M' G' H' hlt (st _ _ iv) e' g'
    refine .inr ⟨go, fun H2 => ∃ M2 G2, Iv (i + 1) M2 ∧ Ex G1 G2 ∧ GoodM X.K L M2 G2 H2, fun H2 ⟨M2, G2, h⟩ => ⟨n - (i + 1), by omega, rfl, hlt, M2, G2, h⟩, fun x H2 hy => ?_⟩
    obtain ⟨y, G2, yy, e2, g2, ay⟩ := yl x H2 hy
    have e12 := e'.trans e2
    refine turn i y M' hlt yy iv _ G2 H2 x _ ((gs.mono (e1.trans e12)).wipe vs) g2 ay fun τ3 M3 σ3 G3 H3 q3 e3 g3 s3 z3 => ?_
    refine ⟨z3.trans wipe_wipe, ?_⟩
    have e13 := e12.trans e3
    refine q3 σ3 G3 H3 _ s3 g3 fun d M4 G4 H4 q4 e4 g4 => ?_
    cases d with
    | true =>
      rw [if_pos rfl]
      refine q4.1 rfl σ3 G4 H4 _ (s3.mono e4) g4 fun z M5 v G5 H5 ⟨acc, hacc, hl, iv5⟩ e5 g5 a5 => ?_
      obtain ⟨f5, xs, h1, h2⟩ := g5.cell D _ hacc
      refine ⟨xs, h1, by rw [h2.len]; exact hl, _, G5, iv5, (e13.trans e4).trans e5, ?_⟩
      exact g5.write hacc h1 (fun _ _ z => nomatch z) ⟨_, upd_same, h2.append (.cons a5 .nil)⟩
    | false =>
      rw [if_neg Bool.false_ne_true]
      exact ⟨M4, G4, q4.2 rfl, e13.trans e4, g4⟩
  · have e : i = n := by omega
    subst e
    exact .inl ⟨ok.stop M' G' H' (st _ _ iv) e' g', k _ M' _ G' H' (fin _ iv) (e1.trans e') g' (.c D)⟩
/-- [elt for tg in iter] -/
theorem de_lc0 (hc : X.calm = true) (hN : X.N.Nodup) (ok : BlkOk X.N X.env.scope scope own) (hg : ∀ (s : Shared) (H : Hp) (C : Addr) (cl : List (Str × Addr)) (fp : List Addr), PG (X.blk s H scope (compEnvC scope cl C X.env) fp) tg g)
    (w : DI X L tg iter τ M fun n S ys M1 => ∀ D, M1 D = none → ∃ Iv : Nat → Cs → Prop, Iv 0 (updC M1 D (.l [])) ∧ (∀ i M', Iv i M' → S M') ∧
      (∀ i y M', i < n → ys i y → Iv i M' → WGw X.K L (own.map (·.2)) g y (wipeK τ (own.map (·.2))) M' fun τ2 M3 => DEb X scope L elt τ2 M3 fun z M4 => ∃ acc, M4 D = some (.l acc) ∧ acc.length < sizeLine ∧ Iv (i + 1) (updC M4 D (.l (acc ++ [z])))) ∧ (∀ M', Iv n M' → Q (.c D) M'))
    (hs : ∀ x, foldedSetIterable iter X.env x = pure x := by intro _; rfl) : DE X L (.ListComp elt [⟨tg, iter, [], 0⟩] scope pos) τ M Q :=
  de_of (pe_lc (te := bE X scope elt) hc hN pi_s ok hg (fun _ _ _ _ _ => pts_nil) (fun s H C cl fp => ⟨fun pins s' σ H' Q' I h => h s H C cl fp pins s' I⟩) hs) (we_lc fun σ G H R gs gm k => w σ G H R gs gm fun n S ys M1 G1 H1 J q e1 g1 ok => k n S ys M1 G1 H1 J (fun D hD => by
    obtain ⟨Iv, i0, st, turn, fin⟩ := q D hD
    refine ⟨Iv, i0, st, fun i y M' hi yy iv => ?_, fin⟩
    intro σ G H v Q' gs gm a k
    refine turn i y M' hi yy iv σ G H v Q' gs gm a fun τ' M' σ' G' H' h => k τ' M' σ' G' H' ?_
    exact fun σ G H Q' gs gm k => k.go (b := true) ⟨fun _ => web h, fun z => nomatch z⟩ gm) e1 g1 ok)
/-- [elt for tg in iter if c] -/
theorem de_lc1 (hc : X.calm = true) (hN : X.N.Nodup) (ok : BlkOk X.N X.env.scope scope own) (hg : ∀ (s : Shared) (H : Hp) (C : Addr) (cl : List (Str × Addr)) (fp : List Addr), PG (X.blk s H scope (compEnvC scope cl C X.env) fp) tg g)
    (w : DI X L tg iter τ M fun n S ys M1 => ∀ D, M1 D = none → ∃ Iv : Nat → Cs → Prop, Iv 0 (updC M1 D (.l [])) ∧ (∀ i M', Iv i M' → S M') ∧
      (∀ i y M', i < n → ys i y → Iv i M' → WGw X.K L (own.map (·.2)) g y (wipeK τ (own.map (·.2))) M' fun τ2 M3 => DTb X scope L c τ2 M3 fun d M3 => (d = true → DEb X scope L elt τ2 M3 fun z M4 => ∃ acc, M4 D = some (.l acc) ∧ acc.length < sizeLine ∧ Iv (i + 1) (updC M4 D (.l (acc ++ [z])))) ∧ (d = false → Iv (i + 1) M3)) ∧ (∀ M', Iv n M' → Q (.c D) M'))
    (hs : ∀ x, foldedSetIterable iter X.env x = pure x := by intro _; rfl) : DE X L (.ListComp elt [⟨tg, iter, [c], 0⟩] scope pos) τ M Q :=
  de_of (pe_lc (te := bE X scope elt) (tt := bT X scope c) hc hN pi_s ok hg (fun s H C cl fp => pts_one ⟨fun pins s' σ H' Q' I h => h s H C cl fp pins s' I⟩) (fun s H C cl fp => ⟨fun pins s' σ H' Q' I h => h s H C cl fp pins s' I⟩) hs) (we_lc fun σ G H R gs gm k => w σ G H R gs gm fun n S ys M1 G1 H1 J q e1 g1 ok => k n S ys M1 G1 H1 J (fun D hD => by
    obtain ⟨Iv, i0, st, turn, fin⟩ := q D hD
    refine ⟨Iv, i0, st, fun i y M' hi yy iv => ?_, fin⟩
    intro σ G H v Q' gs gm a k
    refine turn i y M' hi yy iv σ G H v Q' gs gm a fun τ' M' σ' G' H' h => k τ' M' σ' G' H' ?_
    intro σ G H Q' gs gm k
    exact wtb h σ G H Q' gs gm fun d M5 G5 H5 q5 => k d M5 G5 H5 ⟨fun z => web (q5.1 z), q5.2⟩) e1 g1 ok)
end
end Y

namespace Y
open PySem L2 PyProof.Rows

/-! ### comparisons -/
def isNone : Sl → Bool
  | .d .none => true
  | _ => false
section
variable {K : PySem.W.Frag} {L : Lk} {M : Cs} {Q : Sl → Cs → Prop} {G H : Hp} {v : V} {s x : Sl}
theorem sl_isN (a : SlAt K G v s) : decide (v = .non) = isNone s := by
  cases a with
  | d a => cases a <;> rfl
  | c p => rfl
  | t n => rfl
  | u h l => rfl
  | s h => rfl
theorem k_isN (q : Q (.d (.bool (isNone x))) M) : R2k K L (fun x y H Q => y = .non ∧ Q (.bl (decide (x = .non))) H) x (.d .none) M Q := fun G H v u Q' g a1 a2 k => ⟨sl_non a2, by rw [sl_isN a1]; exact k.go q g (.d (.bl _))⟩
theorem k_notN (q : Q (.d (.bool (!isNone x))) M) : R2k K L (fun x y H Q => y = .non ∧ Q (.bl (!decide (x = .non))) H) x (.d .none) M Q := fun G H v u Q' g a1 a2 k => ⟨sl_non a2, by rw [sl_isN a1]; exact k.go q g (.d (.bl _))⟩
theorem k_eqI {i j : Int} (q : Q (.d (.bool (decide (i = j)))) M) : R2k K L rEq (.d (.int i)) (.d (.int j)) M Q := fun G H v u Q' g a1 a2 k => by
  rw [sl_int a1, sl_int a2]
  refine ⟨rfl, ?_⟩
  have e : decide (V.int i = V.int j) = decide (i = j) := by simp
  rw [e]
  exact k.go q g (.d (.bl _))
theorem k_neI {i j : Int} (q : Q (.d (.bool (!decide (i = j)))) M) : R2k K L rNe (.d (.int i)) (.d (.int j)) M Q := fun G H v u Q' g a1 a2 k => by
  rw [sl_int a1, sl_int a2]
  refine ⟨rfl, ?_⟩
  have e : decide (V.int i = V.int j) = decide (i = j) := by simp
  rw [e]
  exact k.go q g (.d (.bl _))
theorem k_eqS {i j : Str} (q : Q (.d (.bool (decide (i = j)))) M) : R2k K L rEq (.d (.str i)) (.d (.str j)) M Q := fun G H v u Q' g a1 a2 k => by
  rw [sl_str a1, sl_str a2]
  refine ⟨rfl, ?_⟩
  have e : decide (V.str i = V.str j) = decide (i = j) := by simp
  rw [e]
  exact k.go q g (.d (.bl _))
theorem k_neS {i j : Str} (q : Q (.d (.bool (!decide (i = j)))) M) : R2k K L rNe (.d (.str i)) (.d (.str j)) M Q := fun G H v u Q' g a1 a2 k => by
  rw [sl_str a1, sl_str a2]
  refine ⟨rfl, ?_⟩
  have e : decide (V.str i = V.str j) = decide (i = j) := by simp
  rw [e]
  exact k.go q g (.d (.bl _))
theorem k_eqB {i j : Bool} (q : Q (.d (.bool (decide (i = j)))) M) : R2k K L rEq (.d (.bool i)) (.d (.bool j)) M Q := fun G H v u Q' g a1 a2 k => by
  rw [sl_bl a1, sl_bl a2]
  refine ⟨rfl, ?_⟩
  have e : decide (V.bl i = V.bl j) = decide (i = j) := by simp
  rw [e]
  exact k.go q g (.d (.bl _))
theorem k_neB {i j : Bool} (q : Q (.d (.bool (!decide (i = j)))) M) : R2k K L rNe (.d (.bool i)) (.d (.bool j)) M Q := fun G H v u Q' g a1 a2 k => by
  rw [sl_bl a1, sl_bl a2]
  refine ⟨rfl, ?_⟩
  have e : decide (V.bl i = V.bl j) = decide (i = j) := by simp
  rw [e]
  exact k.go q g (.d (.bl _))
theorem k_isB {i j : Bool} (q : Q (.d (.bool (decide (i = j)))) M) : R2k K L rIsB (.d (.bool i)) (.d (.bool j)) M Q := fun G H v u Q' g a1 a2 k => ⟨i, j, sl_bl a1, sl_bl a2, k.go q g (.d (.bl _))⟩
theorem k_notB {i j : Bool} (q : Q (.d (.bool (!decide (i = j)))) M) : R2k K L rNotB (.d (.bool i)) (.d (.bool j)) M Q := fun G H v u Q' g a1 a2 k => ⟨i, j, sl_bl a1, sl_bl a2, k.go q g (.d (.bl _))⟩
theorem k_neTy {a b : String} (ha : okTy a) (hb : okTy b) (q : Q (.d (.bool (!decide (a = b)))) M) : R2k K L rNeTy (.t a) (.t b) M Q := fun G H v u Q' g a1 a2 k => ⟨a, b, sl_t a1, sl_t a2, ha, hb, k.go q g (.d (.bl _))⟩
theorem tys_sl {xs : List V} : ∀ {ts : List String}, SlL K G xs (ts.map Sl.t) → xs = ts.map V.ty := by
  intro ts
  induction ts generalizing xs with
  | nil => intro h; cases h; rfl
  | cons t r ih =>
    intro h
    cases h with
    | cons a b =>
      rw [ih b, sl_t a]
      rfl
theorem k_niTy {a : String} {ts : List String} (ha : okTy a) (ht : ∀ t ∈ ts, okTy t) (q : Q (.d (.bool (!(ts.any fun t => decide (t = a))))) M) : R2k K L (rInTy true) (.t a) (.u (ts.map .t)) M Q := fun G H v u Q' g a1 a2 k => by
  cases a2 with
  | u e l =>
    have z := tys_sl l
    subst z
    exact ⟨a, _, ts, sl_t a1, rfl, g.rd e, ha, ht, k.go q g (.d (.bl _))⟩
end
/-! ### data, whatever it lies in -/
mutual
inductive IsD (M : Cs) : Sl → PyData → Prop
  | d (x : PyData) : IsD M (.d x) x
  | c {a : Addr} {ss : List Sl} {ds : List PyData} : M a = some (.l ss) → IsDL M ss ds → IsD M (.c a) (.list ds)
  | u {ss : List Sl} {ds : List PyData} : IsDL M ss ds → IsD M (.u ss) (.tuple ds)
inductive IsDL (M : Cs) : List Sl → List PyData → Prop
  | nil : IsDL M [] []
  | cons {s : Sl} {d : PyData} {ss : List Sl} {ds : List PyData} : IsD M s d → IsDL M ss ds → IsDL M (s :: ss) (d :: ds)
end
theorem IsDL.ofD {M : Cs} : ∀ ds : List PyData, IsDL M (ds.map Sl.d) ds
  | [] => .nil
  | d :: r => .cons (.d d) (IsDL.ofD r)
theorem IsD.cell {M : Cs} {a : Addr} {ds : List PyData} (h : M a = some (.l (ds.map .d))) : IsD M (.c a) (.list ds) := .c h (IsDL.ofD ds)
section
variable {K : PySem.W.Frag} {L : Lk} {M : Cs} {G H : Hp}
mutual
theorem At.dp (g : GoodM K L M G H) : ∀ (d : PyData) (v : V), d.canLay0 = true → At K G v d → Dp K H v d
  | .none, _, _, .non => .non
  | .bool _, _, _, .bl b => .bl b
  | .int _, _, _, .int i => .int i
  | .str _, _, _, .str x => .str x
  | .list ds, _, z, .lst e l => .lst (.inl (g.rd e)) (AtL.dp g ds _ z l)
  | .tuple ds, _, z, .tup e l => .tup (.inl (g.rd e)) (AtL.dp g ds _ z l)
  | .dict _, _, z, _ => nomatch z
theorem AtL.dp (g : GoodM K L M G H) : ∀ (ds : List PyData) (vs : List V), PyData.canLayAll0 ds = true → AtL K G vs ds → DpAll K H vs ds
  | [], _, _, .nil => .nil
  | d :: r, _, z, .cons a b => .cons (At.dp g d _ (Bool.and_eq_true_iff.mp z).1 a) (AtL.dp g r _ (Bool.and_eq_true_iff.mp z).2 b)
end
mutual
theorem IsD.dp (g : GoodM K L M G H) : ∀ {s : Sl} {d : PyData} {v : V}, IsD M s d → d.canLay0 = true → SlAt K G v s → Dp K H v d
  | _, _, _, .d x, z, .d a => a.dp g _ _ z
  | _, _, _, .c (a := p) h l, z, b => by
    obtain ⟨_, xs, h1, h2⟩ := g.cell p _ h
    cases b
    exact .lst (SqL.of h1) (IsDL.dp g l z h2)
  | _, _, _, .u l, z, .u e b => .tup (.inl (g.rd e)) (IsDL.dp g l z b)
theorem IsDL.dp (g : GoodM K L M G H) : ∀ {ss : List Sl} {ds : List PyData} {vs : List V}, IsDL M ss ds → PyData.canLayAll0 ds = true → SlL K G vs ss → DpAll K H vs ds
  | _, _, _, .nil, _, .nil => .nil
  | _, _, _, .cons a b, z, .cons p q => .cons (IsD.dp g a (Bool.and_eq_true_iff.mp z).1 p) (IsDL.dp g b (Bool.and_eq_true_iff.mp z).2 q)
end
variable {Q : Sl → Cs → Prop} {x y : Sl} {d e : PyData}
theorem k_eqD (hx : IsD M x d) (hy : IsD M y e) (sx : SeqAt.shaped d = true) (sy : SeqAt.shaped e = true) (q : Q (.d (.bool (PyData.eqv d e))) M) : R2k K L (rEqD K) x y M Q := fun G H v u Q' g a1 a2 k =>
  ⟨d, e, hx.dp g (SeqAt.canLay_of_shaped sx) a1, hy.dp g (SeqAt.canLay_of_shaped sy) a2, sx, sy, k.go q g (.d (.bl _))⟩
theorem k_neD (hx : IsD M x d) (hy : IsD M y e) (sx : SeqAt.shaped d = true) (sy : SeqAt.shaped e = true) (q : Q (.d (.bool (!PyData.eqv d e))) M) : R2k K L (rNeD K) x y M Q := fun G H v u Q' g a1 a2 k =>
  ⟨d, e, hx.dp g (SeqAt.canLay_of_shaped sx) a1, hy.dp g (SeqAt.canLay_of_shaped sy) a2, sx, sy, k.go q g (.d (.bl _))⟩
end
/-! ### truth, classes -/
def truOf (M : Cs) : Sl → Option Bool
  | .d .none => some false
  | .d (.bool b) => some b
  | .d (.int i) => some (i != 0)
  | s => (seqOf M s).map fun ss => !ss.isEmpty
theorem empty_sl {K : PySem.W.Frag} {G : Hp} {xs : List V} {ss : List Sl} (l : SlL K G xs ss) : (!xs.isEmpty) = !ss.isEmpty := by
  cases l <;> rfl
theorem tru_at {K : PySem.W.Frag} {L : Lk} {M : Cs} {G H : Hp} {v : V} {s : Sl} {k : Bool} (g : GoodM K L M G H) (a : SlAt K G v s) (h : truOf M s = some k) : TruV K v H k := by
  have seq : ∀ {s : Sl}, SlAt K G v s → (seqOf M s).map (fun ss => !ss.isEmpty) = some k → TruV K v H k := by
    intro s a h
    cases e : seqOf M s with
    | none => rw [e] at h; cases h
    | some ss =>
      rw [e] at h
      have h' : (!ss.isEmpty) = k := Option.some.inj h
      obtain ⟨p, xs, rfl, r, l⟩ := seq_at' g a e
      rcases r with r | r
      · exact .inl ⟨xs, r, by rw [empty_sl l, h']⟩
      · exact .inr (.inl ⟨xs, r, by rw [empty_sl l, h']⟩)
  cases s with
  | d x =>
    cases x with
    | none => rw [sl_non a]; exact (Option.some.inj h).symm
    | bool b => rw [sl_bl a]; exact (Option.some.inj h).symm
    | int i => rw [sl_int a]; exact (Option.some.inj h).symm
    | str z => exact seq a h
    | list ds => exact seq a h
    | tuple ds => exact seq a h
    | dict ds => exact seq a h
  | c p => exact seq a h
  | t n => exact seq a h
  | u ss => exact seq a h
  | s ns => exact seq a h
def tyName (M : Cs) : Sl → Option String
  | .d .none => some "NoneType"
  | .d (.bool _) => some "bool"
  | .d (.int _) => some "int"
  | .d (.str _) => some "str"
  | .d (.list _) => some "list"
  | .d (.tuple _) => some "tuple"
  | .d (.dict _) => some "dict"
  | .u _ => some "tuple"
  | .c a => match M a with
    | some (.l _) => some "list"
    | some (.k _) => some "dict"
    | none => none
  | _ => none
theorem ty_at {K : PySem.W.Frag} {L : Lk} {M : Cs} {G H : Hp} {v : V} {s : Sl} {n : String} (g : GoodM K L M G H) (a : SlAt K G v s) (h : tyName M s = some n) : TyX K H v (.type n) := by
  cases a with
  | d a =>
    cases a with
    | non => cases h; exact .base .non
    | bl b => cases h; exact .base (.bl b)
    | int i => cases h; exact .base (.int i)
    | str x => cases h; exact .base (.str x)
    | lst e l =>
      cases h
      rcases g.rd e with z | ⟨o, z⟩
      · exact .base (.lst z)
      · exact .base (.frz z)
    | tup e l =>
      cases h
      rcases g.rd e with z | ⟨o, z⟩
      · exact .base (.tup z)
      · exact .fTuple z
    | dic e l =>
      cases h
      rcases g.rd e with z | ⟨o, z⟩
      · exact .base (.dK z)
      · exact .fDict z
  | c p =>
    simp only [tyName] at h
    cases e : M p with
    | none => rw [e] at h; cases h
    | some c =>
      rw [e] at h
      cases c with
      | l ss =>
        cases h
        obtain ⟨_, xs, h1, _⟩ := g.cell p _ e
        exact .base (.lst h1)
      | k ss =>
        cases h
        obtain ⟨_, xs, h1, _⟩ := g.cell p _ e
        exact .base (.dK h1)
  | t n => cases h
  | u e l =>
    cases h
    rcases g.rd e with z | ⟨o, z⟩
    · exact .base (.tup z)
    · exact .fTuple z
  | s e => cases h
/-- type(x): no dict -/
theorem tyB_at {K : PySem.W.Frag} {L : Lk} {M : Cs} {G H : Hp} {v : V} {s : Sl} {n : String} (g : GoodM K L M G H) (a : SlAt K G v s) (h : tyName M s = some n) (hd : ∀ kv, s ≠ .d (.dict kv)) : TyB K H v n := by
  cases a with
  | d a =>
    cases a with
    | non => cases h; exact .non
    | bl b => cases h; exact .bl b
    | int i => cases h; exact .int i
    | str x => cases h; exact .str x
    | lst e l => cases h; exact .lst (.inl (g.rd e))
    | tup e l => cases h; exact .tup (.inl (g.rd e))
    | dic e l => exact absurd rfl (hd _)
  | c p =>
    simp only [tyName] at h
    cases e : M p with
    | none => rw [e] at h; cases h
    | some c =>
      rw [e] at h
      cases c with
      | l ss =>
        cases h
        obtain ⟨_, xs, h1, _⟩ := g.cell p _ e
        exact .lst (SqL.of h1)
      | k ss =>
        cases h
        obtain ⟨_, xs, h1, _⟩ := g.cell p _ e
        exact .dK h1
  | t n => cases h
  | u e l => cases h; exact .tup (.inl (g.rd e))
  | s e => cases h
/-! ### dicts -/
theorem kD_inj {a b : Key} (h : kD a = kD b) : a = b := by
  cases a <;> cases b <;> simp [kD] at h <;> rw [h]
def encK (kd : List (Key × PyData)) : List (PyData × PyData) := kd.map fun p => (kD p.1, p.2)
def slK (kd : List (Key × PyData)) : List (Key × Sl) := kd.map fun p => (p.1, .d p.2)
inductive DictIs (M : Cs) : Sl → List (Key × Sl) → Prop
  | c {a : Addr} {kvs : List (Key × Sl)} : M a = some (.k kvs) → DictIs M (.c a) kvs
  | d (kd : List (Key × PyData)) : DictIs M (.d (.dict (encK kd))) (slK kd)
theorem AtK.kv {K : PySem.W.Frag} {G : Hp} : ∀ (kd : List (Key × PyData)) {xs : List (Key × V)}, AtK K G xs (encK kd) → KvAt K G xs (slK kd)
  | [], [], _ => trivial
  | (k, d) :: r, x :: xs, h => by
    generalize hh : encK ((k, d) :: r) = zs at h
    cases h with
    | cons a b =>
      rw [show encK ((k, d) :: r) = (kD k, d) :: encK r from rfl] at hh
      injection hh with h1 h2
      injection h1 with h3 h4
      subst h2 h4
      exact ⟨kD_inj h3.symm, .d a, AtK.kv r b⟩
theorem KvAt.at {K : PySem.W.Frag} {G : Hp} : ∀ (kd : List (Key × PyData)) {xs : List (Key × V)}, KvAt K G xs (slK kd) → AtK K G xs (encK kd)
  | [], [], _ => .nil
  | (k, d) :: r, (k', v) :: xs, ⟨e, a, b⟩ => by
    have e' : k' = k := e
    subst e'
    cases a with
    | d a => exact .cons a (KvAt.at r b)
def valS (kvs : List (Key × Sl)) (k : Key) : Option Sl := (kvs.find? fun kv => decide (kv.1 = k)).map (·.2)
def putS (kvs : List (Key × Sl)) (k : Key) (v : Sl) : List (Key × Sl) := if (kvs.any fun kv => decide (kv.1 = k)) = true then kvs.map (fun kv => if kv.1 = k then (kv.1, v) else kv) else kvs ++ [(k, v)]
section
variable {K : PySem.W.Frag} {G : Hp}
theorem KvAt.len : ∀ {xs : List (Key × V)} {ys : List (Key × Sl)}, KvAt K G xs ys → xs.length = ys.length
  | [], [], _ => rfl
  | _ :: _, _ :: _, ⟨_, _, h⟩ => by rw [List.length_cons, List.length_cons, KvAt.len h]
  | [], _ :: _, h => h.elim
  | _ :: _, [], h => h.elim
theorem KvAt.keys : ∀ {xs : List (Key × V)} {ys : List (Key × Sl)}, KvAt K G xs ys → xs.map (·.1) = ys.map (·.1)
  | [], [], _ => rfl
  | _ :: _, _ :: _, ⟨e, _, h⟩ => by rw [List.map_cons, List.map_cons, KvAt.keys h, e]
  | [], _ :: _, h => h.elim
  | _ :: _, [], h => h.elim
theorem KvAt.val (k : Key) : ∀ {xs : List (Key × V)} {ys : List (Key × Sl)}, KvAt K G xs ys → match valS ys k with
    | none => valV xs k = none
    | some s => ∃ v, valV xs k = some v ∧ SlAt K G v s
  | [], [], _ => rfl
  | x :: xs, y :: ys, ⟨e, a, h⟩ => by
    have ih := KvAt.val k h
    by_cases hk : y.1 = k
    · have e1 : valS (y :: ys) k = some y.2 := by simp [valS, List.find?_cons, hk]
      rw [e1]
      exact ⟨x.2, valV_pos (e.trans hk), a⟩
    · have e1 : valS (y :: ys) k = valS ys k := by simp [valS, List.find?_cons, hk]
      rw [e1, valV_neg (fun z => hk (e.symm.trans z))]
      exact ih
  | [], _ :: _, h => h.elim
  | _ :: _, [], h => h.elim
theorem KvAt.get : ∀ {xs : List (Key × V)} {ys : List (Key × Sl)} {i : Nat} {k : Key} {s : Sl}, KvAt K G xs ys → ys[i]? = some (k, s) → ∃ v, xs[i]? = some (k, v) ∧ SlAt K G v s
  | [], [], _, _, _, _, h => by simp at h
  | x :: xs, y :: ys, 0, k, s, ⟨e, a, h⟩, z => by
    have z' : y = (k, s) := by simpa using z
    subst z'
    obtain ⟨k', v⟩ := x
    have e' : k' = k := e
    subst e'
    exact ⟨v, rfl, a⟩
  | x :: xs, y :: ys, i + 1, k, s, ⟨e, a, h⟩, z => by
    obtain ⟨v, h1, h2⟩ := KvAt.get (i := i) h (by simpa using z)
    exact ⟨v, by simpa using h1, h2⟩
  | [], _ :: _, _, _, _, h, _ => h.elim
  | _ :: _, [], _, _, _, h, _ => h.elim
theorem KvAt.append {ps : List (Key × V)} {qs : List (Key × Sl)} (b : KvAt K G ps qs) : ∀ {xs : List (Key × V)} {ys : List (Key × Sl)}, KvAt K G xs ys → KvAt K G (xs ++ ps) (ys ++ qs)
  | [], [], _ => b
  | _ :: _, _ :: _, ⟨e, a, h⟩ => ⟨e, a, KvAt.append b h⟩
  | [], _ :: _, h => h.elim
  | _ :: _, [], h => h.elim
theorem KvAt.put {k : Key} {v : V} {s : Sl} (a : SlAt K G v s) {xs : List (Key × V)} {ys : List (Key × Sl)} (h : KvAt K G xs ys) : KvAt K G (putK xs k v) (putS ys k s) := by
  have e1 : (xs.any fun kv => decide (kv.1 = k)) = (ys.any fun kv => decide (kv.1 = k)) := by
    have e := h.keys
    have f : ∀ {α : Type} (l : List (Key × α)), (l.any fun kv => decide (kv.1 = k)) = (l.map (·.1)).any fun z => decide (z = k) := fun l => by
      induction l with
      | nil => rfl
      | cons p r ih => rw [List.any_cons, List.map_cons, List.any_cons, ih]
    rw [f, f, e]
  unfold putK putS
  rw [e1]
  split
  · rename_i hany
    clear e1 hany
    induction xs generalizing ys with
    | nil => cases ys with
      | nil => trivial
      | cons => exact h.elim
    | cons x xs ih => cases ys with
      | nil => exact h.elim
      | cons y ys =>
        obtain ⟨e, b, h'⟩ := h
        rw [List.map_cons, List.map_cons]
        by_cases hk : y.1 = k
        · rw [if_pos hk, if_pos (e.trans hk)]
          exact ⟨e, a, ih h'⟩
        · rw [if_neg hk, if_neg (fun z => hk (e.symm.trans z))]
          exact ⟨e, b, ih h'⟩
  · exact KvAt.append (ps := [(k, v)]) (qs := [(k, s)]) (show k = k ∧ SlAt K G v s ∧ True from ⟨rfl, a, trivial⟩) h
end
theorem dict_at {K : PySem.W.Frag} {L : Lk} {M : Cs} {G H : Hp} {v : V} {s : Sl} {kvs : List (Key × Sl)} (g : GoodM K L M G H) (a : SlAt K G v s) (h : DictIs M s kvs) : ∃ p xs, v = .ref p ∧ Rd H p (.dK xs) ∧ KvAt K G xs kvs := by
  cases h with
  | c e =>
    obtain ⟨_, xs, h1, h2⟩ := g.cell _ _ e
    exact ⟨_, xs, sl_c a, .inl h1, h2⟩
  | d kd =>
    cases a with
    | d a =>
      generalize hh : encK kd = zs at a
      cases a with
      | dic e l =>
        subst hh
        exact ⟨_, _, rfl, g.rd e, AtK.kv kd l⟩
end Y

namespace Y
open PySem L2 PyProof.Rows

section
variable {X : Cx} {L : Lk} {τ : List (Option Sl)} {M : Cs} {Q : Sl → Cs → Prop} {QB : Bool → Cs → Prop} {QG : List (Option Sl) → Cs → Prop} {e a b c o i tg iter : Expr} {es : List Expr} {pos apos cpos pos' : Pos} {E : Ks} {st : Stmt} {sts body : List Stmt} {p p2 : Pos} {x y s : Sl} {QJ : QI} {nm : Str}
theorem dt_tru (w : DE X L e τ M fun s M1 => ∃ k, truOf M1 s = some k ∧ QB k M1) (he : ∀ whole, isTrue e X.env whole = (do let v ← whole; standAt e.pos; holding [v] (truthy v)) := by intro _; rfl) : DT X L e τ M QB :=
  dt_of (pt_truth pe_s he) fun σ G H Q' gs gm k => w σ G H _ gs gm fun s M1 v G1 H1 ⟨d, h, q⟩ e1 g1 a1 => ⟨d, tru_at g1 a1 h, (k.mono e1).go q g1⟩
/-! ### built-ins -/
theorem k_isi {T n : String} {b : Bool} (h : tyName M s = some n) (hb : kitB n T = some b) (q : Q (.d (.bool b)) M) : RCk X.K L (rIsi X.K) [s, .t T] M Q := fun G H vs Q' g a k => by
  obtain ⟨v, u, rfl, a1, a2⟩ := sl2 a
  exact ⟨v, u, .type n, .type T, b, rfl, by rw [sl_t a2]; exact .ty T, ty_at g a1 h, kit_ty hb, k.go q g (.d (.bl _))⟩
theorem k_type {n : String} (h : tyName M s = some n) (hd : ∀ kv, s ≠ .d (.dict kv)) (q : Q (.t n) M) : RCk X.K L (rTyp X.K) [s] M Q := fun G H vs Q' g a k => by
  obtain ⟨v, rfl, a1⟩ := sl1 a
  exact ⟨v, n, rfl, tyB_at g a1 h hd, k.go q g (.t n)⟩
theorem k_intI {i : Int} (q : Q (.d (.int i)) M) : RCk X.K L (fun xs H Q => (∃ i, xs = [.int i] ∧ Q (.int i) H) ∨ ∃ k, xs = [.bl k] ∧ Q (.int (if k then 1 else 0)) H) [.d (.int i)] M Q := fun G H vs Q' g a k => by
  obtain ⟨v, rfl, a1⟩ := sl1 a
  rw [sl_int a1]
  exact .inl ⟨i, rfl, k.go q g (.d (.int _))⟩
theorem k_intB {b : Bool} (q : Q (.d (.int (if b then 1 else 0))) M) : RCk X.K L (fun xs H Q => (∃ i, xs = [.int i] ∧ Q (.int i) H) ∨ ∃ k, xs = [.bl k] ∧ Q (.int (if k then 1 else 0)) H) [.d (.bool b)] M Q := fun G H vs Q' g a k => by
  obtain ⟨v, rfl, a1⟩ := sl1 a
  rw [sl_bl a1]
  exact .inr ⟨b, rfl, k.go q g (.d (.int _))⟩
theorem k_abs {i : Int} (q : Q (.d (.int (if i < 0 then -i else i))) M) : RCk X.K L (fun xs H Q => ∃ i, xs = [.int i] ∧ Q (.int (if i < 0 then -i else i)) H) [.d (.int i)] M Q := fun G H vs Q' g a k => by
  obtain ⟨v, rfl, a1⟩ := sl1 a
  rw [sl_int a1]
  exact ⟨i, rfl, k.go q g (.d (.int _))⟩
theorem ints_at {K : PySem.W.Frag} {G : Hp} {xs : List V} {ns : List Int} (l : SlL K G xs (ns.map dI)) : xs = ns.map V.int := by
  induction ns generalizing xs with
  | nil => cases l; rfl
  | cons n r ih =>
    cases l with
    | cons a b =>
      rw [ih b, sl_int a]
      rfl
theorem bls_at {K : PySem.W.Frag} {G : Hp} {xs : List V} {ns : List Bool} (l : SlL K G xs (ns.map fun b => .d (.bool b))) : xs = ns.map V.bl := by
  induction ns generalizing xs with
  | nil => cases l; rfl
  | cons n r ih =>
    cases l with
    | cons a b =>
      rw [ih b, sl_bl a]
      rfl
theorem k_sum {ns : List Int} (hT : isTup s = false) (h : seqOf M s = some (ns.map dI)) (q : Q (.d (.int ns.sum)) M) : RCk X.K L (rSum X.K) [s] M Q := fun G H vs Q' g a k => by
  obtain ⟨v, rfl, a1⟩ := sl1 a
  obtain ⟨p, xs, rfl, r, l⟩ := seq_at g a1 h
  rw [hT, if_neg Bool.false_ne_true] at r
  rw [ints_at l] at r
  exact ⟨p, ns, rfl, r, k.go q g (.d (.int _))⟩
theorem k_all {ns : List Bool} (hT : isTup s = false) (h : seqOf M s = some (ns.map fun b => .d (.bool b))) (q : Q (.d (.bool (ns.all id))) M) : RCk X.K L (rAll X.K) [s] M Q := fun G H vs Q' g a k => by
  obtain ⟨v, rfl, a1⟩ := sl1 a
  obtain ⟨p, xs, rfl, r, l⟩ := seq_at g a1 h
  rw [hT, if_neg Bool.false_ne_true] at r
  rw [bls_at l] at r
  exact ⟨p, ns, rfl, r, k.go q g (.d (.bl _))⟩
def dS (x : Str) : Sl := .d (.str x)
theorem strs_sl {K : PySem.W.Frag} {G : Hp} : ∀ ys : List Str, SlL K G (ys.map V.str) (ys.map dS)
  | [] => .nil
  | y :: r => .cons (.d (.str y)) (strs_sl r)
/-- sorted(d), the keys texts -/
theorem k_sortedD {kvs : List (Key × Sl)} {ks : List Str} (h : DictIs M s kvs) (hk : kvs.map (·.1) = ks.map Sum.inr) (hl : ks.length < 64) (q : ∀ ys p, ys.Perm ks → sortedS ys = true → M p = none → Q (.c p) (updC M p (.l (ys.map dS)))) :
    RCk X.K L (fun xs H Q => ∃ (a : Addr) (kvs : List (Key × V)) (ks : List Str), xs = [.ref a] ∧ Rd H a (.dK kvs) ∧ kvs.map (·.1) = ks.map Sum.inr ∧ ks.length < 64 ∧ ∀ ys p, ys.Perm ks → sortedS ys = true → H p = none → Q (.ref p) (upd H p (.lst (ys.map V.str)))) [s] M Q := fun G H vs Q' g a k => by
  obtain ⟨v, rfl, a1⟩ := sl1 a
  obtain ⟨p, xs, rfl, r, l⟩ := dict_at g a1 h
  exact ⟨p, xs, ks, rfl, r, l.keys.trans hk, hl, fun ys c h1 h2 hc => k _ _ _ G _ (q ys c h1 h2 (g.free hc).2) (Ex.refl G) (g.newC hc ⟨_, upd_same, strs_sl ys⟩) (.c c)⟩
/-- list(xs) -/
theorem k_list {ss : List Sl} (h : seqOf M s = some ss) (q : ∀ p, M p = none → Q (.c p) (updC M p (.l ss))) : RCk X.K L (fun xs H Q => ∃ p ys, xs = [.ref p] ∧ (SqL X.K H p ys ∨ SqT X.K H p ys) ∧ ∀ l, H l = none → Q (.ref l) (upd H l (.lst ys))) [s] M Q := fun G H vs Q' g a k => by
  obtain ⟨v, rfl, a1⟩ := sl1 a
  obtain ⟨p, xs, rfl, r, l⟩ := seq_at' g a1 h
  exact ⟨p, xs, rfl, r, fun c hc => k _ _ _ G _ (q c (g.free hc).2) (Ex.refl G) (g.newC hc ⟨_, upd_same, l⟩) (.c c)⟩
/-! ### dicts -/
theorem dget_at {K : PySem.W.Frag} {G H : Hp} {v : V} {kvs : List (Key × Sl)} {k : Key} (g : GoodM K L M G H) (a : SlAt K G v s) (h : DictIs M s kvs) : ∃ p o, v = .ref p ∧ L2.IsD H p ∧ DGet H p (kV k) o ∧ match valS kvs k with
    | none => o = none
    | some z => ∃ u, o = some u ∧ SlAt K G u z := by
  obtain ⟨p, xs, rfl, r, l⟩ := dict_at g a h
  refine ⟨p, valV xs k, rfl, .inl ⟨xs, r⟩, .inl ⟨xs, k, r, rfl, rfl⟩, ?_⟩
  exact l.val k
theorem key_at {K : PySem.W.Frag} {G : Hp} {v : V} {k : Key} (a : SlAt K G v (.d (kD k))) : v = kV k := by
  cases k with
  | inl n => exact sl_int a
  | inr z => exact sl_str a
/-- d[k] -/
theorem de_dget (hu : X.A.units + 1 < cLine) (w : DE X L o τ M fun s M1 => DE X L i τ M1 fun t M2 => ∃ kvs k z, DictIs M2 s kvs ∧ t = .d (kD k) ∧ valS kvs k = some z ∧ Q z M2) (hs : NoSl i := by exact fun _ _ => rfl) : DE X L (.Subscript o i pos) τ M Q :=
  de_of (pe_dget hu pe_s pe_s hs) fun σ G H Q' gs gm k => w σ G H _ gs gm fun s M1 v G1 H1 q e1 g1 a1 => q σ G1 H1 _ (gs.mono e1) g1 fun t M2 u G2 H2 ⟨kvs, key, z, hd, ht, hv, q2⟩ e2 g2 a2 => by
    subst ht
    obtain ⟨p, oo, rfl, _, dg, h⟩ := dget_at (k := key) g2 (a1.mono e2) hd
    rw [hv] at h
    obtain ⟨r, rfl, ar⟩ := h
    rw [key_at a2]
    exact ⟨p, r, rfl, dg, (k.mono (e1.trans e2)).go q2 g2 ar⟩
/-- d.get(k, x) -/
theorem de_dget2 {f : Expr} (hu : X.A.units + 1 < cLine) (w : DE X L o τ M fun s M1 => (∃ kvs, DictIs M1 s kvs) ∧ DE X L e τ M1 fun t M2 => DE X L f τ M2 fun z M3 => ∃ kvs k, DictIs M3 s kvs ∧ t = .d (kD k) ∧ Q ((valS kvs k).getD z) M3) (m : M2 X o "get" apos e f cpos := by exact ⟨rfl, rfl, rfl, rfl⟩) : DE X L (.Call (.Attribute o "get" apos) [e, f] [] cpos) τ M Q :=
  de_of (pe_dget2 hu pe_s pe_s pe_s m) fun σ G H Q' gs gm k => w σ G H _ gs gm fun s M1 v G1 H1 ⟨⟨kvs0, hd0⟩, q⟩ e1 g1 a1 => by
    obtain ⟨p, oo, rfl, isd, _, _⟩ := dget_at (k := .inl 0) g1 a1 hd0
    refine ⟨p, rfl, isd, q σ G1 H1 _ (gs.mono e1) g1 fun t M2 u G2 H2 q2 e2 g2 a2 => q2 σ G2 H2 _ (gs.mono (e1.trans e2)) g2 fun z M3 u3 G3 H3 ⟨kvs, key, hd, ht, q3⟩ e3 g3 a3 => ?_⟩
    subst ht
    obtain ⟨p', oo', ep, _, dg, h⟩ := dget_at (k := key) g3 ((a1.mono e2).mono e3) hd
    cases ep
    rw [key_at a2]
    refine ⟨oo', dg, ?_⟩
    cases hv : valS kvs key with
    | none =>
      rw [hv] at h q3
      rw [h]
      exact (k.mono ((e1.trans e2).trans e3)).go q3 g3 a3
    | some r =>
      rw [hv] at h q3
      obtain ⟨u', rfl, ar⟩ := h
      exact (k.mono ((e1.trans e2).trans e3)).go q3 g3 ar
/-- d[k] = v, the dict a cell -/
theorem ds_dput {value : Expr} (hu : X.A.units + 1 < cLine) (w : DE X L value τ M fun z M1 => DE X L o τ M1 fun s M2 => DE X L i τ M2 fun t M3 => ∃ a kvs k, s = .c a ∧ M3 a = some (.k kvs) ∧ t = .d (kD k) ∧ kvs.length < sizeLine ∧ E.nx τ (updC M3 a (.k (putS kvs k z))))
    (hs : swapsWith value (some (.Subscript o i pos')) pos.line X.env = pure false := by rfl) : DS X L (.Assign [.Subscript o i pos'] value pos) τ M E :=
  ds_of (ps_dput hu pe_s pe_s pe_s hs) fun σ G H D gs gm k => w σ G H _ gs gm fun z M1 v G1 H1 q e1 g1 a1 => q σ G1 H1 _ (gs.mono e1) g1 fun s M2 u G2 H2 q2 e2 g2 a2 => q2 σ G2 H2 _ (gs.mono (e1.trans e2)) g2 fun t M3 w' G3 H3 ⟨a, kvs, key, hs, ha, ht, hl, q3⟩ e3 g3 a3 => by
    subst hs ht
    have e13 := (e1.trans e2).trans e3
    obtain ⟨_, xs, h1, h2⟩ := g3.cell a _ ha
    refine ⟨a, _, sl_c a2, ?_, k.nx _ _ σ G3 _ q3 e13 (g3.write ha h1 (fun _ _ z => nomatch z) ⟨_, upd_same, KvAt.put ((a1.mono e2).mono e3) h2⟩) (gs.mono e13)⟩
    rw [key_at a3]
    exact DPut.k h1 (by rw [h2.len]; exact hl)
/-- xs[i] = v, the list a cell -/
theorem dg_subL (w : DE X L o τ M fun t M1 => DE X L i τ M1 fun u M2 => ∃ a ss k j, t = .c a ∧ M2 a = some (.l ss) ∧ u = dI k ∧ ixN ss.length k = some j ∧ QG τ (updC M2 a (.l (ss.set j s))))
    (ha : ∀ v, assign (.Subscript o i pos) X.env v = (do
      let ov ← holding [v] (eval o X.env)
      let iv ← holding [v, ov] (eval i X.env)
      standAt pos
      holding [v, ov, iv] (setItem ov iv v)
      release [v, ov, iv] []) := by intro _; rfl) : DG X L (.Subscript o i pos) s τ M QG :=
  dg_of (pg_sub pe_s pe_s set_list ha) fun σ G H v Q' gs gm av k => w σ G H _ gs gm fun t M1 u G1 H1 q e1 g1 a1 => q σ G1 H1 _ (gs.mono e1) g1 fun z M2 w' G2 H2 ⟨a, ss, n, j, ht, ha, hu, hj, q2⟩ e2 g2 a2 => by
    subst ht hu
    obtain ⟨_, xs, h1, h2⟩ := g2.cell a _ ha
    exact ⟨a, xs, n, j, sl_c a1, sl_int a2, h1, by rw [h2.len]; exact hj, k _ _ σ G2 _ q2 (e1.trans e2) (g2.write ha h1 (fun _ _ z => nomatch z) ⟨_, upd_same, h2.set ((av.mono e1).mono e2) j⟩) (gs.mono (e1.trans e2))⟩
/-! ### methods -/
def RMk (K : PySem.W.Frag) (L : Lk) (r : V → List V → Hp → VK → Prop) (x : Sl) (xs : List Sl) (M : Cs) (Q : Sl → Cs → Prop) : Prop := ∀ G H v vs Q', GoodM K L M G H → SlAt K G v x → SlL K G vs xs → Ret K L G Q Q' → r v vs H Q'
theorem tyL_at {K : PySem.W.Frag} {G H : Hp} {v : V} {ss : List Sl} (g : GoodM K L M G H) (a : SlAt K G v s) (hT : isTup s = false) (h : seqOf M s = some ss) : tyV K "list" v H := by
  obtain ⟨p, xs, rfl, r, l⟩ := seq_at g a h
  rw [hT, if_neg Bool.false_ne_true] at r
  exact .inl ⟨rfl, xs, r⟩
theorem de_mL {name : Str} {id : String} {r : V → List V → Hp → VK → Prop} (slot : Slot "list" name id) (hty : typeOf (.builtin id) = pure (.type "method_descriptor")) (hm : MtR X id r)
    (w : DE X L o τ M fun x M1 => (isTup x = false ∧ ∃ ss, seqOf M1 x = some ss) ∧ DA X L (e :: es) τ M1 fun ss M2 => RMk X.K L r x ss M2 Q) (hbase : attributeBase o name X.env (eval o X.env) = eval o X.env := by rfl)
    (hfew : ((backTo cpos (starEach (e :: es) X.env)).all (fun x => !x.1) && (backToKw cpos (keywordEach [] X.env)).all (fun x => x.1.isSome)
      && decide ((e :: es).length + ([] : List Keyword).length + (if ([] : List Keyword).isEmpty then 0 else 1) < 30)) = true := by rfl)
    (hline : (apos.endLine == cpos.line) = true := by rfl) (hs : starEach (e :: es) X.env = (false, eval e X.env) :: starEach es X.env := by rfl) (hplain : (backTo cpos (starEach es X.env)).any (·.1) = false := by rfl) : DE X L (.Call (.Attribute o name apos) (e :: es) [] cpos) τ M Q :=
  de_of (pe_bm PySem.F.plainAttrs_list slot hty hm pe_s pa_s hbase hfew hline hs hplain) fun σ G H Q' gs gm k => w σ G H _ gs gm fun x M1 v G1 H1 ⟨⟨hT, ss, hss⟩, q⟩ e1 g1 a1 =>
    ⟨tyL_at g1 a1 hT hss, q σ G1 H1 _ (gs.mono e1) g1 fun ts M2 vs G2 H2 q2 e2 g2 a2 => q2 G2 H2 v vs Q' g2 (a1.mono e2) a2 (k.mono (e1.trans e2))⟩
theorem k_append {a : Addr} {ss : List Sl} {z : Sl} (h : M a = some (.l ss)) (hl : ss.length < sizeLine) (q : Q (.d .none) (updC M a (.l (ss ++ [z])))) : RMk X.K L rAppend (.c a) [z] M Q := fun G H v vs Q' g a1 a2 k => by
  obtain ⟨u, rfl, au⟩ := sl1 a2
  obtain ⟨_, xs, h1, h2⟩ := g.cell a _ h
  exact ⟨a, xs, u, sl_c a1, rfl, h1, by rw [h2.len]; exact hl, k _ _ _ G _ q (Ex.refl G) (g.write h h1 (fun _ _ z => nomatch z) ⟨_, upd_same, h2.append (.cons au .nil)⟩) (.d .non)⟩
/-- xs.append(e) as a statement -/
theorem ds_append (w : DE X L o τ M fun x M1 => (isTup x = false ∧ ∃ ss, seqOf M1 x = some ss) ∧ DE X L e τ M1 fun z M2 => ∃ a ss, x = .c a ∧ M2 a = some (.l ss) ∧ ss.length < sizeLine ∧ E.nx τ (updC M2 a (.l (ss ++ [z])))) (hbase : attributeBase o "append" X.env (eval o X.env) = eval o X.env := by rfl)
    (hfew : ((backTo cpos (starEach (e :: []) X.env)).all (fun x => !x.1) && (backToKw cpos (keywordEach [] X.env)).all (fun x => x.1.isSome)
      && decide ((e :: []).length + ([] : List Keyword).length + (if ([] : List Keyword).isEmpty then 0 else 1) < 30)) = true := by rfl)
    (hline : (apos.endLine == cpos.line) = true := by rfl) (hs : starEach (e :: []) X.env = (false, eval e X.env) :: starEach [] X.env := by rfl) (hplain : (backTo cpos (starEach [] X.env)).any (·.1) = false := by rfl) (hsw : swapsWith (.Call (.Attribute o "append" apos) [e] [] cpos) none pos.line X.env = pure false := by rfl) :
    DS X L (.Expr (.Call (.Attribute o "append" apos) [e] [] cpos) pos) τ M E :=
  ds_expr (de_mL PySem.F.slot_list_append PySem.F.type_list_append mt_append (de_imp w fun x M1 ⟨h, q⟩ => ⟨h, da_cons (de_imp q fun z M2 ⟨a, ss, hx, ha, hl, q2⟩ => da_nil (by subst hx; exact k_append ha hl q2)) hs⟩) hbase hfew hline hs hplain) hsw
theorem SlL.erase {K : PySem.W.Frag} {G : Hp} : ∀ {vs : List V} {ss : List Sl} (j : Nat), SlL K G vs ss → SlL K G (vs.eraseIdx j) (ss.eraseIdx j)
  | _, _, _, .nil => .nil
  | _, _, 0, .cons _ b => b
  | _, _, j + 1, .cons a b => .cons a (b.erase j)
theorem k_popAt {a : Addr} {ss : List Sl} {n : Int} {j : Nat} {z : Sl} (h : M a = some (.l ss)) (h1 : -(2 ^ 63) ≤ n) (h2 : n < 2 ^ 63) (hj : seqIndex? n ss.length = some j) (hz : ss[j]? = some z) (q : Q z (updC M a (.l (ss.eraseIdx j)))) : RMk X.K L rPopAt (.c a) [dI n] M Q := fun G H v vs Q' g a1 a2 k => by
  obtain ⟨u, rfl, au⟩ := sl1 a2
  obtain ⟨_, xs, e1, e2⟩ := g.cell a _ h
  obtain ⟨r, hr, ar⟩ := e2.get hz
  exact ⟨a, xs, n, j, r, sl_c a1, by rw [sl_int au], e1, h1, h2, by rw [e2.len]; exact hj, hr, k _ _ _ G _ q (Ex.refl G) (g.write h e1 (fun _ _ z => nomatch z) ⟨_, upd_same, e2.erase j⟩) ar⟩
/-- methods of texts without arguments -/
theorem de_mS0 {name : Str} {id : String} {f : Str → Bool} (slot : Slot "str" name id) (hty : typeOf (.builtin id) = pure (.type "method_descriptor")) (hm : MtR X id (fun x xs H Q => ∃ a, x = .str a ∧ xs = [] ∧ True ∧ Q (.bl (f a)) H))
    (w : DE X L o τ M fun s M1 => ∃ z, s = dS z ∧ Q (.d (.bool (f z))) M1) (hbase : attributeBase o name X.env (eval o X.env) = eval o X.env := by rfl) (hline : (apos.endLine == pos.line) = true := by rfl) : DE X L (.Call (.Attribute o name apos) [] [] pos) τ M Q :=
  de_of (pe_m0 slot hty hm pe_s hbase hline) fun σ G H Q' gs gm k => w σ G H _ gs gm fun s M1 v G1 H1 ⟨z, hs, q⟩ e1 g1 a1 => by
    subst hs
    rw [sl_str a1]
    exact ⟨⟨z, rfl⟩, z, rfl, rfl, trivial, (k.mono e1).go q g1 (.d (.bl _))⟩
/-- sep.join(xs) -/
theorem strs_at {K : PySem.W.Frag} {G : Hp} {xs : List V} {ys : List Str} (l : SlL K G xs (ys.map dS)) : xs = ys.map V.str := by
  induction ys generalizing xs with
  | nil => cases l; rfl
  | cons n r ih =>
    cases l with
    | cons a b =>
      rw [ih b, sl_str a]
      rfl
theorem de_join (w : DE X L o τ M fun s M1 => ∃ z, s = dS z ∧ DE X L e τ M1 fun t M2 => ∃ ys : List Str, seqOf M2 t = some (ys.map dS) ∧ (ys.map (·.length)).sum + ys.length * z.length ≤ 16777216 ∧ Q (dS (Txt.join z ys)) M2)
    (hs : starEach [e] X.env = [(false, eval e X.env)] := by rfl) (hbase : attributeBase o "join" X.env (eval o X.env) = eval o X.env := by rfl) (hline : (apos.endLine == pos.line) = true := by rfl) : DE X L (.Call (.Attribute o "join" apos) [e] [] pos) τ M Q :=
  de_of (pe_join pe_s pe_s hs hbase hline) fun σ G H Q' gs gm k => w σ G H _ gs gm fun s M1 v G1 H1 ⟨z, hs, q⟩ e1 g1 a1 => by
    subst hs
    rw [sl_str a1]
    refine ⟨⟨z, rfl⟩, q σ G1 H1 _ (gs.mono e1) g1 fun t M2 u G2 H2 ⟨ys, ht, hl, q2⟩ e2 g2 a2 => ?_⟩
    obtain ⟨p, xs, rfl, r, l⟩ := seq_at' g2 a2 ht
    rw [strs_at l] at r
    exact ⟨z, p, ys, rfl, rfl, r, hl, (k.mono (e1.trans e2)).go q2 g2 (.d (.str _))⟩
/-! ### more walks -/
theorem di_zip {e2 : Expr} {elts : List Expr} {kk : Nat} {tpos : Pos} (hg : Gl X "zip") (hm : X.mg "zip" = none)
    (w : DA X L [e, e2] τ M fun ss M1 => ∃ s t xs ys, ss = [s, t] ∧ isTup s = isTup t ∧ seqOf M1 s = some xs ∧ seqOf M1 t = some ys ∧ xs.length = ys.length ∧ QJ xs.length (fun M' => seqOf M' s = some xs ∧ seqOf M' t = some ys) (fun i y => ∃ a b, xs[i]? = some a ∧ ys[i]? = some b ∧ y = .u [a, b]) M1)
    (hs : starEach [e, e2] X.env = (false, eval e X.env) :: starEach [e2] X.env := by rfl) (hpl : (backTo pos (starEach [e2] X.env)).any (·.1) = false := by rfl) : DI X L (.Tuple elts kk tpos) (.Call (.Name "zip" p) [e, e2] [] pos) τ M QJ := fun σ G H R gs gm k => by
  refine i_of (RZ.pi_zipA hg hm pa_s hs hpl) ?_
  show sA X [e, e2] σ H (fun vs H1 => ∃ a b xs ys, vs = [.ref a, .ref b] ∧ ((SqL X.K H1 a xs ∧ SqL X.K H1 b ys ∧ R (Itz X.K a b) H1) ∨ (SqT X.K H1 a xs ∧ SqT X.K H1 b ys ∧ R (RZ.ItzT X.K a b) H1)))
  refine w σ G H _ gs gm ?_
  rintro ss M1 vs G1 H1 ⟨s, t, us, ws, e0, hT, h1, h2, hl, q⟩ e1 g1 a1
  subst e0
  obtain ⟨v, u, rfl, av, au⟩ := sl2 a1
  obtain ⟨pa, xs, rfl, ra, la⟩ := seq_at g1 av h1
  obtain ⟨pb, ys, rfl, rb, lb⟩ := seq_at g1 au h2
  refine ⟨pa, pb, xs, ys, rfl, ?_⟩
  rw [← hT] at rb
  cases hS : isTup s with
  | false =>
    rw [hS, if_neg Bool.false_ne_true] at ra rb
    refine .inl ⟨ra, rb, k _ _ _ M1 G1 H1 _ q e1 g1 ⟨fun M' G' H' sM e' g' => ?_, fun i M' G' H' hi sM e' g' => ?_⟩⟩
    · obtain ⟨p1, xs1, ep, r1, l1⟩ := seq_at g' (av.mono e') sM.1
      obtain ⟨p2, ys1, eq, r2, l2⟩ := seq_at g' (au.mono e') sM.2
      cases ep
      cases eq
      rw [← hT] at r2
      rw [hS, if_neg Bool.false_ne_true] at r1 r2
      exact ⟨xs1, ys1, r1, r2, .inl (Nat.le_of_eq l1.len)⟩
    · obtain ⟨p1, xs1, ep, r1, l1⟩ := seq_at g' (av.mono e') sM.1
      obtain ⟨p2, ys1, eq, r2, l2⟩ := seq_at g' (au.mono e') sM.2
      cases ep
      cases eq
      rw [← hT] at r2
      rw [hS, if_neg Bool.false_ne_true] at r1 r2
      have hj : i < ws.length := by omega
      obtain ⟨v1, hv1, av1⟩ := l1.get (List.getElem?_eq_getElem hi)
      obtain ⟨v2, hv2, av2⟩ := l2.get (List.getElem?_eq_getElem hj)
      refine ⟨⟨xs1, ys1, v1, v2, r1, r2, hv1, hv2⟩, fun x H2 hy => ?_⟩
      obtain ⟨T, x1, x2, rfl, nT, rfl, f1, f2⟩ := hy
      have ex1 := Option.some.inj ((f1 _ r1).symm.trans hv1)
      have ex2 := Option.some.inj ((f2 _ r2).symm.trans hv2)
      subst ex1 ex2
      have fr := g'.free nT
      exact ⟨_, _, ⟨_, _, List.getElem?_eq_getElem hi, List.getElem?_eq_getElem hj, rfl⟩, Ex.new fr.1, g'.newD nT, .u upd_same (.cons (av1.mono (Ex.new fr.1)) (.cons (av2.mono (Ex.new fr.1)) .nil))⟩
  | true =>
    rw [hS, if_pos rfl] at ra rb
    refine .inr ⟨ra, rb, k _ _ _ M1 G1 H1 _ q e1 g1 ⟨fun M' G' H' sM e' g' => ?_, fun i M' G' H' hi sM e' g' => ?_⟩⟩
    · obtain ⟨p1, xs1, ep, r1, l1⟩ := seq_at g' (av.mono e') sM.1
      obtain ⟨p2, ys1, eq, r2, l2⟩ := seq_at g' (au.mono e') sM.2
      cases ep
      cases eq
      rw [← hT] at r2
      rw [hS, if_pos rfl] at r1 r2
      exact ⟨xs1, ys1, r1, r2, .inl (Nat.le_of_eq l1.len)⟩
    · obtain ⟨p1, xs1, ep, r1, l1⟩ := seq_at g' (av.mono e') sM.1
      obtain ⟨p2, ys1, eq, r2, l2⟩ := seq_at g' (au.mono e') sM.2
      cases ep
      cases eq
      rw [← hT] at r2
      rw [hS, if_pos rfl] at r1 r2
      have hj : i < ws.length := by omega
      obtain ⟨v1, hv1, av1⟩ := l1.get (List.getElem?_eq_getElem hi)
      obtain ⟨v2, hv2, av2⟩ := l2.get (List.getElem?_eq_getElem hj)
      refine ⟨⟨xs1, ys1, v1, v2, r1, r2, hv1, hv2⟩, fun x H2 hy => ?_⟩
      obtain ⟨T, x1, x2, rfl, nT, rfl, f1, f2⟩ := hy
      have ex1 := Option.some.inj ((f1 _ r1).symm.trans hv1)
      have ex2 := Option.some.inj ((f2 _ r2).symm.trans hv2)
      subst ex1 ex2
      have fr := g'.free nT
      exact ⟨_, _, ⟨_, _, List.getElem?_eq_getElem hi, List.getElem?_eq_getElem hj, rfl⟩, Ex.new fr.1, g'.newD nT, .u upd_same (.cons (av1.mono (Ex.new fr.1)) (.cons (av2.mono (Ex.new fr.1)) .nil))⟩
end
end Y

namespace Y
open PySem L2 PyProof.Rows

/-- no dict is walked at present -/
def NoDK (L : Lk) : Prop := ∀ x ∈ L, ∀ kvs, x.2.2 ≠ .dK kvs
section
variable {K : PySem.W.Frag} {L : Lk} {M : Cs} {G H : Hp} {d : Addr} {kvs : List (Key × V)} {od : Obj}
theorem lock_exact (g : GoodM K L M G H) (hL : NoDK L) (hd : G d = some (.dK kvs)) : H d = some (.dK kvs) := by
  rcases g.vw d _ hd with z | ⟨x, hx, _, w⟩
  · exact z
  · exact absurd w (hL x hx kvs)
theorem lock_ne (g : GoodM K L M G H) (hL : NoDK L) (hd : G d = some (.dK kvs)) : ∀ x ∈ L, x.1 ≠ d := fun x hx e => by
  have h1 := g.lk x hx
  rw [e, lock_exact g hL hd] at h1
  cases h1
theorem GoodM.lock (g : GoodM K L M G H) (hL : NoDK L) (hd : G d = some (.dK kvs)) : GoodM K ((d, od, .dK kvs) :: L) M G (upd H d (.frz od (.dK kvs))) := by
  refine ⟨fun a o e => ?_, fun a c e => ?_, fun x hx => ?_⟩
  · by_cases ha : a = d
    · subst ha
      rw [hd] at e
      cases e
      exact .inr ⟨_, List.mem_cons_self, rfl, rfl⟩
    · rcases g.vw a o e with z | ⟨x, hx, z⟩
      · exact .inl (by rw [upd_ne ha]; exact z)
      · exact .inr ⟨x, List.mem_cons_of_mem _ hx, z⟩
  · obtain ⟨z1, z2⟩ := g.cell a c e
    have ha : a ≠ d := by
      intro z
      rw [z, hd] at z1
      cases z1
    exact ⟨z1, z2.mono (Ex.refl G) fun o q => by rw [upd_ne ha]; exact q⟩
  · rcases List.mem_cons.mp hx with rfl | hx
    · exact upd_same
    · rw [upd_ne (lock_ne g hL hd x hx)]
      exact g.lk x hx
theorem GoodM.unlock (g : GoodM K ((d, od, .dK kvs) :: L) M G H) (hne : ∀ x ∈ L, x.1 ≠ d) (hd : G d = some (.dK kvs)) : GoodM K L M G (upd H d (.dK kvs)) := by
  refine ⟨fun a o e => ?_, fun a c e => ?_, fun x hx => ?_⟩
  · by_cases ha : a = d
    · subst ha
      rw [hd] at e
      cases e
      exact .inl upd_same
    · rcases g.vw a o e with z | ⟨x, hx, z⟩
      · exact .inl (by rw [upd_ne ha]; exact z)
      · rcases List.mem_cons.mp hx with rfl | hx
        · exact absurd z.1.symm ha
        · exact .inr ⟨x, hx, z⟩
  · obtain ⟨z1, z2⟩ := g.cell a c e
    have ha : a ≠ d := by
      intro z
      rw [z, hd] at z1
      cases z1
    exact ⟨z1, z2.mono (Ex.refl G) fun o q => by rw [upd_ne ha]; exact q⟩
  · rw [upd_ne (hne x hx)]
    exact g.lk x (List.mem_cons_of_mem _ hx)
end
section
variable {X : Cx} {L : Lk} {τ : List (Option Sl)} {M : Cs} {Q : Sl → Cs → Prop} {QG : List (Option Sl) → Cs → Prop} {e a b c o tg iter : Expr} {es : List Expr} {pos apos cpos pos' p0 : Pos} {E : Ks} {st : Stmt} {sts body : List Stmt} {QJ : QI} {nm : Str} {i : Nat}
/-- for k, v in d.items(), d a name -/
theorem ds_forItems {elts : List Expr} {kk : Nat} {tpos : Pos} {kd : List (Key × PyData)} (hp : PassesOwn (model X.prog X.w) X.A X.env X.xe) (hc : X.calm = true) (hL : NoDK L) (hN : X.N[i]? = some nm) (hv : Vis X.env.scope nm) (ht : τ[i]? = some (some (.d (.dict (encK kd)))))
    (Iv : Nat → List (Option Sl) → Cs → Prop) (i0 : Iv 0 τ M)
    (turn : ∀ x, (∃ xs, x.2.2 = HO.dK xs) → ∀ n k d τ' M', kd[n]? = some (k, d) → Iv n τ' M' → DG X (x :: L) (.Tuple elts kk tpos) (.u [.d (kD k), .d d]) τ' M' fun τ2 M2 => DB X (x :: L) body τ2 M2 { E with nx := Iv (n + 1), ct := Iv (n + 1), bk := E.nx })
    (fin : ∀ τ' M', Iv kd.length τ' M' → E.nx τ' M')
    (hd : (nm == ("__debug__" : Str)) = false := by decide) (hcd : (nm == ("__classdict__" : Str)) = false := by decide)
    (hbase : attributeBase (.Name nm p0) "items" X.env (eval (.Name nm p0) X.env) = eval (.Name nm p0) X.env := by rfl) (hline : (apos.endLine == cpos.line) = true := by rfl)
    (hs : ∀ x, foldedSetIterable (.Call (.Attribute (.Name nm p0) "items" apos) [] [] cpos) X.env x = pure x := by intro _; rfl) : DS X L (.For (.Tuple elts kk tpos) (.Call (.Attribute (.Name nm p0) "items" apos) [] [] cpos) body [] pos) τ M E :=
  ds_of (ps_lock (ps_for hp hc (pi_items (pe_var hN hv hd hcd) hbase hline) pg_s pss_s hs)) fun σ G H D gs gm k => by
    obtain ⟨v, hσ, av⟩ := gs.get i _ ht
    cases av with
    | d av =>
      generalize hz : encK kd = zs at av
      cases av with
      | dic hG l =>
        rename_i dd xs
        subst hz
        have lx := AtK.kv kd l
        have hx := lock_exact gm hL hG
        have hne := lock_ne gm hL hG
        refine ⟨dd, .dK xs, hx, trivial, fun od => ?_⟩
        have gmL := gm.lock (od := od) hL hG
        have kL : EndsOk X.K ((dd, od, .dK xs) :: L) G E ⟨fun σ' H' => H' dd = some (.frz od (.dK xs)) ∧ D.nx σ' (upd H' dd (.dK xs)), fun v H' => H' dd = some (.frz od (.dK xs)) ∧ D.rt v (upd H' dd (.dK xs)), fun σ' H' => H' dd = some (.frz od (.dK xs)) ∧ D.bk σ' (upd H' dd (.dK xs)), fun σ' H' => H' dd = some (.frz od (.dK xs)) ∧ D.ct σ' (upd H' dd (.dK xs))⟩ :=
          ⟨fun τ' M' σ' G' H' q e g s => ⟨g.lk _ List.mem_cons_self, k.nx _ _ _ G' _ q e (g.unlock hne (e _ _ hG)) s⟩, fun s M' v G' H' q e g a => ⟨g.lk _ List.mem_cons_self, k.rt _ _ _ G' _ q e (g.unlock hne (e _ _ hG)) a⟩,
            fun τ' M' σ' G' H' q e g s => ⟨g.lk _ List.mem_cons_self, k.bk _ _ _ G' _ q e (g.unlock hne (e _ _ hG)) s⟩, fun τ' M' σ' G' H' q e g s => ⟨g.lk _ List.mem_cons_self, k.ct _ _ _ G' _ q e (g.unlock hne (e _ _ hG)) s⟩⟩
        refine ⟨.ref dd, hσ, dd, od, xs, rfl, upd_same, ?_⟩
        refine ⟨fun n m σ' H' => m = kd.length - n ∧ n ≤ kd.length ∧ ∃ τ' M' G', Iv n τ' M' ∧ Ex G G' ∧ GoodS X.K G' σ' τ' ∧ GoodM X.K ((dd, od, .dK xs) :: L) M' G' H', ⟨kd.length, by simp, Nat.zero_le _, τ, M, G, i0, Ex.refl _, gs, gmL⟩, ?_⟩
        rintro n m σ' H' ⟨rfl, hn, τ', M', G', iv, e', s', g'⟩
        have hl : xs.length = kd.length := by rw [lx.len]; simp [slK]
        have hd' : H' dd = some (.frz od (.dK xs)) := g'.lk _ List.mem_cons_self
        by_cases hlt : n < kd.length
        · refine .inr ⟨⟨hd', by rw [hl]; exact hlt⟩, fun σ2 H2 => ∃ τ2 M2 G2, Iv (n + 1) τ2 M2 ∧ Ex G G2 ∧ GoodS X.K G2 σ2 τ2 ∧ GoodM X.K ((dd, od, .dK xs) :: L) M2 G2 H2, fun σ2 H2 ⟨τ2, M2, G2, h⟩ => ⟨kd.length - (n + 1), by omega, rfl, hlt, τ2, M2, G2, h⟩, fun x H2 hy => ?_⟩
          obtain ⟨T, k1, v1, hx1, rfl, nT, rfl⟩ := hy
          obtain ⟨u1, hu1, au1⟩ := (KvAt.mono e' lx).get (i := n) (k := (kd[n]).1) (s := .d (kd[n]).2) (by unfold slK; rw [List.getElem?_map, List.getElem?_eq_getElem hlt]; rfl)
          rw [hx1] at hu1
          have hu2 := Option.some.inj hu1
          have f := g'.free nT
          have ek : k1 = (kd[n]).1 := (Prod.mk.inj hu2).1
          have ev : v1 = u1 := (Prod.mk.inj hu2).2
          subst ev
          have ak : At X.K (upd G' T (.tup [kV k1, v1])) (kV k1) (kD (kd[n]).1) := by
            rw [← ek]
            cases k1 with
            | inl z => exact .int z
            | inr z => exact .str z
          have e2 := Ex.new (G := G') (o := .tup [kV k1, v1]) f.1
          refine turn (dd, od, .dK xs) ⟨xs, rfl⟩ n (kd[n]).1 (kd[n]).2 τ' M' (List.getElem?_eq_getElem hlt) iv σ' _ _ _ _ (s'.mono e2) (g'.newD nT) (.u upd_same (.cons (.d ak) (.cons (au1.mono e2) .nil))) fun τ3 M3 σ3 G3 H3 q3 e3 g3 s3 => ?_
          have e13 := (e'.trans e2).trans e3
          exact q3 σ3 G3 H3 _ s3 g3 ⟨fun τ4 M4 σ4 G4 H4 q4 e4 g4 s4 => ⟨τ4, M4, G4, q4, e13.trans e4, s4, g4⟩, kL.rt.mono e13, kL.nx.mono e13, fun τ4 M4 σ4 G4 H4 q4 e4 g4 s4 => ⟨τ4, M4, G4, q4, e13.trans e4, s4, g4⟩⟩
        · have e : n = kd.length := by omega
          subst e
          exact .inl ⟨⟨hd', by rw [hl]; exact Nat.le_refl _⟩, kL.nx τ' M' σ' G' H' (fin _ _ iv) e' g' s'⟩
/-- {kx: vx for tg in iter} -/
theorem we_dc {kx vx : TE} {g : TG} {tt : TT} {vs : List Nat} (w : DI X L tg iter τ M fun n S ys M1 => ∀ D, M1 D = none → ∃ Iv : Nat → Cs → Prop, Iv 0 (updC M1 D (.k [])) ∧ (∀ i M', Iv i M' → S M') ∧
      (∀ i y M', i < n → ys i y → Iv i M' → WGw X.K L vs g y (wipeK τ vs) M' fun τ2 M2 => WT X.K L tt τ2 M2 fun d M3 => (d = true → WE X.K L kx τ2 M3 fun z M4 => WE X.K L vx τ2 M4 fun z2 M5 => ∃ kvs k, z = .d (kD k) ∧ M5 D = some (.k kvs) ∧ kvs.length < sizeLine ∧ Iv (i + 1) (updC M5 D (.k (putS kvs k z2)))) ∧ (d = false → Iv (i + 1) M3)) ∧ (∀ M', Iv n M' → Q (.c D) M')) :
    WE X.K L (tDc (sI X tg iter) g tt kx vx vs) τ M Q := fun σ G H Q' gs gm k => w σ G H _ gs gm fun n S ys M1 G1 H1 J q e1 g1 ok D hD => by
  obtain ⟨Iv, i0, st, turn, fin⟩ := q D (g1.free hD).2
  refine ⟨fun i m H' => m = n - i ∧ i ≤ n ∧ ∃ M' G', Iv i M' ∧ Ex G1 G' ∧ GoodM X.K L M' G' H', ⟨n, by simp, Nat.zero_le _, _, G1, i0, Ex.refl _, g1.newC hD ⟨[], upd_same, trivial⟩⟩, ?_⟩
  rintro i m H' ⟨rfl, hi, M', G', iv, e', g'⟩
  by_cases hlt : i < n
  · obtain ⟨go, yl⟩ := ok.go i M' G' H' hlt (st _ _ iv) e' g'
    refine .inr ⟨go, fun H2 => ∃ M2 G2, Iv (i + 1) M2 ∧ Ex G1 G2 ∧ GoodM X.K L M2 G2 H2, fun H2 ⟨M2, G2, h⟩ => ⟨n - (i + 1), by omega, rfl, hlt, M2, G2, h⟩, fun x H2 hy => ?_⟩
    obtain ⟨y, G2, yy, e2, g2, ay⟩ := yl x H2 hy
    have e12 := e'.trans e2
    refine turn i y M' hlt yy iv _ G2 H2 x _ ((gs.mono (e1.trans e12)).wipe vs) g2 ay fun τ3 M3 σ3 G3 H3 q3 e3 g3 s3 z3 => ?_
    refine ⟨z3.trans wipe_wipe, ?_⟩
    have e13 := e12.trans e3
    refine q3 σ3 G3 H3 _ s3 g3 fun d M4 G4 H4 q4 e4 g4 => ?_
    cases d with
    | true =>
      rw [if_pos rfl]
      refine q4.1 rfl σ3 G4 H4 _ (s3.mono e4) g4 fun z M5 v G5 H5 q5 e5 g5 a5 => ?_
      refine q5 σ3 G5 H5 _ (s3.mono (e4.trans e5)) g5 fun z2 M6 v2 G6 H6 ⟨kvs, key, hz, hk, hl, iv6⟩ e6 g6 a6 => ?_
      obtain ⟨f6, xs, h1, h2⟩ := g6.cell D _ hk
      subst hz
      refine ⟨xs, key, key_at a5, h1, by rw [h2.len]; exact hl, _, G6, iv6, ((e13.trans e4).trans e5).trans e6, ?_⟩
      exact g6.write hk h1 (fun _ _ z => nomatch z) ⟨_, upd_same, KvAt.put a6 h2⟩
    | false =>
      rw [if_neg Bool.false_ne_true]
      exact ⟨M4, G4, q4.2 rfl, e13.trans e4, g4⟩
  · have e : i = n := by omega
    subst e
    exact .inl ⟨ok.stop M' G' H' (st _ _ iv) e' g', k _ M' _ G' H' (fin _ iv) (e1.trans e') g' (.c D)⟩
theorem de_dc0 {kx vx : Expr} {scope : Scope} {own : List (Str × Nat)} {g : TG} (hc : X.calm = true) (hN : X.N.Nodup) (ok : BlkOk X.N X.env.scope scope own) (hg : ∀ (s : Shared) (H : Hp) (C : Addr) (cl : List (Str × Addr)) (fp : List Addr), PG (X.blk s H scope (compEnvC scope cl C X.env) fp) tg g)
    (w : DI X L tg iter τ M fun n S ys M1 => ∀ D, M1 D = none → ∃ Iv : Nat → Cs → Prop, Iv 0 (updC M1 D (.k [])) ∧ (∀ i M', Iv i M' → S M') ∧
      (∀ i y M', i < n → ys i y → Iv i M' → WGw X.K L (own.map (·.2)) g y (wipeK τ (own.map (·.2))) M' fun τ2 M3 => DEb X scope L kx τ2 M3 fun z M4 => DEb X scope L vx τ2 M4 fun z2 M5 => ∃ kvs k, z = .d (kD k) ∧ M5 D = some (.k kvs) ∧ kvs.length < sizeLine ∧ Iv (i + 1) (updC M5 D (.k (putS kvs k z2)))) ∧ (∀ M', Iv n M' → Q (.c D) M'))
    (hs : ∀ x, foldedSetIterable iter X.env x = pure x := by intro _; rfl) : DE X L (.DictComp kx vx [⟨tg, iter, [], 0⟩] scope pos) τ M Q :=
  de_of (pe_dc (tk := bE X scope kx) (tv := bE X scope vx) (tt := tYes) hc hN pi_s ok hg (fun _ _ _ _ _ => pts_nil) (fun s H C cl fp => ⟨fun pins s' σ H' Q' I h => h s H C cl fp pins s' I⟩) (fun s H C cl fp => ⟨fun pins s' σ H' Q' I h => h s H C cl fp pins s' I⟩) hs) (we_dc fun σ G H R gs gm k => w σ G H R gs gm fun n S ys M1 G1 H1 J q e1 g1 ok => k n S ys M1 G1 H1 J (fun D hD => by
    obtain ⟨Iv, i0, st, turn, fin⟩ := q D hD
    refine ⟨Iv, i0, st, fun i y M' hi yy iv => ?_, fin⟩
    intro σ G H v Q' gs gm a k
    refine turn i y M' hi yy iv σ G H v Q' gs gm a fun τ' M' σ' G' H' h => k τ' M' σ' G' H' ?_
    refine fun σ G H Q' gs gm k => k.go (b := true) ⟨fun _ => ?_, fun z => nomatch z⟩ gm
    refine web (X := X) (scope := scope) fun s0 H0 C cl fp σ2 G2 H2 Q2 gs2 gm2 k2 => h s0 H0 C cl fp σ2 G2 H2 Q2 gs2 gm2 fun z M4 v4 G4 H4 q4 => k2 z M4 v4 G4 H4 (web q4)) e1 g1 ok)
/-- a dict cell of data becomes data -/
theorem GoodM.freezeK {K : PySem.W.Frag} {G H : Hp} {p : Addr} {kd : List (Key × PyData)} (g : GoodM K L M G H) (hc : M p = some (.k (slK kd))) : ∃ G', Ex G G' ∧ GoodM K L (delC M p) G' H ∧ At K G' (.ref p) (.dict (encK kd)) := by
  obtain ⟨f, xs, h1, h2⟩ := g.cell p _ hc
  refine ⟨upd G p (.dK xs), Ex.new f, ⟨fun a u e => ?_, fun a c e => ?_, g.lk⟩, .dic upd_same (AtK.mono (Ex.new f) (KvAt.at kd h2))⟩
  · by_cases ha : a = p
    · subst ha
      rw [upd_same] at e
      cases e
      exact .inl h1
    · rw [upd_ne ha] at e
      exact g.vw a u e
  · by_cases ha : a = p
    · subst ha
      rw [delC_same] at e
      cases e
    · rw [delC_ne ha] at e
      obtain ⟨z1, z2⟩ := g.cell a c e
      exact ⟨by rw [upd_ne ha]; exact z1, z2.mono (Ex.new f) fun o q => q⟩
theorem de_frzK (w : DE X L e τ M fun s M1 => ∃ p kd, s = .c p ∧ M1 p = some (.k (slK kd)) ∧ Q (.d (.dict (encK kd))) (delC M1 p)) : DE X L e τ M Q := fun σ G H Q' gs gm k =>
  w σ G H _ gs gm fun s M1 v G1 H1 ⟨p, ds, e, hp, q⟩ e1 g1 a1 => by
    subst e
    obtain ⟨G2, e2, g2, a2⟩ := g1.freezeK hp
    rw [sl_c a1]
    exact k _ _ _ G2 H1 q (e1.trans e2) g2 (.d a2)
/-- a statement's cell slot becomes data: the slot j holds the cell p -/
theorem db_frz {j : Nat} {p : Addr} {ds : List PyData} (hj : τ[j]? = some (some (.c p))) (hp : M p = some (.l (ds.map .d))) (w : DB X L sts (τ.set j (some (.d (.list ds)))) (delC M p) E) : DB X L sts τ M E := fun σ G H D gs gm k => by
  obtain ⟨G2, e2, g2, a2⟩ := gm.freeze hp
  obtain ⟨v, hv, av⟩ := gs.get j _ hj
  have ev := sl_c av
  subst ev
  have hset : σ.set j (some (.ref p)) = σ := by
    apply List.ext_getElem?
    intro n
    by_cases e : j = n
    · subst e
      obtain ⟨hl, _⟩ := List.getElem?_eq_some_iff.mp hv
      rw [List.getElem?_set_self hl, hv]
    · rw [List.getElem?_set_ne e]
  have gs2 := (gs.mono e2).set (v := .ref p) (SlAt.d a2) j
  rw [hset] at gs2
  exact w σ G2 H D gs2 g2 (k.mono e2)
end
end Y

namespace Y
open PySem L2 PyProof.Rows

theorem bt_isinstance : bootBuiltins "isinstance" = some (.builtin "isinstance") := by decide +kernel
theorem bt_len : bootBuiltins "len" = some (.builtin "len") := by decide +kernel
theorem bt_sum : bootBuiltins "sum" = some (.builtin "sum") := by decide +kernel
theorem bt_all : bootBuiltins "all" = some (.builtin "all") := by decide +kernel
theorem bt_min : bootBuiltins "min" = some (.builtin "min") := by decide +kernel
theorem bt_max : bootBuiltins "max" = some (.builtin "max") := by decide +kernel
theorem bt_abs : bootBuiltins "abs" = some (.builtin "abs") := by decide +kernel
theorem bt_sorted : bootBuiltins "sorted" = some (.builtin "sorted") := by decide +kernel
theorem bt_repr : bootBuiltins "repr" = some (.builtin "repr") := by decide +kernel
theorem bt_any : bootBuiltins "any" = some (.builtin "any") := by decide +kernel
theorem bt_int : bootBuiltins "int" = some (.type "int") := by decide +kernel
theorem bt_bool : bootBuiltins "bool" = some (.type "bool") := by decide +kernel
theorem bt_str : bootBuiltins "str" = some (.type "str") := by decide +kernel
theorem bt_list : bootBuiltins "list" = some (.type "list") := by decide +kernel
theorem bt_tuple : bootBuiltins "tuple" = some (.type "tuple") := by decide +kernel
theorem bt_dict : bootBuiltins "dict" = some (.type "dict") := by decide +kernel
theorem bt_type : bootBuiltins "type" = some (.type "type") := by decide +kernel
theorem bt_set : bootBuiltins "set" = some (.type "set") := by decide +kernel
theorem bt_zip : bootBuiltins "zip" = some (.type "zip") := by decide +kernel
theorem bt_enumerate : bootBuiltins "enumerate" = some (.type "enumerate") := by decide +kernel
theorem bt_range : bootBuiltins "range" = some (.type "range") := by decide +kernel
theorem bt_reversed : bootBuiltins "reversed" = some (.type "reversed") := by decide +kernel
theorem okTy_int : okTy "int" := PySem.TypeEq.meta_int
theorem okTy_str : okTy "str" := PySem.TypeEq.meta_str
theorem okTy_bool : okTy "bool" := PySem.TypeEq.meta_bool
theorem okTy_NoneType : okTy "NoneType" := PySem.TypeEq.meta_NoneType
theorem okTy_list : okTy "list" := PySem.TypeEq.meta_list
theorem okTy_tuple : okTy "tuple" := PySem.TypeEq.meta_tuple
theorem okTy_dict : okTy "dict" := PySem.TypeEq.meta_dict
/-! ### a < b < c < d as a test -/
def tChain3 (r1 r2 r3 : R2) (ta tb tc td : TE) : TT := fun σ H Q => ta σ H fun x H1 => tb σ H1 fun y H2 => r1 x y H2 fun z H3 => ∃ k, z = .bl k ∧ (if k = true then tc σ H3 fun y2 H4 => r2 y y2 H4 fun z2 H5 => ∃ k2, z2 = .bl k2 ∧ (if k2 = true then td σ H5 fun y3 H6 => r3 y2 y3 H6 fun z3 H7 => ∃ k3, z3 = .bl k3 ∧ Q k3 H7 else Q false H5) else Q false H3)
section
variable {X : Cx} {a b c d : Expr} {ta tb tc td : TE} {pos : Pos}
theorem pt_chain3 {op op' op'' : CmpOp} {r r' r'' : R2} (ho : OpR X (compareOp op) r) (ho' : OpR X (compareOp op') r') (ho'' : OpR X (compareOp op'') r'') (ha : PE X a ta) (hb : PE X b tb) (hc : PE X c tc) (hd : PE X d td)
    (hm : lastMarks [op, op', op''] [b, c, d] = false := by with_unfolding_all rfl) : PT X (.Compare a [op, op', op''] [b, c, d] pos) (tChain3 r r' r'' ta tb tc td) := by
  refine ⟨fun pins s σ H Q I h => ?_⟩
  refine isTrue_chain (thn (ha.run pins s σ H _ I h) fun v s1 ⟨x, H1, I1, r1, q1⟩ => test_link (thn (hb.run pins s1 σ H1 _ I1 q1) fun u s2 ⟨y, H2, I2, r2, q2⟩ =>
    thn (ho pins s2 σ H2 x y v u _ I2 r1 r2 q2) fun e s3 ⟨z, H3, I3, r3, k, ek, q3⟩ => ?_)) hm
  subst ek
  cases r3
  refine wpAny_truthy_bool ?_
  cases k with
  | false => exact ite_ff ⟨H3, I3, q3⟩
  | true =>
    refine ite_tt (test_link (thn (hc.run pins s3 σ H3 _ I3 q3) fun u4 s4 ⟨y4, H4, I4, r4, q4⟩ => thn (ho' pins s4 σ H4 y y4 u u4 _ I4 r2 r4 q4) fun e5 s5 ⟨z5, H5, I5, r5, k5, ek5, q5⟩ => ?_))
    subst ek5
    cases r5
    refine wpAny_truthy_bool ?_
    cases k5 with
    | false => exact ite_ff ⟨H5, I5, q5⟩
    | true =>
      refine ite_tt (test_last (thn (hd.run pins s5 σ H5 _ I5 q5) fun u6 s6 ⟨y6, H6, I6, r6, q6⟩ => thn (ho'' pins s6 σ H6 y4 y6 u4 u6 _ I6 r4 r6 q6) fun e7 s7 ⟨z7, H7, I7, r7, k7, ek7, q7⟩ => ?_))
      subst ek7
      cases r7
      exact wpAny_truthy_bool ⟨H7, I7, q7⟩
theorem dt_chain3 {op op' op'' : CmpOp} {r r' r'' : R2} {L : Lk} {τ : List (Option Sl)} {M : Cs} {QB : Bool → Cs → Prop} (ho : OpR X (compareOp op) r) (ho' : OpR X (compareOp op') r') (ho'' : OpR X (compareOp op'') r'')
    (w : DE X L a τ M fun x M1 => DE X L b τ M1 fun y M2 => R2k X.K L r x y M2 (BoolQ fun k M3 => (k = true → DE X L c τ M3 fun z M4 => R2k X.K L r' y z M4 (BoolQ fun k2 M5 => (k2 = true → DE X L d τ M5 fun t M6 => R2k X.K L r'' z t M6 (BoolQ QB)) ∧ (k2 = false → QB false M5))) ∧ (k = false → QB false M3)))
    (hm : lastMarks [op, op', op''] [b, c, d] = false := by with_unfolding_all rfl) : DT X L (.Compare a [op, op', op''] [b, c, d] pos) τ M QB :=
  dt_of (pt_chain3 ho ho' ho'' pe_s pe_s pe_s pe_s hm) fun σ G H Q' gs gm k =>
    w σ G H _ gs gm fun x M1 v G1 H1 q e1 g1 a1 => q σ G1 H1 _ (gs.mono e1) g1 fun y M2 u G2 H2 q2 e2 g2 a2 => q2 G2 H2 v u _ g2 (a1.mono e2) a2 fun s M3 z G3 H3 ⟨k1, e, q3, q4⟩ e3 g3 a3 => by
      subst e
      refine ⟨k1, sl_bl a3, ?_⟩
      have e13 := (e1.trans e2).trans e3
      cases k1 with
      | false =>
        rw [if_neg Bool.false_ne_true]
        exact (k.mono e13).go (q4 rfl) g3
      | true =>
        rw [if_pos rfl]
        refine q3 rfl σ G3 H3 _ (gs.mono e13) g3 fun t M4 w' G4 H4 q5 e4 g4 a4 => q5 G4 H4 u w' _ g4 ((a2.mono e3).mono e4) a4 fun s5 M5 z5 G5 H5 ⟨k5, e5', q6, q7⟩ e5 g5 a5 => ?_
        subst e5'
        refine ⟨k5, sl_bl a5, ?_⟩
        have e15 := (e13.trans e4).trans e5
        cases k5 with
        | false =>
          rw [if_neg Bool.false_ne_true]
          exact (k.mono e15).go (q7 rfl) g5
        | true =>
          rw [if_pos rfl]
          refine q6 rfl σ G5 H5 _ (gs.mono e15) g5 fun t6 M6 w6 G6 H6 q8 e6 g6 a6 => q8 G6 H6 w' w6 _ g6 ((a4.mono e5).mono e6) a6 fun s7 M7 z7 G7 H7 ⟨k7, e7', q9⟩ e7 g7 a7 => ?_
          subst e7'
          exact ⟨k7, sl_bl a7, k k7 M7 G7 H7 q9 ((e15.trans e6).trans e7) g7⟩
end
theorem no1 {P : Prop} (h : false = true) : P := nomatch h
theorem no2 {P : Prop} (h : true = false) : P := nomatch h
section
variable {X : Cx} {L : Lk} {τ : List (Option Sl)} {M : Cs} {QB QB2 : Bool → Cs → Prop} {c : Expr} {sts st2 : List Stmt} {pos : Pos} {E : Ks}
theorem dt_imp (w : DT X L c τ M QB2) (h : ∀ k M', QB2 k M' → QB k M') : DT X L c τ M QB := fun σ G H Q' gs gm k => w σ G H Q' gs gm fun b M' G' H' q => k b M' G' H' (h b M' q)
/-- an if whose test is told first -/
theorem ds_ifB (b : Bool) (h : DT X L c τ M fun k M1 => k = b ∧ M1 = M) (wt : b = true → DB X L sts τ M E) (wf : b = false → DB X L st2 τ M E) : DS X L (.If c sts st2 pos) τ M E := ds_if (dt_imp h fun k M1 ⟨e1, e2⟩ => by subst e1 e2; exact ⟨wt, wf⟩)
theorem ds_ifF (h : DT X L c τ M fun k M1 => k = false ∧ M1 = M) (w : DB X L st2 τ M E) : DS X L (.If c sts st2 pos) τ M E := ds_ifB false h (fun z => nomatch z) fun _ => w
theorem ds_ifT (h : DT X L c τ M fun k M1 => k = true ∧ M1 = M) (w : DB X L sts τ M E) : DS X L (.If c sts st2 pos) τ M E := ds_ifB true h (fun _ => w) fun z => nomatch z
end
/-! ### cells that nobody asks for -/
def Sub (M2 M1 : Cs) : Prop := ∀ a c, M2 a = some c → M1 a = some c
theorem Sub.refl (M : Cs) : Sub M M := fun _ _ h => h
theorem Sub.new {M M1 : Cs} {p : Addr} {c : Cell} (h : Sub M M1) (hp : M1 p = none) : Sub M (updC M1 p c) := fun a d e => by
  have e1 := h a d e
  rw [updC_ne (neC e1 hp)]
  exact e1
theorem Sub.put {M M1 : Cs} {p : Addr} {c : Cell} (h : Sub M M1) (hp : M p = none) : Sub M (updC M1 p c) := fun a d e => by
  rw [updC_ne (neC e hp)]
  exact h a d e
theorem Sub.del {M M1 : Cs} {p : Addr} (h : Sub M M1) (hp : M p = none) : Sub M (delC M1 p) := fun a d e => by
  rw [delC_ne (neC e hp)]
  exact h a d e
theorem Sub.none {M M1 : Cs} {p : Addr} (h : Sub M M1) (hp : M1 p = none) : M p = none := by
  cases e : M p with
  | none => rfl
  | some c => rw [h p c e] at hp; cases hp
theorem Sub.cong {M2 M1 : Cs} {p : Addr} {c : Cell} (h : Sub M2 M1) : Sub (updC M2 p c) (updC M1 p c) := fun a d e => by
  by_cases ha : a = p
  · subst ha
    rw [updC_same] at e ⊢
    exact e
  · rw [updC_ne ha] at e ⊢
    exact h a d e
theorem GoodM.sub {K : PySem.W.Frag} {L : Lk} {M1 M2 : Cs} {G H : Hp} (g : GoodM K L M1 G H) (h : Sub M2 M1) : GoodM K L M2 G H := ⟨g.vw, fun a c e => g.cell a c (h a c e), g.lk⟩
section
variable {X : Cx} {L : Lk} {τ : List (Option Sl)} {M : Cs} {Q : Sl → Cs → Prop} {e : Expr} {s : Sl} {sts : List Stmt} {E : Ks}
theorem de_gc (w : DE X L e τ M fun s M1 => ∃ M2, Sub M2 M1 ∧ Q s M2) : DE X L e τ M Q := fun σ G H Q' gs gm k => w σ G H _ gs gm fun s M1 v G1 H1 ⟨M2, h, q⟩ e1 g1 a1 => k s M2 v G1 H1 q e1 (g1.sub h) a1
theorem db_gc {M2 : Cs} (h : Sub M2 M) (w : DB X L sts τ M2 E) : DB X L sts τ M E := fun σ G H D gs gm k => w σ G H D gs (gm.sub h) k
theorem call_lenR : CallR X (.builtin "len") (fun xs H Q => ∃ a kvs, xs = [V.ref a] ∧ Rd H a (.dK kvs) ∧ Q (.int kvs.length) H) := by
  intro pins s σ H xs us Q I r h
  obtain ⟨a, kvs, rfl, ha, q⟩ := h
  obtain ⟨u, rfl, ru⟩ := vals1 r
  cases ru
  exact d_len I ha fun t s' I' => ⟨.int kvs.length, H, I', ⟨t, rfl⟩, q⟩
theorem k_lenD {kvs : List (Key × Sl)} (h : DictIs M s kvs) (q : Q (.d (.int kvs.length)) M) : RCk X.K L (fun xs H Q => ∃ a kvs, xs = [V.ref a] ∧ Rd H a (.dK kvs) ∧ Q (.int kvs.length) H) [s] M Q := fun G H vs Q' g a k => by
  obtain ⟨v, rfl, a1⟩ := sl1 a
  obtain ⟨p, xs, rfl, r, l⟩ := dict_at g a1 h
  exact ⟨p, xs, rfl, r, by rw [l.len]; exact k.go q g (.d (.int _))⟩
end
section
variable {X : Cx} {L : Lk} {τ : List (Option Sl)} {M : Cs} {st : Stmt} {sts : List Stmt} {E : Ks}
/-- a statement whose ways come together again -/
theorem db_consJ (J : List (Option Sl) → Cs → Prop) (w : DS X L st τ M { E with nx := J }) (h : ∀ τ' M', J τ' M' → DB X L sts τ' M' E) : DB X L (st :: sts) τ M E := db_cons fun σ G H D gs gm k => w σ G H D gs gm ⟨fun τ' M' σ' G' H' q => k.nx τ' M' σ' G' H' (h τ' M' q), k.rt, k.bk, k.ct⟩
end
/-- a def of the top: where it stands -/
def FunAt (K : PySem.W.Frag) (mg : Str → Option Value) (x : Str) (st : Stmt) (ps : List Str) : Prop := ∃ (f : Addr) (fd : FuncData), Fun K x x st f fd ∧ mg x = some (.ref f) ∧ Binds K fd ps []
/-- a def that may be called -/
def Cal (P : Program) (w : World) (K : PySem.W.Frag) (mg : Str → Option Value) (base : Heap) (x : Str) (k : Nat) (ps : List Str) (R : Rr) : Prop :=
  ∃ (f : Addr) (fd : FuncData), FnOk P w K mg base CX0 k f fd ps (Spk K R) ∧ mg x = some (.ref f) ∧ PySem.W.keepIn K (.ref f) = true ∧ Binds K fd ps []
theorem Cal.up {P : Program} {w : World} {K : PySem.W.Frag} {mg : Str → Option Value} {base : Heap} {x : Str} {j k : Nat} {ps : List Str} {R : Rr} (c : Cal P w K mg base x j ps R) (h : j ≤ k) : Cal P w K mg base x k ps R := by
  obtain ⟨f, fd, F, m, kp, b⟩ := c
  exact ⟨f, fd, F.mono h, m, kp, b⟩
section
variable {X : Cx} {L : Lk} {τ : List (Option Sl)} {M : Cs} {Q : Sl → Cs → Prop} {e : Expr} {es : List Expr} {pos p : Pos}
theorem de_callC {R : Rr} {k : Nat} {ps : List Str} {x : Str} (c : Cal X.prog X.w X.K X.mg X.base x k ps R) (hr : Room k X.A) (hg : Gl X x) (w : DA X L (e :: es) τ M fun ss M1 => R L ss M1 Q) (hdb : (x == ("__debug__" : Str)) = false := by decide)
    (he : starEach (e :: es) X.env = (false, eval e X.env) :: starEach es X.env := by rfl) (hpl : (backTo pos (starEach es X.env)).any (·.1) = false := by rfl) : DE X L (.Call (.Name x p) (e :: es) [] pos) τ M Q := by
  obtain ⟨f, fd, F, m, kp, b⟩ := c
  exact de_call F hr hg m kp b w hdb he hpl
end
abbrev cxF (P : Program) (w : World) (K : PySem.W.Frag) (mg : Str → Option Value) (base : Heap) (N : List Str) (x : Str) (st : Stmt) (f : Addr) (cdv : Value) (A : Around) (outer : List Env) (s : Shared) (H : Hp) (E : XK) : Cx := (cxOf CX0 P w K mg base N x (defScope st) f cdv A outer s H E).nox
theorem cal_of {P : Program} {w : World} {K : PySem.W.Frag} {mg : Str → Option Value} {base : Heap} {R : Rr} {x : Str} {st : Stmt} {N ps : List Str} {k : Nat} (F : FunAt K mg x st ps) (S : FnScope N ps (defScope st)) (hl : ∀ L ss M Q, R L ss M Q → ss.length = ps.length)
    (hb : ∀ (f : Addr) (cdv : Value) (A : Around) (outer : List Env) (s : Shared) (H : Hp) (E : XK) (L : Lk) (ss : List Sl) (M : Cs) (Q : Sl → Cs → Prop), Room k (cxF P w K mg base N x st f cdv A outer s H E).A → R L ss M Q →
      DB (cxF P w K mg base N x st f cdv A outer s H E) L (defBody st) (startK N ss) M { nx := fun _ M' => Q (.d .none) M', rt := Q }) : Cal P w K mg base x (k + 1) ps R := by
  obtain ⟨f, fd, F, m, b⟩ := F
  exact ⟨f, fd, fn_k F S hl fun cdv A outer s H E L ss M Q hr r => hb f cdv A outer s H E L ss M Q hr r, m, F.kp, b⟩
end Y

namespace Y
open PySem L2 PyProof.Rows
def tyD : PyData → String
  | .none => "NoneType"
  | .bool _ => "bool"
  | .int _ => "int"
  | .str _ => "str"
  | .list _ => "list"
  | .tuple _ => "tuple"
  | .dict _ => "dict"
def isaInt : PyData → Bool
  | .int _ => true
  | .bool _ => true
  | _ => false
def isaBool : PyData → Bool
  | .bool _ => true
  | _ => false
def isaStr : PyData → Bool
  | .str _ => true
  | _ => false
def isaDict : PyData → Bool
  | .dict _ => true
  | _ => false
def isaList : PyData → Bool
  | .list _ => true
  | _ => false
def isaTup : PyData → Bool
  | .tuple _ => true
  | _ => false
theorem kb_int (x : PyData) : kitB (tyD x) "int" = some (isaInt x) := by cases x <;> (simp only [tyD, isaInt, isaBool, isaStr, isaDict, isaList, isaTup]; decide +kernel)
theorem kb_bool (x : PyData) : kitB (tyD x) "bool" = some (isaBool x) := by cases x <;> (simp only [tyD, isaInt, isaBool, isaStr, isaDict, isaList, isaTup]; decide +kernel)
theorem kb_str (x : PyData) : kitB (tyD x) "str" = some (isaStr x) := by cases x <;> (simp only [tyD, isaInt, isaBool, isaStr, isaDict, isaList, isaTup]; decide +kernel)
theorem kb_dict (x : PyData) : kitB (tyD x) "dict" = some (isaDict x) := by cases x <;> (simp only [tyD, isaInt, isaBool, isaStr, isaDict, isaList, isaTup]; decide +kernel)
theorem kb_list (x : PyData) : kitB (tyD x) "list" = some (isaList x) := by cases x <;> (simp only [tyD, isaInt, isaBool, isaStr, isaDict, isaList, isaTup]; decide +kernel)
theorem kb_tup (x : PyData) : kitB (tyD x) "tuple" = some (isaTup x) := by cases x <;> (simp only [tyD, isaInt, isaBool, isaStr, isaDict, isaList, isaTup]; decide +kernel)
theorem tyName_d (M : Cs) (x : PyData) : tyName M (.d x) = some (tyD x) := by cases x <;> rfl
section
variable {X : Cx} {L : Lk} {M : Cs} {Q : Sl → Cs → Prop} {x : PyData}
theorem k_isaInt (q : Q (.d (.bool (isaInt x))) M) : RCk X.K L (rIsi X.K) [.d x, .t "int"] M Q := k_isi (tyName_d M x) (kb_int x) q
theorem k_isaBool (q : Q (.d (.bool (isaBool x))) M) : RCk X.K L (rIsi X.K) [.d x, .t "bool"] M Q := k_isi (tyName_d M x) (kb_bool x) q
theorem k_isaStr (q : Q (.d (.bool (isaStr x))) M) : RCk X.K L (rIsi X.K) [.d x, .t "str"] M Q := k_isi (tyName_d M x) (kb_str x) q
theorem k_isaDict (q : Q (.d (.bool (isaDict x))) M) : RCk X.K L (rIsi X.K) [.d x, .t "dict"] M Q := k_isi (tyName_d M x) (kb_dict x) q
theorem k_isaList (q : Q (.d (.bool (isaList x))) M) : RCk X.K L (rIsi X.K) [.d x, .t "list"] M Q := k_isi (tyName_d M x) (kb_list x) q
theorem k_isaTup (q : Q (.d (.bool (isaTup x))) M) : RCk X.K L (rIsi X.K) [.d x, .t "tuple"] M Q := k_isi (tyName_d M x) (kb_tup x) q
theorem k_typeD (h : isaDict x = false) (q : Q (.t (tyD x)) M) : RCk X.K L (rTyp X.K) [.d x] M Q := k_type (tyName_d M x) (fun kv e => by cases e; cases h) q
end
theorem okTy_d (x : PyData) : okTy (tyD x) := by
  cases x
  · exact okTy_NoneType
  · exact okTy_bool
  · exact okTy_int
  · exact okTy_str
  · exact okTy_list
  · exact okTy_tuple
  · exact okTy_dict
/-! ### one text joined -/
theorem join_one (z : Str) : Txt.join "" [z] = z := by
  first | rfl | simp [Txt.join]
/-! ### arguments, as data -/
def intOf : PyData → PyData
  | .int i => .int i
  | _ => .none
def short : PyData → Prop
  | .str z => z.length ≤ 16777216
  | _ => True
def strOf : PyData → PyData
  | .str z => .str z
  | _ => .none
def okName (z : Str) : Bool := decide (1 ≤ z.length) && (decide (z.length ≤ 8) && (Txt.isascii z && (Txt.isalpha z && Txt.islower z)))
def writerOf : PyData → PyData
  | .str z => if okName z = true then .str z else .none
  | _ => .none
end Y

namespace Y
open PySem L2 PyProof.Rows
/-! ### line counts, runs, contents -/
abbrev Cnt := List (Str × Int)
def kdC (cs : Cnt) : List (Key × PyData) := cs.map fun p => (.inr p.1, .int p.2)
def eCnt (cs : Cnt) : PyData := .dict (encK (kdC cs))
def eLc : Option Cnt → PyData
  | none => .none
  | some cs => eCnt cs
def getC (cs : Cnt) (z : Str) : Option Int := (cs.find? fun p => decide (p.1 = z)).map (·.2)
def high : Option Cnt → Str → Int
  | none, _ => 10 ^ 30
  | some cs, z => (getC cs z).getD 0
def okCnt (cs : Cnt) : Prop := 1 ≤ cs.length ∧ cs.length ≤ 12 ∧ (cs.map (·.1)).Nodup ∧ ∀ p ∈ cs, okName p.1 = true ∧ 0 ≤ p.2 ∧ p.2 ≤ 10 ^ 30
theorem valS_C (z : Str) : ∀ cs : Cnt, valS (slK (kdC cs)) (.inr z) = (getC cs z).map dI
  | [] => rfl
  | p :: r => by
    have ih := valS_C z r
    by_cases h : p.1 = z
    · simp [valS, slK, kdC, getC, List.find?_cons, h, dI]
    · have h' : ¬ (Sum.inr p.1 : Key) = Sum.inr z := fun e => h (Sum.inr.inj e)
      simp only [valS, slK, kdC, getC, List.map_cons, List.find?_cons, h, h', decide_false] at ih ⊢
      exact ih
abbrev Run := Str × Int × Int
def eRun (r : Run) : PyData := .tuple [.str r.1, .int r.2.1, .int r.2.2]
def sRun (r : Run) : Sl := .d (eRun r)
abbrev Line := Str × Int
def eLine (l : Line) : PyData := .tuple [.str l.1, .int l.2]
def sLine (l : Line) : Sl := .d (eLine l)
def okRun (lc : Option Cnt) (r : Run) : Prop := okName r.1 = true ∧ 1 ≤ r.2.1 ∧ r.2.1 ≤ r.2.2 ∧ r.2.2 ≤ high lc r.1
def okLine (lc : Option Cnt) (l : Line) : Prop := okName l.1 = true ∧ 1 ≤ l.2 ∧ l.2 ≤ high lc l.1
def cont (a b : Run) : Bool := decide (b.1 = a.1) && decide (b.2.1 = a.2.2 + 1)
def okC (lc : Option Cnt) (c : List Run) : Prop := (∀ r ∈ c, okRun lc r) ∧ ∀ (i : Nat) (a b : Run), c[i]? = some a → c[i + 1]? = some b → cont a b = false
/-- what plain_lines answers -/
def mkLines (lc : Option Cnt) (w f l : PyData) : PyData := match writerOf w, intOf f, intOf l with
  | .str z, .int a, .int b => if 1 ≤ a ∧ a ≤ b ∧ b ≤ high lc z then .tuple [.str z, .int a, .int b] else .none
  | _, _, _ => .none
theorem mkLines_n1 {lc : Option Cnt} {x y z : PyData} (h : isNone (.d (writerOf x)) = true) : mkLines lc x y z = .none := by
  unfold mkLines
  cases hx : writerOf x <;> rw [hx] at h <;> first | (cases h; done) | rfl
theorem mkLines_n2 {lc : Option Cnt} {x y z : PyData} (h : isNone (.d (intOf y)) = true) : mkLines lc x y z = .none := by
  unfold mkLines
  cases hy : intOf y <;> rw [hy] at h <;> first | (cases h; done) | (cases writerOf x <;> rfl)
theorem mkLines_n3 {lc : Option Cnt} {x y z : PyData} (h : isNone (.d (intOf z)) = true) : mkLines lc x y z = .none := by
  unfold mkLines
  cases hz : intOf z <;> rw [hz] at h <;> first | (cases h; done) | (cases writerOf x <;> cases intOf y <;> rfl)
theorem short_of_okName {z : Str} (h : okName z = true) : short (.str z) := by
  unfold okName at h
  simp only [Bool.and_eq_true, decide_eq_true_eq] at h
  show z.length ≤ 16777216
  omega
theorem mkLines_ok {lc : Option Cnt} {r : Run} (h : okRun lc r) : mkLines lc (.str r.1) (.int r.2.1) (.int r.2.2) = eRun r := by
  obtain ⟨h1, h2, h3, h4⟩ := h
  simp only [mkLines, writerOf, intOf, h1, if_true]
  rw [if_pos ⟨h2, h3, h4⟩]
  rfl
def withRun (c : List Run) (r : Run) : List Run := match c.getLast? with
  | some l => if cont l r = true then c.dropLast ++ [(r.1, l.2.1, r.2.2)] else c ++ [r]
  | none => c ++ [r]
def nLines (c : List Run) : Int := (c.map fun r => r.2.2 - r.2.1 + 1).sum
def tk (r : Run) (n : Int) : Int := if r.2.2 - r.2.1 + 1 < n then r.2.2 - r.2.1 + 1 else n
def cutF (r : Run) (t : Int) : List Run := if t > 0 then [(r.1, r.2.1, r.2.1 + t - 1)] else []
def cutB (r : Run) (t : Int) : List Run := if r.2.1 + t ≤ r.2.2 then [(r.1, r.2.1 + t, r.2.2)] else []
def cutC : List Run → Int → List Run × List Run
  | [], _ => ([], [])
  | r :: c, n => (cutF r (tk r n) ++ (cutC c (n - tk r n)).1, cutB r (tk r n) ++ (cutC c (n - tk r n)).2)
def cutN : List Run → Int → Nat → Int
  | [], n, _ => n
  | _ :: _, n, 0 => n
  | r :: c, n, i + 1 => cutN c (n - tk r n) i
theorem cutN_zero (c : List Run) (n : Int) : cutN c n 0 = n := by cases c <;> rfl
theorem cutN_succ : ∀ (c : List Run) (n : Int) (i : Nat) (h : i < c.length), cutN c n (i + 1) = cutN c n i - tk c[i] (cutN c n i)
  | [], _, _, h => by simp at h
  | r :: c, n, 0, h => cutN_zero c _
  | r :: c, n, i + 1, h => cutN_succ c (n - tk r n) i (by simpa using h)
theorem cut_take : ∀ (c : List Run) (n : Int) (i : Nat) (h : i < c.length), cutC (c.take (i + 1)) n = ((cutC (c.take i) n).1 ++ cutF c[i] (tk c[i] (cutN c n i)), (cutC (c.take i) n).2 ++ cutB c[i] (tk c[i] (cutN c n i)))
  | [], _, _, h => by simp at h
  | r :: c, n, 0, h => by
    show (cutF r (tk r n) ++ (cutC (c.take 0) (n - tk r n)).1, cutB r (tk r n) ++ (cutC (c.take 0) (n - tk r n)).2) = ([] ++ cutF r (tk r n), [] ++ cutB r (tk r n))
    rw [List.take_zero]
    show (cutF r (tk r n) ++ [], cutB r (tk r n) ++ []) = _
    rw [List.append_nil, List.append_nil, List.nil_append, List.nil_append]
  | r :: c, n, i + 1, h => by
    have h' : i < c.length := by simpa using h
    have := cut_take c (n - tk r n) i h'
    show (cutF r (tk r n) ++ (cutC (c.take (i + 1)) (n - tk r n)).1, cutB r (tk r n) ++ (cutC (c.take (i + 1)) (n - tk r n)).2) = ((cutF r (tk r n) ++ (cutC (c.take i) (n - tk r n)).1) ++ cutF c[i] (tk c[i] (cutN c (n - tk r n) i)), (cutB r (tk r n) ++ (cutC (c.take i) (n - tk r n)).2) ++ cutB c[i] (tk c[i] (cutN c (n - tk r n) i)))
    rw [this, List.append_assoc, List.append_assoc]
theorem cutF_len (r : Run) (t : Int) : (cutF r t).length ≤ 1 := by
  unfold cutF
  split <;> simp
theorem cutB_len (r : Run) (t : Int) : (cutB r t).length ≤ 1 := by
  unfold cutB
  split <;> simp
theorem cut_len1 : ∀ (c : List Run) (n : Int), (cutC c n).1.length ≤ c.length ∧ (cutC c n).2.length ≤ c.length
  | [], _ => ⟨Nat.le_refl _, Nat.le_refl _⟩
  | r :: c, n => by
    obtain ⟨h1, h2⟩ := cut_len1 c (n - tk r n)
    have h3 := cutF_len r (tk r n)
    have h4 := cutB_len r (tk r n)
    constructor
    · show (cutF r (tk r n) ++ (cutC c (n - tk r n)).1).length ≤ c.length + 1
      rw [List.length_append]
      omega
    · show (cutB r (tk r n) ++ (cutC c (n - tk r n)).2).length ≤ c.length + 1
      rw [List.length_append]
      omega
/-- a list or tuple, cell or data -/
def LT (M : Cs) (s : Sl) (ss : List Sl) : Prop := seqOf M s = some ss ∧ (tyName M s = some "list" ∨ tyName M s = some "tuple")
theorem LT.list (M : Cs) (ds : List PyData) : LT M (.d (.list ds)) (ds.map .d) := ⟨rfl, .inl rfl⟩
theorem LT.tup (M : Cs) (ds : List PyData) : LT M (.d (.tuple ds)) (ds.map .d) := ⟨rfl, .inr rfl⟩
theorem LT.cell {M : Cs} {a : Addr} {ss : List Sl} (h : M a = some (.l ss)) : LT M (.c a) ss := ⟨by simp only [seqOf, h], .inl (by simp only [tyName, h])⟩
/-- a cell elsewhere does not matter -/
theorem seqOf_updC {M : Cs} {s : Sl} {ss : List Sl} {p : Addr} {c : Cell} (h : seqOf M s = some ss) (hp : M p = none) : seqOf (updC M p c) s = some ss := by
  cases s with
  | c a =>
    by_cases e : a = p
    · subst e
      simp only [seqOf, hp] at h
      cases h
    · simp only [seqOf, updC_ne e]
      exact h
  | d x => cases x <;> exact h
  | t n => exact h
  | u l => exact h
  | s n => exact h
theorem tyName_updC {M : Cs} {s : Sl} {n : String} {p : Addr} {c : Cell} (h : tyName M s = some n) (hp : M p = none) : tyName (updC M p c) s = some n := by
  cases s with
  | c a =>
    by_cases e : a = p
    · subst e
      simp only [tyName, hp] at h
      cases h
    · simp only [tyName, updC_ne e]
      exact h
  | d x => cases x <;> exact h
  | t n => exact h
  | u l => exact h
  | s n => exact h
theorem LT.upd {M : Cs} {s : Sl} {ss : List Sl} {p : Addr} {c : Cell} (h : LT M s ss) (hp : M p = none) : LT (updC M p c) s ss := ⟨seqOf_updC h.1 hp, h.2.imp (fun z => tyName_updC z hp) (fun z => tyName_updC z hp)⟩
/-- the item at i, by Python's subscript -/
theorem atI_n {α : Type} {xs : List α} {j : Nat} {v : α} (h : xs[j]? = some v) : atI xs ((j : Nat) : Int) = some v := atI_nat h
theorem atI_0 {α : Type} {xs : List α} {v : α} (h : xs[0]? = some v) : atI xs 0 = some v := atI_nat (j := 0) h
theorem atI_1 {α : Type} {xs : List α} {v : α} (h : xs[1]? = some v) : atI xs 1 = some v := atI_nat (j := 1) h
theorem atI_2 {α : Type} {xs : List α} {v : α} (h : xs[2]? = some v) : atI xs 2 = some v := atI_nat (j := 2) h
theorem atI_l {α : Type} {xs : List α} {v : α} (h : xs.getLast? = some v) : atI xs (-1) = some v := by
  obtain ⟨ys, e⟩ := List.getLast?_eq_some_iff.mp h
  rw [e]
  exact atI_last ys v
end Y

namespace PySem.W
open PySem
section
variable {prog : Program} {w : World} {A : Around} {E : Value → Shared → Prop} {s : Shared}
theorem ylt_hint {x : Str} {t : Tok} {Q : Bool → Shared → Prop} (h : Q false s) : wpAny (model prog w) A (Builtin.List.listLengthHint (.str x t)) Q E s := by
  unfold Builtin.List.listLengthHint
  refine wpAny_bind (wpAny_specialOf (typeIs_str s x t) PySem.F.slot_str_len.lookup ?_)
  generalize hid : ("str.__len__" : String) = id0
  wp_delta
  rw [show splitId id0 = some ("str", "__len__") from by subst hid; decide +kernel]
  subst hid
  refine wpAny_bind (wpAny_isInstance (T := "str") (b := true) (typeIs_str s x t) (by rw [isSubtype_type]; kernel_rfl) ?_)
  refine wpAny_ite_split (fun hab => absurd hab (by decide)) (fun _ => ?_)
  refine wpAny_ite_split (fun _ => ?_) (fun hab => absurd (by decide +kernel) hab)
  refine wpAny_bind (wpAny_typeOf (typeIs_str s x t) ?_)
  exact wpAny_pure h
theorem ylt_extend {R : Result → Shared → Prop} {x : Str} {t : Tok} (hh : A.handled = none) (S : Addr) (res : Value) (c₀ : Nat) (hS : s.heap.get? S = some { cls := .type "list", data := .seq #[] c₀ })
    (hR : ∀ h' tk acc' c', (∀ b o, b ≠ S → s.heap.get? b = some o → h'.get? b = some o) → h'.get? S = some { cls := .type "list", dict := none, data := .seq acc' c', slots := #[] } → ItemsOf (SignAt x) acc' x.cps.size → R (.ok (.ret res)) { s with heap := h', toks := tk }) (hn : x.cps.size ≤ sizeLine) :
    wpAny (model prog w) A.in1 (Builtin.List.listExtendWith (.ref S) (.str x t) res)
      (fun fin s' => match fin with | .done f => R (.ok f) s' | .again c' => c'.quiet = true ∧ codeAny (model prog w) A c' R s') (fun e s' => R (.error e) s') s := by
  have hSI : S ≠ s.heap.objs.size := Nat.ne_of_lt (Heap.lt_size hS)
  have hSf : S ∉ [s.heap.objs.size] := by simp only [List.mem_cons, List.not_mem_nil, or_false]; exact hSI
  unfold Builtin.List.listExtendWith
  refine wpAny_bind (wpAny_typeOf (T := "str") (typeIs_str s x t) ?_)
  have h1 : Builtin.List.listSameRef (.ref S) (.str x t) = false := rfl
  simp only [h1, show (Value.type "str" == Value.type "list") = false by decide +kernel, show (Value.type "str" == Value.type "tuple") = false by decide +kernel, Bool.or_false, Bool.false_eq_true, if_false]
  refine wpAny_bind (wpAny_pyIter_str fun oI St hW st => ?_)
  have W := hW A hh
  have key : ∀ (h : Heap) (c₁ tk : Nat), St 0 h → (∀ b o, b ≠ S → s.heap.get? b = some o → h.get? b = some o) →
      h.get? S = some { cls := .type "list", data := .seq #[] c₁ } → codeAny (model prog w) A (.builtin "list.extend.loop" ⟨[.ref S, .ref s.heap.objs.size, res], []⟩) R { s with heap := h, toks := tk } := by
    intro h c₁ tk hst hk hS₁
    refine codeAny_extend_loopS (hW A.in1 hh).toS hn S hSf res x.cps.size 0 _ #[] c₁ rfl (Nat.zero_le _) hst hS₁ (ItemsOf.nil _) fun s' acc' c' hm hS' hacc => ?_
    rw [Moved.eq_with hm]
    refine hR s'.heap s'.toks acc' c' (fun b o hb e => hm.heap b o (fun hmem => ?_) (hk b o hb e)) hS' hacc
    rcases List.mem_cons.mp hmem with e' | hmem
    · exact hb e'
    · exact absurd (Heap.lt_size e) (by rw [List.mem_singleton.mp hmem]; exact Nat.lt_irrefl _)
  have hS₁ := Heap.get?_push_of_some oI hS
  refine wpAny_bind (wpAny_holding (ylt_hint ?_))
  refine wpAny_ite_split (fun _ => ?_) (fun _ => wpAny_pure ⟨plainId_quiet PySem.F.plain_extend_loop _, key _ c₀ _ st (fun b o _ e => Heap.get?_push_of_some _ e) hS₁⟩)
  refine wpAny_bind (wpAny_rule ?_)
  refine wpAny_bind ?_
  show wpAny _ _ (updateSeq S (·.push .none) >>= fun _ => updateSeq S (·.pop)) _ _ _
  refine wpAny_bind (wpAny_updateSeq hS₁ rfl ?_)
  have hS₂ := Heap.get?_update_self (Obj.mapSeq (·.push Value.none)) hS₁ rfl
  refine wpAny_updateSeq (hz := by seq_fits) hS₂ rfl ?_
  have hS₃ := Heap.get?_update_self (Obj.mapSeq (·.pop)) hS₂ rfl
  refine wpAny_pure ⟨plainId_quiet PySem.F.plain_extend_loop _, key _ _ _ ?_ (fun b o hb e => ?_) hS₃⟩
  · refine W.frame 0 _ _ st fun b hb o e => ?_
    have hbS : b ≠ S := fun h => hSf (h ▸ hb)
    exact (Heap.get?_update_other _ _ (Ne.symm hbS)).trans ((Heap.get?_update_other _ _ (Ne.symm hbS)).trans e)
  · exact (Heap.get?_update_other _ _ (Ne.symm hb)).trans ((Heap.get?_update_other _ _ (Ne.symm hb)).trans (Heap.get?_push_of_some _ e))
theorem ylt_init {R : Result → Shared → Prop} {x : Str} {t : Tok} (hh : A.handled = none) (S : Addr) (hS : s.heap.get? S = some { cls := .type "list", data := .seq #[] })
    (hR : ∀ h' tk acc' c', (∀ b o, b ≠ S → s.heap.get? b = some o → h'.get? b = some o) → h'.get? S = some { cls := .type "list", dict := none, data := .seq acc' c', slots := #[] } → ItemsOf (SignAt x) acc' x.cps.size → R (.ok (.ret .none)) { s with heap := h', toks := tk }) (hn : x.cps.size ≤ sizeLine) :
    wpAny (model prog w) A.in1 (Builtin.«list.__init__» ⟨[.ref S, .str x t], []⟩)
      (fun fin s' => match fin with | .done f => R (.ok f) s' | .again c' => c'.quiet = true ∧ codeAny (model prog w) A c' R s') (fun e s' => R (.error e) s') s := by
  show wpAny _ _ (do let old ← Builtin.List.listItems (.ref S); Builtin.List.listUpdate (.ref S) (fun _ => #[]); letGo old.toList.reverse; Builtin.List.listExtendWith (.ref S) (.str x t) .none) _ _ s
  refine wpAny_bind ?_
  unfold Builtin.List.listItems
  refine wpAny_bind (wpAny_seqItems hS rfl (wpAny_pure ?_))
  show wpAny _ _ (updateSeq S (fun _ => #[]) >>= fun _ => letGo (#[] : Array Value).toList.reverse >>= fun _ => Builtin.List.listExtendWith (.ref S) (.str x t) .none) _ _ s
  refine wpAny_bind (wpAny_updateSeq hS rfl ?_)
  have hS₂ := Heap.get?_update_self (Obj.mapSeq (fun _ => (#[] : Array Value))) hS rfl
  have oth : ∀ b o, b ≠ S → s.heap.get? b = some o → (s.heap.update S (Obj.mapSeq (fun _ => (#[] : Array Value)))).get? b = some o :=
    fun b o hb e => (Heap.get?_update_other _ _ (Ne.symm hb)).trans e
  refine wpAny_bind (wpAny_letGo ?_)
  refine ylt_extend hh S .none _ hS₂ (fun h' tk acc' c' hk hS' hacc => ?_) hn
  exact hR h' tk acc' c' (fun b o hb e => hk b o hb (oth b o hb e)) hS' hacc
theorem ylt_call {Q : Value → Shared → Prop} {x : Str} {t : Tok} (hh : A.handled = none) (hn : x.cps.size ≤ sizeLine)
    (hQ : ∀ h' tk acc' c', (∀ b o, s.heap.get? b = some o → h'.get? b = some o) → h'.get? s.heap.objs.size = some { cls := .type "list", dict := none, data := .seq acc' c', slots := #[] } → ItemsOf (SignAt x) acc' x.cps.size → Q (.ref s.heap.objs.size) { s with heap := h', toks := tk }) :
    wpAny (model prog w) A (call (.type "list") [.str x t]) Q E s := by
  refine callType_codes (Q₁ := fun obj s₁ => obj = .ref s.heap.objs.size ∧ s₁ = { s with heap := s.heap.push { cls := .type "list", data := .seq #[] } }) PySem.F.called_list (PySem.F.typeCall_list_1 _) PySem.F.entry_list_init
    (code_list_new _ ⟨rfl, rfl⟩) fun obj s₁ h₁ => ?_
  obtain ⟨rfl, rfl⟩ := h₁
  have hS : (s.heap.push { cls := .type "list", data := .seq #[] }).get? s.heap.objs.size = some { cls := .type "list", data := .seq #[] } := Heap.get?_push_size _ rfl
  refine ⟨⟨_, hS, rfl⟩, PySem.F.args_list_init_2 _ _, ylt_init (A := A.in1) hh _ hS (fun h' tk acc' c' hk hS' hacc => ?_) hn⟩
  exact ⟨rfl, hQ h' tk acc' c' (fun b o e => hk b o (Nat.ne_of_lt (Heap.lt_size e)) (Heap.get?_push_of_some _ e)) hS' hacc⟩
end
end PySem.W
namespace Y
open PySem L2 PyProof.Rows
def signs (x : Str) : List Str := x.cps.toList.map fun c => ⟨#[c]⟩
section
variable {X : Cx} {L : Lk} {M : Cs} {Q : Sl → Cs → Prop}
theorem call_listS (hc : X.calm = true) : CallR X (.type "list") (fun xs H Q => ∃ x : Str, xs = [.str x] ∧ x.cps.size ≤ sizeLine ∧ ∀ l, H l = none → Q (.ref l) (upd H l (.lst ((signs x).map V.str)))) := by
  intro pins s σ H xs us Q I r h
  obtain ⟨x, rfl, hn, q⟩ := h
  obtain ⟨u, rfl, t, rfl⟩ := vals1 r
  refine PySem.W.ylt_call (I.ok.hd hc) hn fun h' tk acc c' hk hD hacc => ?_
  have hv : Vals ((signs x).map V.str) acc.toList := by
    have hl : (signs x).length = acc.toList.length := by
      have e1 : acc.size = x.cps.size := hacc.1
      simp only [signs, List.length_map, Array.length_toList, e1]
    have gen : ∀ (ys : List Str) (vs : List Value), ys.length = vs.length → (∀ (j : Nat) y v, ys[j]? = some y → vs[j]? = some v → RelV (.str y) v) → Vals (ys.map V.str) vs := by
      intro ys
      induction ys with
      | nil => intro vs hl _; cases vs with
        | nil => exact .nil
        | cons a b => simp at hl
      | cons y r ih => intro vs hl f; cases vs with
        | nil => simp at hl
        | cons a b => exact .cons (f 0 y a rfl rfl) (ih b (by simpa using hl) fun j y v h1 h2 => f (j + 1) y v (by simpa using h1) (by simpa using h2))
    refine gen _ _ hl fun j y v h1 h2 => ?_
    obtain ⟨c, u, e1, e2⟩ := hacc.2 j v (by rw [← Array.getElem?_toList]; exact h2)
    subst e2
    have e3 : y = ⟨#[c]⟩ := by
      unfold signs at h1
      rw [List.getElem?_map, Array.getElem?_toList, e1] at h1
      exact (Option.some.inj h1).symm
    subst e3
    exact ⟨u, rfl⟩
  refine ⟨.ref s.heap.objs.size, upd H s.heap.objs.size (.lst ((signs x).map V.str)), I.laid (t' := tk) hk (Nat.le_refl _)
    (show ObjOk X.prog X.w _ _ _ (.lst ((signs x).map V.str)) from ⟨by rw [List.length_map]; simp [signs]; exact hn, acc.toList, c', hv, by rw [Array.toArray_toList]; exact hD⟩), rfl, q _ (I.hok.fresh (Nat.le_refl _))⟩
theorem k_listS {x : Str} (hn : x.cps.size ≤ sizeLine) (q : ∀ p, M p = none → Q (.c p) (updC M p (.l ((signs x).map dS)))) : RCk X.K L (fun xs H Q => ∃ x : Str, xs = [.str x] ∧ x.cps.size ≤ sizeLine ∧ ∀ l, H l = none → Q (.ref l) (upd H l (.lst ((signs x).map V.str)))) [dS x] M Q := fun G H vs Q' g a k => by
  obtain ⟨v, rfl, a1⟩ := sl1 a
  rw [sl_str a1]
  exact ⟨x, rfl, hn, fun c hc => k _ _ _ G _ (q c (g.free hc).2) (Ex.refl G) (g.newC hc ⟨_, upd_same, strs_sl _⟩) (.c c)⟩
/-- isinstance(x, (A, B)) -/
def rIsiR (K : PySem.W.Frag) : List V → Hp → VK → Prop := fun xs H Q => ∃ (x : V) (tp : Addr) (cs : List V) (t : Value) (us : List Value) (b : Bool), xs = [x, .ref tp] ∧ Rd H tp (.tup cs) ∧ Paired ClsV cs us ∧ TyX K H x t ∧ PySem.W.kitAny K t us = some b ∧ Q (.bl b) H
theorem call_isiR : CallR X (.builtin "isinstance") (rIsiR X.K) := by
  intro pins s σ H xs us Q I r h
  obtain ⟨x, tp, cs, t, ws, b, rfl, hT, k, ty, e, q⟩ := h
  obtain ⟨u1, u2, rfl, r1, r2⟩ := vals2 r
  cases (show u2 = Value.ref tp from r2)
  obtain ⟨P, Z, p, hx⟩ := kit_of I r1 ty
  obtain ⟨_, its, rv, o, h1, h2, n, h3⟩ := (show ObjOk X.prog X.w H s.heap tp (.tup cs) from hT.ok I.hok)
  have e3 := ClsV.all k rv
  subst e3
  obtain ⟨oc, od, dt, sl⟩ := o
  simp only at h2 h3
  subst h2 h3
  exact PySem.W.kia_tup Z I.kIn p h1 e hx fun tk => ⟨.bl b, H, I.tok tk, rfl, q⟩
theorem cls_paired : ∀ ts : List String, Paired ClsV (ts.map V.ty) (ts.map Value.type)
  | [] => .nil
  | t :: r => .cons (.ty t) (cls_paired r)
theorem k_isiR {s : Sl} {ts : List String} {n : String} {b : Bool} (h : tyName M s = some n) (hb : ∀ K, PySem.W.kitAny K (.type n) (ts.map Value.type) = some b) (q : Q (.d (.bool b)) M) : RCk X.K L (rIsiR X.K) [s, .u (ts.map .t)] M Q := fun G H vs Q' g a k => by
  obtain ⟨v, u, rfl, a1, a2⟩ := sl2 a
  cases a2 with
  | u e l =>
    have z := tys_sl l
    subst z
    exact ⟨v, _, _, .type n, ts.map Value.type, b, rfl, g.rd e, cls_paired ts, ty_at g a1 h, hb _, k.go q g (.d (.bl _))⟩
theorem kitAny_LT (K : PySem.W.Frag) (x : PyData) : PySem.W.kitAny K (.type (tyD x)) (["list", "tuple"].map Value.type) = some (isaList x || isaTup x) := by
  refine kitAny_cons (kit_ty (kb_list x)) (fun h => ?_) (fun h => by rw [h]; rfl)
  refine kitAny_cons (kit_ty (kb_tup x)) (fun h2 => ?_) (fun h2 => by rw [h, h2]; rfl)
  rw [h, h2]
  exact kitAny_nil
end
/-! name = [..] where the comprehension is a statement's whole value -/
section
variable {X : Cx} {L : Lk} {τ : List (Option Sl)} {M : Cs} {elt tg iter c : Expr} {scope : Scope} {own : List (Str × Nat)} {pos spos py : Pos} {g : TG} {E : Ks} {i : Nat} {y : Str}
theorem ds_setLc1 (hc : X.calm = true) (hN : X.N.Nodup) (hy : X.N[i]? = some y) (hyl : X.env.scope.names.lookup y = some .local)
    (hsw : swapsWith (.ListComp elt [⟨tg, iter, [c], 0⟩] scope pos) (some (.Name y py)) spos.line X.env = pure true) (ok : BlkOk X.N X.env.scope scope own) (hg : ∀ (s : Shared) (H : Hp) (C : Addr) (cl : List (Str × Addr)) (fp : List Addr), PG (X.blk s H scope (compEnvC scope cl C X.env) fp) tg g)
    (w : DI X L tg iter τ M fun n S ys M1 => ∀ D, M1 D = none → ∃ Iv : Nat → Cs → Prop, Iv 0 (updC M1 D (.l [])) ∧ (∀ i M', Iv i M' → S M') ∧
      (∀ i y M', i < n → ys i y → Iv i M' → WGw X.K L (own.map (·.2)) g y (wipeK τ (own.map (·.2))) M' fun τ2 M3 => DTb X scope L c τ2 M3 fun d M3 => (d = true → DEb X scope L elt τ2 M3 fun z M4 => ∃ acc, M4 D = some (.l acc) ∧ acc.length < sizeLine ∧ Iv (i + 1) (updC M4 D (.l (acc ++ [z])))) ∧ (d = false → Iv (i + 1) M3)) ∧ (∀ M', Iv n M' → E.nx (τ.set i (some (.c D))) M'))
    (hs : ∀ x, foldedSetIterable iter X.env x = pure x := by intro _; rfl) : DS X L (.Assign [.Name y py] (.ListComp elt [⟨tg, iter, [c], 0⟩] scope pos) spos) τ M E := by
  refine ds_of (ps_setLc (te := bE X scope elt) (tt := bT X scope c) hc hN hy hyl hsw pi_s ok hg (fun s H C cl fp => pts_one ⟨fun pins s' σ H' Q' I h => h s H C cl fp pins s' I⟩) (fun s H C cl fp => ⟨fun pins s' σ H' Q' I h => h s H C cl fp pins s' I⟩) hs) fun σ G H D gs gm k => ?_
  refine we_lc (L := L) (M := M) (τ := τ) (Q := fun s M' => E.nx (τ.set i (some s)) M') (fun σ G H R gs gm k => w σ G H R gs gm fun n S ys M1 G1 H1 J q e1 g1 ok => k n S ys M1 G1 H1 J (fun D hD => ?_) e1 g1 ok) σ G H _ gs gm (fun s M1 v G1 H1 q e1 g1 a1 => (k.nx.mono e1).go q g1 ((gs.mono e1).set a1 i))
  obtain ⟨Iv, i0, st, turn, fin⟩ := q D hD
  refine ⟨Iv, i0, st, fun i y M' hi yy iv => ?_, fin⟩
  intro σ G H v Q' gs gm a k
  refine turn i y M' hi yy iv σ G H v Q' gs gm a fun τ' M' σ' G' H' h => k τ' M' σ' G' H' ?_
  intro σ G H Q' gs gm k
  exact wtb h σ G H Q' gs gm fun d M5 G5 H5 q5 => k d M5 G5 H5 ⟨fun z => web (q5.1 z), q5.2⟩
end
section
variable {X : Cx} {L : Lk} {τ : List (Option Sl)} {M : Cs} {Q : Sl → Cs → Prop} {a b c : Expr} {p2 pos : Pos}
theorem de_slHi (w : DE X L a τ M fun x M1 => DE X L b τ M1 fun y M2 => ∃ n, y = .d (.int n) ∧ ∃ ss, isTup x = false ∧ seqOf M2 x = some ss ∧ ∀ p, M2 p = none → Q (.c p) (updC M2 p (.l (cutG ss none (some n))))) : DE X L (.Subscript a (.Slice none (some b) none p2) pos) τ M Q := de_sl (lo := none) (hi := some b) w
theorem de_slLo (w : DE X L a τ M fun x M1 => DE X L b τ M1 fun y M2 => ∃ n, y = .d (.int n) ∧ ∃ ss, isTup x = false ∧ seqOf M2 x = some ss ∧ ∀ p, M2 p = none → Q (.c p) (updC M2 p (.l (cutG ss (some n) none)))) : DE X L (.Subscript a (.Slice (some b) none none p2) pos) τ M Q := de_sl (lo := some b) (hi := none) w
theorem de_slLH (w : DE X L a τ M fun x M1 => DE X L b τ M1 fun y M2 => ∃ m, y = .d (.int m) ∧ DE X L c τ M2 fun z M3 => ∃ n, z = .d (.int n) ∧ ∃ ss, isTup x = false ∧ seqOf M3 x = some ss ∧ ∀ p, M3 p = none → Q (.c p) (updC M3 p (.l (cutG ss (some m) (some n))))) : DE X L (.Subscript a (.Slice (some b) (some c) none p2) pos) τ M Q := de_sl (lo := some b) (hi := some c) w
end
/-! ### slices of lists, at places that are told -/
theorem cutG_hi {α : Type} (xs : List α) (n : Nat) : cutG xs none (some (n : Int)) = xs.take n := by
  unfold cutG
  rw [HT.sIx_none, HT.sIx_nat, List.drop_zero, Nat.sub_zero]
  by_cases h : n ≤ xs.length
  · rw [Nat.min_eq_left h]
  · rw [Nat.min_eq_right (by omega), List.take_of_length_le (Nat.le_refl _), List.take_of_length_le (by omega)]
theorem cutG_lohi {α : Type} (xs : List α) (m n : Nat) : cutG xs (some (m : Int)) (some (n : Int)) = (xs.take n).drop m := by
  unfold cutG
  rw [HT.sIx_nat, HT.sIx_nat, List.drop_take]
  by_cases h : m ≤ xs.length
  · rw [Nat.min_eq_left h]
    by_cases h2 : n ≤ xs.length
    · rw [Nat.min_eq_left h2]
    · rw [Nat.min_eq_right (by omega), List.take_of_length_le (by rw [List.length_drop]; omega), List.take_of_length_le (by rw [List.length_drop]; omega)]
  · rw [Nat.min_eq_right (show xs.length ≤ m by omega), List.drop_of_length_le (Nat.le_refl _), List.drop_of_length_le (show xs.length ≤ m by omega)]
    simp
/-! ### equal data -/
theorem eqvAll_map {α : Type} [DecidableEq α] (f : α → PyData) (h : ∀ a b, PyData.eqv (f a) (f b) = decide (a = b)) : ∀ c d : List α, PyData.eqvAll (c.map f) (d.map f) = decide (c = d)
  | [], [] => by simp [PyData.eqvAll]
  | [], _ :: _ => by simp [PyData.eqvAll]
  | _ :: _, [] => by simp [PyData.eqvAll]
  | a :: c, b :: d => by
    show (PyData.eqv (f a) (f b) && PyData.eqvAll (c.map f) (d.map f)) = _
    rw [h, eqvAll_map f h c d]
    by_cases e : a = b <;> by_cases e2 : c = d <;> simp [e, e2]
theorem eqv_list {α : Type} [DecidableEq α] (f : α → PyData) (h : ∀ a b, PyData.eqv (f a) (f b) = decide (a = b)) (c d : List α) : PyData.eqv (.list (c.map f)) (.list (d.map f)) = decide (c = d) := eqvAll_map f h c d
theorem eqv_int (a b : Int) : PyData.eqv (.int a) (.int b) = decide (a = b) := by
  show (a == b) = _
  by_cases e : a = b <;> simp [e]
theorem eqv_str (a b : Str) : PyData.eqv (.str a) (.str b) = decide (a = b) := by
  show (a == b) = _
  by_cases e : a = b <;> simp [e]
theorem eqv_run (a b : Run) : PyData.eqv (eRun a) (eRun b) = decide (a = b) := by
  obtain ⟨w, f, l⟩ := a
  obtain ⟨w', f', l'⟩ := b
  show (PyData.eqv (.str w) (.str w') && (PyData.eqv (.int f) (.int f') && (PyData.eqv (.int l) (.int l') && true))) = _
  rw [eqv_str, eqv_int, eqv_int]
  by_cases e1 : w = w' <;> by_cases e2 : f = f' <;> by_cases e3 : l = l' <;> simp [e1, e2, e3]
theorem eqv_line (a b : Line) : PyData.eqv (eLine a) (eLine b) = decide (a = b) := by
  obtain ⟨w, f⟩ := a
  obtain ⟨w', f'⟩ := b
  show (PyData.eqv (.str w) (.str w') && (PyData.eqv (.int f) (.int f') && true)) = _
  rw [eqv_str, eqv_int]
  by_cases e1 : w = w' <;> by_cases e2 : f = f' <;> simp [e1, e2]
theorem strOk_name {z : Str} (h : okName z = true) : PyData.strOk z = true := by
  unfold okName at h
  simp only [Bool.and_eq_true] at h
  have h3 : Txt.isascii z = true := h.2.2.1
  unfold Txt.isascii at h3
  unfold PyData.strOk
  rw [Array.all_eq_true] at h3 ⊢
  intro i hi
  have := h3 i hi
  simp only [decide_eq_true_eq] at this ⊢
  omega
theorem canLayAll_map {α : Type} (f : α → PyData) : ∀ c : List α, (∀ a ∈ c, (f a).canLay0 = true) → PyData.canLayAll0 (c.map f) = true
  | [], _ => rfl
  | a :: c, h => by
    show ((f a).canLay0 && PyData.canLayAll0 (c.map f)) = true
    rw [h a List.mem_cons_self, canLayAll_map f c fun b hb => h b (List.mem_cons_of_mem _ hb)]
    rfl
theorem depthAll_map {α : Type} (f : α → PyData) (n : Nat) : ∀ c : List α, (∀ a ∈ c, (f a).depth ≤ n) → PyData.depthAll (c.map f) ≤ n
  | [], _ => Nat.zero_le _
  | a :: c, h => by
    show max (f a).depth (PyData.depthAll (c.map f)) ≤ n
    exact Nat.max_le.mpr ⟨h a List.mem_cons_self, depthAll_map f n c fun b hb => h b (List.mem_cons_of_mem _ hb)⟩
theorem shaped_list {α : Type} (f : α → PyData) (c : List α) (n : Nat) (hn : n ≤ 63) (h1 : ∀ a ∈ c, (f a).canLay0 = true) (h2 : ∀ a ∈ c, (f a).depth ≤ n) : SeqAt.shaped (.list (c.map f)) = true := by
  unfold SeqAt.shaped
  rw [Bool.and_eq_true]
  refine ⟨canLayAll_map f c h1, ?_⟩
  have : PyData.depth (.list (c.map f)) = PyData.depthAll (c.map f) + 1 := rfl
  have := depthAll_map f n c h2
  simp only [decide_eq_true_eq]
  omega
theorem can_run {r : Run} (h : okName r.1 = true) : (eRun r).canLay0 = true := by
  show (PyData.strOk r.1 && (true && (true && true))) = true
  rw [strOk_name h]
  rfl
theorem can_line {r : Line} (h : okName r.1 = true) : (eLine r).canLay0 = true := by
  show (PyData.strOk r.1 && (true && true)) = true
  rw [strOk_name h]
  rfl
theorem shaped_runs (c : List Run) (h : ∀ r ∈ c, okName r.1 = true) : SeqAt.shaped (.list (c.map eRun)) = true := shaped_list eRun c 1 (by decide) (fun r hr => can_run (h r hr)) (fun r _ => Nat.le_refl 1)
theorem shaped_lines (c : List Line) (h : ∀ r ∈ c, okName r.1 = true) : SeqAt.shaped (.list (c.map eLine)) = true := shaped_list eLine c 1 (by decide) (fun r hr => can_line (h r hr)) (fun r _ => Nat.le_refl 1)
theorem shaped_ints (ns : List Int) : SeqAt.shaped (.list (ns.map PyData.int)) = true := shaped_list PyData.int ns 0 (by decide) (fun _ _ => rfl) (fun _ _ => Nat.le_refl 0)
theorem isd_runs {M : Cs} {a : Addr} {c : List Run} (h : M a = some (.l (c.map sRun))) : IsD M (.c a) (.list (c.map eRun)) := IsD.cell (by rw [h, List.map_map]; rfl)
theorem isd_lines {M : Cs} {a : Addr} {c : List Line} (h : M a = some (.l (c.map sLine))) : IsD M (.c a) (.list (c.map eLine)) := IsD.cell (by rw [h, List.map_map]; rfl)
theorem isd_ints {M : Cs} {a : Addr} {c : List Int} (h : M a = some (.l (c.map dI))) : IsD M (.c a) (.list (c.map PyData.int)) := IsD.cell (by rw [h, List.map_map]; rfl)
end Y

namespace Y
open PySem L2 PyProof.Rows
/-! the first items of a tuple of data -/
section
variable {X : Cx} {L : Lk} {τ : List (Option Sl)} {M : Cs} {Q : Sl → Cs → Prop} {a b : Expr} {p2 pos : Pos}
theorem de_slTHi (w : DE X L a τ M fun x M1 => DE X L b τ M1 fun y M2 => ∃ (n : Nat) (ds : List PyData), y = .d (.int n) ∧ x = .d (.tuple ds) ∧ n < ds.length ∧ Q (.d (.tuple (ds.take n))) M2) : DE X L (.Subscript a (.Slice none (some b) none p2) pos) τ M Q :=
  de_of (pe_slice sl_tup pe_s po_none (po_some pe_s)) fun σ G H Q' gs gm k => w σ G H _ gs gm fun x M1 v G1 H1 q e1 g1 a1 => q σ G1 H1 _ (gs.mono e1) g1 fun y M2 u G2 H2 ⟨n, ds, ey, ex, hn, q2⟩ e2 g2 a2 => by
    subst ey ex
    have a1' := a1.mono e2
    cases a1' with
    | d z =>
      cases z with
      | @tup p vs _ e l =>
        have hlen : vs.length = ds.length := by rw [l.sl.len, List.length_map]
        refine ⟨(n : Int), sl_int a2, p, vs, rfl, .inl (g2.rd e), ?_, fun c hc => ?_⟩
        · rw [HT.sIx_nat]
          omega
        · have ll : SlL X.K G2 (cutV vs none (some (n : Int))) ((ds.take n).map Sl.d) := by
            have := cut_sl l.sl none (some (n : Int))
            rw [cutG_hi, ← List.map_take] at this
            exact this
          exact k _ _ _ (upd G2 c (.tup (cutV vs none (some (n : Int))))) _ q2 ((e1.trans e2).trans (Ex.new (g2.free hc).1)) (g2.newD hc) (.d (.tup upd_same (ll.at.mono (Ex.new (g2.free hc).1))))
end
/-! dict(d): a copy -/
section
variable {X : Cx} {L : Lk} {M : Cs} {Q : Sl → Cs → Prop} {s : Sl}
theorem k_dictD {kvs : List (Key × Sl)} (h : DictIs M s kvs) (q : ∀ p, M p = none → Q (.c p) (updC M p (.k kvs))) :
    RCk X.K L (fun xs H Q => ∃ (a : Addr) (kvs : List (Key × V)), xs = [.ref a] ∧ Rd H a (.dK kvs) ∧ ∀ p, H p = none → Q (.ref p) (upd H p (.dK kvs))) [s] M Q := fun G H vs Q' g a k => by
  obtain ⟨v, rfl, av⟩ := sl1 a
  obtain ⟨p, xs, rfl, r, l⟩ := dict_at g av h
  exact ⟨p, xs, rfl, r, fun c hc => k _ _ _ G _ (q c (g.free hc).2) (Ex.refl G) (g.newC hc ⟨_, upd_same, l⟩) (.c c)⟩
end
end Y

namespace Y
open PySem L2 PyProof.Rows
/-! ### defs that may be called where no repr is under way -/
/-- the same promise as a def's, asked only where no repr is under way -/
structure Calm (P : Program) (w : World) (K : PySem.W.Frag) (mg : Str → Option Value) (base : Heap) (k : Nat) (f : Addr) (fd : FuncData) (ps : List Str) (sp : Sp) : Prop where
  cnt : ∀ vs H Q E, sp vs H Q E → vs.length = ps.length
  go : ∀ (B : Around) (fr : List Env) (t : Shared) (H : Hp) (ar : Args) (us : List Value) (vs : List V) (Q : VK) (E : XK), Room k B → B.guards = some [] → Env0 P w K mg base B fr t H →
    BindsTo t fd ar (ps.zip us) → Vals vs us → sp vs H Q E → codeAny (model P w) B (.call (.ref f) ar) (CR CX0 fr P w H t Q E) t
section
variable {P : Program} {w : World} {K : PySem.W.Frag} {mg : Str → Option Value} {base : Heap}
theorem calm_of {R : Rr} {x qual : Str} {st : Stmt} {f : Addr} {fd : FuncData} {N ps : List Str} {k : Nat} (F : Fun K x qual st f fd) (S : FnScope N ps (defScope st)) (hl : ∀ L ss M Q, R L ss M Q → ss.length = ps.length)
    (hb : ∀ (cdv : Value) (A : Around) (outer : List Env) (s : Shared) (H : Hp) (E : XK) (L : Lk) (ss : List Sl) (M : Cs) (Q : Sl → Cs → Prop), Room k (A.deeper (envOfC qual (defScope st) s.heap.objs.size f cdv)) → A.guards = some [] → R L ss M Q →
      DB ((cxOf CX0 P w K mg base N qual (defScope st) f cdv A outer s H E).nox) L (defBody st) (startK N ss) M { nx := fun _ M' => Q (.d .none) M', rt := Q }) : Calm P w K mg base (k + 1) f fd ps (Spk K R) := by
  obtain ⟨oc, od, kV, doc, pm, an, cdv, ct, osl, rfl, lk, hcd⟩ := F.ex
  have hn : ∀ vs H Q E, Spk K R vs H Q E → vs.length = ps.length := fun vs H Q E ⟨L, M, G, ss, Q0, g, a, r, _⟩ => by
    rw [a.len]
    exact hl L ss M Q0 r
  refine ⟨hn, fun B fr t H ar us vs Q E room noG e0 bd rel prom => ?_⟩
  have inK : K.In t.heap := e0.mod.kin.keeps fun b o z => (e0.bs b o z).1
  have noL : t.heap.NoLimit := e0.mod.nolimit.keeps fun b o z => (e0.bs b o z).1
  refine codeAny_call_function room.depth (inK _ _ lk) rfl S.co S.gen rfl (PySem.W.codeRec_of inK hcd) (bd _ _ _ _ ?_)
  refine wpAny_newFunctionEnv_cells S.kind (fun z hz => ?_) fun env he s1 inC => ?_
  · obtain ⟨zn, zv⟩ := z
    rcases S.par zn (List.of_mem_zip hz).1 with o | o
    · exact .inl o
    · exact .inr ⟨o, PySem.W.cellsFrom_some _ _ _ (.inl o)⟩
  subst he
  refine ⟨noL.keeps inC.toInCall.keep, codeAny_func ?_⟩
  have I : Inv (cxOf CX0 P w K mg base N qual (defScope st) f cdv B fr t H E) [] (start N vs) H s1 := inv_start S room.hd e0 (hn _ _ _ _ prom) rel inC
  obtain ⟨L, M, G, ss, Q0, g, a, r, q⟩ := prom
  have body := hb cdv B fr t H E L ss M Q0 (room.deeper _) noG r _ G H { nx := fun _ H' => Q .non H', rt := Q, bk := fun _ _ => False, ct := fun _ _ => False } (good_start a) g ⟨fun τ' M' σ' G' H' h e g' _ => q _ M' _ G' H' h e g' (.d .non), q, fun _ _ _ _ _ h => h.elim, fun _ _ _ _ _ h => h.elim⟩
  have run := (pss_s (X := (cxOf CX0 P w K mg base N qual (defScope st) f cdv B fr t H E).nox) (sts := defBody st)).nox.run [] s1 (start N vs) H _ I body
  refine wpAny_mono run (fun fl s' hs => ?_) fun _ _ hs => hs
  cases fl with
  | ret u =>
    obtain ⟨v, σ', H', J, rv, qv⟩ := hs
    exact ⟨v, H', J.os, J.bare, J.base, J.hok, rv, qv⟩
  | next =>
    obtain ⟨σ', H', J, qv⟩ := hs
    exact ⟨V.non, H', J.os, J.bare, J.base, J.hok, rfl, qv⟩
  | brk => exact hs.elim fun _ z => z.elim fun _ z => z.2.elim
  | cont => exact hs.elim fun _ z => z.elim fun _ z => z.2.elim
/-- a def that may be called where no repr is under way: where it stands -/
def CalG (P : Program) (w : World) (K : PySem.W.Frag) (mg : Str → Option Value) (base : Heap) (x : Str) (k : Nat) (ps : List Str) (R : Rr) : Prop :=
  ∃ (f : Addr) (fd : FuncData), Calm P w K mg base k f fd ps (Spk K R) ∧ mg x = some (.ref f) ∧ PySem.W.keepIn K (.ref f) = true ∧ Binds K fd ps []
theorem calG_of {R : Rr} {x : Str} {st : Stmt} {N ps : List Str} {k : Nat} (F : FunAt K mg x st ps) (S : FnScope N ps (defScope st)) (hl : ∀ L ss M Q, R L ss M Q → ss.length = ps.length)
    (hb : ∀ (f : Addr) (cdv : Value) (A : Around) (outer : List Env) (s : Shared) (H : Hp) (E : XK) (L : Lk) (ss : List Sl) (M : Cs) (Q : Sl → Cs → Prop), Room k (cxF P w K mg base N x st f cdv A outer s H E).A → A.guards = some [] → R L ss M Q →
      DB (cxF P w K mg base N x st f cdv A outer s H E) L (defBody st) (startK N ss) M { nx := fun _ M' => Q (.d .none) M', rt := Q }) : CalG P w K mg base x (k + 1) ps R := by
  obtain ⟨f, fd, F, m, b⟩ := F
  exact ⟨f, fd, calm_of F S hl fun cdv A outer s H E L ss M Q hr hg r => hb f cdv A outer s H E L ss M Q hr hg r, m, F.kp, b⟩
end
section
variable {X : Cx} {L : Lk} {τ : List (Option Sl)} {M : Cs} {Q : Sl → Cs → Prop} {e : Expr} {es : List Expr} {pos p : Pos}
theorem de_callG {R : Rr} {k : Nat} {ps : List Str} {x : Str} (c : CalG X.prog X.w X.K X.mg X.base x k ps R) (hr : Room k X.A) (noG : X.A.guards = some []) (hg : Gl X x) (wd : DA X L (e :: es) τ M fun ss M1 => R L ss M1 Q) (hdb : (x == ("__debug__" : Str)) = false := by decide)
    (he : starEach (e :: es) X.env = (false, eval e X.env) :: starEach es X.env := by rfl) (hpl : (backTo pos (starEach es X.env)).any (·.1) = false := by rfl) : DE X L (.Call (.Name x p) (e :: es) [] pos) τ M Q := by
  obtain ⟨f, fd, F, hm, hk, hb⟩ := c
  refine de_of (te := fun σ H Q' => sA X (e :: es) σ H fun vs H1 => Spk X.K R vs H1 Q' fun _ _ _ => False) ⟨fun pins s σ H Q' I h => ?_⟩ fun σ G H Q' gs gm kk => wd σ G H _ gs gm fun ss M1 vs G1 H1 q e1 g1 a1 => ⟨L, M1, G1, ss, Q, g1, a1, q, kk.mono e1⟩
  refine wpAny_Call_Name_kw (ld_glob I hg hm ?_ hdb)
  refine PySem.W.callWith_K (h₀ := X.base) I.ok.mod.kin hk (thn (pa_s.run pos pins s σ H _ I h) fun us s1 ⟨vs, H1, I1, rl, pr⟩ => ⟨I1.kIn, ?_⟩) he hpl
  have hlen : us.length = ps.length := by rw [← rl.length]; exact F.cnt _ _ _ _ pr
  have bd := hb s1 us I1.kIn (by rw [List.append_nil]; exact hlen)
  rw [List.append_nil] at bd
  refine wpAny_call (codeAny_mono (F.go X.A X.stack s1 H1 ⟨us, []⟩ us vs Q' _ hr noG I1.env0 bd rl pr) fun o s' hq => ?_)
  cases o with
  | error e => exact pass0 pins σ H1 s1 e s' I1 hq
  | ok fl =>
    cases fl with
    | ret u => exact I1.after hq
    | next => exact hq.elim
    | brk => exact hq.elim
    | cont => exact hq.elim
/-- repr(x), x of lists, tuples, ints, texts -/
def rShow (K : PySem.W.Frag) : List V → Hp → VK → Prop := fun xs H Q => ∃ (a : Addr) (d : PyData), xs = [.ref a] ∧ Dp K H (.ref a) d ∧ d.showable = true ∧ d.hasDict = false ∧ d.depth ≤ 60 ∧ d.shown.length ≤ sizeLine ∧ Q (.str d.shown) H
theorem call_show (noG : X.A.guards = some []) (hu : X.A.units + 64 < cLine) : CallR X (.builtin "repr") (rShow X.K) := by
  intro pins s σ H xs us Q I r h
  obtain ⟨a, d, rfl, hd, sh, nd, dp, sz, q⟩ := h
  obtain ⟨u, rfl, ru⟩ := vals1 r
  cases ru
  obtain ⟨as, rd⟩ := Dp.reads I d _ _ hd rfl
  exact PySem.repr_of_reads' rd sh (fun z => absurd z (by rw [nd]; decide)) noG (by omega) (fun _ _ z => z) (fun h' u tk hk => ⟨.str d.shown, H, I.kept (t' := tk) hk, ⟨u, rfl⟩, q⟩) sz
end
end Y

namespace Y
open PySem L2 PyProof.Rows
/-- the law's own call, where its promise is asked only with no repr under way -/
theorem calm_law {P : Program} {w : World} {K : PySem.W.Frag} {mg mb : Str → Option Value} {k : Nat} {fa a : Addr} {fd : FuncData} {x : Str} {R : Rr} {t : Shared} {vs : List Value} {ns : List Int}
    (inK : K.In t.heap) (hns : t.heap.Ns mainGlobals mg) (hnb : t.heap.Ns builtinsNs mb) (hbb : ∀ y : Str, y ≠ "__name__" → mb y = bootBuiltins y) (noL : t.heap.NoLimit) (noGen : t.gens = #[])
    (hobj : t.heap.get? a = some { cls := .type "list", data := .seq vs.toArray }) (hin : IntsAre vs ns) (hlen : ns.length ≤ sizeLine) (room : Room k callerA)
    (F : ∀ base : Heap, K.In base → base.Ns mainGlobals mg → Calm P w K mg base k fa fd [x] (Spk K R)) (hbd : ∀ (s : Shared) (u : Value), BindsTo s fd ⟨[u], []⟩ [(x, u)])
    (prom : ∀ H : Hp, Only H → SqL K H a (ns.map V.int) → Spk K R [.ref a] H (fun v _ => v = .bl true) fun _ _ _ => False) :
    codeAny (model P w) callerA (.call (.ref fa) ⟨[.ref a], []⟩) (fun o t' => o = .ok (.ret (.bool true)) ∧ OldK t.heap t'.heap ∧ t'.os = t.os ∧ AllBare t'.gens) t := by
  have rv := vals_ints hin
  have lv := hin.length
  obtain ⟨H, ho, hS, hok, hA, hK⟩ : ∃ H : Hp, Only H ∧ SqL K H a (ns.map V.int) ∧ HOk P w H t.heap ∧ (∀ b, H b ≠ none → b = a) ∧ (H a ≠ none → K.lookup a = none) := by
    cases hk : K.lookup a with
    | some o =>
      have z := (inK a o hk).symm.trans hobj
      cases z
      exact ⟨fun _ => none, fun _ => .inl rfl, .inr ⟨_, vs.toArray, _, hk, rfl, rfl, rfl, by rw [List.size_toArray, lv]; exact hlen, by simpa using rv⟩, fun _ _ z => (nomatch z), fun _ z => absurd rfl z, fun z => absurd rfl z⟩
    | none =>
      have at1 : ∀ {b : Addr} {u : HO}, (if b = a then some (HO.frz { cls := .type "list", data := .seq vs.toArray } (.lst (ns.map V.int))) else none) = some u → b = a ∧ HO.frz { cls := .type "list", data := .seq vs.toArray } (.lst (ns.map V.int)) = u := fun {b u} z => by
        by_cases hb : b = a
        · rw [if_pos hb] at z
          exact ⟨hb, Option.some.inj z⟩
        · rw [if_neg hb] at z
          cases z
      refine ⟨fun b => if b = a then some (.frz { cls := .type "list", data := .seq vs.toArray } (.lst (ns.map V.int))) else none, fun b => ?_, .inl (.inr ⟨_, if_pos rfl⟩), fun b u z => ?_, fun b z => ?_, fun _ => rfl⟩
      · rcases Decidable.em (b = a) with hb | hb
        · exact .inr ⟨_, _, if_pos hb⟩
        · exact .inl (if_neg hb)
      · obtain ⟨rfl, rfl⟩ := at1 z
        exact ⟨hobj, by rw [List.length_map]; exact hlen, vs, _, rv, hobj⟩
      · rcases Decidable.em (b = a) with hb | hb
        · exact hb
        · exact absurd (if_neg hb) z
  have seqNo : ∀ {b : Addr} {o : Obj} {es : Array DictEntry} {ep : Nat}, t.heap.get? b = some o → o.data = .dict es ep → H b = none := fun {b o es ep} z d => by
    cases q : H b with
    | none => rfl
    | some u =>
      have zb : b = a := hA b (by rw [q]; exact fun y => (nomatch y))
      rw [zb, hobj] at z
      cases z
      exact absurd d fun y => (nomatch y)
  have inB : ∀ {b : Addr} {m : Str → Option Value}, t.heap.Ns b m → (hidT t.heap H).Ns b m := fun ⟨o, es, ep, z, d, r⟩ => ⟨o, es, ep, hidT_get z (seqNo z d), d, r⟩
  have kB : K.In (hidT t.heap H) := fun b o z => hidT_get (inK b o z) (by
    cases q : H b with
    | none => rfl
    | some u =>
      have zb : b = a := hA b (by rw [q]; exact fun y => (nomatch y))
      rw [zb, hK (by rw [← zb, q]; exact fun y => (nomatch y))] at z
      cases z)
  have md : Mod K mg (hidT t.heap H) := ⟨kB, inB hns, ⟨mb, inB hnb, hbb⟩, noL.elim fun mc z => ⟨mc, inB z.1, z.2⟩⟩
  have e0 : Env0 P w K mg (hidT t.heap H) callerA [] t H := ⟨rfl, md, fun b o z => of_hidT z, Nat.le_of_eq (hidT_size _ _), trivial, fun b hb => (nomatch hb), hok, .of_eq noGen⟩
  have main := (F _ kB (inB hns)).go callerA [] t H ⟨[.ref a], []⟩ [.ref a] [.ref a] _ _ room rfl e0 (hbd t (.ref a)) (.cons rfl .nil) (prom H ho hS)
  refine codeAny_mono main fun o t' h => ?_
  cases o with
  | error e => exact h.elim
  | ok fl =>
    cases fl with
    | next => exact h.elim
    | brk => exact h.elim
    | cont => exact h.elim
    | ret u =>
      obtain ⟨v, H', os, bare, un, hok', rl, qv⟩ := h
      cases (show v = .bl true from qv)
      cases (show u = Value.bool true from rl)
      refine ⟨rfl, OldK.of_keep fun b o z => ?_, os, bare⟩
      cases q : H b with
      | none => exact un.keep b o z q (fun y => (nomatch y)) (fun y => (nomatch y))
      | some u =>
        rcases ho b with y | ⟨ob, xs, y⟩
        · rw [q] at y
          cases y
        · obtain ⟨z1, _⟩ := hok b _ y
          obtain ⟨z2, _⟩ := hok' b _ (un.frzs b ob _ y)
          rw [z] at z1
          cases z1
          exact z2
theorem walk_calm {l : PySem.W.OpenLaw} {n k : Nat} {q : Program} {loose : List Str} {XP : (Str → Option Value) → Heap → Prop} {YP : World → Heap → Prop} {d : DefRec} {K : Params → PySem.W.Frag} {R : Rr} {x : Str}
    (hmost : l.most = some n) (hle : n ≤ sizeLine) (hdef : d.params.defaults = []) (room : Room k callerA) (hY : ∀ (w : World) (h : Heap), YP w h → (K w.params).In h)
    (F : ∀ (w : World) (mg : Str → Option Value) (fa : Addr) (h : Heap), (K w.params).In h → h.Ns mainGlobals mg → mg d.name = some (.ref fa) →
      ∃ fd : FuncData, (∀ (s : Shared) (u : Value), BindsTo s fd ⟨[u], []⟩ [(x, u)]) ∧ ∀ base : Heap, (K w.params).In base → base.Ns mainGlobals mg → Calm l.prog w (K w.params) mg base k fa fd [x] (Spk (K w.params) R))
    (prom : ∀ (w : World) (H : Hp) (a : Addr) (ns : List Int), ns.length ≤ n → Only H → SqL (K w.params) H a (ns.map V.int) → Spk (K w.params) R [.ref a] H (fun v _ => v = .bl true) fun _ _ _ => False) :
    PySem.W.WalkO q loose XP YP l.row.toRowW d [] (fun f vs => PySem.call f vs) := by
  refine Att.attach_call hmost hdef fun w t0 t mg mb fa o pm cd doc a vs ns G y ho hd hcd hmg hobj hin hlen noGen => ?_
  obtain ⟨fd, hbd, hF⟩ := F w mg fa _ (hY w _ y) G.T.g hmg
  exact calm_law (hY w _ y) G.T.g G.T.b G.T.builtins G.T.nolimit noGen hobj hin (Nat.le_trans hlen hle) room hF hbd fun H ho hS => prom w H a ns hlen ho hS
end Y

namespace Y
open PySem L2 PyProof.Rows
/-! ### how long a repr is -/
theorem listText_le (ts : List Str) : (listText ts).length ≤ 2 + piled ts := by
  cases ts with
  | nil => decide
  | cons t r =>
    have h1 : (listText (t :: r)).length = (textFrom 1 (("[" : Str) ++ (if (0 : Nat) > 0 then ", " else "" : String) ++ t) r).length + 1 := by
      show (textFrom 1 _ r ++ "]").length = _
      rw [strLen_append]
      rfl
    rw [h1, textFrom_length_pos _ _ _ (by decide), strLen_append, strLen_append, piled_cons]
    show 1 + 0 + t.length + piled r + 1 ≤ _
    omega
theorem tupleText_le (ts : List Str) : (tupleText ts).length ≤ 3 + piled ts := by
  have h1 : ∀ s : Str, (s ++ (if ts.length == 1 then ",)" else ")" : String)).length ≤ s.length + 2 := fun s => by
    rw [strLen_append]
    split
    · show s.length + 2 ≤ _; omega
    · show s.length + 1 ≤ _; omega
  have h2 := h1 (("(" : Str) ++ Str.join ", " ts)
  have h3 : (("(" : Str) ++ Str.join ", " ts).length = 1 + (Str.join ", " ts).length := by rw [strLen_append]; rfl
  show (("(" : Str) ++ Str.join ", " ts ++ (if ts.length == 1 then ",)" else ")" : String)).length ≤ _
  rcases Decidable.em (ts = []) with e | e
  · subst e
    decide
  · have := join_length_add ts e
    omega
theorem shownAll_map : ∀ ds : List PyData, PyData.shownAll ds = ds.map PyData.shown
  | [] => by simp only [PyData.shownAll, List.map_nil]
  | d :: r => by simp only [PyData.shownAll, List.map_cons, shownAll_map r]
theorem piled_le {n : Nat} : ∀ {ts : List Str}, (∀ t ∈ ts, t.length ≤ n) → piled ts ≤ (n + 2) * ts.length
  | [], _ => Nat.zero_le _
  | t :: r, h => by
    have h1 := h t List.mem_cons_self
    have h2 := piled_le (ts := r) fun u hu => h u (List.mem_cons_of_mem _ hu)
    rw [piled_cons, List.length_cons, Nat.mul_add, Nat.mul_one]
    omega
theorem shown_int_le {i : Int} (h : i.natAbs < 10 ^ 31) : (PyData.int i).shown.length ≤ 32 := by
  simp only [PyData.shown]
  have := int_text_length_le10 (k := 31) (by decide) h
  show (Str.ofString (toString i)).length ≤ 32
  rw [PySem.ofString_length]
  exact this
theorem shown_name_le {z : Str} (h : okName z = true) : (PyData.str z).shown.length ≤ 82 := by
  simp only [PyData.shown]
  unfold okName at h
  simp only [Bool.and_eq_true, decide_eq_true_eq] at h
  have h3 : Txt.isascii z = true := h.2.2.1
  unfold Txt.isascii at h3
  have := StrLaws.reprText_len z fun c hc => by
    rw [Array.all_eq_true] at h3
    obtain ⟨i, hi, e⟩ := List.getElem_of_mem hc
    have := h3 i (by simpa using hi)
    simp only [decide_eq_true_eq] at this
    have e' : z.cps[i]'(by simpa using hi) = c := by simpa using e
    rw [e'] at this
    exact Nat.lt_of_lt_of_le this (by decide)
  have := h.2.1
  omega
theorem show_int {i : Int} (h : i.natAbs < 10 ^ 31) : (PyData.int i).showable = true := by
  simp only [PyData.showable, decide_eq_true_eq]
  by_cases e : i.natAbs = 0
  · rw [e]; decide
  · exact (Nat.log2_lt e).mpr (Nat.lt_trans h (by decide))
def fitR (r : Run) : Prop := okName r.1 = true ∧ r.2.1.natAbs < 10 ^ 31 ∧ r.2.2.natAbs < 10 ^ 31
theorem shown_run_le {r : Run} (h : fitR r) : (eRun r).shown.length ≤ 160 := by
  show (tupleText (PyData.shownAll _)).length ≤ _
  have h1 := shown_name_le h.1
  have h2 := shown_int_le h.2.1
  have h3 := shown_int_le h.2.2
  refine Nat.le_trans (tupleText_le _) ?_
  rw [shownAll_map]
  show 3 + piled [_, _, _] ≤ _
  rw [piled_cons, piled_cons, piled_cons, piled_nil]
  omega
theorem shown_runs_le {c : List Run} (h : ∀ r ∈ c, fitR r) : (PyData.list (c.map eRun)).shown.length ≤ 3 + 162 * c.length ∧ (PyData.tuple (c.map eRun)).shown.length ≤ 3 + 162 * c.length := by
  have h1 : piled (PyData.shownAll (c.map eRun)) ≤ 162 * c.length := by
    rw [shownAll_map]
    have := piled_le (n := 160) (ts := (c.map eRun).map PyData.shown) fun t ht => by
      rw [List.map_map] at ht
      obtain ⟨r, hr, rfl⟩ := List.mem_map.mp ht
      exact shown_run_le (h r hr)
    rw [List.length_map, List.length_map] at this
    exact this
  constructor
  · show (listText (PyData.shownAll (c.map eRun))).length ≤ _
    have := listText_le (PyData.shownAll (c.map eRun))
    omega
  · show (tupleText (PyData.shownAll (c.map eRun))).length ≤ _
    have := tupleText_le (PyData.shownAll (c.map eRun))
    omega
theorem showableAll_map {α : Type} (f : α → PyData) : ∀ c : List α, (∀ a ∈ c, (f a).showable = true) → PyData.showableAll (c.map f) = true
  | [], _ => by simp only [List.map_nil, PyData.showableAll]
  | a :: c, h => by
    simp only [List.map_cons, PyData.showableAll, h a List.mem_cons_self, showableAll_map f c fun b hb => h b (List.mem_cons_of_mem _ hb), Bool.and_self]
theorem show_run {r : Run} (h : fitR r) : (eRun r).showable = true := by
  show PyData.showableAll [.str r.1, .int r.2.1, .int r.2.2] = true
  simp only [PyData.showableAll, show_int h.2.1, show_int h.2.2, Bool.and_self, Bool.and_true]
  simp only [PyData.showable]
section
variable {X : Cx} {L : Lk} {M : Cs} {Q : Sl → Cs → Prop}
theorem k_show {s : Sl} {d : PyData} {ss : List Sl} (h : IsD M s d) (hs : seqOf M s = some ss) (can : d.canLay0 = true) (sh : d.showable = true) (dp : d.depth ≤ 60) (sz : d.shown.length ≤ sizeLine) (q : Q (.d (.str d.shown)) M) : RCk X.K L (rShow X.K) [s] M Q := fun G H vs Q' g a k => by
  obtain ⟨v, rfl, a1⟩ := sl1 a
  obtain ⟨p, xs, e, _, _⟩ := seq_at g a1 hs
  subst e
  exact ⟨p, d, rfl, h.dp g can a1, sh, PyData.hasDict_of_canLay d can, dp, sz, k.go q g (.d (.str _))⟩
/-- repr of a content, list or tuple -/
theorem k_showR {s : Sl} {c : List Run} {ss : List Sl} {tup : Bool} (h : IsD M s (if tup = true then .tuple (c.map eRun) else .list (c.map eRun))) (hs : seqOf M s = some ss) (ok : ∀ r ∈ c, fitR r) (hl : c.length ≤ 10000) (q : Q (.d (.str (PyData.shown (if tup = true then .tuple (c.map eRun) else .list (c.map eRun))))) M) : RCk X.K L (rShow X.K) [s] M Q := by
  have hc : PyData.canLayAll0 (c.map eRun) = true := canLayAll_map eRun c fun r hr => can_run (ok r hr).1
  have hw : PyData.showableAll (c.map eRun) = true := showableAll_map eRun c fun r hr => show_run (ok r hr)
  have hd : PyData.depthAll (c.map eRun) ≤ 1 := depthAll_map eRun 1 c fun r _ => Nat.le_refl 1
  have hz := shown_runs_le ok
  have sl : (10 ^ 7 : Nat) ≤ sizeLine := by rw [sizeLine_eq]; decide
  cases tup with
  | true => exact k_show (d := .tuple (c.map eRun)) h hs hc hw (by show PyData.depthAll _ + 1 ≤ 60; omega) (by omega) q
  | false => exact k_show (d := .list (c.map eRun)) h hs hc hw (by show PyData.depthAll _ + 1 ≤ 60; omega) (by omega) q
end
end Y

namespace Y
open PySem L2 PyProof.Rows
section
variable {X : Cx} {L : Lk} {τ : List (Option Sl)} {M : Cs} {Q : Sl → Cs → Prop} {o : Expr} {apos cpos pos : Pos} {E : Ks}
/-- tuple(xs) of a list -/
theorem k_tupleL {s : Sl} {ss : List Sl} (hT : isTup s = false) (h : seqOf M s = some ss) (q : Q (.u ss) M) : RCk X.K L (fun xs H Q => ∃ p ys, xs = [.ref p] ∧ ((SqL X.K H p ys ∧ ∀ l, H l = none → Q (.ref l) (upd H l (.tup ys))) ∨ (SqT X.K H p ys ∧ Q (.ref p) H))) [s] M Q := fun G H vs Q' g a k => by
  obtain ⟨v, rfl, a1⟩ := sl1 a
  obtain ⟨p, xs, rfl, r, l⟩ := seq_at g a1 h
  rw [hT, if_neg Bool.false_ne_true] at r
  refine ⟨p, xs, rfl, .inl ⟨r, fun c hc => ?_⟩⟩
  have f := g.free hc
  exact k _ _ _ _ _ q (Ex.new f.1) (g.newD hc) (.u upd_same (l.mono (Ex.new f.1)))
/-- xs.clear() as a statement -/
theorem ds_clear (w : DE X L o τ M fun x M1 => ∃ a ss, x = .c a ∧ M1 a = some (.l ss) ∧ E.nx τ (updC M1 a (.l []))) (hbase : attributeBase o "clear" X.env (eval o X.env) = eval o X.env := by rfl) (hline : (apos.endLine == cpos.line) = true := by rfl)
    (hsw : swapsWith (.Call (.Attribute o "clear" apos) [] [] cpos) none pos.line X.env = pure false := by rfl) : DS X L (.Expr (.Call (.Attribute o "clear" apos) [] [] cpos) pos) τ M E :=
  ds_expr (de_of (pe_bm0 PySem.F.plainAttrs_list PySem.F.slot_list_clear PySem.F.type_list_clear mt_clear pe_s hbase hline) fun σ G H Q' gs gm k => w σ G H _ gs gm fun x M1 v G1 H1 ⟨a, ss, hx, ha, q⟩ e1 g1 a1 => by
    subst hx
    obtain ⟨_, xs, h1, h2⟩ := g1.cell a _ ha
    have ev := sl_c a1
    subst ev
    exact ⟨.inl ⟨rfl, xs, .inl (.inl h1)⟩, a, xs, rfl, rfl, h1, k (.d .none) _ _ G1 _ q e1 (g1.write ha h1 (fun _ _ z => (nomatch z)) ⟨[], upd_same, .nil⟩) (.d .non)⟩) hsw
end
end Y

namespace Y
open PySem L2 PyProof.Rows
/-! ### data with dicts: repr -/
/-- the module table stands -/
def Sys (base : Heap) : Prop := ∃ mm, base.Ns sysModules mm
mutual
inductive DX (K : PySem.W.Frag) (H : Hp) : V → PyData → Prop
  | non : DX K H .non .none
  | bl (b : Bool) : DX K H (.bl b) (.bool b)
  | int (i : Int) : DX K H (.int i) (.int i)
  | str (x : Str) : DX K H (.str x) (.str x)
  | lst {a : Addr} {xs : List V} {ds : List PyData} : SqL K H a xs → DXs K H xs ds → DX K H (.ref a) (.list ds)
  | tup {a : Addr} {xs : List V} {ds : List PyData} : SqT K H a xs → DXs K H xs ds → DX K H (.ref a) (.tuple ds)
  | dic {a : Addr} {kvs : List (Key × V)} {ds : List (PyData × PyData)} : Rd H a (.dK kvs) → DXk K H kvs ds → DX K H (.ref a) (.dict ds)
inductive DXs (K : PySem.W.Frag) (H : Hp) : List V → List PyData → Prop
  | nil : DXs K H [] []
  | cons {v : V} {vs : List V} {d : PyData} {ds : List PyData} : DX K H v d → DXs K H vs ds → DXs K H (v :: vs) (d :: ds)
inductive DXk (K : PySem.W.Frag) (H : Hp) : List (Key × V) → List (PyData × PyData) → Prop
  | nil : DXk K H [] []
  | cons {k : Key} {v : V} {kvs : List (Key × V)} {d : PyData} {ds : List (PyData × PyData)} : DX K H v d → DXk K H kvs ds → DXk K H ((k, v) :: kvs) ((kD k, d) :: ds)
end
section
variable {X : Cx} {pins : List (Addr × Obj)} {σ : L2.St} {H : Hp} {s : Shared}
theorem list_ne (I : Inv X pins σ H s) (S : Sys X.base) {a : Addr} {xs : List V} (hs : SqL X.K H a xs) : a ≠ sysModules := by
  intro e
  subst e
  obtain ⟨mm, o, es, ep, ho, hd, _⟩ := S
  have hb := (I.bs _ _ ho).1
  obtain ⟨its, rv, ⟨o', n, ho', hc, _, hd'⟩, _⟩ := I.list hs
  rw [hb] at ho'
  cases ho'
  rw [hd] at hd'
  cases hd'
mutual
theorem DX.reads (I : Inv X pins σ H s) (S : Sys X.base) : ∀ {v : V} {d : PyData}, DX X.K H v d → ∀ {u : Value}, RelV v u → ∃ as, Reads s.heap u d as ∧ sysModules ∉ as
  | _, _, .non, _, r => by
    cases r
    exact ⟨_, Reads.none, by simp⟩
  | _, _, .bl b, _, r => by
    cases r
    exact ⟨_, Reads.bool b, by simp⟩
  | _, _, .int i, _, r => by
    obtain ⟨t, rfl⟩ := r
    exact ⟨_, Reads.int i t, by simp⟩
  | _, _, .str x, _, r => by
    obtain ⟨t, rfl⟩ := r
    exact ⟨_, Reads.str x t, by simp⟩
  | _, _, .lst hs ha, _, r => by
    cases r
    have ne := list_ne I S hs
    obtain ⟨its, rv, ⟨o, n, ho, hc, _, hd⟩, _⟩ := I.list hs
    obtain ⟨as, hr, hn⟩ := DXs.reads I S ha rv
    exact ⟨_, Reads.list ho hc hd hr, fun z => by
      rcases List.mem_cons.mp z with z | z
      · exact ne z.symm
      · exact hn z⟩
  | _, _, .tup hs ha, _, r => by
    cases r
    obtain ⟨its, rv, ⟨o, ho, hc, n, hd⟩, _⟩ := I.tuple hs
    obtain ⟨as, hr, hn⟩ := DXs.reads I S ha rv
    exact ⟨_, Reads.tuple ho hc hd hr, hn⟩
  | _, _, .dic hs ha, _, r => by
    cases r
    obtain ⟨_, ne, vs, kv, o, es, ep, ho, hx, hd, _, hp, _⟩ := (show ObjOk X.prog X.w H s.heap _ (.dK _) from hs.ok I.hok)
    obtain ⟨as, bs, h1, h2, n1, n2⟩ := DXk.reads I S ha kv hp
    refine ⟨_, Reads.dict ho hx.1 hd h1 h2, fun z => ?_⟩
    rcases List.mem_append.mp z with z | z
    · rcases List.mem_cons.mp z with z | z
      · subst z
        simp at ne
      · exact n1 z
    · exact n2 z
theorem DXs.reads (I : Inv X pins σ H s) (S : Sys X.base) : ∀ {vs : List V} {ds : List PyData}, DXs X.K H vs ds → ∀ {us : List Value}, Vals vs us → ∃ as, ReadsAll s.heap us ds as ∧ sysModules ∉ as
  | _, _, .nil, _, r => by
    cases r
    exact ⟨_, ReadsAll.nil, by simp⟩
  | _, _, .cons h1 h2, _, r => by
    cases r with
    | cons r1 r2 =>
      obtain ⟨as, q1, n1⟩ := DX.reads I S h1 r1
      obtain ⟨bs, q2, n2⟩ := DXs.reads I S h2 r2
      exact ⟨_, ReadsAll.cons q1 q2, fun z => (List.mem_append.mp z).elim n1 n2⟩
theorem DXk.reads (I : Inv X pins σ H s) (S : Sys X.base) : ∀ {kvs : List (Key × V)} {ds : List (PyData × PyData)}, DXk X.K H kvs ds → ∀ {vs : List (Key × Value)} {es : List DictEntry}, KV kvs vs → Pairs (mixKind X.prog X.w) es vs →
    ∃ as bs, ReadsAll s.heap (es.map (·.key)) (ds.map (·.1)) as ∧ ReadsAll s.heap (es.map (·.val)) (ds.map (·.2)) bs ∧ sysModules ∉ as ∧ sysModules ∉ bs
  | _, _, .nil, _, _, kv, hp => by
    cases kv
    cases hp
    exact ⟨_, _, ReadsAll.nil, ReadsAll.nil, by simp, by simp⟩
  | _, _, .cons h1 h2, _, _, kv, hp => by
    cases kv with
    | cons k1 k2 =>
      cases hp with
      | cons hk he hp' =>
        obtain ⟨as, bs, q1, q2, n1, n2⟩ := DXk.reads I S h2 k2 hp'
        obtain ⟨cs, q3, n3⟩ := DX.reads I S h1 k1.2
        rw [← he] at q3
        rw [← k1.1] at hk
        rcases keyIs_shape hk with ⟨i, t, e1, e2⟩ | ⟨x, t, e1, e2⟩
        · refine ⟨_, _, ReadsAll.cons (as := []) ?_ q1, ReadsAll.cons q3 q2, by simpa using n1, fun z => (List.mem_append.mp z).elim n3 n2⟩
          have e3 := congrArg kD e1
          simp only [e2]
          exact e3 ▸ Reads.int i t
        · refine ⟨_, _, ReadsAll.cons (as := []) ?_ q1, ReadsAll.cons q3 q2, by simpa using n1, fun z => (List.mem_append.mp z).elim n3 n2⟩
          have e3 := congrArg kD e1
          simp only [e2]
          exact e3 ▸ Reads.str x t
end
end
/-! data in cells, dicts among them -/
mutual
inductive IsX (M : Cs) : Sl → PyData → Prop
  | d (x : PyData) : IsX M (.d x) x
  | c {a : Addr} {ss : List Sl} {ds : List PyData} : M a = some (.l ss) → IsXL M ss ds → IsX M (.c a) (.list ds)
  | k {a : Addr} {kvs : List (Key × Sl)} {ds : List (PyData × PyData)} : M a = some (.k kvs) → IsXK M kvs ds → IsX M (.c a) (.dict ds)
  | u {ss : List Sl} {ds : List PyData} : IsXL M ss ds → IsX M (.u ss) (.tuple ds)
  | s (ns : List Int) : IsX M (.s ns) (.list (ns.map PyData.int))
inductive IsXL (M : Cs) : List Sl → List PyData → Prop
  | nil : IsXL M [] []
  | cons {s : Sl} {d : PyData} {ss : List Sl} {ds : List PyData} : IsX M s d → IsXL M ss ds → IsXL M (s :: ss) (d :: ds)
inductive IsXK (M : Cs) : List (Key × Sl) → List (PyData × PyData) → Prop
  | nil : IsXK M [] []
  | cons {k : Key} {s : Sl} {kvs : List (Key × Sl)} {d : PyData} {ds : List (PyData × PyData)} : IsX M s d → IsXK M kvs ds → IsXK M ((k, s) :: kvs) ((kD k, d) :: ds)
end
theorem IsXL.ofD {M : Cs} : ∀ ds : List PyData, IsXL M (ds.map Sl.d) ds
  | [] => .nil
  | d :: r => .cons (.d d) (IsXL.ofD r)
theorem IsXK.ofD {M : Cs} : ∀ kd : List (Key × PyData), IsXK M (slK kd) (encK kd)
  | [] => .nil
  | (k, d) :: r => .cons (.d d) (IsXK.ofD r)
theorem IsX.cell {M : Cs} {a : Addr} {ds : List PyData} (h : M a = some (.l (ds.map .d))) : IsX M (.c a) (.list ds) := .c h (IsXL.ofD ds)
theorem IsX.dict {M : Cs} {a : Addr} {kd : List (Key × PyData)} (h : M a = some (.k (slK kd))) : IsX M (.c a) (.dict (encK kd)) := .k h (IsXK.ofD kd)
section
variable {K : PySem.W.Frag} {L : Lk} {M : Cs} {G H : Hp}
mutual
theorem At.dx (g : GoodM K L M G H) : ∀ {v : V} {d : PyData}, At K G v d → DX K H v d
  | _, _, .non => .non
  | _, _, .bl b => .bl b
  | _, _, .int i => .int i
  | _, _, .str x => .str x
  | _, _, .lst e l => .lst (.inl (g.rd e)) (AtL.dx g l)
  | _, _, .tup e l => .tup (.inl (g.rd e)) (AtL.dx g l)
  | _, _, .dic e l => .dic (g.rd e) (AtK.dx g l)
theorem AtL.dx (g : GoodM K L M G H) : ∀ {vs : List V} {ds : List PyData}, AtL K G vs ds → DXs K H vs ds
  | _, _, .nil => .nil
  | _, _, .cons a b => .cons (At.dx g a) (AtL.dx g b)
theorem AtK.dx (g : GoodM K L M G H) : ∀ {vs : List (Key × V)} {ds : List (PyData × PyData)}, AtK K G vs ds → DXk K H vs ds
  | _, _, .nil => .nil
  | _, _, .cons a b => .cons (At.dx g a) (AtK.dx g b)
end
theorem ints_dx : ∀ ns : List Int, DXs K H (ns.map V.int) (ns.map PyData.int)
  | [] => .nil
  | n :: r => .cons (.int n) (ints_dx r)
mutual
theorem IsX.dx (g : GoodM K L M G H) : ∀ {s : Sl} {d : PyData} {v : V}, IsX M s d → SlAt K G v s → DX K H v d
  | _, _, _, .d x, .d a => At.dx g a
  | _, _, _, .c (a := p) h l, b => by
    obtain ⟨_, xs, h1, h2⟩ := g.cell p _ h
    cases b
    exact .lst (SqL.of h1) (IsXL.dx g l h2)
  | _, _, _, .k (a := p) h l, b => by
    obtain ⟨_, xs, h1, h2⟩ := g.cell p _ h
    cases b
    exact .dic (.inl h1) (IsXK.dx g l h2)
  | _, _, _, .u l, .u e b => .tup (.inl (g.rd e)) (IsXL.dx g l b)
  | _, _, _, .s ns, .s e => by
    refine .lst ?_ (ints_dx ns)
    rcases e with e | e
    · exact .inl (g.rd e)
    · exact .inr e
theorem IsXL.dx (g : GoodM K L M G H) : ∀ {ss : List Sl} {ds : List PyData} {vs : List V}, IsXL M ss ds → SlL K G vs ss → DXs K H vs ds
  | _, _, _, .nil, .nil => .nil
  | _, _, _, .cons a b, .cons p q => .cons (IsX.dx g a p) (IsXL.dx g b q)
theorem IsXK.dx (g : GoodM K L M G H) : ∀ {ks : List (Key × Sl)} {ds : List (PyData × PyData)} {vs : List (Key × V)}, IsXK M ks ds → KvAt K G vs ks → DXk K H vs ds
  | _, _, [], .nil, _ => .nil
  | _, _, _ :: _, .nil, h => h.elim
  | _, _, (k, v) :: vs, .cons (k := k2) a b, ⟨e, p, q⟩ => by
    have e' : k = k2 := e
    subst e'
    exact .cons (IsX.dx g a p) (IsXK.dx g b q)
  | _, _, [], .cons a b, h => h.elim
end
end
/-- what has an address -/
def isBox : PyData → Bool
  | .list _ => true
  | .tuple _ => true
  | .dict _ => true
  | _ => false
def rShowX (K : PySem.W.Frag) : List V → Hp → VK → Prop := fun xs H Q => ∃ (a : Addr) (d : PyData), xs = [.ref a] ∧ DX K H (.ref a) d ∧ d.showable = true ∧ d.depth ≤ 60 ∧ d.shown.length ≤ sizeLine ∧ Q (.str d.shown) H
theorem call_showX {X : Cx} (S : Sys X.base) (noG : X.A.guards = some []) (hu : X.A.units + 64 < cLine) : CallR X (.builtin "repr") (rShowX X.K) := by
  intro pins s σ H xs us Q I r h
  obtain ⟨a, d, rfl, hd, sh, dp, sz, q⟩ := h
  obtain ⟨u, rfl, ru⟩ := vals1 r
  cases ru
  obtain ⟨as, rd, nm⟩ := DX.reads I S hd (u := .ref a) rfl
  exact PySem.repr_of_reads' rd sh (fun _ => nm) noG (by omega) (fun _ _ z => z) (fun h' u tk hk => ⟨.str d.shown, H, I.kept (t' := tk) hk, ⟨u, rfl⟩, q⟩) sz
/-! ### how long a repr is -/
def small (z : Str) : Bool := Txt.isascii z && decide (z.length ≤ 30)
mutual
/-- ints below 10 ^ 45, short plain texts -/
def fitX : PyData → Bool
  | .none => true
  | .bool _ => true
  | .int i => decide (i.natAbs < 10 ^ 45)
  | .str z => small z
  | .list ds => fitXs ds
  | .tuple ds => fitXs ds
  | .dict kvs => fitXk kvs
def fitXs : List PyData → Bool
  | [] => true
  | d :: r => fitX d && fitXs r
def fitXk : List (PyData × PyData) → Bool
  | [] => true
  | p :: r => fitX p.1 && fitX p.2 && fitXk r
end
mutual
/-- how many parts -/
def wtX : PyData → Nat
  | .none => 1
  | .bool _ => 1
  | .int _ => 1
  | .str _ => 1
  | .list ds => 1 + wtXs ds
  | .tuple ds => 1 + wtXs ds
  | .dict kvs => 1 + wtXk kvs
def wtXs : List PyData → Nat
  | [] => 0
  | d :: r => wtX d + wtXs r
def wtXk : List (PyData × PyData) → Nat
  | [] => 0
  | p :: r => wtX p.1 + wtX p.2 + wtXk r
end
theorem dictText_le (ts : List Str) : (dictText ts).length ≤ 2 + piled ts := by
  have e : (dictText ts).length = 1 + (Str.join ", " ts).length + 1 := by
    unfold dictText
    rw [strLen_append, strLen_append]; rfl
  by_cases h : ts = []
  · subst h; decide
  · have h2 := join_length_add ts h
    omega
theorem small_len {z : Str} (h : small z = true) : (PyData.str z).shown.length ≤ 302 := by
  simp only [PyData.shown]
  unfold small at h
  simp only [Bool.and_eq_true, decide_eq_true_eq] at h
  have h3 : Txt.isascii z = true := h.1
  unfold Txt.isascii at h3
  have := StrLaws.reprText_len z fun c hc => by
    rw [Array.all_eq_true] at h3
    obtain ⟨i, hi, e⟩ := List.getElem_of_mem hc
    have := h3 i (by simpa using hi)
    simp only [decide_eq_true_eq] at this
    have e' : z.cps[i]'(by simpa using hi) = c := by simpa using e
    rw [e'] at this
    exact Nat.lt_of_lt_of_le this (by decide)
  omega
theorem int_len45 {i : Int} (h : i.natAbs < 10 ^ 45) : (PyData.int i).shown.length ≤ 302 := by
  simp only [PyData.shown]
  have := int_text_length_le10 (k := 45) (by decide) h
  show (Str.ofString (toString i)).length ≤ 302
  rw [PySem.ofString_length]
  omega
mutual
theorem shownX_le : ∀ d : PyData, fitX d = true → d.shown.length + 4 ≤ 320 * wtX d
  | .none, _ => by simp only [PyData.shown, wtX]; decide
  | .bool b, _ => by cases b <;> (simp only [PyData.shown, wtX]; decide)
  | .int i, h => by
    have := int_len45 (i := i) (by simpa [fitX] using h)
    simp only [wtX]
    omega
  | .str z, h => by
    have := small_len (z := z) (by simpa [fitX] using h)
    simp only [wtX]
    omega
  | .list ds, h => by
    have h1 := shownXs_le ds (by simpa [fitX] using h)
    have h2 := listText_le (PyData.shownAll ds)
    simp only [PyData.shown, wtX]
    omega
  | .tuple ds, h => by
    have h1 := shownXs_le ds (by simpa [fitX] using h)
    have h2 := tupleText_le (PyData.shownAll ds)
    simp only [PyData.shown, wtX]
    omega
  | .dict ds, h => by
    have h1 := shownXk_le ds (by simpa [fitX] using h)
    have h2 := dictText_le (PyData.shownKv ds)
    simp only [PyData.shown, wtX]
    omega
theorem shownXs_le : ∀ ds : List PyData, fitXs ds = true → piled (PyData.shownAll ds) ≤ 320 * wtXs ds
  | [], _ => by simp only [PyData.shownAll, piled_nil]; omega
  | d :: r, h => by
    simp only [fitXs, Bool.and_eq_true] at h
    have h1 := shownX_le d h.1
    have h2 := shownXs_le r h.2
    have h3 := wtX_pos d
    simp only [PyData.shownAll, piled_cons, wtXs]
    omega
theorem shownXk_le : ∀ ds : List (PyData × PyData), fitXk ds = true → piled (PyData.shownKv ds) ≤ 320 * wtXk ds
  | [], _ => by simp only [PyData.shownKv, piled_nil]; omega
  | (k, d) :: r, h => by
    simp only [fitXk, Bool.and_eq_true] at h
    have h1 := shownX_le k h.1.1
    have h1' := shownX_le d h.1.2
    have h2 := shownXk_le r h.2
    have h3 := wtX_pos d
    have h4 := wtX_pos k
    have h5 : ((": " : Str)).length = 2 := rfl
    simp only [PyData.shownKv, piled_cons, wtXk, strLen_append, h5]
    omega
theorem wtX_pos : ∀ d : PyData, 1 ≤ wtX d
  | .none => by simp only [wtX]; omega
  | .bool _ => by simp only [wtX]; omega
  | .int _ => by simp only [wtX]; omega
  | .str _ => by simp only [wtX]; omega
  | .list _ => by simp only [wtX]; omega
  | .tuple _ => by simp only [wtX]; omega
  | .dict _ => by simp only [wtX]; omega
end
mutual
theorem showX : ∀ d : PyData, fitX d = true → d.showable = true
  | .none, _ => by simp only [PyData.showable]
  | .bool b, _ => by simp only [PyData.showable]
  | .int i, h => by
    simp only [fitX, decide_eq_true_eq] at h
    simp only [PyData.showable, decide_eq_true_eq]
    by_cases e : i.natAbs = 0
    · rw [e]; decide
    · exact (Nat.log2_lt e).mpr (Nat.lt_trans h (by decide))
  | .str z, h => by simp only [PyData.showable]
  | .list ds, h => by simp only [PyData.showable]; exact showXs ds (by simpa [fitX] using h)
  | .tuple ds, h => by simp only [PyData.showable]; exact showXs ds (by simpa [fitX] using h)
  | .dict ds, h => by simp only [PyData.showable]; exact showXk ds (by simpa [fitX] using h)
theorem showXs : ∀ ds : List PyData, fitXs ds = true → PyData.showableAll ds = true
  | [], _ => by simp only [PyData.showableAll]
  | d :: r, h => by
    simp only [fitXs, Bool.and_eq_true] at h
    simp only [PyData.showableAll, showX d h.1, showXs r h.2, Bool.and_self]
theorem showXk : ∀ ds : List (PyData × PyData), fitXk ds = true → PyData.showableKv ds = true
  | [], _ => by simp only [PyData.showableKv]
  | (k, d) :: r, h => by
    simp only [fitXk, Bool.and_eq_true] at h
    simp only [PyData.showableKv, showX k h.1.1, showX d h.1.2, showXk r h.2, Bool.and_self]
end
section
variable {X : Cx} {L : Lk} {M : Cs} {Q : Sl → Cs → Prop}
/-- repr of a list, a tuple, a dict -/
theorem k_showX {s : Sl} {d : PyData} (h : IsX M s d) (hb : isBox d = true) (fit : fitX d = true) (wt : wtX d ≤ 20000) (dp : d.depth ≤ 60) (q : Q (.d (.str d.shown)) M) : RCk X.K L (rShowX X.K) [s] M Q := fun G H vs Q' g a k => by
  obtain ⟨v, rfl, a1⟩ := sl1 a
  have x := IsX.dx g h a1
  have sz := shownX_le d fit
  have sl : (10 ^ 7 : Nat) ≤ sizeLine := by rw [sizeLine_eq]; decide
  have isr : ∃ p, v = .ref p := by
    cases x with
    | lst => exact ⟨_, rfl⟩
    | tup => exact ⟨_, rfl⟩
    | dic => exact ⟨_, rfl⟩
    | _ => cases hb
  obtain ⟨p, e⟩ := isr
  subst e
  exact ⟨p, d, rfl, x, showX d fit, dp, by omega, k.go q g (.d (.str _))⟩
end
/-- the law's own call, where its promise is asked only with no repr under way -/
theorem calm_lawS {P : Program} {w : World} {K : PySem.W.Frag} {mg mb : Str → Option Value} {k : Nat} {fa a : Addr} {fd : FuncData} {x : Str} {R : Rr} {t : Shared} {vs : List Value} {ns : List Int}
    (inK : K.In t.heap) (hns : t.heap.Ns mainGlobals mg) (hnb : t.heap.Ns builtinsNs mb) (hbb : ∀ y : Str, y ≠ "__name__" → mb y = bootBuiltins y) (noL : t.heap.NoLimit) (noGen : t.gens = #[])
    (hobj : t.heap.get? a = some { cls := .type "list", data := .seq vs.toArray }) (hin : IntsAre vs ns) (hlen : ns.length ≤ sizeLine) (room : Room k callerA)
    (hsys : Sys t.heap) (F : ∀ base : Heap, K.In base → base.Ns mainGlobals mg → Sys base → Calm P w K mg base k fa fd [x] (Spk K R)) (hbd : ∀ (s : Shared) (u : Value), BindsTo s fd ⟨[u], []⟩ [(x, u)])
    (prom : ∀ H : Hp, Only H → SqL K H a (ns.map V.int) → Spk K R [.ref a] H (fun v _ => v = .bl true) fun _ _ _ => False) :
    codeAny (model P w) callerA (.call (.ref fa) ⟨[.ref a], []⟩) (fun o t' => o = .ok (.ret (.bool true)) ∧ OldK t.heap t'.heap ∧ t'.os = t.os ∧ AllBare t'.gens) t := by
  have rv := vals_ints hin
  have lv := hin.length
  obtain ⟨H, ho, hS, hok, hA, hK⟩ : ∃ H : Hp, Only H ∧ SqL K H a (ns.map V.int) ∧ HOk P w H t.heap ∧ (∀ b, H b ≠ none → b = a) ∧ (H a ≠ none → K.lookup a = none) := by
    cases hk : K.lookup a with
    | some o =>
      have z := (inK a o hk).symm.trans hobj
      cases z
      exact ⟨fun _ => none, fun _ => .inl rfl, .inr ⟨_, vs.toArray, _, hk, rfl, rfl, rfl, by rw [List.size_toArray, lv]; exact hlen, by simpa using rv⟩, fun _ _ z => (nomatch z), fun _ z => absurd rfl z, fun z => absurd rfl z⟩
    | none =>
      have at1 : ∀ {b : Addr} {u : HO}, (if b = a then some (HO.frz { cls := .type "list", data := .seq vs.toArray } (.lst (ns.map V.int))) else none) = some u → b = a ∧ HO.frz { cls := .type "list", data := .seq vs.toArray } (.lst (ns.map V.int)) = u := fun {b u} z => by
        by_cases hb : b = a
        · rw [if_pos hb] at z
          exact ⟨hb, Option.some.inj z⟩
        · rw [if_neg hb] at z
          cases z
      refine ⟨fun b => if b = a then some (.frz { cls := .type "list", data := .seq vs.toArray } (.lst (ns.map V.int))) else none, fun b => ?_, .inl (.inr ⟨_, if_pos rfl⟩), fun b u z => ?_, fun b z => ?_, fun _ => rfl⟩
      · rcases Decidable.em (b = a) with hb | hb
        · exact .inr ⟨_, _, if_pos hb⟩
        · exact .inl (if_neg hb)
      · obtain ⟨rfl, rfl⟩ := at1 z
        exact ⟨hobj, by rw [List.length_map]; exact hlen, vs, _, rv, hobj⟩
      · rcases Decidable.em (b = a) with hb | hb
        · exact hb
        · exact absurd (if_neg hb) z
  have seqNo : ∀ {b : Addr} {o : Obj} {es : Array DictEntry} {ep : Nat}, t.heap.get? b = some o → o.data = .dict es ep → H b = none := fun {b o es ep} z d => by
    cases q : H b with
    | none => rfl
    | some u =>
      have zb : b = a := hA b (by rw [q]; exact fun y => (nomatch y))
      rw [zb, hobj] at z
      cases z
      exact absurd d fun y => (nomatch y)
  have inB : ∀ {b : Addr} {m : Str → Option Value}, t.heap.Ns b m → (hidT t.heap H).Ns b m := fun ⟨o, es, ep, z, d, r⟩ => ⟨o, es, ep, hidT_get z (seqNo z d), d, r⟩
  have kB : K.In (hidT t.heap H) := fun b o z => hidT_get (inK b o z) (by
    cases q : H b with
    | none => rfl
    | some u =>
      have zb : b = a := hA b (by rw [q]; exact fun y => (nomatch y))
      rw [zb, hK (by rw [← zb, q]; exact fun y => (nomatch y))] at z
      cases z)
  have md : Mod K mg (hidT t.heap H) := ⟨kB, inB hns, ⟨mb, inB hnb, hbb⟩, noL.elim fun mc z => ⟨mc, inB z.1, z.2⟩⟩
  have e0 : Env0 P w K mg (hidT t.heap H) callerA [] t H := ⟨rfl, md, fun b o z => of_hidT z, Nat.le_of_eq (hidT_size _ _), trivial, fun b hb => (nomatch hb), hok, .of_eq noGen⟩
  have main := (F _ kB (inB hns) (hsys.elim fun mm z => ⟨mm, inB z⟩)).go callerA [] t H ⟨[.ref a], []⟩ [.ref a] [.ref a] _ _ room rfl e0 (hbd t (.ref a)) (.cons rfl .nil) (prom H ho hS)
  refine codeAny_mono main fun o t' h => ?_
  cases o with
  | error e => exact h.elim
  | ok fl =>
    cases fl with
    | next => exact h.elim
    | brk => exact h.elim
    | cont => exact h.elim
    | ret u =>
      obtain ⟨v, H', os, bare, un, hok', rl, qv⟩ := h
      cases (show v = .bl true from qv)
      cases (show u = Value.bool true from rl)
      refine ⟨rfl, OldK.of_keep fun b o z => ?_, os, bare⟩
      cases q : H b with
      | none => exact un.keep b o z q (fun y => (nomatch y)) (fun y => (nomatch y))
      | some u =>
        rcases ho b with y | ⟨ob, xs, y⟩
        · rw [q] at y
          cases y
        · obtain ⟨z1, _⟩ := hok b _ y
          obtain ⟨z2, _⟩ := hok' b _ (un.frzs b ob _ y)
          rw [z] at z1
          cases z1
          exact z2
theorem walk_calmS {l : PySem.W.OpenLaw} {n k : Nat} {q : Program} {loose : List Str} {XP : (Str → Option Value) → Heap → Prop} {YP : World → Heap → Prop} {d : DefRec} {K : Params → PySem.W.Frag} {R : Rr} {x : Str}
    (hmost : l.most = some n) (hle : n ≤ sizeLine) (hdef : d.params.defaults = []) (himp : importsNone q = true) (room : Room k callerA) (hY : ∀ (w : World) (h : Heap), YP w h → (K w.params).In h)
    (F : ∀ (w : World) (mg : Str → Option Value) (fa : Addr) (h : Heap), (K w.params).In h → h.Ns mainGlobals mg → mg d.name = some (.ref fa) →
      ∃ fd : FuncData, (∀ (s : Shared) (u : Value), BindsTo s fd ⟨[u], []⟩ [(x, u)]) ∧ ∀ base : Heap, (K w.params).In base → base.Ns mainGlobals mg → Sys base → Calm l.prog w (K w.params) mg base k fa fd [x] (Spk (K w.params) R))
    (prom : ∀ (w : World) (H : Hp) (a : Addr) (ns : List Int), ns.length ≤ n → Only H → SqL (K w.params) H a (ns.map V.int) → Spk (K w.params) R [.ref a] H (fun v _ => v = .bl true) fun _ _ _ => False) :
    PySem.W.WalkO q loose XP YP l.row.toRowW d [] (fun f vs => PySem.call f vs) := by
  refine Att.attach_call hmost hdef fun w t0 t mg mb fa o pm cd doc a vs ns G y ho hd hcd hmg hobj hin hlen noGen => ?_
  obtain ⟨fd, hbd, hF⟩ := F w mg fa _ (hY w _ y) G.T.g hmg
  exact calm_lawS (hY w _ y) G.T.g G.T.b G.T.builtins G.T.nolimit noGen hobj hin (Nat.le_trans hlen hle) room ((G.T.seer himp).mods.elim fun mm z => ⟨mm, z.1⟩) hF hbd fun H ho hS => prom w H a ns hlen ho hS
end Y

/-! list(range(a, b)) of ints of any size -/
namespace PySem
section
variable {pr : Program} {wd : World} {Ar : Around} {Er : Value → Shared → Prop} {sh : Shared} {ra : Addr} {lo hi st : Int} {ta tb tc : Tok} {m : Nat}
abbrev lriObj (lo hi st : Int) : Obj := { cls := .type "longrange_iterator", data := .fields #[rawInt lo, rawInt (Builtin.Range.rangeSize lo hi st), rawInt st] }
theorem ylr_extend {R : Result → Shared → Prop} (hd : Ar.handled = none) (ir : IsRange sh.heap ra lo hi st ta tb tc) (big : Builtin.Range.small lo hi st = false) (sz : Builtin.Range.rangeSize lo hi st = m) (le : m ≤ 2 ^ 24) (l : Addr) (res : Value) (k0 : Nat)
    (isl : sh.heap.get? l = some { cls := .type "list", data := .seq #[] k0 })
    (done : ∀ h1 tk ac k1, (∀ z o, z ≠ l → sh.heap.get? z = some o → h1.get? z = some o) → h1.get? l = some { cls := .type "list", dict := none, data := .seq ac k1, slots := #[] } → ItemsOf (fun j v => ∃ t, v = .int (lo + j * st) t) ac m → R (.ok (.ret res)) { sh with heap := h1, toks := tk }) :
    wpAny (model pr wd) Ar.in1 (Builtin.List.listExtendWith (.ref l) (.ref ra) res) (fun fin t => match fin with | .done f => R (.ok f) t | .again c' => c'.quiet = true ∧ codeAny (model pr wd) Ar c' R t) (fun e t => R (.error e) t) sh := by
  have n1 : l ≠ ra := by intro e; rw [e, ir] at isl; simp at isl
  have n2 : l ≠ sh.heap.objs.size := Nat.ne_of_lt (Heap.lt_size isl)
  have n3 : l ∉ [sh.heap.objs.size] := by intro z; exact n2 (List.mem_singleton.mp z)
  have loop : ∀ (h : Heap) (k1 tk : Nat), IsLongIter h sh.heap.objs.size (lo + ((0 : Nat) : Int) * st) ((m : Int) - ((0 : Nat) : Int)) st → (∀ z o, z ≠ l → sh.heap.get? z = some o → h.get? z = some o) → h.get? l = some { cls := .type "list", data := .seq #[] k1 } →
      codeAny (model pr wd) Ar (.builtin "list.extend.loop" ⟨[.ref l, .ref sh.heap.objs.size, res], []⟩) R { sh with heap := h, toks := tk } := by
    intro h k1 tk it kp il
    refine codeAny_extend_loopS ((Walks.longrange (prog := pr) (w := wd) (A := Ar.in1) hd sh.heap.objs.size lo st m).toS) (by have := sizeLine_eq; omega) l n3 res m 0 _ #[] k1 rfl (Nat.zero_le _) it il (ItemsOf.nil _) ?_
    intro t ac k2 mv il2 its
    rw [Moved.eq_with mv]
    refine done t.heap t.toks ac k2 ?_ il2 its
    intro z o nz e
    refine mv.heap z o ?_ (kp z o nz e)
    intro hm
    rcases List.mem_cons.mp hm with y | y
    · exact nz y
    · have := Heap.lt_size e
      rw [List.mem_singleton.mp y] at this
      exact Nat.lt_irrefl _ this
  unfold Builtin.List.listExtendWith
  refine wpAny_bind (wpAny_typeOf (T := "range") ⟨_, ir, rfl⟩ ?_)
  have e1 : Builtin.List.listSameRef (.ref l) (.ref ra) = false := by simp [Builtin.List.listSameRef, n1]
  simp only [e1, show (Value.type "range" == Value.type "list") = false from by decide, show (Value.type "range" == Value.type "tuple") = false from by decide, Bool.or_false, Bool.false_eq_true, if_false]
  refine wpAny_bind (wpAny_pyIter_longrange ir big (wpAny_bind (wpAny_holding (wpAny_hint_range (n := m) (Heap.get?_push_of_some _ ir) sz le ?_))))
  have it0 : IsLongIter (sh.heap.push (lriObj lo hi st)) sh.heap.objs.size (lo + ((0 : Nat) : Int) * st) ((m : Int) - ((0 : Nat) : Int)) st := by
    show IsLongIter _ _ _ _ _
    have := Heap.get?_push_size sh.heap (o := lriObj lo hi st) rfl
    simp only [lriObj, sz] at this
    simpa [lriObj, sz] using this
  have il0 := Heap.get?_push_of_some (lriObj lo hi st) isl
  refine wpAny_ite_split (fun _ => ?_) (fun _ => wpAny_pure ⟨plainId_quiet F.plain_extend_loop _, loop _ k0 _ it0 (fun z o _ e => Heap.get?_push_of_some _ e) il0⟩)
  refine wpAny_bind (wpAny_rule (wpAny_bind ?_))
  show wpAny _ _ (updateSeq l (·.push .none) >>= fun _ => updateSeq l (·.pop)) _ _ _
  refine wpAny_bind (wpAny_updateSeq il0 rfl ?_)
  have il1 := Heap.get?_update_self (Obj.mapSeq (·.push Value.none)) il0 rfl
  refine wpAny_updateSeq (hz := by seq_fits) il1 rfl ?_
  have il2 := Heap.get?_update_self (Obj.mapSeq (·.pop)) il1 rfl
  have far : ∀ z o, z ≠ l → (sh.heap.push (lriObj lo hi st)).get? z = some o → (((sh.heap.push (lriObj lo hi st)).update l (Obj.mapSeq (·.push Value.none))).update l (Obj.mapSeq (·.pop))).get? z = some o :=
    fun z o nz e => (Heap.get?_update_other _ _ (Ne.symm nz)).trans ((Heap.get?_update_other _ _ (Ne.symm nz)).trans e)
  exact wpAny_pure ⟨plainId_quiet F.plain_extend_loop _, loop _ _ _ (far _ _ (Ne.symm n2) it0) (fun z o nz e => far z o nz (Heap.get?_push_of_some _ e)) il2⟩
theorem ylr_init {R : Result → Shared → Prop} (hd : Ar.handled = none) (ir : IsRange sh.heap ra lo hi st ta tb tc) (big : Builtin.Range.small lo hi st = false) (sz : Builtin.Range.rangeSize lo hi st = m) (le : m ≤ 2 ^ 24) (l : Addr) (isl : sh.heap.get? l = some { cls := .type "list", data := .seq #[] })
    (done : ∀ h1 tk ac k1, (∀ z o, z ≠ l → sh.heap.get? z = some o → h1.get? z = some o) → h1.get? l = some { cls := .type "list", dict := none, data := .seq ac k1, slots := #[] } → ItemsOf (fun j v => ∃ t, v = .int (lo + j * st) t) ac m → R (.ok (.ret .none)) { sh with heap := h1, toks := tk }) :
    wpAny (model pr wd) Ar.in1 (Builtin.«list.__init__» ⟨[.ref l, .ref ra], []⟩) (fun fin t => match fin with | .done f => R (.ok f) t | .again c' => c'.quiet = true ∧ codeAny (model pr wd) Ar c' R t) (fun e t => R (.error e) t) sh := by
  have n1 : ra ≠ l := by intro e; rw [← e, ir] at isl; simp at isl
  show wpAny _ _ (do let old ← Builtin.List.listItems (.ref l); Builtin.List.listUpdate (.ref l) (fun _ => #[]); letGo old.toList.reverse; Builtin.List.listExtendWith (.ref l) (.ref ra) .none) _ _ sh
  refine wpAny_bind ?_; unfold Builtin.List.listItems; refine wpAny_bind (wpAny_seqItems isl rfl (wpAny_pure ?_))
  show wpAny _ _ (updateSeq l (fun _ => #[]) >>= fun _ => letGo (#[] : Array Value).toList.reverse >>= fun _ => Builtin.List.listExtendWith (.ref l) (.ref ra) .none) _ _ sh
  refine wpAny_bind (wpAny_updateSeq isl rfl (wpAny_bind (wpAny_letGo ?_)))
  have far : ∀ z o, z ≠ l → sh.heap.get? z = some o → (sh.heap.update l (Obj.mapSeq (fun _ => (#[] : Array Value)))).get? z = some o := fun z o nz e => (Heap.get?_update_other _ _ (Ne.symm nz)).trans e
  refine ylr_extend hd (far _ _ n1 ir) big sz le l .none _ (Heap.get?_update_self (Obj.mapSeq (fun _ => (#[] : Array Value))) isl rfl) ?_
  intro h1 tk ac k1 kp il its
  exact done h1 tk ac k1 (fun z o nz e => kp z o nz (far z o nz e)) il its
theorem ylr_call {Q : Value → Shared → Prop} (hd : Ar.handled = none) (ir : IsRange sh.heap ra lo hi st ta tb tc) (big : Builtin.Range.small lo hi st = false) (sz : Builtin.Range.rangeSize lo hi st = m) (le : m ≤ 2 ^ 24)
    (done : ∀ h1 tk ac k1, (∀ z o, sh.heap.get? z = some o → h1.get? z = some o) → h1.get? sh.heap.objs.size = some { cls := .type "list", dict := none, data := .seq ac k1, slots := #[] } → ItemsOf (fun j v => ∃ t, v = .int (lo + j * st) t) ac m → Q (.ref sh.heap.objs.size) { sh with heap := h1, toks := tk }) :
    wpAny (model pr wd) Ar (call (.type "list") [.ref ra]) Q Er sh := by
  refine callType_codes (Q₁ := fun x t => x = .ref sh.heap.objs.size ∧ t = { sh with heap := sh.heap.push { cls := .type "list", data := .seq #[] } }) F.called_list (F.typeCall_list_1 _) F.entry_list_init (code_list_new _ ⟨rfl, rfl⟩) ?_
  rintro x t ⟨rfl, rfl⟩
  have isl := Heap.get?_push_size sh.heap (o := { cls := .type "list", data := .seq #[] }) rfl
  refine ⟨⟨_, isl, rfl⟩, F.args_list_init_2 _ _, ylr_init (Ar := Ar.in1) hd (Heap.get?_push_of_some _ ir) big sz le _ isl ?_⟩
  intro h1 tk ac k1 kp il its
  exact ⟨rfl, done h1 tk ac k1 (fun z o e => kp z o (Nat.ne_of_lt (Heap.lt_size e)) (Heap.get?_push_of_some _ e)) il its⟩
end
end PySem
namespace Y
open PySem L2 PyProof.Rows
section
variable {X : Cx} {L : Lk} {τ : List (Option Sl)} {M : Cs} {Q : Sl → Cs → Prop} {a b : Expr} {p p2 pos pos2 : Pos} {QJ : QI} {tg : Expr}
def rgI (i j : Int) : List Sl := (List.range (j - i).toNat).map fun k => dI (i + (k : Nat))
theorem rg_sl {K : PySem.W.Frag} {G : Hp} (i j : Int) : SlL K G (rgV i j) (rgI i j) := by
  unfold rgV rgI
  have gen : ∀ l : List Nat, SlL K G (l.map fun k => V.int (i + (k : Nat))) (l.map fun k => dI (i + (k : Nat))) := by
    intro l
    induction l with
    | nil => exact .nil
    | cons x r ih => exact .cons (.d (.int _)) ih
  exact gen _
def tLstRgL (te : L2.St → Hp → (Int → Int → Hp → Prop) → Prop) : TE := fun σ H Q => te σ H fun i j H1 => (j - i).toNat ≤ 2 ^ 24 ∧ ∀ q, H1 q = none → Q (.ref q) (upd H1 q (.lst (rgV i j)))
theorem pe_listRgL {e : Expr} {te : L2.St → Hp → (Int → Int → Hp → Prop) → Prop} (hc : X.calm = true) (hg : Gl X "list") (hm : X.mg "list" = none) (he : PRg X e te) (na : starEach [e] X.env = (false, eval e X.env) :: starEach [] X.env := by rfl) : PE X (.Call (.Name "list" p) [e] [] pos) (tLstRgL te) := by
  refine ⟨fun pins s σ H Q I h => ?_⟩
  refine Call_ (ld_blt I hg hm boot_list (PyProof.Rows.callWith_type1 (args_cons (thn (he pins s σ H _ I h) fun x s1 ⟨r, i, j, t, u, v, H1, ex, hr, I1, le, q⟩ => args_nil ?_) na) na))
  subst ex
  have fin : ∀ h1 tk ac k1, (∀ z o, s1.heap.get? z = some o → h1.get? z = some o) → h1.get? s1.heap.objs.size = some { cls := .type "list", dict := none, data := .seq ac k1, slots := #[] } → ItemsOf (fun m v => ∃ t, v = .int (i + m * 1) t) ac (j - i).toNat → EP X pins σ Q (.ref s1.heap.objs.size) { s1 with heap := h1, toks := tk } := by
    intro h1 tk ac k1 kp il its
    refine ⟨.ref s1.heap.objs.size, upd H1 s1.heap.objs.size (.lst (rgV i j)), I1.laid kp (Nat.le_refl _) (show ObjOk X.prog X.w _ _ _ (.lst (rgV i j)) from ⟨by rw [rgV_length, sizeLine_eq]; omega, ac.toList, k1, vals_rg its, by rw [Array.toArray_toList]; exact il⟩), rfl, q _ (I1.hok.fresh (Nat.le_refl _))⟩
  cases sm : Builtin.Range.small i j 1 with
  | true => exact call_list_range (n := (j - i).toNat) (I1.ok.hd hc) hr sm (rangeSize_nat i j) le fin
  | false => exact ylr_call (m := (j - i).toNat) (I1.ok.hd hc) hr sm (rangeSize_nat i j) le fin
/-- list(range(a, b)) -/
theorem de_listRg (hc : X.calm = true) (hg : Gl X "list") (hm : X.mg "list" = none) (hg2 : Gl X "range") (hm2 : X.mg "range" = none) (w : DE X L a τ M fun s M1 => DE X L b τ M1 fun t M2 => ∃ i j : Int, s = dI i ∧ t = dI j ∧ (j - i).toNat ≤ 2 ^ 24 ∧ ∀ q, M2 q = none → Q (.c q) (updC M2 q (.l (rgI i j))))
    (na : starEach [.Call (.Name "range" p2) [a, b] [] pos2] X.env = (false, eval (.Call (.Name "range" p2) [a, b] [] pos2) X.env) :: starEach [] X.env := by rfl) (nb : starEach [a, b] X.env = (false, eval a X.env) :: starEach [b] X.env := by rfl) (nc : starEach [b] X.env = (false, eval b X.env) :: starEach [] X.env := by rfl) (nd : (backTo pos2 (starEach [b] X.env)).any (·.1) = false := by rfl) :
    DE X L (.Call (.Name "list" p) [.Call (.Name "range" p2) [a, b] [] pos2] [] pos) τ M Q := by
  refine de_of (pe_listRgL hc hg hm (prg_2 hg2 hm2 pe_s pe_s nb nc nd) na) fun σ G H Q' gs gm k => ?_
  refine w σ G H _ gs gm fun s M1 v G1 H1 q e1 g1 a1 => q σ G1 H1 _ (gs.mono e1) g1 ?_
  rintro t M2 u G2 H2 ⟨i, j, es, et, le, q2⟩ e2 g2 a2
  subst es et
  refine ⟨i, j, sl_int (a1.mono e2), sl_int a2, le, fun c hc => ?_⟩
  exact k _ _ _ _ _ (q2 c (g2.free hc).2) (e1.trans e2) (g2.newC hc ⟨_, upd_same, rg_sl i j⟩) (.c c)
end
end Y

namespace Y
open PySem L2 PyProof.Rows
section
variable {X : Cx} {L : Lk} {τ : List (Option Sl)} {M : Cs} {Q : Sl → Cs → Prop} {e iter tg : Expr} {p pos : Pos} {QJ : QI}
/-- reversed(xs) -/
theorem di_rev (hg : Gl X "reversed") (hm : X.mg "reversed" = none) (w : DE X L iter τ M fun s M1 => ∃ ss, seqOf M1 s = some ss ∧ QJ ss.length (fun M' => seqOf M' s = some ss) (fun i y => ss[ss.length - 1 - i]? = some y) M1)
    (hs : starEach [iter] X.env = (false, eval iter X.env) :: starEach [] X.env := by rfl) : DI X L tg (.Call (.Name "reversed" p) [iter] [] pos) τ M QJ := fun σ G H R gs gm k => by
  refine i_of (RT.pi_revA hg hm pe_s hs) ?_
  show sE X iter σ H (fun v H1 => ∃ (a : Addr) (xs : List V), v = .ref a ∧ ((SqL X.K H1 a xs ∧ R (Itv X.K a xs.length) H1) ∨ (SqT X.K H1 a xs ∧ R (RT.ItvT X.K a xs.length) H1)))
  refine w σ G H _ gs gm ?_
  rintro s M1 v G1 H1 ⟨ss, hs, q⟩ e1 g1 a1
  obtain ⟨p, xs, rfl, r, l⟩ := seq_at g1 a1 hs
  refine ⟨p, xs, rfl, ?_⟩
  have len0 := l.len
  cases hT : isTup s with
  | false =>
    rw [hT, if_neg Bool.false_ne_true] at r
    refine .inl ⟨r, k _ _ _ M1 G1 H1 _ q e1 g1 ⟨fun M' G' H' sM e' g' => Nat.le_of_eq len0, fun i M' G' H' hi sM e' g' => ?_⟩⟩
    obtain ⟨p', xs', ep, r', l'⟩ := seq_at g' (a1.mono e') sM
    cases ep
    rw [hT, if_neg Bool.false_ne_true] at r'
    have hj : ss.length - 1 - i < ss.length := by omega
    obtain ⟨v, hv, av⟩ := l'.get (List.getElem?_eq_getElem hj)
    rw [len0]
    refine ⟨⟨hi, xs', v, r', hv⟩, fun x H2 hy => ?_⟩
    obtain ⟨rfl, f⟩ := hy
    have ex := Option.some.inj ((f _ r').symm.trans hv)
    subst ex
    exact ⟨_, G', List.getElem?_eq_getElem hj, Ex.refl _, g', av⟩
  | true =>
    rw [hT, if_pos rfl] at r
    refine .inr ⟨r, k _ _ _ M1 G1 H1 _ q e1 g1 ⟨fun M' G' H' sM e' g' => Nat.le_of_eq len0, fun i M' G' H' hi sM e' g' => ?_⟩⟩
    obtain ⟨p', xs', ep, r', l'⟩ := seq_at g' (a1.mono e') sM
    cases ep
    rw [hT, if_pos rfl] at r'
    have hj : ss.length - 1 - i < ss.length := by omega
    obtain ⟨v, hv, av⟩ := l'.get (List.getElem?_eq_getElem hj)
    rw [len0]
    refine ⟨⟨hi, xs', v, r', hv⟩, fun x H2 hy => ?_⟩
    obtain ⟨rfl, f⟩ := hy
    have ex := Option.some.inj ((f _ r').symm.trans hv)
    subst ex
    exact ⟨_, G', List.getElem?_eq_getElem hj, Ex.refl _, g', av⟩
theorem SlL.rev {K : PySem.W.Frag} {G : Hp} : ∀ {vs : List V} {ss : List Sl}, SlL K G vs ss → SlL K G vs.reverse ss.reverse
  | _, _, .nil => .nil
  | _, _, .cons a b => by
    rw [List.reverse_cons, List.reverse_cons]
    exact (SlL.rev b).append (.cons a .nil)
/-- xs[::-1], a list -/
theorem de_rev {k : Nat} {p1 p2 p3 : Pos} (w : DE X L e τ M fun s M1 => ∃ ss, isTup s = false ∧ seqOf M1 s = some ss ∧ ∀ q, M1 q = none → Q (.c q) (updC M1 q (.l ss.reverse))) : DE X L (.Subscript e (.Slice none none (some (.UnaryOp .USub (.Constant (.int 1) k p1) p2)) p3) pos) τ M Q :=
  de_of (pe_revL pe_s) fun σ G H Q' gs gm kk => w σ G H _ gs gm fun s M1 v G1 H1 ⟨ss, hT, h, q⟩ e1 g1 a1 => by
    obtain ⟨p, xs, rfl, r, l⟩ := seq_at g1 a1 h
    rw [hT, if_neg Bool.false_ne_true] at r
    exact ⟨p, xs, rfl, r, fun c hc => kk _ _ _ G1 _ (q c (g1.free hc).2) e1 (g1.newC hc ⟨_, upd_same, l.rev⟩) (.c c)⟩
/-! dict of pairs -/
def mergeS (kvs more : List (Key × Sl)) : List (Key × Sl) := more.foldl (fun acc kv => putS acc kv.1 kv.2) kvs
theorem KvAt.merge {K : PySem.W.Frag} {G : Hp} : ∀ {more : List (Key × V)} {ms : List (Key × Sl)} {xs : List (Key × V)} {ys : List (Key × Sl)}, KvAt K G more ms → KvAt K G xs ys → KvAt K G (mergeK xs more) (mergeS ys ms)
  | [], [], _, _, _, h => h
  | (k, v) :: ps, (k2, s) :: qs, _, _, ⟨e, a, t⟩, h => by
    have e' : k = k2 := e
    subst e'
    exact KvAt.merge (more := ps) (ms := qs) t (KvAt.put a h)
  | [], _ :: _, _, _, h, _ => h.elim
  | _ :: _, [], _, _, h, _ => h.elim
def prD (kv : Key × PyData) : Sl := .d (.tuple [kD kv.1, kv.2])
theorem pairs_at {K : PySem.W.Frag} {L : Lk} {M : Cs} {G H : Hp} (g : GoodM K L M G H) : ∀ {kd : List (Key × PyData)} {xs : List V}, SlL K G xs (kd.map prD) → ∃ (ps : List Addr) (kvs : List (Key × V)), xs = ps.map V.ref ∧ Paired (fun p kv => SqT K H p [kV kv.1, kv.2]) ps kvs ∧ KvAt K G kvs (slK kd)
  | [], xs, h => by
    cases h
    exact ⟨[], [], rfl, .nil, trivial⟩
  | (k, d) :: r, xs, h => by
    rw [List.map_cons] at h
    cases h with
    | cons a b =>
      obtain ⟨ps, kvs, rfl, hp, hk⟩ := pairs_at g b
      cases a with
      | d a =>
        cases a with
        | @tup q _ _ e l =>
          cases l with
          | @cons vk _ _ _ a1 l =>
            cases l with
            | @cons vd _ _ _ a2 l =>
              cases l
              have ek : vk = kV k := by
                cases k with
                | inl i => cases a1; rfl
                | inr x => cases a1; rfl
              subst ek
              exact ⟨q :: ps, (k, vd) :: kvs, rfl, .cons (.inl (g.rd e)) hp, rfl, .d a2, hk⟩
theorem k_dictP {s : Sl} {kd : List (Key × PyData)} (hT : isTup s = false) (h : seqOf M s = some (kd.map prD)) (q : ∀ p, M p = none → Q (.c p) (updC M p (.k (mergeS [] (slK kd))))) :
    RCk X.K L (fun xs H Q => ∃ (a : Addr) (ps : List Addr) (kvs : List (Key × V)), xs = [.ref a] ∧ SqL X.K H a (ps.map V.ref) ∧ Paired (fun p kv => SqT X.K H p [kV kv.1, kv.2]) ps kvs ∧ ∀ p, H p = none → Q (.ref p) (upd H p (.dK (mergeK [] kvs)))) [s] M Q := fun G H vs Q' g a k => by
  obtain ⟨v, rfl, a1⟩ := sl1 a
  obtain ⟨p, xs, rfl, r, l⟩ := seq_at g a1 h
  rw [hT, if_neg Bool.false_ne_true] at r
  obtain ⟨ps, kvs, rfl, hp, hk⟩ := pairs_at g l
  exact ⟨p, ps, kvs, rfl, r, hp, fun c hc => k _ _ _ G _ (q c (g.free hc).2) (Ex.refl G) (g.newC hc ⟨_, upd_same, KvAt.merge hk trivial⟩) (.c c)⟩
theorem putS_new {kvs : List (Key × Sl)} {k : Key} {v : Sl} (h : k ∉ kvs.map (·.1)) : putS kvs k v = kvs ++ [(k, v)] := by
  unfold putS
  rw [if_neg]
  intro z
  obtain ⟨p, hp, e⟩ := List.any_eq_true.mp z
  exact h (List.mem_map.mpr ⟨p, hp, of_decide_eq_true e⟩)
theorem mergeS_nodup : ∀ (more kvs : List (Key × Sl)), ((kvs ++ more).map (·.1)).Nodup → mergeS kvs more = kvs ++ more
  | [], kvs, _ => by rw [List.append_nil]; rfl
  | (k, v) :: r, kvs, h => by
    have h1 : k ∉ kvs.map (·.1) := by
      rw [List.map_append, List.map_cons] at h
      have := (List.nodup_append.mp h).2.2
      intro z
      exact this k z k List.mem_cons_self rfl
    show mergeS (putS kvs k v) r = _
    rw [putS_new h1, mergeS_nodup r _ (by rw [List.append_assoc]; exact h), List.append_assoc]
    rfl
end
end Y

namespace Y
open PySem L2 PyProof.Rows
/-! ### a dict cell, seen as data while a call runs -/
mutual
def ndD : PyData → Bool
  | .list ds => ndDs ds
  | .tuple ds => ndDs ds
  | .dict _ => false
  | _ => true
def ndDs : List PyData → Bool
  | [] => true
  | d :: r => ndD d && ndDs r
end
mutual
def ndS : Sl → Bool
  | .d x => ndD x
  | .u ss => ndSs ss
  | _ => true
def ndSs : List Sl → Bool
  | [] => true
  | s :: r => ndS s && ndSs r
end
def ndK : List (Key × Sl) → Bool
  | [] => true
  | p :: r => ndS p.2 && ndK r
def ndC : Cell → Bool
  | .l ss => ndSs ss
  | .k kvs => ndK kvs
def ndM (M : Cs) : Prop := ∀ a c, M a = some c → ndC c = true
def delG (G : Hp) (a : Addr) : Hp := fun b => if b = a then none else G b
theorem delG_ne {G : Hp} {a b : Addr} (h : b ≠ a) : delG G a b = G b := by unfold delG; rw [if_neg h]
theorem delG_same {G : Hp} {a : Addr} : delG G a a = none := by unfold delG; rw [if_pos rfl]
section
variable {K : PySem.W.Frag} {G : Hp} {a : Addr} {xs : List (Key × V)}
theorem delG_keep {b : Addr} {o : HO} (ha : G a = some (.dK xs)) (h : G b = some o) (ho : ∀ ys, o ≠ .dK ys) : delG G a b = some o := by
  rw [delG_ne]
  · exact h
  · intro e
    subst e
    rw [ha] at h
    cases h
    exact ho _ rfl
mutual
theorem At.less (ha : G a = some (.dK xs)) : ∀ {v : V} {d : PyData}, At K G v d → ndD d = true → At K (delG G a) v d
  | _, _, .non, _ => .non
  | _, _, .bl b, _ => .bl b
  | _, _, .int i, _ => .int i
  | _, _, .str x, _ => .str x
  | _, _, .lst h l, n => .lst (delG_keep ha h fun _ => nofun) (AtL.less ha l (by simpa [ndD] using n))
  | _, _, .tup h l, n => .tup (delG_keep ha h fun _ => nofun) (AtL.less ha l (by simpa [ndD] using n))
  | _, _, .dic h l, n => by simp [ndD] at n
theorem AtL.less (ha : G a = some (.dK xs)) : ∀ {vs : List V} {ds : List PyData}, AtL K G vs ds → ndDs ds = true → AtL K (delG G a) vs ds
  | _, _, .nil, _ => .nil
  | _, _, .cons h l, n => by
    simp only [ndDs, Bool.and_eq_true] at n
    exact .cons (At.less ha h n.1) (AtL.less ha l n.2)
end
mutual
theorem SlAt.less (ha : G a = some (.dK xs)) : ∀ {v : V} {s : Sl}, SlAt K G v s → ndS s = true → SlAt K (delG G a) v s
  | _, _, .d h, n => .d (At.less ha h (by simpa [ndS] using n))
  | _, _, .c p, _ => .c p
  | _, _, .t m, _ => .t m
  | _, _, .u h l, n => .u (delG_keep ha h fun _ => nofun) (SlL.less ha l (by simpa [ndS] using n))
  | _, _, .s h, _ => .s (h.imp (fun z => delG_keep ha z fun _ => nofun) id)
theorem SlL.less (ha : G a = some (.dK xs)) : ∀ {vs : List V} {ss : List Sl}, SlL K G vs ss → ndSs ss = true → SlL K (delG G a) vs ss
  | _, _, .nil, _ => .nil
  | _, _, .cons h l, n => by
    simp only [ndSs, Bool.and_eq_true] at n
    exact .cons (SlAt.less ha h n.1) (SlL.less ha l n.2)
end
theorem KvAt.less (ha : G a = some (.dK xs)) : ∀ {vs : List (Key × V)} {ss : List (Key × Sl)}, KvAt K G vs ss → ndK ss = true → KvAt K (delG G a) vs ss
  | [], [], _, _ => trivial
  | _ :: _, _ :: _, ⟨e, h, l⟩, n => by
    simp only [ndK, Bool.and_eq_true] at n
    exact ⟨e, SlAt.less ha h n.1, KvAt.less ha l n.2⟩
  | [], _ :: _, h, _ => h.elim
  | _ :: _, [], h, _ => h.elim
theorem CellOk.less {H : Hp} {b : Addr} {c : Cell} (ha : G a = some (.dK xs)) (h : CellOk K G H b c) (n : ndC c = true) : CellOk K (delG G a) H b c := by
  cases c with
  | l ss => obtain ⟨ys, h1, h2⟩ := h; exact ⟨ys, h1, SlL.less ha h2 n⟩
  | k ss => obtain ⟨ys, h1, h2⟩ := h; exact ⟨ys, h1, KvAt.less ha h2 n⟩
theorem GoodM.less {L : Lk} {M : Cs} {H : Hp} {kvs : List (Key × Sl)} (g : GoodM K L M G H) (hL : NoDK L) (ha : G a = some (.dK xs)) (hk : KvAt K G xs kvs) (nM : ndM M) (nk : ndK kvs = true) : GoodM K L (updC M a (.k kvs)) (delG G a) H := by
  refine ⟨fun b o h => ?_, fun b c h => ?_, g.lk⟩
  · by_cases e : b = a
    · subst e
      rw [delG_same] at h
      cases h
    · rw [delG_ne e] at h
      exact g.vw b o h
  · by_cases e : b = a
    · subst e
      rw [updC_same] at h
      cases h
      exact ⟨delG_same, xs, lock_exact g hL ha, KvAt.less ha hk nk⟩
    · rw [updC_ne e] at h
      obtain ⟨h1, h2⟩ := g.cell b c h
      exact ⟨by rw [delG_ne e]; exact h1, CellOk.less ha h2 (nM b c h)⟩
end
/-- the arguments with one dict cell seen as data -/
def seeA (a : Addr) (d : PyData) : List Sl → List Sl := List.map fun s => match s with
  | .c b => if b = a then .d d else .c b
  | s => s
theorem SlL.see {K : PySem.W.Frag} {G : Hp} {a : Addr} {d : PyData} (h : At K G (.ref a) d) : ∀ {vs : List V} {ss : List Sl}, SlL K G vs ss → SlL K G vs (seeA a d ss)
  | _, _, .nil => .nil
  | _, _, .cons p l => by
    refine .cons ?_ (SlL.see h l)
    cases p with
    | c b =>
      show SlAt K G (.ref b) (if b = a then .d d else .c b)
      by_cases e : b = a
      · rw [if_pos e, e]; exact .d h
      · rw [if_neg e]; exact .c b
    | d x => exact .d x
    | t n => exact .t n
    | u x y => exact .u x y
    | s x => exact .s x
section
variable {X : Cx} {L : Lk} {τ : List (Option Sl)} {M : Cs} {Q : Sl → Cs → Prop} {e : Expr} {es : List Expr} {pos p : Pos}
/-- what is asked where a contract is used with the dict cell a seen as data -/
def View (L : Lk) (R : Rr) (a : Addr) (kd : List (Key × PyData)) (ss : List Sl) (M1 : Cs) (Q : Sl → Cs → Prop) : Prop :=
  NoDK L ∧ M1 a = some (.k (slK kd)) ∧ ndK (slK kd) = true ∧ R L (seeA a (.dict (encK kd)) ss) (delC M1 a) fun s M2 => M2 a = none → ∃ M3, Sub M3 M2 ∧ ndS s = true ∧ ndM M3 ∧ Q s (updC M3 a (.k (slK kd)))
theorem view_ret {K : PySem.W.Frag} {L : Lk} {R : Rr} {a : Addr} {kd : List (Key × PyData)} {ss : List Sl} {M1 : Cs} {Q : Sl → Cs → Prop} {G H : Hp} {vs : List V} {Q' : VK} (v : View L R a kd ss M1 Q) (g : GoodM K L M1 G H) (al : SlL K G vs ss) (k : Ret K L G Q Q') :
    ∃ (M G1 : _) (ss' : List Sl) (Q0 : Sl → Cs → Prop), GoodM K L M G1 H ∧ SlL K G1 vs ss' ∧ R L ss' M Q0 ∧ Ret K L G1 Q0 Q' := by
  obtain ⟨hL, ha, nk, r⟩ := v
  obtain ⟨f, xs, h1, h2⟩ := g.cell a _ ha
  have ex : Ex G (upd G a (.dK xs)) := Ex.new f
  have gm : GoodM K L (delC M1 a) (upd G a (.dK xs)) H := by
    refine ⟨fun b u e => ?_, fun b c e => ?_, g.lk⟩
    · by_cases hb : b = a
      · subst hb
        rw [upd_same] at e
        cases e
        exact .inl h1
      · rw [upd_ne hb] at e
        exact g.vw b u e
    · by_cases hb : b = a
      · subst hb
        rw [delC_same] at e
        cases e
      · rw [delC_ne hb] at e
        obtain ⟨z1, z2⟩ := g.cell b c e
        exact ⟨by rw [upd_ne hb]; exact z1, z2.mono ex fun o q => q⟩
  have ad : At K (upd G a (.dK xs)) (.ref a) (.dict (encK kd)) := .dic upd_same (AtK.mono ex (KvAt.at kd h2))
  refine ⟨_, _, _, _, gm, SlL.see ad (al.mono ex), r, ?_⟩
  intro s M2 v G2 H2 q0 e2 g2 a2
  have ha2 : G2 a = some (.dK xs) := e2 _ _ upd_same
  have no : M2 a = none := by
    cases z : M2 a with
    | none => rfl
    | some c =>
      have := (g2.cell a c z).1
      rw [ha2] at this
      cases this
  obtain ⟨M3, sb, ns, nm, q⟩ := q0 no
  refine k s _ v (delG G2 a) H2 q ?_ (GoodM.less (g2.sub sb) hL ha2 (KvAt.mono (ex.trans e2) h2) nm nk) (SlAt.less ha2 a2 ns)
  intro b o hb
  have hba : b ≠ a := by
    intro z
    subst z
    rw [f] at hb
    cases hb
  rw [delG_ne hba]
  exact e2 _ _ (ex _ _ hb)
theorem de_callV {R : Rr} {k : Nat} {ps : List Str} {x : Str} (a : Addr) (kd : List (Key × PyData)) (c : Cal X.prog X.w X.K X.mg X.base x k ps R) (hr : Room k X.A) (hg : Gl X x) (w : DA X L (e :: es) τ M fun ss M1 => View L R a kd ss M1 Q) (hdb : (x == ("__debug__" : Str)) = false := by decide)
    (he : starEach (e :: es) X.env = (false, eval e X.env) :: starEach es X.env := by rfl) (hpl : (backTo pos (starEach es X.env)).any (·.1) = false := by rfl) : DE X L (.Call (.Name x p) (e :: es) [] pos) τ M Q := by
  obtain ⟨f, fd, F, m, kp, b⟩ := c
  refine de_call (R := fun L ss M Q => View L R a kd ss M Q) ⟨fun vs H Q E h => ?_, fun B fr t H ar us vs Q E room e0 bd rel h => ?_⟩ hr hg m kp b w hdb he hpl
  · obtain ⟨L, M, G, ss, Q0, g, al, v, r⟩ := h
    obtain ⟨M1, G1, ss1, Q1, g1, a1, r1, q1⟩ := view_ret v g al r
    exact F.len vs H Q E ⟨L, M1, G1, ss1, Q1, g1, a1, r1, q1⟩
  · obtain ⟨L, M, G, ss, Q0, g, al, v, r⟩ := h
    obtain ⟨M1, G1, ss1, Q1, g1, a1, r1, q1⟩ := view_ret v g al r
    exact F.run B fr t H ar us vs Q E room e0 bd rel ⟨L, M1, G1, ss1, Q1, g1, a1, r1, q1⟩
theorem de_callVG {R : Rr} {k : Nat} {ps : List Str} {x : Str} (a : Addr) (kd : List (Key × PyData)) (c : CalG X.prog X.w X.K X.mg X.base x k ps R) (hr : Room k X.A) (noG : X.A.guards = some []) (hg : Gl X x) (w : DA X L (e :: es) τ M fun ss M1 => View L R a kd ss M1 Q) (hdb : (x == ("__debug__" : Str)) = false := by decide)
    (he : starEach (e :: es) X.env = (false, eval e X.env) :: starEach es X.env := by rfl) (hpl : (backTo pos (starEach es X.env)).any (·.1) = false := by rfl) : DE X L (.Call (.Name x p) (e :: es) [] pos) τ M Q := by
  obtain ⟨f, fd, F, m, kp, b⟩ := c
  refine de_callG (R := fun L ss M Q => View L R a kd ss M Q) ⟨f, fd, ⟨fun vs H Q E h => ?_, fun B fr t H ar us vs Q E room ng e0 bd rel h => ?_⟩, m, kp, b⟩ hr noG hg w hdb he hpl
  · obtain ⟨L, M, G, ss, Q0, g, al, v, r⟩ := h
    obtain ⟨M1, G1, ss1, Q1, g1, a1, r1, q1⟩ := view_ret v g al r
    exact F.cnt vs H Q E ⟨L, M1, G1, ss1, Q1, g1, a1, r1, q1⟩
  · obtain ⟨L, M, G, ss, Q0, g, al, v, r⟩ := h
    obtain ⟨M1, G1, ss1, Q1, g1, a1, r1, q1⟩ := view_ret v g al r
    exact F.go B fr t H ar us vs Q E room ng e0 bd rel ⟨L, M1, G1, ss1, Q1, g1, a1, r1, q1⟩
end
/-! which cells are kept -/
def keep (ps : List Addr) (M : Cs) : Cs := fun a => if a ∈ ps then M a else none
theorem keep_sub {ps : List Addr} {M : Cs} : Sub (keep ps M) M := fun a c h => by
  unfold keep at h
  split at h
  · exact h
  · cases h
theorem keep_in {ps : List Addr} {M : Cs} {a : Addr} (h : a ∈ ps) : keep ps M a = M a := by unfold keep; rw [if_pos h]
theorem keep_nd {ps : List Addr} {M : Cs} (h : ∀ a ∈ ps, ∃ c, M a = some c ∧ ndC c = true) : ndM (keep ps M) := fun a c e => by
  unfold keep at e
  split at e
  · next hm =>
    obtain ⟨c', h1, h2⟩ := h a hm
    rw [h1] at e
    cases e
    exact h2
  · cases e
section
variable {X : Cx} {L : Lk} {τ : List (Option Sl)} {M : Cs} {Q : Sl → Cs → Prop} {e1 e2 : Expr} {pos : Pos}
/-- {"x": i} -/
theorem de_dictSI {x : Str} {i : Int} {j1 j2} {p1 p2 : Pos} (q : ∀ p, M p = none → Q (.c p) (updC M p (.k (slK [(.inr x, .int i)])))) : DE X L (.Dict [some (.Constant (.str x) j1 p1)] [.Constant (.int i) j2 p2] pos) τ M Q :=
  de_of (pe_disp (pps_cons pe_str pe_int pps_nil) rfl rfl (by simp) (by simp)) fun σ G H Q' gs gm kk p hp => by
    refine ⟨upd_same, [(.inr x, .int i)], rfl, (by show 1 ≤ 15; decide), ?_⟩
    have e : upd (upd H p (.dK [])) p (.dK (mergeK [] [(.inr x, V.int i)])) = upd H p (.dK [(.inr x, V.int i)]) := by
      funext b
      by_cases hb : b = p
      · subst hb
        rw [upd_same, upd_same]
        rfl
      · rw [upd_ne hb, upd_ne hb, upd_ne hb]
    rw [e]
    have f := gm.free hp
    exact kk _ _ _ G _ (q p f.2) (Ex.refl G) (gm.newC hp ⟨[(.inr x, .int i)], upd_same, rfl, .d (.int i), trivial⟩) (.c p)
end
theorem ndDs_map {α : Type} (f : α → PyData) (h : ∀ x, ndD (f x) = true) : ∀ c : List α, ndDs (c.map f) = true
  | [] => by simp [ndDs]
  | x :: r => by rw [List.map_cons]; simp only [ndDs, h x, ndDs_map f h r, Bool.and_self]
theorem ndSs_map {α : Type} (f : α → Sl) (h : ∀ x, ndS (f x) = true) : ∀ c : List α, ndSs (c.map f) = true
  | [] => by simp [ndSs]
  | x :: r => by rw [List.map_cons]; simp only [ndSs, h x, ndSs_map f h r, Bool.and_self]
theorem nd_run (r : Run) : ndS (sRun r) = true := by simp [ndS, sRun, eRun, ndD, ndDs]
theorem nd_line (r : Line) : ndS (sLine r) = true := by simp [ndS, sLine, eLine, ndD, ndDs]
theorem nd_int (i : Int) : ndS (dI i) = true := by simp [ndS, dI, ndD]
theorem nd_str (x : Str) : ndS (dS x) = true := by simp [ndS, dS, ndD]
theorem nd_runs (c : List Run) : ndC (.l (c.map sRun)) = true := ndSs_map sRun nd_run c
theorem nd_ints (c : List Int) : ndC (.l (c.map dI)) = true := ndSs_map dI nd_int c
theorem nd_cnt : ∀ cs : Cnt, ndK (slK (kdC cs)) = true
  | [] => rfl
  | p :: r => by
    have ih := nd_cnt r
    unfold slK kdC at ih ⊢
    simp only [List.map_cons, ndK, ndS, ndD, ih, Bool.and_self]
end Y

namespace Y
open PySem L2 PyProof.Rows
/-! ### repr of data of any kind but texts; enumerate -/
def noTx : PyData → Bool
  | .str _ => false
  | _ => true
def rShowA (K : PySem.W.Frag) : List V → Hp → VK → Prop := fun xs H Q => ∃ (v : V) (d : PyData), xs = [v] ∧ DX K H v d ∧ noTx d = true ∧ d.showable = true ∧ d.depth ≤ 60 ∧ d.shown.length ≤ sizeLine ∧ Q (.str d.shown) H
theorem call_showA {X : Cx} (S : Sys X.base) (noG : X.A.guards = some []) (hu : X.A.units + 64 < cLine) : CallR X (.builtin "repr") (rShowA X.K) := by
  intro pins s σ H xs us Q I r h
  obtain ⟨v, d, rfl, hd, nt, sh, dp, sz, q⟩ := h
  obtain ⟨u, rfl, ru⟩ := vals1 r
  have box : ∀ a, v = .ref a → wpAny (model X.prog X.w) X.A (call (.builtin "repr") [u]) (EP X pins σ Q) X.xe s := by
    intro a e
    subst e
    cases ru
    obtain ⟨as, rd, nm⟩ := DX.reads I S hd (u := .ref a) rfl
    exact PySem.repr_of_reads' rd sh (fun _ => nm) noG (by omega) (fun _ _ z => z) (fun h' u tk hk => ⟨.str d.shown, H, I.kept (t' := tk) hk, ⟨u, rfl⟩, q⟩) sz
  cases hd with
  | non =>
    cases ru
    exact PySem.P.repr_of_none ⟨.str _, H, I.tok _, ⟨s.toks, by simp only [PyData.shown]⟩, q⟩
  | bl b =>
    cases ru
    exact PySem.P.repr_of_bool ⟨.str _, H, I.tok _, ⟨s.toks, by simp only [PyData.shown]⟩, q⟩
  | int i =>
    obtain ⟨t, rfl⟩ := ru
    have hz : i.natAbs.log2 < 1920 := by simpa [PyData.showable] using sh
    exact PySem.P.repr_of_int hz ⟨.str _, H, I.tok _, ⟨s.toks, by simp only [PyData.shown]⟩, q⟩
  | str x => cases nt
  | lst => exact box _ rfl
  | tup => exact box _ rfl
  | dic => exact box _ rfl
section
variable {X : Cx} {L : Lk} {τ : List (Option Sl)} {M : Cs} {Q : Sl → Cs → Prop} {e : Expr} {p pos : Pos} {QJ : QI}
theorem k_showA {s : Sl} {d : PyData} (h : IsX M s d) (nt : noTx d = true) (fit : fitX d = true) (wt : wtX d ≤ 20000) (dp : d.depth ≤ 60) (q : Q (.d (.str d.shown)) M) : RCk X.K L (rShowA X.K) [s] M Q := fun G H vs Q' g a k => by
  obtain ⟨v, rfl, a1⟩ := sl1 a
  have sz := shownX_le d fit
  have sl : (10 ^ 7 : Nat) ≤ sizeLine := by rw [sizeLine_eq]; decide
  exact ⟨v, d, rfl, IsX.dx g h a1, nt, showX d fit, dp, by omega, k.go q g (.d (.str _))⟩
/-- enumerate(xs), a list -/
theorem di_enum {elts : List Expr} {kk : Nat} {tpos : Pos} (hg : Gl X "enumerate") (hm : X.mg "enumerate" = none)
    (w : DE X L e τ M fun s M1 => ∃ xs, isTup s = false ∧ seqOf M1 s = some xs ∧ QJ xs.length (fun M' => seqOf M' s = some xs) (fun i y => ∃ a, xs[i]? = some a ∧ y = .u [dI (i : Nat), a]) M1)
    (hs : starEach [e] X.env = [(false, eval e X.env)] := by rfl) : DI X L (.Tuple elts kk tpos) (.Call (.Name "enumerate" p) [e] [] pos) τ M QJ := fun σ G H R gs gm k => by
  refine i_of (pi_enum hg hm (pa_cons pe_s pa_nil hs) hs) ?_
  show sE X e σ H (fun v H1 => ∃ a xs, [v] = [V.ref a] ∧ SqL X.K H1 a xs ∧ R (Ite X.K a) H1)
  refine w σ G H _ gs gm ?_
  rintro s M1 v G1 H1 ⟨us, hT, h1, q⟩ e1 g1 a1
  obtain ⟨pa, xs, rfl, ra, la⟩ := seq_at g1 a1 h1
  rw [hT, if_neg Bool.false_ne_true] at ra
  refine ⟨pa, xs, rfl, ra, k _ _ _ M1 G1 H1 _ q e1 g1 ⟨fun M' G' H' sM e' g' => ?_, fun i M' G' H' hi sM e' g' => ?_⟩⟩
  · obtain ⟨p1, xs1, ep, r1, l1⟩ := seq_at g' (a1.mono e') sM
    cases ep
    rw [hT, if_neg Bool.false_ne_true] at r1
    exact ⟨xs1, r1, Nat.le_of_eq l1.len⟩
  · obtain ⟨p1, xs1, ep, r1, l1⟩ := seq_at g' (a1.mono e') sM
    cases ep
    rw [hT, if_neg Bool.false_ne_true] at r1
    obtain ⟨v1, hv1, av1⟩ := l1.get (List.getElem?_eq_getElem hi)
    refine ⟨⟨xs1, v1, r1, hv1⟩, fun x H2 hy => ?_⟩
    obtain ⟨T, x1, rfl, nT, rfl, f1⟩ := hy
    have ex1 := Option.some.inj ((f1 _ r1).symm.trans hv1)
    subst ex1
    have fr := g'.free nT
    exact ⟨_, _, ⟨_, List.getElem?_eq_getElem hi, rfl⟩, Ex.new fr.1, g'.newD nT, .u upd_same (.cons (.d (.int _)) (.cons (av1.mono (Ex.new fr.1)) .nil))⟩
end
/-! ### a dict of counts that grows -/
def putC (cs : Cnt) (z : Str) (v : Int) : Cnt := if (cs.any fun p => decide (p.1 = z)) = true then cs.map (fun p => if p.1 = z then (p.1, v) else p) else cs ++ [(z, v)]
theorem putS_put (cs : Cnt) (z : Str) (v : Int) : putS (slK (kdC cs)) (.inr z) (dI v) = slK (kdC (putC cs z v)) := by
  have e : ((slK (kdC cs)).any fun kv => decide (kv.1 = Sum.inr z)) = cs.any fun p => decide (p.1 = z) := by
    unfold slK kdC
    rw [List.map_map, List.any_map]
    congr 1
    funext p
    show decide ((Sum.inr p.1 : Key) = Sum.inr z) = decide (p.1 = z)
    by_cases h : p.1 = z
    · rw [decide_eq_true h, decide_eq_true (by rw [h])]
    · rw [decide_eq_false h, decide_eq_false (fun q => h (Sum.inr.inj q))]
  unfold putS putC
  rw [e]
  split
  · unfold slK kdC
    rw [List.map_map, List.map_map, List.map_map, List.map_map]
    apply List.map_congr_left
    intro p _
    show (if (Sum.inr p.1 : Key) = .inr z then ((Sum.inr p.1 : Key), dI v) else (.inr p.1, .d (.int p.2))) = (Sum.inr (if p.1 = z then (p.1, v) else p).1, Sl.d (.int (if p.1 = z then (p.1, v) else p).2))
    by_cases e : p.1 = z
    · rw [if_pos (by rw [e]), if_pos e]
      rfl
    · rw [if_neg (fun q => e (Sum.inr.inj q)), if_neg e]
  · unfold slK kdC
    rw [List.map_append, List.map_append]
    rfl
theorem getC_cons (p : Str × Int) (cs : Cnt) (y : Str) : getC (p :: cs) y = if p.1 = y then some p.2 else getC cs y := by
  unfold getC
  rw [List.find?_cons]
  by_cases h : p.1 = y
  · rw [if_pos h, decide_eq_true h]
    rfl
  · rw [if_neg h, decide_eq_false h]
theorem getC_app (cs : Cnt) (z y : Str) (v : Int) : getC (cs ++ [(z, v)]) y = if (getC cs y).isSome = true then getC cs y else if z = y then some v else none := by
  induction cs with
  | nil => rw [List.nil_append, getC_cons]; rfl
  | cons p r ih =>
    rw [List.cons_append, getC_cons, getC_cons, ih]
    by_cases h : p.1 = y
    · rw [if_pos h, if_pos h]; rfl
    · rw [if_neg h, if_neg h]
theorem getC_map (cs : Cnt) (z y : Str) (v : Int) : getC (cs.map fun p => if p.1 = z then (p.1, v) else p) y = if y = z then (getC cs y).map fun _ => v else getC cs y := by
  induction cs with
  | nil => split <;> rfl
  | cons p r ih =>
    rw [List.map_cons, getC_cons, getC_cons, ih]
    by_cases hz : p.1 = z
    · rw [if_pos hz]
      by_cases h : p.1 = y
      · rw [if_pos h, if_pos (by rw [← h, hz]), if_pos h]
        rfl
      · rw [if_neg h, if_neg h]
    · rw [if_neg hz]
      by_cases h : p.1 = y
      · rw [if_pos h, if_neg (by rw [← h]; exact hz), if_pos h]
      · rw [if_neg h, if_neg h]
theorem any_getC (cs : Cnt) (z : Str) : (cs.any fun p => decide (p.1 = z)) = (getC cs z).isSome := by
  induction cs with
  | nil => rfl
  | cons p r ih =>
    rw [List.any_cons, getC_cons, ih]
    by_cases h : p.1 = z
    · rw [if_pos h, decide_eq_true h]; rfl
    · rw [if_neg h, decide_eq_false h]; rfl
theorem getC_put (cs : Cnt) (z y : Str) (v : Int) : getC (putC cs z v) y = if y = z then some v else getC cs y := by
  unfold putC
  rw [any_getC]
  by_cases h : (getC cs z).isSome = true
  · rw [if_pos h, getC_map]
    by_cases e : y = z
    · rw [if_pos e, if_pos e, e]
      obtain ⟨u, hu⟩ := Option.isSome_iff_exists.mp h
      rw [hu]
      rfl
    · rw [if_neg e, if_neg e]
  · rw [if_neg h, getC_app]
    by_cases e : y = z
    · rw [if_pos e, e, if_neg h, if_pos rfl]
    · rw [if_neg e]
      cases g : getC cs y with
      | some u => rfl
      | none => rw [if_neg (by simp), if_neg (fun q => e q.symm)]
theorem putC_len (cs : Cnt) (z : Str) (v : Int) : (putC cs z v).length ≤ cs.length + 1 := by
  unfold putC
  split
  · rw [List.length_map]; omega
  · rw [List.length_append]; exact Nat.le_refl _
end Y

namespace Y
open PySem L2 PyProof.Rows
/-! ### comprehensions over a dict's keys, the dict a name that holds data -/
section
variable {X : Cx} {L : Lk} {τ : List (Option Sl)} {M : Cs} {Q : Sl → Cs → Prop} {elt kx vx tg c : Expr} {scope : Scope} {own : List (Str × Nat)} {pos p0 : Pos} {g : TG} {i : Nat} {nm : Str} {kd : List (Key × PyData)}
/-- the walk over the keys of a locked dict, a dict being made -/
theorem dcK_run {σ : L2.St} {G HL : Hp} {Q2 : VK} {dd : Addr} {od : Obj} {xs : List (Key × V)} {vs : List Nat} (gs : GoodS X.K G σ τ) (gmL : GoodM X.K ((dd, od, .dK xs) :: L) M G HL) (hσ : σ[i]? = some (some (.ref dd))) (lx : KvAt X.K G xs (slK kd))
    (w : ∀ D, M D = none → ∃ Iv : Nat → Cs → Prop, Iv 0 (updC M D (.k [])) ∧ (∀ x, (∃ xs, x.2.2 = HO.dK xs) → ∀ n k d M', kd[n]? = some (k, d) → Iv n M' →
      WGw X.K (x :: L) vs g (.d (kD k)) (wipeK τ vs) M' fun τ2 M3 => DEb X scope (x :: L) kx τ2 M3 fun z M4 => DEb X scope (x :: L) vx τ2 M4 fun z2 M5 => ∃ kvs k, z = .d (kD k) ∧ M5 D = some (.k kvs) ∧ kvs.length < sizeLine ∧ Iv (n + 1) (updC M5 D (.k (putS kvs k z2)))) ∧
      (∀ M' G' H', Iv kd.length M' → Ex G G' → GoodM X.K ((dd, od, .dK xs) :: L) M' G' H' → Q2 (.ref D) H')) : tDc (iKeys (tVar i)) g tYes (bE X scope kx) (bE X scope vx) vs σ HL Q2 := by
        have hx0 : HL dd = some (.frz od (.dK xs)) := gmL.lk _ List.mem_cons_self
        refine ⟨.ref dd, hσ, dd, od, rfl, .inl ⟨xs, hx0, fun D hD => ?_⟩⟩
        obtain ⟨Iv, i0, turn, fin⟩ := w D (gmL.free hD).2
        have hl : xs.length = kd.length := by rw [lx.len]; simp [slK]
        refine ⟨fun n m H' => m = kd.length - n ∧ n ≤ kd.length ∧ ∃ M' G', Iv n M' ∧ Ex G G' ∧ GoodM X.K ((dd, od, .dK xs) :: L) M' G' H', ⟨kd.length, by simp, Nat.zero_le _, _, G, i0, Ex.refl _, gmL.newC hD ⟨[], upd_same, trivial⟩⟩, ?_⟩
        rintro n m H' ⟨rfl, hn, M', G', iv, e', g'⟩
        have hd' : H' dd = some (.frz od (.dK xs)) := g'.lk _ List.mem_cons_self
        by_cases hlt : n < kd.length
        · refine .inr ⟨⟨hd', by rw [hl]; exact hlt⟩, fun H2 => ∃ M2 G2, Iv (n + 1) M2 ∧ Ex G G2 ∧ GoodM X.K ((dd, od, .dK xs) :: L) M2 G2 H2, fun H2 ⟨M2, G2, h⟩ => ⟨kd.length - (n + 1), by omega, rfl, hlt, M2, G2, h⟩, fun x H2 hy => ?_⟩
          obtain ⟨rfl, k1, v1, hx1, rfl⟩ := hy
          obtain ⟨u1, hu1, au1⟩ := (KvAt.mono e' lx).get (i := n) (k := (kd[n]).1) (s := .d (kd[n]).2) (by unfold slK; rw [List.getElem?_map, List.getElem?_eq_getElem hlt]; rfl)
          rw [hx1] at hu1
          have hu2 := Option.some.inj hu1
          have ek : k1 = (kd[n]).1 := (Prod.mk.inj hu2).1
          have ak : At X.K G' (kV k1) (kD (kd[n]).1) := by
            rw [← ek]
            cases k1 with
            | inl z => exact .int z
            | inr z => exact .str z
          refine turn (dd, od, .dK xs) ⟨xs, rfl⟩ n (kd[n]).1 (kd[n]).2 M' (List.getElem?_eq_getElem hlt) iv _ G' H2 _ _ ((gs.mono e').wipe vs) g' (.d ak) fun τ3 M3 σ3 G3 H3 q3 e3 g3 s3 z3 => ?_
          refine ⟨z3.trans wipe_wipe, ?_⟩
          unfold tYes
          dsimp only
          rw [if_pos rfl]
          have e13 := e'.trans e3
          refine web (X := X) (scope := scope) (e := kx) q3 σ3 G3 H3 _ s3 g3 fun z M5 v5 G5 H5 q5 e5 g5 a5 => ?_
          refine web (X := X) (scope := scope) (e := vx) q5 σ3 G5 H5 _ (s3.mono e5) g5 fun z2 M6 v2 G6 H6 ⟨kvs, key, hz, hk, hl6, iv6⟩ e6 g6 a6 => ?_
          obtain ⟨f6, ys, h1, h2⟩ := g6.cell D _ hk
          subst hz
          refine ⟨ys, key, key_at a5, h1, by rw [h2.len]; exact hl6, _, G6, iv6, (e13.trans e5).trans e6, ?_⟩
          exact g6.write hk h1 (fun _ _ z => nomatch z) ⟨_, upd_same, KvAt.put a6 h2⟩
        · have e : n = kd.length := by omega
          subst e
          exact .inl ⟨⟨hd', by rw [hl]; exact Nat.le_refl _⟩, fin M' G' H' iv e' g'⟩
/-- {kx: vx for tg in d} -/
theorem de_dcKeys (hc : X.calm = true) (hN : X.N.Nodup) (ok : BlkOk X.N X.env.scope scope own) (hg : ∀ (s : Shared) (H : Hp) (C : Addr) (cl : List (Str × Addr)) (fp : List Addr), PG (X.blk s H scope (compEnvC scope cl C X.env) fp) tg g)
    (hL : NoDK L) (hi : X.N[i]? = some nm) (hv : Vis X.env.scope nm) (ht : τ[i]? = some (some (.d (.dict (encK kd)))))
    (w : ∀ D, M D = none → ∃ Iv : Nat → Cs → Prop, Iv 0 (updC M D (.k [])) ∧ (∀ x, (∃ xs, x.2.2 = HO.dK xs) → ∀ n k d M', kd[n]? = some (k, d) → Iv n M' →
      WGw X.K (x :: L) (own.map (·.2)) g (.d (kD k)) (wipeK τ (own.map (·.2))) M' fun τ2 M3 => DEb X scope (x :: L) kx τ2 M3 fun z M4 => DEb X scope (x :: L) vx τ2 M4 fun z2 M5 => ∃ kvs k, z = .d (kD k) ∧ M5 D = some (.k kvs) ∧ kvs.length < sizeLine ∧ Iv (n + 1) (updC M5 D (.k (putS kvs k z2)))) ∧ (∀ M', Iv kd.length M' → Q (.c D) M'))
    (hd : (nm == ("__debug__" : Str)) = false := by decide) (hcd : (nm == ("__classdict__" : Str)) = false := by decide) (hs : ∀ x, foldedSetIterable (.Name nm p0) X.env x = pure x := by intro _; rfl) : DE X L (.DictComp kx vx [⟨tg, .Name nm p0, [], 0⟩] scope pos) τ M Q :=
  de_of (pe_lock (pe_dc (tk := bE X scope kx) (tv := bE X scope vx) (tt := tYes) hc hN (pi_keys (pe_var hi hv hd hcd)) ok hg (fun _ _ _ _ _ => pts_nil) (fun s H C cl fp => ⟨fun pins s' σ H' Q' I h => h s H C cl fp pins s' I⟩) (fun s H C cl fp => ⟨fun pins s' σ H' Q' I h => h s H C cl fp pins s' I⟩) hs)) fun σ G H Q' gs gm k => by
    obtain ⟨v, hσ, av⟩ := gs.get i _ ht
    cases av with
    | d av =>
      generalize hz : encK kd = zs at av
      cases av with
      | dic hG l =>
        rename_i dd xs
        subst hz
        have lx := AtK.kv kd l
        have hx := lock_exact gm hL hG
        have hne := lock_ne gm hL hG
        refine ⟨dd, .dK xs, hx, trivial, fun od => ?_⟩
        have gmL := gm.lock (od := od) hL hG
        refine dcK_run (kd := kd) gs gmL hσ lx fun D hD => ?_
        obtain ⟨Iv, i0, turn, fin⟩ := w D hD
        exact ⟨Iv, i0, turn, fun M' G' H' iv e' g' => ⟨g'.lk _ List.mem_cons_self, k _ M' _ G' _ (fin _ iv) e' (g'.unlock hne (e' _ _ hG)) (.c D)⟩⟩
/-- the same, a list being made -/
theorem lcK_run {σ : L2.St} {G HL : Hp} {Q2 : VK} {dd : Addr} {od : Obj} {xs : List (Key × V)} {vs : List Nat} (gs : GoodS X.K G σ τ) (gmL : GoodM X.K ((dd, od, .dK xs) :: L) M G HL) (hσ : σ[i]? = some (some (.ref dd))) (lx : KvAt X.K G xs (slK kd))
    (w : ∀ D, M D = none → ∃ Iv : Nat → Cs → Prop, Iv 0 (updC M D (.l [])) ∧ (∀ x, (∃ xs, x.2.2 = HO.dK xs) → ∀ n k d M', kd[n]? = some (k, d) → Iv n M' →
      WGw X.K (x :: L) vs g (.d (kD k)) (wipeK τ vs) M' fun τ2 M3 => DTb X scope (x :: L) c τ2 M3 fun b M4 => (b = true → DEb X scope (x :: L) elt τ2 M4 fun z M5 => ∃ acc, M5 D = some (.l acc) ∧ acc.length < sizeLine ∧ Iv (n + 1) (updC M5 D (.l (acc ++ [z])))) ∧ (b = false → Iv (n + 1) M4)) ∧
      (∀ M' G' H', Iv kd.length M' → Ex G G' → GoodM X.K ((dd, od, .dK xs) :: L) M' G' H' → Q2 (.ref D) H')) : tLc (iKeys (tVar i)) g (bT X scope c) (bE X scope elt) vs σ HL Q2 := by
        have hx0 : HL dd = some (.frz od (.dK xs)) := gmL.lk _ List.mem_cons_self
        refine ⟨.ref dd, hσ, dd, od, rfl, .inl ⟨xs, hx0, fun D hD => ?_⟩⟩
        obtain ⟨Iv, i0, turn, fin⟩ := w D (gmL.free hD).2
        have hl : xs.length = kd.length := by rw [lx.len]; simp [slK]
        refine ⟨fun n m H' => m = kd.length - n ∧ n ≤ kd.length ∧ ∃ M' G', Iv n M' ∧ Ex G G' ∧ GoodM X.K ((dd, od, .dK xs) :: L) M' G' H', ⟨kd.length, by simp, Nat.zero_le _, _, G, i0, Ex.refl _, gmL.newC hD ⟨[], upd_same, .nil⟩⟩, ?_⟩
        rintro n m H' ⟨rfl, hn, M', G', iv, e', g'⟩
        have hd' : H' dd = some (.frz od (.dK xs)) := g'.lk _ List.mem_cons_self
        by_cases hlt : n < kd.length
        · refine .inr ⟨⟨hd', by rw [hl]; exact hlt⟩, fun H2 => ∃ M2 G2, Iv (n + 1) M2 ∧ Ex G G2 ∧ GoodM X.K ((dd, od, .dK xs) :: L) M2 G2 H2, fun H2 ⟨M2, G2, h⟩ => ⟨kd.length - (n + 1), by omega, rfl, hlt, M2, G2, h⟩, fun x H2 hy => ?_⟩
          obtain ⟨rfl, k1, v1, hx1, rfl⟩ := hy
          obtain ⟨u1, hu1, au1⟩ := (KvAt.mono e' lx).get (i := n) (k := (kd[n]).1) (s := .d (kd[n]).2) (by unfold slK; rw [List.getElem?_map, List.getElem?_eq_getElem hlt]; rfl)
          rw [hx1] at hu1
          have hu2 := Option.some.inj hu1
          have ek : k1 = (kd[n]).1 := (Prod.mk.inj hu2).1
          have ak : At X.K G' (kV k1) (kD (kd[n]).1) := by
            rw [← ek]
            cases k1 with
            | inl z => exact .int z
            | inr z => exact .str z
          refine turn (dd, od, .dK xs) ⟨xs, rfl⟩ n (kd[n]).1 (kd[n]).2 M' (List.getElem?_eq_getElem hlt) iv _ G' H2 _ _ ((gs.mono e').wipe vs) g' (.d ak) fun τ3 M3 σ3 G3 H3 q3 e3 g3 s3 z3 => ?_
          refine ⟨z3.trans wipe_wipe, ?_⟩
          have e13 := e'.trans e3
          refine wtb (X := X) (scope := scope) (e := c) q3 σ3 G3 H3 _ s3 g3 fun b M4 G4 H4 q4 e4 g4 => ?_
          cases b with
          | true =>
            rw [if_pos rfl]
            refine web (X := X) (scope := scope) (e := elt) (q4.1 rfl) σ3 G4 H4 _ (s3.mono e4) g4 fun z M5 v5 G5 H5 ⟨acc, hacc, hl5, iv5⟩ e5 g5 a5 => ?_
            obtain ⟨f5, ys, h1, h2⟩ := g5.cell D _ hacc
            refine ⟨ys, h1, by rw [h2.len]; exact hl5, _, G5, iv5, (e13.trans e4).trans e5, ?_⟩
            exact g5.write hacc h1 (fun _ _ z => nomatch z) ⟨_, upd_same, h2.append (.cons a5 .nil)⟩
          | false =>
            rw [if_neg Bool.false_ne_true]
            exact ⟨M4, G4, q4.2 rfl, e13.trans e4, g4⟩
        · have e : n = kd.length := by omega
          subst e
          exact .inl ⟨⟨hd', by rw [hl]; exact Nat.le_refl _⟩, fin M' G' H' iv e' g'⟩
/-- [elt for tg in d if c] -/
theorem de_lcKeys (hc : X.calm = true) (hN : X.N.Nodup) (ok : BlkOk X.N X.env.scope scope own) (hg : ∀ (s : Shared) (H : Hp) (C : Addr) (cl : List (Str × Addr)) (fp : List Addr), PG (X.blk s H scope (compEnvC scope cl C X.env) fp) tg g)
    (hL : NoDK L) (hi : X.N[i]? = some nm) (hv : Vis X.env.scope nm) (ht : τ[i]? = some (some (.d (.dict (encK kd)))))
    (w : ∀ D, M D = none → ∃ Iv : Nat → Cs → Prop, Iv 0 (updC M D (.l [])) ∧ (∀ x, (∃ xs, x.2.2 = HO.dK xs) → ∀ n k d M', kd[n]? = some (k, d) → Iv n M' →
      WGw X.K (x :: L) (own.map (·.2)) g (.d (kD k)) (wipeK τ (own.map (·.2))) M' fun τ2 M3 => DTb X scope (x :: L) c τ2 M3 fun b M4 => (b = true → DEb X scope (x :: L) elt τ2 M4 fun z M5 => ∃ acc, M5 D = some (.l acc) ∧ acc.length < sizeLine ∧ Iv (n + 1) (updC M5 D (.l (acc ++ [z])))) ∧ (b = false → Iv (n + 1) M4)) ∧ (∀ M', Iv kd.length M' → Q (.c D) M'))
    (hd : (nm == ("__debug__" : Str)) = false := by decide) (hcd : (nm == ("__classdict__" : Str)) = false := by decide) (hs : ∀ x, foldedSetIterable (.Name nm p0) X.env x = pure x := by intro _; rfl) : DE X L (.ListComp elt [⟨tg, .Name nm p0, [c], 0⟩] scope pos) τ M Q :=
  de_of (pe_lock (pe_lc (te := bE X scope elt) (tt := bT X scope c) hc hN (pi_keys (pe_var hi hv hd hcd)) ok hg (fun s H C cl fp => pts_one ⟨fun pins s' σ H' Q' I h => h s H C cl fp pins s' I⟩) (fun s H C cl fp => ⟨fun pins s' σ H' Q' I h => h s H C cl fp pins s' I⟩) hs)) fun σ G H Q' gs gm k => by
    obtain ⟨v, hσ, av⟩ := gs.get i _ ht
    cases av with
    | d av =>
      generalize hz : encK kd = zs at av
      cases av with
      | dic hG l =>
        rename_i dd xs
        subst hz
        have lx := AtK.kv kd l
        have hx := lock_exact gm hL hG
        have hne := lock_ne gm hL hG
        refine ⟨dd, .dK xs, hx, trivial, fun od => ?_⟩
        have gmL := gm.lock (od := od) hL hG
        refine lcK_run (kd := kd) gs gmL hσ lx fun D hD => ?_
        obtain ⟨Iv, i0, turn, fin⟩ := w D hD
        exact ⟨Iv, i0, turn, fun M' G' H' iv e' g' => ⟨g'.lk _ List.mem_cons_self, k _ M' _ G' _ (fin _ iv) e' (g'.unlock hne (e' _ _ hG)) (.c D)⟩⟩
/-- y = {kx: vx for ..}, the comprehension the statement's whole value -/
theorem ps_setDcY {j : Nat} {y : Str} {py spos : Pos} {iter : Expr} {ti : TI} {tt : TT} {tk tv : TE} {gs : List Expr} (calm : X.calm = true) (nd : X.N.Nodup) (at1 : X.N[j]? = some y) (at2 : X.env.scope.names.lookup y = some .local)
    (sw : swapsWith (.DictComp kx vx [⟨tg, iter, gs, 0⟩] scope pos) (some (.Name y py)) spos.line X.env = pure true) (wi : PI X tg iter ti) (ok : BlkOk X.N X.env.scope scope own)
    (wg : ∀ (s : Shared) (H : Hp) (C : Addr) (cl : List (Str × Addr)) (fp : List Addr), PG (X.blk s H scope (compEnvC scope cl C X.env) fp) tg g) (wt : ∀ (s : Shared) (H : Hp) (C : Addr) (cl : List (Str × Addr)) (fp : List Addr), PTs (X.blk s H scope (compEnvC scope cl C X.env) fp) gs tt)
    (wk : ∀ (s : Shared) (H : Hp) (C : Addr) (cl : List (Str × Addr)) (fp : List Addr), PE (X.blk s H scope (compEnvC scope cl C X.env) fp) kx tk) (wv : ∀ (s : Shared) (H : Hp) (C : Addr) (cl : List (Str × Addr)) (fp : List Addr), PE (X.blk s H scope (compEnvC scope cl C X.env) fp) vx tv)
    (fs : ∀ x, foldedSetIterable iter X.env x = pure x := by intro _; rfl) : PS X (.Assign [.Name y py] (.DictComp kx vx [⟨tg, iter, gs, 0⟩] scope pos) spos) (tAsg (tDc ti g tt tk tv (own.map (·.2))) (gName j)) := by
  refine ⟨fun pins s σ H D I q0 => ?_⟩
  rw [exec_Assign_Name_used _ _ _ _ sw]
  refine wpAny_bind (wpAny_standAt (wpAny_bind ?_))
  show wpAny _ X.A (do let _ ← comprehension (.DictComp kx vx [⟨tg, iter, gs, 0⟩] scope pos) scope X.env (firstIterPos [⟨tg, iter, gs, 0⟩] pos) newDict false (eval iter X.env) (some (assign (.Name y py) X.env))) _ _ s
  have q1 : tDc ti g tt tk tv (own.map (·.2)) σ H (fun x H1 => gName j x σ H1 D.nx) := q0
  refine wpAny_bind (thn (dc_core (Qf := fun _ s2 => SP X pins D .next s2) calm nd I wi ok wg wt wk wv fs q1 fun Ld Cc s2 m H2 J qq nn ff => ?_) fun _ s2 z => wpAny_pure (wpAny_pure z))
  show wpAny _ _ (assign (.Name y py) X.env (.ref Ld)) _ _ _
  refine wpAny_assign_Name (store_ok2 (v := V.ref Ld) J nd at1 (.inl at2) rfl (fun s3 I3 ⟨b, sb, hb⟩ => ?_) (.inr at2))
  obtain ⟨f0, f1, f2, f3, f4, f5⟩ := ff
  have ne : Cc ≠ b := by
    rcases hb with z | z
    · rw [z]; exact f1
    · intro e; exact f4 y b z e.symm
  exact ⟨m, nn.sameBut sb ne, fun h3 s4 => ⟨_, H2, I3.turned (t' := s3.toks) (fun b o hb e => (s4.2 b hb).trans e) f0 f1 f3 f4 f5, qq⟩⟩
theorem ds_setDcKeys {j : Nat} {y : Str} {py spos : Pos} {E : Ks} (hc : X.calm = true) (hN : X.N.Nodup) (hy : X.N[j]? = some y) (hyl : X.env.scope.names.lookup y = some .local)
    (hsw : swapsWith (.DictComp kx vx [⟨tg, .Name nm p0, [], 0⟩] scope pos) (some (.Name y py)) spos.line X.env = pure true) (ok : BlkOk X.N X.env.scope scope own) (hg : ∀ (s : Shared) (H : Hp) (C : Addr) (cl : List (Str × Addr)) (fp : List Addr), PG (X.blk s H scope (compEnvC scope cl C X.env) fp) tg g)
    (hL : NoDK L) (hi : X.N[i]? = some nm) (hv : Vis X.env.scope nm) (ht : τ[i]? = some (some (.d (.dict (encK kd)))))
    (w : ∀ D, M D = none → ∃ Iv : Nat → Cs → Prop, Iv 0 (updC M D (.k [])) ∧ (∀ x, (∃ xs, x.2.2 = HO.dK xs) → ∀ n k d M', kd[n]? = some (k, d) → Iv n M' →
      WGw X.K (x :: L) (own.map (·.2)) g (.d (kD k)) (wipeK τ (own.map (·.2))) M' fun τ2 M3 => DEb X scope (x :: L) kx τ2 M3 fun z M4 => DEb X scope (x :: L) vx τ2 M4 fun z2 M5 => ∃ kvs k, z = .d (kD k) ∧ M5 D = some (.k kvs) ∧ kvs.length < sizeLine ∧ Iv (n + 1) (updC M5 D (.k (putS kvs k z2)))) ∧ (∀ M', Iv kd.length M' → E.nx (τ.set j (some (.c D))) M'))
    (hd : (nm == ("__debug__" : Str)) = false := by decide) (hcd : (nm == ("__classdict__" : Str)) = false := by decide) (hs : ∀ x, foldedSetIterable (.Name nm p0) X.env x = pure x := by intro _; rfl) : DS X L (.Assign [.Name y py] (.DictComp kx vx [⟨tg, .Name nm p0, [], 0⟩] scope pos) spos) τ M E :=
  ds_of (ps_lock (ps_setDcY (tk := bE X scope kx) (tv := bE X scope vx) (tt := tYes) hc hN hy hyl hsw (pi_keys (pe_var hi hv hd hcd)) ok hg (fun _ _ _ _ _ => pts_nil) (fun s H C cl fp => ⟨fun pins s' σ H' Q' I h => h s H C cl fp pins s' I⟩) (fun s H C cl fp => ⟨fun pins s' σ H' Q' I h => h s H C cl fp pins s' I⟩) hs)) fun σ G H D0 gs gm k => by
    obtain ⟨v, hσ, av⟩ := gs.get i _ ht
    cases av with
    | d av =>
      generalize hz : encK kd = zs at av
      cases av with
      | dic hG l =>
        rename_i dd xs
        subst hz
        have lx := AtK.kv kd l
        have hx := lock_exact gm hL hG
        have hne := lock_ne gm hL hG
        refine ⟨dd, .dK xs, hx, trivial, fun od => ?_⟩
        have gmL := gm.lock (od := od) hL hG
        refine dcK_run (kd := kd) gs gmL hσ lx fun D hD => ?_
        obtain ⟨Iv, i0, turn, fin⟩ := w D hD
        exact ⟨Iv, i0, turn, fun M' G' H' iv e' g' => ⟨g'.lk _ List.mem_cons_self, k.nx _ M' _ G' _ (fin _ iv) e' (g'.unlock hne (e' _ _ hG)) ((gs.mono e').set (.c D) j)⟩⟩
end
section
variable {X : Cx} {L : Lk} {M : Cs} {Q : Sl → Cs → Prop}
theorem k_max2 {i j : Int} (q : Q (.d (.int (if j > i then j else i))) M) : RCk X.K L (fun xs H Q => ∃ i j, xs = [.int i, .int j] ∧ Q (.int (if j > i then j else i)) H) [.d (.int i), .d (.int j)] M Q := fun G H vs Q' g a k => by
  obtain ⟨v, u, rfl, a1, a2⟩ := sl2 a
  rw [sl_int a1, sl_int a2]
  exact ⟨i, j, rfl, k.go q g (.d (.int _))⟩
end
end Y

namespace Y
open PySem L2 PyProof.Rows
theorem SlL.dropL {K : PySem.W.Frag} {G : Hp} : ∀ {vs : List V} {ss : List Sl}, SlL K G vs ss → SlL K G vs.dropLast ss.dropLast
  | _, _, .nil => .nil
  | _, _, .cons _ .nil => .nil
  | _, _, .cons a (.cons b c) => .cons a (SlL.dropL (.cons b c))
section
variable {X : Cx} {L : Lk} {τ : List (Option Sl)} {M : Cs} {Q : Sl → Cs → Prop} {o : Expr} {apos cpos pos : Pos} {E : Ks}
/-- xs.pop() as a statement -/
theorem ds_pop (w : DE X L o τ M fun x M1 => ∃ a ss, x = .c a ∧ M1 a = some (.l ss) ∧ ss ≠ [] ∧ E.nx τ (updC M1 a (.l ss.dropLast))) (hbase : attributeBase o "pop" X.env (eval o X.env) = eval o X.env := by rfl) (hline : (apos.endLine == cpos.line) = true := by rfl)
    (hsw : swapsWith (.Call (.Attribute o "pop" apos) [] [] cpos) none pos.line X.env = pure false := by rfl) : DS X L (.Expr (.Call (.Attribute o "pop" apos) [] [] cpos) pos) τ M E :=
  ds_expr (de_of (pe_bm0 PySem.F.plainAttrs_list PySem.F.slot_list_pop PySem.F.type_list_pop mt_pop pe_s hbase hline) fun σ G H Q' gs gm k => w σ G H _ gs gm fun x M1 v G1 H1 ⟨a, ss, hx, ha, hne, q⟩ e1 g1 a1 => by
    subst hx
    obtain ⟨_, xs, h1, h2⟩ := g1.cell a _ ha
    have ev := sl_c a1
    subst ev
    obtain ⟨z, hz⟩ : ∃ z, ss[ss.length - 1]? = some z := ⟨_, List.getElem?_eq_getElem (by have := List.length_pos_iff.mpr hne; omega)⟩
    obtain ⟨r, hr, ar⟩ := h2.get hz
    exact ⟨.inl ⟨rfl, xs, .inl (.inl h1)⟩, a, xs, r, rfl, rfl, h1, by rw [h2.len]; exact hr, k z _ _ G1 _ q e1 (g1.write ha h1 (fun _ _ z => (nomatch z)) ⟨_, upd_same, h2.dropL⟩) ar⟩) hsw
end
section
variable {X : Cx} {L : Lk} {τ : List (Option Sl)} {M : Cs} {Q : Sl → Cs → Prop} {e1 e2 : Expr} {pos : Pos}
/-- {"x": i, "y": j} -/
theorem de_dictSI2 {x y : Str} {i j : Int} {j1 j2 j3 j4} {p1 p2 p3 p4 : Pos} (ne : x ≠ y) (q : ∀ p, M p = none → Q (.c p) (updC M p (.k (slK [(.inr x, .int i), (.inr y, .int j)])))) : DE X L (.Dict [some (.Constant (.str x) j1 p1), some (.Constant (.str y) j3 p3)] [.Constant (.int i) j2 p2, .Constant (.int j) j4 p4] pos) τ M Q :=
  de_of (pe_disp (pps_cons pe_str pe_int (pps_cons pe_str pe_int pps_nil)) rfl rfl (by simp) (by simp)) fun σ G H Q' gs gm kk p hp => by
    refine ⟨upd_same, [(.inr x, .int i), (.inr y, .int j)], rfl, (by show 2 ≤ 15; decide), ?_⟩
    have e : upd (upd H p (.dK [])) p (.dK (mergeK [] [(.inr x, V.int i), (.inr y, V.int j)])) = upd H p (.dK [(.inr x, V.int i), (.inr y, V.int j)]) := by
      funext b
      by_cases hb : b = p
      · subst hb
        rw [upd_same, upd_same]
        have : ¬ (Sum.inr x : Key) = Sum.inr y := fun z => ne (Sum.inr.inj z)
        simp [mergeK, putK, this]
      · rw [upd_ne hb, upd_ne hb, upd_ne hb]
    rw [e]
    have f := gm.free hp
    exact kk _ _ _ G _ (q p f.2) (Ex.refl G) (gm.newC hp ⟨[(.inr x, .int i), (.inr y, .int j)], upd_same, rfl, .d (.int i), rfl, .d (.int j), trivial⟩) (.c p)
end
end Y

namespace Y
open PySem L2 PyProof.Rows
section
variable {X : Cx} {o : Expr} {p pos apos mpos : Pos} {td : TE}
/-- sum(o.values()), a dict with int values -/
def tSumV (td : TE) : TE := fun σ H Q => td σ H fun x H1 => ∃ (a : Addr) (kvs : List (Key × V)) (is : List Int), x = V.ref a ∧ Rd H1 a (.dK kvs) ∧ kvs.map (·.2) = is.map V.int ∧ Q (.int is.sum) H1
theorem preSum_getD : ∀ is : List Int, preSum (fun i => is.getD i 0) is.length = is.sum := by
  have key : ∀ (f : Nat → Int) (n : Nat), preSum f (n + 1) = f 0 + preSum (fun i => f (i + 1)) n := fun f n => by
    induction n with
    | zero => simp [preSum]
    | succ n ih =>
      show preSum f (n + 1) + f (n + 1) = f 0 + (preSum (fun i => f (i + 1)) n + f (n + 1))
      rw [ih, Int.add_assoc]
  intro is
  induction is with
  | nil => rfl
  | cons x r ih =>
    show preSum _ (r.length + 1) = _
    rw [key, List.sum_cons, ← ih]
    rfl
/-- the place where the view of the values is laid -/
def vw (a : Addr) : Obj := { cls := .type "dict_values", data := .fields #[.ref a] }
theorem vw_keep {h : Heap} {a b : Addr} {u : Obj} (e : h.get? b = some u) : (h.push (vw a)).get? b = some u := Heap.get?_push_of_some _ e
theorem vw_size (h : Heap) (a : Addr) : (h.push (vw a)).objs.size = h.objs.size + 1 := Heap.size_push _ _
theorem len_vals {kvs : List (Key × V)} {us : List (Key × Value)} {is : List Int} (r : KV kvs us) (hv : kvs.map (·.2) = is.map V.int) : us.length = is.length := by
  rw [← KV.length r, ← List.length_map (f := fun kv : Key × V => kv.2), hv, List.length_map]
theorem int_vals {kvs : List (Key × V)} {us : List (Key × Value)} {is : List Int} (r : KV kvs us) (hv : kvs.map (·.2) = is.map V.int) (i : Nat) (v : Value) (h : ∃ k, us[i]? = some (k, v)) : ∃ t, v = Value.int (is.getD i 0) t := by
  obtain ⟨k, hk⟩ := h
  obtain ⟨y, hy, ry⟩ := KV.at' r hk
  have m1 : (is.map V.int)[i]? = some y := by
    rw [← hv, List.getElem?_map, hy]
    rfl
  rw [List.getElem?_map] at m1
  obtain ⟨n, hn, rfl⟩ := Option.map_eq_some_iff.mp m1
  obtain ⟨t, rfl⟩ := ry
  exact ⟨t, by rw [List.getD_eq_getElem?_getD, hn]; rfl⟩
theorem pe_sumV (hc : X.calm = true) (hg : Gl X "sum") (hm : X.mg "sum" = none) (hd : PE X o td)
    (hb : attributeBase o "values" X.env (eval o X.env) = eval o X.env := by rfl) (hl : (apos.endLine == mpos.line) = true := by rfl)
    (hs : starEach [Expr.Call (.Attribute o "values" apos) [] [] mpos] X.env = [(false, eval (Expr.Call (.Attribute o "values" apos) [] [] mpos) X.env)] := by rfl) : PE X (.Call (.Name "sum" p) [.Call (.Attribute o "values" apos) [] [] mpos] [] pos) (tSumV td) := .mk fun pins z σ H Q I h => by
  have fits := fun (v : Value) (z1 : Shared) (w1 : ∃ x H1, Inv X pins σ H1 z1 ∧ RelV x v ∧ ∃ (a : Addr) (kvs : List (Key × V)) (is : List Int), x = V.ref a ∧ Rd H1 a (.dK kvs) ∧ kvs.map (·.2) = is.map V.int ∧ Q (.int is.sum) H1) => w1
  refine wpAny_Call_Name_kw (ld_blt I hg hm (u := .builtin "sum") (by decide +kernel) ?_ (by decide) (by decide))
  rw [hs]
  refine PySem.callWith_builtin1 (wpAny_Call_method0_late hb hl (thn (hd.run pins z σ H _ I h) fun v z1 y => ?_))
  obtain ⟨x, H1, I1, rx, a, kvs, is, hx, hr, hi, q⟩ := fits v z1 y
  rw [hx] at rx
  rw [show v = Value.ref a from rx]
  obtain ⟨_, ns, us, ru, dof⟩ := dk_rd I1.hok hr
  obtain ⟨ep, da⟩ := dof.dictAt
  have da2 := da
  obtain ⟨ob, _, ho, oc, _⟩ := da2
  have below : a < z1.heap.objs.size := Heap.lt_size ho
  have da3 : (z1.heap.push (vw a)).DictAt (mixKind X.prog X.w) a us ep := da.keep fun _ _ => vw_keep
  refine ⟨"dict", "dict.values", F.plainAttrs_dict, F.slot_dict_values, F.type_dict_values, ⟨ob, ho, oc.1⟩, fun b e => ⟨ob, by cases e; exact ho, oc.2.1⟩, Calls.callWith_builtin rfl (PySem.evalArgs_none ?_)⟩
  refine call_meetsIn F.slot_dict_values ⟨ob, ho, oc.1⟩ F.entry_dict_values (F.args_dict_values_1 _) (meets_dict_values (mixKind X.prog X.w) a ns) ⟨⟨us, dof⟩, ?_⟩
  refine call_sum_walkAnyS (wpAny_pyIter_values (v := z1.heap.objs.size) (d := a) ⟨_, Heap.get?_push_size _ rfl, rfl, rfl⟩ da3 ?_)
  have apart : a ≠ (z1.heap.push (vw a)).objs.size := by
    rw [vw_size]
    exact Nat.ne_of_lt (Nat.lt_succ_of_lt below)
  have W := Walks.dictValues (knd := mixKind X.prog X.w) (A := X.A.in1) (I.ok.hd hc) (z1.heap.push (vw a)).objs.size a apart us ep
  refine ⟨_, _, _, _, _, _, _, fun i => is.getD i 0, rfl, W.toS, ⟨⟨_, Heap.get?_push_size _ rfl, rfl, rfl⟩, da3.keep fun _ _ => Heap.get?_push_of_some _⟩, fun b hb => ?_, int_vals ru hi, fun z2 t mv => ?_⟩
  · have top : ∀ u : Obj, ((z1.heap.push (vw a)).push u).objs.size = z1.heap.objs.size + 2 := fun u => by rw [Heap.size_push, vw_size]
    refine Nat.lt_of_lt_of_eq ?_ (top _).symm
    rcases List.mem_cons.mp hb with e | hb
    · rw [e, vw_size]
      exact Nat.lt_succ_self _
    · rw [List.mem_singleton.mp hb]
      exact Nat.lt_succ_of_lt (Nat.lt_succ_of_lt below)
  · rw [Moved.eq_with mv, len_vals ru hi, preSum_getD]
    refine ⟨.int _, H1, I1.kept fun b u e => mv.heap b u (fun m => ?_) (Heap.get?_push_of_some _ (vw_keep e)), ⟨t, rfl⟩, q⟩
    have lo := Heap.lt_size e
    rw [List.mem_singleton.mp m, vw_size] at lo
    exact Nat.not_succ_le_self _ (Nat.le_of_succ_le lo)
end
theorem KvAt.ints {K : PySem.W.Frag} {G : Hp} : ∀ {xs : List (Key × V)} {kvs : List (Key × Sl)} {is : List Int}, KvAt K G xs kvs → kvs.map (·.2) = is.map dI → xs.map (·.2) = is.map V.int
  | [], [], is, _, h => by
    cases is with
    | nil => rfl
    | cons _ _ => cases h
  | (k, v) :: ps, (k2, s) :: qs, is, h, e => by
    obtain ⟨_, a, t⟩ := h
    cases is with
    | nil => cases e
    | cons i is =>
      have e1 : s = dI i := (List.cons.inj e).1
      subst e1
      show v :: ps.map (·.2) = V.int i :: is.map V.int
      rw [show v = V.int i from sl_int (show SlAt K G v (dI i) from a), KvAt.ints t (List.cons.inj e).2]
section
variable {X : Cx} {L : Lk} {τ : List (Option Sl)} {M : Cs} {Q : Sl → Cs → Prop} {o : Expr} {p pos apos mpos : Pos}
/-- sum(d.values()) -/
theorem de_sumV (hc : X.calm = true) (hg : Gl X "sum") (hm : X.mg "sum" = none) (w : DE X L o τ M fun s M1 => ∃ (kvs : List (Key × Sl)) (is : List Int), DictIs M1 s kvs ∧ kvs.map (·.2) = is.map dI ∧ Q (dI is.sum) M1) (hbase : attributeBase o "values" X.env (eval o X.env) = eval o X.env := by rfl) (hline : (apos.endLine == mpos.line) = true := by rfl)
    (hse : starEach [Expr.Call (.Attribute o "values" apos) [] [] mpos] X.env = [(false, eval (Expr.Call (.Attribute o "values" apos) [] [] mpos) X.env)] := by rfl) : DE X L (.Call (.Name "sum" p) [.Call (.Attribute o "values" apos) [] [] mpos] [] pos) τ M Q :=
  de_of (pe_sumV hc hg hm pe_s hbase hline hse) fun σ G H Q' gs gm k => w σ G H _ gs gm fun s M1 v G1 H1 ⟨kvs, is, hd, hi, q⟩ e1 g1 a1 => by
    obtain ⟨a, xs, rfl, r, l⟩ := dict_at g1 a1 hd
    exact ⟨a, xs, is, rfl, r, KvAt.ints l hi, (k.mono e1).go q g1 (.d (.int _))⟩
end
end Y

namespace Y
open PySem L2 PyProof.Rows
section
variable {X : Cx} {L : Lk} {τ : List (Option Sl)} {M : Cs} {Q : Sl → Cs → Prop} {a b e o : Expr} {p2 pos apos cpos mpos : Pos} {E : Ks}
/-- a sign of a text -/
theorem de_ixS (w : DE X L a τ M fun x M1 => DE X L b τ M1 fun y M2 => ∃ (z : Str) (i : Int) (c : Nat), x = dS z ∧ y = dI i ∧ z.length ≤ sizeLine ∧ atI z.cps.toList i = some c ∧ Q (dS ⟨#[c]⟩) M2) (hs : PlainIx b := by exact fun _ _ => rfl) : DE X L (.Subscript a b pos) τ M Q :=
  de_of (pe_ix ix_str pe_s pe_s hs) fun σ G H Q' gs gm k => w σ G H _ gs gm fun x M1 v G1 H1 q e1 g1 a1 => q σ G1 H1 _ (gs.mono e1) g1 fun y M2 u G2 H2 ⟨z, i, c, ex, ey, hl, ha, q2⟩ e2 g2 a2 => by
    subst ex ey
    exact ⟨z, i, c, sl_str (a1.mono e2), sl_int a2, hl, ha, (k.mono (e1.trans e2)).go q2 g2 (.d (.str _))⟩
/-- texts joined by + -/
theorem de_addS (w : DE X L a τ M fun x M1 => DE X L b τ M1 fun y M2 => ∃ i j : Str, x = dS i ∧ y = dS j ∧ i.length + j.length ≤ sizeLine ∧ Q (dS (i ++ j)) M2) : DE X L (.BinOp a .Add b pos) τ M Q :=
  de_op op_add_str (de_imp w fun x M1 q => de_imp q fun y M2 ⟨i, j, e1, e2, hl, q2⟩ => fun G H v u Q' g a1 a2 k => by
    subst e1 e2
    exact ⟨i, j, sl_str a1, sl_str a2, hl, k.go q2 g (.d (.str _))⟩)
/-- xs.pop() as a value -/
theorem de_popV (w : DE X L o τ M fun x M1 => ∃ a ss z, x = .c a ∧ M1 a = some (.l ss) ∧ ss[ss.length - 1]? = some z ∧ Q z (updC M1 a (.l ss.dropLast))) (hbase : attributeBase o "pop" X.env (eval o X.env) = eval o X.env := by rfl) (hline : (apos.endLine == cpos.line) = true := by rfl) :
    DE X L (.Call (.Attribute o "pop" apos) [] [] cpos) τ M Q :=
  de_of (pe_bm0 PySem.F.plainAttrs_list PySem.F.slot_list_pop PySem.F.type_list_pop mt_pop pe_s hbase hline) fun σ G H Q' gs gm k => w σ G H _ gs gm fun x M1 v G1 H1 ⟨a, ss, z, hx, ha, hz, q⟩ e1 g1 a1 => by
    subst hx
    obtain ⟨_, xs, h1, h2⟩ := g1.cell a _ ha
    have ev := sl_c a1
    subst ev
    obtain ⟨r, hr, ar⟩ := h2.get hz
    exact ⟨.inl ⟨rfl, xs, .inl (.inl h1)⟩, a, xs, r, rfl, rfl, h1, by rw [h2.len]; exact hr, k z _ _ G1 _ q e1 (g1.write ha h1 (fun _ _ z => (nomatch z)) ⟨_, upd_same, h2.dropL⟩) ar⟩
/-- xs.extend(ys), both lists of one's own -/
theorem k_extend {a b : Addr} {ss ts : List Sl} (h : M a = some (.l ss)) (h' : M b = some (.l ts)) (hl : ss.length + ts.length ≤ sizeLine) (q : Q (.d .none) (updC M a (.l (ss ++ ts)))) : RMk X.K L rExtend (.c a) [.c b] M Q := fun G H v vs Q' g a1 a2 k => by
  obtain ⟨u, rfl, au⟩ := sl1 a2
  obtain ⟨_, xs, h1, h2⟩ := g.cell a _ h
  obtain ⟨_, zs, h3, h4⟩ := g.cell b _ h'
  exact ⟨a, b, xs, zs, sl_c a1, by rw [sl_c au], h1, h3, by rw [h2.len, h4.len]; exact hl, k _ _ _ G _ q (Ex.refl G) (g.write h h1 (fun _ _ z => nomatch z) ⟨_, upd_same, h2.append h4⟩) (.d .non)⟩
theorem ds_extend (w : DE X L o τ M fun x M1 => (isTup x = false ∧ ∃ ss, seqOf M1 x = some ss) ∧ DE X L e τ M1 fun z M2 => ∃ a b ss ts, x = .c a ∧ z = .c b ∧ M2 a = some (.l ss) ∧ M2 b = some (.l ts) ∧ ss.length + ts.length ≤ sizeLine ∧ E.nx τ (updC M2 a (.l (ss ++ ts)))) (hbase : attributeBase o "extend" X.env (eval o X.env) = eval o X.env := by rfl)
    (hfew : ((backTo cpos (starEach (e :: []) X.env)).all (fun x => !x.1) && (backToKw cpos (keywordEach [] X.env)).all (fun x => x.1.isSome)
      && decide ((e :: []).length + ([] : List Keyword).length + (if ([] : List Keyword).isEmpty then 0 else 1) < 30)) = true := by rfl)
    (hline : (apos.endLine == cpos.line) = true := by rfl) (hs : starEach (e :: []) X.env = (false, eval e X.env) :: starEach [] X.env := by rfl) (hplain : (backTo cpos (starEach [] X.env)).any (·.1) = false := by rfl) (hsw : swapsWith (.Call (.Attribute o "extend" apos) [e] [] cpos) none pos.line X.env = pure false := by rfl) :
    DS X L (.Expr (.Call (.Attribute o "extend" apos) [e] [] cpos) pos) τ M E :=
  ds_expr (de_mL PySem.F.slot_list_extend PySem.F.type_list_extend (fun pins s σ H x vs v us Q I rx rv h => mt_extend pins s σ H x vs v us Q I rx rv h) (de_imp w fun x M1 ⟨h, q⟩ => ⟨h, da_cons (de_imp q fun z M2 ⟨a, b, ss, ts, hx, hz, ha, hb, hl, q2⟩ => da_nil (by subst hx hz; exact k_extend ha hb hl q2)) hs⟩) hbase hfew hline hs hplain) hsw
end
section
variable {X : Cx} {L : Lk} {M : Cs} {Q : Sl → Cs → Prop} {s : Sl}
/-- max(xs), min(xs), sorted(xs) of whole numbers -/
theorem k_maxL {ns : List Int} (hT : isTup s = false) (h : seqOf M s = some (ns.map dI)) (h0 : 0 < ns.length) (q : ∀ m, m ∈ ns → (∀ y, y ∈ ns → y ≤ m) → Q (dI m) M) : RCk X.K L (rMax X.K) [s] M Q := fun G H vs Q' g a k => by
  obtain ⟨v, rfl, a1⟩ := sl1 a
  obtain ⟨p, xs, rfl, r, l⟩ := seq_at g a1 h
  rw [hT, if_neg Bool.false_ne_true] at r
  rw [ints_at l] at r
  exact ⟨p, ns, rfl, r, h0, fun m hm hy => k.go (q m hm hy) g (.d (.int _))⟩
theorem k_minL {ns : List Int} (hT : isTup s = false) (h : seqOf M s = some (ns.map dI)) (h0 : 0 < ns.length) (q : ∀ m, m ∈ ns → (∀ y, y ∈ ns → m ≤ y) → Q (dI m) M) : RCk X.K L (rMin X.K) [s] M Q := fun G H vs Q' g a k => by
  obtain ⟨v, rfl, a1⟩ := sl1 a
  obtain ⟨p, xs, rfl, r, l⟩ := seq_at g a1 h
  rw [hT, if_neg Bool.false_ne_true] at r
  rw [ints_at l] at r
  exact ⟨p, ns, rfl, r, h0, fun m hm hy => k.go (q m hm hy) g (.d (.int _))⟩
end
end Y

namespace Y
open PySem L2 PyProof.Rows
section
variable {X : Cx} {L : Lk} {M : Cs} {Q : Sl → Cs → Prop} {s : Sl}
theorem k_sortedI {ns : List Int} (hT : isTup s = false) (h : seqOf M s = some (ns.map dI)) (h0 : ns.length < 64) (q : ∀ (ns' : List Int) (p : Addr), ns'.Perm ns → ns'.Pairwise (· ≤ ·) → M p = none → Q (.c p) (updC M p (.l (ns'.map dI)))) : RCk X.K L (rSorted X.K) [s] M Q := fun G H vs Q' g a k => by
  obtain ⟨v, rfl, a1⟩ := sl1 a
  obtain ⟨p, xs, rfl, r, l⟩ := seq_at g a1 h
  rw [hT, if_neg Bool.false_ne_true] at r
  rw [ints_at l] at r
  exact ⟨p, ns, rfl, r, h0, fun ns' c hp hs hc => k _ _ _ G _ (q ns' c hp hs (g.free hc).2) (Ex.refl G) (g.newC hc ⟨_, upd_same, ints_sl _⟩) (.c c)⟩
/-- i not in a list of whole numbers -/
theorem k_niL {i : Int} {t : Sl} {ns : List Int} (h : seqOf M t = some (ns.map dI)) (q : Q (.d (.bool (!decide (i ∈ ns)))) M) : R2k X.K L (rIn X.K true) (dI i) t M Q := fun G H v u Q' g a1 a2 k => by
  obtain ⟨p, xs, rfl, r, l⟩ := seq_at' g a2 h
  rw [ints_at l] at r
  rw [sl_int a1]
  refine ⟨p, ns.map V.int, rfl, r, rfl, ?_, ?_⟩
  · rw [List.all_map]
    exact List.all_eq_true.mpr fun _ _ => rfl
  · have e : inV (V.int i) (ns.map V.int) = decide (i ∈ ns) := by
      unfold inV
      rw [List.any_map]
      by_cases hi : i ∈ ns
      · rw [decide_eq_true hi]
        exact List.any_eq_true.mpr ⟨i, hi, by simp [eqV]⟩
      · rw [decide_eq_false hi]
        refine List.any_eq_false.mpr fun j hj => ?_
        have : j ≠ i := fun e => hi (e ▸ hj)
        simp [eqV, this]
    rw [e, if_pos rfl]
    exact k.go q g (.d (.bl _))
end
/-! ### list(d.values()) -/
section
variable {X : Cx} {o : Expr} {p pos apos mpos : Pos} {td : TE}
def tListV (td : TE) : TE := fun σ H Q => td σ H fun x H1 => ∃ (a : Addr) (kvs : List (Key × V)) (is : List Int), x = V.ref a ∧ Rd H1 a (.dK kvs) ∧ kvs.map (·.2) = is.map V.int ∧ ∀ p, H1 p = none → Q (.ref p) (upd H1 p (.lst (is.map V.int)))
theorem pe_listV (hc : X.calm = true) (hg : Gl X "list") (hm : X.mg "list" = none) (hv : bootBuiltins "list" = some (.type "list")) (hd : PE X o td)
    (hb : attributeBase o "values" X.env (eval o X.env) = eval o X.env := by rfl) (hl : (apos.endLine == mpos.line) = true := by rfl)
    (hs : starEach [Expr.Call (.Attribute o "values" apos) [] [] mpos] X.env = (false, eval (Expr.Call (.Attribute o "values" apos) [] [] mpos) X.env) :: starEach [] X.env := by rfl) : PE X (.Call (.Name "list" p) [.Call (.Attribute o "values" apos) [] [] mpos] [] pos) (tListV td) := by
  refine ⟨fun pins s σ H Q I hq => ?_⟩
  refine wpAny_Call_Name_kw (ld_blt I hg hm hv ?_)
  refine PyProof.Rows.callWith_type1 ?_ hs rfl
  rw [hs]
  show wpAny _ _ (spliced ((false, eval (.Call (.Attribute o "values" apos) [] [] mpos) X.env) :: backTo pos (starEach [] X.env))) _ _ s
  refine Calls.spliced_cons ?_
  refine wpAny_Call_method (T := "dict") (id := "dict.values") hb rfl hl F.plainAttrs_dict F.slot_dict_values F.type_dict_values (thn (hd.run pins s σ H _ I hq) fun u s1 ⟨x, H1, I1, rx, a, kvs, is, ex, hr, hi, q⟩ => ?_)
  subst ex
  obtain rfl : u = Value.ref a := rx
  obtain ⟨hz, hs0, vs, kv, hdo⟩ := dk_rd I1.hok hr
  obtain ⟨ep, hat⟩ := hdo.dictAt
  have lk : kvs.length = vs.length := KV.length kv
  refine ⟨hdo.typeIs, hdo.mapOf.noDict, ?_⟩
  show wpAny _ _ (callWith mpos (.builtin "dict.values") [.ref a] [] []) _ X.xe s1
  refine method_meetsIn F.slot_dict_values F.entry_dict_values rfl (PySem.evalArgs_none ⟨rfl, hdo.typeIs, F.args_dict_values_1 _, _, meets_dict_values (mixKind X.prog X.w) a hs0, ⟨vs, hdo⟩, ?_⟩)
  refine Calls.spliced_nil ?_
  have I2 : Inv X pins σ H1 { s1 with heap := s1.heap.push (vw a) } := I1.kept (t' := s1.toks) fun b ob q => Heap.get?_push_of_some _ q
  have lo := hdo.dictAt
  refine PySem.W.kdl_call (PySem.W.kdl_values (knd := mixKind X.prog X.w) (kvs := vs) (ep := ep)) (I1.ok.hd hc) ⟨⟨_, Heap.get?_push_size _ rfl, rfl, rfl⟩, hat.keep fun _ _ => vw_keep⟩ (by omega) fun h' tk acc c hk hS hacc => ?_
  refine ⟨.ref _, upd H1 (s1.heap.push (vw a)).objs.size (.lst (is.map V.int)), I2.laid (t' := tk) hk (Nat.le_refl _) (show ObjOk X.prog X.w _ _ _ (.lst (is.map V.int)) from ⟨?_, acc.toList, c, ?_, ?_⟩), rfl, q _ (I2.hok.fresh (Nat.le_refl _))⟩
  · rw [List.length_map, ← len_vals kv hi, ← lk]
    exact hz
  · have el : acc.toList.length = acc.size := by simp
    refine vals_of_at (by rw [List.length_map, el, hacc.1, len_vals kv hi]) fun j x w h1 h2 => ?_
    obtain ⟨t, et⟩ := int_vals kv hi j w (hacc.2 j w (by rw [← Array.getElem?_toList]; exact h2))
    rw [List.getElem?_map] at h1
    obtain ⟨n, hn, rfl⟩ := Option.map_eq_some_iff.mp h1
    rw [et, List.getD_eq_getElem?_getD, hn]
    exact ⟨t, rfl⟩
  · rw [Array.toArray_toList]
    exact hS
end
section
variable {X : Cx} {L : Lk} {τ : List (Option Sl)} {M : Cs} {Q : Sl → Cs → Prop} {o : Expr} {p pos apos mpos : Pos}
theorem de_listV (hc : X.calm = true) (hg : Gl X "list") (hm : X.mg "list" = none) (w : DE X L o τ M fun s M1 => ∃ (kvs : List (Key × Sl)) (is : List Int), DictIs M1 s kvs ∧ kvs.map (·.2) = is.map dI ∧ ∀ p, M1 p = none → Q (.c p) (updC M1 p (.l (is.map dI)))) (hv : bootBuiltins "list" = some (.type "list") := by decide +kernel) (hbase : attributeBase o "values" X.env (eval o X.env) = eval o X.env := by rfl) (hline : (apos.endLine == mpos.line) = true := by rfl)
    (hse : starEach [Expr.Call (.Attribute o "values" apos) [] [] mpos] X.env = (false, eval (Expr.Call (.Attribute o "values" apos) [] [] mpos) X.env) :: starEach [] X.env := by rfl) : DE X L (.Call (.Name "list" p) [.Call (.Attribute o "values" apos) [] [] mpos] [] pos) τ M Q :=
  de_of (pe_listV hc hg hm hv pe_s hbase hline hse) fun σ G H Q' gs gm k => w σ G H _ gs gm fun s M1 v G1 H1 ⟨kvs, is, hd, hi, q⟩ e1 g1 a1 => by
    obtain ⟨a, xs, rfl, r, l⟩ := dict_at g1 a1 hd
    exact ⟨a, xs, is, rfl, r, KvAt.ints l hi, fun c hc => k _ _ _ G1 _ (q c (g1.free hc).2) e1 (g1.newC hc ⟨_, upd_same, ints_sl _⟩) (.c c)⟩
end
end Y

namespace Y
open PySem L2 PyProof.Rows
section
variable {X : Cx} {L : Lk} {τ : List (Option Sl)} {M : Cs} {Q : Sl → Cs → Prop} {e a b c o tg iter : Expr} {es : List Expr} {pos apos cpos pos' p0 : Pos} {E : Ks} {st : Stmt} {sts body : List Stmt} {nm : Str} {i : Nat}
/-- for k in d, d a name that holds data -/
theorem ds_forKeys {kd : List (Key × PyData)} (hp : PassesOwn (model X.prog X.w) X.A X.env X.xe) (hc : X.calm = true) (hL : NoDK L) (hN : X.N[i]? = some nm) (hv : Vis X.env.scope nm) (ht : τ[i]? = some (some (.d (.dict (encK kd)))))
    (Iv : Nat → List (Option Sl) → Cs → Prop) (i0 : Iv 0 τ M)
    (turn : ∀ x, (∃ xs, x.2.2 = HO.dK xs) → ∀ n k d τ' M', kd[n]? = some (k, d) → Iv n τ' M' → DG X (x :: L) tg (.d (kD k)) τ' M' fun τ2 M2 => DB X (x :: L) body τ2 M2 { E with nx := Iv (n + 1), ct := Iv (n + 1), bk := E.nx })
    (fin : ∀ τ' M', Iv kd.length τ' M' → E.nx τ' M')
    (hd : (nm == ("__debug__" : Str)) = false := by decide) (hcd : (nm == ("__classdict__" : Str)) = false := by decide)
    (hs : ∀ x, foldedSetIterable (.Name nm p0) X.env x = pure x := by intro _; rfl) : DS X L (.For tg (.Name nm p0) body [] pos) τ M E :=
  ds_of (ps_lock (ps_for hp hc (pi_keys (pe_var hN hv hd hcd)) pg_s pss_s hs)) fun σ G H D gs gm k => by
    obtain ⟨v, hσ, av⟩ := gs.get i _ ht
    cases av with
    | d av =>
      generalize hz : encK kd = zs at av
      cases av with
      | dic hG l =>
        rename_i dd xs
        subst hz
        have lx := AtK.kv kd l
        have hx := lock_exact gm hL hG
        have hne := lock_ne gm hL hG
        refine ⟨dd, .dK xs, hx, trivial, fun od => ?_⟩
        have gmL := gm.lock (od := od) hL hG
        have kL : EndsOk X.K ((dd, od, .dK xs) :: L) G E ⟨fun σ' H' => H' dd = some (.frz od (.dK xs)) ∧ D.nx σ' (upd H' dd (.dK xs)), fun v H' => H' dd = some (.frz od (.dK xs)) ∧ D.rt v (upd H' dd (.dK xs)), fun σ' H' => H' dd = some (.frz od (.dK xs)) ∧ D.bk σ' (upd H' dd (.dK xs)), fun σ' H' => H' dd = some (.frz od (.dK xs)) ∧ D.ct σ' (upd H' dd (.dK xs))⟩ :=
          ⟨fun τ' M' σ' G' H' q e g s => ⟨g.lk _ List.mem_cons_self, k.nx _ _ _ G' _ q e (g.unlock hne (e _ _ hG)) s⟩, fun s M' v G' H' q e g a => ⟨g.lk _ List.mem_cons_self, k.rt _ _ _ G' _ q e (g.unlock hne (e _ _ hG)) a⟩,
            fun τ' M' σ' G' H' q e g s => ⟨g.lk _ List.mem_cons_self, k.bk _ _ _ G' _ q e (g.unlock hne (e _ _ hG)) s⟩, fun τ' M' σ' G' H' q e g s => ⟨g.lk _ List.mem_cons_self, k.ct _ _ _ G' _ q e (g.unlock hne (e _ _ hG)) s⟩⟩
        refine ⟨.ref dd, hσ, dd, od, rfl, .inl ⟨xs, upd_same, ?_⟩⟩
        refine ⟨fun n m σ' H' => m = kd.length - n ∧ n ≤ kd.length ∧ ∃ τ' M' G', Iv n τ' M' ∧ Ex G G' ∧ GoodS X.K G' σ' τ' ∧ GoodM X.K ((dd, od, .dK xs) :: L) M' G' H', ⟨kd.length, by simp, Nat.zero_le _, τ, M, G, i0, Ex.refl _, gs, gmL⟩, ?_⟩
        rintro n m σ' H' ⟨rfl, hn, τ', M', G', iv, e', s', g'⟩
        have hl : xs.length = kd.length := by rw [lx.len]; simp [slK]
        have hd' : H' dd = some (.frz od (.dK xs)) := g'.lk _ List.mem_cons_self
        by_cases hlt : n < kd.length
        · refine .inr ⟨⟨hd', by rw [hl]; exact hlt⟩, fun σ2 H2 => ∃ τ2 M2 G2, Iv (n + 1) τ2 M2 ∧ Ex G G2 ∧ GoodS X.K G2 σ2 τ2 ∧ GoodM X.K ((dd, od, .dK xs) :: L) M2 G2 H2, fun σ2 H2 ⟨τ2, M2, G2, h⟩ => ⟨kd.length - (n + 1), by omega, rfl, hlt, τ2, M2, G2, h⟩, fun x H2 hy => ?_⟩
          obtain ⟨rfl, k1, v1, hx1, rfl⟩ := hy
          obtain ⟨u1, hu1, au1⟩ := (KvAt.mono e' lx).get (i := n) (k := (kd[n]).1) (s := .d (kd[n]).2) (by unfold slK; rw [List.getElem?_map, List.getElem?_eq_getElem hlt]; rfl)
          rw [hx1] at hu1
          have hu2 := Option.some.inj hu1
          have ek : k1 = (kd[n]).1 := (Prod.mk.inj hu2).1
          have ak : At X.K G' (kV k1) (kD (kd[n]).1) := by
            rw [← ek]
            cases k1 with
            | inl z => exact .int z
            | inr z => exact .str z
          refine turn (dd, od, .dK xs) ⟨xs, rfl⟩ n (kd[n]).1 (kd[n]).2 τ' M' (List.getElem?_eq_getElem hlt) iv σ' _ _ _ _ s' g' (.d ak) fun τ3 M3 σ3 G3 H3 q3 e3 g3 s3 => ?_
          have e13 := e'.trans e3
          exact q3 σ3 G3 H3 _ s3 g3 ⟨fun τ4 M4 σ4 G4 H4 q4 e4 g4 s4 => ⟨τ4, M4, G4, q4, e13.trans e4, s4, g4⟩, kL.rt.mono e13, kL.nx.mono e13, fun τ4 M4 σ4 G4 H4 q4 e4 g4 s4 => ⟨τ4, M4, G4, q4, e13.trans e4, s4, g4⟩⟩
        · have e : n = kd.length := by omega
          subst e
          exact .inl ⟨⟨hd', by rw [hl]; exact Nat.le_refl _⟩, kL.nx τ' M' σ' G' H' (fin _ _ iv) e' g' s'⟩
end
/-! comprehensions over a dict's values -/
section
variable {X : Cx} {L : Lk} {τ : List (Option Sl)} {M : Cs} {Q : Sl → Cs → Prop} {elt kx vx tg c : Expr} {scope : Scope} {own : List (Str × Nat)} {pos p0 apos mpos : Pos} {g : TG} {i : Nat} {nm : Str} {kd : List (Key × PyData)}
theorem lcV_run {σ : L2.St} {G HL : Hp} {Q2 : VK} {dd : Addr} {od : Obj} {xs : List (Key × V)} {vs : List Nat} (gs : GoodS X.K G σ τ) (gmL : GoodM X.K ((dd, od, .dK xs) :: L) M G HL) (hσ : σ[i]? = some (some (.ref dd))) (lx : KvAt X.K G xs (slK kd))
    (w : ∀ D, M D = none → ∃ Iv : Nat → Cs → Prop, Iv 0 (updC M D (.l [])) ∧ (∀ x, (∃ xs, x.2.2 = HO.dK xs) → ∀ n k d M', kd[n]? = some (k, d) → Iv n M' →
      WGw X.K (x :: L) vs g (.d d) (wipeK τ vs) M' fun τ2 M3 => DTb X scope (x :: L) c τ2 M3 fun b M4 => (b = true → DEb X scope (x :: L) elt τ2 M4 fun z M5 => ∃ acc, M5 D = some (.l acc) ∧ acc.length < sizeLine ∧ Iv (n + 1) (updC M5 D (.l (acc ++ [z])))) ∧ (b = false → Iv (n + 1) M4)) ∧
      (∀ M' G' H', Iv kd.length M' → Ex G G' → GoodM X.K ((dd, od, .dK xs) :: L) M' G' H' → Q2 (.ref D) H')) : tLc (iVals (tVar i)) g (bT X scope c) (bE X scope elt) vs σ HL Q2 := by
        have hx0 : HL dd = some (.frz od (.dK xs)) := gmL.lk _ List.mem_cons_self
        refine ⟨.ref dd, hσ, dd, od, xs, rfl, hx0, fun D hD => ?_⟩
        obtain ⟨Iv, i0, turn, fin⟩ := w D (gmL.free hD).2
        have hl : xs.length = kd.length := by rw [lx.len]; simp [slK]
        refine ⟨fun n m H' => m = kd.length - n ∧ n ≤ kd.length ∧ ∃ M' G', Iv n M' ∧ Ex G G' ∧ GoodM X.K ((dd, od, .dK xs) :: L) M' G' H', ⟨kd.length, by simp, Nat.zero_le _, _, G, i0, Ex.refl _, gmL.newC hD ⟨[], upd_same, .nil⟩⟩, ?_⟩
        rintro n m H' ⟨rfl, hn, M', G', iv, e', g'⟩
        have hd' : H' dd = some (.frz od (.dK xs)) := g'.lk _ List.mem_cons_self
        by_cases hlt : n < kd.length
        · refine .inr ⟨⟨hd', by rw [hl]; exact hlt⟩, fun H2 => ∃ M2 G2, Iv (n + 1) M2 ∧ Ex G G2 ∧ GoodM X.K ((dd, od, .dK xs) :: L) M2 G2 H2, fun H2 ⟨M2, G2, h⟩ => ⟨kd.length - (n + 1), by omega, rfl, hlt, M2, G2, h⟩, fun x H2 hy => ?_⟩
          obtain ⟨rfl, k1, hx1⟩ := hy
          obtain ⟨u1, hu1, au1⟩ := (KvAt.mono e' lx).get (i := n) (k := (kd[n]).1) (s := .d (kd[n]).2) (by unfold slK; rw [List.getElem?_map, List.getElem?_eq_getElem hlt]; rfl)
          rw [hx1] at hu1
          have hu2 := Option.some.inj hu1
          have ev : x = u1 := (Prod.mk.inj hu2).2
          subst ev
          refine turn (dd, od, .dK xs) ⟨xs, rfl⟩ n (kd[n]).1 (kd[n]).2 M' (List.getElem?_eq_getElem hlt) iv _ G' H2 _ _ ((gs.mono e').wipe vs) g' au1 fun τ3 M3 σ3 G3 H3 q3 e3 g3 s3 z3 => ?_
          refine ⟨z3.trans wipe_wipe, ?_⟩
          have e13 := e'.trans e3
          refine wtb (X := X) (scope := scope) (e := c) q3 σ3 G3 H3 _ s3 g3 fun b M4 G4 H4 q4 e4 g4 => ?_
          cases b with
          | true =>
            rw [if_pos rfl]
            refine web (X := X) (scope := scope) (e := elt) (q4.1 rfl) σ3 G4 H4 _ (s3.mono e4) g4 fun z M5 v5 G5 H5 ⟨acc, hacc, hl5, iv5⟩ e5 g5 a5 => ?_
            obtain ⟨f5, ys, h1, h2⟩ := g5.cell D _ hacc
            refine ⟨ys, h1, by rw [h2.len]; exact hl5, _, G5, iv5, (e13.trans e4).trans e5, ?_⟩
            exact g5.write hacc h1 (fun _ _ z => nomatch z) ⟨_, upd_same, h2.append (.cons a5 .nil)⟩
          | false =>
            rw [if_neg Bool.false_ne_true]
            exact ⟨M4, G4, q4.2 rfl, e13.trans e4, g4⟩
        · have e : n = kd.length := by omega
          subst e
          exact .inl ⟨⟨hd', by rw [hl]; exact Nat.le_refl _⟩, fin M' G' H' iv e' g'⟩
/-- [elt for tg in d.values() if c] -/
theorem de_lcVals (hc : X.calm = true) (hN : X.N.Nodup) (ok : BlkOk X.N X.env.scope scope own) (hg : ∀ (s : Shared) (H : Hp) (C : Addr) (cl : List (Str × Addr)) (fp : List Addr), PG (X.blk s H scope (compEnvC scope cl C X.env) fp) tg g)
    (hL : NoDK L) (hi : X.N[i]? = some nm) (hv : Vis X.env.scope nm) (ht : τ[i]? = some (some (.d (.dict (encK kd)))))
    (w : ∀ D, M D = none → ∃ Iv : Nat → Cs → Prop, Iv 0 (updC M D (.l [])) ∧ (∀ x, (∃ xs, x.2.2 = HO.dK xs) → ∀ n k d M', kd[n]? = some (k, d) → Iv n M' →
      WGw X.K (x :: L) (own.map (·.2)) g (.d d) (wipeK τ (own.map (·.2))) M' fun τ2 M3 => DTb X scope (x :: L) c τ2 M3 fun b M4 => (b = true → DEb X scope (x :: L) elt τ2 M4 fun z M5 => ∃ acc, M5 D = some (.l acc) ∧ acc.length < sizeLine ∧ Iv (n + 1) (updC M5 D (.l (acc ++ [z])))) ∧ (b = false → Iv (n + 1) M4)) ∧ (∀ M', Iv kd.length M' → Q (.c D) M'))
    (hd : (nm == ("__debug__" : Str)) = false := by decide) (hcd : (nm == ("__classdict__" : Str)) = false := by decide)
    (hbase : attributeBase (.Name nm p0) "values" X.env (eval (.Name nm p0) X.env) = eval (.Name nm p0) X.env := by rfl) (hline : (apos.endLine == mpos.line) = true := by rfl)
    (hs : ∀ x, foldedSetIterable (.Call (.Attribute (.Name nm p0) "values" apos) [] [] mpos) X.env x = pure x := by intro _; rfl) : DE X L (.ListComp elt [⟨tg, .Call (.Attribute (.Name nm p0) "values" apos) [] [] mpos, [c], 0⟩] scope pos) τ M Q :=
  de_of (pe_lock (pe_lc (te := bE X scope elt) (tt := bT X scope c) hc hN (pi_values (pe_var hi hv hd hcd) hbase hline) ok hg (fun s H C cl fp => pts_one ⟨fun pins s' σ H' Q' I h => h s H C cl fp pins s' I⟩) (fun s H C cl fp => ⟨fun pins s' σ H' Q' I h => h s H C cl fp pins s' I⟩) hs)) fun σ G H Q' gs gm k => by
    obtain ⟨v, hσ, av⟩ := gs.get i _ ht
    cases av with
    | d av =>
      generalize hz : encK kd = zs at av
      cases av with
      | dic hG l =>
        rename_i dd xs
        subst hz
        have lx := AtK.kv kd l
        have hx := lock_exact gm hL hG
        have hne := lock_ne gm hL hG
        refine ⟨dd, .dK xs, hx, trivial, fun od => ?_⟩
        have gmL := gm.lock (od := od) hL hG
        refine lcV_run (kd := kd) gs gmL hσ lx fun D hD => ?_
        obtain ⟨Iv, i0, turn, fin⟩ := w D hD
        exact ⟨Iv, i0, turn, fun M' G' H' iv e' g' => ⟨g'.lk _ List.mem_cons_self, k _ M' _ G' _ (fin _ iv) e' (g'.unlock hne (e' _ _ hG)) (.c D)⟩⟩
/-- y = [elt for tg in d.values() if c] -/
theorem ds_setLcVals {j : Nat} {y : Str} {py spos : Pos} {E : Ks} (hc : X.calm = true) (hN : X.N.Nodup) (hy : X.N[j]? = some y) (hyl : X.env.scope.names.lookup y = some .local)
    (hsw : swapsWith (.ListComp elt [⟨tg, .Call (.Attribute (.Name nm p0) "values" apos) [] [] mpos, [c], 0⟩] scope pos) (some (.Name y py)) spos.line X.env = pure true) (ok : BlkOk X.N X.env.scope scope own) (hg : ∀ (s : Shared) (H : Hp) (C : Addr) (cl : List (Str × Addr)) (fp : List Addr), PG (X.blk s H scope (compEnvC scope cl C X.env) fp) tg g)
    (hL : NoDK L) (hi : X.N[i]? = some nm) (hv : Vis X.env.scope nm) (ht : τ[i]? = some (some (.d (.dict (encK kd)))))
    (w : ∀ D, M D = none → ∃ Iv : Nat → Cs → Prop, Iv 0 (updC M D (.l [])) ∧ (∀ x, (∃ xs, x.2.2 = HO.dK xs) → ∀ n k d M', kd[n]? = some (k, d) → Iv n M' →
      WGw X.K (x :: L) (own.map (·.2)) g (.d d) (wipeK τ (own.map (·.2))) M' fun τ2 M3 => DTb X scope (x :: L) c τ2 M3 fun b M4 => (b = true → DEb X scope (x :: L) elt τ2 M4 fun z M5 => ∃ acc, M5 D = some (.l acc) ∧ acc.length < sizeLine ∧ Iv (n + 1) (updC M5 D (.l (acc ++ [z])))) ∧ (b = false → Iv (n + 1) M4)) ∧ (∀ M', Iv kd.length M' → E.nx (τ.set j (some (.c D))) M'))
    (hd : (nm == ("__debug__" : Str)) = false := by decide) (hcd : (nm == ("__classdict__" : Str)) = false := by decide)
    (hbase : attributeBase (.Name nm p0) "values" X.env (eval (.Name nm p0) X.env) = eval (.Name nm p0) X.env := by rfl) (hline : (apos.endLine == mpos.line) = true := by rfl)
    (hs : ∀ x, foldedSetIterable (.Call (.Attribute (.Name nm p0) "values" apos) [] [] mpos) X.env x = pure x := by intro _; rfl) : DS X L (.Assign [.Name y py] (.ListComp elt [⟨tg, .Call (.Attribute (.Name nm p0) "values" apos) [] [] mpos, [c], 0⟩] scope pos) spos) τ M E :=
  ds_of (ps_lock (ps_setLc (te := bE X scope elt) (tt := bT X scope c) hc hN hy hyl hsw (pi_values (pe_var hi hv hd hcd) hbase hline) ok hg (fun s H C cl fp => pts_one ⟨fun pins s' σ H' Q' I h => h s H C cl fp pins s' I⟩) (fun s H C cl fp => ⟨fun pins s' σ H' Q' I h => h s H C cl fp pins s' I⟩) hs)) fun σ G H D0 gs gm k => by
    obtain ⟨v, hσ, av⟩ := gs.get i _ ht
    cases av with
    | d av =>
      generalize hz : encK kd = zs at av
      cases av with
      | dic hG l =>
        rename_i dd xs
        subst hz
        have lx := AtK.kv kd l
        have hx := lock_exact gm hL hG
        have hne := lock_ne gm hL hG
        refine ⟨dd, .dK xs, hx, trivial, fun od => ?_⟩
        have gmL := gm.lock (od := od) hL hG
        refine lcV_run (kd := kd) gs gmL hσ lx fun D hD => ?_
        obtain ⟨Iv, i0, turn, fin⟩ := w D hD
        exact ⟨Iv, i0, turn, fun M' G' H' iv e' g' => ⟨g'.lk _ List.mem_cons_self, k.nx _ M' _ G' _ (fin _ iv) e' (g'.unlock hne (e' _ _ hG)) ((gs.mono e').set (.c D) j)⟩⟩
end
end Y

namespace Y
open PySem L2 PyProof.Rows
theorem minOf_spec : ∀ (xs : List Int) (x : Int), (PySem.W.minOf x xs ∈ x :: xs) ∧ ∀ y ∈ x :: xs, PySem.W.minOf x xs ≤ y
  | [], x => ⟨List.mem_cons_self, fun y hy => by rw [List.mem_singleton.mp hy]; exact Int.le_refl _⟩
  | z :: xs, x => by
    have e : PySem.W.minOf x (z :: xs) = PySem.W.minOf (if z < x then z else x) xs := by
      show List.foldl _ _ _ = _
      rw [List.foldl_cons]
      by_cases h : z < x
      · rw [if_pos h, if_pos (show PySem.W.DatumOrd.lt z x = true from decide_eq_true h)]
        rfl
      · rw [if_neg h, if_neg (show ¬ PySem.W.DatumOrd.lt z x = true from fun q => h (of_decide_eq_true q))]
        rfl
    obtain ⟨h1, h2⟩ := minOf_spec xs (if z < x then z else x)
    rw [e]
    refine ⟨?_, fun y hy => ?_⟩
    · rcases List.mem_cons.mp h1 with q | q
      · rw [q]
        by_cases h : z < x
        · rw [if_pos h]; exact List.mem_cons_of_mem _ List.mem_cons_self
        · rw [if_neg h]; exact List.mem_cons_self
      · exact List.mem_cons_of_mem _ (List.mem_cons_of_mem _ q)
    · have h0 := h2 _ List.mem_cons_self
      rcases List.mem_cons.mp hy with q | q
      · rw [q]
        by_cases h : z < x
        · rw [if_pos h] at h0 ⊢; omega
        · rw [if_neg h] at h0 ⊢; exact h0
      · rcases List.mem_cons.mp q with q | q
        · rw [q]
          by_cases h : z < x
          · rw [if_pos h] at h0 ⊢; exact h0
          · rw [if_neg h] at h0 ⊢; omega
        · exact h2 y (List.mem_cons_of_mem _ q)
section
variable {X : Cx}
/-- min(xs, default=d) -/
def rMinD (K : PySem.W.Frag) : List V → List V → Hp → VK → Prop := fun vs zs H Q => ∃ (a : Addr) (ns : List Int) (d : Int), vs = [V.ref a] ∧ zs = [V.int d] ∧ SqL K H a (ns.map V.int) ∧ (ns = [] → Q (.int d) H) ∧ ∀ m, m ∈ ns → (∀ y, y ∈ ns → m ≤ y) → Q (.int m) H
theorem cr_minD (hc : X.calm = true) (hu : X.A.units + 1 < cLine) : CallRK X (.builtin "min") [Str.ofString "default"] (rMinD X.K) := by
  intro pins s σ H vs zs us ws Q I r rz h
  obtain ⟨a, ns, d, rfl, rfl, hs, q0, q1⟩ := h
  obtain rfl := Vals.ref1 r
  obtain ⟨w1, rfl, e1⟩ := vals1 rz
  obtain ⟨t, rfl⟩ : ∃ t, w1 = Value.int d t := e1
  obtain ⟨its, rv, hl, _⟩ := I.list hs
  refine PySem.W.min_list_datum_default (α := Int) (xs := ns) (I.ok.hd hc) hl.isList (PySem.W.HoldAll.of_ints rv.ints) hu (fun e h' tk hk => ⟨.int d, H, I.kept hk, ⟨t, rfl⟩, q0 e⟩) fun y ys i v h' tk e hi hv hk => ?_
  obtain ⟨as, rr⟩ := hv
  obtain ⟨m1, m2⟩ := minOf_spec ys y
  rw [← e] at m1 m2
  have hvi : ∃ t, v = Value.int (PySem.W.minOf y ys) t := by
    cases rr
    exact ⟨_, rfl⟩
  exact ⟨.int _, H, I.kept hk, hvi, q1 _ m1 m2⟩
end
section
variable {X : Cx} {L : Lk} {τ : List (Option Sl)} {M : Cs} {Q : Sl → Cs → Prop} {e : Expr} {p pos kpos dp : Pos} {j : Nat} {d : Int}
theorem de_minD {k0} (hc : X.calm = true) (hu : X.A.units + 1 < cLine) (hg : Gl X "min") (hm : X.mg "min" = none) (w : DE X L e τ M fun s M1 => ∃ ns : List Int, isTup s = false ∧ seqOf M1 s = some (ns.map dI) ∧ (ns = [] → Q (dI d) M1) ∧ ∀ m, m ∈ ns → (∀ y, y ∈ ns → m ≤ y) → Q (dI m) M1)
    (hv : bootBuiltins "min" = some (.builtin "min") := by decide +kernel) (hse : starEach [e] X.env = (false, eval e X.env) :: starEach [] X.env := by rfl)
    (he : backTo pos (starEach [e] X.env) = (false, eval e X.env) :: backTo pos (starEach [] X.env) := by rfl) (hpl : (backTo pos (starEach [e] X.env)).any (·.1) = false := by rfl)
    (hall : (backToKw pos (keywordEach [⟨some "default", .Constant (.int d) k0 dp, kpos⟩] X.env)).all (·.1.isSome) = true := by rfl) (hnone : (backToKw pos (keywordEach [⟨some "default", .Constant (.int d) k0 dp, kpos⟩] X.env)).any (·.1.isNone) = false := by rfl) (hks : (backToKw pos (keywordEach [⟨some "default", .Constant (.int d) k0 dp, kpos⟩] X.env)).filterMap (·.1) = [Str.ofString "default"] := by rfl) :
    DE X L (.Call (.Name "min" p) [e] [⟨some "default", .Constant (.int d) k0 dp, kpos⟩] pos) τ M Q :=
  de_of (pe_callBK (cr_minD hc hu) hg hm hv (pa_cons pe_s pa_nil hse) (pk_cons pe_int pk_nil) (by decide) (by decide) he hpl hall hnone hks) fun σ G H Q' gs gm k => w σ G H _ gs gm fun s M1 v G1 H1 ⟨ns, hT, hs, q0, q1⟩ e1 g1 a1 => by
    obtain ⟨b, xs, rfl, r, l⟩ := seq_at g1 a1 hs
    rw [hT, if_neg Bool.false_ne_true] at r
    rw [ints_at l] at r
    exact ⟨b, ns, d, rfl, rfl, r, fun e => (k.mono e1).go (q0 e) g1 (.d (.int _)), fun m hm hy => (k.mono e1).go (q1 m hm hy) g1 (.d (.int _))⟩
end

/-! ### list(d.items()) -/
section
variable {X : Cx} {L : Lk} {τ : List (Option Sl)} {M : Cs} {Q : Sl → Cs → Prop} {e : Expr} {p pos apos cpos : Pos}
def itD (q : Key × PyData) : Sl := .d (.tuple [kD q.1, q.2])
theorem paired_tup {K : PySem.W.Frag} {G G2 H' : Hp} : ∀ {as : List Addr} {xs : List (Key × V)} {kd : List (Key × PyData)}, Paired (fun (t : Addr) (q : Key × V) => H' t = some (.tup [kV q.1, q.2])) as xs → KvAt K G xs (slK kd) → Ex G G2 → (∀ t ∈ as, G2 t = H' t) → SlL K G2 (as.map V.ref) (kd.map itD)
  | [], [], [], _, _, _, _ => .nil
  | a :: as, (k, v) :: xs, (k2, d) :: kd, h, l, e, ag => by
    cases h with
    | cons h1 h2 =>
      obtain ⟨ek, a1, l2⟩ := l
      refine .cons (.d (.tup ((ag a List.mem_cons_self).trans h1) (.cons ?_ (.cons (At.mono e ?_) .nil)))) (paired_tup h2 l2 e fun t ht => ag t (List.mem_cons_of_mem _ ht))
      · rw [ek]
        cases k2 with
        | inl z => exact .int z
        | inr z => exact .str z
      · cases a1 with
        | d z => exact z
  | [], [], _ :: _, _, l, _, _ => by cases l
  | [], _ :: _, _, h, _, _, _ => by cases h
  | _ :: _, [], _, h, _, _, _ => by cases h
  | _ :: _, _ :: _, [], _, l, _, _ => by cases l
theorem de_listItems (hc : X.calm = true) (hg : Gl X "list") (hm : X.mg "list" = none) (hL : NoDK L) (w : DE X L e τ M fun s M1 => ∃ kd : List (Key × PyData), s = .d (.dict (encK kd)) ∧ ∀ p, M1 p = none → Q (.c p) (updC M1 p (.l (kd.map itD))))
    (hv : bootBuiltins "list" = some (.type "list") := by decide +kernel) (hbase : attributeBase e "items" X.env (eval e X.env) = eval e X.env := by rfl) (hline : (apos.endLine == cpos.line) = true := by rfl)
    (hs : starEach [.Call (.Attribute e "items" apos) [] [] cpos] X.env = (false, eval (.Call (.Attribute e "items" apos) [] [] cpos) X.env) :: starEach [] X.env := by rfl) :
    DE X L (.Call (.Name "list" p) [.Call (.Attribute e "items" apos) [] [] cpos] [] pos) τ M Q :=
  de_of (LiI.pe_listItems hc pe_s hg hm hv hbase hline hs) fun σ G H Q' gs gm k => w σ G H _ gs gm fun s M1 v G1 H1 ⟨kd, es, q⟩ e1 g1 a1 => by
    subst es
    cases a1 with
    | d av =>
      generalize hz : encK kd = zs at av
      cases av with
      | dic hG l =>
        rename_i dd xs
        subst hz
        have lx := AtK.kv kd l
        have hx := lock_exact g1 hL hG
        refine ⟨dd, xs, rfl, hx, fun H' p ts keep hp hts hpn hl pr => ?_⟩
        have off : ∀ b o, G1 b = some o → b ∉ ts := fun b o h hb => by
          rw [(g1.free (hts b hb)).1] at h
          cases h
        have eG : Ex G1 (fun b => if b ∈ ts then H' b else G1 b) := fun b o h => by
          show (if b ∈ ts then _ else _) = _
          rw [if_neg (off b o h)]
          exact h
        have g2 : GoodM X.K L (updC M1 p (.l (kd.map itD))) (fun b => if b ∈ ts then H' b else G1 b) H' := by
          refine ⟨fun a o h => ?_, fun a c h => ?_, fun x hx => keep _ _ (g1.lk x hx)⟩
          · by_cases ha : a ∈ ts
            · have h : (if a ∈ ts then H' a else G1 a) = some o := h
              rw [if_pos ha] at h
              exact .inl h
            · have h : (if a ∈ ts then H' a else G1 a) = some o := h
              rw [if_neg ha] at h
              rcases g1.vw a o h with z | z
              · exact .inl (keep _ _ z)
              · exact .inr z
          · by_cases ha : a = p
            · subst ha
              rw [updC_same] at h
              cases h
              refine ⟨?_, ts.map V.ref, hl, paired_tup pr lx eG fun t ht => ?_⟩
              · show (if a ∈ ts then _ else _) = _
                rw [if_neg hpn]
                exact (g1.free hp).1
              · show (if t ∈ ts then _ else _) = _
                rw [if_pos ht]
            · rw [updC_ne ha] at h
              obtain ⟨z1, z2⟩ := g1.cell a c h
              have hn : a ∉ ts := fun ht => by
                rw [(g1.free (hts a ht)).2] at h
                cases h
              refine ⟨?_, z2.mono eG fun o q => keep _ _ q⟩
              show (if a ∈ ts then _ else _) = _
              rw [if_neg hn]
              exact z1
        exact k _ _ _ _ _ (q p (g1.free hp).2) (e1.trans eG) g2 (.c p)
end
end Y

namespace Y
open PySem L2 PyProof.Rows
section
variable {X : Cx} {L : Lk} {τ : List (Option Sl)} {M : Cs} {Q : Sl → Cs → Prop} {e1 : Expr} {pos : Pos}
/-- {"x": e, "y": j} -/
theorem de_dictSE2 {x y : Str} {j : Int} {j1 j3 j4} {p1 p3 p4 : Pos} (ne : x ≠ y) (w : ∀ p, M p = none → DE X L e1 τ (updC M p (.k [])) fun s M1 => ∃ i, s = dI i ∧ M1 p = some (.k []) ∧ Q (.c p) (updC M1 p (.k (slK [(.inr x, .int i), (.inr y, .int j)])))) : DE X L (.Dict [some (.Constant (.str x) j1 p1), some (.Constant (.str y) j3 p3)] [e1, .Constant (.int j) j4 p4] pos) τ M Q :=
  de_of (pe_disp (pps_cons pe_str pe_s (pps_cons pe_str pe_int pps_nil)) rfl rfl (by simp) (by simp)) fun σ G H Q' gs gm kk p hp => by
    refine w p (gm.free hp).2 σ G (upd H p (.dK [])) _ gs (gm.newC hp ⟨[], upd_same, trivial⟩) fun s M1 v G1 H1 ⟨i, es, hm, q⟩ e1 g1 a1 => ?_
    subst es
    have ev := sl_int a1
    subst ev
    obtain ⟨f1, xs, h1, h2⟩ := g1.cell p _ hm
    have hx : xs = [] := by
      cases xs with
      | nil => rfl
      | cons _ _ => cases h2
    subst hx
    refine ⟨h1, [(.inr x, .int i), (.inr y, .int j)], rfl, (by show 2 ≤ 15; decide), ?_⟩
    have e : mergeK [] [((Sum.inr x : Key), V.int i), (.inr y, .int j)] = [(.inr x, V.int i), (.inr y, V.int j)] := by
      have : ¬ (Sum.inr x : Key) = Sum.inr y := fun z => ne (Sum.inr.inj z)
      simp [mergeK, putK, this]
    rw [e]
    exact kk _ _ _ G1 _ q e1 (g1.write hm h1 (fun _ _ z => nomatch z) ⟨[(.inr x, .int i), (.inr y, .int j)], upd_same, rfl, .d (.int i), rfl, .d (.int j), trivial⟩) (.c p)
end
end Y

/-! x in xs, where what is equal may be told by this model's own words (dicts) -/
namespace PySem.SeqAt
open AutoSeq1 (wpAny_loadPart')
open MeetsSeq MeetsSeq2 MeetsSeq3 SeqRoads2
section
variable {P : Program} {w : World}
theorem member_loop (a : Addr) (its : Array Value) (m : Nat) (od : Option Addr) (ws : Array (Option Value)) (u : Value) (t : Value → Bool) (f : Nat) : ∀ j : Nat, its.size - j = f → MeetsIn P w (Builtin.«list.__contains__.loop» ⟨[.ref a, u, rawInt j], []⟩)
    (fun A R s => s.heap.get? a = some { cls := .type "list", dict := od, data := .seq its m, slots := ws } ∧ (∀ z, z ∈ its → EqP P w A.in1 s z u (t z)) ∧ R (.ok (.ret (.bool ((its.toList.drop j).any t)))) s) := by
  induction f with
  | zero =>
    intro j hj A R s ⟨hob, hz, hq⟩
    cases s
    wp_walk using wpAny_loadPart' hob
    have out : its[((j : Nat) : Int).toNat]? = none := by simp; omega
    rw [show its.toList.drop j = [] from by simp; omega] at hq
    rw [out]
    wp_walk
    exact hq
  | succ f ih =>
    intro j hj A R s ⟨hob, hz, hq⟩
    cases s
    wp_walk using wpAny_loadPart' hob
    have lt : j < its.size := by omega
    have there : its[((j : Nat) : Int).toNat]? = some its[j] := by simp [lt]
    rw [show its.toList.drop j = its[j] :: its.toList.drop (j + 1) from by simp [List.drop_eq_getElem_cons, lt], List.any_cons] at hq
    rw [there]
    refine wpAny_bind (hz _ (Array.getElem_mem lt) _ _ ?_)
    cases k : t its[j] with
    | true =>
      rw [k] at hq
      wp_walk
      exact hq
    | false =>
      rw [k] at hq
      wp_walk
      rw [show ((j : Int) + 1) = ((j + 1 : Nat) : Int) from by push_cast; rfl]
      refine ⟨plainId_quiet plain_contains_loop _, codeAny_builtin entry_contains_loop ?_⟩
      rw [Around.under_plainId plain_contains_loop _]
      exact ih (j + 1) (by omega) A R _ ⟨hob, hz, by simpa using hq⟩
theorem member_list (a : Addr) (its : Array Value) (m : Nat) (od : Option Addr) (ws : Array (Option Value)) (u : Value) (t : Value → Bool) : MeetsIn P w (Builtin.«list.__contains__» ⟨[.ref a, u], []⟩)
    (fun A R s => s.heap.get? a = some { cls := .type "list", dict := od, data := .seq its m, slots := ws } ∧ (∀ z, z ∈ its → EqP P w A.in1 s z u (t z)) ∧ R (.ok (.ret (.bool (its.any t)))) s) := by
  intro A R s ⟨hob, hz, hq⟩
  cases s
  wp_walk using wpAny_loadPart' hob
  refine ⟨plainId_quiet plain_contains_loop _, codeAny_builtin entry_contains_loop ?_⟩
  rw [Around.under_plainId plain_contains_loop _]
  exact member_loop a its m od ws u t _ 0 rfl A R _ ⟨hob, hz, by simpa using hq⟩
theorem member_op {A : Around} {E Q : Value → Shared → Prop} {s : Shared} {a : Addr} {its : Array Value} {u : Value} (t : Value → Bool) (hob : s.heap.IsList a its) (hz : ∀ z, z ∈ its → EqP P w A.in1 s z u (t z)) (hq : Q (.bool (its.any t)) s) : wpAny (model P w) A (compareOp .In u (.ref a)) Q E s := by
  obtain ⟨⟨c, od, da, ws⟩, h0, h1, m, h2⟩ := id hob
  simp only at h1 h2
  subst h1 h2
  show wpAny _ A (do return .bool (← contains (.ref a) u)) Q E s
  refine wpAny_bind (wpAny_contains_slot (T := "list") ⟨_, h0, rfl⟩ F.slot_list_contains (wpAny_mono (call_meetsIn (Q := fun v s' => ∃ b : Bool, v = .bool b ∧ Q (.bool b) s') F.slot_list_contains ⟨_, h0, rfl⟩ F.entry_list_contains (F.args_list_contains_2 _ _) (member_list a its m od ws u t) ⟨h0, hz, ⟨_, rfl, hq⟩⟩) (fun v s' hv => ?_) fun _ _ e => e))
  obtain ⟨b, rfl, q⟩ := (show ∃ b, v = .bool b ∧ Q (.bool b) s' from hv)
  exact wpAny_truthy_bool (wpAny_pure q)
end
end PySem.SeqAt
namespace Y
open PySem L2 PyProof.Rows
def encV (c : Cnt) : List (Key × V) := c.map fun p => (.inr p.1, .int p.2)
theorem valV_enc (z : Str) : ∀ c : Cnt, valV (encV c) (.inr z) = (getC c z).map V.int
  | [] => rfl
  | p :: r => by
    have ih := valV_enc z r
    unfold valV encV getC at ih ⊢
    rw [List.map_cons, List.find?_cons, List.find?_cons]
    by_cases e : p.1 = z
    · rw [show decide ((Sum.inr p.1 : Key) = Sum.inr z) = true from decide_eq_true (by rw [e]), show decide (p.1 = z) = true from decide_eq_true e]
      rfl
    · rw [show decide ((Sum.inr p.1 : Key) = Sum.inr z) = false from decide_eq_false (fun q => e (Sum.inr.inj q)), show decide (p.1 = z) = false from decide_eq_false e]
      exact ih
theorem rd_one {H : Hp} {a : Addr} {x y : List (Key × V)} (h1 : Rd H a (.dK x)) (h2 : Rd H a (.dK y)) : x = y := by
  rcases h1 with h1 | ⟨o, h1⟩ <;> rcases h2 with h2 | ⟨o', h2⟩ <;> (rw [h1] at h2; first | (cases h2; done) | (cases h2; rfl))
/-- the same numbers -/
def eqC (c d : Cnt) : Bool := (c.length == d.length) && c.all fun p => decide (getC d p.1 = some p.2)
theorem hits_C {P : Program} {w : World} {A : Around} {s : Shared} {d : Cnt} {vb : List (Key × Value)} (rb : KV (encV d) vb) : ∀ {c : Cnt} {va : List (Key × Value)}, KV (encV c) va → PySem.W.KeqHitsP P w A s vb va (c.all fun p => decide (getC d p.1 = some p.2))
  | [], va, h => by
    cases h
    exact .nil
  | p :: r, va, h => by
    unfold KV encV at h
    rw [List.map_cons] at h
    cases h with
    | @cons _ q _ qs h t =>
      obtain ⟨h1, h2⟩ := h
      obtain ⟨key, v⟩ := q
      have h1 : (Sum.inr p.1 : Key) = key := h1
      subst h1
      obtain ⟨tk, rfl⟩ : ∃ tk, v = Value.int p.2 tk := h2
      have ih := hits_C (P := P) (w := w) (A := A) (s := s) rb (c := r) (va := qs) t
      have rr := rb.val (.inr p.1)
      rw [valV_enc] at rr
      rw [List.all_cons]
      cases g : getC d p.1 with
      | none =>
        rw [g] at rr
        have : valueAt vb (.inr p.1) = none := by
          cases e : valueAt vb (Sum.inr p.1) with
          | none => rfl
          | some y => rw [e] at rr; exact absurd rr (by intro q; cases q)
        exact .miss this
      | some j =>
        rw [g] at rr
        obtain ⟨y, hy, ry⟩ := RelO.some_of rr
        obtain ⟨tj, rfl⟩ : ∃ tj, y = Value.int j tj := ry
        have e : decide (some j = some p.2) = (p.2 == j) := by
          by_cases q : p.2 = j
          · subst q; simp
          · have : ¬ j = p.2 := fun h => q h.symm
            simp [q, this]
        rw [e]
        exact .hit hy (SeqAt.EqAt.int_int _ _ _ _).eqP ih
theorem encV_inj {c d : Cnt} (h : encV c = encV d) : c = d := by
  induction c generalizing d with
  | nil => cases d with
    | nil => rfl
    | cons _ _ => cases h
  | cons p r ih => cases d with
    | nil => cases h
    | cons q t =>
      unfold encV at h
      rw [List.map_cons, List.map_cons] at h
      injection h with h1 h2
      obtain ⟨p1, p2⟩ := p
      obtain ⟨q1, q2⟩ := q
      have e1 : p1 = q1 := Sum.inr.inj (Prod.mk.inj h1).1
      have e2 : p2 = q2 := by have := (Prod.mk.inj h1).2; injection this
      rw [e1, e2, ih h2]
theorem eqC_self {c : Cnt} (nd : (c.map (·.1)).Nodup) : eqC c c = true := by
  unfold eqC
  rw [Bool.and_eq_true]
  refine ⟨by simp, List.all_eq_true.mpr fun p hp => decide_eq_true ?_⟩
  have key : ∀ c : Cnt, (c.map (·.1)).Nodup → p ∈ c → getC c p.1 = some p.2 := fun c => by
    induction c with
    | nil => intro _ h; cases h
    | cons a r ih =>
      intro nd h
      obtain ⟨n1, n2⟩ := List.nodup_cons.mp nd
      unfold getC at ih ⊢
      rw [List.find?_cons]
      rcases List.mem_cons.mp h with rfl | h
      · rw [show decide (p.1 = p.1) = true from decide_eq_true rfl]; rfl
      · have : ¬ a.1 = p.1 := fun e => n1 (List.mem_map.mpr ⟨p, h, e.symm⟩)
        rw [show decide (a.1 = p.1) = false from decide_eq_false this]
        exact ih n2 h
  exact key c nd hp
section
variable {X : Cx}
def rInM (K : PySem.W.Frag) : R2 := fun x y H Q => ∃ (a l : Addr) (c : Cnt) (ds : List Cnt) (bs : List Addr), x = .ref a ∧ y = .ref l ∧ Rd H a (.dK (encV c)) ∧ (c.map (·.1)).Nodup ∧ SqL K H l (bs.map V.ref) ∧ Paired (fun b d => Rd H b (.dK (encV d))) bs ds ∧ Q (.bl (ds.any fun d => eqC d c)) H
theorem eqP_C {pins : List (Addr × Obj)} {σ : L2.St} {H : Hp} {s : Shared} (I : Inv X pins σ H s) {A : Around} (hu : A.units < cLine) {a b : Addr} {c d : Cnt} (nd : (c.map (·.1)).Nodup) (ha : Rd H a (.dK (encV c))) (hb : Rd H b (.dK (encV d))) : SeqAt.EqP X.prog X.w A s (.ref b) (.ref a) (eqC d c) := by
  obtain ⟨_, ya, va, ra, da⟩ := dk_rd I.hok ha
  obtain ⟨_, yb, vb, rb, db⟩ := dk_rd I.hok hb
  by_cases e : b = a
  · subst e
    have hcd : encV c = encV d := rd_one ha hb
    have hcd := encV_inj hcd
    subst hcd
    rw [eqC_self nd]
    exact (SeqAt.EqAt.same _).eqP
  · refine SeqAt.eqP_refs e fun E Q q => PySem.W.rcP_dicts (knd := mixKind X.prog X.w) yb ya db da hu (fun _ => hits_C ra rb) E Q ?_
    have e1 : vb.length = d.length := by rw [← rb.length]; unfold encV; rw [List.length_map]
    have e2 : va.length = c.length := by rw [← ra.length]; unfold encV; rw [List.length_map]
    rw [e1, e2]
    exact q
theorem op_inM (hu : X.A.units + 1 < cLine) : OpR X (compareOp .In) (rInM X.K) := by
  intro pins s σ H x y v u Q I rx ry h
  obtain ⟨a, l, c, ds, bs, rfl, rfl, ha, nd, hl, hp, q⟩ := h
  cases (show v = Value.ref a from rx)
  cases (show u = Value.ref l from ry)
  obtain ⟨its, rv, hL, _⟩ := I.list hl
  have hits : its = bs.map Value.ref := by
    have key : ∀ {bs : List Addr} {its : List Value}, Vals (bs.map V.ref) its → its = bs.map Value.ref := fun {bs} => by
      induction bs with
      | nil => intro its r; cases r; rfl
      | cons b r ih =>
        intro its h
        rw [List.map_cons] at h
        cases h with
        | cons h1 h2 =>
          rw [show _ = Value.ref b from h1, ih h2]
          rfl
    exact key rv
  subst hits
  have hb : ∀ {bs : List Addr} {ds : List Cnt}, Paired (fun b d => Rd H b (.dK (encV d))) bs ds → ∃ t : Value → Bool, (∀ b ∈ bs, SeqAt.EqP X.prog X.w X.A.in1 s (.ref b) (.ref a) (t (.ref b))) ∧ (bs.map Value.ref).any t = ds.any fun d => eqC d c := by
    intro bs ds hp
    have dl : ∀ b ∈ bs, ∃ d, Rd H b (.dK (encV d)) := by
      clear q
      induction hp with
      | nil => exact fun _ h => nomatch h
      | cons h1 _ ih =>
        intro b hb
        rcases List.mem_cons.mp hb with rfl | hb
        · exact ⟨_, h1⟩
        · exact ih b hb
    classical
    let t : Value → Bool := fun v => match v with
      | .ref b => if h : ∃ d, Rd H b (.dK (encV d)) then eqC (Classical.choose h) c else false
      | _ => false
    have one : ∀ {b : Addr} {d d' : Cnt}, Rd H b (.dK (encV d)) → Rd H b (.dK (encV d')) → d = d' := fun {b d d'} h1 h2 => by
      have : encV d = encV d' := rd_one h1 h2
      exact encV_inj this
    have ht : ∀ {b : Addr} {d : Cnt}, Rd H b (.dK (encV d)) → t (.ref b) = eqC d c := fun {b d} h => by
      have hx : ∃ d, Rd H b (.dK (encV d)) := ⟨d, h⟩
      show (if h : ∃ d, Rd H b (.dK (encV d)) then eqC (Classical.choose h) c else false) = _
      rw [dif_pos hx, one (Classical.choose_spec hx) h]
    refine ⟨t, fun b hb => ?_, ?_⟩
    · obtain ⟨d, hd⟩ := dl b hb
      rw [ht hd]
      exact eqP_C I (by show X.A.units + 1 < cLine; exact hu) nd ha hd
    · clear dl q
      induction hp with
      | nil => rfl
      | cons h1 _ ih => rw [List.map_cons, List.any_cons, List.any_cons, ht h1, ih]
  obtain ⟨t, ht1, ht2⟩ := hb hp
  refine SeqAt.member_op t hL.isList (fun z hz => ?_) ?_
  · obtain ⟨b, hb, rfl⟩ := List.mem_map.mp (by simpa using hz)
    exact ht1 b hb
  · rw [show (bs.map Value.ref).toArray.any t = (bs.map Value.ref).any t from by simp, ht2]
    exact ⟨.bl _, H, I, rfl, q⟩
end
section
variable {X : Cx} {L : Lk} {M : Cs} {Q : Sl → Cs → Prop}
theorem at_cnt {K : PySem.W.Frag} {G : Hp} {v : V} {c : Cnt} (a : SlAt K G v (.d (eCnt c))) : ∃ b, v = .ref b ∧ G b = some (.dK (encV c)) := by
  cases a with
  | d av =>
    generalize hz : eCnt c = z at av
    unfold eCnt at hz
    cases av with
    | dic hG l =>
      rename_i dd xs zs
      have hz : encK (kdC c) = zs := PyData.dict.inj hz
      subst hz
      have lx := AtK.kv (kdC c) l
      refine ⟨dd, rfl, ?_⟩
      have key : ∀ {c : Cnt} {xs : List (Key × V)}, KvAt K G xs (slK (kdC c)) → xs = encV c := fun {c} => by
        induction c with
        | nil => intro xs h; cases xs with
          | nil => rfl
          | cons _ _ => cases h
        | cons p r ih => intro xs h; cases xs with
          | nil => cases h
          | cons x t =>
            obtain ⟨h1, h2, h3⟩ := h
            obtain ⟨k, u⟩ := x
            have h1 : k = .inr p.1 := h1
            have h2 := sl_int (show SlAt K G u (dI p.2) from h2)
            rw [ih h3, h1, h2]
            rfl
      rw [hG, key lx]
    | _ => cases hz
theorem k_inC {c : Cnt} {ds : List Cnt} {t : Sl} (hT : isTup t = false) (h : seqOf M t = some (ds.map fun d => .d (eCnt d))) (nd : (c.map (·.1)).Nodup) (q : Q (.d (.bool (ds.any fun d => eqC d c))) M) : R2k X.K L (rInM X.K) (.d (eCnt c)) t M Q := fun G H v u Q' g a1 a2 k => by
  obtain ⟨p, xs, rfl, r, l⟩ := seq_at g a2 h
  rw [hT, if_neg Bool.false_ne_true] at r
  obtain ⟨a, rfl, ha⟩ := at_cnt a1
  have key : ∀ {ds : List Cnt} {xs : List V}, SlL X.K G xs (ds.map fun d => .d (eCnt d)) → ∃ bs : List Addr, xs = bs.map V.ref ∧ Paired (fun b d => Rd H b (.dK (encV d))) bs ds := fun {ds} => by
    induction ds with
    | nil => intro xs h; cases h; exact ⟨[], rfl, .nil⟩
    | cons d r ih =>
      intro xs h
      rw [List.map_cons] at h
      cases h with
      | cons h1 h2 =>
        obtain ⟨b, rfl, hb⟩ := at_cnt h1
        obtain ⟨bs, rfl, hp⟩ := ih h2
        exact ⟨b :: bs, rfl, .cons (g.rd hb) hp⟩
  obtain ⟨bs, rfl, hp⟩ := key l
  exact ⟨a, p, c, ds, bs, rfl, rfl, g.rd ha, nd, r, hp, k.go q g (.d (.bl _))⟩
end
end Y

namespace Y
open PySem L2 PyProof.Rows
/-! a slot's dict cell becomes data for the rest of a block -/
section
variable {X : Cx} {L : Lk} {τ : List (Option Sl)} {M : Cs} {E : Ks} {sts : List Stmt} {i : Nat} {p : Addr} {kd : List (Key × PyData)}
theorem db_frzD (ht : τ[i]? = some (some (.c p))) (hM : M p = some (.k (slK kd))) (w : DB X L sts (τ.set i (some (.d (.dict (encK kd))))) (delC M p) E) : DB X L sts τ M E := fun σ G H D gs gm k => by
  obtain ⟨G', e, g', a⟩ := gm.freezeK hM
  obtain ⟨v, hσ, av⟩ := gs.get i _ ht
  rw [sl_c av] at hσ
  have gs' : GoodS X.K G' σ (τ.set i (some (.d (.dict (encK kd))))) := by
    have := (gs.mono e).set (v := .ref p) (.d a) i
    have hl : i < σ.length := (List.getElem?_eq_some_iff.mp hσ).1
    have es : σ.set i (some (.ref p)) = σ := by
      refine List.ext_getElem? fun j => ?_
      rw [List.getElem?_set]
      by_cases h : i = j
      · subst h
        rw [if_pos rfl, if_pos hl, hσ]
      · rw [if_neg h]
    rw [es] at this
    exact this
  exact w σ G' H D gs' g' (k.mono e)
end
/-! any(xs), xs * n, k in d -/
section
variable {X : Cx} {L : Lk} {τ : List (Option Sl)} {M : Cs} {Q : Sl → Cs → Prop} {a b : Expr} {pos : Pos} {s : Sl}
theorem k_any {bs : List Bool} (hT : isTup s = false) (h : seqOf M s = some (bs.map fun b => .d (.bool b))) (q : Q (.d (.bool (bs.any id))) M) : RCk X.K L (rAny X.K) [s] M Q := fun G H vs Q' g a k => by
  obtain ⟨v, rfl, a1⟩ := sl1 a
  obtain ⟨p, xs, rfl, r, l⟩ := seq_at g a1 h
  rw [hT, if_neg Bool.false_ne_true] at r
  have key : ∀ {bs : List Bool} {xs : List V}, SlL X.K G xs (bs.map fun b => .d (.bool b)) → xs = bs.map V.bl := fun {bs} => by
    induction bs with
    | nil => intro xs h; cases h; rfl
    | cons b r ih =>
      intro xs h
      rw [List.map_cons] at h
      cases h with
      | cons h1 h2 => rw [sl_bl h1, ih h2]; rfl
  rw [key l] at r
  exact ⟨p, bs, rfl, r, k.go q g (.d (.bl _))⟩
/-- [x] * 2 -/
theorem de_rep2 (w : DE X L a τ M fun x M1 => DE X L b τ M1 fun y M2 => ∃ p z, x = .c p ∧ y = dI 2 ∧ M2 p = some (.l [z]) ∧ ∀ c, M2 c = none → Q (.c c) (updC M2 c (.l [z, z]))) : DE X L (.BinOp a .Mult b pos) τ M Q :=
  de_op op_rep (de_imp w fun x M1 q => de_imp q fun y M2 ⟨p, z, e1, e2, hm, q2⟩ => fun G H v u Q' g a1 a2 k => by
    subst e1 e2
    obtain ⟨f, xs, h1, h2⟩ := g.cell p _ hm
    have hv : v = .ref p := sl_c a1
    have hu := sl_int a2
    cases h2 with
    | @cons vz _ _ _ az t =>
      cases t
      refine ⟨p, 2, [vz], hv, hu, h1, by decide, by decide, by show 1 * 2 ≤ sizeLine; decide, fun c hc => ?_⟩
      exact k _ _ _ G _ (q2 c (g.free hc).2) (Ex.refl G) (g.newC hc ⟨[vz, vz], upd_same, .cons az (.cons az .nil)⟩) (.c c))
end
/-! a dict's items, while other dicts are locked -/
def Other (L : Lk) (n : Nat) : Prop := ∀ x ∈ L, ∀ ys, x.2.2 = HO.dK ys → ys.length ≠ n
theorem NoDK.other {L : Lk} (h : NoDK L) (n : Nat) : Other L n := fun x hx ys e => absurd e (h x hx ys)
section
variable {X : Cx} {L : Lk} {τ : List (Option Sl)} {M : Cs} {Q : Sl → Cs → Prop} {e : Expr} {p pos apos cpos : Pos}
theorem de_listItemsO (hc : X.calm = true) (hg : Gl X "list") (hm : X.mg "list" = none) (w : DE X L e τ M fun s M1 => ∃ kd : List (Key × PyData), s = .d (.dict (encK kd)) ∧ Other L kd.length ∧ ∀ p, M1 p = none → Q (.c p) (updC M1 p (.l (kd.map itD))))
    (hv : bootBuiltins "list" = some (.type "list") := by decide +kernel) (hbase : attributeBase e "items" X.env (eval e X.env) = eval e X.env := by rfl) (hline : (apos.endLine == cpos.line) = true := by rfl)
    (hs : starEach [.Call (.Attribute e "items" apos) [] [] cpos] X.env = (false, eval (.Call (.Attribute e "items" apos) [] [] cpos) X.env) :: starEach [] X.env := by rfl) :
    DE X L (.Call (.Name "list" p) [.Call (.Attribute e "items" apos) [] [] cpos] [] pos) τ M Q :=
  de_of (LiI.pe_listItems hc pe_s hg hm hv hbase hline hs) fun σ G H Q' gs gm k => w σ G H _ gs gm fun s M1 v G1 H1 ⟨kd, es, ho, q⟩ e1 g1 a1 => by
    subst es
    cases a1 with
    | d av =>
      generalize hz : encK kd = zs at av
      cases av with
      | dic hG l =>
        rename_i dd xs
        subst hz
        have lx := AtK.kv kd l
        have hx : H1 dd = some (.dK xs) := by
          rcases g1.vw dd _ hG with z | ⟨x, hx, _, w⟩
          · exact z
          · exact absurd (by rw [lx.len]; simp [slK]) (ho x hx xs w)
        refine ⟨dd, xs, rfl, hx, fun H' p ts keep hp hts hpn hl pr => ?_⟩
        have off : ∀ b o, G1 b = some o → b ∉ ts := fun b o h hb => by
          rw [(g1.free (hts b hb)).1] at h
          cases h
        have eG : Ex G1 (fun b => if b ∈ ts then H' b else G1 b) := fun b o h => by
          show (if b ∈ ts then _ else _) = _
          rw [if_neg (off b o h)]
          exact h
        have g2 : GoodM X.K L (updC M1 p (.l (kd.map itD))) (fun b => if b ∈ ts then H' b else G1 b) H' := by
          refine ⟨fun a o h => ?_, fun a c h => ?_, fun x hx => keep _ _ (g1.lk x hx)⟩
          · by_cases ha : a ∈ ts
            · have h : (if a ∈ ts then H' a else G1 a) = some o := h
              rw [if_pos ha] at h
              exact .inl h
            · have h : (if a ∈ ts then H' a else G1 a) = some o := h
              rw [if_neg ha] at h
              rcases g1.vw a o h with z | z
              · exact .inl (keep _ _ z)
              · exact .inr z
          · by_cases ha : a = p
            · subst ha
              rw [updC_same] at h
              cases h
              refine ⟨?_, ts.map V.ref, hl, paired_tup pr lx eG fun t ht => ?_⟩
              · show (if a ∈ ts then _ else _) = _
                rw [if_neg hpn]
                exact (g1.free hp).1
              · show (if t ∈ ts then _ else _) = _
                rw [if_pos ht]
            · rw [updC_ne ha] at h
              obtain ⟨z1, z2⟩ := g1.cell a c h
              have hn : a ∉ ts := fun ht => by
                rw [(g1.free (hts a ht)).2] at h
                cases h
              refine ⟨?_, z2.mono eG fun o q => keep _ _ q⟩
              show (if a ∈ ts then _ else _) = _
              rw [if_neg hn]
              exact z1
        exact k _ _ _ _ _ (q p (g1.free hp).2) (e1.trans eG) g2 (.c p)
end
/-! k not in d -/
section
variable {X : Cx} {L : Lk} {τ : List (Option Sl)} {M : Cs} {QB : Bool → Cs → Prop} {a b : Expr} {pos : Pos}
theorem dt_dnotin (hu : X.A.units + 1 < cLine) (w : DE X L a τ M fun x M1 => DE X L b τ M1 fun y M2 => ∃ k kvs, x = .d (kD k) ∧ DictIs M2 y kvs ∧ QB (!(valS kvs k).isSome) M2) (hm : behindInMarks .NotIn b = false) : DT X L (.Compare a [.NotIn] [b] pos) τ M QB :=
  dt_of (pt_cmp (pc_dnotin hu pe_s pe_s) hm) fun σ G H Q' gs gm k => w σ G H _ gs gm fun x M1 v G1 H1 q e1 g1 a1 => q σ G1 H1 _ (gs.mono e1) g1 fun y M2 u G2 H2 ⟨key, kvs, hx, hd, q2⟩ e2 g2 a2 => by
    subst hx
    obtain ⟨p, oo, rfl, _, dg, h⟩ := dget_at (k := key) g2 a2 hd
    rw [key_at (a1.mono e2)]
    have ho : oo.isSome = (valS kvs key).isSome := by
      cases e : valS kvs key with
      | none => rw [e] at h; rw [h]; rfl
      | some z => rw [e] at h; obtain ⟨u, hu, _⟩ := h; rw [hu]; rfl
    refine ⟨p, oo, rfl, dg, ?_⟩
    exact ⟨!oo.isSome, rfl, k _ M2 G2 H2 (by rw [ho]; exact q2) (e1.trans e2) g2⟩
end
/-! comprehensions over a dict's keys without a test, over its items with one -/
section
variable {X : Cx} {L : Lk} {τ : List (Option Sl)} {M : Cs} {Q : Sl → Cs → Prop} {elt kx vx tg c : Expr} {scope : Scope} {own : List (Str × Nat)} {pos p0 apos mpos : Pos} {g : TG} {i : Nat} {nm : Str} {kd : List (Key × PyData)}
theorem lcN_run {σ : L2.St} {G HL : Hp} {Q2 : VK} {dd : Addr} {od : Obj} {xs : List (Key × V)} {vs : List Nat} (gs : GoodS X.K G σ τ) (gmL : GoodM X.K ((dd, od, .dK xs) :: L) M G HL) (hσ : σ[i]? = some (some (.ref dd))) (lx : KvAt X.K G xs (slK kd))
    (w : ∀ D, M D = none → ∃ Iv : Nat → Cs → Prop, Iv 0 (updC M D (.l [])) ∧ (∀ x, (∃ xs, x.2.2 = HO.dK xs) → ∀ n k d M', kd[n]? = some (k, d) → Iv n M' →
      WGw X.K (x :: L) vs g (.d (kD k)) (wipeK τ vs) M' fun τ2 M3 => DEb X scope (x :: L) elt τ2 M3 fun z M5 => ∃ acc, M5 D = some (.l acc) ∧ acc.length < sizeLine ∧ Iv (n + 1) (updC M5 D (.l (acc ++ [z])))) ∧
      (∀ M' G' H', Iv kd.length M' → Ex G G' → GoodM X.K ((dd, od, .dK xs) :: L) M' G' H' → Q2 (.ref D) H')) : tLc (iKeys (tVar i)) g tYes (bE X scope elt) vs σ HL Q2 := by
        have hx0 : HL dd = some (.frz od (.dK xs)) := gmL.lk _ List.mem_cons_self
        refine ⟨.ref dd, hσ, dd, od, rfl, .inl ⟨xs, hx0, fun D hD => ?_⟩⟩
        obtain ⟨Iv, i0, turn, fin⟩ := w D (gmL.free hD).2
        have hl : xs.length = kd.length := by rw [lx.len]; simp [slK]
        refine ⟨fun n m H' => m = kd.length - n ∧ n ≤ kd.length ∧ ∃ M' G', Iv n M' ∧ Ex G G' ∧ GoodM X.K ((dd, od, .dK xs) :: L) M' G' H', ⟨kd.length, by simp, Nat.zero_le _, _, G, i0, Ex.refl _, gmL.newC hD ⟨[], upd_same, .nil⟩⟩, ?_⟩
        rintro n m H' ⟨rfl, hn, M', G', iv, e', g'⟩
        have hd' : H' dd = some (.frz od (.dK xs)) := g'.lk _ List.mem_cons_self
        by_cases hlt : n < kd.length
        · refine .inr ⟨⟨hd', by rw [hl]; exact hlt⟩, fun H2 => ∃ M2 G2, Iv (n + 1) M2 ∧ Ex G G2 ∧ GoodM X.K ((dd, od, .dK xs) :: L) M2 G2 H2, fun H2 ⟨M2, G2, h⟩ => ⟨kd.length - (n + 1), by omega, rfl, hlt, M2, G2, h⟩, fun x H2 hy => ?_⟩
          obtain ⟨rfl, k1, v1, hx1, rfl⟩ := hy
          obtain ⟨u1, hu1, au1⟩ := (KvAt.mono e' lx).get (i := n) (k := (kd[n]).1) (s := .d (kd[n]).2) (by unfold slK; rw [List.getElem?_map, List.getElem?_eq_getElem hlt]; rfl)
          rw [hx1] at hu1
          have hu2 := Option.some.inj hu1
          have ek : k1 = (kd[n]).1 := (Prod.mk.inj hu2).1
          have ak : At X.K G' (kV k1) (kD (kd[n]).1) := by
            rw [← ek]
            cases k1 with
            | inl z => exact .int z
            | inr z => exact .str z
          refine turn (dd, od, .dK xs) ⟨xs, rfl⟩ n (kd[n]).1 (kd[n]).2 M' (List.getElem?_eq_getElem hlt) iv _ G' H2 _ _ ((gs.mono e').wipe vs) g' (.d ak) fun τ3 M3 σ3 G3 H3 q3 e3 g3 s3 z3 => ?_
          refine ⟨z3.trans wipe_wipe, ?_⟩
          have e13 := e'.trans e3
          unfold tYes
          dsimp only
          rw [if_pos rfl]
          refine web (X := X) (scope := scope) (e := elt) q3 σ3 G3 H3 _ s3 g3 fun z M5 v5 G5 H5 ⟨acc, hacc, hl5, iv5⟩ e5 g5 a5 => ?_
          obtain ⟨f5, ys, h1, h2⟩ := g5.cell D _ hacc
          refine ⟨ys, h1, by rw [h2.len]; exact hl5, _, G5, iv5, e13.trans e5, ?_⟩
          exact g5.write hacc h1 (fun _ _ z => nomatch z) ⟨_, upd_same, h2.append (.cons a5 .nil)⟩
        · have e : n = kd.length := by omega
          subst e
          exact .inl ⟨⟨hd', by rw [hl]; exact Nat.le_refl _⟩, fin M' G' H' iv e' g'⟩
/-- [elt for tg in d] -/
theorem de_lcKeysN (hc : X.calm = true) (hN : X.N.Nodup) (ok : BlkOk X.N X.env.scope scope own) (hg : ∀ (s : Shared) (H : Hp) (C : Addr) (cl : List (Str × Addr)) (fp : List Addr), PG (X.blk s H scope (compEnvC scope cl C X.env) fp) tg g)
    (hL : NoDK L) (hi : X.N[i]? = some nm) (hv : Vis X.env.scope nm) (ht : τ[i]? = some (some (.d (.dict (encK kd)))))
    (w : ∀ D, M D = none → ∃ Iv : Nat → Cs → Prop, Iv 0 (updC M D (.l [])) ∧ (∀ x, (∃ xs, x.2.2 = HO.dK xs) → ∀ n k d M', kd[n]? = some (k, d) → Iv n M' →
      WGw X.K (x :: L) (own.map (·.2)) g (.d (kD k)) (wipeK τ (own.map (·.2))) M' fun τ2 M3 => DEb X scope (x :: L) elt τ2 M3 fun z M5 => ∃ acc, M5 D = some (.l acc) ∧ acc.length < sizeLine ∧ Iv (n + 1) (updC M5 D (.l (acc ++ [z])))) ∧ (∀ M', Iv kd.length M' → Q (.c D) M'))
    (hd : (nm == ("__debug__" : Str)) = false := by decide) (hcd : (nm == ("__classdict__" : Str)) = false := by decide) (hs : ∀ x, foldedSetIterable (.Name nm p0) X.env x = pure x := by intro _; rfl) : DE X L (.ListComp elt [⟨tg, .Name nm p0, [], 0⟩] scope pos) τ M Q :=
  de_of (pe_lock (pe_lc (te := bE X scope elt) (tt := tYes) hc hN (pi_keys (pe_var hi hv hd hcd)) ok hg (fun _ _ _ _ _ => pts_nil) (fun s H C cl fp => ⟨fun pins s' σ H' Q' I h => h s H C cl fp pins s' I⟩) hs)) fun σ G H Q' gs gm k => by
    obtain ⟨v, hσ, av⟩ := gs.get i _ ht
    cases av with
    | d av =>
      generalize hz : encK kd = zs at av
      cases av with
      | dic hG l =>
        rename_i dd xs
        subst hz
        have lx := AtK.kv kd l
        have hx := lock_exact gm hL hG
        have hne := lock_ne gm hL hG
        refine ⟨dd, .dK xs, hx, trivial, fun od => ?_⟩
        have gmL := gm.lock (od := od) hL hG
        refine lcN_run (kd := kd) gs gmL hσ lx fun D hD => ?_
        obtain ⟨Iv, i0, turn, fin⟩ := w D hD
        exact ⟨Iv, i0, turn, fun M' G' H' iv e' g' => ⟨g'.lk _ List.mem_cons_self, k _ M' _ G' _ (fin _ iv) e' (g'.unlock hne (e' _ _ hG)) (.c D)⟩⟩
end
end Y

namespace Y
open PySem L2 PyProof.Rows
section
variable {X : Cx} {L : Lk} {τ : List (Option Sl)} {M : Cs} {elt tg iter c : Expr} {scope : Scope} {own : List (Str × Nat)} {pos spos py : Pos} {g : TG} {E : Ks} {i : Nat} {y : Str}
theorem ds_setLc0 (hc : X.calm = true) (hN : X.N.Nodup) (hy : X.N[i]? = some y) (hyl : X.env.scope.names.lookup y = some .local)
    (hsw : swapsWith (.ListComp elt [⟨tg, iter, [], 0⟩] scope pos) (some (.Name y py)) spos.line X.env = pure true) (ok : BlkOk X.N X.env.scope scope own) (hg : ∀ (s : Shared) (H : Hp) (C : Addr) (cl : List (Str × Addr)) (fp : List Addr), PG (X.blk s H scope (compEnvC scope cl C X.env) fp) tg g)
    (w : DI X L tg iter τ M fun n S ys M1 => ∀ D, M1 D = none → ∃ Iv : Nat → Cs → Prop, Iv 0 (updC M1 D (.l [])) ∧ (∀ i M', Iv i M' → S M') ∧
      (∀ i y M', i < n → ys i y → Iv i M' → WGw X.K L (own.map (·.2)) g y (wipeK τ (own.map (·.2))) M' fun τ2 M3 => DEb X scope L elt τ2 M3 fun z M4 => ∃ acc, M4 D = some (.l acc) ∧ acc.length < sizeLine ∧ Iv (i + 1) (updC M4 D (.l (acc ++ [z])))) ∧ (∀ M', Iv n M' → E.nx (τ.set i (some (.c D))) M'))
    (hs : ∀ x, foldedSetIterable iter X.env x = pure x := by intro _; rfl) : DS X L (.Assign [.Name y py] (.ListComp elt [⟨tg, iter, [], 0⟩] scope pos) spos) τ M E := by
  refine ds_of (ps_setLc (te := bE X scope elt) (tt := tYes) hc hN hy hyl hsw pi_s ok hg (fun _ _ _ _ _ => pts_nil) (fun s H C cl fp => ⟨fun pins s' σ H' Q' I h => h s H C cl fp pins s' I⟩) hs) fun σ G H D gs gm k => ?_
  refine we_lc (L := L) (M := M) (τ := τ) (Q := fun s M' => E.nx (τ.set i (some s)) M') (fun σ G H R gs gm k => w σ G H R gs gm fun n S ys M1 G1 H1 J q e1 g1 ok => k n S ys M1 G1 H1 J (fun D hD => ?_) e1 g1 ok) σ G H _ gs gm (fun s M1 v G1 H1 q e1 g1 a1 => (k.nx.mono e1).go q g1 ((gs.mono e1).set a1 i))
  obtain ⟨Iv, i0, st, turn, fin⟩ := q D hD
  refine ⟨Iv, i0, st, fun i y M' hi yy iv => ?_, fin⟩
  intro σ G H v Q' gs gm a k
  refine turn i y M' hi yy iv σ G H v Q' gs gm a fun τ' M' σ' G' H' h => k τ' M' σ' G' H' ?_
  intro σ G H Q' gs gm k
  exact k.go (b := true) ⟨fun _ => web (X := X) (scope := scope) h, fun z => nomatch z⟩ gm
end
section
variable {X : Cx} {L : Lk} {τ : List (Option Sl)} {M : Cs} {Q : Sl → Cs → Prop} {elt kx vx tg c : Expr} {scope : Scope} {own : List (Str × Nat)} {pos p0 apos mpos : Pos} {g : TG} {i : Nat} {nm : Str} {kd : List (Key × PyData)}
/-- y = [elt for tg in d if c] -/
theorem ds_setLcKeys {j : Nat} {y : Str} {py spos : Pos} {E : Ks} (hc : X.calm = true) (hN : X.N.Nodup) (hy : X.N[j]? = some y) (hyl : X.env.scope.names.lookup y = some .local)
    (hsw : swapsWith (.ListComp elt [⟨tg, .Name nm p0, [c], 0⟩] scope pos) (some (.Name y py)) spos.line X.env = pure true) (ok : BlkOk X.N X.env.scope scope own) (hg : ∀ (s : Shared) (H : Hp) (C : Addr) (cl : List (Str × Addr)) (fp : List Addr), PG (X.blk s H scope (compEnvC scope cl C X.env) fp) tg g)
    (hL : NoDK L) (hi : X.N[i]? = some nm) (hv : Vis X.env.scope nm) (ht : τ[i]? = some (some (.d (.dict (encK kd)))))
    (w : ∀ D, M D = none → ∃ Iv : Nat → Cs → Prop, Iv 0 (updC M D (.l [])) ∧ (∀ x, (∃ xs, x.2.2 = HO.dK xs) → ∀ n k d M', kd[n]? = some (k, d) → Iv n M' →
      WGw X.K (x :: L) (own.map (·.2)) g (.d (kD k)) (wipeK τ (own.map (·.2))) M' fun τ2 M3 => DTb X scope (x :: L) c τ2 M3 fun b M4 => (b = true → DEb X scope (x :: L) elt τ2 M4 fun z M5 => ∃ acc, M5 D = some (.l acc) ∧ acc.length < sizeLine ∧ Iv (n + 1) (updC M5 D (.l (acc ++ [z])))) ∧ (b = false → Iv (n + 1) M4)) ∧ (∀ M', Iv kd.length M' → E.nx (τ.set j (some (.c D))) M'))
    (hd : (nm == ("__debug__" : Str)) = false := by decide) (hcd : (nm == ("__classdict__" : Str)) = false := by decide)
    (hs : ∀ x, foldedSetIterable (.Name nm p0) X.env x = pure x := by intro _; rfl) : DS X L (.Assign [.Name y py] (.ListComp elt [⟨tg, .Name nm p0, [c], 0⟩] scope pos) spos) τ M E :=
  ds_of (ps_lock (ps_setLc (te := bE X scope elt) (tt := bT X scope c) hc hN hy hyl hsw (pi_keys (pe_var hi hv hd hcd)) ok hg (fun s H C cl fp => pts_one ⟨fun pins s' σ H' Q' I h => h s H C cl fp pins s' I⟩) (fun s H C cl fp => ⟨fun pins s' σ H' Q' I h => h s H C cl fp pins s' I⟩) hs)) fun σ G H D0 gs gm k => by
    obtain ⟨v, hσ, av⟩ := gs.get i _ ht
    cases av with
    | d av =>
      generalize hz : encK kd = zs at av
      cases av with
      | dic hG l =>
        rename_i dd xs
        subst hz
        have lx := AtK.kv kd l
        have hx := lock_exact gm hL hG
        have hne := lock_ne gm hL hG
        refine ⟨dd, .dK xs, hx, trivial, fun od => ?_⟩
        have gmL := gm.lock (od := od) hL hG
        refine lcK_run (kd := kd) gs gmL hσ lx fun D hD => ?_
        obtain ⟨Iv, i0, turn, fin⟩ := w D hD
        exact ⟨Iv, i0, turn, fun M' G' H' iv e' g' => ⟨g'.lk _ List.mem_cons_self, k.nx _ M' _ G' _ (fin _ iv) e' (g'.unlock hne (e' _ _ hG)) ((gs.mono e').set (.c D) j)⟩⟩
theorem lcI_run {σ : L2.St} {G HL : Hp} {Q2 : VK} {dd : Addr} {od : Obj} {xs : List (Key × V)} {vs : List Nat} (gs : GoodS X.K G σ τ) (gmL : GoodM X.K ((dd, od, .dK xs) :: L) M G HL) (hσ : σ[i]? = some (some (.ref dd))) (lx : KvAt X.K G xs (slK kd))
    (w : ∀ D, M D = none → ∃ Iv : Nat → Cs → Prop, Iv 0 (updC M D (.l [])) ∧ (∀ x, (∃ xs, x.2.2 = HO.dK xs) → ∀ n k d M', kd[n]? = some (k, d) → Iv n M' →
      WGw X.K (x :: L) vs g (.u [.d (kD k), .d d]) (wipeK τ vs) M' fun τ2 M3 => DTb X scope (x :: L) c τ2 M3 fun b M4 => (b = true → DEb X scope (x :: L) elt τ2 M4 fun z M5 => ∃ acc, M5 D = some (.l acc) ∧ acc.length < sizeLine ∧ Iv (n + 1) (updC M5 D (.l (acc ++ [z])))) ∧ (b = false → Iv (n + 1) M4)) ∧
      (∀ M' G' H', Iv kd.length M' → Ex G G' → GoodM X.K ((dd, od, .dK xs) :: L) M' G' H' → Q2 (.ref D) H')) : tLc (iItems (tVar i)) g (bT X scope c) (bE X scope elt) vs σ HL Q2 := by
        have hx0 : HL dd = some (.frz od (.dK xs)) := gmL.lk _ List.mem_cons_self
        refine ⟨.ref dd, hσ, dd, od, xs, rfl, hx0, fun D hD => ?_⟩
        obtain ⟨Iv, i0, turn, fin⟩ := w D (gmL.free hD).2
        have hl : xs.length = kd.length := by rw [lx.len]; simp [slK]
        refine ⟨fun n m H' => m = kd.length - n ∧ n ≤ kd.length ∧ ∃ M' G', Iv n M' ∧ Ex G G' ∧ GoodM X.K ((dd, od, .dK xs) :: L) M' G' H', ⟨kd.length, by simp, Nat.zero_le _, _, G, i0, Ex.refl _, gmL.newC hD ⟨[], upd_same, .nil⟩⟩, ?_⟩
        rintro n m H' ⟨rfl, hn, M', G', iv, e', g'⟩
        have hd' : H' dd = some (.frz od (.dK xs)) := g'.lk _ List.mem_cons_self
        by_cases hlt : n < kd.length
        · refine .inr ⟨⟨hd', by rw [hl]; exact hlt⟩, fun H2 => ∃ M2 G2, Iv (n + 1) M2 ∧ Ex G G2 ∧ GoodM X.K ((dd, od, .dK xs) :: L) M2 G2 H2, fun H2 ⟨M2, G2, h⟩ => ⟨kd.length - (n + 1), by omega, rfl, hlt, M2, G2, h⟩, fun x H2 hy => ?_⟩
          obtain ⟨T, k1, v1, hx1, rfl, nT, rfl⟩ := hy
          obtain ⟨u1, hu1, au1⟩ := (KvAt.mono e' lx).get (i := n) (k := (kd[n]).1) (s := .d (kd[n]).2) (by unfold slK; rw [List.getElem?_map, List.getElem?_eq_getElem hlt]; rfl)
          rw [hx1] at hu1
          have hu2 := Option.some.inj hu1
          have f := g'.free nT
          have ek : k1 = (kd[n]).1 := (Prod.mk.inj hu2).1
          have ev : v1 = u1 := (Prod.mk.inj hu2).2
          subst ev
          have ak : At X.K (upd G' T (.tup [kV k1, v1])) (kV k1) (kD (kd[n]).1) := by
            rw [← ek]
            cases k1 with
            | inl z => exact .int z
            | inr z => exact .str z
          have e2 := Ex.new (G := G') (o := .tup [kV k1, v1]) f.1
          refine turn (dd, od, .dK xs) ⟨xs, rfl⟩ n (kd[n]).1 (kd[n]).2 M' (List.getElem?_eq_getElem hlt) iv _ _ _ _ _ ((gs.mono (e'.trans e2)).wipe vs) (g'.newD nT) (.u upd_same (.cons (.d ak) (.cons (au1.mono e2) .nil))) fun τ3 M3 σ3 G3 H3 q3 e3 g3 s3 z3 => ?_
          refine ⟨z3.trans wipe_wipe, ?_⟩
          have e13 := (e'.trans e2).trans e3
          refine wtb (X := X) (scope := scope) (e := c) q3 σ3 G3 H3 _ s3 g3 fun b M4 G4 H4 q4 e4 g4 => ?_
          cases b with
          | true =>
            rw [if_pos rfl]
            refine web (X := X) (scope := scope) (e := elt) (q4.1 rfl) σ3 G4 H4 _ (s3.mono e4) g4 fun z M5 v5 G5 H5 ⟨acc, hacc, hl5, iv5⟩ e5 g5 a5 => ?_
            obtain ⟨f5, ys, h1, h2⟩ := g5.cell D _ hacc
            refine ⟨ys, h1, by rw [h2.len]; exact hl5, _, G5, iv5, (e13.trans e4).trans e5, ?_⟩
            exact g5.write hacc h1 (fun _ _ z => nomatch z) ⟨_, upd_same, h2.append (.cons a5 .nil)⟩
          | false =>
            rw [if_neg Bool.false_ne_true]
            exact ⟨M4, G4, q4.2 rfl, e13.trans e4, g4⟩
        · have e : n = kd.length := by omega
          subst e
          exact .inl ⟨⟨hd', by rw [hl]; exact Nat.le_refl _⟩, fin M' G' H' iv e' g'⟩
/-- [elt for tg in d.items() if c] -/
theorem de_lcItems {elts : List Expr} {kk : Nat} {tpos : Pos} (hc : X.calm = true) (hN : X.N.Nodup) (ok : BlkOk X.N X.env.scope scope own) (hg : ∀ (s : Shared) (H : Hp) (C : Addr) (cl : List (Str × Addr)) (fp : List Addr), PG (X.blk s H scope (compEnvC scope cl C X.env) fp) (.Tuple elts kk tpos) g)
    (hL : NoDK L) (hi : X.N[i]? = some nm) (hv : Vis X.env.scope nm) (ht : τ[i]? = some (some (.d (.dict (encK kd)))))
    (w : ∀ D, M D = none → ∃ Iv : Nat → Cs → Prop, Iv 0 (updC M D (.l [])) ∧ (∀ x, (∃ xs, x.2.2 = HO.dK xs) → ∀ n k d M', kd[n]? = some (k, d) → Iv n M' →
      WGw X.K (x :: L) (own.map (·.2)) g (.u [.d (kD k), .d d]) (wipeK τ (own.map (·.2))) M' fun τ2 M3 => DTb X scope (x :: L) c τ2 M3 fun b M4 => (b = true → DEb X scope (x :: L) elt τ2 M4 fun z M5 => ∃ acc, M5 D = some (.l acc) ∧ acc.length < sizeLine ∧ Iv (n + 1) (updC M5 D (.l (acc ++ [z])))) ∧ (b = false → Iv (n + 1) M4)) ∧ (∀ M', Iv kd.length M' → Q (.c D) M'))
    (hd : (nm == ("__debug__" : Str)) = false := by decide) (hcd : (nm == ("__classdict__" : Str)) = false := by decide)
    (hbase : attributeBase (.Name nm p0) "items" X.env (eval (.Name nm p0) X.env) = eval (.Name nm p0) X.env := by rfl) (hline : (apos.endLine == mpos.line) = true := by rfl)
    (hs : ∀ x, foldedSetIterable (.Call (.Attribute (.Name nm p0) "items" apos) [] [] mpos) X.env x = pure x := by intro _; rfl) : DE X L (.ListComp elt [⟨.Tuple elts kk tpos, .Call (.Attribute (.Name nm p0) "items" apos) [] [] mpos, [c], 0⟩] scope pos) τ M Q :=
  de_of (pe_lock (pe_lc (te := bE X scope elt) (tt := bT X scope c) hc hN (pi_items (pe_var hi hv hd hcd) hbase hline) ok hg (fun s H C cl fp => pts_one ⟨fun pins s' σ H' Q' I h => h s H C cl fp pins s' I⟩) (fun s H C cl fp => ⟨fun pins s' σ H' Q' I h => h s H C cl fp pins s' I⟩) hs)) fun σ G H Q' gs gm k => by
    obtain ⟨v, hσ, av⟩ := gs.get i _ ht
    cases av with
    | d av =>
      generalize hz : encK kd = zs at av
      cases av with
      | dic hG l =>
        rename_i dd xs
        subst hz
        have lx := AtK.kv kd l
        have hx := lock_exact gm hL hG
        have hne := lock_ne gm hL hG
        refine ⟨dd, .dK xs, hx, trivial, fun od => ?_⟩
        have gmL := gm.lock (od := od) hL hG
        refine lcI_run (kd := kd) gs gmL hσ lx fun D hD => ?_
        obtain ⟨Iv, i0, turn, fin⟩ := w D hD
        exact ⟨Iv, i0, turn, fun M' G' H' iv e' g' => ⟨g'.lk _ List.mem_cons_self, k _ M' _ G' _ (fin _ iv) e' (g'.unlock hne (e' _ _ hG)) (.c D)⟩⟩
end
section
variable {X : Cx} {L : Lk} {τ : List (Option Sl)} {M : Cs} {Q : Sl → Cs → Prop} {e a b c o tg iter : Expr} {es : List Expr} {pos apos cpos pos' p0 : Pos} {E : Ks} {st : Stmt} {sts body : List Stmt} {nm : Str} {i : Nat}
/-- for k in d, d a name that holds data -/
theorem ds_forKeysL {kd : List (Key × PyData)} (hp : PassesOwn (model X.prog X.w) X.A X.env X.xe) (hc : X.calm = true) (hL : NoDK L) (hN : X.N[i]? = some nm) (hv : Vis X.env.scope nm) (ht : τ[i]? = some (some (.d (.dict (encK kd)))))
    (Iv : Nat → List (Option Sl) → Cs → Prop) (i0 : Iv 0 τ M)
    (turn : ∀ x, (∃ xs, x.2.2 = HO.dK xs ∧ xs.length = kd.length) → ∀ n k d τ' M', kd[n]? = some (k, d) → Iv n τ' M' → DG X (x :: L) tg (.d (kD k)) τ' M' fun τ2 M2 => DB X (x :: L) body τ2 M2 { E with nx := Iv (n + 1), ct := Iv (n + 1), bk := E.nx })
    (fin : ∀ τ' M', Iv kd.length τ' M' → E.nx τ' M')
    (hd : (nm == ("__debug__" : Str)) = false := by decide) (hcd : (nm == ("__classdict__" : Str)) = false := by decide)
    (hs : ∀ x, foldedSetIterable (.Name nm p0) X.env x = pure x := by intro _; rfl) : DS X L (.For tg (.Name nm p0) body [] pos) τ M E :=
  ds_of (ps_lock (ps_for hp hc (pi_keys (pe_var hN hv hd hcd)) pg_s pss_s hs)) fun σ G H D gs gm k => by
    obtain ⟨v, hσ, av⟩ := gs.get i _ ht
    cases av with
    | d av =>
      generalize hz : encK kd = zs at av
      cases av with
      | dic hG l =>
        rename_i dd xs
        subst hz
        have lx := AtK.kv kd l
        have hx := lock_exact gm hL hG
        have hne := lock_ne gm hL hG
        refine ⟨dd, .dK xs, hx, trivial, fun od => ?_⟩
        have gmL := gm.lock (od := od) hL hG
        have kL : EndsOk X.K ((dd, od, .dK xs) :: L) G E ⟨fun σ' H' => H' dd = some (.frz od (.dK xs)) ∧ D.nx σ' (upd H' dd (.dK xs)), fun v H' => H' dd = some (.frz od (.dK xs)) ∧ D.rt v (upd H' dd (.dK xs)), fun σ' H' => H' dd = some (.frz od (.dK xs)) ∧ D.bk σ' (upd H' dd (.dK xs)), fun σ' H' => H' dd = some (.frz od (.dK xs)) ∧ D.ct σ' (upd H' dd (.dK xs))⟩ :=
          ⟨fun τ' M' σ' G' H' q e g s => ⟨g.lk _ List.mem_cons_self, k.nx _ _ _ G' _ q e (g.unlock hne (e _ _ hG)) s⟩, fun s M' v G' H' q e g a => ⟨g.lk _ List.mem_cons_self, k.rt _ _ _ G' _ q e (g.unlock hne (e _ _ hG)) a⟩,
            fun τ' M' σ' G' H' q e g s => ⟨g.lk _ List.mem_cons_self, k.bk _ _ _ G' _ q e (g.unlock hne (e _ _ hG)) s⟩, fun τ' M' σ' G' H' q e g s => ⟨g.lk _ List.mem_cons_self, k.ct _ _ _ G' _ q e (g.unlock hne (e _ _ hG)) s⟩⟩
        refine ⟨.ref dd, hσ, dd, od, rfl, .inl ⟨xs, upd_same, ?_⟩⟩
        refine ⟨fun n m σ' H' => m = kd.length - n ∧ n ≤ kd.length ∧ ∃ τ' M' G', Iv n τ' M' ∧ Ex G G' ∧ GoodS X.K G' σ' τ' ∧ GoodM X.K ((dd, od, .dK xs) :: L) M' G' H', ⟨kd.length, by simp, Nat.zero_le _, τ, M, G, i0, Ex.refl _, gs, gmL⟩, ?_⟩
        rintro n m σ' H' ⟨rfl, hn, τ', M', G', iv, e', s', g'⟩
        have hl : xs.length = kd.length := by rw [lx.len]; simp [slK]
        have hd' : H' dd = some (.frz od (.dK xs)) := g'.lk _ List.mem_cons_self
        by_cases hlt : n < kd.length
        · refine .inr ⟨⟨hd', by rw [hl]; exact hlt⟩, fun σ2 H2 => ∃ τ2 M2 G2, Iv (n + 1) τ2 M2 ∧ Ex G G2 ∧ GoodS X.K G2 σ2 τ2 ∧ GoodM X.K ((dd, od, .dK xs) :: L) M2 G2 H2, fun σ2 H2 ⟨τ2, M2, G2, h⟩ => ⟨kd.length - (n + 1), by omega, rfl, hlt, τ2, M2, G2, h⟩, fun x H2 hy => ?_⟩
          obtain ⟨rfl, k1, v1, hx1, rfl⟩ := hy
          obtain ⟨u1, hu1, au1⟩ := (KvAt.mono e' lx).get (i := n) (k := (kd[n]).1) (s := .d (kd[n]).2) (by unfold slK; rw [List.getElem?_map, List.getElem?_eq_getElem hlt]; rfl)
          rw [hx1] at hu1
          have hu2 := Option.some.inj hu1
          have ek : k1 = (kd[n]).1 := (Prod.mk.inj hu2).1
          have ak : At X.K G' (kV k1) (kD (kd[n]).1) := by
            rw [← ek]
            cases k1 with
            | inl z => exact .int z
            | inr z => exact .str z
          refine turn (dd, od, .dK xs) ⟨xs, rfl, hl⟩ n (kd[n]).1 (kd[n]).2 τ' M' (List.getElem?_eq_getElem hlt) iv σ' _ _ _ _ s' g' (.d ak) fun τ3 M3 σ3 G3 H3 q3 e3 g3 s3 => ?_
          have e13 := e'.trans e3
          exact q3 σ3 G3 H3 _ s3 g3 ⟨fun τ4 M4 σ4 G4 H4 q4 e4 g4 s4 => ⟨τ4, M4, G4, q4, e13.trans e4, s4, g4⟩, kL.rt.mono e13, kL.nx.mono e13, fun τ4 M4 σ4 G4 H4 q4 e4 g4 s4 => ⟨τ4, M4, G4, q4, e13.trans e4, s4, g4⟩⟩
        · have e : n = kd.length := by omega
          subst e
          exact .inl ⟨⟨hd', by rw [hl]; exact Nat.le_refl _⟩, kL.nx τ' M' σ' G' H' (fin _ _ iv) e' g' s'⟩
end
end Y

namespace Pg
open PySem L2 Y PyProof.Rows
def topS (i : Nat) : Stmt := PySem.Challenge.pw_lastcopy_k36_possible_survivor_counts.main.body.getD i (.Pass ⟨0, 0, 0, 0⟩)
abbrev s_plain_integer : Stmt := topS 8
theorem sc_plain_integer : FnScope ["value"] ["value"] (defScope s_plain_integer) := ⟨rfl, rfl, rfl, by decide +kernel, rfl, by decide +kernel, by decide +kernel⟩
abbrev s_plain_text : Stmt := topS 9
theorem sc_plain_text : FnScope ["value"] ["value"] (defScope s_plain_text) := ⟨rfl, rfl, rfl, by decide +kernel, rfl, by decide +kernel, by decide +kernel⟩
abbrev s_plain_writer : Stmt := topS 10
theorem sc_plain_writer : FnScope ["value", "name"] ["value"] (defScope s_plain_writer) := ⟨rfl, rfl, rfl, by decide +kernel, rfl, by decide +kernel, by decide +kernel⟩
abbrev s_plain_line_counts : Stmt := topS 11
theorem sc_plain_line_counts : FnScope ["value", "counts", "key", "number", "writer", "count"] ["value"] (defScope s_plain_line_counts) := ⟨rfl, rfl, rfl, by decide +kernel, rfl, by decide +kernel, by decide +kernel⟩
abbrev s_plain_table : Stmt := topS 12
theorem sc_plain_table : FnScope ["line_counts", "value", "table", "key", "item", "writer", "number"] ["line_counts", "value"] (defScope s_plain_table) := ⟨rfl, rfl, rfl, by decide +kernel, rfl, by decide +kernel, by decide +kernel⟩
abbrev s_checked_line_counts : Stmt := topS 13
theorem sc_checked_line_counts : FnScope ["value", "counts"] ["value"] (defScope s_checked_line_counts) := ⟨rfl, rfl, rfl, by decide +kernel, rfl, by decide +kernel, by decide +kernel⟩
abbrev s_checked_table : Stmt := topS 14
theorem sc_checked_table : FnScope ["line_counts", "value", "table"] ["line_counts", "value"] (defScope s_checked_table) := ⟨rfl, rfl, rfl, by decide +kernel, rfl, by decide +kernel, by decide +kernel⟩
abbrev s_can_survive_counts : Stmt := topS 16
theorem sc_can_survive_counts : FnScope ["line_counts", "survivor_counts", "counts", "survivors", "positive", "writer"] ["line_counts", "survivor_counts"] (defScope s_can_survive_counts) := ⟨rfl, rfl, rfl, by decide +kernel, rfl, by decide +kernel, by decide +kernel⟩
abbrev s__law_make_source : Stmt := topS 18
theorem sc__law_make_source : FnScope ["script", "k", "cell"] ["script", "k"] (defScope s__law_make_source) := ⟨rfl, rfl, rfl, by decide +kernel, rfl, by decide +kernel, by decide +kernel⟩
abbrev s__law_draw : Stmt := topS 19
theorem sc__law_draw : FnScope ["source", "many", "result", "mixed"] ["source", "many"] (defScope s__law_draw) := ⟨rfl, rfl, rfl, by decide +kernel, rfl, by decide +kernel, by decide +kernel⟩
abbrev s__law_writer_names : Stmt := topS 20
theorem sc__law_writer_names : FnScope ["source", "many", "letters", "stem", "free", "turn"] ["source", "many"] (defScope s__law_writer_names) := ⟨rfl, rfl, rfl, by decide +kernel, rfl, by decide +kernel, by decide +kernel⟩
abbrev s__law_small_counts : Stmt := topS 21
theorem sc__law_small_counts : FnScope ["source", "most", "result", "free", "name"] ["source", "most"] (defScope s__law_small_counts) := ⟨rfl, rfl, rfl, by decide +kernel, rfl, by decide +kernel, by decide +kernel⟩
abbrev s__law_following_lines : Stmt := topS 22
theorem sc__law_following_lines : FnScope ["counts", "lines", "result", "name", "come", "last", "one", "number"] ["counts", "lines"] (defScope s__law_following_lines) := ⟨rfl, rfl, rfl, by decide +kernel, rfl, by decide +kernel, by decide +kernel⟩
abbrev s__law_all_final : Stmt := topS 23
theorem sc__law_all_final : FnScope ["counts", "result", "waiting", "lines", "line"] ["counts"] (defScope s__law_all_final) := ⟨rfl, rfl, rfl, by decide +kernel, rfl, by decide +kernel, by decide +kernel⟩
abbrev s__law_large_counts : Stmt := topS 24
theorem sc__law_large_counts : FnScope ["source", "many", "result", "name", "some"] ["source", "many"] (defScope s__law_large_counts) := ⟨rfl, rfl, rfl, by decide +kernel, rfl, by decide +kernel, by decide +kernel⟩
abbrev s__law_tables : Stmt := topS 25
theorem sc__law_tables : FnScope ["counts", "result", "name", "longer", "one", "number"] ["counts"] (defScope s__law_tables) := ⟨rfl, rfl, rfl, by decide +kernel, rfl, by decide +kernel, by decide +kernel⟩
abbrev s__law_line_table : Stmt := topS 26
theorem sc__law_line_table : FnScope ["counts", "lines", "one", "number", "name"] ["counts", "lines"] (defScope s__law_line_table) := ⟨rfl, rfl, rfl, by decide +kernel, rfl, by decide +kernel, by decide +kernel⟩
abbrev s__law_small_holds : Stmt := topS 27
theorem sc__law_small_holds : FnScope ["source", "counts", "some", "numbers", "sparse", "before", "answers", "lines", "name", "many"] ["source", "counts"] (defScope s__law_small_holds) := ⟨rfl, rfl, rfl, by decide +kernel, rfl, by decide +kernel, by decide +kernel⟩
abbrev s__law_large_holds : Stmt := topS 28
theorem sc__law_large_holds : FnScope ["source", "counts", "numbers", "name", "many", "some", "other", "there", "want"] ["source", "counts"] (defScope s__law_large_holds) := ⟨rfl, rfl, rfl, by decide +kernel, rfl, by decide +kernel, by decide +kernel⟩
abbrev s_law : Stmt := topS 29
theorem sc_law : FnScope ["script", "k", "source", "turn"] ["script"] (defScope s_law) := ⟨rfl, rfl, rfl, by decide +kernel, rfl, by decide +kernel, by decide +kernel⟩

local macro_rules | `(tactic| walk_at "vis") => `(tactic| first | exact Or.inl rfl | exact Or.inr (Or.inl rfl) | exact Or.inr (Or.inr rfl))
local macro_rules | `(tactic| walk_at "e1") => `(tactic| first | walk_at "nm" | refine de_int ?_ | refine de_add ?_ | refine de_sub ?_ | refine de_str ?_ | refine de_non ?_ | refine de_bl ?_)
local macro_rules | `(tactic| walk_at "go") => `(tactic| repeat (first | ((with_reducible show DE _ _ _ _ _ _); walk_at "e1") | ((with_reducible show DA _ _ _ _ _ _); refine da_cons ?_) | refine ⟨_, _, rfl, rfl, ?_⟩))

section
variable {P : Program} {w : World} {K : PySem.W.Frag} {mg : Str → Option Value} {base : Heap}

local macro_rules | `(tactic| walk_at "nm") => `(tactic| first | ((with_reducible refine de_name (x := "value") (i := 0) (s := ?s) ?hN ?hv ?ht ?q ?hd ?hcd); (case hN => rfl); (case hv => walk_at "vis"); (case ht => rfl); (case hd => decide); (case hcd => decide)))


def R_plain_integer : Rr := fun _ ss M Q => ∃ x, ss = [.d x] ∧ Q (.d (intOf x)) M
theorem ok_plain_integer (F : FunAt K mg "plain_integer" s_plain_integer ["value"]) (b1 : mg "isinstance" = none) (b2 : mg "int" = none) (b3 : mg "bool" = none) : Cal P w K mg base "plain_integer" 1 ["value"] R_plain_integer := by
  refine cal_of F sc_plain_integer (fun _ ss _ _ ⟨x, h, _⟩ => by rw [h]; rfl) (fun f cdv A outer s H E L ss M Q hr h => ?_)
  obtain ⟨x, rfl, q⟩ := h
  refine db_cons (ds_if (dt_and2 (dt_val (de_callB call_isi (by rfl) b1 bt_isinstance (da_cons ?_)))))
  walk_at "nm"
  refine da_cons (de_type (by rfl) b2 bt_int (da_nil (k_isaInt ⟨_, rfl, fun h1 => ?_, fun h1 => ?_⟩)))
  · refine dt_not (dt_val (de_callB call_isi (by rfl) b1 bt_isinstance (da_cons ?_)))
    walk_at "nm"
    refine da_cons (de_type (by rfl) b3 bt_bool (da_nil (k_isaBool ⟨_, rfl, fun h2 => ?_, fun h2 => ?_⟩)))
    · refine db_cons (ds_ret (de_callT call_int1 (by rfl) b2 bt_int (da_cons ?_)))
      walk_at "nm"
      cases x with
      | int i => exact da_nil (k_intI q)
      | bool b => cases h2
      | _ => cases h1
    · refine db_nil (db_cons (ds_ret (de_non ?_)))
      cases x with
      | bool b => exact q
      | int i => cases h2
      | _ => cases h1
  · refine ⟨no1, fun _ => db_nil (db_cons (ds_ret (de_non ?_)))⟩
    cases x with
    | int i => cases h1
    | _ => exact q

local macro_rules | `(tactic| walk_at "nm") => `(tactic| first | ((with_reducible refine de_name (x := "value") (i := 0) (s := ?s) ?hN ?hv ?ht ?q ?hd ?hcd); (case hN => rfl); (case hv => walk_at "vis"); (case ht => rfl); (case hd => decide); (case hcd => decide)))


def R_plain_text : Rr := fun _ ss M Q => ∃ x, ss = [.d x] ∧ short x ∧ Q (.d (strOf x)) M
theorem ok_plain_text (F : FunAt K mg "plain_text" s_plain_text ["value"]) (b1 : mg "isinstance" = none) (b2 : mg "str" = none) : Cal P w K mg base "plain_text" 1 ["value"] R_plain_text := by
  refine cal_of F sc_plain_text (fun _ ss _ _ ⟨x, h, _⟩ => by rw [h]; rfl) (fun f cdv A outer s H E L ss M Q hr h => ?_)
  obtain ⟨x, rfl, hs, q⟩ := h
  refine db_cons (ds_if (dt_val (de_callB call_isi (by rfl) b1 bt_isinstance (da_cons ?_))))
  walk_at "nm"
  refine da_cons (de_type (by rfl) b2 bt_str (da_nil (k_isaStr ⟨_, rfl, fun h1 => ?_, fun h1 => ?_⟩)))
  · refine db_cons (ds_ret (de_join (de_str ⟨_, rfl, de_lstD (da_cons ?_)⟩)))
    walk_at "nm"
    cases x with
    | str z =>
      refine da_nil ⟨[.str z], rfl, (by show 1 ≤ sizeLine; decide), [z], rfl, ?_, ?_⟩
      · have hs : z.length ≤ 16777216 := hs
        show z.length + 0 + 1 * 0 ≤ 16777216
        omega
      · rw [Y.join_one]
        exact q
    | _ => cases h1
  · refine db_nil (db_cons (ds_ret (de_non ?_)))
    cases x with
    | str z => cases h1
    | _ => exact q

local macro_rules | `(tactic| walk_at "nm") => `(tactic| first | ((with_reducible refine de_name (x := "value") (i := 0) (s := ?s) ?hN ?hv ?ht ?q ?hd ?hcd); (case hN => rfl); (case hv => walk_at "vis"); (case ht => rfl); (case hd => decide); (case hcd => decide)) | ((with_reducible refine de_name (x := "name") (i := 1) (s := ?s) ?hN ?hv ?ht ?q ?hd ?hcd); (case hN => rfl); (case hv => walk_at "vis"); (case ht => rfl); (case hd => decide); (case hcd => decide)))


def R_plain_writer : Rr := fun _ ss M Q => ∃ x, ss = [.d x] ∧ short x ∧ Q (.d (writerOf x)) M
theorem ok_plain_writer (F : FunAt K mg "plain_writer" s_plain_writer ["value"]) (c1 : Cal P w K mg base "plain_text" 1 ["value"] R_plain_text) (b1 : mg "len" = none) (g1 : ∃ t, mg "LONGEST_NAME" = some (.int 8 t)) : Cal P w K mg base "plain_writer" 2 ["value"] R_plain_writer := by
  refine cal_of F sc_plain_writer (fun _ ss _ _ ⟨x, h, _⟩ => by rw [h]; rfl) (fun f cdv A outer s H E L ss M Q hr h => ?_)
  obtain ⟨x, rfl, hs, q⟩ := h
  obtain ⟨t8, g1⟩ := g1
  refine db_cons (ds_set (i := 1) sc_plain_writer.nd rfl (.inl rfl) (de_callC c1 hr (by rfl) (da_cons ?_)))
  walk_at "nm"
  refine da_nil ⟨x, rfl, hs, ?_⟩
  refine db_cons (ds_if (dt_or2 (dt_cmp op_isN ?_ (nomark _))))
  walk_at "nm"
  refine de_non (k_isN ⟨_, rfl, fun h1 => ?_, fun h1 => ?_⟩)
  · refine ⟨fun _ => db_cons (ds_ret (de_non ?_)), no2⟩
    cases x with
    | str z => cases h1
    | _ => exact q
  · cases x with
    | str z =>
      have hs : z.length ≤ 16777216 := hs
      refine dt_not (dt_chain op_le op_le (de_int (de_callB call_len_str (by rfl) b1 bt_len (da_cons ?_))))
      walk_at "nm"
      refine da_nil (k_lenS hs (k_bool ⟨_, rfl, fun h2 => de_glob (by rfl) g1 ⟨_, rfl⟩ (k_bool ⟨_, rfl, fun h3 => ?_, fun h3 => ?_⟩), fun h2 => ?_⟩))
      · refine db_cons (ds_ret (de_non ?_))
        have : okName z = false := by
          unfold okName
          have e : ¬ z.length ≤ 8 := by
            have := h3
            simp only [Bool.not_eq_true', decide_eq_false_iff_not] at this
            omega
          simp [e]
        simp only [writerOf, this] at q
        exact q
      · have e1 : 1 ≤ z.length := by
          have := h2
          simp only [decide_eq_true_eq] at this
          omega
        have e2 : z.length ≤ 8 := by
          have := h3
          simp only [Bool.not_eq_false', decide_eq_true_eq] at this
          omega
        refine db_nil (db_cons (ds_if (dt_and3 (dt_val (de_mS0 PySem.F.slot_str_isascii PySem.F.type_str_isascii mt_isascii ?_)))))
        walk_at "nm"
        refine ⟨z, rfl, _, rfl, fun h4 => ?_, fun h4 => ?_⟩
        · refine dt_val (de_mS0 PySem.F.slot_str_isalpha PySem.F.type_str_isalpha mt_isalpha ?_)
          walk_at "nm"
          refine ⟨z, rfl, _, rfl, fun h5 => ?_, fun h5 => ?_⟩
          · refine dt_val (de_mS0 PySem.F.slot_str_islower PySem.F.type_str_islower mt_islower ?_)
            walk_at "nm"
            refine ⟨z, rfl, _, rfl, fun h6 => ?_, fun h6 => ?_⟩
            · refine db_cons (ds_ret ?_)
              walk_at "nm"
              simp only [writerOf, okName, e1, e2, h4, h5, h6] at q
              exact q
            · refine db_nil (db_cons (ds_ret (de_non ?_)))
              simp only [writerOf, okName, h6] at q
              simpa using q
          · refine ⟨no1, fun _ => db_nil (db_cons (ds_ret (de_non ?_)))⟩
            simp only [writerOf, okName, h5] at q
            simpa using q
        · refine ⟨no1, fun _ => db_nil (db_cons (ds_ret (de_non ?_)))⟩
          simp only [writerOf, okName, h4] at q
          simpa using q
      · refine ⟨fun _ => db_cons (ds_ret (de_non ?_)), no2⟩
        have : okName z = false := by
          unfold okName
          have e : ¬ 1 ≤ z.length := by
            have := h2
            simp only [decide_eq_false_iff_not] at this
            omega
          simp [e]
        simp only [writerOf, this] at q
        exact q
    | _ => cases h1

end

end Pg

namespace Pg
open PySem L2 Y PyProof.Rows

local macro_rules | `(tactic| walk_at "vis") => `(tactic| first | exact Or.inl rfl | exact Or.inr (Or.inl rfl) | exact Or.inr (Or.inr rfl))
local macro_rules | `(tactic| walk_at "e1") => `(tactic| first | walk_at "nm" | refine de_int ?_ | refine de_add ?_ | refine de_sub ?_ | refine de_str ?_ | refine de_non ?_ | refine de_bl ?_)
local macro_rules | `(tactic| walk_at "go") => `(tactic| repeat (first | ((with_reducible show DE _ _ _ _ _ _); walk_at "e1") | ((with_reducible show DA _ _ _ _ _ _); refine da_cons ?_) | refine ⟨_, _, rfl, rfl, ?_⟩))

section
variable {P : Program} {w : World} {K : PySem.W.Frag} {mg : Str → Option Value} {base : Heap}

end

end Pg

namespace Pg
open PySem L2 Y PyProof.Rows

local macro_rules | `(tactic| walk_at "vis") => `(tactic| first | exact Or.inl rfl | exact Or.inr (Or.inl rfl) | exact Or.inr (Or.inr rfl))
local macro_rules | `(tactic| walk_at "e1") => `(tactic| first | walk_at "nm" | refine de_int ?_ | refine de_add ?_ | refine de_sub ?_ | refine de_str ?_ | refine de_non ?_ | refine de_bl ?_)
local macro_rules | `(tactic| walk_at "go") => `(tactic| repeat (first | ((with_reducible show DE _ _ _ _ _ _); walk_at "e1") | ((with_reducible show DA _ _ _ _ _ _); refine da_cons ?_) | refine ⟨_, _, rfl, rfl, ?_⟩))

section
variable {P : Program} {w : World} {K : PySem.W.Frag} {mg : Str → Option Value} {base : Heap}

end

end Pg

namespace Pg
open PySem L2 Y PyProof.Rows

local macro_rules | `(tactic| walk_at "vis") => `(tactic| first | exact Or.inl rfl | exact Or.inr (Or.inl rfl) | exact Or.inr (Or.inr rfl))
local macro_rules | `(tactic| walk_at "e1") => `(tactic| first | walk_at "nm" | refine de_int ?_ | refine de_add ?_ | refine de_sub ?_ | refine de_str ?_ | refine de_non ?_ | refine de_bl ?_)
local macro_rules | `(tactic| walk_at "go") => `(tactic| repeat (first | ((with_reducible show DE _ _ _ _ _ _); walk_at "e1") | ((with_reducible show DA _ _ _ _ _ _); refine da_cons ?_) | refine ⟨_, _, rfl, rfl, ?_⟩))

section
variable {P : Program} {w : World} {K : PySem.W.Frag} {mg : Str → Option Value} {base : Heap}

local macro_rules | `(tactic| walk_at "nm") => `(tactic| first | ((with_reducible refine de_name (x := "value") (i := 0) (s := ?s) ?hN ?hv ?ht ?q ?hd ?hcd); (case hN => rfl); (case hv => walk_at "vis"); (case ht => rfl); (case hd => decide); (case hcd => decide)) | ((with_reducible refine de_name (x := "counts") (i := 1) (s := ?s) ?hN ?hv ?ht ?q ?hd ?hcd); (case hN => rfl); (case hv => walk_at "vis"); (case ht => rfl); (case hd => decide); (case hcd => decide)) | ((with_reducible refine de_name (x := "key") (i := 2) (s := ?s) ?hN ?hv ?ht ?q ?hd ?hcd); (case hN => rfl); (case hv => walk_at "vis"); (case ht => rfl); (case hd => decide); (case hcd => decide)) | ((with_reducible refine de_name (x := "number") (i := 3) (s := ?s) ?hN ?hv ?ht ?q ?hd ?hcd); (case hN => rfl); (case hv => walk_at "vis"); (case ht => rfl); (case hd => decide); (case hcd => decide)) | ((with_reducible refine de_name (x := "writer") (i := 4) (s := ?s) ?hN ?hv ?ht ?q ?hd ?hcd); (case hN => rfl); (case hv => walk_at "vis"); (case ht => rfl); (case hd => decide); (case hcd => decide)) | ((with_reducible refine de_name (x := "count") (i := 5) (s := ?s) ?hN ?hv ?ht ?q ?hd ?hcd); (case hN => rfl); (case hv => walk_at "vis"); (case ht => rfl); (case hd => decide); (case hcd => decide)))


/-- the same counts, in order -/
def Sorted (cs cs' : Cnt) : Prop := cs'.Perm cs ∧ sortedS (cs'.map (·.1)) = true
def R_plain_line_counts : Rr := fun L ss M Q => ∃ cs, NoDK L ∧ ss = [.d (eCnt cs)] ∧ okCnt cs ∧ ∀ cs', Sorted cs cs' → Q (.d (eCnt cs')) M
theorem getC_mem {cs : Cnt} (hn : (cs.map (·.1)).Nodup) {p : Str × Int} (h : p ∈ cs) : getC cs p.1 = some p.2 := by
  induction cs with
  | nil => cases h
  | cons a r ih =>
    rw [List.map_cons, List.nodup_cons] at hn
    rcases List.mem_cons.mp h with rfl | h
    · simp [getC, List.find?_cons]
    · have ne : ¬ a.1 = p.1 := fun e => hn.1 (by rw [e]; exact List.mem_map_of_mem h)
      have := ih hn.2 h
      simp only [getC, List.find?_cons, ne, decide_false] at this ⊢
      exact this
theorem putS_new {kvs : List (Key × Sl)} {k : Key} {v : Sl} (h : k ∉ kvs.map (·.1)) : putS kvs k v = kvs ++ [(k, v)] := by
  unfold putS
  rw [if_neg]
  simp only [List.any_eq_true, decide_eq_true_eq, not_exists, not_and]
  exact fun p hp e => h (e ▸ List.mem_map_of_mem hp)
theorem slK_take (cs : Cnt) (i : Nat) : slK ((kdC cs).take i) = (slK (kdC cs)).take i := by
  unfold slK
  rw [List.map_take]
theorem keys_C (cs : Cnt) : (slK (kdC cs)).map (·.1) = (cs.map (·.1)).map Sum.inr := by
  simp [slK, kdC]
theorem perm_of_keys {cs : Cnt} (hn : (cs.map (·.1)).Nodup) {ys : List Str} (h : ys.Perm (cs.map (·.1))) : (ys.map fun y => (y, (getC cs y).getD 0)).Perm cs := by
  have h2 := h.map (fun y => (y, (getC cs y).getD 0))
  refine h2.trans (List.Perm.of_eq ?_)
  rw [List.map_map]
  conv => rhs; rw [← List.map_id cs]
  apply List.map_congr_left
  intro p hp
  simp only [Function.comp, getC_mem hn hp, Option.getD_some, id]
theorem ok_plain_line_counts (F : FunAt K mg "plain_line_counts" s_plain_line_counts ["value"]) (c1 : Cal P w K mg base "plain_writer" 2 ["value"] R_plain_writer) (c2 : Cal P w K mg base "plain_integer" 1 ["value"] R_plain_integer)
    (b1 : mg "isinstance" = none) (b2 : mg "dict" = none) (b3 : mg "len" = none) (b4 : mg "sorted" = none) (g1 : ∃ t, mg "MOST_WRITERS" = some (.int 12 t)) (g2 : ∃ t, mg "LARGEST_NUMBER" = some (.int (10 ^ 30) t)) : Cal P w K mg base "plain_line_counts" 3 ["value"] R_plain_line_counts := by
  refine cal_of F sc_plain_line_counts (fun _ ss _ _ ⟨cs, _, h, _⟩ => by rw [h]; rfl) (fun f cdv A outer s H E L ss M Q hr h => ?_)
  obtain ⟨cs, hL, rfl, ok, q⟩ := h
  obtain ⟨l1, l2, nd, okp⟩ := ok
  obtain ⟨t1, g1⟩ := g1
  obtain ⟨t2, g2⟩ := g2
  have hlen : (kdC cs).length = cs.length := by simp [kdC]
  refine db_cons (ds_ifF (dt_or2 (dt_not (dt_val (de_callB call_isi (by rfl) b1 bt_isinstance (da_cons ?_))))) (db_nil ?_))
  · walk_at "nm"
    refine da_cons (de_type (by rfl) b2 bt_dict (da_nil (k_isaDict ⟨_, rfl, fun z => absurd z (by simp [isaDict, eCnt]), fun _ => dt_not (dt_chain op_le op_le (de_int (de_callB call_lenR (by rfl) b3 bt_len (da_cons ?_))))⟩)))
    walk_at "nm"
    refine da_nil (k_lenD (.d (kdC cs)) ?_)
    rw [show (slK (kdC cs)).length = cs.length by simp [slK, kdC]]
    refine k_bool ⟨_, rfl, fun _ => de_glob (by rfl) g1 ⟨_, rfl⟩ (k_bool ⟨_, rfl, by simp; omega, rfl⟩), fun z => absurd z (by simp; omega)⟩
  refine db_cons (ds_set (i := 1) sc_plain_line_counts.nd rfl (.inr rfl) (de_dictC fun p hp => ?_))
  refine db_cons (ds_forItems (i := 0) (kd := kdC cs) PassesOwn.never rfl hL rfl (.inl rfl) rfl (fun n τ' M' => ∃ y2 y3 y4 y5, τ' = [some (.d (eCnt cs)), some (.c p), y2, y3, y4, y5] ∧ M' = updC M p (.k (slK ((kdC cs).take n)))) ⟨none, none, none, none, rfl, rfl⟩ ?_ ?_)
  · rintro x ⟨xs, hx⟩ n k d τ' M' hn ⟨y2, y3, y4, y5, rfl, rfl⟩
    have hnl : n < cs.length := by
      have := (List.getElem?_eq_some_iff.mp hn).1
      omega
    have hkd : k = .inr cs[n].1 ∧ d = .int cs[n].2 := by
      rw [show (kdC cs)[n]? = some (.inr cs[n].1, .int cs[n].2) by simp [kdC, List.getElem?_eq_getElem hnl]] at hn
      have := Option.some.inj hn
      exact ⟨(Prod.mk.inj this).1.symm, (Prod.mk.inj this).2.symm⟩
    obtain ⟨rfl, rfl⟩ := hkd
    obtain ⟨o1, o2, o3⟩ := okp _ (List.getElem_mem hnl)
    refine dg_of (pg_tup rfl (pgs_cons (pg_name (i := 2) sc_plain_line_counts.nd rfl (.inl rfl)) (pgs_cons (pg_name (i := 3) sc_plain_line_counts.nd rfl (.inl rfl)) pgs_nil))) (wg_tup rfl rfl rfl (wgs_cons (wg_name (wgs_cons (wg_name (wgs_nil ?_))))))
    refine db_cons (ds_set (i := 4) sc_plain_line_counts.nd rfl (.inl rfl) (de_callC c1 hr (by rfl) (da_cons ?_)))
    walk_at "nm"
    refine da_nil ⟨.str cs[n].1, rfl, short_of_okName o1, ?_⟩
    rw [show writerOf (.str cs[n].1) = .str cs[n].1 by simp only [writerOf, o1, if_true]]
    refine db_cons (ds_set (i := 5) sc_plain_line_counts.nd rfl (.inl rfl) (de_callC (c2.up (by decide)) hr (by rfl) (da_cons ?_)))
    walk_at "nm"
    refine da_nil ⟨.int cs[n].2, rfl, ?_⟩
    refine db_cons (ds_ifF (dt_or3 (dt_cmp op_isN ?_ (nomark _))) (db_nil ?_))
    · walk_at "nm"
      refine de_non (k_isN ⟨_, rfl, fun z => (nomatch z), fun _ => dt_cmp op_isN ?_ (nomark _)⟩)
      walk_at "nm"
      refine de_non (k_isN ⟨_, rfl, fun z => (nomatch z), fun _ => dt_not (dt_chain op_le op_le (de_int ?_))⟩)
      walk_at "nm"
      exact k_bool ⟨_, rfl, fun _ => de_glob (by rfl) g2 ⟨_, rfl⟩ (k_bool ⟨_, rfl, by simpa using o3, rfl⟩), fun z => absurd z (by simp [o2])⟩
    refine db_cons (ds_dput (hu_of hr) ?_)
    walk_at "nm"
    walk_at "nm"
    walk_at "nm"
    refine ⟨p, _, .inr cs[n].1, rfl, updC_same, rfl, ?_, db_nil ⟨_, _, _, _, rfl, ?_⟩⟩
    · rw [sizeLine_eq]
      simp [slK, kdC]
      omega
    · rw [updC_updC, putS_new ?_]
      · have e : (kdC cs).take (n + 1) = (kdC cs).take n ++ [(.inr cs[n].1, .int cs[n].2)] := by
          rw [List.take_add_one, hn]
          rfl
        rw [e]
        simp [slK, dI, intOf]
      · rw [slK_take, List.map_take, keys_C]
        intro hm
        rw [← List.map_take] at hm
        obtain ⟨z, hz, ez⟩ := List.mem_map.mp hm
        have ez' : z = cs[n].1 := Sum.inr.inj ez
        subst ez'
        obtain ⟨j, hj, ej⟩ := List.getElem_of_mem hz
        rw [List.length_take, List.length_map] at hj
        rw [List.getElem_take, List.getElem_map] at ej
        have hj1 : j < cs.length := by omega
        have := (List.getElem_inj (i := j) (j := n) (h₀ := by rw [List.length_map]; exact hj1) (h₁ := by rw [List.length_map]; exact hnl) nd).mp (by rw [List.getElem_map, List.getElem_map]; exact ej)
        omega
  · rintro τ' M' ⟨y2, y3, y4, y5, rfl, rfl⟩
    rw [List.take_of_length_le (Nat.le_refl _)]
    refine db_cons (ds_ret (de_gc (de_frzK (de_dc0 (own := [("writer", 4)]) (g := gName 4) rfl sc_plain_line_counts.nd (blkOk_by (own := [("writer", 4)]) (N := ["value", "counts", "key", "number", "writer", "count"]) (sc := defScope s_plain_line_counts) (by decide +kernel)) (fun _ _ _ _ _ => pg_name (i := 4) sc_plain_line_counts.nd rfl (.inl rfl)) (di_seq (de_callB (call_sortedD rfl) (by rfl) b4 bt_sorted (da_cons ?_)))))))
    walk_at "nm"
    refine da_nil (k_sortedD (DictIs.c updC_same) (keys_C cs) (by rw [List.length_map]; omega) fun ys p2 hperm hsort hp2 => ?_)
    refine ⟨ys.map dS, by simp only [seqOf, updC_same], fun D hD => ?_⟩
    have np2 : p2 ≠ p := fun e => by rw [e, updC_same] at hp2; cases hp2
    have nD2 : D ≠ p2 := fun e => by rw [e, updC_same] at hD; cases hD
    have nDp : D ≠ p := fun e => by
      rw [e, updC_ne np2.symm, updC_same] at hD
      cases hD
    have hlk : ys.length = cs.length := by rw [hperm.length_eq, List.length_map]
    refine ⟨fun i M' => M' = updC (updC (updC M p (.k (slK (kdC cs)))) p2 (.l (ys.map dS))) D (.k (slK (kdC ((ys.take i).map fun y => (y, (getC cs y).getD 0))))), rfl, ?_, ?_, ?_⟩
    · rintro i M' rfl
      simp only [seqOf, updC_ne nD2.symm, updC_same]
    · rintro i y M' hi hy rfl
      rw [List.length_map] at hi
      have hy' : y = dS ys[i] := by
        rw [List.getElem?_map, List.getElem?_eq_getElem hi] at hy
        exact (Option.some.inj hy).symm
      subst hy'
      refine wgw_name (by simp) ?_
      intro s0 H0 C cl fp
      walk_at "nm"
      intro s0 H0 C cl fp
      refine de_dget (hu_of hr) ?_
      walk_at "nm"
      walk_at "nm"
      have hmem : ys[i] ∈ cs.map (·.1) := hperm.mem_iff.mp (List.getElem_mem hi)
      obtain ⟨p0, hp0, e0⟩ := List.mem_map.mp hmem
      have hg : getC cs ys[i] = some p0.2 := by rw [← e0]; exact getC_mem nd hp0
      refine ⟨_, .inr ys[i], dI p0.2, .c (by rw [updC_ne nDp.symm, updC_ne np2.symm, updC_same]), rfl, by rw [valS_C, hg]; rfl, _, .inr ys[i], rfl, updC_same, ?_, ?_⟩
      · rw [sizeLine_eq]
        simp [slK, kdC]
        omega
      · rw [updC_updC, putS_new ?_]
        · show updC _ _ _ = updC _ _ _
          rw [show slK (kdC ((ys.take (i + 1)).map fun y => (y, (getC cs y).getD 0))) = slK (kdC ((ys.take i).map fun y => (y, (getC cs y).getD 0))) ++ [(.inr ys[i], dI p0.2)] from by
            rw [List.take_add_one, List.getElem?_eq_getElem hi]
            simp only [slK, kdC, Option.toList_some, List.map_append, List.map_cons, List.map_nil, hg, Option.getD_some, dI]]
        · rw [keys_C]
          intro hm
          obtain ⟨z, hz, ez⟩ := List.mem_map.mp hm
          have ez' : z = ys[i] := Sum.inr.inj ez
          rw [List.map_map] at hz
          obtain ⟨z2, hz2, ez2⟩ := List.mem_map.mp hz
          have ez2' : z2 = z := ez2
          rw [ez2', ez'] at hz2
          have ndy : ys.Nodup := hperm.nodup_iff.mpr nd
          obtain ⟨j, hj, ej⟩ := List.getElem_of_mem hz2
          rw [List.length_take] at hj
          rw [List.getElem_take] at ej
          have := (List.getElem_inj (i := j) (j := i) (h₀ := by omega) (h₁ := hi) ndy).mp ej
          omega
    · rintro M' rfl
      refine ⟨D, kdC (ys.map fun y => (y, (getC cs y).getD 0)), rfl, ?_, ?_⟩
      · rw [List.length_map, List.take_of_length_le (Nat.le_refl _), updC_same]
      · refine ⟨M, ?_, q _ ⟨perm_of_keys nd hperm, ?_⟩⟩
        · have hD0 : M D = none := by
            rw [updC_ne nD2, updC_ne nDp] at hD
            exact hD
          have hp20 : M p2 = none := by
            rw [updC_ne np2] at hp2
            exact hp2
          exact ((((Sub.refl M).new hp).put hp20).put hD0).del hD0
        · rw [List.map_map, show (ys.map ((fun x => x.1) ∘ fun y => (y, (getC cs y).getD 0))) = ys from by simp [Function.comp_def]]
          exact hsort

local macro_rules | `(tactic| walk_at "nm") => `(tactic| first | ((with_reducible refine de_name (x := "value") (i := 0) (s := ?s) ?hN ?hv ?ht ?q ?hd ?hcd); (case hN => rfl); (case hv => walk_at "vis"); (case ht => rfl); (case hd => decide); (case hcd => decide)) | ((with_reducible refine de_name (x := "counts") (i := 1) (s := ?s) ?hN ?hv ?ht ?q ?hd ?hcd); (case hN => rfl); (case hv => walk_at "vis"); (case ht => rfl); (case hd => decide); (case hcd => decide)))


theorem ok_checked_line_counts (F : FunAt K mg "checked_line_counts" s_checked_line_counts ["value"]) (c1 : Cal P w K mg base "plain_line_counts" 3 ["value"] R_plain_line_counts) : Cal P w K mg base "checked_line_counts" 4 ["value"] R_plain_line_counts := by
  refine cal_of F sc_checked_line_counts (fun _ ss _ _ ⟨cs, _, h, _⟩ => by rw [h]; rfl) (fun f cdv A outer s H E L ss M Q hr h => ?_)
  obtain ⟨cs, hL, rfl, ok, q⟩ := h
  refine db_cons (ds_set (i := 1) sc_checked_line_counts.nd rfl (.inl rfl) (de_callC c1 hr (by rfl) (da_cons ?_)))
  walk_at "nm"
  refine da_nil ⟨cs, hL, rfl, ok, fun cs' hs => ?_⟩
  refine db_cons (ds_ifF (dt_cmp op_isN ?_ (nomark _)) (db_nil (db_cons (ds_ret ?_))))
  · walk_at "nm"
    exact de_non (k_isN ⟨_, rfl, rfl, rfl⟩)
  · walk_at "nm"
    exact q cs' hs

end

end Pg

namespace Pg
open PySem L2 Y PyProof.Rows

local macro_rules | `(tactic| walk_at "vis") => `(tactic| first | exact Or.inl rfl | exact Or.inr (Or.inl rfl) | exact Or.inr (Or.inr rfl))
local macro_rules | `(tactic| walk_at "e1") => `(tactic| first | walk_at "nm" | refine de_int ?_ | refine de_add ?_ | refine de_sub ?_ | refine de_str ?_ | refine de_non ?_ | refine de_bl ?_)
local macro_rules | `(tactic| walk_at "go") => `(tactic| repeat (first | ((with_reducible show DE _ _ _ _ _ _); walk_at "e1") | ((with_reducible show DA _ _ _ _ _ _); refine da_cons ?_) | refine ⟨_, _, rfl, rfl, ?_⟩))


/-- a source of draws -/
def Src (M : Cs) (a : Addr) (n : Nat) : Prop := ∃ big mix cnt : Int, M a = some (.l [dI big, dI mix, dI cnt]) ∧ 0 ≤ mix ∧ mix ≤ 10 ^ 40 ∧ 0 ≤ cnt ∧ cnt ≤ (n : Int)
theorem Src.sub {M M' : Cs} {a : Addr} {n : Nat} (h : Src M a n) (s : Sub M M') : Src M' a n := by
  obtain ⟨x, y, z, h1, h2⟩ := h
  exact ⟨x, y, z, s _ _ h1, h2⟩
theorem Src.mono {M : Cs} {a : Addr} {m n : Nat} (h : Src M a m) (l : m ≤ n) : Src M a n := by
  obtain ⟨x, y, z, h1, h2, h3, h4, h5⟩ := h
  exact ⟨x, y, z, h1, h2, h3, h4, by omega⟩
theorem Src.upd {M : Cs} {a p : Addr} {n : Nat} {c : Cell} (h : Src M a n) (ne : p ≠ a) : Src (updC M p c) a n := by
  obtain ⟨x, y, z, h1, h2⟩ := h
  exact ⟨x, y, z, by rw [updC_ne ne.symm]; exact h1, h2⟩
theorem Src.del {M : Cs} {a p : Addr} {n : Nat} (h : Src M a n) (ne : p ≠ a) : Src (delC M p) a n := by
  obtain ⟨x, y, z, h1, h2⟩ := h
  exact ⟨x, y, z, by rw [delC_ne ne.symm]; exact h1, h2⟩
theorem Src.ne {M : Cs} {a p : Addr} {n : Nat} (h : Src M a n) (hp : M p = none) : p ≠ a := by
  obtain ⟨x, y, z, h1, h2⟩ := h
  intro e
  rw [e, h1] at hp
  cases hp
theorem Src.keep {M : Cs} {a : Addr} {n : Nat} {ps : List Addr} (h : Src M a n) (hm : a ∈ ps) : Src (Y.keep ps M) a n := by
  obtain ⟨x, y, z, h1, h2⟩ := h
  exact ⟨x, y, z, by rw [keep_in hm]; exact h1, h2⟩
theorem Src.nd {M : Cs} {a : Addr} {n : Nat} (h : Src M a n) : ∃ c, M a = some c ∧ ndC c = true := by
  obtain ⟨x, y, z, h1, h2⟩ := h
  exact ⟨_, h1, by simp [ndC, ndSs, ndS, dI, ndD]⟩
/-- only the cell a may be another -/
def Fr1 (a : Addr) (M M' : Cs) : Prop := ∀ b, b ≠ a → M' b = M b
theorem Fr1.refl {a : Addr} (M : Cs) : Fr1 a M M := fun _ _ => rfl
theorem Fr1.trans {a : Addr} {M M1 M2 : Cs} (h : Fr1 a M M1) (k : Fr1 a M1 M2) : Fr1 a M M2 := fun b hb => (k b hb).trans (h b hb)
/-- cells may be new, and the cell a another -/
def Gx (a : Addr) (M M' : Cs) : Prop := ∀ b c, b ≠ a → M b = some c → M' b = some c
theorem Gx.refl {a : Addr} (M : Cs) : Gx a M M := fun _ _ _ h => h
theorem Gx.trans {a : Addr} {M M1 M2 : Cs} (h : Gx a M M1) (k : Gx a M1 M2) : Gx a M M2 := fun b c hb e => k b c hb (h b c hb e)
theorem Fr1.gx {a : Addr} {M M' : Cs} (h : Fr1 a M M') : Gx a M M' := fun b c hb e => by rw [h b hb]; exact e
theorem Sub.gx {a : Addr} {M M' : Cs} (h : Sub M M') : Gx a M M' := fun b c _ e => h b c e
theorem Gx.put {a p : Addr} {M M' : Cs} {c : Cell} (h : Gx a M M') (hp : M p = none) : Gx a M (updC M' p c) := fun b d hb e => by
  rw [updC_ne (neC e hp)]
  exact h b d hb e
theorem Gx.none {a p : Addr} {M M' : Cs} (h : Gx a M M') (hp : M' p = none) (ne : p ≠ a) : M p = none := by
  cases e : M p with
  | none => rfl
  | some c =>
    rw [h p c ne e] at hp
    cases hp

theorem eraseIdx_mapS {α β : Type} (f : α → β) : ∀ (l : List α) (j : Nat), (l.map f).eraseIdx j = (l.eraseIdx j).map f
  | [], _ => rfl
  | _ :: _, 0 => rfl
  | a :: l, j + 1 => by
    show f a :: (l.map f).eraseIdx j = f a :: (l.eraseIdx j).map f
    rw [eraseIdx_mapS f l j]
theorem erase_perm {α : Type} : ∀ (l : List α) (j : Nat) (h : j < l.length), (l[j] :: l.eraseIdx j).Perm l
  | [], _, h => by simp at h
  | _ :: _, 0, _ => List.Perm.refl _
  | a :: l, j + 1, h => by
    have h' : j < l.length := by simpa using h
    exact (List.Perm.swap a l[j] (l.eraseIdx j)).trans ((erase_perm l j h').cons a)


theorem powW {i j : Int} {k : Nat} (h : i.natAbs < 2 ^ k) (hj : 0 ≤ j) (hk : (k : Int) * j ≤ 2 ^ 27) : CPowW i j :=
  ⟨hj, Int.le_trans (Int.mul_le_mul_of_nonneg_right (Int.ofNat_le.mpr (intBits_le h)) hj) hk⟩
def abc : Str := "zyxwvutsrqponmlkjihgfedcba"
def lowC (c : Nat) : Bool := decide (97 ≤ c) && decide (c ≤ 122)
theorem abc_at (i : Int) (h0 : 0 ≤ i) (h1 : i < 26) : ∃ c, atI abc.cps.toList i = some c ∧ lowC c = true := by
  have key : ∀ n : Fin 26, ∃ c, atI abc.cps.toList ((n.val : Nat) : Int) = some c ∧ lowC c = true := by
    intro n
    refine ⟨122 - n.val, ?_, ?_⟩
    · revert n; decide +kernel
    · revert n; decide +kernel
  obtain ⟨n, rfl⟩ : ∃ n : Nat, i = (n : Int) := ⟨i.toNat, by omega⟩
  exact key ⟨n, by omega⟩
theorem abc_len : abc.length = 26 := by decide +kernel
theorem abc_size : abc.cps.size = 26 := by decide +kernel
/-- a text of small letters -/
def Low (z : Str) : Prop := ∀ c ∈ z.cps.toList, lowC c = true
theorem low_fact : ∀ c, lowC c = true → Unicode.isAlpha c = true ∧ Unicode.isLower c = true ∧ Unicode.isUpper c = false ∧ Unicode.isTitle c = false ∧ decide (c < 128) = true := by
  have key : ∀ n : Fin 26, Unicode.isAlpha (97 + n.val) = true ∧ Unicode.isLower (97 + n.val) = true ∧ Unicode.isUpper (97 + n.val) = false ∧ Unicode.isTitle (97 + n.val) = false ∧ decide (97 + n.val < 128) = true := by decide +kernel
  intro c h
  unfold lowC at h
  rw [Bool.and_eq_true, decide_eq_true_eq, decide_eq_true_eq] at h
  have := key ⟨c - 97, by omega⟩
  rw [show 97 + (⟨c - 97, by omega⟩ : Fin 26).val = c from by show 97 + (c - 97) = c; omega] at this
  exact this
theorem str_len (z : Str) : z.length = z.cps.toList.length := by show z.cps.size = _; simp
theorem low_ok {z : Str} (h : Low z) (h1 : 1 ≤ z.length) (h8 : z.length ≤ 8) : okName z = true := by
  have ha : Txt.isascii z = true := by
    unfold Txt.isascii
    rw [← Array.all_toList]
    exact List.all_eq_true.mpr fun c hc => (low_fact c (h c hc)).2.2.2.2
  have hb : Txt.isalpha z = true := by
    unfold Txt.isalpha
    rw [decide_eq_true (show z.length > 0 by omega), Bool.true_and, ← Array.all_toList]
    exact List.all_eq_true.mpr fun c hc => (low_fact c (h c hc)).1
  have hc : Txt.islower z = true := by
    unfold Txt.islower
    rw [← Array.any_toList, ← Array.any_toList, Bool.and_eq_true]
    refine ⟨?_, ?_⟩
    · rw [str_len] at h1
      cases e : z.cps.toList with
      | nil => rw [e] at h1; simp at h1
      | cons c r => exact List.any_eq_true.mpr ⟨c, List.mem_cons_self, (low_fact c (h c (by rw [e]; exact List.mem_cons_self))).2.1⟩
    · rw [Bool.not_eq_true']
      refine List.any_eq_false.mpr fun c hc => ?_
      obtain ⟨_, _, u, t, _⟩ := low_fact c (h c hc)
      rw [u, t]
      simp
  unfold okName
  rw [decide_eq_true h1, decide_eq_true h8, ha, hb, hc]
  rfl
theorem low_one {c : Nat} (h : lowC c = true) : Low ⟨#[c]⟩ := fun d hd => by
  have : d = c := by simpa using hd
  rw [this]; exact h
theorem low_app {a b : Str} (h : Low a) (k : Low b) : Low (a ++ b) := fun c hc => by
  have e : (a ++ b).cps.toList = a.cps.toList ++ b.cps.toList := by
    show (a.cps ++ b.cps).toList = _
    simp
  rw [e] at hc
  rcases List.mem_append.mp hc with z | z
  · exact h c z
  · exact k c z
theorem len_app (a b : Str) : (a ++ b).length = a.length + b.length := by
  show (a.cps ++ b.cps).size = _
  rw [Array.size_append]
  rfl
/-- one sign, a small letter -/
def One (z : Str) : Prop := ∃ c, z = ⟨#[c]⟩ ∧ lowC c = true
theorem One.len {z : Str} (h : One z) : z.length = 1 := by
  obtain ⟨c, rfl, _⟩ := h
  rfl
theorem One.low {z : Str} (h : One z) : Low z := by
  obtain ⟨c, rfl, h⟩ := h
  exact low_one h
theorem fold_low : ∀ (ps : List Str) (acc : Array Nat), (∀ y ∈ ps, One y) → (∀ c ∈ acc.toList, lowC c = true) →
    (∀ c ∈ (ps.foldl (fun acc p => acc ++ ("" : Str).cps ++ p.cps) acc).toList, lowC c = true) ∧ (ps.foldl (fun acc p => acc ++ ("" : Str).cps ++ p.cps) acc).size = acc.size + ps.length
  | [], acc, _, h => ⟨h, rfl⟩
  | p :: ps, acc, hp, h => by
    obtain ⟨h1, h2⟩ := fold_low ps (acc ++ ("" : Str).cps ++ p.cps) (fun y hy => hp y (List.mem_cons_of_mem _ hy)) (fun c hc => by
      rw [Array.toList_append, Array.toList_append] at hc
      rcases List.mem_append.mp hc with z | z
      · rcases List.mem_append.mp z with z | z
        · exact h c z
        · cases z
      · exact (hp p List.mem_cons_self).low c z)
    rw [List.foldl_cons]
    refine ⟨h1, h2.trans ?_⟩
    have l1 : p.cps.size = 1 := (hp p List.mem_cons_self).len
    rw [Array.size_append, Array.size_append, l1, List.length_cons]
    show acc.size + 0 + 1 + ps.length = acc.size + (ps.length + 1)
    omega
theorem join_low : ∀ ys : List Str, (∀ y ∈ ys, One y) → Low (Txt.join "" ys) ∧ (Txt.join "" ys).length = ys.length
  | [], _ => ⟨(fun c hc => by cases hc), rfl⟩
  | y :: r, h => by
    obtain ⟨h1, h2⟩ := fold_low r y.cps (fun x hx => h x (List.mem_cons_of_mem _ hx)) (h y List.mem_cons_self).low
    have l1 : y.cps.size = 1 := (h y List.mem_cons_self).len
    refine ⟨h1, h2.trans ?_⟩
    rw [l1, List.length_cons]
    omega
theorem signs_abc : ∀ y ∈ Y.signs abc, One y := by
  intro y hy
  obtain ⟨c, hc, rfl⟩ := List.mem_map.mp hy
  refine ⟨c, rfl, ?_⟩
  have key : ∀ c ∈ abc.cps.toList, lowC c = true := by decide +kernel
  exact key c hc
theorem signs_len : (Y.signs abc).length = 26 := by decide +kernel
section
variable {P : Program} {w : World} {K : PySem.W.Frag} {mg : Str → Option Value} {base : Heap}

local macro_rules | `(tactic| walk_at "nm") => `(tactic| first | ((with_reducible refine de_name (x := "script") (i := 0) (s := ?s) ?hN ?hv ?ht ?q ?hd ?hcd); (case hN => rfl); (case hv => walk_at "vis"); (case ht => rfl); (case hd => decide); (case hcd => decide)) | ((with_reducible refine de_name (x := "k") (i := 1) (s := ?s) ?hN ?hv ?ht ?q ?hd ?hcd); (case hN => rfl); (case hv => walk_at "vis"); (case ht => rfl); (case hd => decide); (case hcd => decide)) | ((with_reducible refine de_name (x := "cell") (i := 2) (s := ?s) ?hN ?hv ?ht ?q ?hd ?hcd); (case hN => rfl); (case hv => walk_at "vis"); (case ht => rfl); (case hd => decide); (case hcd => decide)))


def R_source : Rr := fun _ ss M Q => ∃ (s : Sl) (ns : List Int) (k : Int), ss = [s, dI k] ∧ seqOf M s = some (ns.map dI) ∧ 0 ≤ k ∧ k ≤ 100 ∧ ∀ p M', M p = none → Sub M M' → Src M' p 0 → Q (.c p) M'
theorem ok_law_make_source (F : FunAt K mg "_law_make_source" s__law_make_source ["script", "k"]) (b1 : mg "len" = none) (b2 : mg "max" = none) (b3 : mg "abs" = none) (b4 : mg "int" = none) : Cal P w K mg base "_law_make_source" 1 ["script", "k"] R_source := by
  refine cal_of F sc__law_make_source (fun _ ss _ _ ⟨s, ns, k, h, _⟩ => by rw [h]; rfl) (fun f cdv A outer s H E L ss M Q hr h => ?_)
  obtain ⟨x, ns, k, rfl, hs, k0, k1, fin⟩ := h
  refine db_consJ (fun τ' M' => ∃ v : Int, τ' = [some x, some (dI k), some (dI v)] ∧ M' = M) (ds_set (i := 2) sc__law_make_source.nd rfl (.inl rfl) (de_if (dt_cmp op_lt ?_ (by with_unfolding_all rfl)))) ?_
  · walk_at "nm"
    refine de_callB call_len_seq (by rfl) b1 bt_len (da_cons ?_)
    walk_at "nm"
    refine da_nil (k_len hs (k_bool ⟨_, rfl, fun h => de_ix ?_, fun _ => de_int ⟨0, rfl, rfl⟩⟩))
    walk_at "nm"
    walk_at "nm"
    have h := of_decide_eq_true h
    rw [List.length_map] at h
    have hj : k.toNat < ns.length := by omega
    exact ⟨ns.map dI, ((k.toNat : Nat) : Int), dI ns[k.toNat], hs, (by rw [Int.toNat_of_nonneg k0]; rfl), atI_nat (by rw [List.getElem?_map, List.getElem?_eq_getElem hj]; rfl), ns[k.toNat], rfl, rfl⟩
  rintro τ' M' ⟨v, rfl, rfl⟩
  refine db_cons (ds_ret (de_lstC (da_cons (de_callB (call_max2 rfl) (by rfl) b2 bt_max (da_cons (de_int (da_cons (de_sub (de_callB call_abs (by rfl) b3 bt_abs (da_cons ?_))))))))))
  walk_at "nm"
  refine da_nil (k_abs (de_pow (de_int (de_int ⟨_, _, rfl, rfl, powW (k := 4) (by decide) (by decide) (by decide), _, _, rfl, rfl, ?_⟩))))
  refine da_nil (k_max2 (da_cons (de_mod (de_add (de_add (de_mul (de_callB call_abs (by rfl) b3 bt_abs (da_cons ?_))))))))
  walk_at "nm"
  refine da_nil (k_abs (de_int ⟨_, _, rfl, rfl, .inr ⟨by decide, by decide⟩, de_mul (de_int ?_)⟩))
  walk_at "nm"
  refine ⟨_, _, rfl, rfl, .inl ⟨by decide, by decide⟩, _, _, rfl, rfl, de_callT call_int1 (by rfl) b4 bt_int (da_cons (de_cmp op_lt ?_ (nomark _)))⟩
  walk_at "nm"
  refine de_int (k_bool (da_nil (k_intB ⟨_, _, rfl, rfl, ?_⟩)))
  refine de_add (de_pow (de_int (de_int ⟨_, _, rfl, rfl, powW (k := 4) (by decide) (by decide) (by decide), de_int ⟨_, _, rfl, rfl, _, _, rfl, rfl, by decide, ?_⟩⟩)))
  refine da_cons (de_int (da_nil ⟨(by show 3 ≤ sizeLine; decide), fun p hp => ?_⟩))
  refine fin p _ hp ((Sub.refl _).new hp) ⟨_, _, 0, updC_same, Int.emod_nonneg _ (by decide), Int.le_of_lt (Int.lt_trans (Int.emod_lt_of_pos _ (by decide)) (by decide)), by decide, by decide⟩

local macro_rules | `(tactic| walk_at "nm") => `(tactic| first | ((with_reducible refine de_name (x := "source") (i := 0) (s := ?s) ?hN ?hv ?ht ?q ?hd ?hcd); (case hN => rfl); (case hv => walk_at "vis"); (case ht => rfl); (case hd => decide); (case hcd => decide)) | ((with_reducible refine de_name (x := "many") (i := 1) (s := ?s) ?hN ?hv ?ht ?q ?hd ?hcd); (case hN => rfl); (case hv => walk_at "vis"); (case ht => rfl); (case hd => decide); (case hcd => decide)) | ((with_reducible refine de_name (x := "result") (i := 2) (s := ?s) ?hN ?hv ?ht ?q ?hd ?hcd); (case hN => rfl); (case hv => walk_at "vis"); (case ht => rfl); (case hd => decide); (case hcd => decide)) | ((with_reducible refine de_name (x := "mixed") (i := 3) (s := ?s) ?hN ?hv ?ht ?q ?hd ?hcd); (case hN => rfl); (case hv => walk_at "vis"); (case ht => rfl); (case hd => decide); (case hcd => decide)))


def R_draw : Rr := fun _ ss M Q => ∃ (a : Addr) (n : Nat) (lim : Int), ss = [.c a, dI lim] ∧ Src M a n ∧ n < 1000000000 ∧ 0 < lim ∧ lim ≤ 10 ^ 40 ∧ ∀ M' r, Fr1 a M M' → Src M' a (n + 1) → 0 ≤ r → r < lim → Q (dI r) M'
theorem ok_law_draw (F : FunAt K mg "_law_draw" s__law_draw ["source", "many"]) : Cal P w K mg base "_law_draw" 1 ["source", "many"] R_draw := by
  refine cal_of F sc__law_draw (fun _ ss _ _ ⟨a, n, lim, h, _⟩ => by rw [h]; rfl) (fun f cdv A outer s H E L ss M Q hr h => ?_)
  obtain ⟨a, n, lim, rfl, ⟨big, mix, cnt, ma, m0, m1, c0, c1⟩, hn, hm0, hm1, fin⟩ := h
  have sa : seqOf M (.c a) = some [dI big, dI mix, dI cnt] := by simp only [seqOf, ma]
  refine db_cons (ds_if (dt_cmp op_gt (de_ix ?_) (nomark _)))
  walk_at "nm"
  refine de_int ⟨_, 0, dI big, sa, rfl, rfl, de_int (k_bool ⟨_, rfl, fun h1 => ?_, fun h1 => db_nil ?_⟩)⟩
  · refine db_cons (ds_set (i := 2) sc__law_draw.nd rfl (.inl rfl) (de_mod (de_ix ?_)))
    walk_at "nm"
    refine de_int ⟨_, 0, dI big, sa, rfl, rfl, ?_⟩
    walk_at "nm"
    refine ⟨_, _, rfl, rfl, hm0, ?_⟩
    refine db_cons (ds_asg (de_div (de_ix ?_)))
    walk_at "nm"
    refine de_int ⟨_, 0, dI big, sa, rfl, rfl, ?_⟩
    walk_at "nm"
    refine ⟨_, _, rfl, rfl, wide_div (b := 200) hm0 (by omega) (by decide) (by decide), dg_subL ?_⟩
    walk_at "nm"
    refine de_int ⟨a, [dI big, dI mix, dI cnt], 0, 0, rfl, ma, rfl, rfl, ?_⟩
    refine db_cons (ds_ret ?_)
    walk_at "nm"
    refine fin _ _ (fun b hb => by rw [updC_ne hb]) ⟨big / lim, mix, cnt, by rw [updC_same]; rfl, m0, m1, c0, by omega⟩ (Int.emod_nonneg _ (by omega)) (Int.emod_lt_of_pos _ hm0)
  refine db_cons (ds_asg (de_add (de_ix ?_)))
  walk_at "nm"
  refine de_int ⟨_, 2, dI cnt, sa, rfl, rfl, de_int ⟨_, _, rfl, rfl, dg_subL ?_⟩⟩
  walk_at "nm"
  refine de_int ⟨a, [dI big, dI mix, dI cnt], 2, 2, rfl, ma, rfl, rfl, ?_⟩
  have ma2 : updC M a (.l ([dI big, dI mix, dI cnt].set 2 (.d (.int (cnt + 1))))) a = some (.l [dI big, dI mix, dI (cnt + 1)]) := updC_same
  have fr2 : Fr1 a M (updC M a (.l ([dI big, dI mix, dI cnt].set 2 (.d (.int (cnt + 1)))))) := fun b hb => by rw [updC_ne hb]
  generalize updC M a (.l ([dI big, dI mix, dI cnt].set 2 (.d (.int (cnt + 1))))) = M2 at ma2 fr2
  have sa2 : seqOf M2 (.c a) = some [dI big, dI mix, dI (cnt + 1)] := by simp only [seqOf, ma2]
  refine db_cons (ds_set (i := 3) sc__law_draw.nd rfl (.inl rfl) (de_mod (de_pow (de_add (de_add (de_ix ?_))))))
  walk_at "nm"
  refine de_int ⟨_, 1, dI mix, sa2, rfl, rfl, de_mul (de_int (de_ix ?_))⟩
  walk_at "nm"
  refine de_int ⟨_, 2, dI (cnt + 1), sa2, rfl, rfl, _, _, rfl, rfl, .inl ⟨by decide, by decide⟩, _, _, rfl, rfl, de_int ⟨_, _, rfl, rfl, de_int ⟨_, _, rfl, rfl, powW (k := 160) ?_ (by decide) (by decide), ?_⟩⟩⟩
  · omega
  generalize (mix + 7919 * (cnt + 1) + 104729) ^ (3 : Int).toNat = X1
  refine de_add (de_pow (de_int (de_int ⟨_, _, rfl, rfl, powW (k := 4) (by decide) (by decide) (by decide), de_int ⟨_, _, rfl, rfl, _, _, rfl, rfl, by decide, ?_⟩⟩)))
  have hs1 : 0 ≤ X1 % (10 ^ (38 : Int).toNat + 133) ∧ X1 % (10 ^ (38 : Int).toNat + 133) < 10 ^ 42 := ⟨Int.emod_nonneg _ (by decide), Int.lt_trans (Int.emod_lt_of_pos _ (by decide)) (by decide)⟩
  generalize X1 % (10 ^ (38 : Int).toNat + 133) = Y1 at hs1
  refine db_cons (ds_set (i := 3) sc__law_draw.nd rfl (.inl rfl) (de_mod (de_pow (de_add ?_))))
  walk_at "nm"
  refine de_mul (de_int (de_ix ?_))
  walk_at "nm"
  refine de_int ⟨_, 2, dI (cnt + 1), sa2, rfl, rfl, _, _, rfl, rfl, .inl ⟨by decide, by decide⟩, _, _, rfl, rfl, de_int ⟨_, _, rfl, rfl, powW (k := 160) ?_ (by decide) (by decide), ?_⟩⟩
  · omega
  generalize (Y1 + 15485867 * (cnt + 1)) ^ (3 : Int).toNat = X2
  refine de_add (de_pow (de_int (de_int ⟨_, _, rfl, rfl, powW (k := 4) (by decide) (by decide) (by decide), de_int ⟨_, _, rfl, rfl, _, _, rfl, rfl, by decide, ?_⟩⟩)))
  generalize X2 % (10 ^ (36 : Int).toNat + 67) = Y2
  refine db_cons (ds_ret (de_mod (de_div ?_)))
  walk_at "nm"
  refine de_int ⟨_, _, rfl, rfl, wide_div (b := 30) (by decide) (by decide) (by decide) (by decide), ?_⟩
  walk_at "nm"
  refine ⟨_, _, rfl, rfl, hm0, fin _ _ fr2 ⟨big, mix, cnt + 1, ma2, m0, m1, by omega, by omega⟩ (Int.emod_nonneg _ (by omega)) (Int.emod_lt_of_pos _ hm0)⟩

local macro_rules | `(tactic| walk_at "nm") => `(tactic| first | ((with_reducible refine de_name (x := "source") (i := 0) (s := ?s) ?hN ?hv ?ht ?q ?hd ?hcd); (case hN => rfl); (case hv => walk_at "vis"); (case ht => rfl); (case hd => decide); (case hcd => decide)) | ((with_reducible refine de_name (x := "many") (i := 1) (s := ?s) ?hN ?hv ?ht ?q ?hd ?hcd); (case hN => rfl); (case hv => walk_at "vis"); (case ht => rfl); (case hd => decide); (case hcd => decide)) | ((with_reducible refine de_name (x := "letters") (i := 2) (s := ?s) ?hN ?hv ?ht ?q ?hd ?hcd); (case hN => rfl); (case hv => walk_at "vis"); (case ht => rfl); (case hd => decide); (case hcd => decide)) | ((with_reducible refine de_name (x := "stem") (i := 3) (s := ?s) ?hN ?hv ?ht ?q ?hd ?hcd); (case hN => rfl); (case hv => walk_at "vis"); (case ht => rfl); (case hd => decide); (case hcd => decide)) | ((with_reducible refine de_name (x := "free") (i := 4) (s := ?s) ?hN ?hv ?ht ?q ?hd ?hcd); (case hN => rfl); (case hv => walk_at "vis"); (case ht => rfl); (case hd => decide); (case hcd => decide)) | ((with_reducible refine de_name (x := "turn") (i := 5) (s := ?s) ?hN ?hv ?ht ?q ?hd ?hcd); (case hN => rfl); (case hv => walk_at "vis"); (case ht => rfl); (case hd => decide); (case hcd => decide)))


def R_names : Rr := fun _ ss M Q => ∃ (a : Addr) (n : Nat) (many : Int), ss = [.c a, dI many] ∧ Src M a n ∧ n < 900000000 ∧ 0 ≤ many ∧ many ≤ 12 ∧ ∀ (zs : List Str) (p : Addr) (M' : Cs), Gx a M M' → p ≠ a → M p = none → M' p = some (.l (zs.map dS)) → Src M' a (n + 50) → zs.length = many.toNat → (∀ z ∈ zs, okName z = true) → Q (.c p) M'
theorem ok_law_writer_names (F : FunAt K mg "_law_writer_names" s__law_writer_names ["source", "many"]) (c1 : Cal P w K mg base "_law_draw" 1 ["source", "many"] R_draw) (b1 : mg "range" = none) (b2 : mg "len" = none) (b3 : mg "list" = none) : Cal P w K mg base "_law_writer_names" 2 ["source", "many"] R_names := by
  refine cal_of F sc__law_writer_names (fun _ ss _ _ ⟨a, n, many, h, _⟩ => by rw [h]; rfl) (fun f cdv A outer s H E L us M Q hr h => ?_)
  obtain ⟨a, n, many, rfl, sr, hn, h0, h12, fin⟩ := h
  refine db_cons (ds_set (i := 2) sc__law_writer_names.nd rfl (.inr rfl) (de_str ?_))
  refine db_cons (ds_set (i := 3) sc__law_writer_names.nd rfl (.inr rfl) (de_join (de_str ⟨_, rfl, de_lc0 (own := [("turn", 5)]) (g := gName 5) rfl sc__law_writer_names.nd (blkOk_by (own := [("turn", 5)]) (N := ["source", "many", "letters", "stem", "free", "turn"]) (sc := defScope s__law_writer_names) (by decide +kernel)) (fun _ _ _ _ _ => pg_name (i := 5) sc__law_writer_names.nd rfl (.inl rfl)) (di_range1 (by rfl) b1 (de_callC c1 hr (by rfl) ?_))⟩)))
  walk_at "go"
  refine da_nil ⟨a, _, 7, rfl, sr, by omega, by decide, by decide, fun M1 r1 fr1 sr1 h10 h11 => ⟨r1, rfl, by omega, by omega, fun D hD => ?_⟩⟩
  have Da := sr1.ne hD
  have hDM : M D = none := by rw [← fr1 D Da]; exact hD
  refine ⟨fun i M' => ∃ ys : List Str, ys.length = i ∧ (∀ y ∈ ys, One y) ∧ M' D = some (.l (ys.map dS)) ∧ Gx a M M' ∧ Src M' a (n + 1 + i), ⟨[], rfl, (fun _ h => nomatch h), updC_same, fr1.gx.put hDM, sr1.upd Da⟩, fun _ _ _ => trivial, ?_, ?_⟩
  · rintro i y M2 hi rfl ⟨ys, ly, hy, mD, gx2, sr2⟩
    refine wgw_name (by simp) ?_
    intro s0 H0 C cl fp
    refine de_ixS ?_
    walk_at "nm"
    refine de_callC c1 hr (by rfl) ?_
    walk_at "go"
    refine da_nil ⟨a, _, 26, rfl, sr2, by omega, by decide, by decide, fun M3 r3 fr3 sr3 h30 h31 => ?_⟩
    obtain ⟨c, hc, lc⟩ := abc_at r3 h30 h31
    refine ⟨abc, r3, c, rfl, rfl, by rw [abc_len]; decide, hc, ys.map dS, by rw [fr3 D Da]; exact mD, ?_, ys ++ [⟨#[c]⟩], ?_, ?_, ?_, ?_, ?_⟩
    · rw [List.length_map, sizeLine_eq]; omega
    · rw [List.length_append, ly]; rfl
    · intro z hz
      rcases List.mem_append.mp hz with q | q
      · exact hy z q
      · rw [List.mem_singleton.mp q]; exact ⟨c, rfl, lc⟩
    · rw [updC_same, List.map_append]; rfl
    · exact (gx2.trans fr3.gx).put hDM
    · exact (sr3.upd Da).mono (by omega)
  rintro M4 ⟨ys, ly, hy, mD, gx4, sr4⟩
  obtain ⟨jl, jn⟩ := join_low ys hy
  have hy7 : ys.length < 7 := by omega
  refine ⟨ys, by simp only [seqOf, mD], ?_, ?_⟩
  · have e1 : ∀ zs : List Str, (∀ y ∈ zs, One y) → (zs.map (·.length)).sum = zs.length := by
      intro zs hz
      induction zs with
      | nil => rfl
      | cons z r ih =>
        rw [List.map_cons, List.sum_cons, ih fun y h => hz y (List.mem_cons_of_mem _ h), (hz z List.mem_cons_self).len, List.length_cons]
        omega
    rw [e1 ys hy]
    show ys.length + ys.length * 0 ≤ 16777216
    omega
  generalize Txt.join "" ys = stem at jl jn
  rw [← jn] at hy7
  refine db_cons (ds_set (i := 4) sc__law_writer_names.nd rfl (.inr rfl) (de_callT (call_listS rfl) (by rfl) b3 bt_list ?_))
  refine da_cons ?_
  walk_at "nm"
  refine da_nil (k_listS (by rw [show (Str.ofString "zyxwvutsrqponmlkjihgfedcba") = abc from rfl, abc_size]; decide) fun pf hpf => ?_)
  rw [show (Y.signs (Str.ofString "zyxwvutsrqponmlkjihgfedcba")) = Y.signs abc from rfl]
  have sub_M5 : Sub M4 (updC M4 pf (.l ((Y.signs abc).map dS))) := (Sub.refl _).new hpf
  have m_pf : updC M4 pf (.l ((Y.signs abc).map dS)) pf = some (.l ((Y.signs abc).map dS)) := updC_same
  generalize updC M4 pf (.l ((Y.signs abc).map dS)) = M5 at sub_M5 m_pf
  have fa := sr4.ne hpf
  have hpfM := gx4.none hpf fa
  have sr5 := sr4.sub sub_M5
  have gx5 : Gx a M M5 := gx4.trans (Sub.gx sub_M5)
  refine db_cons (ds_ret (de_lc0 (own := [("turn", 5)]) (g := gName 5) rfl sc__law_writer_names.nd (blkOk_by (own := [("turn", 5)]) (N := ["source", "many", "letters", "stem", "free", "turn"]) (sc := defScope s__law_writer_names) (by decide +kernel)) (fun _ _ _ _ _ => pg_name (i := 5) sc__law_writer_names.nd rfl (.inl rfl)) (di_range1 (by rfl) b1 ?_)))
  walk_at "nm"
  refine ⟨many, rfl, by omega, by omega, fun D2 hD2 => ?_⟩
  have D2a := sr5.ne hD2
  have hD2M := gx5.none hD2 D2a
  have nf2 : pf ≠ D2 := neC m_pf hD2
  refine ⟨fun i M' => ∃ (zs fs : List Str), zs.length = i ∧ fs.length + i = 26 ∧ (∀ z ∈ zs, okName z = true) ∧ (∀ y ∈ fs, One y) ∧ M' D2 = some (.l (zs.map dS)) ∧ M' pf = some (.l (fs.map dS)) ∧ Gx a M M' ∧ Src M' a (n + 1 + r1.toNat + i), ⟨[], Y.signs abc, rfl, signs_len, (fun _ h => nomatch h), signs_abc, updC_same, by rw [updC_ne nf2]; exact m_pf, gx5.put hD2M, sr5.upd D2a⟩, fun _ _ _ => trivial, ?_, ?_⟩
  · rintro i y M6 hi rfl ⟨zs, fs, lz, lf, hz, hf, mD2, mpf, gx6, sr6⟩
    refine wgw_name (by simp) ?_
    intro s0 H0 C cl fp
    refine de_addS ?_
    walk_at "nm"
    refine de_mL PySem.F.slot_list_pop PySem.F.type_list_pop mt_popAt ?_
    walk_at "nm"
    refine ⟨⟨rfl, _, by simp only [seqOf, mpf]; rfl⟩, da_cons (de_callC c1 hr (by rfl) (da_cons ?_))⟩
    walk_at "nm"
    refine da_cons (de_callB call_len_seq (by rfl) b2 bt_len (da_cons ?_))
    walk_at "nm"
    refine da_nil (k_len (by simp only [seqOf, mpf]; rfl) (da_nil ⟨a, _, _, rfl, sr6, by omega, by rw [List.length_map]; omega, by rw [List.length_map]; omega, fun M7 r7 fr7 sr7 h70 h71 => ?_⟩))
    rw [List.length_map] at h71
    have hj : r7.toNat < fs.length := by omega
    have er7 : r7 = (r7.toNat : Int) := by omega
    have m7f : M7 pf = some (.l (fs.map dS)) := by rw [fr7 pf fa]; exact mpf
    generalize hjj : r7.toNat = j at hj er7
    refine da_nil (k_popAt (j := j) (z := dS fs[j]) m7f (by omega) (by omega) ?_ (by rw [List.getElem?_map, List.getElem?_eq_getElem hj]; rfl) ?_)
    · rw [List.length_map, er7]
      unfold seqIndex?
      simp
      omega
    have h1 := hf _ (List.getElem_mem hj)
    refine ⟨stem, fs[j], rfl, rfl, by rw [h1.len, sizeLine_eq]; omega, zs.map dS, by rw [updC_ne nf2.symm, fr7 D2 D2a]; exact mD2, by rw [List.length_map, sizeLine_eq]; omega, zs ++ [stem ++ fs[j]], fs.eraseIdx j, ?_, ?_, ?_, ?_, ?_, ?_, ?_, ?_⟩
    · rw [List.length_append, lz]; rfl
    · rw [List.length_eraseIdx, if_pos hj]; omega
    · intro z q
      rcases List.mem_append.mp q with q | q
      · exact hz z q
      · rw [List.mem_singleton.mp q]
        exact low_ok (low_app jl h1.low) (by rw [len_app, h1.len]; omega) (by rw [len_app, h1.len]; omega)
    · exact fun y q => hf y (List.mem_of_mem_eraseIdx q)
    · rw [updC_same, List.map_append]; rfl
    · rw [updC_ne nf2, updC_same, eraseIdx_mapS]
    · exact ((gx6.trans fr7.gx).put hpfM).put hD2M
    · exact ((sr7.upd fa).upd D2a).mono (by omega)
  · rintro M6 ⟨zs, fs, lz, lf, hz, hf, mD2, mpf, gx6, sr6⟩
    exact fin zs D2 M6 gx6 D2a hD2M mD2 (sr6.mono (by omega)) lz hz

end

end Pg

namespace Pg
open PySem L2 Y PyProof.Rows

local macro_rules | `(tactic| walk_at "vis") => `(tactic| first | exact Or.inl rfl | exact Or.inr (Or.inl rfl) | exact Or.inr (Or.inr rfl))
local macro_rules | `(tactic| walk_at "e1") => `(tactic| first | walk_at "nm" | refine de_int ?_ | refine de_add ?_ | refine de_sub ?_ | refine de_str ?_ | refine de_non ?_ | refine de_bl ?_)
local macro_rules | `(tactic| walk_at "go") => `(tactic| repeat (first | ((with_reducible show DE _ _ _ _ _ _); walk_at "e1") | ((with_reducible show DA _ _ _ _ _ _); refine da_cons ?_) | refine ⟨_, _, rfl, rfl, ?_⟩))


theorem Gx.del {a p : Addr} {M M' : Cs} (h : Gx a M M') (hp : M p = Option.none) : Gx a M (delC M' p) := fun b d hb e => by
  rw [delC_ne (neC e hp)]
  exact h b d hb e
def sumC (cs : Cnt) : Int := (cs.map (·.2)).sum
theorem putC_keys (cs : Cnt) (z : Str) (v : Int) : (putC cs z v).map (·.1) = if (cs.any fun p => decide (p.1 = z)) = true then cs.map (·.1) else cs.map (·.1) ++ [z] := by
  unfold putC
  split
  · rw [List.map_map]
    refine List.map_congr_left fun p _ => ?_
    show (if p.1 = z then (p.1, v) else p).1 = p.1
    split <;> rfl
  · rw [List.map_append]
    rfl
theorem putC_nodup {cs : Cnt} {z : Str} {v : Int} (h : (cs.map (·.1)).Nodup) : ((putC cs z v).map (·.1)).Nodup := by
  rw [putC_keys]
  split
  · exact h
  · next hn =>
    rw [List.nodup_append]
    refine ⟨h, by simp, ?_⟩
    intro a ha b hb e
    rw [List.mem_singleton.mp hb] at e
    subst e
    obtain ⟨p, hp, rfl⟩ := List.mem_map.mp ha
    exact hn (List.any_eq_true.mpr ⟨p, hp, decide_eq_true rfl⟩)
theorem putC_mem {cs : Cnt} {z : Str} {v : Int} {p : Str × Int} (h : p ∈ putC cs z v) : p ∈ cs ∨ p = (z, v) := by
  unfold putC at h
  split at h
  · obtain ⟨q, hq, e⟩ := List.mem_map.mp h
    split at e
    · next hz => right; rw [← e, hz]
    · left; rw [← e]; exact hq
  · rcases List.mem_append.mp h with h | h
    · exact .inl h
    · exact .inr (List.mem_singleton.mp h)
theorem putC_pos (cs : Cnt) (z : Str) (v : Int) : 1 ≤ (putC cs z v).length := by
  unfold putC
  split
  · next h =>
    obtain ⟨p, hp, _⟩ := List.any_eq_true.mp h
    rw [List.length_map]
    exact List.length_pos_of_mem hp
  · rw [List.length_append]
    simp
theorem sumC_nil : sumC [] = 0 := rfl
theorem sumC_cons (p : Str × Int) (r : Cnt) : sumC (p :: r) = p.2 + sumC r := by unfold sumC; rw [List.map_cons, List.sum_cons]
theorem sumC_set : ∀ {cs : Cnt} {z : Str} {v : Int}, (cs.map (·.1)).Nodup → (∀ p ∈ cs, 0 ≤ p.2) → 0 ≤ v → sumC (cs.map fun p => if p.1 = z then (p.1, v) else p) ≤ sumC cs + v
  | [], _, v, _, _, hv => by rw [List.map_nil, sumC_nil]; omega
  | p :: r, z, v, nd, h, hv => by
    rw [List.map_cons] at nd
    obtain ⟨n1, n2⟩ := List.nodup_cons.mp nd
    rw [List.map_cons, sumC_cons, sumC_cons]
    have h0 := h p List.mem_cons_self
    by_cases e : p.1 = z
    · rw [if_pos e]
      have er : (r.map fun p => if p.1 = z then (p.1, v) else p) = r := by
        refine (List.map_congr_left fun q hq => ?_).trans (List.map_id r)
        rw [if_neg]
        · rfl
        · intro e2
          exact n1 (List.mem_map.mpr ⟨q, hq, by rw [e2, e]⟩)
      rw [er]
      show v + sumC r ≤ _
      omega
    · rw [if_neg e]
      have := sumC_set (z := z) (v := v) n2 (fun q hq => h q (List.mem_cons_of_mem _ hq)) hv
      omega
theorem sumC_put {cs : Cnt} {z : Str} {v : Int} (nd : (cs.map (·.1)).Nodup) (h : ∀ p ∈ cs, 0 ≤ p.2) (hv : 0 ≤ v) : sumC (putC cs z v) ≤ sumC cs + v := by
  unfold putC
  split
  · exact sumC_set nd h hv
  · unfold sumC
    rw [List.map_append, List.sum_append]
    simp
section
variable {P : Program} {w : World} {K : PySem.W.Frag} {mg : Str → Option Value} {base : Heap}

local macro_rules | `(tactic| walk_at "nm") => `(tactic| first | ((with_reducible refine de_name (x := "source") (i := 0) (s := ?s) ?hN ?hv ?ht ?q ?hd ?hcd); (case hN => rfl); (case hv => walk_at "vis"); (case ht => rfl); (case hd => decide); (case hcd => decide)) | ((with_reducible refine de_name (x := "most") (i := 1) (s := ?s) ?hN ?hv ?ht ?q ?hd ?hcd); (case hN => rfl); (case hv => walk_at "vis"); (case ht => rfl); (case hd => decide); (case hcd => decide)) | ((with_reducible refine de_name (x := "result") (i := 2) (s := ?s) ?hN ?hv ?ht ?q ?hd ?hcd); (case hN => rfl); (case hv => walk_at "vis"); (case ht => rfl); (case hd => decide); (case hcd => decide)) | ((with_reducible refine de_name (x := "free") (i := 3) (s := ?s) ?hN ?hv ?ht ?q ?hd ?hcd); (case hN => rfl); (case hv => walk_at "vis"); (case ht => rfl); (case hd => decide); (case hcd => decide)) | ((with_reducible refine de_name (x := "name") (i := 4) (s := ?s) ?hN ?hv ?ht ?q ?hd ?hcd); (case hN => rfl); (case hv => walk_at "vis"); (case ht => rfl); (case hd => decide); (case hcd => decide)))


def R_small : Rr := fun _ ss M Q => ∃ (a : Addr) (n : Nat) (most : Int), ss = [.c a, dI most] ∧ Src M a n ∧ n < 800000000 ∧ 0 ≤ most ∧ most ≤ 100 ∧ ∀ (cs : Cnt) (M' : Cs), Gx a M M' → Src M' a (n + 100) → okCnt cs → sumC cs ≤ most → cs.length ≤ 4 → Q (.d (eCnt cs)) M'
theorem ok_law_small_counts (F : FunAt K mg "_law_small_counts" s__law_small_counts ["source", "most"]) (c1 : Cal P w K mg base "_law_draw" 1 ["source", "many"] R_draw) (c2 : Cal P w K mg base "_law_writer_names" 2 ["source", "many"] R_names) (b1 : mg "min" = none) : Cal P w K mg base "_law_small_counts" 3 ["source", "most"] R_small := by
  refine cal_of F sc__law_small_counts (fun _ ss _ _ ⟨a, n, most, h, _⟩ => by rw [h]; rfl) (fun f cdv A outer s H E L us M Q hr h => ?_)
  obtain ⟨a, n, most, rfl, sr, hn, h0, h100, fin⟩ := h
  refine db_cons (ds_set (i := 2) sc__law_small_counts.nd rfl (.inl rfl) (de_dictC fun pr hpr => ?_))
  have sub_M1 : Sub M (updC M pr (.k [])) := (Sub.refl _).new hpr
  have m_pr : updC M pr (.k []) pr = some (.k []) := updC_same
  generalize updC M pr (.k []) = M1 at sub_M1 m_pr
  have pra := sr.ne hpr
  have sr1 := sr.sub sub_M1
  refine db_cons (ds_set (i := 3) sc__law_small_counts.nd rfl (.inl rfl) ?_)
  walk_at "nm"
  refine db_cons (ds_for PassesOwn.never rfl (di_seq (de_callC c2 hr (by rfl) (da_cons ?_))))
  walk_at "nm"
  refine da_cons (de_add (de_int (de_callC (c1.up (by decide)) hr (by rfl) ?_)))
  walk_at "go"
  refine da_nil ⟨a, _, 4, rfl, sr1, by omega, by decide, by decide, fun M2 r2 fr2 sr2 h20 h21 => ⟨_, _, rfl, rfl, da_nil ⟨a, _, 1 + r2, rfl, sr2, by omega, by omega, by omega, fun zs pn M3 gx3 pna hpn mpn sr3 lz hz => ?_⟩⟩⟩
  have gx03 : Gx a M M3 := ((Sub.gx sub_M1).trans fr2.gx).trans gx3
  have m3r : M3 pr = some (.k []) := gx3 _ _ pra (by rw [fr2 pr pra]; exact m_pr)
  have nrn : pr ≠ pn := neC (by rw [fr2 pr pra]; exact m_pr) hpn
  refine ⟨zs.map dS, by simp only [seqOf, mpn], ?_⟩
  refine ⟨fun i τ' M' => ∃ (cs : Cnt) (fr : Int) (y4 : Option Sl), τ' = [some (.c a), some (dI most), some (.c pr), some (dI fr), y4] ∧ Gx a M M' ∧ M' pn = some (.l (zs.map dS)) ∧ M' pr = some (.k (slK (kdC cs))) ∧ Src M' a (n + 52 + i) ∧ cs.length ≤ i ∧ (0 < i → 1 ≤ cs.length) ∧ (cs.map (·.1)).Nodup ∧ (∀ p ∈ cs, okName p.1 = true ∧ 0 ≤ p.2 ∧ p.2 ≤ 3) ∧ 0 ≤ fr ∧ sumC cs + fr ≤ most, ⟨[], most, none, rfl, gx03, mpn, m3r, sr3.mono (by omega), Nat.le_refl _, (fun h => absurd h (Nat.lt_irrefl 0)), List.nodup_nil, (fun _ h => nomatch h), h0, by rw [sumC_nil]; omega⟩, ?_, ?_, ?_⟩
  · rintro i τ' M' ⟨cs, fr, y4, rfl, gx4, m4n, _⟩
    simp only [seqOf, m4n]
  · rintro i y τ' M4 hi hy ⟨cs, fr, y4, rfl, gx4, m4n, m4r, sr4, lc, lc1, nd, val, hf0, hf1⟩
    rw [List.length_map] at hi
    have hy' : y = dS zs[i] := by
      rw [List.getElem?_map, List.getElem?_eq_getElem hi] at hy
      exact (Option.some.inj hy).symm
    subst hy'
    have hzi := hz _ (List.getElem_mem hi)
    have hi5 : i < 5 := by omega
    generalize zs[i] = z at hzi
    refine dg_of (pg_name (i := 4) sc__law_small_counts.nd rfl (.inl rfl)) (wg_name ?_)
    refine db_cons (ds_dput (hu_of hr) (de_callC (c1.up (by decide)) hr (by rfl) (da_cons ?_)))
    walk_at "nm"
    refine da_cons (de_add (de_callB (call_min2 rfl) (by rfl) b1 bt_min (da_cons (de_int (da_cons ?_)))))
    walk_at "nm"
    refine da_nil (k_min2 (de_int ⟨_, _, rfl, rfl, ?_⟩))
    have hm : 0 ≤ (if fr < 3 then fr else 3) ∧ (if fr < 3 then fr else 3) ≤ 3 ∧ (if fr < 3 then fr else 3) ≤ fr := by
      split <;> omega
    generalize (if fr < 3 then fr else 3) = u at hm
    refine da_nil ⟨a, _, _, rfl, sr4, by omega, by omega, by omega, fun M5 r5 fr5 sr5 h50 h51 => ?_⟩
    have m5n : M5 pn = some (.l (zs.map dS)) := by rw [fr5 pn pna]; exact m4n
    have m5r : M5 pr = some (.k (slK (kdC cs))) := by rw [fr5 pr pra]; exact m4r
    walk_at "nm"
    walk_at "nm"
    refine ⟨pr, _, .inr z, rfl, m5r, rfl, ?_, ?_⟩
    · unfold slK kdC
      rw [List.length_map, List.length_map, sizeLine_eq]
      omega
    rw [putS_put]
    have m6r : updC M5 pr (.k (slK (kdC (putC cs z r5)))) pr = some (.k (slK (kdC (putC cs z r5)))) := updC_same
    have m6n : updC M5 pr (.k (slK (kdC (putC cs z r5)))) pn = some (.l (zs.map dS)) := by rw [updC_ne nrn.symm]; exact m5n
    have sr6 := sr5.upd (c := .k (slK (kdC (putC cs z r5)))) pra
    have gx6 := (gx4.trans fr5.gx).put (c := .k (slK (kdC (putC cs z r5)))) hpr
    generalize updC M5 pr (.k (slK (kdC (putC cs z r5)))) = M6 at m6r m6n sr6 gx6
    refine db_cons (ds_set (i := 3) sc__law_small_counts.nd rfl (.inl rfl) (de_sub ?_))
    walk_at "nm"
    refine de_dget (hu_of hr) ?_
    walk_at "nm"
    walk_at "nm"
    have hsum := sumC_put (z := z) (v := r5) nd (fun p hp => (val p hp).2.1) h50
    have hlen := putC_len cs z r5
    refine ⟨_, .inr z, dI r5, .c m6r, rfl, by rw [valS_C, getC_put, if_pos rfl]; rfl, _, _, rfl, rfl, db_nil ⟨putC cs z r5, fr - r5, _, rfl, gx6, m6n, m6r, sr6.mono (by omega), by omega, fun _ => putC_pos cs z r5, putC_nodup nd, fun p hp => ?_, by omega, by omega⟩⟩
    rcases putC_mem hp with hp | rfl
    · exact val p hp
    · exact ⟨hzi, h50, by show r5 ≤ 3; omega⟩
  · rintro τ' M4 ⟨cs, fr, y4, rfl, gx4, m4n, m4r, sr4, lc, lc1, nd, val, hf0, hf1⟩
    rw [List.length_map] at sr4 lc lc1
    refine db_cons (ds_ret (de_frzK ?_))
    walk_at "nm"
    refine ⟨pr, kdC cs, rfl, m4r, fin cs _ (gx4.del hpr) ((sr4.del pra).mono (by omega)) ⟨lc1 (by omega), by omega, nd, fun p hp => ⟨(val p hp).1, (val p hp).2.1, Int.le_trans (val p hp).2.2 (by decide)⟩⟩ (by omega) (by omega)⟩

local macro_rules | `(tactic| walk_at "nm") => `(tactic| first | ((with_reducible refine de_name (x := "source") (i := 0) (s := ?s) ?hN ?hv ?ht ?q ?hd ?hcd); (case hN => rfl); (case hv => walk_at "vis"); (case ht => rfl); (case hd => decide); (case hcd => decide)) | ((with_reducible refine de_name (x := "many") (i := 1) (s := ?s) ?hN ?hv ?ht ?q ?hd ?hcd); (case hN => rfl); (case hv => walk_at "vis"); (case ht => rfl); (case hd => decide); (case hcd => decide)) | ((with_reducible refine de_name (x := "result") (i := 2) (s := ?s) ?hN ?hv ?ht ?q ?hd ?hcd); (case hN => rfl); (case hv => walk_at "vis"); (case ht => rfl); (case hd => decide); (case hcd => decide)) | ((with_reducible refine de_name (x := "name") (i := 3) (s := ?s) ?hN ?hv ?ht ?q ?hd ?hcd); (case hN => rfl); (case hv => walk_at "vis"); (case ht => rfl); (case hd => decide); (case hcd => decide)) | ((with_reducible refine de_name (x := "some") (i := 4) (s := ?s) ?hN ?hv ?ht ?q ?hd ?hcd); (case hN => rfl); (case hv => walk_at "vis"); (case ht => rfl); (case hd => decide); (case hcd => decide)))


def R_large : Rr := fun _ ss M Q => ∃ (a : Addr) (n : Nat) (most : Int), ss = [.c a, dI most] ∧ Src M a n ∧ n < 800000000 ∧ 1 ≤ most ∧ most ≤ 12 ∧ ∀ (cs : Cnt) (M' : Cs), Gx a M M' → Src M' a (n + 200) → okCnt cs → Q (.d (eCnt cs)) M'
theorem ok_law_large_counts (F : FunAt K mg "_law_large_counts" s__law_large_counts ["source", "many"]) (c1 : Cal P w K mg base "_law_draw" 1 ["source", "many"] R_draw) (c2 : Cal P w K mg base "_law_writer_names" 2 ["source", "many"] R_names) : Cal P w K mg base "_law_large_counts" 3 ["source", "many"] R_large := by
  refine cal_of F sc__law_large_counts (fun _ ss _ _ ⟨a, n, most, h, _⟩ => by rw [h]; rfl) (fun f cdv A outer s H E L us M Q hr h => ?_)
  obtain ⟨a, n, most, rfl, sr, hn, h0, h12, fin⟩ := h
  refine db_cons (ds_set (i := 2) sc__law_large_counts.nd rfl (.inl rfl) (de_dictC fun pr hpr => ?_))
  have sub_M1 : Sub M (updC M pr (.k [])) := (Sub.refl _).new hpr
  have m_pr : updC M pr (.k []) pr = some (.k []) := updC_same
  generalize updC M pr (.k []) = M1 at sub_M1 m_pr
  have pra := sr.ne hpr
  have sr1 := sr.sub sub_M1
  refine db_cons (ds_for PassesOwn.never rfl (di_seq (de_callC c2 hr (by rfl) (da_cons ?_))))
  walk_at "nm"
  refine da_cons (de_add (de_int (de_callC (c1.up (by decide)) hr (by rfl) ?_)))
  walk_at "go"
  refine da_nil ⟨a, _, most, rfl, sr1, by omega, by omega, by omega, fun M2 r2 fr2 sr2 h20 h21 => ⟨_, _, rfl, rfl, da_nil ⟨a, _, 1 + r2, rfl, sr2, by omega, by omega, by omega, fun zs pn M3 gx3 pna hpn mpn sr3 lz hz => ?_⟩⟩⟩
  have gx03 : Gx a M M3 := ((Sub.gx sub_M1).trans fr2.gx).trans gx3
  have m3r : M3 pr = some (.k []) := gx3 _ _ pra (by rw [fr2 pr pra]; exact m_pr)
  have nrn : pr ≠ pn := neC (by rw [fr2 pr pra]; exact m_pr) hpn
  refine ⟨zs.map dS, by simp only [seqOf, mpn], ?_⟩
  refine ⟨fun i τ' M' => ∃ (cs : Cnt) (y3 y4 : Option Sl), τ' = [some (.c a), some (dI most), some (.c pr), y3, y4] ∧ Gx a M M' ∧ M' pn = some (.l (zs.map dS)) ∧ M' pr = some (.k (slK (kdC cs))) ∧ Src M' a (n + 52 + 4 * i) ∧ cs.length ≤ i ∧ (0 < i → 1 ≤ cs.length) ∧ (cs.map (·.1)).Nodup ∧ (∀ p ∈ cs, okName p.1 = true ∧ 0 ≤ p.2 ∧ p.2 ≤ 10 ^ 30), ⟨[], none, none, rfl, gx03, mpn, m3r, sr3.mono (by omega), Nat.le_refl _, (fun h => absurd h (Nat.lt_irrefl 0)), List.nodup_nil, (fun _ h => nomatch h)⟩, ?_, ?_, ?_⟩
  · rintro i τ' M' ⟨cs, y3, y4, rfl, gx4, m4n, _⟩
    simp only [seqOf, m4n]
  · rintro i y τ' M4 hi hy ⟨cs, y3, y4, rfl, gx4, m4n, m4r, sr4, lc, lc1, nd, val⟩
    rw [List.length_map] at hi
    have hy' : y = dS zs[i] := by
      rw [List.getElem?_map, List.getElem?_eq_getElem hi] at hy
      exact (Option.some.inj hy).symm
    subst hy'
    have hzi := hz _ (List.getElem_mem hi)
    have hi13 : i < 13 := by omega
    generalize zs[i] = z at hzi
    refine dg_of (pg_name (i := 3) sc__law_large_counts.nd rfl (.inl rfl)) (wg_name ?_)
    refine db_cons ?_
    refine ds_set (i := 4) (hN := ?hN) ?a ?b ?c
    case hN => exact sc__law_large_counts.nd
    case a => rfl
    case b => exact .inl rfl
    refine de_lstD (da_cons (de_int (da_cons (de_int (da_cons (de_int (da_cons (de_add (de_int ?_)))))))))
    refine de_callC (c1.up (by decide)) hr (by rfl) ?_
    walk_at "go"
    refine da_nil ⟨a, _, 9, rfl, sr4, by omega, by decide, by decide, fun M5 r5 fr5 sr5 h50 h51 => ⟨_, _, rfl, rfl, da_cons (de_sub (de_pow (de_int (de_int ⟨_, _, rfl, rfl, powW (k := 4) (by decide) (by decide) (by decide), ?_⟩))))⟩⟩
    refine de_callC (c1.up (by decide)) hr (by rfl) ?_
    walk_at "go"
    refine da_nil ⟨a, _, 3, rfl, sr5, by omega, by decide, by decide, fun M6 r6 fr6 sr6 h60 h61 => ⟨_, _, rfl, rfl, da_cons (de_callC (c1.up (by decide)) hr (by rfl) (da_cons ?_))⟩⟩
    walk_at "nm"
    refine da_cons (de_pow (de_int (de_int ⟨_, _, rfl, rfl, powW (k := 4) (by decide) (by decide) (by decide), da_nil ⟨a, _, 10 ^ (30 : Int).toNat, rfl, sr6, by omega, by decide, by decide, fun M7 r7 fr7 sr7 h70 h71 => ?_⟩⟩)))
    refine da_nil ⟨[.int 0, .int 1, .int 2, .int (3 + r5), .int (10 ^ (30 : Int).toNat - r6), .int r7], rfl, (by show 6 ≤ sizeLine; decide), ?_⟩
    refine db_cons (ds_dput (hu_of hr) (de_ix ?_))
    walk_at "nm"
    refine de_callC (c1.up (by decide)) hr (by rfl) ?_
    walk_at "go"
    refine da_nil ⟨a, _, 6, rfl, sr7, by omega, by decide, by decide, fun M8 r8 fr8 sr8 h80 h81 => ?_⟩
    have e8 : ∃ v : Int, 0 ≤ v ∧ v ≤ 10 ^ 30 ∧ atI ([.int 0, .int 1, .int 2, .int (3 + r5), .int (10 ^ (30 : Int).toNat - r6), .int r7].map Sl.d) r8 = some (dI v) := by
      have e30 : (10 : Int) ^ (30 : Int).toNat = 10 ^ 30 := rfl
      rw [e30] at h71 ⊢
      have c8 : r8 = 0 ∨ r8 = 1 ∨ r8 = 2 ∨ r8 = 3 ∨ r8 = 4 ∨ r8 = 5 := by omega
      rcases c8 with rfl | rfl | rfl | rfl | rfl | rfl
      · exact ⟨0, by omega, by omega, rfl⟩
      · exact ⟨1, by omega, by omega, rfl⟩
      · exact ⟨2, by omega, by omega, rfl⟩
      · exact ⟨3 + r5, by omega, by omega, rfl⟩
      · exact ⟨10 ^ 30 - r6, by omega, by omega, rfl⟩
      · exact ⟨r7, by omega, by omega, rfl⟩
    obtain ⟨v, v0, v1, ev⟩ := e8
    refine ⟨_, r8, dI v, rfl, rfl, ev, ?_⟩
    walk_at "nm"
    walk_at "nm"
    have frA : Fr1 a M4 M8 := ((fr5.trans fr6).trans fr7).trans fr8
    have m8n : M8 pn = some (.l (zs.map dS)) := by rw [frA pn pna]; exact m4n
    have m8r : M8 pr = some (.k (slK (kdC cs))) := by rw [frA pr pra]; exact m4r
    have hlen := putC_len cs z v
    refine ⟨pr, _, .inr z, rfl, m8r, rfl, ?_, ?_⟩
    · unfold slK kdC
      rw [List.length_map, List.length_map, sizeLine_eq]
      omega
    rw [putS_put]
    refine db_nil ⟨putC cs z v, _, _, rfl, (gx4.trans frA.gx).put hpr, by rw [updC_ne nrn.symm]; exact m8n, updC_same, (sr8.upd pra).mono (by omega), by omega, fun _ => putC_pos cs z v, putC_nodup nd, fun p hp => ?_⟩
    rcases putC_mem hp with hp | rfl
    · exact val p hp
    · exact ⟨hzi, v0, v1⟩
  · rintro τ' M4 ⟨cs, y3, y4, rfl, gx4, m4n, m4r, sr4, lc, lc1, nd, val⟩
    rw [List.length_map] at sr4 lc lc1
    refine db_cons (ds_ret (de_frzK ?_))
    walk_at "nm"
    refine ⟨pr, kdC cs, rfl, m4r, fin cs _ (gx4.del hpr) ((sr4.del pra).mono (by omega)) ⟨lc1 (by omega), by omega, nd, val⟩⟩

end

end Pg

namespace Pg
open PySem L2 Y PyProof.Rows

local macro_rules | `(tactic| walk_at "vis") => `(tactic| first | exact Or.inl rfl | exact Or.inr (Or.inl rfl) | exact Or.inr (Or.inr rfl))
local macro_rules | `(tactic| walk_at "e1") => `(tactic| first | walk_at "nm" | refine de_int ?_ | refine de_add ?_ | refine de_sub ?_ | refine de_str ?_ | refine de_non ?_ | refine de_bl ?_)
local macro_rules | `(tactic| walk_at "go") => `(tactic| repeat (first | ((with_reducible show DE _ _ _ _ _ _); walk_at "e1") | ((with_reducible show DA _ _ _ _ _ _); refine da_cons ?_) | refine ⟨_, _, rfl, rfl, ?_⟩))


theorem Sub.trans {A B C : Cs} (h : Sub A B) (k : Sub B C) : Sub A C := fun a c e => k a c (h a c e)
theorem sub_put {A B : Cs} {p : Addr} {c : Cell} (h : Sub A B) (hp : A p = none) : Sub A (updC B p c) := fun b d e => by
  rw [updC_ne (neC e hp)]
  exact h b d e
def eLs (ls : List Line) : PyData := .list (ls.map eLine)
def sLs (ls : List Line) : Sl := .d (eLs ls)
theorem seq_ls (M : Cs) (ls : List Line) : seqOf M (sLs ls) = some (ls.map sLine) := by
  show some ((ls.map eLine).map Sl.d) = _
  rw [List.map_map]
  rfl
/-- the last number of a writer so far -/
def comeN (ls : List Line) (z : Str) : Int := ls.foldl (fun m l => if l.1 = z then (if m < l.2 then l.2 else m) else m) 0
theorem comeN_nil (z : Str) : comeN [] z = 0 := rfl
theorem comeN_snoc (ls : List Line) (l : Line) (z : Str) : comeN (ls ++ [l]) z = if l.1 = z then (if comeN ls z < l.2 then l.2 else comeN ls z) else comeN ls z := by
  unfold comeN
  rw [List.foldl_append]
  rfl
theorem come_spec (z : Str) : ∀ (ls : List Line) (m : Int), (ls.foldl (fun m l => if l.1 = z then (if m < l.2 then l.2 else m) else m) m = m ∨ ∃ l ∈ ls, l.1 = z ∧ l.2 = ls.foldl (fun m l => if l.1 = z then (if m < l.2 then l.2 else m) else m) m) ∧
    m ≤ ls.foldl (fun m l => if l.1 = z then (if m < l.2 then l.2 else m) else m) m ∧ ∀ l ∈ ls, l.1 = z → l.2 ≤ ls.foldl (fun m l => if l.1 = z then (if m < l.2 then l.2 else m) else m) m
  | [], m => ⟨.inl rfl, Int.le_refl _, fun _ h => nomatch h⟩
  | l :: r, m => by
    rw [List.foldl_cons]
    obtain ⟨h1, h2, h3⟩ := come_spec z r (if l.1 = z then (if m < l.2 then l.2 else m) else m)
    by_cases e : l.1 = z
    · rw [if_pos e] at h1 h2 h3 ⊢
      by_cases g : m < l.2
      · rw [if_pos g] at h1 h2 h3 ⊢
        refine ⟨?_, by omega, fun x hx ex => ?_⟩
        · rcases h1 with q | ⟨x, hx, q⟩
          · exact .inr ⟨l, List.mem_cons_self, e, q.symm⟩
          · exact .inr ⟨x, List.mem_cons_of_mem _ hx, q⟩
        · rcases List.mem_cons.mp hx with rfl | hx
          · exact h2
          · exact h3 x hx ex
      · rw [if_neg g] at h1 h2 h3 ⊢
        refine ⟨?_, h2, fun x hx ex => ?_⟩
        · rcases h1 with q | ⟨x, hx, q⟩
          · exact .inl q
          · exact .inr ⟨x, List.mem_cons_of_mem _ hx, q⟩
        · rcases List.mem_cons.mp hx with rfl | hx
          · omega
          · exact h3 x hx ex
    · rw [if_neg e] at h1 h2 h3 ⊢
      refine ⟨?_, h2, fun x hx ex => ?_⟩
      · rcases h1 with q | ⟨x, hx, q⟩
        · exact .inl q
        · exact .inr ⟨x, List.mem_cons_of_mem _ hx, q⟩
      · rcases List.mem_cons.mp hx with rfl | hx
        · exact absurd ex e
        · exact h3 x hx ex
def numsOf (ls : List Line) (z : Str) : List Int := (ls.filter fun l => decide (l.1 = z)).map (·.2)
theorem come_max {ls : List Line} {z : Str} {m : Int} (h1 : m ∈ numsOf ls z ++ [0]) (h2 : ∀ y, y ∈ numsOf ls z ++ [0] → y ≤ m) : m = comeN ls z := by
  obtain ⟨s1, s2, s3⟩ := come_spec z ls 0
  have a : m ≤ comeN ls z := by
    rcases List.mem_append.mp h1 with h | h
    · obtain ⟨l, hl, rfl⟩ := List.mem_map.mp h
      obtain ⟨hl, e⟩ := List.mem_filter.mp hl
      exact s3 l hl (of_decide_eq_true e)
    · rw [List.mem_singleton.mp h]
      exact s2
  have b : comeN ls z ≤ m := by
    rcases s1 with q | ⟨l, hl, e, q⟩
    · show List.foldl _ _ _ ≤ _
      rw [q]
      exact h2 0 (List.mem_append_right _ List.mem_cons_self)
    · show List.foldl _ _ _ ≤ _
      rw [← q]
      exact h2 _ (List.mem_append_left _ (List.mem_map.mpr ⟨l, List.mem_filter.mpr ⟨hl, decide_eq_true e⟩, rfl⟩))
  omega
def lastF (ls : List Line) (z : Str) (v : Int) : Int := if ls = [] ∨ (ls.getLast?.map (·.1)) = some z then (if comeN ls z + 1 < v then comeN ls z + 1 else v) else v
theorem lastF_le (ls : List Line) (z : Str) (v : Int) : lastF ls z v ≤ v := by
  unfold lastF
  split
  · split <;> omega
  · exact Int.le_refl _
def folOf (ls : List Line) (p : Str × Int) : List Line := (List.range (lastF ls p.1 p.2 - comeN ls p.1).toNat).map fun (j : Nat) => (p.1, comeN ls p.1 + 1 + (j : Int))
def folC (cs : Cnt) (ls : List Line) : List Line := cs.flatMap (folOf ls)
/-- how many lines are left -/
def remC (cs : Cnt) (ls : List Line) : Nat := (cs.map fun p => (p.2 - comeN ls p.1).toNat).sum
theorem folOf_len (ls : List Line) (p : Str × Int) : (folOf ls p).length ≤ (p.2 - comeN ls p.1).toNat := by
  unfold folOf
  rw [List.length_map, List.length_range]
  have := lastF_le ls p.1 p.2
  omega
theorem folC_len (ls : List Line) : ∀ cs : Cnt, (folC cs ls).length ≤ remC cs ls
  | [] => Nat.le_refl _
  | p :: r => by
    have h1 := folOf_len ls p
    have h2 := folC_len ls r
    unfold folC remC at h2 ⊢
    rw [List.flatMap_cons, List.length_append, List.map_cons, List.sum_cons]
    omega
theorem folC_take_len (ls : List Line) (cs : Cnt) (n : Nat) : (folC (cs.take n) ls).length ≤ (folC cs ls).length := by
  unfold folC
  conv => rhs; rw [← List.take_append_drop n cs, List.flatMap_append, List.length_append]
  exact Nat.le_add_right _ _
theorem folC_take (ls : List Line) (cs : Cnt) {n : Nat} {p : Str × Int} (h : cs[n]? = some p) : folC (cs.take (n + 1)) ls = folC (cs.take n) ls ++ folOf ls p := by
  unfold folC
  rw [List.take_add_one, h, List.flatMap_append]
  simp
theorem mem_fol {cs : Cnt} {ls : List Line} {l : Line} (h : l ∈ folC cs ls) : ∃ v, (l.1, v) ∈ cs ∧ comeN ls l.1 + 1 ≤ l.2 ∧ l.2 ≤ lastF ls l.1 v := by
  obtain ⟨p, hp, h⟩ := List.mem_flatMap.mp h
  obtain ⟨j, hj, rfl⟩ := List.mem_map.mp h
  have hj := List.mem_range.mp hj
  refine ⟨p.2, hp, ?_, ?_⟩
  · show comeN ls p.1 + 1 ≤ comeN ls p.1 + 1 + (j : Int)
    omega
  · show comeN ls p.1 + 1 + (j : Int) ≤ lastF ls p.1 p.2
    omega
theorem fol_mem {cs : Cnt} {ls : List Line} {l : Line} {v : Int} (h : (l.1, v) ∈ cs) (h1 : comeN ls l.1 + 1 ≤ l.2) (h2 : l.2 ≤ lastF ls l.1 v) : l ∈ folC cs ls := by
  refine List.mem_flatMap.mpr ⟨_, h, List.mem_map.mpr ⟨(l.2 - comeN ls l.1 - 1).toNat, List.mem_range.mpr ?_, ?_⟩⟩
  · show (l.2 - comeN ls l.1 - 1).toNat < (lastF ls l.1 v - comeN ls l.1).toNat
    omega
  · show (l.1, comeN ls l.1 + 1 + (((l.2 - comeN ls l.1 - 1).toNat : Nat) : Int)) = l
    have : comeN ls l.1 + 1 + (((l.2 - comeN ls l.1 - 1).toNat : Nat) : Int) = l.2 := by omega
    rw [this]
section
variable {P : Program} {w : World} {K : PySem.W.Frag} {mg : Str → Option Value} {base : Heap}

local macro_rules | `(tactic| walk_at "nm") => `(tactic| first | ((with_reducible refine de_name (x := "counts") (i := 0) (s := ?s) ?hN ?hv ?ht ?q ?hd ?hcd); (case hN => rfl); (case hv => walk_at "vis"); (case ht => rfl); (case hd => decide); (case hcd => decide)) | ((with_reducible refine de_name (x := "lines") (i := 1) (s := ?s) ?hN ?hv ?ht ?q ?hd ?hcd); (case hN => rfl); (case hv => walk_at "vis"); (case ht => rfl); (case hd => decide); (case hcd => decide)) | ((with_reducible refine de_name (x := "result") (i := 2) (s := ?s) ?hN ?hv ?ht ?q ?hd ?hcd); (case hN => rfl); (case hv => walk_at "vis"); (case ht => rfl); (case hd => decide); (case hcd => decide)) | ((with_reducible refine de_name (x := "name") (i := 3) (s := ?s) ?hN ?hv ?ht ?q ?hd ?hcd); (case hN => rfl); (case hv => walk_at "vis"); (case ht => rfl); (case hd => decide); (case hcd => decide)) | ((with_reducible refine de_name (x := "come") (i := 4) (s := ?s) ?hN ?hv ?ht ?q ?hd ?hcd); (case hN => rfl); (case hv => walk_at "vis"); (case ht => rfl); (case hd => decide); (case hcd => decide)) | ((with_reducible refine de_name (x := "last") (i := 5) (s := ?s) ?hN ?hv ?ht ?q ?hd ?hcd); (case hN => rfl); (case hv => walk_at "vis"); (case ht => rfl); (case hd => decide); (case hcd => decide)) | ((with_reducible refine de_name (x := "one") (i := 6) (s := ?s) ?hN ?hv ?ht ?q ?hd ?hcd); (case hN => rfl); (case hv => walk_at "vis"); (case ht => rfl); (case hd => decide); (case hcd => decide)) | ((with_reducible refine de_name (x := "number") (i := 7) (s := ?s) ?hN ?hv ?ht ?q ?hd ?hcd); (case hN => rfl); (case hv => walk_at "vis"); (case ht => rfl); (case hd => decide); (case hcd => decide)))


def R_fol : Rr := fun L ss M Q => ∃ (cs : Cnt) (ls : List Line), NoDK L ∧ ss = [.d (eCnt cs), sLs ls] ∧ (cs.map (·.1)).Nodup ∧ (∀ l ∈ ls, okName l.1 = true ∧ l.2 ≤ 1000) ∧ ls.length ≤ 1000 ∧ (∀ p ∈ cs, 0 ≤ p.2 ∧ p.2 ≤ 1000) ∧ remC cs ls ≤ 1000 ∧ ∀ (p : Addr) (M' : Cs), Sub M M' → M p = none → M' p = some (.l ((folC cs ls).map sLine)) → Q (.c p) M'
set_option maxHeartbeats 4000000 in
theorem ok_law_following_lines (F : FunAt K mg "_law_following_lines" s__law_following_lines ["counts", "lines"]) (b1 : mg "max" = none) (b2 : mg "min" = none) (b3 : mg "range" = none) : Cal P w K mg base "_law_following_lines" 1 ["counts", "lines"] R_fol := by
  refine cal_of F sc__law_following_lines (fun _ ss _ _ ⟨cs, ls, _, h, _⟩ => by rw [h]; rfl) (fun f cdv A outer s H E L us M Q hr h => ?_)
  obtain ⟨cs, ls, hL, rfl, nd, okn, hll, val, hrem, fin⟩ := h
  refine db_cons (ds_set (i := 2) sc__law_following_lines.nd rfl (.inl rfl) (de_lstC (da_nil ⟨Nat.zero_le _, fun pr hpr => ?_⟩)))
  have sub_M1 : Sub M (updC M pr (.l [])) := (Sub.refl _).new hpr
  have m_pr : updC M pr (.l []) pr = some (.l []) := updC_same
  generalize updC M pr (.l []) = M1 at sub_M1 m_pr
  refine db_cons (ds_forKeys (i := 0) (kd := kdC cs) PassesOwn.never rfl hL rfl (by walk_at "vis") rfl (fun n τ' M' => ∃ y3 y4 y5 y6 y7, τ' = [some (.d (eCnt cs)), some (sLs ls), some (.c pr), y3, y4, y5, y6, y7] ∧ Sub M M' ∧ M' pr = some (.l ((folC (cs.take n) ls).map sLine))) ⟨none, none, none, none, none, rfl, sub_M1, m_pr⟩ ?_ ?_)
  · rintro x hx n k d τ' M2 hn ⟨y3, y4, y5, y6, y7, rfl, sub2, m2r⟩
    unfold kdC at hn
    rw [List.getElem?_map] at hn
    obtain ⟨pz, hpz, epz⟩ := Option.map_eq_some_iff.mp hn
    cases epz
    have hmem : pz ∈ cs := List.mem_of_getElem? hpz
    have hft := folC_take ls cs hpz
    have hfl := folC_take_len ls cs n
    have hfc := folC_len ls cs
    have hfo := folOf_len ls pz
    have hget := getC_mem nd hmem
    have hval := val pz hmem
    obtain ⟨z, v⟩ := pz
    refine dg_of (pg_name (i := 3) sc__law_following_lines.nd rfl (.inr rfl)) (wg_name ?_)
    refine db_cons (ds_set (i := 4) sc__law_following_lines.nd rfl (.inl rfl) (de_callB (cr_max rfl) (by rfl) b1 bt_max (da_cons (de_cat (de_lc1 (own := [("one", 6), ("number", 7)]) (g := gTup K 2 (gCons (gName 6) (gCons (gName 7) gNil))) rfl sc__law_following_lines.nd (blkOk_by (own := [("one", 6), ("number", 7)]) (N := ["counts", "lines", "result", "name", "come", "last", "one", "number"]) (sc := defScope s__law_following_lines) (by decide +kernel)) (fun _ _ _ _ _ => pg_tup rfl (pgs_cons (pg_name (i := 6) sc__law_following_lines.nd rfl (.inl rfl)) (pgs_cons (pg_name (i := 7) sc__law_following_lines.nd rfl (.inl rfl)) pgs_nil))) (di_seq ?_))))))
    walk_at "nm"
    refine ⟨ls.map sLine, seq_ls _ _, fun D hD => ?_⟩
    refine ⟨fun j M' => M' = updC M2 D (.l ((numsOf (ls.take j) z).map dI)), by show updC M2 D (.l []) = updC M2 D (.l ((numsOf (ls.take 0) z).map dI)); rw [List.take_zero]; rfl, fun _ _ _ => seq_ls _ _, ?_, ?_⟩
    · rintro j y M3 hj hy rfl
      rw [List.length_map] at hj
      have hy' : y = sLine ls[j] := by
        rw [List.getElem?_map, List.getElem?_eq_getElem hj] at hy
        exact (Option.some.inj hy).symm
      subst hy'
      have hlen : ((numsOf (ls.take j) z).map dI).length < sizeLine := by
        unfold numsOf
        rw [List.length_map, List.length_map, sizeLine_eq]
        have := List.length_filter_le (fun l : Line => decide (l.1 = z)) (ls.take j)
        rw [List.length_take] at this
        omega
      have hend : numsOf (ls.take (j + 1)) z = numsOf (ls.take j) z ++ (if ls[j].1 = z then [ls[j].2] else []) := by
        unfold numsOf
        rw [List.take_add_one, List.getElem?_eq_getElem hj, List.filter_append, List.map_append]
        congr 1
        show (List.filter (fun l : Line => decide (l.1 = z)) [ls[j]]).map (·.2) = _
        by_cases e : ls[j].1 = z
        · rw [if_pos e, List.filter_cons, if_pos (decide_eq_true e)]; rfl
        · rw [if_neg e, List.filter_cons, if_neg (fun q => e (of_decide_eq_true q))]; rfl
      generalize ls[j] = l at hend
      refine wgw_tup rfl rfl rfl (wgws_cons (wgw_name (by simp) (wgws_cons (wgw_name (by simp) (wgws_nil ?_)))))
      intro s0 H0 C cl fp
      refine dt_cmp op_eq ?_ (by with_unfolding_all rfl)
      walk_at "nm"
      walk_at "nm"
      refine k_eqS ⟨_, rfl, fun h => ?_, fun h => ?_⟩
      · have h := of_decide_eq_true h
        intro s0 H0 C cl fp
        walk_at "nm"
        refine ⟨_, updC_same, hlen, ?_⟩
        show updC _ _ _ = updC _ _ _
        rw [updC_updC, hend, if_pos h, List.map_append]
        rfl
      · have h := of_decide_eq_false h
        show updC _ _ _ = updC _ _ _
        rw [hend, if_neg h, List.append_nil]
    rintro M3 rfl
    rw [List.length_map, List.take_length]
    have sub_M3 : Sub M2 (updC M2 D (.l ((numsOf ls z).map dI))) := (Sub.refl _).new hD
    have m_D : updC M2 D (.l ((numsOf ls z).map dI)) D = some (.l ((numsOf ls z).map dI)) := updC_same
    generalize updC M2 D (.l ((numsOf ls z).map dI)) = M3 at sub_M3 m_D
    refine de_lstD (da_cons (de_int (da_nil ⟨[.int 0], rfl, (by show 1 ≤ sizeLine; decide), (numsOf ls z).map dI, [dI 0], by simp only [lstOf, m_D], rfl, ?_, fun p2 hp2 => ?_⟩)))
    · have := List.length_filter_le (fun l : Line => decide (l.1 = z)) ls
      unfold numsOf
      rw [List.length_map, List.length_map, sizeLine_eq]
      show _ + 1 ≤ _
      omega
    rw [show ((numsOf ls z).map dI ++ [dI 0] : List Sl) = (numsOf ls z ++ [0]).map dI from by rw [List.map_append]; rfl]
    have sub_M4 : Sub M3 (updC M3 p2 (.l ((numsOf ls z ++ [0]).map dI))) := (Sub.refl _).new hp2
    have m_p2 : updC M3 p2 (.l ((numsOf ls z ++ [0]).map dI)) p2 = some (.l ((numsOf ls z ++ [0]).map dI)) := updC_same
    generalize updC M3 p2 (.l ((numsOf ls z ++ [0]).map dI)) = M4 at sub_M4 m_p2
    refine da_nil (k_maxL (ns := numsOf ls z ++ [0]) rfl (by simp only [seqOf, m_p2]) (by rw [List.length_append]; simp) fun m hm hy => ?_)
    have hm := come_max hm hy
    subst hm
    have sub4 : Sub M M4 := Sub.trans sub2 (Sub.trans sub_M3 sub_M4)
    have m4r := sub_M4 _ _ (sub_M3 _ _ m2r)
    refine db_cons (ds_set (i := 5) sc__law_following_lines.nd rfl (.inl rfl) (de_dget (hu_of hr) ?_))
    walk_at "nm"
    walk_at "nm"
    refine ⟨_, .inr z, dI v, .d (kdC cs), rfl, by rw [valS_C, hget]; rfl, ?_⟩
    refine db_consJ (fun τ' M' => τ' = [some (.d (eCnt cs)), some (sLs ls), some (.c pr), some (dS z), some (dI (comeN ls z)), some (dI (lastF ls z v)), y6, y7] ∧ M' = M4) (ds_ifB (decide (ls = [] ∨ (ls.getLast?.map (·.1)) = some z)) (dt_or2 (dt_cmp (op_eqD hr.units) ?_ (by with_unfolding_all rfl))) (fun h2 => ?_) fun h2 => ?_) ?_
    · walk_at "nm"
      refine de_lstD (da_nil ⟨[], rfl, Nat.zero_le _, k_eqD (.d (eLs ls)) (.d (.list [])) (shaped_lines ls fun l hl => (okn l hl).1) (by decide +kernel) ?_⟩)
      rw [show PyData.eqv (eLs ls) (.list []) = decide (ls = []) from eqv_list eLine eqv_line ls []]
      refine ⟨_, rfl, fun he => ⟨?_, rfl⟩, fun hne => ?_⟩
      · have he := of_decide_eq_true he
        rw [decide_eq_true (.inl he)]
      · have hne := of_decide_eq_false hne
        obtain ⟨l, hl⟩ : ∃ l, ls.getLast? = some l := ⟨_, List.getLast?_eq_some_getLast hne⟩
        have hlS : (ls.map sLine).getLast? = some (sLine l) := by rw [List.getLast?_map, hl]; rfl
        refine dt_cmp op_eq (de_ix (de_ix ?_)) (by with_unfolding_all rfl)
        walk_at "nm"
        refine de_neg (de_int ⟨1, rfl, ls.map sLine, _, sLine l, seq_ls _ _, rfl, atI_l hlS, de_int ⟨_, _, dS l.1, rfl, rfl, rfl, ?_⟩⟩)
        walk_at "nm"
        refine k_eqS ⟨_, rfl, ?_, rfl⟩
        rw [hl]
        by_cases e : l.1 = z
        · rw [decide_eq_true e, decide_eq_true (.inr (by rw [← e]; rfl))]
        · rw [decide_eq_false e, decide_eq_false]
          rintro (q | q)
          · exact hne q
          · exact e (Option.some.inj q)
    · have h2 := of_decide_eq_true h2
      refine db_cons (ds_set (i := 5) sc__law_following_lines.nd rfl (.inl rfl) (de_callB (call_min2 rfl) (by rfl) b2 bt_min (da_cons ?_)))
      walk_at "nm"
      refine da_cons (de_add ?_)
      walk_at "nm"
      refine de_int ⟨_, _, rfl, rfl, da_nil (k_min2 (db_nil ⟨?_, rfl⟩))⟩
      unfold lastF
      rw [if_pos h2]
      rfl
    · have h2 := of_decide_eq_false h2
      refine db_nil ⟨?_, rfl⟩
      unfold lastF
      rw [if_neg h2]
      rfl
    rintro τ' M5 ⟨rfl, rfl⟩
    obtain ⟨c1, c2, c3⟩ := come_spec z ls 0
    have c2 : 0 ≤ comeN ls z := c2
    have hcb : comeN ls z ≤ 1000 := by
      show List.foldl _ _ _ ≤ _
      rcases c1 with q | ⟨l, hl, _, q⟩
      · rw [q]; decide
      · rw [← q]; exact (okn l hl).2
    have hlb := lastF_le ls z v
    have hl0 : -1000 ≤ lastF ls z v := by
      simp only at hval
      unfold lastF
      split
      · split <;> omega
      · omega
    simp only at hval hfo
    have a1 : (folC (cs.take n) ls).length ≤ 1000 := Nat.le_trans hfl (Nat.le_trans hfc hrem)
    have a2 : (folOf ls (z, v)).length ≤ 1000 := by
      have c2' : 0 ≤ comeN ls z := c2
      omega
    refine db_cons (ds_extend ?_)
    walk_at "nm"
    refine ⟨⟨rfl, _, by simp only [seqOf, m4r]; rfl⟩, de_lc0 (own := [("number", 7)]) (g := gName 7) rfl sc__law_following_lines.nd (blkOk_by (own := [("number", 7)]) (N := ["counts", "lines", "result", "name", "come", "last", "one", "number"]) (sc := defScope s__law_following_lines) (by decide +kernel)) (fun _ _ _ _ _ => pg_name (i := 7) sc__law_following_lines.nd rfl (.inl rfl)) (di_range2 (by rfl) b3 (de_add ?_))⟩
    walk_at "nm"
    refine de_int ⟨_, _, rfl, rfl, de_add ?_⟩
    walk_at "nm"
    refine de_int ⟨_, _, rfl, rfl, comeN ls z + 1, lastF ls z v + 1, rfl, rfl, by omega, fun D2 hD2 => ?_⟩
    have e5 : (lastF ls z v + 1 - (comeN ls z + 1)).toNat = (lastF ls z v - comeN ls z).toNat := by congr 1; omega
    rw [e5]
    have nr2 : pr ≠ D2 := neC m4r hD2
    have hD2M : M D2 = none := sub4.none hD2
    refine ⟨fun j M' => M' = updC M5 D2 (.l (((List.range j).map fun (k : Nat) => ((z, comeN ls z + 1 + (k : Int)) : Line)).map sLine)), rfl, fun _ _ _ => trivial, ?_, ?_⟩
    · rintro j y M6 hj rfl rfl
      refine wgw_name (by simp) ?_
      intro s0 H0 C cl fp
      refine de_tupD (da_cons ?_)
      walk_at "nm"
      refine da_cons ?_
      walk_at "nm"
      refine da_nil ⟨[.str z, .int (comeN ls z + 1 + (j : Int))], rfl, (by show 2 ≤ sizeLine; decide), _, updC_same, ?_, ?_⟩
      · rw [List.length_map, List.length_map, List.length_range, sizeLine_eq]
        omega
      · show updC _ _ _ = updC _ _ _
        rw [updC_updC, List.range_succ, List.map_append, List.map_append]
        rfl
    · rintro M6 rfl
      refine ⟨pr, D2, _, (folOf ls (z, v)).map sLine, rfl, rfl, by rw [updC_ne nr2]; exact m4r, updC_same, ?_, db_nil ⟨_, _, _, _, _, rfl, sub_put (sub_put sub4 hD2M) hpr, ?_⟩⟩
      · rw [List.length_map, List.length_map, sizeLine_eq]
        exact Nat.le_trans (Nat.add_le_add a1 a2) (by decide)
      · rw [updC_same, hft, List.map_append]
  · rintro τ' M2 ⟨y3, y4, y5, y6, y7, rfl, sub2, m2r⟩
    have : (kdC cs).length = cs.length := by unfold kdC; rw [List.length_map]
    rw [this, List.take_length] at m2r
    refine db_cons (ds_ret ?_)
    walk_at "nm"
    exact fin pr M2 sub2 hpr m2r

end

end Pg

namespace Pg
open PySem L2 Y PyProof.Rows

local macro_rules | `(tactic| walk_at "vis") => `(tactic| first | exact Or.inl rfl | exact Or.inr (Or.inl rfl) | exact Or.inr (Or.inr rfl))
local macro_rules | `(tactic| walk_at "e1") => `(tactic| first | walk_at "nm" | refine de_int ?_ | refine de_add ?_ | refine de_sub ?_ | refine de_str ?_ | refine de_non ?_ | refine de_bl ?_)
local macro_rules | `(tactic| walk_at "go") => `(tactic| repeat (first | ((with_reducible show DE _ _ _ _ _ _); walk_at "e1") | ((with_reducible show DA _ _ _ _ _ _); refine da_cons ?_) | refine ⟨_, _, rfl, rfl, ?_⟩))


/-- each line may follow those ahead of it -/
def Path (cs : Cnt) (T : List Line) : Prop := ∀ w l t, T = w ++ l :: t → l ∈ folC cs w
theorem path_nil (cs : Cnt) : Path cs [] := fun w l t h => by cases w <;> cases h
theorem path_snoc {cs : Cnt} {w : List Line} {l : Line} (h : Path cs w) (hl : l ∈ folC cs w) : Path cs (w ++ [l]) := fun w' l' t' e => by
  rcases List.eq_nil_or_concat t' with rfl | ⟨t, x, rfl⟩
  · obtain ⟨e1, e2⟩ := List.append_inj' e rfl
    cases e2
    rw [← e1]
    exact hl
  · have e2 : w ++ [l] = (w' ++ l' :: t) ++ [x] := by rw [e]; simp
    obtain ⟨e3, _⟩ := List.append_inj' e2 rfl
    exact h w' l' t e3
def valC (cs : Cnt) (z : Str) : Int := (getC cs z).getD 0
/-- a final content, line by line -/
def Fin (cs : Cnt) (T : List Line) : Prop := (T = [] ∧ sumC cs = 0) ∨ (T ≠ [] ∧ Path cs T ∧ ∀ l, T.getLast? = some l → l.2 = valC cs l.1)
def psi : Nat → Nat
  | 0 => 1
  | n + 1 => 1 + (n + 1) * (psi n + 1)
theorem psi_pos : ∀ n, 1 ≤ psi n
  | 0 => Nat.le_refl _
  | n + 1 => by show 1 ≤ 1 + _; omega
theorem psi_step (n : Nat) : psi n ≤ psi (n + 1) := by
  show psi n ≤ 1 + (n + 1) * (psi n + 1)
  have : psi n + 1 ≤ (n + 1) * (psi n + 1) := Nat.le_mul_of_pos_left _ (Nat.succ_pos n)
  omega
theorem psi_mono {m n : Nat} (h : m ≤ n) : psi m ≤ psi n := by
  induction n with
  | zero => rw [Nat.le_zero.mp h]; exact Nat.le_refl _
  | succ n ih =>
    by_cases e : m = n + 1
    · rw [e]; exact Nat.le_refl _
    · exact Nat.le_trans (ih (by omega)) (psi_step n)
def potC (cs : Cnt) (ws : List (List Line)) : Nat := (ws.map fun w => psi (remC cs w)).sum
theorem sum_le {α : Type} (f g : α → Nat) : ∀ xs : List α, (∀ x ∈ xs, f x ≤ g x) → (xs.map f).sum ≤ (xs.map g).sum
  | [], _ => Nat.le_refl _
  | x :: r, h => by
    have h1 := h x List.mem_cons_self
    have h2 := sum_le f g r fun y hy => h y (List.mem_cons_of_mem _ hy)
    rw [List.map_cons, List.map_cons, List.sum_cons, List.sum_cons]
    omega
theorem sum_lt {α : Type} (f g : α → Nat) : ∀ xs : List α, (∀ x ∈ xs, f x ≤ g x) → (∃ x ∈ xs, f x + 1 ≤ g x) → (xs.map f).sum + 1 ≤ (xs.map g).sum
  | [], _, ⟨_, h, _⟩ => nomatch h
  | x :: r, h, ⟨y, hy, e⟩ => by
    have h1 := h x List.mem_cons_self
    rw [List.map_cons, List.map_cons, List.sum_cons, List.sum_cons]
    rcases List.mem_cons.mp hy with rfl | hy
    · have h2 := sum_le f g r fun y hy => h y (List.mem_cons_of_mem _ hy)
      omega
    · have h2 := sum_lt f g r (fun y hy => h y (List.mem_cons_of_mem _ hy)) ⟨y, hy, e⟩
      omega
theorem rem_child {cs : Cnt} {w : List Line} {l : Line} (hl : l ∈ folC cs w) : remC cs (w ++ [l]) + 1 ≤ remC cs w := by
  obtain ⟨v, hv, h1, h2⟩ := mem_fol hl
  have h3 := lastF_le w l.1 v
  unfold remC
  refine sum_lt _ _ cs (fun p _ => ?_) ⟨_, hv, ?_⟩
  · rw [comeN_snoc]
    split
    · split <;> omega
    · exact Nat.le_refl _
  · show (v - comeN (w ++ [l]) l.1).toNat + 1 ≤ (v - comeN w l.1).toNat
    rw [comeN_snoc, if_pos rfl, if_pos (by omega)]
    omega
theorem sum_const {α : Type} (f : α → Nat) (b : Nat) : ∀ xs : List α, (∀ x ∈ xs, f x ≤ b) → (xs.map f).sum ≤ xs.length * b
  | [], _ => by simp
  | x :: r, h => by
    have h1 := h x List.mem_cons_self
    have h2 := sum_const f b r fun y hy => h y (List.mem_cons_of_mem _ hy)
    rw [List.map_cons, List.sum_cons, List.length_cons, Nat.succ_mul]
    omega
/-- a turn of the search costs less than it brings -/
theorem pot_turn (cs : Cnt) (w : List Line) : (folC cs w).length + ((folC cs w).map fun l => psi (remC cs (w ++ [l]))).sum + 1 ≤ psi (remC cs w) := by
  have hlen := folC_len w cs
  cases hR : remC cs w with
  | zero =>
    rw [hR] at hlen
    have : folC cs w = [] := List.length_eq_zero_iff.mp (Nat.le_zero.mp hlen)
    rw [this]
    exact Nat.le_refl _
  | succ R =>
    rw [hR] at hlen
    have h1 := sum_const (fun l => psi (remC cs (w ++ [l]))) (psi R) (folC cs w) fun l hl => psi_mono (by have := rem_child hl; omega)
    have h2 : (folC cs w).length * (psi R + 1) ≤ (R + 1) * (psi R + 1) := Nat.mul_le_mul_right _ hlen
    rw [Nat.mul_add, Nat.mul_one] at h2
    show _ ≤ 1 + (R + 1) * (psi R + 1)
    omega
theorem rem_nil {cs : Cnt} (h : ∀ p ∈ cs, 0 ≤ p.2) : ((remC cs [] : Nat) : Int) = sumC cs := by
  induction cs with
  | nil => rfl
  | cons p r ih =>
    have e : remC (p :: r) [] = (p.2 - 0).toNat + remC r [] := by unfold remC; rw [List.map_cons, List.sum_cons]; rfl
    rw [e, sumC_cons]
    have := ih fun q hq => h q (List.mem_cons_of_mem _ hq)
    have := h p List.mem_cons_self
    omega
/-- what holds in the search -/
structure Srch (cs : Cnt) (ws rs : List (List Line)) : Prop where
  path : ∀ w ∈ ws, Path cs w ∧ w.length + remC cs w ≤ 5
  fin : ∀ r ∈ rs, Fin cs r
  all : ∀ T, Fin cs T → T ∈ rs ∨ ∃ w ∈ ws, ∃ l t, T = w ++ l :: t
theorem srch_init {cs : Cnt} (h : ∀ p ∈ cs, 0 ≤ p.2) (h5 : sumC cs ≤ 5) : Srch cs [[]] (if sumC cs = 0 then [[]] else []) where
  path w hw := by
    rw [List.mem_singleton.mp hw]
    have := rem_nil h
    exact ⟨path_nil cs, by show 0 + _ ≤ 5; omega⟩
  fin r hr := by
    split at hr
    · next e => exact .inl ⟨List.mem_singleton.mp hr, e⟩
    · cases hr
  all T hT := by
    rcases hT with ⟨rfl, e⟩ | ⟨hne, _⟩
    · left; rw [if_pos e]; exact List.mem_cons_self
    · right
      cases T with
      | nil => exact absurd rfl hne
      | cons l t => exact ⟨[], List.mem_cons_self, l, t, rfl⟩
def endsC (cs : Cnt) (w : List Line) (ls : List Line) : List (List Line) := (ls.filter fun l => decide (l.2 = valC cs l.1)).map fun l => w ++ [l]
theorem srch_turn {cs : Cnt} {ws rs : List (List Line)} {w : List Line} (h : Srch cs (ws ++ [w]) rs) : Srch cs (ws ++ (folC cs w).map fun l => w ++ [l]) (rs ++ endsC cs w (folC cs w)) where
  path x hx := by
    rcases List.mem_append.mp hx with hx | hx
    · exact h.path x (List.mem_append_left _ hx)
    · obtain ⟨l, hl, rfl⟩ := List.mem_map.mp hx
      obtain ⟨p1, p2⟩ := h.path w (List.mem_append_right _ List.mem_cons_self)
      refine ⟨path_snoc p1 hl, ?_⟩
      have := rem_child hl
      rw [List.length_append, List.length_singleton]
      omega
  fin r hr := by
    rcases List.mem_append.mp hr with hr | hr
    · exact h.fin r hr
    · obtain ⟨l, hl, rfl⟩ := List.mem_map.mp hr
      obtain ⟨hl, e⟩ := List.mem_filter.mp hl
      obtain ⟨p1, _⟩ := h.path w (List.mem_append_right _ List.mem_cons_self)
      refine .inr ⟨by simp, path_snoc p1 hl, fun x hx => ?_⟩
      rw [List.getLast?_concat] at hx
      cases hx
      exact of_decide_eq_true e
  all T hT := by
    rcases h.all T hT with q | ⟨x, hx, l, t, e⟩
    · exact .inl (List.mem_append_left _ q)
    · rcases List.mem_append.mp hx with hx | hx
      · exact .inr ⟨x, List.mem_append_left _ hx, l, t, e⟩
      · rw [List.mem_singleton.mp hx] at e
        have hF : Path cs T ∧ ∀ l, T.getLast? = some l → l.2 = valC cs l.1 := by
          rcases hT with ⟨rfl, _⟩ | ⟨_, a, b⟩
          · cases w <;> cases e
          · exact ⟨a, b⟩
        have hl : l ∈ folC cs w := hF.1 w l t e
        cases t with
        | nil =>
          left
          have : l.2 = valC cs l.1 := hF.2 l (by rw [e, List.getLast?_concat])
          refine List.mem_append_right _ ?_
          rw [e]
          exact List.mem_map.mpr ⟨l, List.mem_filter.mpr ⟨hl, decide_eq_true this⟩, rfl⟩
        | cons l2 t2 =>
          right
          exact ⟨w ++ [l], List.mem_append_right _ (List.mem_map.mpr ⟨l, hl, rfl⟩), l2, t2, by rw [e]; simp⟩
theorem potC_app (cs : Cnt) (a b : List (List Line)) : potC cs (a ++ b) = potC cs a + potC cs b := by
  unfold potC
  rw [List.map_append, List.sum_append]
theorem potC_map (cs : Cnt) (w : List Line) (ls : List Line) : potC cs (ls.map fun l => w ++ [l]) = (ls.map fun l => psi (remC cs (w ++ [l]))).sum := by
  unfold potC
  rw [List.map_map]
  rfl
theorem endsC_len (cs : Cnt) (w ls : List Line) : (endsC cs w ls).length ≤ ls.length := by
  unfold endsC
  rw [List.length_map]
  exact List.length_filter_le _ _
/-- a path's lines are lines of the counts -/
theorem path_lines {cs : Cnt} {T : List Line} (h : Path cs T) : ∀ l ∈ T, ∃ v, (l.1, v) ∈ cs ∧ 1 ≤ l.2 ∧ l.2 ≤ v := fun l hl => by
  obtain ⟨a, b, e⟩ := List.append_of_mem hl
  obtain ⟨v, hv, h1, h2⟩ := mem_fol (h a l b e)
  have h3 := lastF_le a l.1 v
  have h4 : 0 ≤ comeN a l.1 := (come_spec l.1 a 0).2.1
  exact ⟨v, hv, by omega, by omega⟩
theorem isd_lss {M : Cs} {a : Addr} {ws : List (List Line)} (h : M a = some (.l (ws.map sLs))) : IsD M (.c a) (.list (ws.map eLs)) := IsD.cell (by rw [h, List.map_map]; rfl)
theorem shaped_lss (ws : List (List Line)) (h : ∀ w ∈ ws, ∀ l ∈ w, okName l.1 = true) : SeqAt.shaped (.list (ws.map eLs)) = true := shaped_list eLs ws 2 (by decide) (fun w hw => canLayAll_map eLine w fun l hl => can_line (h w hw l hl)) (fun w hw => by
  show PyData.depthAll (w.map eLine) + 1 ≤ 2
  have := depthAll_map eLine 1 w fun _ _ => Nat.le_refl 1
  omega)
theorem eqv_lss (a b : List Line) : PyData.eqv (eLs a) (eLs b) = decide (a = b) := eqv_list eLine eqv_line a b
theorem sumC_ge {cs : Cnt} (h : ∀ p ∈ cs, 0 ≤ p.2) : ∀ p ∈ cs, p.2 ≤ sumC cs := by
  induction cs with
  | nil => exact fun _ h => nomatch h
  | cons q r ih =>
    intro p hp
    rw [sumC_cons]
    have h0 := h q List.mem_cons_self
    have hr : 0 ≤ sumC r := by
      have := rem_nil fun p hp => h p (List.mem_cons_of_mem _ hp)
      omega
    rcases List.mem_cons.mp hp with rfl | hp
    · omega
    · have := ih (fun p hp => h p (List.mem_cons_of_mem _ hp)) p hp
      omega
section
variable {P : Program} {w : World} {K : PySem.W.Frag} {mg : Str → Option Value} {base : Heap}

local macro_rules | `(tactic| walk_at "nm") => `(tactic| first | ((with_reducible refine de_name (x := "counts") (i := 0) (s := ?s) ?hN ?hv ?ht ?q ?hd ?hcd); (case hN => rfl); (case hv => walk_at "vis"); (case ht => rfl); (case hd => decide); (case hcd => decide)) | ((with_reducible refine de_name (x := "result") (i := 1) (s := ?s) ?hN ?hv ?ht ?q ?hd ?hcd); (case hN => rfl); (case hv => walk_at "vis"); (case ht => rfl); (case hd => decide); (case hcd => decide)) | ((with_reducible refine de_name (x := "waiting") (i := 2) (s := ?s) ?hN ?hv ?ht ?q ?hd ?hcd); (case hN => rfl); (case hv => walk_at "vis"); (case ht => rfl); (case hd => decide); (case hcd => decide)) | ((with_reducible refine de_name (x := "lines") (i := 3) (s := ?s) ?hN ?hv ?ht ?q ?hd ?hcd); (case hN => rfl); (case hv => walk_at "vis"); (case ht => rfl); (case hd => decide); (case hcd => decide)) | ((with_reducible refine de_name (x := "line") (i := 4) (s := ?s) ?hN ?hv ?ht ?q ?hd ?hcd); (case hN => rfl); (case hv => walk_at "vis"); (case ht => rfl); (case hd => decide); (case hcd => decide)))


def R_all : Rr := fun L ss M Q => ∃ (cs : Cnt), NoDK L ∧ ss = [.d (eCnt cs)] ∧ okCnt cs ∧ sumC cs ≤ 5 ∧ ∀ (rs : List (List Line)) (p : Addr) (M' : Cs), Sub M M' → M p = none → M' p = some (.l (rs.map sLs)) → rs.length ≤ 1000 → (∀ r, r ∈ rs ↔ Fin cs r) → (∀ r ∈ rs, r.length ≤ 5) → Q (.c p) M'
set_option maxHeartbeats 4000000 in
theorem ok_law_all_final (F : FunAt K mg "_law_all_final" s__law_all_final ["counts"]) (c1 : Cal P w K mg base "_law_following_lines" 1 ["counts", "lines"] R_fol) (b1 : mg "sum" = none) (b2 : mg "list" = none) : Cal P w K mg base "_law_all_final" 2 ["counts"] R_all := by
  refine cal_of F sc__law_all_final (fun _ ss _ _ ⟨cs, _, h, _⟩ => by rw [h]; rfl) (fun f cdv A outer s H E L us M Q hr h => ?_)
  obtain ⟨cs, hL, rfl, okc, h5, fin⟩ := h
  have hnn : ∀ p ∈ cs, 0 ≤ p.2 := fun p hp => (okc.2.2.2 p hp).2.1
  refine db_consJ (fun τ' M' => ∃ pr, τ' = [some (.d (eCnt cs)), some (.c pr), none, none, none] ∧ Sub M M' ∧ M pr = none ∧ M' pr = some (.l ((if sumC cs = 0 then [[]] else [] : List (List Line)).map sLs))) (ds_set (i := 1) sc__law_all_final.nd rfl (.inl rfl) (de_if (dt_cmp op_eq (de_callB (cr_sum rfl) (by rfl) b1 bt_sum (da_cons (de_listV rfl (by rfl) b2 ?_))) (by with_unfolding_all rfl)))) ?_
  · walk_at "nm"
    refine ⟨_, cs.map (·.2), .d (kdC cs), by unfold slK kdC; rw [List.map_map, List.map_map, List.map_map]; rfl, fun pl hpl => ?_⟩
    have sub_M1 : Sub M (updC M pl (.l ((cs.map (·.2)).map dI))) := (Sub.refl _).new hpl
    have m_pl : updC M pl (.l ((cs.map (·.2)).map dI)) pl = some (.l ((cs.map (·.2)).map dI)) := updC_same
    generalize updC M pl (.l ((cs.map (·.2)).map dI)) = M1 at sub_M1 m_pl
    refine da_nil (k_sum (ns := cs.map (·.2)) rfl (by simp only [seqOf, m_pl]) (de_int (k_eqI ⟨_, rfl, fun h => ?_, fun h => ?_⟩)))
    · have h : sumC cs = 0 := of_decide_eq_true h
      refine de_lstC (da_cons (de_lstD (da_nil ⟨[], rfl, Nat.zero_le _, da_nil ⟨(by show 1 ≤ sizeLine; decide), fun p2 hp2 => ?_⟩⟩)))
      exact ⟨p2, rfl, sub_put sub_M1 (sub_M1.none hp2), sub_M1.none hp2, by rw [updC_same, if_pos h]; rfl⟩
    · have h : ¬ sumC cs = 0 := of_decide_eq_false h
      refine de_lstC (da_nil ⟨Nat.zero_le _, fun p2 hp2 => ?_⟩)
      exact ⟨p2, rfl, sub_put sub_M1 (sub_M1.none hp2), sub_M1.none hp2, by rw [updC_same, if_neg h]; rfl⟩
  rintro τ' M1 ⟨pr, rfl, sub1, hpr, m1r⟩
  refine db_cons (ds_set (i := 2) sc__law_all_final.nd rfl (.inl rfl) (de_lstC (da_cons (de_lstD (da_nil ⟨[], rfl, Nat.zero_le _, da_nil ⟨(by show 1 ≤ sizeLine; decide), fun pw hpw => ?_⟩⟩)))))
  have hpwM := sub1.none hpw
  have nrw : pr ≠ pw := neC m1r hpw
  have sub2 : Sub M (updC M1 pw (.l [.d (.list [])])) := sub_put sub1 hpwM
  have m2w : updC M1 pw (.l [.d (.list [])]) pw = some (.l (([[]] : List (List Line)).map sLs)) := updC_same
  have m2r : updC M1 pw (.l [.d (.list [])]) pr = some (.l ((if sumC cs = 0 then [[]] else [] : List (List Line)).map sLs)) := by rw [updC_ne nrw]; exact m1r
  generalize updC M1 pw (.l [.d (.list [])]) = M2 at sub2 m2w m2r
  have pot0 : potC cs [[]] ≤ 651 := by
    show psi (remC cs []) + 0 ≤ 651
    have := rem_nil hnn
    exact psi_mono (show remC cs [] ≤ 5 by omega)
  have len0 : (if sumC cs = 0 then [[]] else [] : List (List Line)).length ≤ 1 := by
    split
    · exact Nat.le_refl 1
    · exact Nat.zero_le 1
  refine db_cons (ds_while PassesOwn.never (fun m τ' M' => ∃ ws rs y3 y4, τ' = [some (.d (eCnt cs)), some (.c pr), some (.c pw), y3, y4] ∧ Sub M M' ∧ M' pw = some (.l (ws.map sLs)) ∧ M' pr = some (.l (rs.map sLs)) ∧ m = potC cs ws ∧ rs.length + potC cs ws ≤ 652 ∧ (∀ r ∈ rs, r.length ≤ 5) ∧ Srch cs ws rs) (potC cs [[]]) ⟨[[]], _, none, none, rfl, sub2, m2w, m2r, rfl, by omega, ?_, srch_init hnn h5⟩ ?_)
  · intro r hr
    split at hr
    · rw [List.mem_singleton.mp hr]; exact Nat.zero_le _
    · cases hr
  · rintro m τ' M3 ⟨ws, rs, y3, y4, rfl, sub3, m3w, m3r, rfl, hb, hr5, hS⟩
    have okw : ∀ w ∈ ws, ∀ l ∈ w, okName l.1 = true ∧ l.2 ≤ 5 := fun w hw l hl => by
      obtain ⟨v, hv, _, h2⟩ := path_lines (hS.path w hw).1 l hl
      have := sumC_ge hnn _ hv
      exact ⟨(okc.2.2.2 _ hv).1, by simp only at this; omega⟩
    refine dt_cmp (op_neD hr.units) ?_ (by with_unfolding_all rfl)
    walk_at "nm"
    refine de_lstD (da_nil ⟨[], rfl, Nat.zero_le _, k_neD (isd_lss m3w) (.d (.list [])) (shaped_lss ws fun w hw l hl => (okw w hw l hl).1) (by decide +kernel) ?_⟩)
    rw [show PyData.eqv (.list (ws.map eLs)) (.list []) = decide (ws = []) from eqv_list eLs eqv_lss ws []]
    refine ⟨_, rfl, fun hne => ?_, fun he => ?_⟩
    · have hne : ws ≠ [] := by simpa using hne
      rcases List.eq_nil_or_concat ws with e | ⟨ws', w, e⟩
      · exact absurd e hne
      rw [List.concat_eq_append] at e
      subst e
      have hwin : w ∈ ws' ++ [w] := List.mem_append_right _ List.mem_cons_self
      obtain ⟨hP, hw5⟩ := hS.path w hwin
      have okl := okw w hwin
      have hturn := pot_turn cs w
      refine db_cons (ds_set (i := 3) sc__law_all_final.nd rfl (.inl rfl) (de_popV ?_))
      walk_at "nm"
      refine ⟨pw, _, sLs w, rfl, m3w, by rw [← List.getLast?_eq_getElem?, List.map_append]; exact List.getLast?_concat, ?_⟩
      have edl : ((ws' ++ [w]).map sLs).dropLast = ws'.map sLs := by rw [List.map_append]; exact List.dropLast_concat
      rw [edl]
      have sub4 : Sub M (updC M3 pw (.l (ws'.map sLs))) := sub_put sub3 hpwM
      have m4w : updC M3 pw (.l (ws'.map sLs)) pw = some (.l (ws'.map sLs)) := updC_same
      have m4r : updC M3 pw (.l (ws'.map sLs)) pr = some (.l (rs.map sLs)) := by rw [updC_ne nrw]; exact m3r
      generalize updC M3 pw (.l (ws'.map sLs)) = M4 at sub4 m4w m4r
      refine db_cons (ds_for PassesOwn.never rfl (di_seq (de_callC c1 hr (by rfl) (da_cons ?_))))
      walk_at "nm"
      refine da_cons ?_
      walk_at "nm"
      refine da_nil ⟨cs, w, hL, rfl, okc.2.2.1, fun l hl => ⟨(okl l hl).1, by have := (okl l hl).2; omega⟩, by omega, fun p hp => ⟨hnn p hp, by have := sumC_ge hnn p hp; omega⟩, by omega, fun pf M5 sub5 hpf m5f => ?_⟩
      have npf : pw ≠ pf := neC m4w hpf
      have nrf : pr ≠ pf := neC m4r hpf
      have hpotA : potC cs (ws' ++ [w]) = potC cs ws' + psi (remC cs w) := by rw [potC_app]; rfl
      rw [hpotA] at hb ⊢
      refine ⟨(folC cs w).map sLine, by simp only [seqOf, m5f], ?_⟩
      refine ⟨fun i τ' M' => ∃ y4, τ' = [some (.d (eCnt cs)), some (.c pr), some (.c pw), some (sLs w), y4] ∧ Sub M M' ∧ M' pf = some (.l ((folC cs w).map sLine)) ∧ M' pw = some (.l ((ws' ++ ((folC cs w).take i).map fun l => w ++ [l]).map sLs)) ∧ M' pr = some (.l ((rs ++ endsC cs w ((folC cs w).take i)).map sLs)), ⟨y4, rfl, Sub.trans sub4 sub5, m5f, ?_, ?_⟩, ?_, ?_, ?_⟩
      · rw [List.take_zero, List.map_nil, List.append_nil]
        exact sub5 _ _ m4w
      · rw [List.take_zero, show endsC cs w [] = [] from rfl, List.append_nil]
        exact sub5 _ _ m4r
      · rintro i τ' M' ⟨y4, rfl, _, m6f, _⟩
        simp only [seqOf, m6f]
      · rintro i y τ' M6 hi hy ⟨y4', rfl, sub6, m6f, m6w, m6r⟩
        rw [List.length_map] at hi
        have hy' : y = sLine (folC cs w)[i] := by
          rw [List.getElem?_map, List.getElem?_eq_getElem hi] at hy
          exact (Option.some.inj hy).symm
        subst hy'
        have hmem : (folC cs w)[i] ∈ folC cs w := List.getElem_mem hi
        have htk : (folC cs w).take (i + 1) = (folC cs w).take i ++ [(folC cs w)[i]] := by
          rw [List.take_add_one, List.getElem?_eq_getElem hi]
          rfl
        have hlw : (ws' ++ ((folC cs w).take i).map fun l => w ++ [l]).length ≤ 2000 := by
          have h1 : ∀ xs : List (List Line), xs.length ≤ potC cs xs := fun xs => by
            induction xs with
            | nil => exact Nat.le_refl _
            | cons x r ih =>
              have := psi_pos (remC cs x)
              have e : potC cs (x :: r) = psi (remC cs x) + potC cs r := by unfold potC; rw [List.map_cons, List.sum_cons]
              rw [e, List.length_cons]
              omega
          have h2 := h1 ws'
          rw [List.length_append, List.length_map, List.length_take]
          omega
        have hlr : (rs ++ endsC cs w ((folC cs w).take i)).length ≤ 2000 := by
          have := endsC_len cs w ((folC cs w).take i)
          rw [List.length_take] at this
          rw [List.length_append]
          omega
        have hends : endsC cs w ((folC cs w).take (i + 1)) = endsC cs w ((folC cs w).take i) ++ (if (folC cs w)[i].2 = valC cs (folC cs w)[i].1 then [w ++ [(folC cs w)[i]]] else []) := by
          rw [htk]
          unfold endsC
          rw [List.filter_append, List.map_append]
          congr 1
          by_cases e : (folC cs w)[i].2 = valC cs (folC cs w)[i].1
          · rw [if_pos e, List.filter_cons, if_pos (decide_eq_true e)]; rfl
          · rw [if_neg e, List.filter_cons, if_neg (fun q => e (of_decide_eq_true q))]; rfl
        generalize (folC cs w)[i] = l at hmem htk hends
        obtain ⟨v, hv, _, _⟩ := mem_fol hmem
        have hget := getC_mem okc.2.2.1 hv
        have hval : valC cs l.1 = v := by unfold valC; rw [show getC cs l.1 = some v from hget]; rfl
        rw [hval] at hends
        have e6 : ((ws' ++ ((folC cs w).take (i + 1)).map fun l => w ++ [l]).map sLs) = ((ws' ++ ((folC cs w).take i).map fun l => w ++ [l]).map sLs) ++ [sLs (w ++ [l])] := by
          rw [htk]
          simp only [List.map_append, List.map_cons, List.map_nil, List.append_assoc]
        have hpfM : M pf = none := sub4.none hpf
        refine dg_of (pg_name (i := 4) sc__law_all_final.nd rfl (.inl rfl)) (wg_name ?_)
        refine db_cons (ds_append ?_)
        walk_at "nm"
        refine ⟨⟨rfl, _, by simp only [seqOf, m6w]; rfl⟩, de_frz (de_cat ?_)⟩
        walk_at "nm"
        refine de_lstD (da_cons ?_)
        walk_at "nm"
        refine da_nil ⟨[eLine l], rfl, (by show 1 ≤ sizeLine; decide), (w.map eLine).map Sl.d, [sLine l], rfl, rfl, ?_, fun p7 hp7 => ⟨p7, (w ++ [l]).map eLine, rfl, ?_, ?_⟩⟩
        · rw [List.length_map, List.length_map, sizeLine_eq]
          show _ + 1 ≤ _
          omega
        · rw [updC_same, List.map_append, List.map_append]
          rfl
        rw [delC_updC hp7]
        refine ⟨pw, _, rfl, m6w, by rw [List.length_map, sizeLine_eq]; omega, ?_⟩
        rw [show (Sl.d (PyData.list ((w ++ [l]).map eLine))) = sLs (w ++ [l]) from rfl, ← e6]
        have sub7 : Sub M (updC M6 pw (.l ((ws' ++ ((folC cs w).take (i + 1)).map fun l => w ++ [l]).map sLs))) := sub_put sub6 hpwM
        have m7w : updC M6 pw (.l ((ws' ++ ((folC cs w).take (i + 1)).map fun l => w ++ [l]).map sLs)) pw = some (.l ((ws' ++ ((folC cs w).take (i + 1)).map fun l => w ++ [l]).map sLs)) := updC_same
        have m7f : updC M6 pw (.l ((ws' ++ ((folC cs w).take (i + 1)).map fun l => w ++ [l]).map sLs)) pf = some (.l ((folC cs w).map sLine)) := by rw [updC_ne npf.symm]; exact m6f
        have m7r : updC M6 pw (.l ((ws' ++ ((folC cs w).take (i + 1)).map fun l => w ++ [l]).map sLs)) pr = some (.l ((rs ++ endsC cs w ((folC cs w).take i)).map sLs)) := by rw [updC_ne nrw]; exact m6r
        generalize updC M6 pw (.l ((ws' ++ ((folC cs w).take (i + 1)).map fun l => w ++ [l]).map sLs)) = M7 at sub7 m7w m7f m7r
        refine db_cons (ds_if (dt_cmp op_eq (de_ix ?_) (by with_unfolding_all rfl)))
        walk_at "nm"
        refine de_int ⟨_, ((1 : Nat) : Int), dI l.2, rfl, rfl, atI_nat rfl, de_dget (hu_of hr) ?_⟩
        walk_at "nm"
        refine de_ix ?_
        walk_at "nm"
        refine de_int ⟨_, ((0 : Nat) : Int), dS l.1, rfl, rfl, atI_nat rfl, ?_⟩
        refine ⟨_, .inr l.1, dI v, .d (kdC cs), rfl, by rw [valS_C, show getC cs l.1 = some v from hget]; rfl, k_eqI ⟨_, rfl, fun h => ?_, fun h => db_nil (db_nil ⟨_, rfl, sub7, m7f, m7w, ?_⟩)⟩⟩
        · have h := of_decide_eq_true h
          refine db_cons (ds_append ?_)
          walk_at "nm"
          refine ⟨⟨rfl, _, by simp only [seqOf, m7r]; rfl⟩, de_frz (de_cat ?_)⟩
          walk_at "nm"
          refine de_lstD (da_cons ?_)
          walk_at "nm"
          refine da_nil ⟨[eLine l], rfl, (by show 1 ≤ sizeLine; decide), (w.map eLine).map Sl.d, [sLine l], rfl, rfl, ?_, fun p8 hp8 => ⟨p8, (w ++ [l]).map eLine, rfl, ?_, ?_⟩⟩
          · rw [List.length_map, List.length_map, sizeLine_eq]
            show _ + 1 ≤ _
            omega
          · rw [updC_same, List.map_append, List.map_append]
            rfl
          rw [delC_updC hp8]
          refine ⟨pr, _, rfl, m7r, by rw [List.length_map, sizeLine_eq]; omega, db_nil (db_nil ⟨_, rfl, sub_put sub7 hpr, by rw [updC_ne nrf.symm]; exact m7f, by rw [updC_ne nrw.symm]; exact m7w, ?_⟩)⟩
          rw [updC_same, hends, if_pos h, show (Sl.d (PyData.list ((w ++ [l]).map eLine))) = sLs (w ++ [l]) from rfl]
          simp only [List.map_append, List.map_cons, List.map_nil, List.append_assoc]
        · have h := of_decide_eq_false h
          rw [hends, if_neg h, List.append_nil]
          exact m7r
      · rintro τ' M6 ⟨y4', rfl, sub6, m6f, m6w, m6r⟩
        rw [List.length_map, List.take_length] at m6w m6r
        have hel := endsC_len cs w (folC cs w)
        have hpn : potC cs (ws' ++ (folC cs w).map fun l => w ++ [l]) = potC cs ws' + ((folC cs w).map fun l => psi (remC cs (w ++ [l]))).sum := by rw [potC_app, potC_map]
        refine db_nil ⟨potC cs (ws' ++ (folC cs w).map fun l => w ++ [l]), by rw [hpn]; omega, _, _, _, _, rfl, sub6, m6w, m6r, rfl, by rw [hpn, List.length_append]; omega, fun r hr => ?_, srch_turn hS⟩
        rcases List.mem_append.mp hr with hr | hr
        · exact hr5 r hr
        · obtain ⟨l, hl, rfl⟩ := List.mem_map.mp hr
          have := rem_child (List.mem_filter.mp hl).1
          rw [List.length_append, List.length_singleton]
          omega
    · have he : ws = [] := by simpa using he
      subst he
      refine db_cons (ds_ret ?_)
      walk_at "nm"
      exact fin rs pr M3 sub3 hpr m3r (by omega) (fun r => ⟨hS.fin r, fun hF => (hS.all r hF).elim id fun ⟨_, h, _⟩ => nomatch h⟩) hr5

end

end Pg

namespace Pg
open PySem L2 Y PyProof.Rows

local macro_rules | `(tactic| walk_at "vis") => `(tactic| first | exact Or.inl rfl | exact Or.inr (Or.inl rfl) | exact Or.inr (Or.inr rfl))
local macro_rules | `(tactic| walk_at "e1") => `(tactic| first | walk_at "nm" | refine de_int ?_ | refine de_add ?_ | refine de_sub ?_ | refine de_str ?_ | refine de_non ?_ | refine de_bl ?_)
local macro_rules | `(tactic| walk_at "go") => `(tactic| repeat (first | ((with_reducible show DE _ _ _ _ _ _); walk_at "e1") | ((with_reducible show DA _ _ _ _ _ _); refine da_cons ?_) | refine ⟨_, _, rfl, rfl, ?_⟩))


/-- a writer's number in a table, 0 where there is none -/
def tvC (t : Cnt) (z : Str) : Int := (getC t z).getD 0
def tabC (cs t : Cnt) : Cnt := cs.map fun p => (p.1, tvC t p.1)
theorem getC_cons2 (p : Str × Int) (r : Cnt) (z : Str) : getC (p :: r) z = if p.1 = z then some p.2 else getC r z := by
  unfold getC
  rw [List.find?_cons]
  by_cases e : p.1 = z
  · rw [if_pos e, show decide (p.1 = z) = true from decide_eq_true e]; rfl
  · rw [if_neg e, show decide (p.1 = z) = false from decide_eq_false e]
theorem getC_app (t u : Cnt) (z : Str) : getC (t ++ u) z = (getC t z).or (getC u z) := by
  induction t with
  | nil => rfl
  | cons p r ih =>
    rw [List.cons_append, getC_cons2, getC_cons2, ih]
    split <;> rfl
theorem getC_not {t : Cnt} {z : Str} (h : z ∉ t.map (·.1)) : getC t z = none := by
  induction t with
  | nil => rfl
  | cons p r ih =>
    rw [List.map_cons] at h
    rw [getC_cons2, if_neg (fun e => h (by rw [← e]; exact List.mem_cons_self)), ih fun q => h (List.mem_cons_of_mem _ q)]
theorem tabC_get (t : Cnt) : ∀ (cs : Cnt) (z : Str), getC (tabC cs t) z = (getC cs z).map fun _ => tvC t z
  | [], _ => rfl
  | p :: r, z => by
    show getC ((p.1, tvC t p.1) :: tabC r t) z = _
    rw [getC_cons2, getC_cons2, tabC_get t r z]
    by_cases e : p.1 = z
    · rw [if_pos e, if_pos e, e]; rfl
    · rw [if_neg e, if_neg e]
theorem tabC_put {cs t : Cnt} {z : Str} {v : Int} (hz : z ∈ cs.map (·.1)) (ht : z ∉ t.map (·.1)) : putC (tabC cs t) z v = tabC cs (t ++ [(z, v)]) := by
  have hany : ((tabC cs t).any fun p => decide (p.1 = z)) = true := by
    obtain ⟨p, hp, e⟩ := List.mem_map.mp hz
    exact List.any_eq_true.mpr ⟨(p.1, tvC t p.1), List.mem_map.mpr ⟨p, hp, rfl⟩, decide_eq_true e⟩
  unfold putC
  rw [if_pos hany]
  unfold tabC
  rw [List.map_map]
  refine List.map_congr_left fun p _ => ?_
  show (if p.1 = z then (p.1, v) else (p.1, tvC t p.1)) = (p.1, tvC (t ++ [(z, v)]) p.1)
  unfold tvC
  rw [getC_app]
  by_cases e : p.1 = z
  · rw [if_pos e, e, getC_not ht, getC_cons2, if_pos rfl]; rfl
  · rw [if_neg e, getC_cons2, if_neg (fun q => e q.symm)]
    cases getC t p.1 <;> rfl
/-- a table for these counts -/
def okTab (cs tb : Cnt) : Prop := (tb.map (·.1)).Nodup ∧ ∀ p ∈ tb, okName p.1 = true ∧ p.1 ∈ cs.map (·.1) ∧ 0 ≤ p.2 ∧ p.2 ≤ 10 ^ 30
def posP (cs tb : Cnt) : Cnt := cs.filter fun p => decide (0 < tvC tb p.1)
/-- point 39's rule -/
def SurvP (cs tb : Cnt) : Prop := (∀ p ∈ cs, tvC tb p.1 ≤ p.2) ∧ (posP cs tb = [] → sumC cs = 0) ∧ ∀ p, posP cs tb = [p] → tvC tb p.1 = p.2
theorem sumC_perm {cs cs' : Cnt} (h : cs'.Perm cs) : sumC cs' = sumC cs := by
  induction h with
  | nil => rfl
  | cons x _ ih => rw [sumC_cons, sumC_cons, ih]
  | swap x y l => rw [sumC_cons, sumC_cons, sumC_cons, sumC_cons]; omega
  | trans _ _ a b => exact a.trans b
theorem survP_perm {cs cs' tb : Cnt} (h : cs'.Perm cs) (k : SurvP cs' tb) : SurvP cs tb := by
  have hp : (posP cs' tb).Perm (posP cs tb) := h.filter _
  obtain ⟨k1, k2, k3⟩ := k
  refine ⟨fun p hp => k1 p (h.mem_iff.mpr hp), fun e => ?_, fun p e => ?_⟩
  · rw [e] at hp
    rw [← sumC_perm h]
    exact k2 (List.Perm.eq_nil hp)
  · rw [e] at hp
    exact k3 p (List.perm_singleton.mp hp)
theorem posP_take {cs tb : Cnt} {n : Nat} {p : Str × Int} (h : cs[n]? = some p) : posP (cs.take (n + 1)) tb = posP (cs.take n) tb ++ (if 0 < tvC tb p.1 then [p] else []) := by
  unfold posP
  rw [List.take_add_one, h, List.filter_append]
  congr 1
  show List.filter (fun p : Str × Int => decide (0 < tvC tb p.1)) [p] = _
  by_cases e : 0 < tvC tb p.1
  · rw [if_pos e, List.filter_cons, if_pos (decide_eq_true e)]; rfl
  · rw [if_neg e, List.filter_cons, if_neg (fun q => e (of_decide_eq_true q))]; rfl
section
variable {P : Program} {w : World} {K : PySem.W.Frag} {mg : Str → Option Value} {base : Heap}

local macro_rules | `(tactic| walk_at "nm") => `(tactic| first | ((with_reducible refine de_name (x := "line_counts") (i := 0) (s := ?s) ?hN ?hv ?ht ?q ?hd ?hcd); (case hN => rfl); (case hv => walk_at "vis"); (case ht => rfl); (case hd => decide); (case hcd => decide)) | ((with_reducible refine de_name (x := "value") (i := 1) (s := ?s) ?hN ?hv ?ht ?q ?hd ?hcd); (case hN => rfl); (case hv => walk_at "vis"); (case ht => rfl); (case hd => decide); (case hcd => decide)) | ((with_reducible refine de_name (x := "table") (i := 2) (s := ?s) ?hN ?hv ?ht ?q ?hd ?hcd); (case hN => rfl); (case hv => walk_at "vis"); (case ht => rfl); (case hd => decide); (case hcd => decide)) | ((with_reducible refine de_name (x := "key") (i := 3) (s := ?s) ?hN ?hv ?ht ?q ?hd ?hcd); (case hN => rfl); (case hv => walk_at "vis"); (case ht => rfl); (case hd => decide); (case hcd => decide)) | ((with_reducible refine de_name (x := "item") (i := 4) (s := ?s) ?hN ?hv ?ht ?q ?hd ?hcd); (case hN => rfl); (case hv => walk_at "vis"); (case ht => rfl); (case hd => decide); (case hcd => decide)) | ((with_reducible refine de_name (x := "writer") (i := 5) (s := ?s) ?hN ?hv ?ht ?q ?hd ?hcd); (case hN => rfl); (case hv => walk_at "vis"); (case ht => rfl); (case hd => decide); (case hcd => decide)) | ((with_reducible refine de_name (x := "number") (i := 6) (s := ?s) ?hN ?hv ?ht ?q ?hd ?hcd); (case hN => rfl); (case hv => walk_at "vis"); (case ht => rfl); (case hd => decide); (case hcd => decide)))


def R_plain_table : Rr := fun L ss M Q => ∃ (cs tb : Cnt), NoDK L ∧ ss = [.d (eCnt cs), .d (eCnt tb)] ∧ (cs.map (·.1)).Nodup ∧ cs.length ≤ 100 ∧ okTab cs tb ∧ ∀ (p : Addr) (M' : Cs), Sub M M' → M p = none → M' p = some (.k (slK (kdC (tabC cs tb)))) → Q (.c p) M'
theorem ok_plain_table (F : FunAt K mg "plain_table" s_plain_table ["line_counts", "value"]) (c1 : Cal P w K mg base "plain_writer" 2 ["value"] R_plain_writer) (c2 : Cal P w K mg base "plain_integer" 1 ["value"] R_plain_integer) (b1 : mg "isinstance" = none) (b2 : mg "dict" = none) (g2 : ∃ t, mg "LARGEST_NUMBER" = some (.int (10 ^ 30) t)) : Cal P w K mg base "plain_table" 3 ["line_counts", "value"] R_plain_table := by
  refine cal_of F sc_plain_table (fun _ ss _ _ ⟨cs, tb, _, h, _⟩ => by rw [h]; rfl) (fun f cdv A outer s H E L us M Q hr h => ?_)
  obtain ⟨cs, tb, hL, rfl, nd, l100, okt, fin⟩ := h
  obtain ⟨ndt, okp⟩ := okt
  obtain ⟨t2, g2⟩ := g2
  refine db_cons (ds_ifF (dt_not (dt_val (de_callB call_isi (by rfl) b1 bt_isinstance (da_cons ?_)))) (db_nil ?_))
  · walk_at "nm"
    exact da_cons (de_type (by rfl) b2 bt_dict (da_nil (k_isaDict ⟨_, rfl, rfl, rfl⟩)))
  refine db_cons (ds_setDcKeys (j := 2) (i := 0) (kd := kdC cs) (own := [("writer", 5)]) (g := gName 5) rfl sc_plain_table.nd rfl rfl (by with_unfolding_all rfl) (blkOk_by (own := [("writer", 5)]) (N := ["line_counts", "value", "table", "key", "item", "writer", "number"]) (sc := defScope s_plain_table) (by decide +kernel)) (fun _ _ _ _ _ => pg_name (i := 5) sc_plain_table.nd rfl (.inl rfl)) hL rfl (by walk_at "vis") rfl fun D hD => ?_)
  refine ⟨fun n M' => M' = updC M D (.k (slK (kdC (tabC (cs.take n) [])))), rfl, fun x hx n k d M' hn hM => ?_, fun M' hM => ?_⟩
  · subst hM
    unfold kdC at hn
    rw [List.getElem?_map] at hn
    obtain ⟨pz, hpz, epz⟩ := Option.map_eq_some_iff.mp hn
    obtain ⟨hlt, hget⟩ := List.getElem?_eq_some_iff.mp hpz
    cases epz
    refine wgw_name (by simp) ?_
    intro s0 H0 C cl fp
    walk_at "nm"
    intro s0 H0 C cl fp
    refine de_int ⟨_, .inr pz.1, rfl, updC_same, ?_, ?_⟩
    · unfold slK kdC tabC
      rw [List.length_map, List.length_map, List.length_map, List.length_take, sizeLine_eq]
      omega
    · show updC _ _ _ = updC _ _ _
      rw [updC_updC, show (Sl.d (PyData.int 0)) = dI 0 from rfl, putS_put]
      congr 4
      unfold putC
      rw [if_neg]
      · unfold tabC
        rw [List.take_add_one, hpz, List.map_append]
        rfl
      · rw [any_getC, tabC_get, Option.isSome_map, ← any_getC]
        intro z
        obtain ⟨y, hy, ey⟩ := List.any_eq_true.mp z
        have ey := of_decide_eq_true ey
        obtain ⟨j, hj, ej⟩ := List.getElem_of_mem hy
        rw [List.getElem_take] at ej
        rw [List.length_take] at hj
        have hjn : j < n := by omega
        have : cs[j].1 = cs[n].1 := by rw [ej, ey, hget]
        have e2 : (cs.map (·.1))[j]'(by rw [List.length_map]; omega) = (cs.map (·.1))[n]'(by rw [List.length_map]; omega) := by rw [List.getElem_map, List.getElem_map, this]
        exact absurd ((List.getElem_inj nd).mp e2) (by omega)
  subst hM
  have hkl : (kdC cs).length = cs.length := by unfold kdC; rw [List.length_map]
  rw [hkl, List.take_length]
  refine db_cons (ds_forItems (i := 1) (kd := kdC tb) PassesOwn.never rfl hL rfl (.inl rfl) rfl (fun n τ' M' => ∃ y3 y4 y5 y6, τ' = [some (.d (eCnt cs)), some (.d (eCnt tb)), some (.c D), y3, y4, y5, y6] ∧ M' = updC M D (.k (slK (kdC (tabC cs (tb.take n)))))) ⟨none, none, none, none, rfl, rfl⟩ ?_ ?_)
  · rintro x ⟨xs, hx⟩ n k d τ' M' hn ⟨y3, y4, y5, y6, rfl, rfl⟩
    unfold kdC at hn
    rw [List.getElem?_map] at hn
    obtain ⟨⟨z, v⟩, hpz, epz⟩ := Option.map_eq_some_iff.mp hn
    obtain ⟨hlt, hget⟩ := List.getElem?_eq_some_iff.mp hpz
    cases epz
    obtain ⟨o1, oin, o2, o3⟩ := okp _ (List.mem_of_getElem? hpz)
    have hnot : z ∉ (tb.take n).map (·.1) := by
      intro q
      obtain ⟨y, hy, ey⟩ := List.mem_map.mp q
      obtain ⟨j, hj, ej⟩ := List.getElem_of_mem hy
      rw [List.getElem_take] at ej
      rw [List.length_take] at hj
      have hjn : j < n := by omega
      have : tb[j].1 = tb[n].1 := by rw [ej, ey, hget]
      have e2 : (tb.map (·.1))[j]'(by rw [List.length_map]; omega) = (tb.map (·.1))[n]'(by rw [List.length_map]; omega) := by rw [List.getElem_map, List.getElem_map, this]
      exact absurd ((List.getElem_inj ndt).mp e2) (by omega)
    have htk : tb.take (n + 1) = tb.take n ++ [(z, v)] := by rw [List.take_add_one, hpz]; rfl
    have hput := tabC_put (v := v) oin hnot
    have hval : (valS (slK (kdC (tabC cs (tb.take n)))) (.inr z)).isSome = true := by
      rw [valS_C, tabC_get]
      obtain ⟨p, hp, e⟩ := List.mem_map.mp oin
      have hg := getC_mem nd hp
      have e : p.1 = z := e
      rw [e] at hg
      rw [hg]
      rfl
    simp only at o1 o2 o3
    refine dg_of (pg_tup rfl (pgs_cons (pg_name (i := 3) sc_plain_table.nd rfl (.inl rfl)) (pgs_cons (pg_name (i := 4) sc_plain_table.nd rfl (.inl rfl)) pgs_nil))) (wg_tup rfl rfl rfl (wgs_cons (wg_name (wgs_cons (wg_name (wgs_nil ?_))))))
    refine db_cons (ds_set (i := 5) sc_plain_table.nd rfl (.inl rfl) (de_callC c1 hr (by rfl) (da_cons ?_)))
    walk_at "nm"
    refine da_nil ⟨.str z, rfl, short_of_okName o1, ?_⟩
    rw [show writerOf (.str z) = .str z by simp only [writerOf, o1, if_true]]
    refine db_cons (ds_set (i := 6) sc_plain_table.nd rfl (.inl rfl) (de_callC (c2.up (by decide)) hr (by rfl) (da_cons ?_)))
    walk_at "nm"
    refine da_nil ⟨.int v, rfl, ?_⟩
    refine db_cons (ds_ifF (dt_or3 (dt_dnotin (hu_of hr) ?_ (by with_unfolding_all rfl))) (db_nil ?_))
    · walk_at "nm"
      walk_at "nm"
      refine ⟨.inr z, _, rfl, .c updC_same, ?_⟩
      rw [hval]
      refine ⟨fun z => (nomatch z), fun _ => dt_cmp op_isN ?_ (nomark _)⟩
      walk_at "nm"
      refine de_non (k_isN ⟨_, rfl, fun z => (nomatch z), fun _ => dt_not (dt_chain op_le op_le (de_int ?_))⟩)
      walk_at "nm"
      exact k_bool ⟨_, rfl, fun _ => de_glob (by rfl) g2 ⟨_, rfl⟩ (k_bool ⟨_, rfl, by simpa using o3, rfl⟩), fun z => absurd z (by simp [o2])⟩
    refine db_cons (ds_dput (hu_of hr) ?_)
    walk_at "nm"
    walk_at "nm"
    walk_at "nm"
    refine ⟨D, _, .inr z, rfl, updC_same, rfl, ?_, db_nil ⟨_, _, _, _, rfl, ?_⟩⟩
    · unfold slK kdC tabC
      rw [List.length_map, List.length_map, List.length_map, sizeLine_eq]
      omega
    · rw [show (Sl.d (intOf (PyData.int v))) = dI v from rfl, putS_put, updC_updC, hput, htk]
  · rintro τ' M' ⟨y3, y4, y5, y6, rfl, rfl⟩
    have hkt : (kdC tb).length = tb.length := by unfold kdC; rw [List.length_map]
    rw [hkt, List.take_length]
    refine db_cons (ds_ret ?_)
    walk_at "nm"
    exact fin D _ ((Sub.refl M).new hD) hD updC_same

local macro_rules | `(tactic| walk_at "nm") => `(tactic| first | ((with_reducible refine de_name (x := "line_counts") (i := 0) (s := ?s) ?hN ?hv ?ht ?q ?hd ?hcd); (case hN => rfl); (case hv => walk_at "vis"); (case ht => rfl); (case hd => decide); (case hcd => decide)) | ((with_reducible refine de_name (x := "value") (i := 1) (s := ?s) ?hN ?hv ?ht ?q ?hd ?hcd); (case hN => rfl); (case hv => walk_at "vis"); (case ht => rfl); (case hd => decide); (case hcd => decide)) | ((with_reducible refine de_name (x := "table") (i := 2) (s := ?s) ?hN ?hv ?ht ?q ?hd ?hcd); (case hN => rfl); (case hv => walk_at "vis"); (case ht => rfl); (case hd => decide); (case hcd => decide)))


theorem ok_checked_table (F : FunAt K mg "checked_table" s_checked_table ["line_counts", "value"]) (c1 : Cal P w K mg base "plain_table" 3 ["line_counts", "value"] R_plain_table) : Cal P w K mg base "checked_table" 4 ["line_counts", "value"] R_plain_table := by
  refine cal_of F sc_checked_table (fun _ ss _ _ ⟨cs, tb, _, h, _⟩ => by rw [h]; rfl) (fun f cdv A outer s H E L ss M Q hr h => ?_)
  obtain ⟨cs, tb, hL, rfl, nd, l100, okt, fin⟩ := h
  refine db_cons (ds_set (i := 2) sc_checked_table.nd rfl (.inl rfl) (de_callC c1 hr (by rfl) (da_cons ?_)))
  walk_at "nm"
  refine da_cons ?_
  walk_at "nm"
  refine da_nil ⟨cs, tb, hL, rfl, nd, l100, okt, fun p M' sub hp mp => ?_⟩
  refine db_cons (ds_ifF (dt_cmp op_isN ?_ (nomark _)) (db_nil (db_cons (ds_ret ?_))))
  · walk_at "nm"
    exact de_non (k_isN ⟨_, rfl, rfl, rfl⟩)
  · walk_at "nm"
    exact fin p M' sub hp mp

local macro_rules | `(tactic| walk_at "nm") => `(tactic| first | ((with_reducible refine de_name (x := "line_counts") (i := 0) (s := ?s) ?hN ?hv ?ht ?q ?hd ?hcd); (case hN => rfl); (case hv => walk_at "vis"); (case ht => rfl); (case hd => decide); (case hcd => decide)) | ((with_reducible refine de_name (x := "survivor_counts") (i := 1) (s := ?s) ?hN ?hv ?ht ?q ?hd ?hcd); (case hN => rfl); (case hv => walk_at "vis"); (case ht => rfl); (case hd => decide); (case hcd => decide)) | ((with_reducible refine de_name (x := "counts") (i := 2) (s := ?s) ?hN ?hv ?ht ?q ?hd ?hcd); (case hN => rfl); (case hv => walk_at "vis"); (case ht => rfl); (case hd => decide); (case hcd => decide)) | ((with_reducible refine de_name (x := "survivors") (i := 3) (s := ?s) ?hN ?hv ?ht ?q ?hd ?hcd); (case hN => rfl); (case hv => walk_at "vis"); (case ht => rfl); (case hd => decide); (case hcd => decide)) | ((with_reducible refine de_name (x := "positive") (i := 4) (s := ?s) ?hN ?hv ?ht ?q ?hd ?hcd); (case hN => rfl); (case hv => walk_at "vis"); (case ht => rfl); (case hd => decide); (case hcd => decide)) | ((with_reducible refine de_name (x := "writer") (i := 5) (s := ?s) ?hN ?hv ?ht ?q ?hd ?hcd); (case hN => rfl); (case hv => walk_at "vis"); (case ht => rfl); (case hd => decide); (case hcd => decide)))


def R_surv : Rr := fun L ss M Q => ∃ (cs tb : Cnt), NoDK L ∧ ss = [.d (eCnt cs), .d (eCnt tb)] ∧ okCnt cs ∧ okTab cs tb ∧ ∀ b : Bool, (b = true ↔ SurvP cs tb) → Q (.d (.bool b)) M
set_option maxHeartbeats 4000000 in
theorem ok_can_survive_counts (F : FunAt K mg "can_survive_counts" s_can_survive_counts ["line_counts", "survivor_counts"]) (c1 : Cal P w K mg base "checked_line_counts" 4 ["value"] R_plain_line_counts) (c2 : Cal P w K mg base "checked_table" 4 ["line_counts", "value"] R_plain_table) (b1 : mg "any" = none) (b2 : mg "sum" = none) (b3 : mg "len" = none) : Cal P w K mg base "can_survive_counts" 5 ["line_counts", "survivor_counts"] R_surv := by
  refine cal_of F sc_can_survive_counts (fun _ ss _ _ ⟨cs, tb, _, h, _⟩ => by rw [h]; rfl) (fun f cdv A outer s H E L us M Q hr h => ?_)
  obtain ⟨cs0, tb, hL, rfl, okc0, okt0, fin⟩ := h
  refine db_cons (ds_set (i := 2) sc_can_survive_counts.nd rfl (.inr rfl) (de_callC c1 hr (by rfl) ?_))
  walk_at "go"
  refine da_nil ⟨cs0, hL, rfl, okc0, fun cs hs => ?_⟩
  have l12 : cs.length ≤ 12 := by rw [hs.1.length_eq]; exact okc0.2.1
  have nd : (cs.map (·.1)).Nodup := (hs.1.map _).nodup_iff.mpr okc0.2.2.1
  have fin : ∀ b : Bool, (b = true ↔ SurvP cs tb) → Q (.d (.bool b)) M := fun b hb => fin b (hb.trans ⟨survP_perm hs.1, survP_perm hs.1.symm⟩)
  have okt : okTab cs tb := ⟨okt0.1, fun p hp => ⟨(okt0.2 p hp).1, (hs.1.map _).mem_iff.mpr (okt0.2 p hp).2.1, (okt0.2 p hp).2.2⟩⟩
  refine db_cons (ds_set (i := 3) sc_can_survive_counts.nd rfl (.inr rfl) (de_callC c2 hr (by rfl) (da_cons ?_)))
  walk_at "nm"
  refine da_cons ?_
  walk_at "nm"
  refine da_nil ⟨cs, tb, hL, rfl, nd, by omega, okt, fun ps M1 sub1 hps mps => ?_⟩
  have hget : ∀ {p : Str × Int}, p ∈ cs → valS (slK (kdC (tabC cs tb))) (.inr p.1) = some (dI (tvC tb p.1)) := fun {p} hp => by
    rw [valS_C, tabC_get, getC_mem nd hp]; rfl
  have hgetc : ∀ {p : Str × Int}, p ∈ cs → valS (slK (kdC cs)) (.inr p.1) = some (dI p.2) := fun {p} hp => by
    rw [valS_C, getC_mem nd hp]; rfl
  refine db_cons (ds_if (dt_val (de_callB (cr_any rfl) (by rfl) b1 bt_any (da_cons (de_lcKeysN (i := 2) (kd := kdC cs) (own := [("writer", 5)]) (g := gName 5) rfl sc_can_survive_counts.nd (blkOk_by (own := [("writer", 5)]) (N := ["line_counts", "survivor_counts", "counts", "survivors", "positive", "writer"]) (sc := defScope s_can_survive_counts) (by decide +kernel)) (fun _ _ _ _ _ => pg_name (i := 5) sc_can_survive_counts.nd rfl (.inl rfl)) hL rfl (by walk_at "vis") rfl fun D hD => ?_)))))
  have nsD : ps ≠ D := neC mps hD
  refine ⟨fun n M' => M' = updC M1 D (.l (((cs.take n).map fun p => decide (p.2 < tvC tb p.1)).map fun b => .d (.bool b))), rfl, fun x hx n k d M' hn hM => ?_, fun M' hM => ?_⟩
  · subst hM
    unfold kdC at hn
    rw [List.getElem?_map] at hn
    obtain ⟨p, hpz, epz⟩ := Option.map_eq_some_iff.mp hn
    cases epz
    have hmem : p ∈ cs := List.mem_of_getElem? hpz
    refine wgw_name (by simp) ?_
    intro s0 H0 C cl fp
    refine de_cmp op_gt (de_dget (hu_of hr) ?_) (nomark _)
    walk_at "nm"
    walk_at "nm"
    refine ⟨_, .inr p.1, dI (tvC tb p.1), .c (by rw [updC_ne nsD]; exact mps), rfl, hget hmem, de_dget (hu_of hr) ?_⟩
    walk_at "nm"
    walk_at "nm"
    refine ⟨_, .inr p.1, dI p.2, .d (kdC cs), rfl, hgetc hmem, k_bool ⟨_, updC_same, ?_, ?_⟩⟩
    · rw [List.length_map, List.length_map, List.length_take, sizeLine_eq]
      omega
    · show updC _ _ _ = updC _ _ _
      rw [updC_updC, List.take_add_one, hpz, List.map_append, List.map_append]
      rfl
  subst hM
  have hkl : (kdC cs).length = cs.length := by unfold kdC; rw [List.length_map]
  rw [hkl, List.take_length]
  have sub2 : Sub M (updC M1 D (.l ((cs.map fun p => decide (p.2 < tvC tb p.1)).map fun b => .d (.bool b)))) := Sub.trans sub1 ((Sub.refl _).new hD)
  have m2s : updC M1 D (.l ((cs.map fun p => decide (p.2 < tvC tb p.1)).map fun b => .d (.bool b))) ps = some (.k (slK (kdC (tabC cs tb)))) := by rw [updC_ne nsD]; exact mps
  refine da_nil (k_any (bs := cs.map fun p => decide (p.2 < tvC tb p.1)) rfl (by simp only [seqOf, updC_same]) ⟨_, rfl, fun h1 => ?_, fun h1 => db_nil ?_⟩)
  · refine db_cons (ds_ret (de_gc (de_bl ⟨M, sub2, fin false ⟨fun z => (nomatch z), fun z => ?_⟩⟩)))
    obtain ⟨b, hb, e⟩ := List.any_eq_true.mp h1
    obtain ⟨p, hp, rfl⟩ := List.mem_map.mp hb
    have e := of_decide_eq_true e
    have := z.1 p hp
    omega
  have hall : ∀ p ∈ cs, tvC tb p.1 ≤ p.2 := fun p hp => by
    have := List.any_eq_false.mp h1 _ (List.mem_map.mpr ⟨p, hp, rfl⟩)
    have : ¬ p.2 < tvC tb p.1 := fun q => this (decide_eq_true q)
    omega
  generalize updC M1 D (.l ((cs.map fun p => decide (p.2 < tvC tb p.1)).map fun b => .d (.bool b))) = M2 at sub2 m2s
  refine db_cons (ds_setLcKeys (j := 4) (i := 2) (kd := kdC cs) (own := [("writer", 5)]) (g := gName 5) rfl sc_can_survive_counts.nd rfl rfl (by with_unfolding_all rfl) (blkOk_by (own := [("writer", 5)]) (N := ["line_counts", "survivor_counts", "counts", "survivors", "positive", "writer"]) (sc := defScope s_can_survive_counts) (by decide +kernel)) (fun _ _ _ _ _ => pg_name (i := 5) sc_can_survive_counts.nd rfl (.inl rfl)) hL rfl (by walk_at "vis") rfl fun D2 hD2 => ?_)
  have ns2 : ps ≠ D2 := neC m2s hD2
  refine ⟨fun n M' => M' = updC M2 D2 (.l ((posP (cs.take n) tb).map fun p => dS p.1)), rfl, fun x hx n k d M' hn hM => ?_, fun M' hM => ?_⟩
  · subst hM
    unfold kdC at hn
    rw [List.getElem?_map] at hn
    obtain ⟨p, hpz, epz⟩ := Option.map_eq_some_iff.mp hn
    cases epz
    have hmem : p ∈ cs := List.mem_of_getElem? hpz
    have hend := posP_take (tb := tb) hpz
    have hlp : (posP (cs.take n) tb).length ≤ 12 := by
      unfold posP
      have := List.length_filter_le (fun p : Str × Int => decide (0 < tvC tb p.1)) (cs.take n)
      rw [List.length_take] at this
      omega
    refine wgw_name (by simp) ?_
    intro s0 H0 C cl fp
    refine dt_cmp op_gt (de_dget (hu_of hr) ?_) (by with_unfolding_all rfl)
    walk_at "nm"
    walk_at "nm"
    refine ⟨_, .inr p.1, dI (tvC tb p.1), .c (by rw [updC_ne ns2]; exact m2s), rfl, hget hmem, de_int (k_bool ⟨_, rfl, fun h => ?_, fun h => ?_⟩)⟩
    · have h := of_decide_eq_true h
      intro s0 H0 C cl fp
      walk_at "nm"
      refine ⟨_, updC_same, by rw [List.length_map, sizeLine_eq]; omega, ?_⟩
      show updC _ _ _ = updC _ _ _
      rw [updC_updC, hend, if_pos h, List.map_append]
      rfl
    · have h := of_decide_eq_false h
      show updC _ _ _ = updC _ _ _
      rw [hend, if_neg h, List.append_nil]
  subst hM
  rw [hkl, List.take_length]
  have sub3 : Sub M (updC M2 D2 (.l ((posP cs tb).map fun p => dS p.1))) := Sub.trans sub2 ((Sub.refl _).new hD2)
  have m3s : updC M2 D2 (.l ((posP cs tb).map fun p => dS p.1)) ps = some (.k (slK (kdC (tabC cs tb)))) := by rw [updC_ne ns2]; exact m2s
  have s3 : seqOf (updC M2 D2 (.l ((posP cs tb).map fun p => dS p.1))) (.c D2) = some ((posP cs tb).map fun p => dS p.1) := by simp only [seqOf, updC_same]
  have t3 : truOf (updC M2 D2 (.l ((posP cs tb).map fun p => dS p.1))) (.c D2) = some (!((posP cs tb).map fun p => dS p.1).isEmpty) := by
    show (seqOf (updC M2 D2 (.l ((posP cs tb).map fun p => dS p.1))) (.c D2)).map (fun ss => !ss.isEmpty) = _
    rw [s3]
    rfl
  generalize updC M2 D2 (.l ((posP cs tb).map fun p => dS p.1)) = M3 at sub3 m3s s3 t3
  cases hpp : posP cs tb with
  | nil =>
    rw [hpp] at t3
    refine db_cons (ds_if (dt_not (dt_tru ?_)))
    walk_at "nm"
    refine ⟨false, t3, fun _ => ?_, fun z => nomatch z⟩
    refine db_cons (ds_ret (de_gc (de_cmp op_eq (de_sumV rfl (by rfl) b2 ?_) (nomark _))))
    walk_at "nm"
    refine ⟨_, cs.map (·.2), .d (kdC cs), by unfold slK kdC; rw [List.map_map, List.map_map, List.map_map]; rfl, de_int (k_eqI ⟨M, sub3, fin _ ?_⟩)⟩
    rw [decide_eq_true_eq]
    constructor
    · intro e
      exact ⟨hall, fun _ => e, fun p hp => by rw [hpp] at hp; cases hp⟩
    · intro z
      exact z.2.1 hpp
  | cons p r =>
    rw [hpp] at t3 s3
    have hpm : p ∈ cs := by
      have : p ∈ posP cs tb := by rw [hpp]; exact List.mem_cons_self
      exact (List.mem_filter.mp this).1
    refine db_cons (ds_if (dt_not (dt_tru ?_)))
    walk_at "nm"
    refine ⟨true, t3, (fun z => nomatch z), fun _ => db_nil ?_⟩
    refine db_cons (ds_ret (de_gc (de_or (de_cmp op_gt (de_callB call_len_seq (by rfl) b3 bt_len (da_cons ?_)) (nomark _)))))
    walk_at "nm"
    refine da_nil (k_len s3 (de_int (k_bool ⟨_, rfl, fun h => ⟨M, sub3, fin true ?_⟩, fun h => de_one (de_cmp op_eq (de_dget (hu_of hr) ?_) (nomark _))⟩)))
    · have h := of_decide_eq_true h
      rw [List.length_map, List.length_cons] at h
      refine ⟨fun _ => ⟨hall, (fun e => by rw [hpp] at e; cases e), fun q e => ?_⟩, fun _ => rfl⟩
      rw [hpp] at e
      cases e
      exact absurd h (by simp)
    · have h := of_decide_eq_false h
      rw [List.length_map, List.length_cons] at h
      have hr0 : r = [] := List.length_eq_zero_iff.mp (by omega)
      subst hr0
      walk_at "nm"
      refine de_ix ?_
      walk_at "nm"
      refine de_int ⟨_, ((0 : Nat) : Int), dS p.1, s3, rfl, atI_nat rfl, ?_⟩
      refine ⟨_, .inr p.1, dI (tvC tb p.1), .c m3s, rfl, hget hpm, de_dget (hu_of hr) ?_⟩
      walk_at "nm"
      refine de_ix ?_
      walk_at "nm"
      refine de_int ⟨_, ((0 : Nat) : Int), dS p.1, s3, rfl, atI_nat rfl, ?_⟩
      refine ⟨_, .inr p.1, dI p.2, .d (kdC cs), rfl, hgetc hpm, k_eqI ⟨M, sub3, fin _ ?_⟩⟩
      rw [decide_eq_true_eq]
      constructor
      · intro e
        refine ⟨hall, (fun z => by rw [hpp] at z; cases z), fun q hq => ?_⟩
        rw [hpp] at hq
        cases hq
        exact e
      · intro z
        exact z.2.2 p hpp

end

end Pg

namespace Pg
open PySem L2 Y PyProof.Rows

local macro_rules | `(tactic| walk_at "vis") => `(tactic| first | exact Or.inl rfl | exact Or.inr (Or.inl rfl) | exact Or.inr (Or.inr rfl))
local macro_rules | `(tactic| walk_at "e1") => `(tactic| first | walk_at "nm" | refine de_int ?_ | refine de_add ?_ | refine de_sub ?_ | refine de_str ?_ | refine de_non ?_ | refine de_bl ?_)
local macro_rules | `(tactic| walk_at "go") => `(tactic| repeat (first | ((with_reducible show DE _ _ _ _ _ _); walk_at "e1") | ((with_reducible show DA _ _ _ _ _ _); refine da_cons ?_) | refine ⟨_, _, rfl, rfl, ?_⟩))


def sCnt (t : Cnt) : Sl := .d (eCnt t)
/-- tables over these writers, in their order -/
def Tabs (cs : Cnt) (ts : List Cnt) : Prop := ∀ t ∈ ts, t.map (·.1) = cs.map (·.1) ∧ ∀ p ∈ t, 0 ≤ p.2 ∧ p.2 ≤ 1000
def cntL (ls : List Line) (z : Str) : Int := (((ls.filter fun l => decide (l.1 = z)).length : Nat) : Int)
def lineT (cs : Cnt) (ls : List Line) : Cnt := cs.map fun p => (p.1, cntL ls p.1)
theorem merge_cnt {t : Cnt} (nd : (t.map (·.1)).Nodup) : mergeS [] (slK (kdC t)) = slK (kdC t) := by
  have := mergeS_nodup (slK (kdC t)) [] (by
    rw [List.nil_append, keys_C]
    exact List.Pairwise.map _ (fun a b h e => h (Sum.inr.inj e)) nd)
  rw [this, List.nil_append]
section
variable {P : Program} {w : World} {K : PySem.W.Frag} {mg : Str → Option Value} {base : Heap}

local macro_rules | `(tactic| walk_at "nm") => `(tactic| first | ((with_reducible refine de_name (x := "counts") (i := 0) (s := ?s) ?hN ?hv ?ht ?q ?hd ?hcd); (case hN => rfl); (case hv => walk_at "vis"); (case ht => rfl); (case hd => decide); (case hcd => decide)) | ((with_reducible refine de_name (x := "lines") (i := 1) (s := ?s) ?hN ?hv ?ht ?q ?hd ?hcd); (case hN => rfl); (case hv => walk_at "vis"); (case ht => rfl); (case hd => decide); (case hcd => decide)) | ((with_reducible refine de_name (x := "one") (i := 2) (s := ?s) ?hN ?hv ?ht ?q ?hd ?hcd); (case hN => rfl); (case hv => walk_at "vis"); (case ht => rfl); (case hd => decide); (case hcd => decide)) | ((with_reducible refine de_name (x := "number") (i := 3) (s := ?s) ?hN ?hv ?ht ?q ?hd ?hcd); (case hN => rfl); (case hv => walk_at "vis"); (case ht => rfl); (case hd => decide); (case hcd => decide)) | ((with_reducible refine de_name (x := "name") (i := 4) (s := ?s) ?hN ?hv ?ht ?q ?hd ?hcd); (case hN => rfl); (case hv => walk_at "vis"); (case ht => rfl); (case hd => decide); (case hcd => decide)))


def R_linetab : Rr := fun L ss M Q => ∃ (cs : Cnt) (ls : List Line), NoDK L ∧ ss = [.d (eCnt cs), sLs ls] ∧ (cs.map (·.1)).Nodup ∧ cs.length ≤ 100 ∧ ls.length ≤ 100 ∧ ∀ M', Sub M M' → Q (sCnt (lineT cs ls)) M'
theorem ok_law_line_table (F : FunAt K mg "_law_line_table" s__law_line_table ["counts", "lines"]) (b1 : mg "dict" = none) (b2 : mg "len" = none) : Cal P w K mg base "_law_line_table" 1 ["counts", "lines"] R_linetab := by
  refine cal_of F sc__law_line_table (fun _ ss _ _ ⟨cs, ls, _, h, _⟩ => by rw [h]; rfl) (fun f cdv A outer s H E L us M Q hr h => ?_)
  obtain ⟨cs, ls, hL, rfl, nd, l100, hll, fin⟩ := h
  refine db_cons (ds_ret (de_frzK (de_callT (call_dictP rfl) (by rfl) b1 bt_dict (da_cons (de_lcKeysN (i := 0) (kd := kdC cs) (own := [("name", 4)]) (g := gName 4) rfl sc__law_line_table.nd (blkOk_by (own := [("name", 4)]) (N := ["counts", "lines", "one", "number", "name"]) (sc := defScope s__law_line_table) (by decide +kernel)) (fun _ _ _ _ _ => pg_name (i := 4) sc__law_line_table.nd rfl (.inr rfl)) hL rfl (by walk_at "vis") rfl fun D hD => ?_)))))
  refine ⟨fun n M' => Sub M M' ∧ M' D = some (.l ((kdC (lineT (cs.take n) ls)).map Y.prD)), ⟨(Sub.refl M).new hD, updC_same⟩, fun x hx n k d M' hn hM => ?_, fun M' hM => ?_⟩
  · obtain ⟨sub, mD⟩ := hM
    unfold kdC at hn
    rw [List.getElem?_map] at hn
    obtain ⟨⟨z, v⟩, hpz, epz⟩ := Option.map_eq_some_iff.mp hn
    cases epz
    refine wgw_name (by simp) ?_
    intro s0 H0 C cl fp
    refine de_tupD (da_cons ?_)
    walk_at "nm"
    refine da_cons (de_callB call_len_seq (by rfl) b2 bt_len (da_cons ?_))
    refine de_lc1 (own := [("one", 2), ("number", 3)]) (g := gTup K 2 (gCons (gName 2) (gCons (gName 3) gNil))) rfl ?nd ?ok ?hg (di_seq ?_)
    case nd => exact sc__law_line_table.nd
    case ok => exact (blkOk_by (own := [("one", 2), ("number", 3)]) (by with_unfolding_all rfl))
    case hg => exact (fun _ _ _ _ _ => pg_tup rfl (pgs_cons (pg_name (i := 2) sc__law_line_table.nd rfl (.inl rfl)) (pgs_cons (pg_name (i := 3) sc__law_line_table.nd rfl (.inl rfl)) pgs_nil)))
    walk_at "nm"
    refine ⟨ls.map sLine, seq_ls _ _, fun D3 hD3 => ?_⟩
    have nD3 : D ≠ D3 := neC mD hD3
    refine ⟨fun j M2 => M2 = updC M' D3 (.l (((ls.take j).filter fun l => decide (l.1 = z)).map fun _ => dI 1)), by show updC M' D3 (.l []) = updC M' D3 (.l (((ls.take 0).filter fun l => decide (l.1 = z)).map fun _ => dI 1)); rw [List.take_zero]; rfl, fun _ _ _ => seq_ls _ _, ?_, ?_⟩
    · rintro j y M3 hj hy rfl
      rw [List.length_map] at hj
      have hy' : y = sLine ls[j] := by
        rw [List.getElem?_map, List.getElem?_eq_getElem hj] at hy
        exact (Option.some.inj hy).symm
      subst hy'
      have hlen : (((ls.take j).filter fun l => decide (l.1 = z)).map fun _ => dI 1).length < sizeLine := by
        rw [List.length_map, sizeLine_eq]
        have := List.length_filter_le (fun l : Line => decide (l.1 = z)) (ls.take j)
        rw [List.length_take] at this
        omega
      have hend : ((ls.take (j + 1)).filter fun l => decide (l.1 = z)) = ((ls.take j).filter fun l => decide (l.1 = z)) ++ (if ls[j].1 = z then [ls[j]] else []) := by
        rw [List.take_add_one, List.getElem?_eq_getElem hj, List.filter_append]
        congr 1
        show List.filter (fun l : Line => decide (l.1 = z)) [ls[j]] = _
        by_cases e : ls[j].1 = z
        · rw [if_pos e, List.filter_cons, if_pos (decide_eq_true e)]; rfl
        · rw [if_neg e, List.filter_cons, if_neg (fun q => e (of_decide_eq_true q))]; rfl
      generalize ls[j] = l at hend
      refine wgw_tup rfl rfl rfl (wgws_cons (wgw_name (by simp) (wgws_cons (wgw_name (by simp) (wgws_nil ?_)))))
      intro s0 H0 C cl fp
      refine dt_cmp op_eq ?_ (by with_unfolding_all rfl)
      walk_at "nm"
      walk_at "nm"
      refine k_eqS ⟨_, rfl, fun h => ?_, fun h => ?_⟩
      · have h := of_decide_eq_true h
        intro s0 H0 C cl fp
        refine de_int ⟨_, updC_same, hlen, ?_⟩
        show updC _ _ _ = updC _ _ _
        rw [updC_updC, hend, if_pos h, List.map_append]
        rfl
      · have h := of_decide_eq_false h
        show updC _ _ _ = updC _ _ _
        rw [hend, if_neg h, List.append_nil]
    rintro M3 rfl
    rw [List.length_map, List.take_length]
    have hcut : lineT (cs.take (n + 1)) ls = lineT (cs.take n) ls ++ [(z, cntL ls z)] := by
      unfold lineT
      rw [List.take_add_one, hpz, List.map_append]
      rfl
    have s9 : seqOf (updC M' D3 (.l ((ls.filter fun l => decide (l.1 = z)).map fun _ => dI 1))) (.c D3) = some ((ls.filter fun l => decide (l.1 = z)).map fun _ => dI 1) := by simp only [seqOf, updC_same]
    refine da_nil (k_len s9 (da_nil ⟨[.str z, .int (cntL ls z)], by rw [List.length_map]; rfl, (by show 2 ≤ sizeLine; decide), _, by rw [updC_ne nD3]; exact mD, ?_, sub_put (sub_put sub (sub.none hD3)) hD, ?_⟩))
    · unfold kdC lineT
      rw [List.length_map, List.length_map, List.length_map, List.length_take, sizeLine_eq]
      omega
    · rw [updC_same, hcut]
      unfold kdC
      rw [List.map_append, List.map_append]
      rfl
  · obtain ⟨sub, mD⟩ := hM
    have hkl : (kdC cs).length = cs.length := by unfold kdC; rw [List.length_map]
    rw [hkl, List.take_length] at mD
    have ndl : ((lineT cs ls).map (·.1)).Nodup := by
      unfold lineT
      rw [List.map_map]
      exact nd
    refine da_nil (k_dictP (kd := kdC (lineT cs ls)) rfl (by simp only [seqOf, mD]) fun p hp => ⟨p, kdC (lineT cs ls), rfl, by rw [updC_same, merge_cnt ndl], ?_⟩)
    rw [delC_updC hp]
    exact fin M' sub

local macro_rules | `(tactic| walk_at "nm") => `(tactic| first | ((with_reducible refine de_name (x := "counts") (i := 0) (s := ?s) ?hN ?hv ?ht ?q ?hd ?hcd); (case hN => rfl); (case hv => walk_at "vis"); (case ht => rfl); (case hd => decide); (case hcd => decide)) | ((with_reducible refine de_name (x := "result") (i := 1) (s := ?s) ?hN ?hv ?ht ?q ?hd ?hcd); (case hN => rfl); (case hv => walk_at "vis"); (case ht => rfl); (case hd => decide); (case hcd => decide)) | ((with_reducible refine de_name (x := "name") (i := 2) (s := ?s) ?hN ?hv ?ht ?q ?hd ?hcd); (case hN => rfl); (case hv => walk_at "vis"); (case ht => rfl); (case hd => decide); (case hcd => decide)) | ((with_reducible refine de_name (x := "longer") (i := 3) (s := ?s) ?hN ?hv ?ht ?q ?hd ?hcd); (case hN => rfl); (case hv => walk_at "vis"); (case ht => rfl); (case hd => decide); (case hcd => decide)) | ((with_reducible refine de_name (x := "one") (i := 4) (s := ?s) ?hN ?hv ?ht ?q ?hd ?hcd); (case hN => rfl); (case hv => walk_at "vis"); (case ht => rfl); (case hd => decide); (case hcd => decide)) | ((with_reducible refine de_name (x := "number") (i := 5) (s := ?s) ?hN ?hv ?ht ?q ?hd ?hcd); (case hN => rfl); (case hv => walk_at "vis"); (case ht => rfl); (case hd => decide); (case hcd => decide)))


def R_tables : Rr := fun L ss M Q => ∃ (cs : Cnt), NoDK L ∧ ss = [.d (eCnt cs)] ∧ okCnt cs ∧ (∀ p ∈ cs, p.2 ≤ 5) ∧ cs.length ≤ 4 ∧ ∀ (ts : List Cnt) (p : Addr) (M' : Cs), Sub M M' → M p = none → M' p = some (.l (ts.map sCnt)) → Tabs cs ts → ts.length ≤ 10000 → Q (.c p) M'
set_option maxHeartbeats 4000000 in
theorem ok_law_tables (F : FunAt K mg "_law_tables" s__law_tables ["counts"]) (b1 : mg "range" = none) (b2 : mg "dict" = none) (b3 : mg "list" = none) : Cal P w K mg base "_law_tables" 1 ["counts"] R_tables := by
  refine cal_of F sc__law_tables (fun _ ss _ _ ⟨cs, _, h, _⟩ => by rw [h]; rfl) (fun f cdv A outer s H E L us M Q hr h => ?_)
  obtain ⟨cs, hL, rfl, okc, h5, l4, fin⟩ := h
  obtain ⟨l1, l12, nd, okp⟩ := okc
  refine db_cons (ds_set (i := 1) sc__law_tables.nd rfl (.inl rfl) (de_lstC (da_cons (de_frzK (de_dictC fun p0 hp0 => ⟨p0, [], rfl, updC_same, ?_⟩)))))
  rw [delC_updC hp0]
  refine da_nil ⟨(by show 1 ≤ sizeLine; decide), fun pr hpr => ?_⟩
  have sub1 : Sub M (updC M pr (.l [.d (.dict (encK []))])) := (Sub.refl M).new hpr
  have m1r : updC M pr (.l [.d (.dict (encK []))]) pr = some (.l (([[]] : List Cnt).map sCnt)) := updC_same
  generalize updC M pr (.l [.d (.dict (encK []))]) = M1 at sub1 m1r
  refine db_cons (ds_forKeysL (i := 0) (kd := kdC cs) PassesOwn.never rfl hL rfl (by walk_at "vis") rfl (fun n τ' M' => ∃ (ts : List Cnt) (pr : Addr) (y2 y3 y4 y5 : Option Sl), τ' = [some (.d (eCnt cs)), some (.c pr), y2, y3, y4, y5] ∧ Sub M M' ∧ M pr = none ∧ M' pr = some (.l (ts.map sCnt)) ∧ Tabs (cs.take n) ts ∧ ts.length ≤ 8 ^ n) ⟨[[]], pr, none, none, none, none, rfl, sub1, hpr, m1r, (fun t ht => by rw [List.mem_singleton.mp ht]; exact ⟨rfl, fun _ h => nomatch h⟩), Nat.le_refl 1⟩ ?_ ?_)
  · rintro x ⟨xs, hx, hxl⟩ n k d τ' M2 hn ⟨ts, pr, y2, y3, y4, y5, rfl, sub2, hpr, m2r, tabs, hlen⟩
    have hkl : (kdC cs).length = cs.length := by unfold kdC; rw [List.length_map]
    rw [hkl] at hxl
    unfold kdC at hn
    rw [List.getElem?_map] at hn
    obtain ⟨⟨z, v⟩, hpz, epz⟩ := Option.map_eq_some_iff.mp hn
    obtain ⟨hlt, hgt⟩ := List.getElem?_eq_some_iff.mp hpz
    cases epz
    have hmem : (z, v) ∈ cs := List.mem_of_getElem? hpz
    have hv0 : 0 ≤ v := (okp _ hmem).2.1
    have hv5 : v ≤ 5 := h5 _ hmem
    have hget := getC_mem nd hmem
    have hn4 : n < 4 := by omega
    have h8 : 8 ^ n ≤ 512 := Nat.le_trans (Nat.pow_le_pow_right (by decide) (show n ≤ 3 by omega)) (by decide)
    have h8s : 8 ^ (n + 1) = 8 ^ n * 8 := Nat.pow_succ 8 n
    have hkeys : (cs.take (n + 1)).map (·.1) = (cs.take n).map (·.1) ++ [z] := by
      rw [List.take_add_one, hpz, List.map_append]
      rfl
    have hnz : z ∉ (cs.take n).map (·.1) := by
      intro q
      obtain ⟨y, hy, ey⟩ := List.mem_map.mp q
      obtain ⟨j, hj, ej⟩ := List.getElem_of_mem hy
      rw [List.getElem_take] at ej
      rw [List.length_take] at hj
      have hjn : j < n := by omega
      have : cs[j].1 = cs[n].1 := by rw [ej, ey, hgt]
      have e2 : (cs.map (·.1))[j]'(by rw [List.length_map]; omega) = (cs.map (·.1))[n]'(by rw [List.length_map]; omega) := by rw [List.getElem_map, List.getElem_map, this]
      exact absurd ((List.getElem_inj nd).mp e2) (by omega)
    refine dg_of (pg_name (i := 2) sc__law_tables.nd rfl (.inr rfl)) (wg_name ?_)
    refine db_cons (ds_set (i := 3) sc__law_tables.nd rfl (.inl rfl) (de_lstC (da_nil ⟨Nat.zero_le _, fun pl hpl => ?_⟩)))
    have nrl : pr ≠ pl := neC m2r hpl
    have hplM := sub2.none hpl
    have sub3 : Sub M (updC M2 pl (.l [])) := sub_put sub2 hplM
    have m3l : updC M2 pl (.l []) pl = some (.l (([] : List Cnt).map sCnt)) := updC_same
    have m3r : updC M2 pl (.l []) pr = some (.l (ts.map sCnt)) := by rw [updC_ne nrl]; exact m2r
    generalize updC M2 pl (.l []) = M3 at sub3 m3l m3r
    refine db_cons (ds_for PassesOwn.never rfl (di_seq ?_))
    walk_at "nm"
    refine ⟨ts.map sCnt, by simp only [seqOf, m3r], ?_⟩
    refine ⟨fun i τ' M' => ∃ (us : List Cnt) (y4 y5 : Option Sl), τ' = [some (.d (eCnt cs)), some (.c pr), some (dS z), some (.c pl), y4, y5] ∧ Sub M M' ∧ M' pr = some (.l (ts.map sCnt)) ∧ M' pl = some (.l (us.map sCnt)) ∧ Tabs (cs.take (n + 1)) us ∧ us.length ≤ i * 8, ⟨[], y4, y5, rfl, sub3, m3r, m3l, (fun _ h => nomatch h), Nat.zero_le _⟩, ?_, ?_, ?_⟩
    · rintro i τ' M' ⟨us, y4, y5, rfl, _, m4r, _⟩
      simp only [seqOf, m4r]
    · rintro i y τ' M4 hi hy ⟨us, y4, y5, rfl, sub4, m4r, m4l, tabu, hul⟩
      rw [List.length_map] at hi
      have hy' : y = sCnt ts[i] := by
        rw [List.getElem?_map, List.getElem?_eq_getElem hi] at hy
        exact (Option.some.inj hy).symm
      subst hy'
      obtain ⟨tk, tv⟩ := tabs _ (List.getElem_mem hi)
      generalize ts[i] = t at tk tv
      have htl : t.length = n := by
        have := congrArg List.length tk
        rw [List.length_map, List.length_map, List.length_take] at this
        omega
      have hadd : ∀ q : Int, 0 ≤ q → q ≤ 1000 → (t ++ [(z, q)]).map (·.1) = (cs.take (n + 1)).map (·.1) ∧ ∀ p ∈ t ++ [(z, q)], 0 ≤ p.2 ∧ p.2 ≤ 1000 := fun q q0 q1 => by
        refine ⟨by rw [List.map_append, tk, hkeys]; rfl, fun p hp => ?_⟩
        rcases List.mem_append.mp hp with hp | hp
        · exact tv p hp
        · rw [List.mem_singleton.mp hp]; exact ⟨q0, q1⟩
      have ndt : ∀ q : Int, ((t ++ [(z, q)]).map (·.1)).Nodup := fun q => by
        rw [List.map_append, tk]
        refine List.nodup_append.mpr ⟨(List.Sublist.map _ (List.take_sublist n cs)).nodup nd, by simp, ?_⟩
        intro a ha b hb e
        rw [List.mem_singleton.mp hb] at e
        rw [e] at ha
        exact hnz ha
      refine dg_of (pg_name (i := 4) sc__law_tables.nd rfl (.inr rfl)) (wg_name ?_)
      refine db_cons (ds_extend ?_)
      walk_at "nm"
      refine ⟨⟨rfl, _, by simp only [seqOf, m4l]; rfl⟩, de_lc0 (own := [("number", 5)]) (g := gName 5) rfl sc__law_tables.nd (blkOk_by (own := [("number", 5)]) (N := ["counts", "result", "name", "longer", "one", "number"]) (sc := defScope s__law_tables) (by decide +kernel)) (fun _ _ _ _ _ => pg_name (i := 5) sc__law_tables.nd rfl (.inl rfl)) (di_range1 (by rfl) b1 (de_add (de_dget (hu_of hr) ?_)))⟩
      walk_at "nm"
      walk_at "nm"
      refine ⟨_, .inr z, dI v, .d (kdC cs), rfl, by rw [valS_C, hget]; rfl, de_int ⟨_, _, rfl, rfl, v + 2, rfl, by omega, by omega, fun D hD => ?_⟩⟩
      have nlD : pl ≠ D := neC m4l hD
      have nrD : pr ≠ D := neC m4r hD
      have hDM := sub4.none hD
      refine ⟨fun j M' => ∃ ws : List Cnt, ws.length = j ∧ (∀ u ∈ ws, u.map (·.1) = (cs.take (n + 1)).map (·.1) ∧ ∀ p ∈ u, 0 ≤ p.2 ∧ p.2 ≤ 1000) ∧ Sub M M' ∧ M' pr = some (.l (ts.map sCnt)) ∧ M' pl = some (.l (us.map sCnt)) ∧ M' D = some (.l (ws.map sCnt)), ⟨[], rfl, (fun _ h => nomatch h), sub_put sub4 hDM, by rw [updC_ne nrD]; exact m4r, by rw [updC_ne nlD]; exact m4l, updC_same⟩, fun _ _ _ => trivial, ?_, ?_⟩
      · rintro j y M5 hj rfl ⟨ws, lw, hw, sub5, m5r, m5l, m5D⟩
        refine wgw_name (by simp) ?_
        intro s0 H0 C cl fp
        refine de_frzK (de_callT (call_dictP rfl) (by rfl) b2 bt_dict (da_cons (de_cat (de_listItemsO rfl (by rfl) b3 ?_))))
        walk_at "nm"
        have hoth : Other (x :: L) (kdC t).length := fun a ha ys e => by
          rcases List.mem_cons.mp ha with rfl | ha
          · rw [hx] at e
            cases e
            rw [hxl]
            unfold kdC
            rw [List.length_map, htl]
            omega
          · exact absurd e (hL a ha ys)
        refine ⟨kdC t, rfl, hoth, fun p6 hp6 => de_lstD (da_cons (de_tupD (da_cons ?_)))⟩
        walk_at "nm"
        refine da_cons ?_
        walk_at "nm"
        refine da_nil ⟨[.str z, .int (j : Int)], rfl, (by show 2 ≤ sizeLine; decide), da_nil ⟨[.tuple [.str z, .int (j : Int)]], rfl, (by show 1 ≤ sizeLine; decide), ?_⟩⟩
        have sub6 : Sub M5 (updC M5 p6 (.l ((kdC t).map itD))) := (Sub.refl _).new hp6
        have m6 : updC M5 p6 (.l ((kdC t).map itD)) p6 = some (.l ((kdC t).map itD)) := updC_same
        generalize updC M5 p6 (.l ((kdC t).map itD)) = M6 at sub6 m6
        refine ⟨(kdC t).map itD, [.d (.tuple [.str z, .int (j : Int)])], by simp only [lstOf, m6], rfl, ?_, fun p7 hp7 => ?_⟩
        · unfold kdC
          rw [List.length_map, List.length_map, sizeLine_eq]
          show t.length + 1 ≤ _
          omega
        rw [show ((kdC t).map itD ++ [.d (.tuple [.str z, .int (j : Int)])] : List Sl) = (kdC (t ++ [(z, (j : Int))])).map Y.prD from by unfold kdC; rw [List.map_append, List.map_append]; rfl]
        have sub7 : Sub M6 (updC M6 p7 (.l ((kdC (t ++ [(z, (j : Int))])).map Y.prD))) := (Sub.refl _).new hp7
        have m7 : updC M6 p7 (.l ((kdC (t ++ [(z, (j : Int))])).map Y.prD)) p7 = some (.l ((kdC (t ++ [(z, (j : Int))])).map Y.prD)) := updC_same
        generalize updC M6 p7 (.l ((kdC (t ++ [(z, (j : Int))])).map Y.prD)) = M7 at sub7 m7
        have s57 := Sub.trans sub6 sub7
        refine da_nil (k_dictP (kd := kdC (t ++ [(z, (j : Int))])) rfl (by simp only [seqOf, m7]) fun p8 hp8 => ⟨p8, kdC (t ++ [(z, (j : Int))]), rfl, by rw [updC_same, merge_cnt (ndt _)], ?_⟩)
        rw [delC_updC hp8]
        refine ⟨_, s57 _ _ m5D, by rw [List.length_map, sizeLine_eq]; omega, ws ++ [t ++ [(z, (j : Int))]], by rw [List.length_append, lw]; rfl, fun u hu => ?_, sub_put (Sub.trans sub5 s57) hDM, by rw [updC_ne nrD]; exact s57 _ _ m5r, by rw [updC_ne nlD]; exact s57 _ _ m5l, ?_⟩
        · rcases List.mem_append.mp hu with hu | hu
          · exact hw u hu
          · rw [List.mem_singleton.mp hu]
            exact hadd _ (by omega) (by omega)
        · rw [updC_same, List.map_append]
          rfl
      · rintro M5 ⟨ws, lw, hw, sub5, m5r, m5l, m5D⟩
        have hwl : ws.length ≤ 7 := by omega
        refine ⟨pl, D, us.map sCnt, ws.map sCnt, rfl, rfl, m5l, m5D, ?_, db_nil ⟨us ++ ws, _, _, rfl, sub_put sub5 hplM, by rw [updC_ne nrl]; exact m5r, by rw [updC_same, List.map_append], ?_, ?_⟩⟩
        · rw [List.length_map, List.length_map, sizeLine_eq]
          have h9 : i * 8 ≤ 8 ^ n * 8 := Nat.mul_le_mul_right 8 (by omega)
          have : us.length ≤ 4096 := by omega
          exact Nat.le_trans (Nat.add_le_add this hwl) (by decide)
        · intro u hu
          rcases List.mem_append.mp hu with hu | hu
          · exact tabu u hu
          · exact hw u hu
        · rw [List.length_append, Nat.succ_mul]
          omega
    · rintro τ' M4 ⟨us, y4, y5, rfl, sub4, m4r, m4l, tabu, hul⟩
      rw [List.length_map] at hul
      refine db_cons (ds_set (i := 1) sc__law_tables.nd rfl (.inl rfl) ?_)
      walk_at "nm"
      refine db_nil ⟨us, pl, _, _, _, _, rfl, sub4, hplM, m4l, tabu, ?_⟩
      rw [h8s]
      exact Nat.le_trans hul (Nat.mul_le_mul_right 8 hlen)
  · rintro τ' M2 ⟨ts, pr, y2, y3, y4, y5, rfl, sub2, hpr, m2r, tabs, hlen⟩
    have hkl : (kdC cs).length = cs.length := by unfold kdC; rw [List.length_map]
    rw [hkl, List.take_length] at tabs
    rw [hkl] at hlen
    refine db_cons (ds_ret ?_)
    walk_at "nm"
    exact fin ts pr M2 sub2 hpr m2r tabs (Nat.le_trans hlen (Nat.le_trans (Nat.pow_le_pow_right (by decide) l4) (by decide)))

end

end Pg

namespace Pg
open PySem L2 Y PyProof.Rows

local macro_rules | `(tactic| walk_at "vis") => `(tactic| first | exact Or.inl rfl | exact Or.inr (Or.inl rfl) | exact Or.inr (Or.inr rfl))
local macro_rules | `(tactic| walk_at "e1") => `(tactic| first | walk_at "nm" | refine de_int ?_ | refine de_add ?_ | refine de_sub ?_ | refine de_str ?_ | refine de_non ?_ | refine de_bl ?_)
local macro_rules | `(tactic| walk_at "go") => `(tactic| repeat (first | ((with_reducible show DE _ _ _ _ _ _); walk_at "e1") | ((with_reducible show DA _ _ _ _ _ _); refine da_cons ?_) | refine ⟨_, _, rfl, rfl, ?_⟩))


theorem lastF_nil (z : Str) {v : Int} (h : 1 ≤ v) : lastF [] z v = 1 := by
  unfold lastF
  rw [if_pos (.inl rfl), comeN_nil]
  split <;> omega
theorem fin_last {cs : Cnt} (nd : (cs.map (·.1)).Nodup) {r : List Line} (h : Fin cs r) (hne : r ≠ []) : ∃ w l v, r = w ++ [l] ∧ l ∈ folC cs w ∧ (l.1, v) ∈ cs ∧ l.2 = v ∧ 1 ≤ v := by
  rcases h with ⟨e, _⟩ | ⟨_, hp, hv⟩
  · exact absurd e hne
  · obtain ⟨w, l, e⟩ : ∃ w l, r = w ++ [l] := ⟨r.dropLast, r.getLast hne, (List.dropLast_concat_getLast hne).symm⟩
    have hl := hp w l [] e
    obtain ⟨v, hvc, h1, h2⟩ := mem_fol hl
    have h3 := lastF_le w l.1 v
    have h4 : 0 ≤ comeN w l.1 := (come_spec l.1 w 0).2.1
    have h5 := hv l (by rw [e, List.getLast?_concat])
    have h6 : valC cs l.1 = v := by unfold valC; rw [show getC cs l.1 = some v from getC_mem nd hvc]; rfl
    exact ⟨w, l, v, e, hl, hvc, by rw [h5, h6], by omega⟩
theorem path_front {cs : Cnt} {w : List Line} {l : Line} (h : Path cs (w ++ [l])) : Path cs w := fun a b c e => h a b (c ++ [l]) (by rw [e]; simp)
theorem one_writer {cs : Cnt} {z : Str} {n : Nat} : ∀ {r : List Line}, r.length = n → Path cs r → (∀ l ∈ r, l.1 = z) → comeN r z = (r.length : Int) := by
  induction n with
  | zero =>
    intro r hr _ _
    rw [List.length_eq_zero_iff.mp hr]
    rfl
  | succ n ih =>
    intro r hr hp hz
    have hne : r ≠ [] := fun e => by rw [e] at hr; cases hr
    obtain ⟨w, l, e⟩ : ∃ w l, r = w ++ [l] := ⟨r.dropLast, r.getLast hne, (List.dropLast_concat_getLast hne).symm⟩
    subst e
    rw [List.length_append, List.length_singleton] at hr ⊢
    have hw := ih (by omega) (path_front hp) fun x hx => hz x (List.mem_append_left _ hx)
    obtain ⟨v, _, h1, h2⟩ := mem_fol (hp w l [] rfl)
    have hlz := hz l (List.mem_append_right _ List.mem_cons_self)
    rw [hlz] at h1 h2
    have h3 : lastF w z v ≤ comeN w z + 1 := by
      unfold lastF
      rw [if_pos]
      · split <;> omega
      · cases hg : w.getLast? with
        | none => exact .inl (List.getLast?_eq_none_iff.mp hg)
        | some x =>
          right
          have : x ∈ w := List.mem_of_getLast? hg
          rw [Option.map_some, hz x (List.mem_append_left _ this)]
    rw [comeN_snoc, if_pos hlz, if_pos (by omega)]
    show l.2 = ((w.length + 1 : Nat) : Int)
    omega
def fullL (z : Str) (k : Nat) : List Line := (List.range k).map fun (j : Nat) => (z, (j : Int) + 1)
theorem full_succ (z : Str) (k : Nat) : fullL z (k + 1) = fullL z k ++ [(z, (k : Int) + 1)] := by
  unfold fullL
  rw [List.range_succ, List.map_append]
  rfl
theorem full_path {cs : Cnt} {z : Str} {v : Int} (h : (z, v) ∈ cs) : ∀ k : Nat, (k : Int) ≤ v → Path cs (fullL z k) ∧ comeN (fullL z k) z = (k : Int)
  | 0, _ => ⟨path_nil cs, rfl⟩
  | k + 1, hk => by
    obtain ⟨h1, h2⟩ := full_path h k (by omega)
    rw [full_succ]
    have hl : (z, (k : Int) + 1) ∈ folC cs (fullL z k) := by
      refine fol_mem (v := v) h ?_ ?_
      · show comeN (fullL z k) z + 1 ≤ (k : Int) + 1
        omega
      · show (k : Int) + 1 ≤ lastF (fullL z k) z v
        unfold lastF
        rw [h2]
        split
        · split <;> omega
        · omega
    refine ⟨path_snoc h1 hl, ?_⟩
    rw [comeN_snoc, if_pos rfl, h2]
    show (if (k : Int) < (k : Int) + 1 then (k : Int) + 1 else (k : Int)) = ((k + 1 : Nat) : Int)
    rw [if_pos (by omega)]
    omega
theorem full_len (z : Str) (k : Nat) : (fullL z k).length = k := by unfold fullL; rw [List.length_map, List.length_range]
theorem tvC_of {t : Cnt} (nd : (t.map (·.1)).Nodup) {p : Str × Int} (h : p ∈ t) : tvC t p.1 = p.2 := by
  unfold tvC
  rw [getC_mem nd h]
  rfl
theorem tvC_not {t : Cnt} {z : Str} (h : z ∉ t.map (·.1)) : tvC t z = 0 := by
  unfold tvC
  rw [getC_not h]
  rfl
theorem one_val {cs : Cnt} (nd : (cs.map (·.1)).Nodup) {z : Str} {v v' : Int} (h : (z, v) ∈ cs) (k : (z, v') ∈ cs) : v = v' := by
  have a := getC_mem nd h
  have b := getC_mem nd k
  rw [show getC cs z = some v from a] at b
  exact Option.some.inj b
theorem cntL_app (a b : List Line) (z : Str) : cntL (a ++ b) z = cntL a z + cntL b z := by
  unfold cntL
  rw [List.filter_append, List.length_append]
  omega
theorem cntL_nil (z : Str) : cntL [] z = 0 := rfl
theorem cntL_one (l : Line) (z : Str) : cntL [l] z = if l.1 = z then 1 else 0 := by
  unfold cntL
  rw [List.filter_cons]
  by_cases e : l.1 = z
  · rw [if_pos (decide_eq_true e), if_pos e]; rfl
  · rw [if_neg (fun q => e (of_decide_eq_true q)), if_neg e]; rfl
theorem cntL_nonneg (a : List Line) (z : Str) : 0 ≤ cntL a z := by unfold cntL; omega
theorem cntL_pos {a : List Line} {l : Line} (h : l ∈ a) : 1 ≤ cntL a l.1 := by
  unfold cntL
  have : l ∈ a.filter fun x => decide (x.1 = l.1) := List.mem_filter.mpr ⟨h, decide_eq_true rfl⟩
  have := List.length_pos_of_mem this
  omega
theorem cntL_all {a : List Line} {z : Str} (h : ∀ l ∈ a, l.1 = z) : cntL a z = (a.length : Int) := by
  unfold cntL
  rw [List.filter_eq_self.mpr fun l hl => decide_eq_true (h l hl)]
theorem snoc_of {α : Type} {r : List α} (h : r ≠ []) : ∃ w l, r = w ++ [l] := ⟨r.dropLast, r.getLast h, (List.dropLast_concat_getLast h).symm⟩
theorem cnt_le_come {cs : Cnt} {z : Str} : ∀ (n : Nat) {r : List Line}, r.length = n → Path cs r → cntL r z ≤ comeN r z
  | 0, r, hr, _ => by rw [List.length_eq_zero_iff.mp hr]; exact Int.le_refl 0
  | n + 1, r, hr, hp => by
    have hne : r ≠ [] := fun e => by rw [e] at hr; cases hr
    obtain ⟨w, l, rfl⟩ := snoc_of hne
    rw [List.length_append, List.length_singleton] at hr
    have ih := cnt_le_come (z := z) n (r := w) (by omega) (path_front hp)
    obtain ⟨v, _, h1, _⟩ := mem_fol (hp w l [] rfl)
    rw [cntL_app, cntL_one, comeN_snoc]
    by_cases e : l.1 = z
    · rw [if_pos e, if_pos e]
      rw [e] at h1
      rw [if_pos (by omega)]
      omega
    · rw [if_neg e, if_neg e]
      omega
theorem come_le {cs : Cnt} (nd : (cs.map (·.1)).Nodup) {r : List Line} (hp : Path cs r) {z : Str} {v : Int} (hz : (z, v) ∈ cs) (hv : 0 ≤ v) : comeN r z ≤ v := by
  obtain ⟨h1, _, _⟩ := come_spec z r 0
  rcases h1 with q | ⟨l, hl, e, q⟩
  · show List.foldl _ _ _ ≤ _
    rw [q]; exact hv
  · show List.foldl _ _ _ ≤ _
    rw [← q]
    obtain ⟨v', hv', _, h2⟩ := path_lines hp l hl
    rw [e] at hv'
    rw [one_val nd hz hv']
    exact h2
/-- some lines of a writer behind those ahead -/
def segL (z : Str) (a : Int) (k : Nat) : List Line := (List.range k).map fun (j : Nat) => (z, a + 1 + (j : Int))
theorem seg_succ (z : Str) (a : Int) (k : Nat) : segL z a (k + 1) = segL z a k ++ [(z, a + 1 + (k : Int))] := by
  unfold segL
  rw [List.range_succ, List.map_append]
  rfl
theorem seg_len (z : Str) (a : Int) (k : Nat) : (segL z a k).length = k := by unfold segL; rw [List.length_map, List.length_range]
theorem seg_name {z : Str} {a : Int} {k : Nat} : ∀ l ∈ segL z a k, l.1 = z := fun l hl => by
  obtain ⟨j, _, rfl⟩ := List.mem_map.mp hl
  rfl
theorem cnt_seg (z : Str) (a : Int) (k : Nat) (y : Str) : cntL (segL z a k) y = if y = z then (k : Int) else 0 := by
  by_cases e : y = z
  · rw [if_pos e, e, cntL_all seg_name, seg_len]
  · rw [if_neg e]
    unfold cntL
    rw [List.filter_eq_nil_iff.mpr fun l hl q => e (by rw [← seg_name l hl]; exact (of_decide_eq_true q).symm)]
    rfl
theorem seg_path {cs : Cnt} {w : List Line} {z : Str} {v a : Int} (hw : Path cs w) (hz : (z, v) ∈ cs) (h1 : comeN w z ≤ a) (h3 : a = comeN w z ∨ (w ≠ [] ∧ (w.getLast?.map (·.1)) ≠ some z)) : ∀ k : Nat, a + (k : Int) ≤ v → Path cs (w ++ segL z a k) ∧ (0 < k → comeN (w ++ segL z a k) z = a + (k : Int)) ∧ ∀ y, y ≠ z → comeN (w ++ segL z a k) y = comeN w y
  | 0, _ => by
    have : segL z a 0 = [] := rfl
    rw [this, List.append_nil]
    exact ⟨hw, fun h => absurd h (Nat.lt_irrefl 0), fun _ _ => rfl⟩
  | k + 1, hk => by
    obtain ⟨i1, i2, i3⟩ := seg_path hw hz h1 h3 k (by omega)
    rw [seg_succ, ← List.append_assoc]
    have hl : (z, a + 1 + (k : Int)) ∈ folC cs (w ++ segL z a k) := by
      refine fol_mem (v := v) hz ?_ ?_
      · show comeN (w ++ segL z a k) z + 1 ≤ a + 1 + (k : Int)
        by_cases h : 0 < k
        · rw [i2 h]; omega
        · have : k = 0 := by omega
          subst this
          rw [show segL z a 0 = [] from rfl, List.append_nil]
          omega
      · show a + 1 + (k : Int) ≤ lastF (w ++ segL z a k) z v
        by_cases h : 0 < k
        · unfold lastF
          rw [i2 h]
          split
          · split <;> omega
          · omega
        · have : k = 0 := by omega
          subst this
          rw [show segL z a 0 = [] from rfl, List.append_nil]
          unfold lastF
          rcases h3 with h3 | ⟨h3, h4⟩
          · split
            · split <;> omega
            · omega
          · rw [if_neg]
            · omega
            · rintro (q | q)
              · exact h3 q
              · exact h4 q
    refine ⟨path_snoc i1 hl, fun _ => ?_, fun y hy => ?_⟩
    · rw [comeN_snoc, if_pos rfl]
      show (if comeN (w ++ segL z a k) z < a + 1 + (k : Int) then a + 1 + (k : Int) else comeN (w ++ segL z a k) z) = a + ((k + 1 : Nat) : Int)
      rw [if_pos]
      · omega
      · by_cases h : 0 < k
        · rw [i2 h]; omega
        · have : k = 0 := by omega
          subst this
          rw [show segL z a 0 = [] from rfl, List.append_nil]
          omega
    · rw [comeN_snoc, if_neg (fun e => hy e.symm)]
      exact i3 y hy
def bldL (t : Cnt) (xs : Cnt) : List Line := xs.flatMap fun x => segL x.1 0 (tvC t x.1).toNat
theorem bld_snoc (t xs : Cnt) (x : Str × Int) : bldL t (xs ++ [x]) = bldL t xs ++ segL x.1 0 (tvC t x.1).toNat := by
  unfold bldL
  rw [List.flatMap_append]
  simp
theorem bld_ok {cs t : Cnt} : ∀ (n : Nat) {xs : Cnt}, xs.length = n → (xs.map (·.1)).Nodup → (∀ x ∈ xs, x ∈ cs ∧ 0 < tvC t x.1 ∧ tvC t x.1 ≤ x.2) →
    Path cs (bldL t xs) ∧ (∀ y, y ∉ xs.map (·.1) → comeN (bldL t xs) y = 0) ∧ (∀ l ∈ bldL t xs, l.1 ∈ xs.map (·.1)) ∧ ∀ y, cntL (bldL t xs) y = if y ∈ xs.map (·.1) then tvC t y else 0
  | 0, xs, hn, _, _ => by
    rw [List.length_eq_zero_iff.mp hn]
    exact ⟨path_nil cs, fun _ _ => rfl, (fun _ h => nomatch h), fun y => by rw [if_neg (by simp)]; rfl⟩
  | n + 1, xs, hn, nd, hx => by
    have hne : xs ≠ [] := fun e => by rw [e] at hn; cases hn
    obtain ⟨ys, x, rfl⟩ := snoc_of hne
    rw [List.length_append, List.length_singleton] at hn
    rw [List.map_append] at nd
    obtain ⟨n1, _, n3⟩ := List.nodup_append.mp nd
    have hnx : x.1 ∉ ys.map (·.1) := fun q => n3 _ q _ (by simp) rfl
    obtain ⟨i1, i2, i3, i4⟩ := bld_ok n (xs := ys) (by omega) n1 fun y hy => hx y (List.mem_append_left _ hy)
    obtain ⟨x1, x2, x3⟩ := hx x (List.mem_append_right _ List.mem_cons_self)
    rw [bld_snoc]
    obtain ⟨s1, s2, s3⟩ := seg_path (v := x.2) i1 x1 (a := 0) (by rw [i2 _ hnx]; exact Int.le_refl 0) (.inl (i2 _ hnx).symm) (tvC t x.1).toNat (by omega)
    refine ⟨s1, fun y hy => ?_, fun l hl => ?_, fun y => ?_⟩
    · rw [List.map_append] at hy
      rw [s3 y (fun e => hy (by rw [e]; simp))]
      exact i2 y fun q => hy (List.mem_append_left _ q)
    · rw [List.map_append]
      rcases List.mem_append.mp hl with hl | hl
      · exact List.mem_append_left _ (i3 l hl)
      · rw [seg_name l hl]
        simp
    · rw [cntL_app, cnt_seg, i4, List.map_append]
      by_cases e : y = x.1
      · rw [if_pos e, if_neg (by rw [e]; exact hnx), if_pos (by rw [e]; simp), e]
        omega
      · rw [if_neg e]
        by_cases h : y ∈ ys.map (·.1)
        · rw [if_pos h, if_pos (List.mem_append_left _ h)]; omega
        · rw [if_neg h, if_neg]
          · rfl
          · intro q
            rcases List.mem_append.mp q with q | q
            · exact h q
            · exact e (by simpa using q)
theorem posP_mem {cs t : Cnt} {p : Str × Int} : p ∈ posP cs t ↔ p ∈ cs ∧ 0 < tvC t p.1 := by
  unfold posP
  rw [List.mem_filter, decide_eq_true_eq]
theorem fin_path {cs : Cnt} {r : List Line} (h : Fin cs r) : Path cs r := by
  rcases h with ⟨rfl, _⟩ | ⟨_, a, _⟩
  · exact path_nil cs
  · exact a
/-- the numbers of lines that final contents can have -/
theorem surv_iff {cs t : Cnt} (okc : okCnt cs) (ht : ∀ p ∈ cs, 0 ≤ tvC t p.1) : SurvP cs t ↔ ∃ r, Fin cs r ∧ ∀ p ∈ cs, cntL r p.1 = tvC t p.1 := by
  have nd := okc.2.2.1
  have hnn : ∀ p ∈ cs, 0 ≤ p.2 := fun p hp => (okc.2.2.2 p hp).2.1
  have vals : ∀ {z v}, (z, v) ∈ cs → valC cs z = v := fun {z v} hz => by unfold valC; rw [show getC cs z = some v from getC_mem nd hz]; rfl
  constructor
  · rintro ⟨h1, h2, h3⟩
    have hsub : ((posP cs t).map (·.1)).Sublist (cs.map (·.1)) := List.Sublist.map _ List.filter_sublist
    have hnp := hsub.nodup nd
    cases hpp : posP cs t with
    | nil =>
      refine ⟨[], .inl ⟨rfl, h2 hpp⟩, fun p hp => ?_⟩
      have := ht p hp
      have : ¬ 0 < tvC t p.1 := fun q => by
        have : p ∈ posP cs t := posP_mem.mpr ⟨hp, q⟩
        rw [hpp] at this
        cases this
      rw [cntL_nil]
      omega
    | cons p r =>
      have hp : p ∈ posP cs t := by rw [hpp]; exact List.mem_cons_self
      obtain ⟨hpc, hp0⟩ := posP_mem.mp hp
      cases r with
      | nil =>
        have e := h3 p hpp
        obtain ⟨hP, hc⟩ := full_path hpc p.2.toNat (by have := hnn p hpc; omega)
        refine ⟨fullL p.1 p.2.toNat, ?_, fun y hy => ?_⟩
        · obtain ⟨k, hk⟩ : ∃ k, p.2.toNat = k + 1 := ⟨p.2.toNat - 1, by omega⟩
          refine .inr ⟨?_, hP, fun l hl => ?_⟩
          · rw [hk, full_succ]; simp
          · rw [hk, full_succ, List.getLast?_concat] at hl
            cases hl
            rw [vals hpc]
            show (k : Int) + 1 = p.2
            omega
        · have e2 : fullL p.1 p.2.toNat = segL p.1 0 p.2.toNat := by
            unfold fullL segL
            refine List.map_congr_left fun j _ => ?_
            show (p.1, (j : Int) + 1) = (p.1, 0 + 1 + (j : Int))
            rw [show (j : Int) + 1 = 0 + 1 + (j : Int) from by omega]
          rw [e2, cnt_seg]
          by_cases q : y.1 = p.1
          · rw [if_pos q, q, e]
            have := hnn p hpc
            omega
          · rw [if_neg q]
            have := ht y hy
            have : ¬ 0 < tvC t y.1 := fun g => by
              have : y ∈ posP cs t := posP_mem.mpr ⟨hy, g⟩
              rw [hpp] at this
              exact q (by rw [List.mem_singleton.mp this])
            omega
      | cons q r =>
        have hq : q ∈ posP cs t := by rw [hpp]; exact List.mem_cons_of_mem _ List.mem_cons_self
        obtain ⟨hqc, hq0⟩ := posP_mem.mp hq
        rw [hpp, List.map_cons, List.map_cons] at hnp
        obtain ⟨m1, m2⟩ := List.nodup_cons.mp hnp
        obtain ⟨m3, m4⟩ := List.nodup_cons.mp m2
        have hqn : q.1 ∉ (p :: r).map (·.1) := by
          rw [List.map_cons]
          intro z
          rcases List.mem_cons.mp z with z | z
          · exact m1 (by rw [← z]; exact List.mem_cons_self)
          · exact m3 z
        have hxs : ∀ x ∈ p :: r, x ∈ cs ∧ 0 < tvC t x.1 ∧ tvC t x.1 ≤ x.2 := fun x hx => by
          have : x ∈ posP cs t := by
            rw [hpp]
            rcases List.mem_cons.mp hx with rfl | hx
            · exact List.mem_cons_self
            · exact List.mem_cons_of_mem _ (List.mem_cons_of_mem _ hx)
          obtain ⟨a, b⟩ := posP_mem.mp this
          exact ⟨a, b, h1 x a⟩
        have hnd2 : ((p :: r).map (·.1)).Nodup := by
          rw [List.map_cons]
          exact List.nodup_cons.mpr ⟨fun z => m1 (List.mem_cons_of_mem _ z), m4⟩
        obtain ⟨b1, b2, b3, b4⟩ := bld_ok (cs := cs) (t := t) _ rfl hnd2 hxs
        have hbn : bldL t (p :: r) ≠ [] := fun e => by
          have := b4 p.1
          rw [e, cntL_nil, if_pos (by simp)] at this
          omega
        have hTq := h1 q hqc
        obtain ⟨s1, s2, s3⟩ := seg_path (v := q.2) (a := q.2 - tvC t q.1) b1 hqc (by rw [b2 _ hqn]; omega) (.inr ⟨hbn, fun z => by
          cases g : (bldL t (p :: r)).getLast? with
          | none => rw [g] at z; cases z
          | some l =>
            rw [g] at z
            have : l ∈ bldL t (p :: r) := List.mem_of_getLast? g
            have := b3 l this
            have e1 : l.1 = q.1 := Option.some.inj z
            rw [e1] at this
            exact hqn this⟩) (tvC t q.1).toNat (by omega)
        refine ⟨_, .inr ⟨by simp [hbn], s1, fun l hl => ?_⟩, fun y hy => ?_⟩
        · obtain ⟨k, hk⟩ : ∃ k, (tvC t q.1).toNat = k + 1 := ⟨(tvC t q.1).toNat - 1, by omega⟩
          rw [hk, seg_succ, ← List.append_assoc, List.getLast?_concat] at hl
          cases hl
          rw [vals hqc]
          show q.2 - tvC t q.1 + 1 + (k : Int) = q.2
          omega
        · rw [cntL_app, cnt_seg, b4]
          by_cases e : y.1 = q.1
          · rw [if_pos e, if_neg (by rw [e]; exact hqn), e]
            omega
          · rw [if_neg e]
            by_cases g : 0 < tvC t y.1
            · have : y ∈ posP cs t := posP_mem.mpr ⟨hy, g⟩
              rw [hpp] at this
              have hin : y.1 ∈ (p :: r).map (·.1) := by
                rcases List.mem_cons.mp this with rfl | this
                · exact List.mem_cons_self
                · rcases List.mem_cons.mp this with rfl | this
                  · exact absurd rfl e
                  · exact List.mem_map.mpr ⟨y, List.mem_cons_of_mem _ this, rfl⟩
              rw [if_pos hin]
              omega
            · have := ht y hy
              rw [if_neg]
              · omega
              · intro z
                obtain ⟨x, hx, ex⟩ := List.mem_map.mp z
                have := (hxs x hx).2.1
                rw [ex] at this
                exact g this
  · rintro ⟨r, hF, hc⟩
    have hP := fin_path hF
    have inr : ∀ l ∈ r, ∃ v, (l.1, v) ∈ posP cs t := fun l hl => by
      obtain ⟨v, hv, _, _⟩ := path_lines hP l hl
      have := cntL_pos hl
      have := hc _ hv
      simp only at this
      exact ⟨v, posP_mem.mpr ⟨hv, by show 0 < tvC t l.1; omega⟩⟩
    refine ⟨fun p hp => ?_, fun e => ?_, fun p e => ?_⟩
    · rw [← hc p hp]
      exact Int.le_trans (cnt_le_come _ rfl hP) (come_le nd hP hp (hnn p hp))
    · rcases hF with ⟨_, s0⟩ | ⟨hne, _, _⟩
      · exact s0
      · obtain ⟨w, l, rfl⟩ := snoc_of hne
        obtain ⟨v, hv⟩ := inr l (List.mem_append_right _ List.mem_cons_self)
        rw [e] at hv
        cases hv
    · have hp : p ∈ posP cs t := by rw [e]; exact List.mem_cons_self
      obtain ⟨hpc, hp0⟩ := posP_mem.mp hp
      have hall : ∀ l ∈ r, l.1 = p.1 := fun l hl => by
        obtain ⟨v, hv⟩ := inr l hl
        rw [e] at hv
        exact congrArg (·.1) (List.mem_singleton.mp hv)
      have hne : r ≠ [] := fun z => by
        have := hc p hpc
        rw [z, cntL_nil] at this
        omega
      have hcl := cntL_all hall
      have hcm := one_writer rfl hP hall
      obtain ⟨w, l, v, er, hl, hvc, hlv, hv1⟩ := fin_last nd hF hne
      have el := hall l (by rw [er]; exact List.mem_append_right _ List.mem_cons_self)
      have hv : v = p.2 := one_val nd (by rw [el] at hvc; exact hvc) hpc
      have hle : l.2 ≤ comeN r p.1 := by
        rw [er, comeN_snoc, if_pos el]
        split <;> omega
      have h1 := hc p hpc
      have h2 : cntL r p.1 ≤ p.2 := Int.le_trans (cnt_le_come _ rfl hP) (come_le nd hP hpc (hnn p hpc))
      omega
/-- a table among those of the final contents -/
theorem in_tabs {cs t : Cnt} (okc : okCnt cs) (hk : t.map (·.1) = cs.map (·.1)) (h0 : ∀ p ∈ t, 0 ≤ p.2) {rs : List (List Line)} (hrs : ∀ r, r ∈ rs ↔ Fin cs r) : ((rs.map (lineT cs)).any fun d => eqC d t) = true ↔ SurvP cs t := by
  have nd := okc.2.2.1
  have ndt : (t.map (·.1)).Nodup := by rw [hk]; exact nd
  have hpos : ∀ p ∈ cs, getC t p.1 = some (tvC t p.1) ∧ 0 ≤ tvC t p.1 := fun p hp => by
    have : p.1 ∈ t.map (·.1) := by rw [hk]; exact List.mem_map_of_mem hp
    obtain ⟨q, hq, e⟩ := List.mem_map.mp this
    have g := getC_mem ndt hq
    rw [e] at g
    have e2 : tvC t p.1 = q.2 := by unfold tvC; rw [g]; rfl
    rw [e2]
    exact ⟨g, h0 q hq⟩
  rw [surv_iff okc fun p hp => (hpos p hp).2]
  have key : ∀ r, eqC (lineT cs r) t = true ↔ ∀ p ∈ cs, cntL r p.1 = tvC t p.1 := fun r => by
    unfold eqC
    have hl : ((lineT cs r).length == t.length) = true := by
      have := congrArg List.length hk
      rw [List.length_map, List.length_map] at this
      unfold lineT
      rw [List.length_map]
      simp [this]
    rw [hl, Bool.true_and, List.all_eq_true]
    constructor
    · intro h p hp
      have := of_decide_eq_true (h (p.1, cntL r p.1) (List.mem_map.mpr ⟨p, hp, rfl⟩))
      rw [(hpos p hp).1] at this
      exact (Option.some.inj this).symm
    · intro h x hx
      obtain ⟨p, hp, rfl⟩ := List.mem_map.mp hx
      refine decide_eq_true ?_
      show getC t p.1 = some (cntL r p.1)
      rw [(hpos p hp).1, h p hp]
  rw [List.any_eq_true]
  constructor
  · rintro ⟨d, hd, e⟩
    obtain ⟨r, hr, rfl⟩ := List.mem_map.mp hd
    exact ⟨r, (hrs r).mp hr, (key r).mp e⟩
  · rintro ⟨r, hr, e⟩
    exact ⟨_, List.mem_map.mpr ⟨r, (hrs r).mpr hr, rfl⟩, (key r).mpr e⟩
def spC (t : Cnt) : Cnt := t.filter fun p => decide (0 < p.2)
theorem spC_val : ∀ {t : Cnt}, (t.map (·.1)).Nodup → (∀ p ∈ t, 0 ≤ p.2) → ∀ z, tvC (spC t) z = tvC t z
  | [], _, _, _ => rfl
  | p :: r, nd, h, z => by
    rw [List.map_cons] at nd
    obtain ⟨n1, n2⟩ := List.nodup_cons.mp nd
    have ih := spC_val n2 (fun q hq => h q (List.mem_cons_of_mem _ hq)) z
    have h0 := h p List.mem_cons_self
    have e1 : tvC (p :: r) z = if p.1 = z then p.2 else tvC r z := by
      unfold tvC
      rw [getC_cons2]
      split <;> rfl
    by_cases g : 0 < p.2
    · have e2 : spC (p :: r) = p :: spC r := by unfold spC; rw [List.filter_cons, if_pos (decide_eq_true g)]
      have e3 : tvC (p :: spC r) z = if p.1 = z then p.2 else tvC (spC r) z := by
        unfold tvC
        rw [getC_cons2]
        split <;> rfl
      rw [e2, e3, e1, ih]
    · have e2 : spC (p :: r) = spC r := by unfold spC; rw [List.filter_cons, if_neg (fun q => g (of_decide_eq_true q))]
      rw [e2, ih, e1]
      by_cases e : p.1 = z
      · rw [if_pos e, tvC_not (by rw [← e]; exact n1)]
        omega
      · rw [if_neg e]
theorem surv_congr {cs t t' : Cnt} (h : ∀ z, tvC t z = tvC t' z) : SurvP cs t ↔ SurvP cs t' := by
  have e : posP cs t = posP cs t' := by
    unfold posP
    congr 1
    funext p
    rw [h]
  unfold SurvP
  rw [e]
  constructor
  · rintro ⟨a, b, c⟩
    exact ⟨fun p hp => by rw [← h]; exact a p hp, b, fun p hp => by rw [← h]; exact c p hp⟩
  · rintro ⟨a, b, c⟩
    exact ⟨fun p hp => by rw [h]; exact a p hp, b, fun p hp => by rw [h]; exact c p hp⟩
/-- the other rule, of tables with few names -/
theorem surv_few {cs nb : Cnt} (nd : (cs.map (·.1)).Nodup) (ndb : (nb.map (·.1)).Nodup) (hin : ∀ p ∈ nb, p.1 ∈ cs.map (·.1)) (h0 : ∀ p ∈ nb, 0 ≤ p.2) (hv : ∀ p ∈ cs, 0 ≤ p.2) :
    (spC nb = [] → (SurvP cs nb ↔ sumC cs = 0)) ∧ (∀ x, spC nb = [x] → (SurvP cs nb ↔ x.2 = tvC cs x.1)) ∧ (2 ≤ (spC nb).length → (SurvP cs nb ↔ ∀ x ∈ spC nb, ¬ tvC cs x.1 < x.2)) := by
  have mem : ∀ {x : Str × Int}, x ∈ spC nb ↔ x ∈ nb ∧ 0 < x.2 := fun {x} => by unfold spC; rw [List.mem_filter, decide_eq_true_eq]
  have fwd : ∀ {p : Str × Int}, p ∈ posP cs nb → (p.1, tvC nb p.1) ∈ spC nb := fun {p} hp => by
    obtain ⟨_, g⟩ := posP_mem.mp hp
    by_cases q : p.1 ∈ nb.map (·.1)
    · obtain ⟨y, hy, e⟩ := List.mem_map.mp q
      have := tvC_of ndb hy
      rw [e] at this
      rw [this] at g ⊢
      exact mem.mpr ⟨by rw [← e]; exact hy, g⟩
    · rw [tvC_not q] at g
      omega
  have bwd : ∀ {x : Str × Int}, x ∈ spC nb → (x.1, tvC cs x.1) ∈ posP cs nb ∧ tvC nb x.1 = x.2 := fun {x} hx => by
    obtain ⟨a, b⟩ := mem.mp hx
    have e := tvC_of ndb a
    obtain ⟨q, hq, eq⟩ := List.mem_map.mp (hin x a)
    have e2 := tvC_of nd hq
    rw [eq] at e2
    exact ⟨posP_mem.mpr ⟨by rw [e2, ← eq]; exact hq, by show 0 < tvC nb x.1; omega⟩, e⟩
  have csv : ∀ {p : Str × Int}, p ∈ cs → tvC cs p.1 = p.2 := fun {p} hp => tvC_of nd hp
  have tnn : ∀ p ∈ cs, 0 < tvC nb p.1 ∨ tvC nb p.1 ≤ 0 := fun p _ => by omega
  refine ⟨fun e => ?_, fun x e => ?_, fun e => ?_⟩
  · have hp : posP cs nb = [] := List.eq_nil_iff_forall_not_mem.mpr fun p hp => by
      have := fwd hp
      rw [e] at this
      cases this
    constructor
    · exact fun h => h.2.1 hp
    · intro s
      refine ⟨fun p hpc => ?_, fun _ => s, fun p z => by rw [hp] at z; cases z⟩
      rcases tnn p hpc with g | g
      · have : p ∈ posP cs nb := posP_mem.mpr ⟨hpc, g⟩
        rw [hp] at this
        cases this
      · have := hv p hpc
        omega
  · have hx : x ∈ spC nb := by rw [e]; exact List.mem_cons_self
    obtain ⟨b1, b2⟩ := bwd hx
    have only : ∀ p ∈ posP cs nb, p = (x.1, tvC cs x.1) := fun p hp => by
      have := fwd hp
      rw [e] at this
      have e1 := congrArg (·.1) (List.mem_singleton.mp this)
      have e1 : p.1 = x.1 := e1
      have e2 := csv (posP_mem.mp hp).1
      rw [← e1, e2]
    have hp : posP cs nb = [(x.1, tvC cs x.1)] := by
      have hsub : ((posP cs nb).map (·.1)).Sublist (cs.map (·.1)) := List.Sublist.map _ List.filter_sublist
      have hnp := hsub.nodup nd
      cases h : posP cs nb with
      | nil => rw [h] at b1; cases b1
      | cons p r =>
        have ep := only p (by rw [h]; exact List.mem_cons_self)
        cases r with
        | nil => rw [ep]
        | cons q r =>
          have eq := only q (by rw [h]; exact List.mem_cons_of_mem _ List.mem_cons_self)
          rw [h, List.map_cons, List.map_cons, ep, eq] at hnp
          exact absurd List.mem_cons_self (List.nodup_cons.mp hnp).1
    constructor
    · intro h
      have := h.2.2 _ hp
      simp only at this
      rw [← b2]
      exact this
    · intro g
      refine ⟨fun p hpc => ?_, (fun z => by rw [hp] at z; cases z), fun p z => ?_⟩
      · rcases tnn p hpc with k | k
        · have := only p (posP_mem.mpr ⟨hpc, k⟩)
          have e1 : p.1 = x.1 := congrArg (·.1) this
          have e2 := csv hpc
          rw [e1] at e2 ⊢
          rw [b2, g, e2]
          exact Int.le_refl _
        · have := hv p hpc
          omega
      · rw [hp] at z
        cases z
        show tvC nb x.1 = tvC cs x.1
        rw [b2, g]
  · have hne : posP cs nb ≠ [] := fun z => by
      cases h : spC nb with
      | nil => rw [h] at e; exact absurd e (by decide)
      | cons x r =>
        have := (bwd (x := x) (by rw [h]; exact List.mem_cons_self)).1
        rw [z] at this
        cases this
    have hn1 : ∀ p, posP cs nb ≠ [p] := fun p z => by
      have hsp : ((spC nb).map (·.1)).Nodup := (List.Sublist.map _ List.filter_sublist).nodup ndb
      cases h : spC nb with
      | nil => rw [h] at e; exact absurd e (by decide)
      | cons x r => cases r with
        | nil => rw [h] at e; exact absurd e (by simp)
        | cons y r =>
          have a := (bwd (x := x) (by rw [h]; exact List.mem_cons_self)).1
          have b := (bwd (x := y) (by rw [h]; exact List.mem_cons_of_mem _ List.mem_cons_self)).1
          rw [z] at a b
          have e1 : x.1 = p.1 := congrArg (·.1) (List.mem_singleton.mp a)
          have e2 : y.1 = p.1 := congrArg (·.1) (List.mem_singleton.mp b)
          rw [h, List.map_cons, List.map_cons, e1, e2] at hsp
          exact absurd List.mem_cons_self (List.nodup_cons.mp hsp).1
    constructor
    · intro h x hx g
      obtain ⟨b1, b2⟩ := bwd hx
      have := h.1 _ (posP_mem.mp b1).1
      simp only at this
      omega
    · intro h
      refine ⟨fun p hpc => ?_, fun z => absurd z hne, fun p z => absurd z (hn1 p)⟩
      rcases tnn p hpc with k | k
      · have := h _ (fwd (posP_mem.mpr ⟨hpc, k⟩))
        simp only at this
        rw [csv hpc] at this
        omega
      · have := hv p hpc
        omega

end Pg

namespace Pg
open PySem L2 Y PyProof.Rows

local macro_rules | `(tactic| walk_at "vis") => `(tactic| first | exact Or.inl rfl | exact Or.inr (Or.inl rfl) | exact Or.inr (Or.inr rfl))
local macro_rules | `(tactic| walk_at "e1") => `(tactic| first | walk_at "nm" | refine de_int ?_ | refine de_add ?_ | refine de_sub ?_ | refine de_str ?_ | refine de_non ?_ | refine de_bl ?_)
local macro_rules | `(tactic| walk_at "go") => `(tactic| repeat (first | ((with_reducible show DE _ _ _ _ _ _); walk_at "e1") | ((with_reducible show DA _ _ _ _ _ _); refine da_cons ?_) | refine ⟨_, _, rfl, rfl, ?_⟩))


theorem fitXs_map {α : Type} (f : α → PyData) : ∀ c : List α, (∀ x ∈ c, fitX (f x) = true) → fitXs (c.map f) = true
  | [], _ => by simp [fitXs]
  | x :: r, h => by rw [List.map_cons]; simp only [fitXs, h x List.mem_cons_self, fitXs_map f r fun y hy => h y (List.mem_cons_of_mem _ hy), Bool.and_self]
theorem small_name {z : Str} (h : okName z = true) : small z = true := by
  unfold okName at h
  simp only [Bool.and_eq_true, decide_eq_true_eq] at h
  have h1 : Txt.isascii z = true := h.2.2.1
  have h2 := h.2.1
  unfold small
  rw [h1, decide_eq_true (by omega)]
  rfl
theorem fit_cnt {cs : Cnt} (h : okCnt cs) : fitX (eCnt cs) = true := by
  have : ∀ l : Cnt, (∀ p ∈ l, okName p.1 = true ∧ 0 ≤ p.2 ∧ p.2 ≤ 10 ^ 30) → fitXk (encK (kdC l)) = true := fun l => by
    induction l with
    | nil => intro _; rfl
    | cons p r ih =>
      intro h
      obtain ⟨o1, o2, o3⟩ := h p List.mem_cons_self
      have e : encK (kdC (p :: r)) = (.str p.1, .int p.2) :: encK (kdC r) := rfl
      rw [e]
      simp only [fitXk, fitX, small_name o1, ih fun x hx => h x (List.mem_cons_of_mem _ hx), Bool.true_and, Bool.and_true, decide_eq_true_eq]
      omega
  unfold eCnt
  simp only [fitX]
  exact this cs h.2.2.2
theorem wt_cnt (cs : Cnt) : wtX (eCnt cs) = 1 + 2 * cs.length := by
  have : ∀ l : Cnt, wtXk (encK (kdC l)) = 2 * l.length := fun l => by
    induction l with
    | nil => rfl
    | cons p r ih =>
      have e : encK (kdC (p :: r)) = (.str p.1, .int p.2) :: encK (kdC r) := rfl
      rw [e]
      simp only [wtXk, wtX, ih, List.length_cons]
      omega
  unfold eCnt
  simp only [wtX, this]
theorem depth_cnt (cs : Cnt) : (eCnt cs).depth ≤ 1 := by
  have : ∀ l : Cnt, PyData.depthKv (encK (kdC l)) = 0 := fun l => by
    induction l with
    | nil => rfl
    | cons p r ih =>
      have e : encK (kdC (p :: r)) = (.str p.1, .int p.2) :: encK (kdC r) := rfl
      rw [e]
      simp only [PyData.depthKv, PyData.depth, ih]
      rfl
  unfold eCnt
  simp only [PyData.depth, this]
  omega
/-- [line counts, content] -/
theorem fit_any {t : Cnt} (h : ∀ p ∈ t, okName p.1 = true ∧ 0 ≤ p.2 ∧ p.2 ≤ 10 ^ 30) : fitX (eCnt t) = true := by
  have : ∀ l : Cnt, (∀ p ∈ l, okName p.1 = true ∧ 0 ≤ p.2 ∧ p.2 ≤ 10 ^ 30) → fitXk (encK (kdC l)) = true := fun l => by
    induction l with
    | nil => intro _; rfl
    | cons q r ih =>
      intro hq
      have a := hq q List.mem_cons_self
      show (fitX (.str q.1) && fitX (.int q.2) && fitXk (encK (kdC r))) = true
      rw [ih fun x hx => hq x (List.mem_cons_of_mem _ hx)]
      simp only [fitX, small_name a.1, Bool.true_and, Bool.and_true, decide_eq_true_eq]
      omega
  unfold eCnt
  simp only [fitX]
  exact this t h
def threeD (a b c : Cnt) : PyData := .list [eCnt a, eCnt b, eCnt c]
theorem fit_three {a b c : Cnt} (ha : fitX (eCnt a) = true) (hb : fitX (eCnt b) = true) (hc : fitX (eCnt c) = true) : fitX (threeD a b c) = true := by
  unfold threeD
  simp only [fitX, fitXs, ha, hb, hc, Bool.and_self]
theorem wt_three (a b c : Cnt) : wtX (threeD a b c) = 4 + 2 * a.length + 2 * b.length + 2 * c.length := by
  unfold threeD
  simp only [wtX, wtXs, wt_cnt]
  omega
theorem depth_three (a b c : Cnt) : (threeD a b c).depth ≤ 60 := by
  have h1 := depth_cnt a
  have h2 := depth_cnt b
  have h3 := depth_cnt c
  unfold threeD
  simp only [PyData.depth, PyData.depthAll]
  omega
theorem strs_shaped (zs : List Str) (h : ∀ z ∈ zs, okName z = true) : SeqAt.shaped (.list (zs.map PyData.str)) = true := shaped_list PyData.str zs 0 (by decide) (fun z hz => strOk_name (h z hz)) (fun _ _ => Nat.le_refl 0)
section
variable {P : Program} {w : World} {K : PySem.W.Frag} {mg : Str → Option Value} {base : Heap}

local macro_rules | `(tactic| walk_at "nm") => `(tactic| first | ((with_reducible refine de_name (x := "source") (i := 0) (s := ?s) ?hN ?hv ?ht ?q ?hd ?hcd); (case hN => rfl); (case hv => walk_at "vis"); (case ht => rfl); (case hd => decide); (case hcd => decide)) | ((with_reducible refine de_name (x := "counts") (i := 1) (s := ?s) ?hN ?hv ?ht ?q ?hd ?hcd); (case hN => rfl); (case hv => walk_at "vis"); (case ht => rfl); (case hd => decide); (case hcd => decide)) | ((with_reducible refine de_name (x := "some") (i := 2) (s := ?s) ?hN ?hv ?ht ?q ?hd ?hcd); (case hN => rfl); (case hv => walk_at "vis"); (case ht => rfl); (case hd => decide); (case hcd => decide)) | ((with_reducible refine de_name (x := "numbers") (i := 3) (s := ?s) ?hN ?hv ?ht ?q ?hd ?hcd); (case hN => rfl); (case hv => walk_at "vis"); (case ht => rfl); (case hd => decide); (case hcd => decide)) | ((with_reducible refine de_name (x := "sparse") (i := 4) (s := ?s) ?hN ?hv ?ht ?q ?hd ?hcd); (case hN => rfl); (case hv => walk_at "vis"); (case ht => rfl); (case hd => decide); (case hcd => decide)) | ((with_reducible refine de_name (x := "before") (i := 5) (s := ?s) ?hN ?hv ?ht ?q ?hd ?hcd); (case hN => rfl); (case hv => walk_at "vis"); (case ht => rfl); (case hd => decide); (case hcd => decide)) | ((with_reducible refine de_name (x := "answers") (i := 6) (s := ?s) ?hN ?hv ?ht ?q ?hd ?hcd); (case hN => rfl); (case hv => walk_at "vis"); (case ht => rfl); (case hd => decide); (case hcd => decide)) | ((with_reducible refine de_name (x := "lines") (i := 7) (s := ?s) ?hN ?hv ?ht ?q ?hd ?hcd); (case hN => rfl); (case hv => walk_at "vis"); (case ht => rfl); (case hd => decide); (case hcd => decide)) | ((with_reducible refine de_name (x := "name") (i := 8) (s := ?s) ?hN ?hv ?ht ?q ?hd ?hcd); (case hN => rfl); (case hv => walk_at "vis"); (case ht => rfl); (case hd => decide); (case hcd => decide)) | ((with_reducible refine de_name (x := "many") (i := 9) (s := ?s) ?hN ?hv ?ht ?q ?hd ?hcd); (case hN => rfl); (case hv => walk_at "vis"); (case ht => rfl); (case hd => decide); (case hcd => decide)))


def R_smallH : Rr := fun L ss M Q => ∃ (x : Sl) (cs : Cnt), NoDK L ∧ ss = [x, .d (eCnt cs)] ∧ okCnt cs ∧ sumC cs ≤ 5 ∧ cs.length ≤ 4 ∧ ∀ M', Sub M M' → Q (.d (.bool true)) M'
set_option maxHeartbeats 4000000 in
theorem ok_law_small_holds (S : Sys base) (F : FunAt K mg "_law_small_holds" s__law_small_holds ["source", "counts"]) (c1 : Cal P w K mg base "_law_line_table" 1 ["counts", "lines"] R_linetab) (c2 : Cal P w K mg base "_law_all_final" 2 ["counts"] R_all) (c3 : Cal P w K mg base "_law_tables" 1 ["counts"] R_tables) (c4 : Cal P w K mg base "can_survive_counts" 5 ["line_counts", "survivor_counts"] R_surv) (b1 : mg "dict" = none) (b2 : mg "repr" = none) : CalG P w K mg base "_law_small_holds" 6 ["source", "counts"] R_smallH := by
  refine calG_of F sc__law_small_holds (fun _ ss _ _ ⟨x, cs, _, h, _⟩ => by rw [h]; rfl) (fun f cdv A outer s H E L us M Q hr noG h => ?_)
  obtain ⟨x0, cs, hL, rfl, okc, hsum, l4, fin⟩ := h
  have nd := okc.2.2.1
  have hnn : ∀ p ∈ cs, 0 ≤ p.2 := fun p hp => (okc.2.2.2 p hp).2.1
  have l12 := okc.2.1
  refine db_cons (ds_setLc0 (i := 2) (own := [("lines", 7)]) (g := gName 7) rfl sc__law_small_holds.nd rfl rfl (by with_unfolding_all rfl) (blkOk_by (own := [("lines", 7)]) (N := ["source", "counts", "some", "numbers", "sparse", "before", "answers", "lines", "name", "many"]) (sc := defScope s__law_small_holds) (by decide +kernel)) (fun _ _ _ _ _ => pg_name (i := 7) sc__law_small_holds.nd rfl (.inl rfl)) (di_seq (de_callC (c2.up (by decide)) hr (by rfl) ?_)))
  walk_at "go"
  refine da_nil ⟨cs, hL, rfl, okc, hsum, fun rs pq M1 sub1 hpq mpq hrl hfin hr5 => ?_⟩
  refine ⟨rs.map sLs, by simp only [seqOf, mpq], fun D hD => ?_⟩
  have nqD : pq ≠ D := neC mpq hD
  have hDM := sub1.none hD
  refine ⟨fun j M' => Sub M M' ∧ M' pq = some (.l (rs.map sLs)) ∧ M' D = some (.l (((rs.take j).map (lineT cs)).map sCnt)), ⟨sub_put sub1 hDM, by rw [updC_ne nqD]; exact mpq, by rw [updC_same, List.take_zero]; rfl⟩, ?_, ?_, ?_⟩
  · rintro j M' ⟨_, m2q, _⟩
    simp only [seqOf, m2q]
  · rintro j y M2 hj hy ⟨sub2, m2q, m2D⟩
    rw [List.length_map] at hj
    have hy' : y = sLs rs[j] := by
      rw [List.getElem?_map, List.getElem?_eq_getElem hj] at hy
      exact (Option.some.inj hy).symm
    subst hy'
    have hr5j := hr5 _ (List.getElem_mem hj)
    refine wgw_name (by simp) ?_
    intro s0 H0 C cl fp
    refine de_callC (c1.up (by decide)) hr (by rfl) (da_cons ?_)
    walk_at "nm"
    refine da_cons ?_
    walk_at "nm"
    refine da_nil ⟨cs, rs[j], hL, rfl, nd, by omega, by omega, fun M3 sub3 => ⟨_, sub3 _ _ m2D, ?_, sub_put (Sub.trans sub2 sub3) hDM, by rw [updC_ne nqD]; exact sub3 _ _ m2q, ?_⟩⟩
    · rw [List.length_map, List.length_map, List.length_take, sizeLine_eq]
      omega
    · rw [updC_same, List.take_add_one, List.getElem?_eq_getElem hj, List.map_append, List.map_append]
      rfl
  rintro M2 ⟨sub2, m2q, m2D⟩
  rw [List.length_map, List.take_length] at m2D
  clear m2q
  refine db_cons (ds_for PassesOwn.never rfl (di_seq (de_callC (c3.up (by decide)) hr (by rfl) ?_)))
  walk_at "go"
  refine da_nil ⟨cs, hL, rfl, okc, fun p hp => Int.le_trans (sumC_ge hnn p hp) hsum, l4, fun ts pt M3 sub3 hpt m3t tabs htl => ?_⟩
  have m3D := sub3 _ _ m2D
  have sub03 := Sub.trans sub2 sub3
  have hptM := sub2.none hpt
  refine ⟨ts.map sCnt, by simp only [seqOf, m3t], ?_⟩
  refine ⟨fun i τ' M' => ∃ (y3 y4 y5 y6 y7 y8 y9 : Option Sl), τ' = [some x0, some (.d (eCnt cs)), some (.c D), y3, y4, y5, y6, y7, y8, y9] ∧ Sub M M' ∧ M' pt = some (.l (ts.map sCnt)) ∧ M' D = some (.l ((rs.map (lineT cs)).map sCnt)), ⟨_, _, _, _, _, _, _, rfl, sub03, m3t, m3D⟩, ?_, ?_, ?_⟩
  · rintro i τ' M' ⟨y3, y4, y5, y6, y7, y8, y9, rfl, _, m4t, _⟩
    simp only [seqOf, m4t]
  · rintro i y τ' M4 hi hy ⟨y3, y4, y5, y6, y7, y8, y9, rfl, sub4, m4t, m4D⟩
    rw [List.length_map] at hi
    have hy' : y = sCnt ts[i] := by
      rw [List.getElem?_map, List.getElem?_eq_getElem hi] at hy
      exact (Option.some.inj hy).symm
    subst hy'
    obtain ⟨tk, tv⟩ := tabs _ (List.getElem_mem hi)
    generalize ts[i] = t at tk tv
    have ndt : (t.map (·.1)).Nodup := by rw [tk]; exact nd
    have htl4 : t.length ≤ 4 := by
      have := congrArg List.length tk
      rw [List.length_map, List.length_map] at this
      omega
    have htn : ∀ p ∈ t, okName p.1 = true ∧ p.1 ∈ cs.map (·.1) ∧ 0 ≤ p.2 ∧ p.2 ≤ 10 ^ 30 := fun p hp => by
      have h1 : p.1 ∈ cs.map (·.1) := by rw [← tk]; exact List.mem_map_of_mem hp
      obtain ⟨q, hq, e⟩ := List.mem_map.mp h1
      refine ⟨by rw [← e]; exact (okc.2.2.2 q hq).1, h1, (tv p hp).1, Int.le_trans (tv p hp).2 (by decide)⟩
    have okt : okTab cs t := ⟨ndt, htn⟩
    have sps : (spC t).Sublist t := List.filter_sublist
    have oks : okTab cs (spC t) := ⟨(List.Sublist.map _ sps).nodup ndt, fun p hp => htn p (sps.subset hp)⟩
    have spl : (spC t).length ≤ 4 := Nat.le_trans sps.length_le htl4
    have hiff : SurvP cs (spC t) ↔ SurvP cs t := surv_congr (spC_val ndt fun p hp => (htn p hp).2.2.1)
    have hmem := in_tabs okc tk (fun p hp => (htn p hp).2.2.1) hfin
    have fits := fit_three (fit_cnt okc) (fit_any fun p hp => ⟨(htn p hp).1, (htn p hp).2.2⟩) (fit_any (t := spC t) fun p hp => ⟨(oks.2 p hp).1, (oks.2 p hp).2.2⟩)
    have wts : wtX (threeD cs t (spC t)) ≤ 20000 := by rw [wt_three]; omega
    refine dg_of (pg_name (i := 3) sc__law_small_holds.nd rfl (.inl rfl)) (wg_name ?_)
    refine db_cons (ds_set (i := 4) sc__law_small_holds.nd rfl (.inl rfl) (de_frzK (de_callT (call_dictP rfl) (by rfl) b1 bt_dict (da_cons (de_lcItems (i := 3) (kd := kdC t) (own := [("name", 8), ("many", 9)]) (g := gTup K 2 (gCons (gName 8) (gCons (gName 9) gNil))) rfl sc__law_small_holds.nd (blkOk_by (own := [("name", 8), ("many", 9)]) (N := ["source", "counts", "some", "numbers", "sparse", "before", "answers", "lines", "name", "many"]) (sc := defScope s__law_small_holds) (by decide +kernel)) (fun _ _ _ _ _ => pg_tup rfl (pgs_cons (pg_name (i := 8) sc__law_small_holds.nd rfl (.inl rfl)) (pgs_cons (pg_name (i := 9) sc__law_small_holds.nd rfl (.inl rfl)) pgs_nil))) hL rfl (by walk_at "vis") rfl fun D5 hD5 => ?_)))))
    have hD5M := sub4.none hD5
    have n5t : pt ≠ D5 := neC m4t hD5
    have n5D : D ≠ D5 := neC m4D hD5
    refine ⟨fun n M' => M' = updC M4 D5 (.l ((kdC (spC (t.take n))).map Y.prD)), rfl, fun x hx n k d M' hn hM => ?_, fun M' hM => ?_⟩
    · subst hM
      unfold kdC at hn
      rw [List.getElem?_map] at hn
      obtain ⟨p, hpz, epz⟩ := Option.map_eq_some_iff.mp hn
      cases epz
      have hend : spC (t.take (n + 1)) = spC (t.take n) ++ (if 0 < p.2 then [p] else []) := by
        unfold spC
        rw [List.take_add_one, hpz, List.filter_append]
        congr 1
        show List.filter (fun p : Str × Int => decide (0 < p.2)) [p] = _
        by_cases e : 0 < p.2
        · rw [if_pos e, List.filter_cons, if_pos (decide_eq_true e)]; rfl
        · rw [if_neg e, List.filter_cons, if_neg (fun q => e (of_decide_eq_true q))]; rfl
      have hsl : (spC (t.take n)).length ≤ 4 := by
        have h1 : (spC (t.take n)).length ≤ (t.take n).length := List.length_filter_le _ _
        rw [List.length_take] at h1
        omega
      refine wgw_tup rfl rfl rfl (wgws_cons (wgw_name (by simp) (wgws_cons (wgw_name (by simp) (wgws_nil ?_)))))
      intro s0 H0 C cl fp
      refine dt_cmp op_gt ?_ (by with_unfolding_all rfl)
      walk_at "nm"
      refine de_int (k_bool ⟨_, rfl, fun h => ?_, fun h => ?_⟩)
      · have h := of_decide_eq_true h
        intro s0 H0 C cl fp
        refine de_tupD (da_cons ?_)
        walk_at "nm"
        refine da_cons ?_
        walk_at "nm"
        refine da_nil ⟨[.str p.1, .int p.2], rfl, (by show 2 ≤ sizeLine; decide), _, updC_same, ?_, ?_⟩
        · unfold kdC
          rw [List.length_map, List.length_map, sizeLine_eq]
          omega
        · show updC _ _ _ = updC _ _ _
          rw [updC_updC, hend, if_pos h]
          unfold kdC
          rw [List.map_append, List.map_append]
          rfl
      · have h := of_decide_eq_false h
        show updC _ _ _ = updC _ _ _
        rw [hend, if_neg h, List.append_nil]
    subst hM
    have hkl : (kdC t).length = t.length := by unfold kdC; rw [List.length_map]
    rw [hkl, List.take_length]
    have sub5 : Sub M (updC M4 D5 (.l ((kdC (spC t)).map Y.prD))) := sub_put sub4 hD5M
    have m5t : updC M4 D5 (.l ((kdC (spC t)).map Y.prD)) pt = some (.l (ts.map sCnt)) := by rw [updC_ne n5t]; exact m4t
    have m5D : updC M4 D5 (.l ((kdC (spC t)).map Y.prD)) D = some (.l ((rs.map (lineT cs)).map sCnt)) := by rw [updC_ne n5D]; exact m4D
    have m55 : updC M4 D5 (.l ((kdC (spC t)).map Y.prD)) D5 = some (.l ((kdC (spC t)).map Y.prD)) := updC_same
    generalize updC M4 D5 (.l ((kdC (spC t)).map Y.prD)) = M5 at sub5 m5t m5D m55
    refine da_nil (k_dictP (kd := kdC (spC t)) rfl (by simp only [seqOf, m55]) fun p6 hp6 => ⟨p6, kdC (spC t), rfl, by rw [updC_same, merge_cnt oks.1], ?_⟩)
    rw [delC_updC hp6]
    refine db_cons (ds_set (i := 5) sc__law_small_holds.nd rfl (.inl rfl) (de_callB (call_showX S noG hr.units) (by rfl) b2 bt_repr (da_cons (de_lstD (da_cons ?_)))))
    walk_at "nm"
    refine da_cons ?_
    walk_at "nm"
    refine da_cons ?_
    walk_at "nm"
    refine da_nil ⟨[eCnt cs, eCnt t, eCnt (spC t)], rfl, (by show 3 ≤ sizeLine; decide), da_nil (k_showX (d := threeD cs t (spC t)) (.d _) rfl fits wts (depth_three _ _ _) ?_)⟩
    refine db_cons (ds_set (i := 6) sc__law_small_holds.nd rfl (.inl rfl) (de_lstD (da_cons (de_callC (c4.up (by decide)) hr (by rfl) (da_cons ?_)))))
    walk_at "nm"
    refine da_cons ?_
    walk_at "nm"
    refine da_nil ⟨cs, t, hL, rfl, okc, okt, fun a1 ha1 => da_cons (de_callC (c4.up (by decide)) hr (by rfl) (da_cons ?_))⟩
    walk_at "nm"
    refine da_cons ?_
    walk_at "nm"
    refine da_nil ⟨cs, spC t, hL, rfl, okc, oks, fun a2 ha2 => da_nil ⟨[.bool a1, .bool a2], rfl, (by show 2 ≤ sizeLine; decide), ?_⟩⟩
    refine db_cons (ds_if (dt_or2 (dt_cmp op_ne (de_callB (call_showX S noG hr.units) (by rfl) b2 bt_repr (da_cons ?_)) (by with_unfolding_all rfl))))
    walk_at "nm"
    refine da_nil (k_showX (d := .list [.bool a1, .bool a2]) (.d _) rfl rfl (by simp [wtX, wtXs]) (by simp [PyData.depth, PyData.depthAll]) (de_callB (call_showX S noG hr.units) (by rfl) b2 bt_repr (da_cons (de_rep2 (de_lstC (da_cons (de_cmp (op_inM (hu_of hr)) ?_ (by with_unfolding_all rfl))))))))
    walk_at "nm"
    walk_at "nm"
    refine k_inC (ds := rs.map (lineT cs)) rfl (by simp only [seqOf, m5D]; rfl) ndt (da_nil ⟨(by show 1 ≤ sizeLine; decide), fun p7 hp7 => de_int ⟨p7, _, rfl, rfl, updC_same, fun p8 hp8 => ?_⟩⟩)
    have ea : a1 = ((rs.map (lineT cs)).any fun d => eqC d t) ∧ a2 = a1 := by
      have h1 : a1 = true ↔ ((rs.map (lineT cs)).any fun d => eqC d t) = true := ha1.trans hmem.symm
      have h2 : a2 = true ↔ a1 = true := ha2.trans (hiff.trans ha1.symm)
      refine ⟨?_, ?_⟩
      · cases a1 <;> cases g : ((rs.map (lineT cs)).any fun d => eqC d t) <;> first | rfl | (rw [g] at h1; simp at h1)
      · cases a1 <;> cases a2 <;> first | rfl | simp at h2
    obtain ⟨ea1, ea2⟩ := ea
    subst ea2
    rw [← ea1]
    have sub6 : Sub M5 (updC M5 p7 (.l [.d (.bool a2)])) := (Sub.refl _).new hp7
    have hb7 : updC (updC M5 p7 (.l [.d (.bool a2)])) p8 (.l [.d (.bool a2), .d (.bool a2)]) p8 = some (.l [.d (.bool a2), .d (.bool a2)]) := updC_same
    rw [← ea1] at hp8
    have sub7 : Sub M5 (updC (updC M5 p7 (.l [.d (.bool a2)])) p8 (.l [.d (.bool a2), .d (.bool a2)])) := Sub.trans sub6 ((Sub.refl _).new hp8)
    generalize updC (updC M5 p7 (.l [.d (.bool a2)])) p8 (.l [.d (.bool a2), .d (.bool a2)]) = M8 at sub7 hb7
    refine da_nil (k_showX (d := .list [.bool a2, .bool a2]) (IsX.cell hb7) rfl rfl (by simp [wtX, wtXs]) (by simp [PyData.depth, PyData.depthAll]) (k_neS ?_))
    rw [decide_eq_true rfl]
    refine ⟨_, rfl, no1, fun _ => dt_cmp op_ne (de_callB (call_showX S noG hr.units) (by rfl) b2 bt_repr (da_cons (de_lstD (da_cons ?_)))) (by with_unfolding_all rfl)⟩
    walk_at "nm"
    refine da_cons ?_
    walk_at "nm"
    refine da_cons ?_
    walk_at "nm"
    refine da_nil ⟨[eCnt cs, eCnt t, eCnt (spC t)], rfl, (by show 3 ≤ sizeLine; decide), da_nil (k_showX (d := threeD cs t (spC t)) (.d _) rfl fits wts (depth_three _ _ _) ?_)⟩
    walk_at "nm"
    refine k_neS ?_
    rw [decide_eq_true rfl]
    exact ⟨_, rfl, no1, fun _ => db_nil (db_nil ⟨_, _, _, _, _, _, _, rfl, Sub.trans sub5 sub7, sub7 _ _ m5t, sub7 _ _ m5D⟩)⟩
  · rintro τ' M4 ⟨y3, y4, y5, y6, y7, y8, y9, rfl, sub4, _, _⟩
    exact db_cons (ds_ret (de_bl (fin M4 sub4)))

end

end Pg

namespace Pg
open PySem L2 Y PyProof.Rows

local macro_rules | `(tactic| walk_at "vis") => `(tactic| first | exact Or.inl rfl | exact Or.inr (Or.inl rfl) | exact Or.inr (Or.inr rfl))
local macro_rules | `(tactic| walk_at "e1") => `(tactic| first | walk_at "nm" | refine de_int ?_ | refine de_add ?_ | refine de_sub ?_ | refine de_str ?_ | refine de_non ?_ | refine de_bl ?_)
local macro_rules | `(tactic| walk_at "go") => `(tactic| repeat (first | ((with_reducible show DE _ _ _ _ _ _); walk_at "e1") | ((with_reducible show DA _ _ _ _ _ _); refine da_cons ?_) | refine ⟨_, _, rfl, rfl, ?_⟩))


theorem spC_take {t : Cnt} {n : Nat} {p : Str × Int} (h : t[n]? = some p) : spC (t.take (n + 1)) = spC (t.take n) ++ (if 0 < p.2 then [p] else []) := by
  unfold spC
  rw [List.take_add_one, h, List.filter_append]
  congr 1
  show List.filter (fun p : Str × Int => decide (0 < p.2)) [p] = _
  by_cases e : 0 < p.2
  · rw [if_pos e, List.filter_cons, if_pos (decide_eq_true e)]; rfl
  · rw [if_neg e, List.filter_cons, if_neg (fun q => e (of_decide_eq_true q))]; rfl
theorem filt_take {t : Cnt} {n : Nat} {p : Str × Int} (f : Str × Int → Bool) (h : t[n]? = some p) : (t.take (n + 1)).filter f = (t.take n).filter f ++ (if f p = true then [p] else []) := by
  rw [List.take_add_one, h, List.filter_append]
  congr 1
  show List.filter f [p] = _
  rw [List.filter_cons]
  rfl
theorem surv_no : ¬ SurvP [("a", 2), ("b", 2)] [("a", 1)] := fun h => by
  have := h.2.2 ("a", 2) (by decide +kernel)
  exact absurd this (by decide +kernel)
theorem surv_yes : SurvP [("a", 1), ("b", 2)] [("a", 1)] := by
  refine ⟨fun p hp => ?_, fun e => absurd e (by decide +kernel), fun p e => ?_⟩
  · rcases List.mem_cons.mp hp with rfl | hp
    · decide +kernel
    · rw [List.mem_singleton.mp hp]
      decide +kernel
  · have e1 : posP ([("a", 1), ("b", 2)] : Cnt) ([("a", 1)] : Cnt) = ([("a", 1)] : Cnt) := by decide +kernel
    rw [e1] at e
    cases e
    decide +kernel
theorem nameA : okName "a" = true := by decide +kernel
theorem nameB : okName "b" = true := by decide +kernel
theorem cnt22 : okCnt [("a", 2), ("b", 2)] := ⟨by decide, by decide, by decide +kernel, fun p hp => by
  rcases List.mem_cons.mp hp with rfl | hp
  · exact ⟨nameA, by decide, by decide⟩
  · rw [List.mem_singleton.mp hp]; exact ⟨nameB, by decide, by decide⟩⟩
theorem cnt12 : okCnt [("a", 1), ("b", 2)] := ⟨by decide, by decide, by decide +kernel, fun p hp => by
  rcases List.mem_cons.mp hp with rfl | hp
  · exact ⟨nameA, by decide, by decide⟩
  · rw [List.mem_singleton.mp hp]; exact ⟨nameB, by decide, by decide⟩⟩
theorem tab1 {v w : Int} : okTab [(("a" : Str), v), (("b" : Str), w)] [(("a" : Str), (1 : Int))] := ⟨by simp, fun p hp => by
  rw [List.mem_singleton.mp hp]
  exact ⟨nameA, by simp, by decide, by decide⟩⟩
section
variable {P : Program} {w : World} {K : PySem.W.Frag} {mg : Str → Option Value} {base : Heap}

local macro_rules | `(tactic| walk_at "nm") => `(tactic| first | ((with_reducible refine de_name (x := "source") (i := 0) (s := ?s) ?hN ?hv ?ht ?q ?hd ?hcd); (case hN => rfl); (case hv => walk_at "vis"); (case ht => rfl); (case hd => decide); (case hcd => decide)) | ((with_reducible refine de_name (x := "counts") (i := 1) (s := ?s) ?hN ?hv ?ht ?q ?hd ?hcd); (case hN => rfl); (case hv => walk_at "vis"); (case ht => rfl); (case hd => decide); (case hcd => decide)) | ((with_reducible refine de_name (x := "numbers") (i := 2) (s := ?s) ?hN ?hv ?ht ?q ?hd ?hcd); (case hN => rfl); (case hv => walk_at "vis"); (case ht => rfl); (case hd => decide); (case hcd => decide)) | ((with_reducible refine de_name (x := "name") (i := 3) (s := ?s) ?hN ?hv ?ht ?q ?hd ?hcd); (case hN => rfl); (case hv => walk_at "vis"); (case ht => rfl); (case hd => decide); (case hcd => decide)) | ((with_reducible refine de_name (x := "many") (i := 4) (s := ?s) ?hN ?hv ?ht ?q ?hd ?hcd); (case hN => rfl); (case hv => walk_at "vis"); (case ht => rfl); (case hd => decide); (case hcd => decide)) | ((with_reducible refine de_name (x := "some") (i := 5) (s := ?s) ?hN ?hv ?ht ?q ?hd ?hcd); (case hN => rfl); (case hv => walk_at "vis"); (case ht => rfl); (case hd => decide); (case hcd => decide)) | ((with_reducible refine de_name (x := "other") (i := 6) (s := ?s) ?hN ?hv ?ht ?q ?hd ?hcd); (case hN => rfl); (case hv => walk_at "vis"); (case ht => rfl); (case hd => decide); (case hcd => decide)) | ((with_reducible refine de_name (x := "there") (i := 7) (s := ?s) ?hN ?hv ?ht ?q ?hd ?hcd); (case hN => rfl); (case hv => walk_at "vis"); (case ht => rfl); (case hd => decide); (case hcd => decide)) | ((with_reducible refine de_name (x := "want") (i := 8) (s := ?s) ?hN ?hv ?ht ?q ?hd ?hcd); (case hN => rfl); (case hv => walk_at "vis"); (case ht => rfl); (case hd => decide); (case hcd => decide)))


def R_largeH : Rr := fun L ss M Q => ∃ (a : Addr) (n : Nat) (cs : Cnt), NoDK L ∧ ss = [.c a, .d (eCnt cs)] ∧ Src M a n ∧ n < 800000000 ∧ okCnt cs ∧ ∀ M', Gx a M M' → Src M' a (n + 100) → Q (.d (.bool true)) M'
set_option maxHeartbeats 4000000 in
theorem ok_law_large_holds (S : Sys base) (F : FunAt K mg "_law_large_holds" s__law_large_holds ["source", "counts"]) (c1 : Cal P w K mg base "_law_draw" 1 ["source", "many"] R_draw) (c2 : Cal P w K mg base "can_survive_counts" 5 ["line_counts", "survivor_counts"] R_surv) (b1 : mg "max" = none) (b2 : mg "min" = none) (b3 : mg "len" = none) (b4 : mg "sum" = none) (b5 : mg "list" = none) (b6 : mg "repr" = none) : CalG P w K mg base "_law_large_holds" 6 ["source", "counts"] R_largeH := by
  refine calG_of F sc__law_large_holds (fun _ ss _ _ ⟨a, n, cs, _, h, _⟩ => by rw [h]; rfl) (fun f cdv A outer s H E L us M Q hr noG h => ?_)
  obtain ⟨a, n0, cs, hL, rfl, sr, hn0, okc, fin⟩ := h
  obtain ⟨l1, l12, nd, okp⟩ := okc
  refine db_cons (ds_set (i := 2) sc__law_large_holds.nd rfl (.inr rfl) (de_dictC fun pn hpn => ?_))
  have sub_M1 : Sub M (updC M pn (.k [])) := (Sub.refl _).new hpn
  have m_pn : updC M pn (.k []) pn = some (.k []) := updC_same
  generalize updC M pn (.k []) = M1 at sub_M1 m_pn
  have pna := sr.ne hpn
  have sr1 := sr.sub sub_M1
  refine db_cons (ds_forItems (i := 1) (kd := kdC cs) PassesOwn.never rfl hL rfl (by walk_at "vis") rfl (fun n τ' M' => ∃ (nb : Cnt) (y3 y4 y5 y6 y7 y8 : Option Sl), τ' = [some (.c a), some (.d (eCnt cs)), some (.c pn), y3, y4, y5, y6, y7, y8] ∧ Gx a M M' ∧ M' pn = some (.k (slK (kdC nb))) ∧ Src M' a (n0 + 3 * n) ∧ nb.length ≤ n ∧ (nb.map (·.1)).Nodup ∧ ∀ p ∈ nb, okName p.1 = true ∧ p.1 ∈ cs.map (·.1) ∧ 0 ≤ p.2 ∧ p.2 ≤ 10 ^ 30) ⟨[], none, none, none, none, none, none, rfl, Sub.gx sub_M1, m_pn, sr1, Nat.le_refl _, List.nodup_nil, (fun _ h => nomatch h)⟩ ?_ ?_)
  · rintro x ⟨xs, hx⟩ n k d τ' M2 hn ⟨nb, y3, y4, y5, y6, y7, y8, rfl, gx2, m2n, sr2, hnl, ndb, okb⟩
    unfold kdC at hn
    rw [List.getElem?_map] at hn
    obtain ⟨⟨z, v⟩, hpz, epz⟩ := Option.map_eq_some_iff.mp hn
    obtain ⟨hlt, _⟩ := List.getElem?_eq_some_iff.mp hpz
    cases epz
    have hmem : (z, v) ∈ cs := List.mem_of_getElem? hpz
    obtain ⟨o1, v0, v1⟩ := okp _ hmem
    simp only at o1 v0 v1
    refine dg_of (pg_tup rfl (pgs_cons (pg_name (i := 3) sc__law_large_holds.nd rfl (.inl rfl)) (pgs_cons (pg_name (i := 4) sc__law_large_holds.nd rfl (.inl rfl)) pgs_nil))) (wg_tup rfl rfl rfl (wgs_cons (wg_name (wgs_cons (wg_name (wgs_nil ?_))))))
    refine db_cons ?_
    refine ds_set (i := 5) (hN := ?hN) ?a ?b ?c
    case hN => exact sc__law_large_holds.nd
    case a => rfl
    case b => exact .inl rfl
    refine de_lstD (da_cons (de_int (da_cons (de_int (da_cons (de_int (da_cons ?_)))))))
    walk_at "nm"
    refine da_cons (de_callB (call_max2 rfl) (by rfl) b1 bt_max (da_cons (de_int (da_cons (de_sub ?_)))))
    walk_at "nm"
    refine de_int ⟨_, _, rfl, rfl, da_nil (k_max2 (da_cons (de_callB (call_min2 rfl) (by rfl) b2 bt_min (da_cons (de_pow (de_int (de_int ⟨_, _, rfl, rfl, powW (k := 4) (by decide) (by decide) (by decide), da_cons (de_add ?_)⟩)))))))⟩
    walk_at "nm"
    refine de_int ⟨_, _, rfl, rfl, da_nil (k_min2 (da_cons (de_callC (c1.up (by decide)) hr (by rfl) (da_cons ?_))))⟩
    walk_at "nm"
    refine da_cons (de_add ?_)
    walk_at "nm"
    refine de_int ⟨_, _, rfl, rfl, da_nil ⟨a, _, v + 1, rfl, sr2, by omega, by omega, by omega, fun M3 r3 fr3 sr3 h30 h31 => ?_⟩⟩
    refine da_nil ⟨[.int 0, .int 0, .int 1, .int v, .int (if v - 1 > 0 then v - 1 else 0), .int (if v + 1 < 10 ^ (30 : Int).toNat then v + 1 else 10 ^ (30 : Int).toNat), .int r3], rfl, (by show 7 ≤ sizeLine; decide), ?_⟩
    refine db_cons (ds_set (i := 6) sc__law_large_holds.nd rfl (.inl rfl) (de_ix ?_))
    walk_at "nm"
    refine de_callC (c1.up (by decide)) hr (by rfl) ?_
    walk_at "go"
    refine da_nil ⟨a, _, 7, rfl, sr3, by omega, by decide, by decide, fun M4 r4 fr4 sr4 h40 h41 => ?_⟩
    have e4 : ∃ u : Int, 0 ≤ u ∧ u ≤ 10 ^ 30 ∧ atI ([.int 0, .int 0, .int 1, .int v, .int (if v - 1 > 0 then v - 1 else 0), .int (if v + 1 < 10 ^ (30 : Int).toNat then v + 1 else 10 ^ (30 : Int).toNat), .int r3].map Sl.d) r4 = some (dI u) := by
      have e30 : (10 : Int) ^ (30 : Int).toNat = 10 ^ 30 := rfl
      have c4 : r4 = 0 ∨ r4 = 1 ∨ r4 = 2 ∨ r4 = 3 ∨ r4 = 4 ∨ r4 = 5 ∨ r4 = 6 := by omega
      rcases c4 with rfl | rfl | rfl | rfl | rfl | rfl | rfl
      · exact ⟨0, by omega, by omega, rfl⟩
      · exact ⟨0, by omega, by omega, rfl⟩
      · exact ⟨1, by omega, by omega, rfl⟩
      · exact ⟨v, by omega, by omega, rfl⟩
      · exact ⟨_, by split <;> omega, by split <;> omega, rfl⟩
      · exact ⟨_, by rw [e30]; split <;> omega, by rw [e30]; split <;> omega, rfl⟩
      · exact ⟨r3, by omega, by omega, rfl⟩
    obtain ⟨u, u0, u1, eu⟩ := e4
    refine ⟨_, r4, dI u, rfl, rfl, eu, ?_⟩
    refine db_cons (ds_if (dt_cmp op_gt (de_callC (c1.up (by decide)) hr (by rfl) ?_) (by with_unfolding_all rfl)))
    walk_at "go"
    refine da_nil ⟨a, _, 4, rfl, sr4, by omega, by decide, by decide, fun M5 r5 fr5 sr5 h50 h51 => de_int (k_bool ⟨_, rfl, fun h => ?_, fun h => db_nil ?_⟩)⟩
    · have frA : Fr1 a M2 M5 := (fr3.trans fr4).trans fr5
      have m5n : M5 pn = some (.k (slK (kdC nb))) := by rw [frA pn pna]; exact m2n
      refine db_cons (ds_dput (hu_of hr) ?_)
      walk_at "nm"
      walk_at "nm"
      walk_at "nm"
      refine ⟨pn, _, .inr z, rfl, m5n, rfl, ?_, ?_⟩
      · unfold slK kdC
        rw [List.length_map, List.length_map, sizeLine_eq]
        omega
      rw [putS_put]
      have hpl := putC_len nb z u
      refine db_nil (db_nil ⟨putC nb z u, _, _, _, _, _, _, rfl, (gx2.trans frA.gx).put hpn, updC_same, (sr5.upd pna).mono (by omega), by omega, putC_nodup ndb, fun p hp => ?_⟩)
      rcases putC_mem hp with hp | rfl
      · exact okb p hp
      · exact ⟨o1, List.mem_map.mpr ⟨_, hmem, rfl⟩, u0, u1⟩
    · have frA : Fr1 a M2 M5 := (fr3.trans fr4).trans fr5
      exact db_nil ⟨nb, _, _, _, _, _, _, rfl, gx2.trans frA.gx, by rw [frA pn pna]; exact m2n, sr5.mono (by omega), by omega, ndb, okb⟩
  rintro τ' M2 ⟨nb, y3, y4, y5, y6, y7, y8, rfl, gx2, m2n, sr2, hnl, ndb, okb⟩
  have hkl : (kdC cs).length = cs.length := by unfold kdC; rw [List.length_map]
  rw [hkl] at sr2 hnl
  have sr3 : Src (delC M2 pn) a (n0 + 100) := (sr2.del pna).mono (by omega)
  have gx3 : Gx a M (delC M2 pn) := gx2.del hpn
  refine db_frzD (i := 2) (kd := kdC nb) rfl m2n ?_
  generalize delC M2 pn = M3 at sr3 gx3
  have okt : okTab cs nb := ⟨ndb, okb⟩
  obtain ⟨f1, f2, f3⟩ := surv_few nd ndb (fun p hp => (okb p hp).2.1) (fun p hp => (okb p hp).2.2.1) (fun p hp => (okp p hp).2.1)
  have hgn : ∀ {p : Str × Int}, p ∈ nb → valS (slK (kdC nb)) (.inr p.1) = some (dI p.2) := fun {p} hp => by rw [valS_C, getC_mem ndb hp]; rfl
  have hgc : ∀ {p : Str × Int}, p ∈ nb → valS (slK (kdC cs)) (.inr p.1) = some (dI (tvC cs p.1)) := fun {p} hp => by
    obtain ⟨q, hq, e⟩ := List.mem_map.mp (okb p hp).2.1
    have g := getC_mem nd hq
    rw [e] at g
    rw [valS_C, g]
    unfold tvC
    rw [g]
    rfl
  have spm : ∀ {p : Str × Int}, p ∈ spC nb → p ∈ nb := fun {p} hp => (List.filter_sublist).subset hp
  have spl : (spC nb).length ≤ 12 := by
    have h1 : (spC nb).length ≤ nb.length := List.length_filter_le _ _
    omega
  refine db_cons (ds_setLcKeys (j := 7) (i := 2) (kd := kdC nb) (own := [("name", 3)]) (g := gName 3) rfl sc__law_large_holds.nd rfl rfl (by with_unfolding_all rfl) (blkOk_by (own := [("name", 3)]) (N := ["source", "counts", "numbers", "name", "many", "some", "other", "there", "want"]) (sc := defScope s__law_large_holds) (by decide +kernel)) (fun _ _ _ _ _ => pg_name (i := 3) sc__law_large_holds.nd rfl (.inl rfl)) hL rfl (by walk_at "vis") rfl fun D hD => ?_)
  refine ⟨fun n M' => M' = updC M3 D (.l ((spC (nb.take n)).map fun p => dS p.1)), rfl, fun x hx n k d M' hn hM => ?_, fun M' hM => ?_⟩
  · subst hM
    unfold kdC at hn
    rw [List.getElem?_map] at hn
    obtain ⟨p, hpz, epz⟩ := Option.map_eq_some_iff.mp hn
    cases epz
    have hmem : p ∈ nb := List.mem_of_getElem? hpz
    have hend := spC_take hpz
    have hsl : (spC (nb.take n)).length ≤ 12 := by
      have h1 : (spC (nb.take n)).length ≤ (nb.take n).length := List.length_filter_le _ _
      rw [List.length_take] at h1
      omega
    refine wgw_name (by simp) ?_
    intro s0 H0 C cl fp
    refine dt_cmp op_gt (de_dget (hu_of hr) ?_) (by with_unfolding_all rfl)
    walk_at "nm"
    walk_at "nm"
    refine ⟨_, .inr p.1, dI p.2, .d (kdC nb), rfl, hgn hmem, de_int (k_bool ⟨_, rfl, fun h => ?_, fun h => ?_⟩)⟩
    · have h := of_decide_eq_true h
      intro s0 H0 C cl fp
      walk_at "nm"
      refine ⟨_, updC_same, by rw [List.length_map, sizeLine_eq]; omega, ?_⟩
      show updC _ _ _ = updC _ _ _
      rw [updC_updC, hend, if_pos h, List.map_append]
      rfl
    · have h := of_decide_eq_false h
      show updC _ _ _ = updC _ _ _
      rw [hend, if_neg h, List.append_nil]
  subst hM
  have hkn : (kdC nb).length = nb.length := by unfold kdC; rw [List.length_map]
  rw [hkn, List.take_length]
  have Da := sr3.ne hD
  have hDM : M D = none := gx3.none hD Da
  have sr4 := sr3.upd (c := .l ((spC nb).map fun p => dS p.1)) Da
  have gx4 := gx3.put (c := .l ((spC nb).map fun p => dS p.1)) hDM
  have m4 : updC M3 D (.l ((spC nb).map fun p => dS p.1)) D = some (.l ((spC nb).map fun p => dS p.1)) := updC_same
  generalize updC M3 D (.l ((spC nb).map fun p => dS p.1)) = M4 at sr4 gx4 m4
  refine db_cons (ds_set (i := 8) sc__law_large_holds.nd rfl (.inl rfl) (de_cmp (op_eqD hr.units) (de_lc1 (own := [("name", 3)]) (g := gName 3) rfl sc__law_large_holds.nd (blkOk_by (own := [("name", 3)]) (N := ["source", "counts", "numbers", "name", "many", "some", "other", "there", "want"]) (sc := defScope s__law_large_holds) (by decide +kernel)) (fun _ _ _ _ _ => pg_name (i := 3) sc__law_large_holds.nd rfl (.inl rfl)) (di_seq ?_)) (nomark _)))
  walk_at "nm"
  refine ⟨(spC nb).map fun p => dS p.1, by simp only [seqOf, m4], fun D2 hD2 => ?_⟩
  have n42 : D ≠ D2 := neC m4 hD2
  have D2a := sr4.ne hD2
  have hD2M := gx4.none hD2 D2a
  refine ⟨fun j M' => M' = updC M4 D2 (.l ((((spC nb).take j).filter fun p => decide (tvC cs p.1 < p.2)).map fun p => dS p.1)), by show updC M4 D2 (.l []) = updC M4 D2 (.l ((((spC nb).take 0).filter fun p => decide (tvC cs p.1 < p.2)).map fun p => dS p.1)); rw [List.take_zero]; rfl, ?_, ?_, ?_⟩
  · rintro j M' rfl
    simp only [seqOf, updC_ne n42, m4]
  · rintro j y M' hj hy rfl
    rw [List.length_map] at hj
    have hy' : y = dS (spC nb)[j].1 := by
      rw [List.getElem?_map, List.getElem?_eq_getElem hj] at hy
      exact (Option.some.inj hy).symm
    subst hy'
    have hmem := spm (List.getElem_mem hj)
    have hend := filt_take (fun p : Str × Int => decide (tvC cs p.1 < p.2)) (List.getElem?_eq_getElem hj)
    have hfl := List.length_filter_le (fun p : Str × Int => decide (tvC cs p.1 < p.2)) ((spC nb).take j)
    rw [List.length_take] at hfl
    generalize (spC nb)[j] = p at hmem hend
    refine wgw_name (by simp) ?_
    intro s0 H0 C cl fp
    refine dt_cmp op_gt (de_dget (hu_of hr) ?_) (by with_unfolding_all rfl)
    walk_at "nm"
    walk_at "nm"
    refine ⟨_, .inr p.1, dI p.2, .d (kdC nb), rfl, hgn hmem, de_dget (hu_of hr) ?_⟩
    walk_at "nm"
    walk_at "nm"
    refine ⟨_, .inr p.1, dI (tvC cs p.1), .d (kdC cs), rfl, hgc hmem, k_bool ⟨_, rfl, fun h => ?_, fun h => ?_⟩⟩
    · intro s0 H0 C cl fp
      walk_at "nm"
      refine ⟨_, updC_same, by rw [List.length_map, sizeLine_eq]; omega, ?_⟩
      show updC _ _ _ = updC _ _ _
      rw [updC_updC, hend, if_pos h, List.map_append]
      rfl
    · show updC _ _ _ = updC _ _ _
      rw [hend, if_neg (by rw [show decide (tvC cs p.1 < p.2) = false from h]; exact Bool.false_ne_true), List.append_nil]
  rintro M' rfl
  rw [List.length_map, List.take_length]
  have sr5 := sr4.upd (c := .l (((spC nb).filter fun p => decide (tvC cs p.1 < p.2)).map fun p => dS p.1)) D2a
  have gx5 := gx4.put (c := .l (((spC nb).filter fun p => decide (tvC cs p.1 < p.2)).map fun p => dS p.1)) hD2M
  have m5 : updC M4 D2 (.l (((spC nb).filter fun p => decide (tvC cs p.1 < p.2)).map fun p => dS p.1)) D = some (.l ((spC nb).map fun p => dS p.1)) := by rw [updC_ne n42]; exact m4
  have m52 : updC M4 D2 (.l (((spC nb).filter fun p => decide (tvC cs p.1 < p.2)).map fun p => dS p.1)) D2 = some (.l (((spC nb).filter fun p => decide (tvC cs p.1 < p.2)).map fun p => dS p.1)) := updC_same
  generalize updC M4 D2 (.l (((spC nb).filter fun p => decide (tvC cs p.1 < p.2)).map fun p => dS p.1)) = M5 at sr5 gx5 m5 m52
  have hws : ∀ p ∈ (spC nb).filter fun p => decide (tvC cs p.1 < p.2), okName p.1 = true := fun p hp => (okb p (spm ((List.mem_filter.mp hp).1))).1
  have s5 : seqOf M5 (.c D) = some ((spC nb).map fun p => dS p.1) := by simp only [seqOf, m5]
  generalize hwg : (spC nb).filter (fun p => decide (tvC cs p.1 < p.2)) = wg at m52 hws
  have hw0 : wg = [] ↔ ∀ x ∈ spC nb, ¬ tvC cs x.1 < x.2 := by
    rw [← hwg, List.filter_eq_nil_iff]
    constructor
    · exact fun h x hx q => h x hx (decide_eq_true q)
    · exact fun h x hx q => h x hx (of_decide_eq_true q)
  have i5 : IsD M5 (.c D2) (.list ((wg.map (·.1)).map PyData.str)) := IsD.cell (by rw [m52, List.map_map, List.map_map]; rfl)
  refine de_lstD (da_nil ⟨[], rfl, Nat.zero_le _, k_eqD i5 (.d (.list [])) (strs_shaped _ fun z hz => by obtain ⟨p, hp, rfl⟩ := List.mem_map.mp hz; exact hws p hp) (by decide +kernel) ?_⟩)
  rw [show PyData.eqv (.list ((wg.map (·.1)).map PyData.str)) (.list []) = decide (wg.map (·.1) = []) from eqv_list PyData.str eqv_str (wg.map (·.1)) []]
  have hdw : decide (wg.map (·.1) = []) = true ↔ ∀ x ∈ spC nb, ¬ tvC cs x.1 < x.2 := by
    rw [decide_eq_true_eq, List.map_eq_nil_iff]
    exact hw0
  generalize decide (wg.map (·.1) = []) = b0 at hdw
  -- the first correction
  refine db_consJ (fun τ' M' => ∃ b : Bool, τ' = [some (.c a), some (.d (eCnt cs)), some (.d (eCnt nb)), y3, y4, y5, y6, some (.c D), some (.d (.bool b))] ∧ Gx a M M' ∧ Src M' a (n0 + 100) ∧ seqOf M' (.c D) = some ((spC nb).map fun p => dS p.1) ∧ (spC nb = [] → (b = true ↔ sumC cs = 0)) ∧ (spC nb ≠ [] → b = b0)) (ds_if (dt_cmp op_eq (de_callB call_len_seq (by rfl) b3 bt_len (da_cons ?_)) (by with_unfolding_all rfl))) ?_
  · walk_at "nm"
    refine da_nil (k_len s5 (de_int (k_eqI ⟨_, rfl, fun h => ?_, fun h => db_nil ⟨b0, rfl, gx5, sr5, s5, fun e => ?_, fun _ => rfl⟩⟩)))
    · have h := of_decide_eq_true h
      rw [List.length_map] at h
      have h0 : spC nb = [] := List.length_eq_zero_iff.mp (by omega)
      refine db_cons (ds_set (i := 8) sc__law_large_holds.nd rfl (.inl rfl) (de_cmp op_eq (de_callB (cr_sum rfl) (by rfl) b4 bt_sum (da_cons (de_listV rfl (by rfl) b5 ?_))) (nomark _)))
      walk_at "nm"
      refine ⟨_, cs.map (·.2), .d (kdC cs), by unfold slK kdC; rw [List.map_map, List.map_map, List.map_map]; rfl, fun p6 hp6 => ?_⟩
      have n6 : D ≠ p6 := neC m5 hp6
      have p6a := sr5.ne hp6
      refine da_nil (k_sum (ns := cs.map (·.2)) rfl (by simp only [seqOf, updC_same]) (de_int (k_eqI (db_nil ⟨_, rfl, gx5.put (gx5.none hp6 p6a), sr5.upd p6a, by simp only [seqOf, updC_ne n6, m5], fun _ => ?_, fun q => absurd h0 q⟩))))
      rw [decide_eq_true_eq]
      exact Iff.rfl
    · have h := of_decide_eq_false h
      rw [List.length_map, e] at h
      exact absurd rfl h
  rintro τ' M6 ⟨b, rfl, gx6, sr6, s6, hb1, hb2⟩
  refine db_consJ (fun τ' M' => ∃ b : Bool, τ' = [some (.c a), some (.d (eCnt cs)), some (.d (eCnt nb)), y3, y4, y5, y6, some (.c D), some (.d (.bool b))] ∧ M' = M6 ∧ (b = true ↔ SurvP cs nb)) (ds_if (dt_cmp op_eq (de_callB call_len_seq (by rfl) b3 bt_len (da_cons ?_)) (by with_unfolding_all rfl))) ?_
  · walk_at "nm"
    refine da_nil (k_len s6 (de_int (k_eqI ⟨_, rfl, fun h => ?_, fun h => db_nil ⟨b, rfl, rfl, ?_⟩⟩)))
    · have h := of_decide_eq_true h
      rw [List.length_map] at h
      obtain ⟨p, hp⟩ : ∃ p, spC nb = [p] := List.length_eq_one_iff.mp (by omega)
      have hpm : p ∈ nb := spm (by rw [hp]; exact List.mem_cons_self)
      rw [hp] at s6
      refine db_cons (ds_set (i := 8) sc__law_large_holds.nd rfl (.inl rfl) (de_cmp op_eq (de_dget (hu_of hr) ?_) (nomark _)))
      walk_at "nm"
      refine de_ix ?_
      walk_at "nm"
      refine de_int ⟨_, ((0 : Nat) : Int), dS p.1, s6, rfl, atI_nat rfl, ?_⟩
      refine ⟨_, .inr p.1, dI p.2, .d (kdC nb), rfl, hgn hpm, de_dget (hu_of hr) ?_⟩
      walk_at "nm"
      refine de_ix ?_
      walk_at "nm"
      refine de_int ⟨_, ((0 : Nat) : Int), dS p.1, s6, rfl, atI_nat rfl, ?_⟩
      refine ⟨_, .inr p.1, dI (tvC cs p.1), .d (kdC cs), rfl, hgc hpm, k_eqI (db_nil ⟨_, rfl, rfl, ?_⟩)⟩
      rw [decide_eq_true_eq]
      exact (f2 p hp).symm
    · have h := of_decide_eq_false h
      rw [List.length_map] at h
      by_cases e : spC nb = []
      · exact (hb1 e).trans (f1 e).symm
      · have h2 : 2 ≤ (spC nb).length := by
          have := List.length_pos_iff.mpr e
          omega
        rw [hb2 e]
        exact hdw.trans (f3 h2).symm
  rintro τ' M7 ⟨b, rfl, rfl, hb⟩
  refine db_cons (ds_ret (de_cmp op_eq (de_callB (call_showA S noG hr.units) (by rfl) b6 bt_repr (da_cons (de_callC (c2.up (by decide)) hr (by rfl) (da_cons ?_)))) (by with_unfolding_all rfl)))
  walk_at "nm"
  refine da_cons ?_
  walk_at "nm"
  refine da_nil ⟨cs, nb, hL, rfl, ⟨l1, l12, nd, okp⟩, okt, fun b' hb' => da_nil (k_showA (d := .bool b') (.d _) rfl rfl (by simp [wtX]) (by simp [PyData.depth]) (de_callB (call_showA S noG hr.units) (by rfl) b6 bt_repr (da_cons ?_)))⟩
  walk_at "nm"
  refine da_nil (k_showA (d := .bool b) (.d _) rfl rfl (by simp [wtX]) (by simp [PyData.depth]) (k_eqS ?_))
  have eb : b' = b := by
    have := hb'.trans hb.symm
    cases b' <;> cases b <;> first | rfl | simp at this
  subst eb
  rw [decide_eq_true rfl]
  exact fin _ gx6 sr6

local macro_rules | `(tactic| walk_at "nm") => `(tactic| first | ((with_reducible refine de_name (x := "script") (i := 0) (s := ?s) ?hN ?hv ?ht ?q ?hd ?hcd); (case hN => rfl); (case hv => walk_at "vis"); (case ht => rfl); (case hd => decide); (case hcd => decide)) | ((with_reducible refine de_name (x := "k") (i := 1) (s := ?s) ?hN ?hv ?ht ?q ?hd ?hcd); (case hN => rfl); (case hv => walk_at "vis"); (case ht => rfl); (case hd => decide); (case hcd => decide)) | ((with_reducible refine de_name (x := "source") (i := 2) (s := ?s) ?hN ?hv ?ht ?q ?hd ?hcd); (case hN => rfl); (case hv => walk_at "vis"); (case ht => rfl); (case hd => decide); (case hcd => decide)) | ((with_reducible refine de_name (x := "turn") (i := 3) (s := ?s) ?hN ?hv ?ht ?q ?hd ?hcd); (case hN => rfl); (case hv => walk_at "vis"); (case ht => rfl); (case hd => decide); (case hcd => decide)))


def R_law : Rr := fun L ss M Q => ∃ (s : Sl) (ns : List Int), NoDK L ∧ ss = [s] ∧ (∀ M', seqOf M' s = some (ns.map dI)) ∧ ns.length ≤ 63 ∧ ∀ M', Q (.d (.bool true)) M'
set_option maxHeartbeats 8000000 in
theorem ok_law (S : Sys base) {f : Addr} {fd : FuncData} (F : Fun K "law" "law" s_law f fd) (c1 : Cal P w K mg base "_law_make_source" 1 ["script", "k"] R_source) (c2 : Cal P w K mg base "_law_small_counts" 3 ["source", "most"] R_small) (c3 : CalG P w K mg base "_law_small_holds" 6 ["source", "counts"] R_smallH)
    (c4 : Cal P w K mg base "_law_large_counts" 3 ["source", "many"] R_large) (c5 : CalG P w K mg base "_law_large_holds" 6 ["source", "counts"] R_largeH) (c6 : Cal P w K mg base "can_survive_counts" 5 ["line_counts", "survivor_counts"] R_surv) (b1 : mg "range" = none) (b2 : mg "max" = none) (b3 : mg "min" = none) (b4 : mg "len" = none) : Calm P w K mg base 7 f fd ["script"] (Spk K R_law) := by
  refine calm_of F sc_law (fun _ ss _ _ ⟨s, ns, _, h, _⟩ => by rw [h]; rfl) (fun cdv A outer s H E L ss M Q hr noG h => ?_)
  obtain ⟨x, ns, hL, rfl, hs, hl, fin⟩ := h
  refine db_cons (ds_for PassesOwn.never rfl (di_range1 (by rfl) b1 (de_callB (call_max2 rfl) (by rfl) b2 bt_max (da_cons (de_int (da_cons (de_callB (call_min2 rfl) (by rfl) b3 bt_min (da_cons (de_int (da_cons (de_callB call_len_seq (by rfl) b4 bt_len (da_cons ?_)))))))))))) 
  walk_at "nm"
  refine da_nil (k_len (hs M) (da_nil (k_min2 (da_nil (k_max2 ⟨_, rfl, ?_⟩)))))
  have hk : ∃ k : Nat, (if (if ((ns.map dI).length : Int) < 5 then ((ns.map dI).length : Int) else 5) > 1 then (if ((ns.map dI).length : Int) < 5 then ((ns.map dI).length : Int) else 5) else 1) = (k : Int) ∧ k ≤ 5 := by
    by_cases h : ((ns.map dI).length : Int) < 5
    · rw [if_pos h]
      by_cases h2 : ((ns.map dI).length : Int) > 1
      · exact ⟨(ns.map dI).length, by rw [if_pos h2], by omega⟩
      · exact ⟨1, by rw [if_neg h2]; rfl, by decide⟩
    · exact ⟨5, by rw [if_neg h]; rfl, Nat.le_refl _⟩
  obtain ⟨kk, ek, hkk⟩ := hk
  rw [ek]
  refine ⟨by omega, by omega, ?_⟩
  refine ⟨fun i τ' M' => ∃ y1 y2 y3, τ' = [some x, y1, y2, y3], ⟨none, none, none, rfl⟩, fun _ _ _ _ => trivial, ?_, ?_⟩
  · rintro i y τ' M2 hi rfl ⟨y1, y2, y3, rfl⟩
    have hi : i < 5 := by omega
    refine dg_of (pg_name (i := 1) sc_law.nd rfl (.inl rfl)) (wg_name ?_)
    refine db_cons (ds_set (i := 2) sc_law.nd rfl (.inl rfl) (de_callC (c1.up (by decide)) hr (by rfl) ?_))
    walk_at "go"
    refine da_nil ⟨x, ns, i, rfl, hs M2, by omega, by omega, fun ps M3 hps sub3 sr3 => ?_⟩
    refine db_cons (ds_for PassesOwn.never rfl (di_range1 (by rfl) b1 (de_int ⟨2, rfl, by decide, by decide, ?_⟩)))
    refine ⟨fun j τ' M' => ∃ y3, τ' = [some x, some (dI i), some (.c ps), y3] ∧ Src M' ps (100 * j), ⟨_, rfl, sr3⟩, fun _ _ _ _ => trivial, ?_, ?_⟩
    · rintro j y τ' M4 hj rfl ⟨z3, rfl, sr4⟩
      have hj : j < 2 := hj
      refine dg_of (pg_name (i := 3) sc_law.nd rfl (.inl rfl)) (wg_name ?_)
      refine db_cons (ds_if (dt_not (dt_val (de_callG c3 (hr.mono (by decide)) noG (by rfl) (da_cons ?_)))))
      walk_at "nm"
      refine da_cons (de_callC (c2.up (by decide)) hr (by rfl) ?_)
      walk_at "go"
      refine da_nil ⟨ps, _, 5, rfl, sr4, by omega, by decide, by decide, fun cs M5 gx5 sr5 okc hsum l4 => da_nil ⟨_, cs, hL, rfl, okc, hsum, l4, fun M6 sub6 => ⟨true, rfl, no1, fun _ => db_nil (db_nil ⟨_, rfl, (sr5.sub sub6).mono (by omega)⟩)⟩⟩⟩
    rintro τ' M4 ⟨z3, rfl, sr4⟩
    have sr4 : Src M4 ps 1000 := sr4.mono (by decide)
    refine db_cons (ds_for PassesOwn.never rfl (di_range1 (by rfl) b1 (de_int ⟨8, rfl, by decide, by decide, ?_⟩)))
    refine ⟨fun j τ' M' => ∃ y3, τ' = [some x, some (dI i), some (.c ps), y3] ∧ Src M' ps (1000 + 300 * j), ⟨_, rfl, sr4⟩, fun _ _ _ _ => trivial, ?_, ?_⟩
    · rintro j y τ' M5 hj rfl ⟨z3, rfl, sr5⟩
      have hj : j < 8 := hj
      refine dg_of (pg_name (i := 3) sc_law.nd rfl (.inl rfl)) (wg_name ?_)
      refine db_cons (ds_if (dt_not (dt_val (de_callG c5 (hr.mono (by decide)) noG (by rfl) (da_cons ?_)))))
      walk_at "nm"
      refine da_cons (de_callC (c4.up (by decide)) hr (by rfl) ?_)
      walk_at "go"
      refine da_nil ⟨ps, _, 12, rfl, sr5, by omega, by decide, by decide, fun cs M6 gx6 sr6 okc => da_nil ⟨ps, _, cs, hL, rfl, sr6, by omega, okc, fun M7 gx7 sr7 => ⟨true, rfl, no1, fun _ => db_nil (db_nil ⟨_, rfl, sr7.mono (by omega)⟩)⟩⟩⟩
    rintro τ' M5 ⟨z3, rfl, sr5⟩
    exact db_nil ⟨_, _, _, rfl⟩
  rintro τ' M2 ⟨y1, y2, y3, rfl⟩
  refine db_cons (ds_if (dt_cmp op_notBl (de_callC (c6.up (by decide)) hr (by rfl) (da_cons (de_frzK (de_dictSI2 (by decide) fun p hp => ⟨p, kdC [("a", 2), ("b", 2)], rfl, updC_same, ?_⟩)))) (by with_unfolding_all rfl)))
  rw [delC_updC hp]
  refine da_cons (de_frzK (de_dictSI fun p2 hp2 => ⟨p2, kdC [("a", 1)], rfl, updC_same, ?_⟩))
  rw [delC_updC hp2]
  refine da_nil ⟨[("a", 2), ("b", 2)], [("a", 1)], hL, rfl, cnt22, tab1, fun b hb => de_bl (k_notB ?_)⟩
  have eb : b = false := by
    cases b
    · rfl
    · exact absurd (hb.mp rfl) surv_no
  subst eb
  refine ⟨_, rfl, no1, fun _ => db_nil ?_⟩
  refine db_cons (ds_ret (de_cmp op_isBl (de_callC (c6.up (by decide)) hr (by rfl) (da_cons (de_frzK (de_dictSI2 (by decide) fun p hp => ⟨p, kdC [("a", 1), ("b", 2)], rfl, updC_same, ?_⟩)))) (by with_unfolding_all rfl)))
  rw [delC_updC hp]
  refine da_cons (de_frzK (de_dictSI fun p2 hp2 => ⟨p2, kdC [("a", 1)], rfl, updC_same, ?_⟩))
  rw [delC_updC hp2]
  refine da_nil ⟨[("a", 1), ("b", 2)], [("a", 1)], hL, rfl, cnt12, tab1, fun b hb => de_bl (k_isB ?_)⟩
  have eb : b = true := hb.mpr surv_yes
  subst eb
  exact fin _

end

end Pg

namespace Pg
open PySem L2 Y PyProof.Rows
theorem fa_mk {K : PySem.W.Frag} {h : Heap} {mg : Str → Option Value} {x : Str} {st : Stmt} {ps : List Str} {f : Addr} {oc : Value} {od an : Option Addr} {osl : Array (Option Value)} {kV doc pm cdv ct : Value} (X : K.In h) (G : h.Ns mainGlobals mg) (a : PySem.W.nsIn K mainGlobals x = some (some (.ref f))) (l : K.lookup f = some ⟨oc, od, .func (PySem.W.fnOf x x (defArgs st) (defBody st) (defScope st) .none kV doc pm an cdv ct), osl⟩)
    (c : PySem.W.codeIn K cdv x = true) (k : PySem.W.keepIn K (.ref f) = true) (b : ∀ (kV doc pm : Value) (an : Option Addr) (cdv ct : Value) (us : List Value), us.length = ps.length → bindArgs (PySem.W.fnOf x x (defArgs st) (defBody st) (defScope st) .none kV doc pm an cdv ct) ⟨us, []⟩ = pure (ps.zip us)) : FunAt K mg x st ps :=
  ⟨f, _, PySem.W.mg_of X G a |> fun m => ⟨fun_mk l c k, m, (fun_mk l c k).binds b⟩⟩
theorem sp_law {K : PySem.W.Frag} {H : Hp} {a : Addr} {ns : List Int} (hl : ns.length ≤ 63) (hO : Only H) (hS : SqL K H a (ns.map V.int)) : Spk K R_law [.ref a] H (fun v _ => v = .bl true) fun _ _ _ => False := by
  have ret : ∀ {L : Lk} {G : Hp}, Ret K L G (fun s _ => s = .d (.bool true)) (fun v _ => v = .bl true) := fun s M' v G' H' h _ _ a => by
    subst h
    exact sl_bl a
  rcases hS with (h | ⟨o, h⟩) | h
  · rcases hO a with z | ⟨o, xs, z⟩
    · rw [h] at z; cases z
    · rw [h] at z; cases z
  · refine ⟨[(a, o, .lst (ns.map V.int))], fun _ => none, fun b => if b = a then some (.lst (ns.map V.int)) else none, [.s ns], fun s _ => s = .d (.bool true), ⟨fun b u e => ?_, fun b c e => (nomatch e), fun x hx => ?_⟩, .cons (.s (.inl (if_pos rfl))) .nil, ⟨.s ns, ns, fun x hx kvs e => ?_, rfl, fun _ => rfl, hl, fun _ => rfl⟩, ret⟩
    · by_cases hb : b = a
      · subst hb
        have e' : some (HO.lst (ns.map V.int)) = some u := (if_pos rfl).symm.trans e
        cases e'
        exact .inr ⟨_, List.mem_cons_self, rfl, rfl⟩
      · have e' : none = some u := (if_neg hb).symm.trans e
        cases e'
    · rw [List.mem_singleton.mp hx]
      exact h
    · rw [List.mem_singleton.mp hx] at e
      cases e
  · exact ⟨[], fun _ => none, fun _ => none, [.s ns], fun s _ => s = .d (.bool true), ⟨fun b u e => (nomatch e), fun b c e => (nomatch e), fun x hx => (nomatch hx)⟩, .cons (.s (.inr h)) .nil, ⟨.s ns, ns, fun x hx kvs e => (nomatch hx), rfl, fun _ => rfl, hl, fun _ => rfl⟩, ret⟩

theorem all_mk {l : PySem.W.OpenLaw} {w : World} {K : PySem.W.Frag} {h : Heap} {mg : Str → Option Value} {fa fl : Addr} {oc kV doc pm cd ct : Value} {od an : Option Addr} {osl : Array (Option Value)} (X : K.In h) (G : h.Ns mainGlobals mg) (hfa : mg "law" = some (.ref fa))
    (F_plain_integer : FunAt K mg "plain_integer" s_plain_integer ["value"])
    (F_plain_text : FunAt K mg "plain_text" s_plain_text ["value"])
    (F_plain_writer : FunAt K mg "plain_writer" s_plain_writer ["value"])
    (F_plain_line_counts : FunAt K mg "plain_line_counts" s_plain_line_counts ["value"])
    (F_checked_line_counts : FunAt K mg "checked_line_counts" s_checked_line_counts ["value"])
    (F__law_make_source : FunAt K mg "_law_make_source" s__law_make_source ["script", "k"])
    (F__law_draw : FunAt K mg "_law_draw" s__law_draw ["source", "many"])
    (F__law_writer_names : FunAt K mg "_law_writer_names" s__law_writer_names ["source", "many"])
    (F__law_small_counts : FunAt K mg "_law_small_counts" s__law_small_counts ["source", "most"])
    (F__law_large_counts : FunAt K mg "_law_large_counts" s__law_large_counts ["source", "many"])
    (F__law_following_lines : FunAt K mg "_law_following_lines" s__law_following_lines ["counts", "lines"])
    (F__law_all_final : FunAt K mg "_law_all_final" s__law_all_final ["counts"])
    (F_plain_table : FunAt K mg "plain_table" s_plain_table ["line_counts", "value"])
    (F_checked_table : FunAt K mg "checked_table" s_checked_table ["line_counts", "value"])
    (F_can_survive_counts : FunAt K mg "can_survive_counts" s_can_survive_counts ["line_counts", "survivor_counts"])
    (F__law_line_table : FunAt K mg "_law_line_table" s__law_line_table ["counts", "lines"])
    (F__law_tables : FunAt K mg "_law_tables" s__law_tables ["counts"])
    (F__law_small_holds : FunAt K mg "_law_small_holds" s__law_small_holds ["source", "counts"])
    (F__law_large_holds : FunAt K mg "_law_large_holds" s__law_large_holds ["source", "counts"])
    (z0_isinstance : PySem.W.nsIn K mainGlobals "isinstance" = some none)
    (z0_int : PySem.W.nsIn K mainGlobals "int" = some none)
    (z0_bool : PySem.W.nsIn K mainGlobals "bool" = some none)
    (z0_str : PySem.W.nsIn K mainGlobals "str" = some none)
    (z0_len : PySem.W.nsIn K mainGlobals "len" = some none)
    (z0_dict : PySem.W.nsIn K mainGlobals "dict" = some none)
    (z0_sorted : PySem.W.nsIn K mainGlobals "sorted" = some none)
    (z0_max : PySem.W.nsIn K mainGlobals "max" = some none)
    (z0_abs : PySem.W.nsIn K mainGlobals "abs" = some none)
    (z0_range : PySem.W.nsIn K mainGlobals "range" = some none)
    (z0_list : PySem.W.nsIn K mainGlobals "list" = some none)
    (z0_min : PySem.W.nsIn K mainGlobals "min" = some none)
    (z0_sum : PySem.W.nsIn K mainGlobals "sum" = some none)
    (z0_any : PySem.W.nsIn K mainGlobals "any" = some none)
    (z0_repr : PySem.W.nsIn K mainGlobals "repr" = some none)
    {i_LONGEST_NAME : Int} {t_LONGEST_NAME : Tok} (g0_LONGEST_NAME : PySem.W.nsIn K mainGlobals "LONGEST_NAME" = some (some (.int i_LONGEST_NAME t_LONGEST_NAME))) (g1_LONGEST_NAME : i_LONGEST_NAME = 8)
    {i_MOST_WRITERS : Int} {t_MOST_WRITERS : Tok} (g0_MOST_WRITERS : PySem.W.nsIn K mainGlobals "MOST_WRITERS" = some (some (.int i_MOST_WRITERS t_MOST_WRITERS))) (g1_MOST_WRITERS : i_MOST_WRITERS = 12)
    {i_LARGEST_NUMBER : Int} {t_LARGEST_NUMBER : Tok} (g0_LARGEST_NUMBER : PySem.W.nsIn K mainGlobals "LARGEST_NUMBER" = some (some (.int i_LARGEST_NUMBER t_LARGEST_NUMBER))) (g1_LARGEST_NUMBER : i_LARGEST_NUMBER = (10 ^ 30))
    (a0 : PySem.W.nsIn K mainGlobals "law" = some (some (.ref fl))) (l0 : K.lookup fl = some ⟨oc, od, .func (PySem.W.fnOf "law" "law" (defArgs s_law) (defBody s_law) (defScope s_law) .none kV doc pm an cd ct), osl⟩) (c0 : PySem.W.codeIn K cd "law" = true) (k0 : PySem.W.keepIn K (.ref fl) = true) :
    ∃ fd : FuncData, (∀ (s : Shared) (v : Value), BindsTo s fd ⟨[v], []⟩ [("script", v)]) ∧ ∀ base : Heap, K.In base → base.Ns mainGlobals mg → Sys base → Calm l.prog w K mg base 7 fa fd ["script"] (Spk K R_law) := by
  have e := hfa.symm.trans (PySem.W.mg_of X G a0)
  cases e

  have z_isinstance : mg "isinstance" = none := PySem.W.mg_none_of X G z0_isinstance
  have z_int : mg "int" = none := PySem.W.mg_none_of X G z0_int
  have z_bool : mg "bool" = none := PySem.W.mg_none_of X G z0_bool
  have z_str : mg "str" = none := PySem.W.mg_none_of X G z0_str
  have z_len : mg "len" = none := PySem.W.mg_none_of X G z0_len
  have z_dict : mg "dict" = none := PySem.W.mg_none_of X G z0_dict
  have z_sorted : mg "sorted" = none := PySem.W.mg_none_of X G z0_sorted
  have z_max : mg "max" = none := PySem.W.mg_none_of X G z0_max
  have z_abs : mg "abs" = none := PySem.W.mg_none_of X G z0_abs
  have z_range : mg "range" = none := PySem.W.mg_none_of X G z0_range
  have z_list : mg "list" = none := PySem.W.mg_none_of X G z0_list
  have z_min : mg "min" = none := PySem.W.mg_none_of X G z0_min
  have z_sum : mg "sum" = none := PySem.W.mg_none_of X G z0_sum
  have z_any : mg "any" = none := PySem.W.mg_none_of X G z0_any
  have z_repr : mg "repr" = none := PySem.W.mg_none_of X G z0_repr
  have g_LONGEST_NAME : ∃ t, mg "LONGEST_NAME" = some (.int 8 t) := ⟨t_LONGEST_NAME, by rw [← g1_LONGEST_NAME]; exact PySem.W.mg_of X G g0_LONGEST_NAME⟩
  have g_MOST_WRITERS : ∃ t, mg "MOST_WRITERS" = some (.int 12 t) := ⟨t_MOST_WRITERS, by rw [← g1_MOST_WRITERS]; exact PySem.W.mg_of X G g0_MOST_WRITERS⟩
  have g_LARGEST_NUMBER : ∃ t, mg "LARGEST_NUMBER" = some (.int (10 ^ 30) t) := ⟨t_LARGEST_NUMBER, by rw [← g1_LARGEST_NUMBER]; exact PySem.W.mg_of X G g0_LARGEST_NUMBER⟩
  refine ⟨PySem.W.fnOf "law" "law" (defArgs s_law) (defBody s_law) (defScope s_law) .none kV doc pm an cd ct, fun s v => .of_eq rfl, fun base _ _ S0 => ?_⟩
  have c_plain_integer : Cal l.prog w K mg base "plain_integer" 1 ["value"] R_plain_integer := ok_plain_integer F_plain_integer z_isinstance z_int z_bool
  have c_plain_text : Cal l.prog w K mg base "plain_text" 1 ["value"] R_plain_text := ok_plain_text F_plain_text z_isinstance z_str
  have c_plain_writer : Cal l.prog w K mg base "plain_writer" 2 ["value"] R_plain_writer := ok_plain_writer F_plain_writer c_plain_text z_len g_LONGEST_NAME
  have c_plain_line_counts : Cal l.prog w K mg base "plain_line_counts" 3 ["value"] R_plain_line_counts := ok_plain_line_counts F_plain_line_counts c_plain_writer c_plain_integer z_isinstance z_dict z_len z_sorted g_MOST_WRITERS g_LARGEST_NUMBER
  have c_checked_line_counts : Cal l.prog w K mg base "checked_line_counts" 4 ["value"] R_plain_line_counts := ok_checked_line_counts F_checked_line_counts c_plain_line_counts
  have c_law_make_source : Cal l.prog w K mg base "_law_make_source" 1 ["script", "k"] R_source := ok_law_make_source F__law_make_source z_len z_max z_abs z_int
  have c_law_draw : Cal l.prog w K mg base "_law_draw" 1 ["source", "many"] R_draw := ok_law_draw F__law_draw
  have c_law_writer_names : Cal l.prog w K mg base "_law_writer_names" 2 ["source", "many"] R_names := ok_law_writer_names F__law_writer_names c_law_draw z_range z_len z_list
  have c_law_small_counts : Cal l.prog w K mg base "_law_small_counts" 3 ["source", "most"] R_small := ok_law_small_counts F__law_small_counts c_law_draw c_law_writer_names z_min
  have c_law_large_counts : Cal l.prog w K mg base "_law_large_counts" 3 ["source", "many"] R_large := ok_law_large_counts F__law_large_counts c_law_draw c_law_writer_names
  have c_law_following_lines : Cal l.prog w K mg base "_law_following_lines" 1 ["counts", "lines"] R_fol := ok_law_following_lines F__law_following_lines z_max z_min z_range
  have c_law_all_final : Cal l.prog w K mg base "_law_all_final" 2 ["counts"] R_all := ok_law_all_final F__law_all_final c_law_following_lines z_sum z_list
  have c_plain_table : Cal l.prog w K mg base "plain_table" 3 ["line_counts", "value"] R_plain_table := ok_plain_table F_plain_table c_plain_writer c_plain_integer z_isinstance z_dict g_LARGEST_NUMBER
  have c_checked_table : Cal l.prog w K mg base "checked_table" 4 ["line_counts", "value"] R_plain_table := ok_checked_table F_checked_table c_plain_table
  have c_can_survive_counts : Cal l.prog w K mg base "can_survive_counts" 5 ["line_counts", "survivor_counts"] R_surv := ok_can_survive_counts F_can_survive_counts c_checked_line_counts c_checked_table z_any z_sum z_len
  have c_law_line_table : Cal l.prog w K mg base "_law_line_table" 1 ["counts", "lines"] R_linetab := ok_law_line_table F__law_line_table z_dict z_len
  have c_law_tables : Cal l.prog w K mg base "_law_tables" 1 ["counts"] R_tables := ok_law_tables F__law_tables z_range z_dict z_list
  have c_law_small_holds : CalG l.prog w K mg base "_law_small_holds" 6 ["source", "counts"] R_smallH := ok_law_small_holds S0 F__law_small_holds c_law_line_table c_law_all_final c_law_tables c_can_survive_counts z_dict z_repr
  have c_law_large_holds : CalG l.prog w K mg base "_law_large_holds" 6 ["source", "counts"] R_largeH := ok_law_large_holds S0 F__law_large_holds c_law_draw c_can_survive_counts z_max z_min z_len z_sum z_list z_repr
  exact ok_law S0 (fun_mk l0 c0 k0) c_law_make_source c_law_small_counts c_law_small_holds c_law_large_counts c_law_large_holds c_can_survive_counts z_range z_max z_min z_len
end Pg
set_option maxHeartbeats 0 in
theorem PySem.Challenge.cw_lastcopy_k36_possible_survivor_counts_holds : PySem.Challenge.rw_lastcopy_k36_possible_survivor_counts.Holds := by
  w_on; o_law; k_head; (case hw => w_witness2)
  k_fill
  refine Y.walk_calmS (l := PySem.Challenge.rw_lastcopy_k36_possible_survivor_counts) (n := 63) (k := 7) (x := "script") (R := Pg.R_law) rfl (by decide) rfl (by decide +kernel) ⟨rfl, by decide, by decide⟩ (fun w h Y => PySem.W.kIn_of Y) ?F (fun _ _ a ns hl hO hS => Pg.sp_law hl hO hS)
  case F =>
    intro w mg fa h KX G hmg
    refine' Pg.all_mk KX G hmg ?F_plain_integer ?F_plain_text ?F_plain_writer ?F_plain_line_counts ?F_checked_line_counts ?F__law_make_source ?F__law_draw ?F__law_writer_names ?F__law_small_counts ?F__law_large_counts ?F__law_following_lines ?F__law_all_final ?F_plain_table ?F_checked_table ?F_can_survive_counts ?F__law_line_table ?F__law_tables ?F__law_small_holds ?F__law_large_holds ?z0_isinstance ?z0_int ?z0_bool ?z0_str ?z0_len ?z0_dict ?z0_sorted ?z0_max ?z0_abs ?z0_range ?z0_list ?z0_min ?z0_sum ?z0_any ?z0_repr ?g0_LONGEST_NAME ?g1_LONGEST_NAME ?g0_MOST_WRITERS ?g1_MOST_WRITERS ?g0_LARGEST_NUMBER ?g1_LARGEST_NUMBER ?a0 ?l0 ?c0 ?k0
    case F_plain_integer =>
      refine' Pg.fa_mk KX G ?a ?l ?c ?k ?b
      (case a => k_is); (case l => k_is); (case c => k_is); (case k => k_is)
      case b => exact fun _ _ _ _ _ _ us hl => match us, hl with | [_], _ => rfl
    case F_plain_text =>
      refine' Pg.fa_mk KX G ?a ?l ?c ?k ?b
      (case a => k_is); (case l => k_is); (case c => k_is); (case k => k_is)
      case b => exact fun _ _ _ _ _ _ us hl => match us, hl with | [_], _ => rfl
    case F_plain_writer =>
      refine' Pg.fa_mk KX G ?a ?l ?c ?k ?b
      (case a => k_is); (case l => k_is); (case c => k_is); (case k => k_is)
      case b => exact fun _ _ _ _ _ _ us hl => match us, hl with | [_], _ => rfl
    case F_plain_line_counts =>
      refine' Pg.fa_mk KX G ?a ?l ?c ?k ?b
      (case a => k_is); (case l => k_is); (case c => k_is); (case k => k_is)
      case b => exact fun _ _ _ _ _ _ us hl => match us, hl with | [_], _ => rfl
    case F_checked_line_counts =>
      refine' Pg.fa_mk KX G ?a ?l ?c ?k ?b
      (case a => k_is); (case l => k_is); (case c => k_is); (case k => k_is)
      case b => exact fun _ _ _ _ _ _ us hl => match us, hl with | [_], _ => rfl
    case F__law_make_source =>
      refine' Pg.fa_mk KX G ?a ?l ?c ?k ?b
      (case a => k_is); (case l => k_is); (case c => k_is); (case k => k_is)
      case b => exact fun _ _ _ _ _ _ us hl => match us, hl with | [_, _], _ => rfl
    case F__law_draw =>
      refine' Pg.fa_mk KX G ?a ?l ?c ?k ?b
      (case a => k_is); (case l => k_is); (case c => k_is); (case k => k_is)
      case b => exact fun _ _ _ _ _ _ us hl => match us, hl with | [_, _], _ => rfl
    case F__law_writer_names =>
      refine' Pg.fa_mk KX G ?a ?l ?c ?k ?b
      (case a => k_is); (case l => k_is); (case c => k_is); (case k => k_is)
      case b => exact fun _ _ _ _ _ _ us hl => match us, hl with | [_, _], _ => rfl
    case F__law_small_counts =>
      refine' Pg.fa_mk KX G ?a ?l ?c ?k ?b
      (case a => k_is); (case l => k_is); (case c => k_is); (case k => k_is)
      case b => exact fun _ _ _ _ _ _ us hl => match us, hl with | [_, _], _ => rfl
    case F__law_large_counts =>
      refine' Pg.fa_mk KX G ?a ?l ?c ?k ?b
      (case a => k_is); (case l => k_is); (case c => k_is); (case k => k_is)
      case b => exact fun _ _ _ _ _ _ us hl => match us, hl with | [_, _], _ => rfl
    case F__law_following_lines =>
      refine' Pg.fa_mk KX G ?a ?l ?c ?k ?b
      (case a => k_is); (case l => k_is); (case c => k_is); (case k => k_is)
      case b => exact fun _ _ _ _ _ _ us hl => match us, hl with | [_, _], _ => rfl
    case F__law_all_final =>
      refine' Pg.fa_mk KX G ?a ?l ?c ?k ?b
      (case a => k_is); (case l => k_is); (case c => k_is); (case k => k_is)
      case b => exact fun _ _ _ _ _ _ us hl => match us, hl with | [_], _ => rfl
    case F_plain_table =>
      refine' Pg.fa_mk KX G ?a ?l ?c ?k ?b
      (case a => k_is); (case l => k_is); (case c => k_is); (case k => k_is)
      case b => exact fun _ _ _ _ _ _ us hl => match us, hl with | [_, _], _ => rfl
    case F_checked_table =>
      refine' Pg.fa_mk KX G ?a ?l ?c ?k ?b
      (case a => k_is); (case l => k_is); (case c => k_is); (case k => k_is)
      case b => exact fun _ _ _ _ _ _ us hl => match us, hl with | [_, _], _ => rfl
    case F_can_survive_counts =>
      refine' Pg.fa_mk KX G ?a ?l ?c ?k ?b
      (case a => k_is); (case l => k_is); (case c => k_is); (case k => k_is)
      case b => exact fun _ _ _ _ _ _ us hl => match us, hl with | [_, _], _ => rfl
    case F__law_line_table =>
      refine' Pg.fa_mk KX G ?a ?l ?c ?k ?b
      (case a => k_is); (case l => k_is); (case c => k_is); (case k => k_is)
      case b => exact fun _ _ _ _ _ _ us hl => match us, hl with | [_, _], _ => rfl
    case F__law_tables =>
      refine' Pg.fa_mk KX G ?a ?l ?c ?k ?b
      (case a => k_is); (case l => k_is); (case c => k_is); (case k => k_is)
      case b => exact fun _ _ _ _ _ _ us hl => match us, hl with | [_], _ => rfl
    case F__law_small_holds =>
      refine' Pg.fa_mk KX G ?a ?l ?c ?k ?b
      (case a => k_is); (case l => k_is); (case c => k_is); (case k => k_is)
      case b => exact fun _ _ _ _ _ _ us hl => match us, hl with | [_, _], _ => rfl
    case F__law_large_holds =>
      refine' Pg.fa_mk KX G ?a ?l ?c ?k ?b
      (case a => k_is); (case l => k_is); (case c => k_is); (case k => k_is)
      case b => exact fun _ _ _ _ _ _ us hl => match us, hl with | [_, _], _ => rfl
    case z0_isinstance => k_is
    case z0_int => k_is
    case z0_bool => k_is
    case z0_str => k_is
    case z0_len => k_is
    case z0_dict => k_is
    case z0_sorted => k_is
    case z0_max => k_is
    case z0_abs => k_is
    case z0_range => k_is
    case z0_list => k_is
    case z0_min => k_is
    case z0_sum => k_is
    case z0_any => k_is
    case z0_repr => k_is
    case g0_LONGEST_NAME => k_is
    case g1_LONGEST_NAME => rfl
    case g0_MOST_WRITERS => k_is
    case g1_MOST_WRITERS => rfl
    case g0_LARGEST_NUMBER => k_is
    case g1_LARGEST_NUMBER => rfl
    case a0 => k_is
    case l0 => k_is
    case c0 => k_is
    case k0 => k_is

