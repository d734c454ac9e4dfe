import PyProof.Rows.All
import Wide.All
import OpenK.AllK
import Wide.FinOn
import PyProof.EqAt
import PyProof.EqKinds
import PyProof.TupleCall
import HandS.ForMost
import HandS.IsInst
import HandS.Zip
import HandS.Deep
import HandS.More
import HandS.Wide
import HandS.StrMore
import HandS.Style
import HandS.DictComp
import HandS.Flow
import PyProof.TypeEq
import PyProof.InstEq
import KE.KDictList
import PyProof.ListRange
import PyProof.LongRange
import HandS.Conv
import HandS.Rev
import HandS.Dict
import PyProof.SumAny
import HandS.Sort
import HandS.ListItems
import HandS.SortKw
import KE.KDictCopyH
import KE.DatumOrd
import HandS.DeepEq
import KE.SortData
import KE.DataEq
import PyProof.Rows.StrMeet
import PySem.Challenge.RW_lastcopy_k30_first_survival_obstruction
set_option Elab.async false
set_option linter.all false
set_option maxRecDepth 100000
set_option maxHeartbeats 1000000
namespace Y
open PySem L2

/-! ### canonical readings: what the model itself asks -/
section
variable (X : Cx)
def sE (e : Expr) : TE := fun σ H Q => ∀ pins s, Inv X pins σ H s → wpAny (model X.prog X.w) X.A (eval e X.env) (EP X pins σ Q) X.xe s
def sT (e : Expr) : TT := fun σ H Q => ∀ pins s, Inv X pins σ H s → wpAny (model X.prog X.w) X.A (isTrue e X.env (eval e X.env)) (TP X pins σ Q) X.xe s
def sA (es : List Expr) : TA := fun σ H Q => ∀ pos pins s, Inv X pins σ H s → wpAny (model X.prog X.w) X.A (spliced (backTo pos (starEach es X.env))) (AP X pins σ Q) X.xe s
def sS (st : Stmt) : TS := fun D σ H => ∀ pins s, Inv X pins σ H s → wpAny (model X.prog X.w) X.A (exec st X.env) (SP X pins D) X.xe s
def sB (st : List Stmt) : TS := fun D σ H => ∀ pins s, Inv X pins σ H s → wpAny (model X.prog X.w) X.A (execs st X.env) (SP X pins D) X.xe s
def sG (t : Expr) : TG := fun v σ H Q => ∀ pins s u, Inv X pins σ H s → RelV v u → wpAny (model X.prog X.w) X.A (assign t X.env u) (fun _ s' => ∃ σ' H', Inv X pins σ' H' s' ∧ Q σ' H') X.xe s
end
section
variable {X : Cx} {e : Expr} {es : List Expr} {st : Stmt} {sts : List Stmt}
theorem pe_s : PE X e (sE X e) := ⟨fun pins s _ _ _ I h => h pins s I⟩
theorem pt_s : PT X e (sT X e) := ⟨fun pins s _ _ _ I h => h pins s I⟩
theorem pa_s : PA X es (sA X es) := ⟨fun pos pins s _ _ _ I h => h pos pins s I⟩
theorem ps_s : PS X st (sS X st) := ⟨fun pins s _ _ _ I h => h pins s I⟩
theorem pss_s : PSs X sts (sB X sts) := ⟨fun pins s _ _ _ I h => h pins s I⟩
theorem pg_s : PG X e (sG X e) := ⟨fun pins s _ _ _ u _ I r h => h pins s u I r⟩
theorem e_of {t : TE} {σ : St} {H : Hp} {Q : VK} (h : PE X e t) (q : t σ H Q) : sE X e σ H Q := fun pins s I => h.run pins s σ H Q I q
theorem t_of {t : TT} {σ : St} {H : Hp} {Q : Bool → Hp → Prop} (h : PT X e t) (q : t σ H Q) : sT X e σ H Q := fun pins s I => h.run pins s σ H Q I q
theorem a_of {t : TA} {σ : St} {H : Hp} {Q : List V → Hp → Prop} (h : PA X es t) (q : t σ H Q) : sA X es σ H Q := fun pos pins s I => h.run pos pins s σ H Q I q
theorem s_of {t : TS} {σ : St} {H : Hp} {D : Ends} (h : PS X st t) (q : t D σ H) : sS X st D σ H := fun pins s I => h.run pins s σ H D I q
theorem b_of {t : TS} {σ : St} {H : Hp} {D : Ends} (h : PSs X sts t) (q : t D σ H) : sB X sts D σ H := fun pins s I => h.run pins s σ H D I q
theorem g_of {t : TG} {v : V} {σ : St} {H : Hp} {Q : St → Hp → Prop} (h : PG X e t) (q : t v σ H Q) : sG X e v σ H Q := fun pins s u I r => h.run pins s σ H v u Q I r q
end

/-! ### data, cells -/
def Ex (G G' : Hp) : Prop := ∀ a o, G a = some o → G' a = some o
theorem Ex.refl (G : Hp) : Ex G G := fun _ _ h => h
theorem Ex.trans {A B C : Hp} (a : Ex A B) (b : Ex B C) : Ex A C := fun x o h => b x o (a x o h)
theorem Ex.new {G : Hp} {p : Addr} {o : HO} (h : G p = none) : Ex G (upd G p o) := fun a u e => by
  rw [upd_ne (ne_of_none e h)]
  exact e
def KL (K : PySem.W.Frag) (a : Addr) (xs : List V) : Prop := ∃ (o : Obj) (its : Array Value) (n : Nat), K.lookup a = some o ∧ o.cls = .type "list" ∧ o.dict = none ∧ o.data = .seq its n ∧ its.size ≤ sizeLine ∧ Vals xs its.toList
def kD : Key → PyData
  | .inl i => .int i
  | .inr x => .str x
mutual
inductive At (K : PySem.W.Frag) (G : Hp) : V → PyData → Prop
  | non : At K G .non .none
  | bl (b : Bool) : At K G (.bl b) (.bool b)
  | int (i : Int) : At K G (.int i) (.int i)
  | str (x : Str) : At K G (.str x) (.str x)
  | lst {a : Addr} {xs : List V} {ds : List PyData} : G a = some (.lst xs) → AtL K G xs ds → At K G (.ref a) (.list ds)
  | tup {a : Addr} {xs : List V} {ds : List PyData} : G a = some (.tup xs) → AtL K G xs ds → At K G (.ref a) (.tuple ds)
  | dic {a : Addr} {kvs : List (Key × V)} {ds : List (PyData × PyData)} : G a = some (.dK kvs) → AtK K G kvs ds → At K G (.ref a) (.dict ds)
inductive AtL (K : PySem.W.Frag) (G : Hp) : List V → List PyData → Prop
  | nil : AtL K G [] []
  | cons {v : V} {vs : List V} {d : PyData} {ds : List PyData} : At K G v d → AtL K G vs ds → AtL K G (v :: vs) (d :: ds)
inductive AtK (K : PySem.W.Frag) (G : Hp) : List (Key × V) → List (PyData × PyData) → Prop
  | nil : AtK K G [] []
  | cons {k : Key} {v : V} {kvs : List (Key × V)} {d : PyData} {ds : List (PyData × PyData)} : At K G v d → AtK K G kvs ds → AtK K G ((k, v) :: kvs) ((kD k, d) :: ds)
end
mutual
theorem At.mono {K : PySem.W.Frag} {G G' : Hp} (e : Ex G G') : ∀ {v : V} {d : PyData}, At K G v d → At K G' v d
  | _, _, .non => .non
  | _, _, .bl b => .bl b
  | _, _, .int i => .int i
  | _, _, .str x => .str x
  | _, _, .lst h a => .lst (e _ _ h) (AtL.mono e a)
  | _, _, .tup h a => .tup (e _ _ h) (AtL.mono e a)
  | _, _, .dic h a => .dic (e _ _ h) (AtK.mono e a)
theorem AtL.mono {K : PySem.W.Frag} {G G' : Hp} (e : Ex G G') : ∀ {v : List V} {d : List PyData}, AtL K G v d → AtL K G' v d
  | _, _, .nil => .nil
  | _, _, .cons a b => .cons (At.mono e a) (AtL.mono e b)
theorem AtK.mono {K : PySem.W.Frag} {G G' : Hp} (e : Ex G G') : ∀ {v : List (Key × V)} {d : List (PyData × PyData)}, AtK K G v d → AtK K G' v d
  | _, _, .nil => .nil
  | _, _, .cons a b => .cons (At.mono e a) (AtK.mono e b)
end
/-- a value as a proof sees it: data, a cell, a class, a tuple of such -/
inductive Sl where
  | d (x : PyData) | c (a : Addr) | t (n : String) | u (ss : List Sl) | s (ns : List Int)
inductive Cell where
  | l (ss : List Sl) | k (kvs : List (Key × Sl))
abbrev Cs := Addr → Option Cell
def updC (M : Cs) (a : Addr) (c : Cell) : Cs := fun b => if b = a then some c else M b
def delC (M : Cs) (a : Addr) : Cs := fun b => if b = a then none else M b
theorem updC_same {M : Cs} {a : Addr} {c : Cell} : updC M a c a = some c := by unfold updC; rw [if_pos rfl]
theorem updC_ne {M : Cs} {a b : Addr} {c : Cell} (h : b ≠ a) : updC M a c b = M b := by unfold updC; rw [if_neg h]
theorem updC_updC {M : Cs} {a : Addr} {c c' : Cell} : updC (updC M a c) a c' = updC M a c' := by
  funext b; unfold updC; split <;> rfl
theorem delC_same {M : Cs} {a : Addr} : delC M a a = none := by unfold delC; rw [if_pos rfl]
theorem delC_ne {M : Cs} {a b : Addr} (h : b ≠ a) : delC M a b = M b := by unfold delC; rw [if_neg h]
theorem delC_updC {M : Cs} {a : Addr} {c : Cell} (h : M a = none) : delC (updC M a c) a = M := by
  funext b
  unfold delC updC
  by_cases e : b = a
  · rw [if_pos e, e, h]
  · rw [if_neg e, if_neg e]
theorem neC {M : Cs} {a b : Addr} {c : Cell} (h : M a = some c) (h' : M b = none) : a ≠ b := by
  intro e; subst e; rw [h] at h'; cases h'
mutual
inductive SlAt (K : PySem.W.Frag) (G : Hp) : V → Sl → Prop
  | d {v : V} {x : PyData} : At K G v x → SlAt K G v (.d x)
  | c (a : Addr) : SlAt K G (.ref a) (.c a)
  | t (n : String) : SlAt K G (.ty n) (.t n)
  | u {a : Addr} {xs : List V} {ss : List Sl} : G a = some (.tup xs) → SlL K G xs ss → SlAt K G (.ref a) (.u ss)
  | s {a : Addr} {ns : List Int} : (G a = some (.lst (ns.map V.int)) ∨ KL K a (ns.map V.int)) → SlAt K G (.ref a) (.s ns)
inductive SlL (K : PySem.W.Frag) (G : Hp) : List V → List Sl → Prop
  | nil : SlL K G [] []
  | cons {v : V} {vs : List V} {s : Sl} {ss : List Sl} : SlAt K G v s → SlL K G vs ss → SlL K G (v :: vs) (s :: ss)
end
mutual
theorem SlAt.mono {K : PySem.W.Frag} {G G' : Hp} (e : Ex G G') : ∀ {v : V} {s : Sl}, SlAt K G v s → SlAt K G' v s
  | _, _, .d a => .d (a.mono e)
  | _, _, .c a => .c a
  | _, _, .t n => .t n
  | _, _, .u h a => .u (e _ _ h) (SlL.mono e a)
  | _, _, .s h => .s (h.imp (e _ _) id)
theorem SlL.mono {K : PySem.W.Frag} {G G' : Hp} (e : Ex G G') : ∀ {v : List V} {s : List Sl}, SlL K G v s → SlL K G' v s
  | _, _, .nil => .nil
  | _, _, .cons a b => .cons (SlAt.mono e a) (SlL.mono e b)
end
section
variable {K : PySem.W.Frag} {G : Hp}
theorem SlL.len : ∀ {vs : List V} {ss : List Sl}, SlL K G vs ss → vs.length = ss.length
  | _, _, .nil => rfl
  | _, _, .cons _ b => by rw [List.length_cons, List.length_cons, b.len]
theorem SlL.get : ∀ {vs : List V} {ss : List Sl} {i : Nat} {s : Sl}, SlL K G vs ss → ss[i]? = some s → ∃ v, vs[i]? = some v ∧ SlAt K G v s
  | _, _, _, _, .nil, e => by simp at e
  | _, _, 0, _, .cons a _, e => by simp at e; subst e; exact ⟨_, rfl, a⟩
  | _, _, i + 1, s, .cons _ b, e => by
    obtain ⟨v, h1, h2⟩ := b.get (i := i) (s := s) (by simpa using e)
    exact ⟨v, by simpa using h1, h2⟩
theorem SlL.append : ∀ {vs ws : List V} {ss ts : List Sl}, SlL K G vs ss → SlL K G ws ts → SlL K G (vs ++ ws) (ss ++ ts)
  | _, _, _, _, .nil, b => b
  | _, _, _, _, .cons a t, b => .cons a (t.append b)
theorem SlL.set {v : V} {s : Sl} (a : SlAt K G v s) : ∀ {vs : List V} {ss : List Sl} (i : Nat), SlL K G vs ss → SlL K G (vs.set i v) (ss.set i s)
  | _, _, _, .nil => .nil
  | _, _, 0, .cons _ b => .cons a b
  | _, _, i + 1, .cons h b => .cons h (b.set a i)
theorem SlL.take : ∀ {vs : List V} {ss : List Sl} (n : Nat), SlL K G vs ss → SlL K G (vs.take n) (ss.take n)
  | _, _, 0, _ => .nil
  | _, _, _ + 1, .nil => .nil
  | _, _, n + 1, .cons a b => .cons a (b.take n)
theorem SlL.drop : ∀ {vs : List V} {ss : List Sl} (n : Nat), SlL K G vs ss → SlL K G (vs.drop n) (ss.drop n)
  | _, _, 0, h => h
  | _, _, _ + 1, .nil => .nil
  | _, _, n + 1, .cons _ b => b.drop n
theorem AtL.sl : ∀ {vs : List V} {ds : List PyData}, AtL K G vs ds → SlL K G vs (ds.map Sl.d)
  | _, _, .nil => .nil
  | _, _, .cons a b => .cons (.d a) b.sl
theorem SlL.at : ∀ {vs : List V} {ds : List PyData}, SlL K G vs (ds.map Sl.d) → AtL K G vs ds
  | _, [], .nil => .nil
  | _, _ :: _, .cons (.d a) b => .cons a b.at
theorem AtL.len {vs : List V} {ds : List PyData} (h : AtL K G vs ds) : vs.length = ds.length := by
  have := h.sl.len
  rwa [List.length_map] at this
end
/-- a dict cell's entries -/
def KvAt (K : PySem.W.Frag) (G : Hp) : List (Key × V) → List (Key × Sl) → Prop
  | [], [] => True
  | p :: ps, q :: qs => p.1 = q.1 ∧ SlAt K G p.2 q.2 ∧ KvAt K G ps qs
  | _, _ => False
theorem KvAt.mono {K : PySem.W.Frag} {G G' : Hp} (e : Ex G G') : ∀ {ps : List (Key × V)} {qs : List (Key × Sl)}, KvAt K G ps qs → KvAt K G' ps qs
  | [], [], _ => trivial
  | _ :: _, _ :: _, ⟨a, b, c⟩ => ⟨a, b.mono e, KvAt.mono e c⟩
  | [], _ :: _, h => h.elim
  | _ :: _, [], h => h.elim
def CellOk (K : PySem.W.Frag) (G H : Hp) (a : Addr) : Cell → Prop
  | .l ss => ∃ xs, H a = some (.lst xs) ∧ SlL K G xs ss
  | .k kvs => ∃ xs, H a = some (.dK xs) ∧ KvAt K G xs kvs
abbrev Lk := List (Addr × Obj × HO)
def VwO (L : Lk) (H : Hp) (a : Addr) (o : HO) : Prop := H a = some o ∨ ∃ x ∈ L, x.1 = a ∧ x.2.2 = o
structure GoodM (K : PySem.W.Frag) (L : Lk) (M : Cs) (G H : Hp) : Prop where
  vw : ∀ a o, G a = some o → VwO L H a o
  cell : ∀ a c, M a = some c → G a = none ∧ CellOk K G H a c
  lk : ∀ x ∈ L, H x.1 = some (.frz x.2.1 x.2.2)
structure GoodS (K : PySem.W.Frag) (G : Hp) (σ : St) (τ : List (Option Sl)) : Prop where
  len : σ.length = τ.length
  get : ∀ (i : Nat) (s : Sl), τ[i]? = some (some s) → ∃ v, σ[i]? = some (some v) ∧ SlAt K G v s
section
variable {K : PySem.W.Frag} {L : Lk} {M : Cs} {G G' H : Hp} {σ : St} {τ : List (Option Sl)}
theorem GoodS.mono (g : GoodS K G σ τ) (e : Ex G G') : GoodS K G' σ τ := ⟨g.len, fun i s h => by
  obtain ⟨v, h1, h2⟩ := g.get i s h
  exact ⟨v, h1, h2.mono e⟩⟩
theorem GoodS.set {v : V} {s : Sl} (g : GoodS K G σ τ) (a : SlAt K G v s) (i : Nat) : GoodS K G (σ.set i (some v)) (τ.set i (some s)) := ⟨by rw [List.length_set, List.length_set, g.len], fun j t h => by
  by_cases e : i = j
  · subst e
    by_cases hl : i < τ.length
    · rw [List.getElem?_set_self hl] at h
      cases h
      exact ⟨v, by rw [List.getElem?_set_self (by rw [g.len]; exact hl)], a⟩
    · rw [List.getElem?_eq_none (by rw [List.length_set]; omega)] at h
      cases h
  · rw [List.getElem?_set_ne e] at h
    obtain ⟨w, h1, h2⟩ := g.get j t h
    exact ⟨w, by rw [List.getElem?_set_ne e]; exact h1, h2⟩⟩
/-- a free address: nothing knows it -/
theorem GoodM.free {p : Addr} (g : GoodM K L M G H) (h : H p = none) : G p = none ∧ M p = none := by
  constructor
  · cases e : G p with
    | none => rfl
    | some o =>
      rcases g.vw p o e with z | ⟨x, hx, z, _⟩
      · rw [h] at z; cases z
      · have y := g.lk x hx
        rw [z, h] at y; cases y
  · cases e : M p with
    | none => rfl
    | some c =>
      have z := (g.cell p c e).2
      cases c with
      | l ss => obtain ⟨xs, z, _⟩ := z; rw [h] at z; cases z
      | k ss => obtain ⟨xs, z, _⟩ := z; rw [h] at z; cases z
theorem rd_upd {p a : Addr} {o u : HO} (h : H p = none) (r : VwO L H a o) : VwO L (upd H p u) a o := by
  rcases r with z | z
  · exact .inl (by rw [upd_ne (ne_of_none z h)]; exact z)
  · exact .inr z
theorem GoodM.rd {a : Addr} {o : HO} (g : GoodM K L M G H) (e : G a = some o) : Rd H a o := by
  rcases g.vw a o e with z | ⟨x, hx, z, w⟩
  · exact .inl z
  · have y := g.lk x hx
    rw [z, w] at y
    exact .inr ⟨_, y⟩
theorem CellOk.mono {a : Addr} {c : Cell} {H' : Hp} (x : CellOk K G H a c) (e : Ex G G') (h : ∀ o, H a = some o → H' a = some o) : CellOk K G' H' a c := by
  cases c with
  | l ss => obtain ⟨xs, h1, h2⟩ := x; exact ⟨xs, h _ h1, h2.mono e⟩
  | k ss => obtain ⟨xs, h1, h2⟩ := x; exact ⟨xs, h _ h1, h2.mono e⟩
/-- new data -/
theorem GoodM.newD {p : Addr} {o : HO} (g : GoodM K L M G H) (h : H p = none) : GoodM K L M (upd G p o) (upd H p o) := by
  have f := g.free h
  refine ⟨fun a u e => ?_, fun a c e => ?_, fun x hx => ?_⟩
  · by_cases ha : a = p
    · subst ha
      rw [upd_same] at e
      cases e
      exact .inl upd_same
    · rw [upd_ne ha] at e
      exact rd_upd h (g.vw a u e)
  · have ha : a ≠ p := neC e f.2
    obtain ⟨z1, z2⟩ := g.cell a c e
    exact ⟨by rw [upd_ne ha]; exact z1, z2.mono (Ex.new f.1) fun o q => by rw [upd_ne ha]; exact q⟩
  · rw [upd_ne (ne_of_none (g.lk x hx) h)]
    exact g.lk x hx
/-- the heap of a cell and a new cell -/
def hoC (xs : List V) : HO := .lst xs
theorem GoodM.newC {p : Addr} {o : HO} {c : Cell} (g : GoodM K L M G H) (h : H p = none) (ok : CellOk K G (upd H p o) p c) : GoodM K L (updC M p c) G (upd H p o) := by
  have f := g.free h
  refine ⟨fun a u e => rd_upd h (g.vw a u e), fun a c' e => ?_, fun x hx => ?_⟩
  · by_cases ha : a = p
    · subst ha
      rw [updC_same] at e
      cases e
      exact ⟨f.1, ok⟩
    · rw [updC_ne ha] at e
      obtain ⟨z1, z2⟩ := g.cell a c' e
      exact ⟨z1, z2.mono (Ex.refl G) fun o q => by rw [upd_ne ha]; exact q⟩
  · rw [upd_ne (ne_of_none (g.lk x hx) h)]
    exact g.lk x hx
/-- a cell is written -/
theorem GoodM.write {p : Addr} {o u : HO} {c c' : Cell} (g : GoodM K L M G H) (hc : M p = some c) (hu : H p = some u) (nf : ∀ b z, u ≠ .frz b z) (ok : CellOk K G (upd H p o) p c') : GoodM K L (updC M p c') G (upd H p o) := by
  have f := g.cell p c hc
  refine ⟨fun a u' e => ?_, fun a c'' e => ?_, fun x hx => ?_⟩
  · have ha : a ≠ p := by
      intro z
      subst z
      rw [f.1] at e
      cases e
    rcases g.vw a u' e with z | z
    · exact .inl (by rw [upd_ne ha]; exact z)
    · exact .inr z
  · by_cases ha : a = p
    · subst ha
      rw [updC_same] at e
      cases e
      exact ⟨f.1, ok⟩
    · rw [updC_ne ha] at e
      obtain ⟨z1, z2⟩ := g.cell a c'' e
      exact ⟨z1, z2.mono (Ex.refl G) fun o q => by rw [upd_ne ha]; exact q⟩
  · have hx' := g.lk x hx
    have ha : x.1 ≠ p := by
      intro z
      rw [z, hu] at hx'
      exact nf _ _ (Option.some.inj hx')
    rw [upd_ne ha]
    exact hx'
/-- a cell becomes data -/
theorem GoodM.freeze {p : Addr} {ds : List PyData} (g : GoodM K L M G H) (hc : M p = some (.l (ds.map .d))) : ∃ G', Ex G G' ∧ GoodM K L (delC M p) G' H ∧ At K G' (.ref p) (.list ds) := by
  obtain ⟨f, xs, h1, h2⟩ := g.cell p _ hc
  refine ⟨upd G p (.lst xs), Ex.new f, ⟨fun a u e => ?_, fun a c e => ?_, g.lk⟩, .lst upd_same (h2.at.mono (Ex.new f))⟩
  · by_cases ha : a = p
    · subst ha
      rw [upd_same] at e
      cases e
      exact .inl h1
    · rw [upd_ne ha] at e
      exact g.vw a u e
  · by_cases ha : a = p
    · subst ha
      rw [delC_same] at e
      cases e
    · rw [delC_ne ha] at e
      obtain ⟨z1, z2⟩ := g.cell a c e
      exact ⟨by rw [upd_ne ha]; exact z1, z2.mono (Ex.new f) fun o q => q⟩
end
end Y

namespace Y
open PySem L2

/-! ### judgements over data -/
section
variable (K : PySem.W.Frag) (L : Lk)
def Ret (G : Hp) (Q : Sl → Cs → Prop) (Q' : VK) : Prop := ∀ s M' v G' H', Q s M' → Ex G G' → GoodM K L M' G' H' → SlAt K G' v s → Q' v H'
def RetB (G : Hp) (Q : Bool → Cs → Prop) (Q' : Bool → Hp → Prop) : Prop := ∀ b M' G' H', Q b M' → Ex G G' → GoodM K L M' G' H' → Q' b H'
def RetA (G : Hp) (Q : List Sl → Cs → Prop) (Q' : List V → Hp → Prop) : Prop := ∀ s M' v G' H', Q s M' → Ex G G' → GoodM K L M' G' H' → SlL K G' v s → Q' v H'
def RetG (G : Hp) (Q : List (Option Sl) → Cs → Prop) (Q' : St → Hp → Prop) : Prop := ∀ τ' M' σ' G' H', Q τ' M' → Ex G G' → GoodM K L M' G' H' → GoodS K G' σ' τ' → Q' σ' H'
def WE (te : TE) (τ : List (Option Sl)) (M : Cs) (Q : Sl → Cs → Prop) : Prop := ∀ σ G H Q', GoodS K G σ τ → GoodM K L M G H → Ret K L G Q Q' → te σ H Q'
def WT (tt : TT) (τ : List (Option Sl)) (M : Cs) (Q : Bool → Cs → Prop) : Prop := ∀ σ G H Q', GoodS K G σ τ → GoodM K L M G H → RetB K L G Q Q' → tt σ H Q'
def WA (ta : TA) (τ : List (Option Sl)) (M : Cs) (Q : List Sl → Cs → Prop) : Prop := ∀ σ G H Q', GoodS K G σ τ → GoodM K L M G H → RetA K L G Q Q' → ta σ H Q'
def WG (g : TG) (s : Sl) (τ : List (Option Sl)) (M : Cs) (Q : List (Option Sl) → Cs → Prop) : Prop := ∀ σ G H v Q', GoodS K G σ τ → GoodM K L M G H → SlAt K G v s → RetG K L G Q Q' → g v σ H Q'
def WGs (g : TGs) (ss : List Sl) (τ : List (Option Sl)) (M : Cs) (Q : List (Option Sl) → Cs → Prop) : Prop := ∀ σ G H vs Q', GoodS K G σ τ → GoodM K L M G H → SlL K G vs ss → RetG K L G Q Q' → g vs σ H Q'
/-- operations on values -/
def R2k (r : R2) (x y : Sl) (M : Cs) (Q : Sl → Cs → Prop) : Prop := ∀ G H v u Q', GoodM K L M G H → SlAt K G v x → SlAt K G u y → Ret K L G Q Q' → r v u H Q'
def RCk (r : List V → Hp → VK → Prop) (xs : List Sl) (M : Cs) (Q : Sl → Cs → Prop) : Prop := ∀ G H vs Q', GoodM K L M G H → SlL K G vs xs → Ret K L G Q Q' → r vs H Q'
structure Ks where
  nx : List (Option Sl) → Cs → Prop
  rt : Sl → Cs → Prop
  bk : List (Option Sl) → Cs → Prop := fun _ _ => False
  ct : List (Option Sl) → Cs → Prop := fun _ _ => False
structure EndsOk (G : Hp) (E : Ks) (D : Ends) : Prop where
  nx : RetG K L G E.nx D.nx
  rt : Ret K L G E.rt D.rt
  bk : RetG K L G E.bk D.bk
  ct : RetG K L G E.ct D.ct
def WS (ts : TS) (τ : List (Option Sl)) (M : Cs) (E : Ks) : Prop := ∀ σ G H D, GoodS K G σ τ → GoodM K L M G H → EndsOk K L G E D → ts D σ H
end
section
variable {K : PySem.W.Frag} {L : Lk} {G G' : Hp}
theorem Ret.mono {Q : Sl → Cs → Prop} {Q' : VK} (k : Ret K L G Q Q') (e : Ex G G') : Ret K L G' Q Q' := fun s M v G2 H2 q e2 => k s M v G2 H2 q (e.trans e2)
theorem RetB.mono {Q : Bool → Cs → Prop} {Q' : Bool → Hp → Prop} (k : RetB K L G Q Q') (e : Ex G G') : RetB K L G' Q Q' := fun b M G2 H2 q e2 => k b M G2 H2 q (e.trans e2)
theorem RetA.mono {Q : List Sl → Cs → Prop} {Q' : List V → Hp → Prop} (k : RetA K L G Q Q') (e : Ex G G') : RetA K L G' Q Q' := fun s M v G2 H2 q e2 => k s M v G2 H2 q (e.trans e2)
theorem RetG.mono {Q : List (Option Sl) → Cs → Prop} {Q' : St → Hp → Prop} (k : RetG K L G Q Q') (e : Ex G G') : RetG K L G' Q Q' := fun s M v G2 H2 q e2 => k s M v G2 H2 q (e.trans e2)
theorem EndsOk.mono {E : Ks} {D : Ends} (k : EndsOk K L G E D) (e : Ex G G') : EndsOk K L G' E D := ⟨k.nx.mono e, k.rt.mono e, k.bk.mono e, k.ct.mono e⟩
theorem Ret.go {Q : Sl → Cs → Prop} {Q' : VK} (k : Ret K L G Q Q') {s : Sl} {M : Cs} {v : V} {H : Hp} (q : Q s M) (g : GoodM K L M G H) (a : SlAt K G v s) : Q' v H := k s M v G H q (Ex.refl G) g a
theorem RetB.go {Q : Bool → Cs → Prop} {Q' : Bool → Hp → Prop} (k : RetB K L G Q Q') {b : Bool} {M : Cs} {H : Hp} (q : Q b M) (g : GoodM K L M G H) : Q' b H := k b M G H q (Ex.refl G) g
theorem RetA.go {Q : List Sl → Cs → Prop} {Q' : List V → Hp → Prop} (k : RetA K L G Q Q') {s : List Sl} {M : Cs} {v : List V} {H : Hp} (q : Q s M) (g : GoodM K L M G H) (a : SlL K G v s) : Q' v H := k s M v G H q (Ex.refl G) g a
theorem RetG.go {Q : List (Option Sl) → Cs → Prop} {Q' : St → Hp → Prop} (k : RetG K L G Q Q') {τ : List (Option Sl)} {M : Cs} {σ : St} {H : Hp} (q : Q τ M) (g : GoodM K L M G H) (a : GoodS K G σ τ) : Q' σ H := k τ M σ G H q (Ex.refl G) g a
end
section
variable (X : Cx) (L : Lk)
abbrev DE (e : Expr) := WE X.K L (sE X e)
abbrev DT (e : Expr) := WT X.K L (sT X e)
abbrev DA (es : List Expr) := WA X.K L (sA X es)
abbrev DG (t : Expr) := WG X.K L (sG X t)
abbrev DS (st : Stmt) := WS X.K L (sS X st)
abbrev DB (st : List Stmt) := WS X.K L (sB X st)
end
section
variable {X : Cx} {L : Lk} {τ : List (Option Sl)} {M : Cs} {Q : Sl → Cs → Prop} {QB : Bool → Cs → Prop} {QA : List Sl → Cs → Prop} {e a b c : Expr} {es : List Expr} {pos : Pos} {E : Ks} {st : Stmt} {sts : List Stmt} {p p2 : Pos}
theorem de_of {te : TE} (h : PE X e te) (w : WE X.K L te τ M Q) : DE X L e τ M Q := fun σ G H Q' gs gm k => e_of h (w σ G H Q' gs gm k)
theorem dt_of {tt : TT} (h : PT X e tt) (w : WT X.K L tt τ M QB) : DT X L e τ M QB := fun σ G H Q' gs gm k => t_of h (w σ G H Q' gs gm k)
theorem da_of {ta : TA} (h : PA X es ta) (w : WA X.K L ta τ M QA) : DA X L es τ M QA := fun σ G H Q' gs gm k => a_of h (w σ G H Q' gs gm k)
theorem ds_of {ts : TS} (h : PS X st ts) (w : WS X.K L ts τ M E) : DS X L st τ M E := fun σ G H D gs gm k => s_of h (w σ G H D gs gm k)
theorem db_of {ts : TS} (h : PSs X sts ts) (w : WS X.K L ts τ M E) : DB X L sts τ M E := fun σ G H D gs gm k => b_of h (w σ G H D gs gm k)
theorem de_imp {Q2 : Sl → Cs → Prop} (w : DE X L e τ M Q2) (h : ∀ s M', Q2 s M' → Q s M') : DE X L e τ M Q := fun σ G H Q' gs gm k => w σ G H Q' gs gm fun s M' v G' H' q => k s M' v G' H' (h s M' q)
/-- names, constants -/
theorem de_name {i : Nat} {x : Str} {s : Sl} (hN : X.N[i]? = some x) (hv : Vis X.env.scope x) (ht : τ[i]? = some (some s)) (q : Q s M) (hd : (x == ("__debug__" : Str)) = false := by decide) (hcd : (x == ("__classdict__" : Str)) = false := by decide) : DE X L (.Name x pos) τ M Q :=
  de_of (pe_var hN hv hd hcd) fun σ G H Q' gs gm k => by
    obtain ⟨v, h1, h2⟩ := gs.get i s ht
    exact ⟨v, h1, k.go q gm h2⟩
theorem de_int {k : Int} {j} (q : Q (.d (.int k)) M) : DE X L (.Constant (.int k) j pos) τ M Q := de_of pe_int fun σ G H Q' gs gm k => k.go q gm (.d (.int _))
theorem de_bl {k : Bool} {j} (q : Q (.d (.bool k)) M) : DE X L (.Constant (.bool k) j pos) τ M Q := de_of pe_bl fun σ G H Q' gs gm k => k.go q gm (.d (.bl _))
theorem de_non {j} (q : Q (.d .none) M) : DE X L (.Constant .none j pos) τ M Q := de_of pe_non fun σ G H Q' gs gm k => k.go q gm (.d .non)
theorem de_str {x : Str} {j} (q : Q (.d (.str x)) M) : DE X L (.Constant (.str x) j pos) τ M Q := de_of pe_str fun σ G H Q' gs gm k => k.go q gm (.d (.str _))
theorem de_type {x : Str} {n : String} (hg : Gl X x) (hm : X.mg x = none) (hv : bootBuiltins x = some (.type n)) (q : Q (.t n) M) (hn : x ≠ "__name__" := by decide) (hdb : (x == ("__debug__" : Str)) = false := by decide) : DE X L (.Name x pos) τ M Q :=
  de_of (te := tC (.ty n)) ⟨fun pins s σ H Q I h => ld_blt I hg hm hv ⟨.ty n, H, I, rfl, h⟩ hn hdb⟩ fun σ G H Q' gs gm k => k.go q gm (.t n)
theorem de_glob {x : Str} {i : Int} {v : Value} (hg : Gl X x) (hm : X.mg x = some v) (hr : RelV (.int i) v) (q : Q (.d (.int i)) M) (hdb : (x == ("__debug__" : Str)) = false := by decide) : DE X L (.Name x pos) τ M Q := de_of (pe_glob hg hm hr hdb) fun σ G H Q' gs gm k => k.go q gm (.d (.int _))
/-- argument lists -/
theorem da_nil (q : QA [] M) : DA X L [] τ M QA := da_of pa_nil fun σ G H Q' gs gm k => k.go q gm .nil
theorem da_cons (w : DE X L e τ M fun s M1 => DA X L es τ M1 fun ss M2 => QA (s :: ss) M2) (hs : starEach (e :: es) X.env = (false, eval e X.env) :: starEach es X.env := by rfl) : DA X L (e :: es) τ M QA :=
  da_of (pa_cons pe_s pa_s hs) fun σ G H Q' gs gm k => w σ G H _ gs gm fun s M1 v G1 H1 q e1 g1 a1 =>
    q σ G1 H1 _ (gs.mono e1) g1 fun ss M2 vs G2 H2 q2 e2 g2 a2 => k (s :: ss) M2 (v :: vs) G2 H2 q2 (e1.trans e2) g2 (.cons (a1.mono e2) a2)
/-- two-place operations -/
theorem we_op {r : R2} (w : DE X L a τ M fun x M1 => DE X L b τ M1 fun y M2 => R2k X.K L r x y M2 Q) : WE X.K L (tOp r (sE X a) (sE X b)) τ M Q := fun σ G H Q' gs gm k =>
  w σ G H _ gs gm fun x M1 v G1 H1 q e1 g1 a1 => q σ G1 H1 _ (gs.mono e1) g1 fun y M2 u G2 H2 q2 e2 g2 a2 => q2 G2 H2 v u Q' g2 (a1.mono e2) a2 (k.mono (e1.trans e2))
theorem de_op {op : Operator} {r : R2} (ho : OpR X (binaryOp op) r) (w : DE X L a τ M fun x M1 => DE X L b τ M1 fun y M2 => R2k X.K L r x y M2 Q) : DE X L (.BinOp a op b pos) τ M Q := de_of (pe_op ho pe_s pe_s) (we_op w)
theorem de_cmp {op : CmpOp} {r : R2} (ho : OpR X (compareOp op) r) (w : DE X L a τ M fun x M1 => DE X L b τ M1 fun y M2 => R2k X.K L r x y M2 Q) (hm : behindInMarks op b = false) : DE X L (.Compare a [op] [b] pos) τ M Q := de_of (pe_cmpR ho pe_s pe_s hm) (we_op w)
/-- a value in the place of a test -/
def BoolQ (QB : Bool → Cs → Prop) : Sl → Cs → Prop := fun s M => ∃ k, s = .d (.bool k) ∧ QB k M
theorem sl_bl {K : PySem.W.Frag} {G : Hp} {v : V} {k : Bool} (a : SlAt K G v (.d (.bool k))) : v = .bl k := by
  cases a with | d a => cases a; rfl
theorem sl_int {K : PySem.W.Frag} {G : Hp} {v : V} {k : Int} (a : SlAt K G v (.d (.int k))) : v = .int k := by
  cases a with | d a => cases a; rfl
theorem sl_str {K : PySem.W.Frag} {G : Hp} {v : V} {k : Str} (a : SlAt K G v (.d (.str k))) : v = .str k := by
  cases a with | d a => cases a; rfl
theorem sl_non {K : PySem.W.Frag} {G : Hp} {v : V} (a : SlAt K G v (.d .none)) : v = .non := by
  cases a with | d a => cases a; rfl
theorem sl_t {K : PySem.W.Frag} {G : Hp} {v : V} {n : String} (a : SlAt K G v (.t n)) : v = .ty n := by
  cases a; rfl
theorem sl_c {K : PySem.W.Frag} {G : Hp} {v : V} {n : Addr} (a : SlAt K G v (.c n)) : v = .ref n := by
  cases a; rfl
theorem dt_cmp {op : CmpOp} {r : R2} (ho : OpR X (compareOp op) r) (w : DE X L a τ M fun x M1 => DE X L b τ M1 fun y M2 => R2k X.K L r x y M2 (BoolQ QB)) (hm : behindInMarks op b = false) : DT X L (.Compare a [op] [b] pos) τ M QB :=
  dt_of (pt_cmpR ho pe_s pe_s hm) fun σ G H Q' gs gm k => we_op w σ G H _ gs gm fun s M1 v G1 H1 ⟨d, e, q⟩ e1 g1 a1 => by
    subst e
    exact ⟨d, sl_bl a1, k d M1 G1 H1 q e1 g1⟩
theorem dt_val (w : DE X L e τ M (BoolQ QB)) (he : ∀ whole, isTrue e X.env whole = (do let v ← whole; standAt e.pos; holding [v] (truthy v)) := by intro _; rfl) : DT X L e τ M QB :=
  dt_of (pt_val pe_s he) fun σ G H Q' gs gm k => w σ G H _ gs gm fun s M1 v G1 H1 ⟨d, e, q⟩ e1 g1 a1 => by
    subst e
    exact ⟨d, sl_bl a1, k d M1 G1 H1 q e1 g1⟩
/-- chains -/
theorem we_chain {r r' : R2} (w : DE X L a τ M fun x M1 => DE X L b τ M1 fun y M2 => R2k X.K L r x y M2 (BoolQ fun d M3 => (d = true → DE X L c τ M3 fun z M4 => R2k X.K L r' y z M4 Q) ∧ (d = false → Q (.d (.bool false)) M3))) :
    WE X.K L (tChain r r' (sE X a) (sE X b) (sE X c)) τ M Q := fun σ G H Q' gs gm k =>
  w σ G H _ gs gm fun x M1 v G1 H1 q e1 g1 a1 => q σ G1 H1 _ (gs.mono e1) g1 fun y M2 u G2 H2 q2 e2 g2 a2 => q2 G2 H2 v u _ g2 (a1.mono e2) a2 fun s M3 z G3 H3 ⟨d, e, q3, q4⟩ e3 g3 a3 => by
    subst e
    refine ⟨d, sl_bl a3, ?_⟩
    have e13 := (e1.trans e2).trans e3
    cases d with
    | true =>
      rw [if_pos rfl]
      exact q3 rfl σ G3 H3 _ (gs.mono e13) g3 fun t M4 w' G4 H4 q5 e4 g4 a4 => q5 G4 H4 u w' Q' g4 ((a2.mono e3).mono e4) a4 (k.mono (e13.trans e4))
    | false =>
      rw [if_neg Bool.false_ne_true]
      exact (k.mono e13).go (q4 rfl) g3 (.d (.bl false))
theorem de_chain {op op' : CmpOp} {r r' : R2} (ho : OpR X (compareOp op) r) (ho' : OpR X (compareOp op') r')
    (w : DE X L a τ M fun x M1 => DE X L b τ M1 fun y M2 => R2k X.K L r x y M2 (BoolQ fun d M3 => (d = true → DE X L c τ M3 fun z M4 => R2k X.K L r' y z M4 Q) ∧ (d = false → Q (.d (.bool false)) M3)))
    (hm : lastMarks [op, op'] [b, c] = false := by with_unfolding_all rfl) : DE X L (.Compare a [op, op'] [b, c] pos) τ M Q := de_of (pe_chain ho ho' pe_s pe_s pe_s hm) (we_chain w)
theorem dt_chain {op op' : CmpOp} {r r' : R2} (ho : OpR X (compareOp op) r) (ho' : OpR X (compareOp op') r')
    (w : DE X L a τ M fun x M1 => DE X L b τ M1 fun y M2 => R2k X.K L r x y M2 (BoolQ fun d M3 => (d = true → DE X L c τ M3 fun z M4 => R2k X.K L r' y z M4 (BoolQ QB)) ∧ (d = false → QB false M3)))
    (hm : lastMarks [op, op'] [b, c] = false := by with_unfolding_all rfl) : DT X L (.Compare a [op, op'] [b, c] pos) τ M QB :=
  dt_of (pt_chain ho ho' pe_s pe_s pe_s hm) fun σ G H Q' gs gm k => we_chain (Q := BoolQ QB) (de_imp w fun x M1 q => de_imp q fun y M2 q2 => fun G H v u Q' g a1 a2 k => q2 G H v u Q' g a1 a2 fun s M3 z G3 H3 ⟨d, e, q3, q4⟩ => k s M3 z G3 H3 ⟨d, e, q3, fun z => ⟨false, rfl, q4 z⟩⟩) σ G H _ gs gm fun s M1 v G1 H1 ⟨d, e, q⟩ e1 g1 a1 => by
    subst e
    exact ⟨d, sl_bl a1, k d M1 G1 H1 q e1 g1⟩
/-! and, or, not as tests -/
variable {rest : List Expr}
def DW (X : Cx) (L : Lk) (e : Expr) (τ : List (Option Sl)) (M : Cs) (QB : Bool → Cs → Prop) : Prop := ∃ tt, PW X e tt ∧ WT X.K L tt τ M QB
theorem dt_not (w : DT X L a τ M fun k M1 => QB (!k) M1) : DT X L (.UnaryOp .Not a pos) τ M QB := dt_of (pt_not pt_s) fun σ G H Q' gs gm k => w σ G H _ gs gm fun d M1 G1 H1 q e1 g1 => k _ M1 G1 H1 q e1 g1
theorem dt_and2 (w : DT X L a τ M fun k M1 => (k = true → DT X L b τ M1 QB) ∧ (k = false → QB false M1)) : DT X L (.BoolOp .And [a, b] pos) τ M QB :=
  dt_of (pw_and pt_s (pw_and1 pt_s)).pt fun σ G H Q' gs gm k => w σ G H _ gs gm fun d M1 G1 H1 q e1 g1 => by
    cases d with
    | true => rw [if_pos rfl]; exact q.1 rfl σ G1 H1 Q' (gs.mono e1) g1 (k.mono e1)
    | false => rw [if_neg Bool.false_ne_true]; exact (k.mono e1).go (q.2 rfl) g1
theorem dt_or2 (w : DT X L a τ M fun k M1 => (k = true → QB true M1) ∧ (k = false → DT X L b τ M1 QB)) : DT X L (.BoolOp .Or [a, b] pos) τ M QB :=
  dt_of (pw_or pt_s (pw_or1 pt_s)).pt fun σ G H Q' gs gm k => w σ G H _ gs gm fun d M1 G1 H1 q e1 g1 => by
    cases d with
    | false => rw [if_neg Bool.false_ne_true]; exact q.2 rfl σ G1 H1 Q' (gs.mono e1) g1 (k.mono e1)
    | true => rw [if_pos rfl]; exact (k.mono e1).go (q.1 rfl) g1
theorem dt_and3 (w : DT X L a τ M fun k M1 => (k = true → DT X L b τ M1 fun k2 M2 => (k2 = true → DT X L c τ M2 QB) ∧ (k2 = false → QB false M2)) ∧ (k = false → QB false M1)) : DT X L (.BoolOp .And [a, b, c] pos) τ M QB :=
  dt_of (pw_and pt_s (pw_and pt_s (pw_and1 pt_s))).pt fun σ G H Q' gs gm k => w σ G H _ gs gm fun d M1 G1 H1 q e1 g1 => by
    cases d with
    | true =>
      rw [if_pos rfl]
      refine q.1 rfl σ G1 H1 _ (gs.mono e1) g1 fun d2 M2 G2 H2 q2 e2 g2 => ?_
      cases d2 with
      | true => rw [if_pos rfl]; exact q2.1 rfl σ G2 H2 Q' (gs.mono (e1.trans e2)) g2 (k.mono (e1.trans e2))
      | false => rw [if_neg Bool.false_ne_true]; exact (k.mono (e1.trans e2)).go (q2.2 rfl) g2
    | false => rw [if_neg Bool.false_ne_true]; exact (k.mono e1).go (q.2 rfl) g1
theorem dt_or3 (w : DT X L a τ M fun k M1 => (k = true → QB true M1) ∧ (k = false → DT X L b τ M1 fun k2 M2 => (k2 = true → QB true M2) ∧ (k2 = false → DT X L c τ M2 QB))) : DT X L (.BoolOp .Or [a, b, c] pos) τ M QB :=
  dt_of (pw_or pt_s (pw_or pt_s (pw_or1 pt_s))).pt fun σ G H Q' gs gm k => w σ G H _ gs gm fun d M1 G1 H1 q e1 g1 => by
    cases d with
    | false =>
      rw [if_neg Bool.false_ne_true]
      refine q.2 rfl σ G1 H1 _ (gs.mono e1) g1 fun d2 M2 G2 H2 q2 e2 g2 => ?_
      cases d2 with
      | false => rw [if_neg Bool.false_ne_true]; exact q2.2 rfl σ G2 H2 Q' (gs.mono (e1.trans e2)) g2 (k.mono (e1.trans e2))
      | true => rw [if_pos rfl]; exact (k.mono (e1.trans e2)).go (q2.1 rfl) g2
    | true => rw [if_pos rfl]; exact (k.mono e1).go (q.1 rfl) g1
/-- .. as values -/
theorem de_one {op} (w : DE X L a τ M Q) : DE X L (.BoolOp op [a] pos) τ M Q := de_of (pe_one pe_s) w
theorem de_and (w : DE X L a τ M (BoolQ fun k M1 => (k = true → DE X L (.BoolOp .And (b :: rest) pos) τ M1 Q) ∧ (k = false → Q (.d (.bool false)) M1))) : DE X L (.BoolOp .And (a :: b :: rest) pos) τ M Q :=
  de_of (pe_and pe_s pe_s) fun σ G H Q' gs gm k => w σ G H _ gs gm fun s M1 v G1 H1 ⟨d, e, q⟩ e1 g1 a1 => by
    subst e
    refine ⟨d, sl_bl a1, ?_⟩
    cases d with
    | true => rw [if_pos rfl]; exact q.1 rfl σ G1 H1 Q' (gs.mono e1) g1 (k.mono e1)
    | false => rw [if_neg Bool.false_ne_true]; exact (k.mono e1).go (q.2 rfl) g1 (.d (.bl false))
theorem de_or (w : DE X L a τ M (BoolQ fun k M1 => (k = true → Q (.d (.bool true)) M1) ∧ (k = false → DE X L (.BoolOp .Or (b :: rest) pos) τ M1 Q))) : DE X L (.BoolOp .Or (a :: b :: rest) pos) τ M Q :=
  de_of (pe_or pe_s pe_s) fun σ G H Q' gs gm k => w σ G H _ gs gm fun s M1 v G1 H1 ⟨d, e, q⟩ e1 g1 a1 => by
    subst e
    refine ⟨d, sl_bl a1, ?_⟩
    cases d with
    | false => rw [if_neg Bool.false_ne_true]; exact q.2 rfl σ G1 H1 Q' (gs.mono e1) g1 (k.mono e1)
    | true => rw [if_pos rfl]; exact (k.mono e1).go (q.1 rfl) g1 (.d (.bl true))
theorem de_not (w : DE X L a τ M (BoolQ fun k M1 => Q (.d (.bool (!k))) M1)) : DE X L (.UnaryOp .Not a pos) τ M Q :=
  de_of (pe_not pe_s) fun σ G H Q' gs gm k => w σ G H _ gs gm fun s M1 v G1 H1 ⟨d, e, q⟩ e1 g1 a1 => by
    subst e
    exact ⟨d, sl_bl a1, (k.mono e1).go q g1 (.d (.bl _))⟩
theorem de_if (w : DT X L c τ M fun k M1 => (k = true → DE X L a τ M1 Q) ∧ (k = false → DE X L b τ M1 Q)) : DE X L (.IfExp c a b pos) τ M Q :=
  de_of (pe_ifExp pt_s pe_s pe_s) fun σ G H Q' gs gm k => w σ G H _ gs gm fun d M1 G1 H1 q e1 g1 => by
    cases d with
    | true => rw [if_pos rfl]; exact q.1 rfl σ G1 H1 Q' (gs.mono e1) g1 (k.mono e1)
    | false => rw [if_neg Bool.false_ne_true]; exact q.2 rfl σ G1 H1 Q' (gs.mono e1) g1 (k.mono e1)
/-- negation of an int -/
theorem de_neg (w : DE X L a τ M fun s M1 => ∃ i, s = .d (.int i) ∧ Q (.d (.int (-i))) M1) : DE X L (.UnaryOp .USub a pos) τ M Q :=
  de_of (pe_un un_neg pe_s) fun σ G H Q' gs gm k => w σ G H _ gs gm fun s M1 v G1 H1 ⟨i, e, q⟩ e1 g1 a1 => by
    subst e
    exact ⟨i, sl_int a1, (k.mono e1).go q g1 (.d (.int _))⟩
/-! ### displays -/
theorem de_tup (w : DA X L es τ M fun ss M1 => ss.length ≤ sizeLine ∧ Q (.u ss) M1) {x1} : DE X L (.Tuple es x1 pos) τ M Q :=
  de_of (pe_tup pa_s) fun σ G H Q' gs gm k => w σ G H _ gs gm fun ss M1 vs G1 H1 ⟨hl, q⟩ e1 g1 a1 => ⟨by rw [a1.len]; exact hl, fun p hp =>
    k (.u ss) M1 (.ref p) (upd G1 p (.tup vs)) _ q (e1.trans (Ex.new (g1.free hp).1)) (g1.newD hp) (.u upd_same (a1.mono (Ex.new (g1.free hp).1)))⟩
theorem de_tupD (w : DA X L es τ M fun ss M1 => ∃ ds : List PyData, ss = ds.map Sl.d ∧ ds.length ≤ sizeLine ∧ Q (.d (.tuple ds)) M1) {x1} : DE X L (.Tuple es x1 pos) τ M Q :=
  de_of (pe_tup pa_s) fun σ G H Q' gs gm k => w σ G H _ gs gm fun ss M1 vs G1 H1 ⟨ds, e, hl, q⟩ e1 g1 a1 => by
    subst e
    exact ⟨by rw [a1.len, List.length_map]; exact hl, fun p hp =>
      k (.d (.tuple ds)) M1 (.ref p) (upd G1 p (.tup vs)) _ q (e1.trans (Ex.new (g1.free hp).1)) (g1.newD hp) (.d (.tup upd_same (a1.at.mono (Ex.new (g1.free hp).1))))⟩
theorem de_lstD (w : DA X L es τ M fun ss M1 => ∃ ds : List PyData, ss = ds.map Sl.d ∧ ds.length ≤ sizeLine ∧ Q (.d (.list ds)) M1) : DE X L (.List es pos) τ M Q :=
  de_of (pe_lst pa_s) fun σ G H Q' gs gm k => w σ G H _ gs gm fun ss M1 vs G1 H1 ⟨ds, e, hl, q⟩ e1 g1 a1 => by
    subst e
    exact ⟨by rw [a1.len, List.length_map]; exact hl, fun p hp =>
      k (.d (.list ds)) M1 (.ref p) (upd G1 p (.lst vs)) _ q (e1.trans (Ex.new (g1.free hp).1)) (g1.newD hp) (.d (.lst upd_same (a1.at.mono (Ex.new (g1.free hp).1))))⟩
theorem de_lstC (w : DA X L es τ M fun ss M1 => ss.length ≤ sizeLine ∧ ∀ p, M1 p = none → Q (.c p) (updC M1 p (.l ss))) : DE X L (.List es pos) τ M Q :=
  de_of (pe_lst pa_s) fun σ G H Q' gs gm k => w σ G H _ gs gm fun ss M1 vs G1 H1 ⟨hl, q⟩ e1 g1 a1 => ⟨by rw [a1.len]; exact hl, fun p hp =>
    k (.c p) (updC M1 p (.l ss)) (.ref p) G1 _ (q p (g1.free hp).2) e1 (g1.newC hp ⟨vs, upd_same, a1⟩) (.c p)⟩
theorem de_dictC (q : ∀ p, M p = none → Q (.c p) (updC M p (.k []))) : DE X L (.Dict [] [] pos) τ M Q :=
  de_of pe_dnewK fun σ G H Q' gs gm k p hp => k (.c p) (updC M p (.k [])) (.ref p) G _ (q p (gm.free hp).2) (Ex.refl G) (gm.newC hp ⟨[], upd_same, trivial⟩) (.c p)
/-- a cell of data becomes data -/
theorem de_frz (w : DE X L e τ M fun s M1 => ∃ p ds, s = .c p ∧ M1 p = some (.l (ds.map .d)) ∧ Q (.d (.list ds)) (delC M1 p)) : DE X L e τ M Q := fun σ G H Q' gs gm k =>
  w σ G H _ gs gm fun s M1 v G1 H1 ⟨p, ds, e, hp, q⟩ e1 g1 a1 => by
    subst e
    obtain ⟨G2, e2, g2, a2⟩ := g1.freeze hp
    rw [sl_c a1]
    exact k _ _ _ G2 H1 q (e1.trans e2) g2 (.d a2)
end
end Y

namespace Y
open PySem L2 PyProof.Rows

/-! ### sequences -/
def dI (i : Int) : Sl := .d (.int i)
def seqOf (M : Cs) : Sl → Option (List Sl)
  | .d (.list ds) => some (ds.map .d)
  | .d (.tuple ds) => some (ds.map .d)
  | .u ss => some ss
  | .s ns => some (ns.map dI)
  | .c a => match M a with
    | some (.l ss) => some ss
    | _ => none
  | _ => none
def isTup : Sl → Bool
  | .d (.tuple _) => true
  | .u _ => true
  | _ => false
section
variable {K : PySem.W.Frag} {L : Lk} {M : Cs} {G H : Hp} {v : V} {s : Sl} {ss : List Sl}
theorem ints_sl : ∀ ns : List Int, SlL K G (ns.map V.int) (ns.map dI)
  | [] => .nil
  | n :: r => .cons (.d (.int n)) (ints_sl r)
theorem seq_at (g : GoodM K L M G H) (a : SlAt K G v s) (h : seqOf M s = some ss) : ∃ p xs, v = .ref p ∧ (if isTup s = true then SqT K H p xs else SqL K H p xs) ∧ SlL K G xs ss := by
  cases a with
  | d a =>
    cases a with
    | lst e l =>
      cases h
      exact ⟨_, _, rfl, .inl (g.rd e), l.sl⟩
    | tup e l =>
      cases h
      exact ⟨_, _, rfl, .inl (g.rd e), l.sl⟩
    | non => cases h
    | bl => cases h
    | int => cases h
    | str => cases h
    | dic => cases h
  | c p =>
    cases e : M p with
    | none => simp only [seqOf, e] at h; cases h
    | some c =>
      cases c with
      | k kvs => simp only [seqOf, e] at h; cases h
      | l ts =>
        simp only [seqOf, e] at h
        cases h
        obtain ⟨_, xs, h1, h2⟩ := g.cell p _ e
        exact ⟨p, xs, rfl, SqL.of h1, h2⟩
  | t n => cases h
  | u e l =>
    cases h
    exact ⟨_, _, rfl, .inl (g.rd e), l⟩
  | s e =>
    cases h
    refine ⟨_, _, rfl, ?_, ints_sl _⟩
    show SqL K H _ _
    rcases e with e | e
    · exact .inl (g.rd e)
    · exact .inr e
theorem seq_at' (g : GoodM K L M G H) (a : SlAt K G v s) (h : seqOf M s = some ss) : ∃ p xs, v = .ref p ∧ (SqL K H p xs ∨ SqT K H p xs) ∧ SlL K G xs ss := by
  obtain ⟨p, xs, e, q, l⟩ := seq_at g a h
  refine ⟨p, xs, e, ?_, l⟩
  cases z : isTup s with
  | true => rw [z, if_pos rfl] at q; exact .inr q
  | false => rw [z, if_neg Bool.false_ne_true] at q; exact .inl q
theorem atI_sl {xs : List V} {i : Int} {x : Sl} (l : SlL K G xs ss) (h : atI ss i = some x) : ∃ v, atI xs i = some v ∧ SlAt K G v x := by
  unfold atI at h ⊢
  rw [l.len]
  cases e : ixN ss.length i with
  | none => rw [e] at h; cases h
  | some j =>
    rw [e] at h
    obtain ⟨v, h1, h2⟩ := l.get (i := j) h
    exact ⟨v, h1, h2⟩
def cutG {α : Type} (xs : List α) (lo hi : Option Int) : List α := (xs.drop (HT.sIx xs.length 0 lo)).take (HT.sIx xs.length xs.length hi - HT.sIx xs.length 0 lo)
theorem cut_sl {xs : List V} (l : SlL K G xs ss) (lo hi : Option Int) : SlL K G (cutV xs lo hi) (cutG ss lo hi) := by
  unfold cutV cutG
  rw [l.len]
  exact (l.drop _).take _
end
section
variable {X : Cx} {L : Lk} {τ : List (Option Sl)} {M : Cs} {Q : Sl → Cs → Prop} {QB : Bool → Cs → Prop} {QA : List Sl → Cs → Prop} {e a b c : Expr} {es : List Expr} {pos : Pos} {E : Ks} {st : Stmt} {sts : List Stmt} {p p2 : Pos} {x y : Sl}
/-- what operations ask -/
theorem k_int {K : PySem.W.Frag} {f : Int → Int → Int} {i j : Int} (q : Q (.d (.int (f i j))) M) : R2k K L (rI0 fun i j => .int (f i j)) (.d (.int i)) (.d (.int j)) M Q := fun G H v u Q' g a1 a2 k => ⟨i, j, sl_int a1, sl_int a2, k.go q g (.d (.int _))⟩
theorem k_intC {K : PySem.W.Frag} {C : Int → Int → Prop} {f : Int → Int → Int} {i j : Int} (hc : C i j) (q : Q (.d (.int (f i j))) M) : R2k K L (rI C fun i j => .int (f i j)) (.d (.int i)) (.d (.int j)) M Q := fun G H v u Q' g a1 a2 k => ⟨i, j, sl_int a1, sl_int a2, hc, k.go q g (.d (.int _))⟩
theorem k_bool {K : PySem.W.Frag} {f : Int → Int → Bool} {i j : Int} (q : Q (.d (.bool (f i j))) M) : R2k K L (rI0 fun i j => .bl (f i j)) (.d (.int i)) (.d (.int j)) M Q := fun G H v u Q' g a1 a2 k => ⟨i, j, sl_int a1, sl_int a2, k.go q g (.d (.bl _))⟩
theorem de_add (w : DE X L a τ M fun x M1 => DE X L b τ M1 fun y M2 => ∃ i j, x = .d (.int i) ∧ y = .d (.int j) ∧ Q (.d (.int (i + j))) M2) : DE X L (.BinOp a .Add b pos) τ M Q :=
  de_op op_add (de_imp w fun x M1 q0 => de_imp q0 fun y M2 ⟨i, j, e1, e2, q1⟩ => by subst e1 e2; exact k_int q1)
theorem de_sub (w : DE X L a τ M fun x M1 => DE X L b τ M1 fun y M2 => ∃ i j, x = .d (.int i) ∧ y = .d (.int j) ∧ Q (.d (.int (i - j))) M2) : DE X L (.BinOp a .Sub b pos) τ M Q :=
  de_op op_sub (de_imp w fun x M1 q0 => de_imp q0 fun y M2 ⟨i, j, e1, e2, q1⟩ => by subst e1 e2; exact k_int q1)
theorem de_mul (w : DE X L a τ M fun x M1 => DE X L b τ M1 fun y M2 => ∃ i j, x = .d (.int i) ∧ y = .d (.int j) ∧ CMul i j ∧ Q (.d (.int (i * j))) M2) : DE X L (.BinOp a .Mult b pos) τ M Q :=
  de_op op_mul (de_imp w fun x M1 q0 => de_imp q0 fun y M2 ⟨i, j, e1, e2, c, q1⟩ => by subst e1 e2; exact k_intC c q1)
theorem de_mod (w : DE X L a τ M fun x M1 => DE X L b τ M1 fun y M2 => ∃ i j, x = .d (.int i) ∧ y = .d (.int j) ∧ 0 < j ∧ Q (.d (.int (i % j))) M2) : DE X L (.BinOp a .Mod b pos) τ M Q :=
  de_op op_mod (de_imp w fun x M1 q0 => de_imp q0 fun y M2 ⟨i, j, e1, e2, c, q1⟩ => by subst e1 e2; exact k_intC c q1)
theorem de_div (w : DE X L a τ M fun x M1 => DE X L b τ M1 fun y M2 => ∃ i j, x = .d (.int i) ∧ y = .d (.int j) ∧ CDivW i j ∧ Q (.d (.int (i / j))) M2) : DE X L (.BinOp a .FloorDiv b pos) τ M Q :=
  de_op op_fdivW (de_imp w fun x M1 q0 => de_imp q0 fun y M2 ⟨i, j, e1, e2, c, q1⟩ => by subst e1 e2; exact k_intC c q1)
def CPowW (i j : Int) : Prop := 0 ≤ j ∧ (Builtin.Int.intBits i : Int) * j ≤ 2 ^ 27
theorem op_powW : OpR X (binaryOp .Pow) (rI CPowW fun i j => .int (i ^ j.toNat)) := opI fun _ _ _ _ _ _ _ hc q => PyProof.Rows.pow_int hc.1 hc.2 q
theorem de_pow (w : DE X L a τ M fun x M1 => DE X L b τ M1 fun y M2 => ∃ i j, x = .d (.int i) ∧ y = .d (.int j) ∧ CPowW i j ∧ Q (.d (.int (i ^ j.toNat))) M2) : DE X L (.BinOp a .Pow b pos) τ M Q :=
  de_op op_powW (de_imp w fun x M1 q0 => de_imp q0 fun y M2 ⟨i, j, e1, e2, c, q1⟩ => by subst e1 e2; exact k_intC c q1)
/-- lists joined -/
def lstOf (M : Cs) : Sl → Option (List Sl)
  | .d (.list ds) => some (ds.map .d)
  | .c a => match M a with
    | some (.l ss) => some ss
    | _ => none
  | _ => none
theorem lst_at {K : PySem.W.Frag} {G H : Hp} {v : V} {s : Sl} {ss : List Sl} (g : GoodM K L M G H) (a : SlAt K G v s) (h : lstOf M s = some ss) : ∃ p xs, v = .ref p ∧ Rd H p (.lst xs) ∧ SlL K G xs ss := by
  cases a with
  | d a =>
    cases a with
    | lst e l =>
      cases h
      exact ⟨_, _, rfl, g.rd e, l.sl⟩
    | tup e l => cases h
    | non => cases h
    | bl => cases h
    | int => cases h
    | str => cases h
    | dic => cases h
  | c p =>
    cases e : M p with
    | none => simp only [lstOf, e] at h; cases h
    | some c =>
      cases c with
      | k kvs => simp only [lstOf, e] at h; cases h
      | l ts =>
        simp only [lstOf, e] at h
        cases h
        obtain ⟨_, xs, h1, h2⟩ := g.cell p _ e
        exact ⟨p, xs, rfl, .inl h1, h2⟩
  | t n => cases h
  | u e l => cases h
  | s e => cases h
def rCatR : R2 := fun x y H Q => ∃ l b xs zs, x = .ref l ∧ y = .ref b ∧ Rd H l (.lst xs) ∧ Rd H b (.lst zs) ∧ xs.length + zs.length ≤ sizeLine ∧ ∀ p, H p = none → Q (.ref p) (upd H p (.lst (xs ++ zs)))
theorem op_catR : OpR X (binaryOp .Add) rCatR := by
  intro pins s σ H x y v u Q I rx ry h
  obtain ⟨l, b, xs, zs, rfl, rfl, hH, hB, hz, q⟩ := h
  cases rx
  cases ry
  obtain ⟨z, its, n, r, e⟩ := hH.ok I.hok
  obtain ⟨z2, its2, n2, r2, e2⟩ := hB.ok I.hok
  refine PySem.P.add_list e e2 ?_ (by rw [List.size_toArray, List.size_toArray]; have := r.length; have := r2.length; omega)
  have ea : its.toArray ++ its2.toArray = (its ++ its2).toArray := by simp
  rw [ea]
  exact ⟨.ref _, _, I.lnew (t' := s.toks) (r.append r2) (by rw [List.length_append]; omega), rfl, q _ I.fresh⟩
theorem de_cat (w : DE X L a τ M fun x M1 => DE X L b τ M1 fun y M2 => ∃ ss ts, lstOf M2 x = some ss ∧ lstOf M2 y = some ts ∧ ss.length + ts.length ≤ sizeLine ∧ ∀ p, M2 p = none → Q (.c p) (updC M2 p (.l (ss ++ ts)))) : DE X L (.BinOp a .Add b pos) τ M Q :=
  de_op op_catR (de_imp w fun x M1 q => de_imp q fun y M2 ⟨ss, ts, e1, e2, hl, q⟩ => fun G H v u Q' g a1 a2 k => by
    obtain ⟨p1, xs, rfl, r1, l1⟩ := lst_at g a1 e1
    obtain ⟨p2, zs, rfl, r2, l2⟩ := lst_at g a2 e2
    exact ⟨p1, p2, xs, zs, rfl, rfl, r1, r2, by rw [l1.len, l2.len]; exact hl, fun p hp => k _ _ _ G _ (q p (g.free hp).2) (Ex.refl G) (g.newC hp ⟨_, upd_same, l1.append l2⟩) (.c p)⟩)
/-- subscripts -/
theorem de_ix (w : DE X L a τ M fun x M1 => DE X L b τ M1 fun y M2 => ∃ ss i z, seqOf M2 x = some ss ∧ y = .d (.int i) ∧ atI ss i = some z ∧ Q z M2) (hs : PlainIx b := by exact fun _ _ => rfl) : DE X L (.Subscript a b pos) τ M Q :=
  de_of (pe_ix ix_seq pe_s pe_s hs) (we_op (de_imp w fun x M1 q => de_imp q fun y M2 ⟨ss, i, z, e1, e2, ha, q⟩ => fun G H v u Q' g a1 a2 k => by
    subst e2
    obtain ⟨p, xs, rfl, r, l⟩ := seq_at' g a1 e1
    obtain ⟨w', hw, sw⟩ := atI_sl l ha
    rcases r with r | r
    · exact .inl ⟨p, xs, i, w', rfl, sl_int a2, r, hw, k.go q g sw⟩
    · exact .inr (.inl ⟨p, xs, i, w', rfl, sl_int a2, r, hw, k.go q g sw⟩)))
/-- slices of lists -/
def sO (o : Option Expr) (X : Cx) (L : Lk) (τ : List (Option Sl)) (M : Cs) (Q : Option Int → Cs → Prop) : Prop := match o with
  | none => Q none M
  | some e => DE X L e τ M fun s M1 => ∃ i, s = .d (.int i) ∧ Q (some i) M1
theorem de_sl {lo hi : Option Expr} (w : DE X L a τ M fun x M1 => sO lo X L τ M1 fun l M2 => sO hi X L τ M2 fun h M3 => ∃ ss, isTup x = false ∧ seqOf M3 x = some ss ∧ ∀ p, M3 p = none → Q (.c p) (updC M3 p (.l (cutG ss l h)))) :
    DE X L (.Subscript a (.Slice lo hi none p2) pos) τ M Q := by
  have fin : ∀ {x : Sl} {l h : Option Int} {M3 : Cs} {v : V} {G H : Hp} {Q' : VK}, GoodM X.K L M3 G H → SlAt X.K G v x → Ret X.K L G Q Q' → (∃ ss, isTup x = false ∧ seqOf M3 x = some ss ∧ ∀ p, M3 p = none → Q (.c p) (updC M3 p (.l (cutG ss l h)))) → rSlL X.K v l h H Q' := by
    intro x l h M3 v G H Q' g a1 k ⟨ss, hT, hs, q⟩
    obtain ⟨p, xs, rfl, r, ll⟩ := seq_at g a1 hs
    rw [hT, if_neg Bool.false_ne_true] at r
    exact ⟨p, xs, rfl, r, fun c hc => k _ _ _ G _ (q c (g.free hc).2) (Ex.refl G) (g.newC hc ⟨_, upd_same, cut_sl ll l h⟩) (.c c)⟩
  cases lo with
  | none =>
    cases hi with
    | none =>
      exact de_of (pe_slice sl_list pe_s po_none po_none) fun σ G H Q' gs gm k => w σ G H _ gs gm fun x M1 v G1 H1 q e1 g1 a1 => fin g1 a1 (k.mono e1) q
    | some b =>
      exact de_of (pe_slice sl_list pe_s po_none (po_some pe_s)) fun σ G H Q' gs gm k => w σ G H _ gs gm fun x M1 v G1 H1 q e1 g1 a1 => q σ G1 H1 _ (gs.mono e1) g1 fun y M2 u G2 H2 ⟨i, ei, q2⟩ e2 g2 a2 => by
        subst ei
        exact ⟨i, sl_int a2, fin g2 (a1.mono e2) (k.mono (e1.trans e2)) q2⟩
  | some b =>
    cases hi with
    | none =>
      exact de_of (pe_slice sl_list pe_s (po_some pe_s) po_none) fun σ G H Q' gs gm k => w σ G H _ gs gm fun x M1 v G1 H1 q e1 g1 a1 => q σ G1 H1 _ (gs.mono e1) g1 fun y M2 u G2 H2 ⟨i, ei, q2⟩ e2 g2 a2 => by
        subst ei
        exact ⟨i, sl_int a2, fin g2 (a1.mono e2) (k.mono (e1.trans e2)) q2⟩
    | some c =>
      exact de_of (pe_slice sl_list pe_s (po_some pe_s) (po_some pe_s)) fun σ G H Q' gs gm k => w σ G H _ gs gm fun x M1 v G1 H1 q e1 g1 a1 => q σ G1 H1 _ (gs.mono e1) g1 fun y M2 u G2 H2 ⟨i, ei, q2⟩ e2 g2 a2 => by
        subst ei
        exact ⟨i, sl_int a2, q2 σ G2 H2 _ (gs.mono (e1.trans e2)) g2 fun z M3 t G3 H3 ⟨j, ej, q3⟩ e3 g3 a3 => by
          subst ej
          exact ⟨j, sl_int a3, fin g3 ((a1.mono e2).mono e3) (k.mono ((e1.trans e2).trans e3)) q3⟩⟩
/-! ### calls of built-ins -/
theorem de_callB {id : String} {r : List V → Hp → VK → Prop} {x : Str} (hc : CallR X (.builtin id) r) (hg : Gl X x) (hm : X.mg x = none) (hv : bootBuiltins x = some (.builtin id)) (w : DA X L (e :: es) τ M fun ss M1 => RCk X.K L r ss M1 Q) (hn : x ≠ "__name__" := by decide) (hdb : (x == ("__debug__" : Str)) = false := by decide)
    (he : starEach (e :: es) X.env = (false, eval e X.env) :: starEach es X.env := by rfl) (hpl : (backTo pos (starEach es X.env)).any (·.1) = false := by rfl) : DE X L (.Call (.Name x p) (e :: es) [] pos) τ M Q :=
  de_of (pe_callB hc hg hm hv pa_s hn hdb he hpl) fun σ G H Q' gs gm k => w σ G H _ gs gm fun ss M1 vs G1 H1 q e1 g1 a1 => q G1 H1 vs Q' g1 a1 (k.mono e1)
theorem de_callT {T : String} {r : List V → Hp → VK → Prop} {x : Str} (hc : CallR X (.type T) r) (hg : Gl X x) (hm : X.mg x = none) (hv : bootBuiltins x = some (.type T)) (w : DA X L (e :: es) τ M fun ss M1 => RCk X.K L r ss M1 Q) (hn : x ≠ "__name__" := by decide) (hdb : (x == ("__debug__" : Str)) = false := by decide)
    (he : starEach (e :: es) X.env = (false, eval e X.env) :: starEach es X.env := by rfl) (hpl : (backTo pos (starEach es X.env)).any (·.1) = false := by rfl) : DE X L (.Call (.Name x p) (e :: es) [] pos) τ M Q :=
  de_of (pe_callTy hc hg hm hv pa_s hn hdb he hpl) fun σ G H Q' gs gm k => w σ G H _ gs gm fun ss M1 vs G1 H1 q e1 g1 a1 => q G1 H1 vs Q' g1 a1 (k.mono e1)
theorem sl1 {K : PySem.W.Frag} {G : Hp} {vs : List V} {s : Sl} (a : SlL K G vs [s]) : ∃ v, vs = [v] ∧ SlAt K G v s := by
  cases a with | cons a b => cases b; exact ⟨_, rfl, a⟩
theorem sl2 {K : PySem.W.Frag} {G : Hp} {vs : List V} {s t : Sl} (a : SlL K G vs [s, t]) : ∃ v u, vs = [v, u] ∧ SlAt K G v s ∧ SlAt K G u t := by
  cases a with | cons a b => cases b with | cons b c => cases c; exact ⟨_, _, rfl, a, b⟩
theorem k_len {s : Sl} {ss : List Sl} (h : seqOf M s = some ss) (q : Q (.d (.int ss.length)) M) : RCk X.K L (fun xs H Q => ∃ p ys, xs = [.ref p] ∧ (SqL X.K H p ys ∨ SqT X.K H p ys) ∧ Q (.int ys.length) H) [s] M Q := fun G H vs Q' g a k => by
  obtain ⟨v, rfl, a1⟩ := sl1 a
  obtain ⟨p, xs, rfl, r, l⟩ := seq_at' g a1 h
  exact ⟨p, xs, rfl, r, by rw [l.len]; exact k.go q g (.d (.int _))⟩
theorem k_lenS {x : Str} (hz : x.length ≤ sizeLine) (q : Q (.d (.int x.length)) M) : RCk X.K L (fun xs H Q => ∃ z : Str, xs = [.str z] ∧ z.length ≤ sizeLine ∧ Q (.int z.length) H) [.d (.str x)] M Q := fun G H vs Q' g a k => by
  obtain ⟨v, rfl, a1⟩ := sl1 a
  rw [sl_str a1]
  exact ⟨x, rfl, hz, k.go q g (.d (.int _))⟩
theorem k_min2 {i j : Int} (q : Q (.d (.int (if j < i then j else i))) M) : RCk X.K L (fun xs H Q => ∃ i j, xs = [.int i, .int j] ∧ Q (.int (if j < i then j else i)) H) [.d (.int i), .d (.int j)] M Q := fun G H vs Q' g a k => by
  obtain ⟨v, u, rfl, a1, b1⟩ := sl2 a
  rw [sl_int a1, sl_int b1]
  exact ⟨i, j, rfl, k.go q g (.d (.int _))⟩
/-! ### calls of one's own defs -/
abbrev Rr := Lk → List Sl → Cs → (Sl → Cs → Prop) → Prop
def Spk (K : PySem.W.Frag) (R : Rr) : Sp := fun vs H Q _ => ∃ L M G ss Q0, GoodM K L M G H ∧ SlL K G vs ss ∧ R L ss M Q0 ∧ Ret K L G Q0 Q
theorem de_call {R : Rr} {k : Nat} {f : Addr} {fd : FuncData} {ps : List Str} {x : Str} (F : FnOk X.prog X.w X.K X.mg X.base CX0 k f fd ps (Spk X.K R)) (hr : Room k X.A) (hg : Gl X x) (hm : X.mg x = some (.ref f)) (hk : PySem.W.keepIn X.K (.ref f) = true) (hb : Binds X.K fd ps [])
    (w : DA X L (e :: es) τ M fun ss M1 => R L ss M1 Q) (hdb : (x == ("__debug__" : Str)) = false := by decide) (he : starEach (e :: es) X.env = (false, eval e X.env) :: starEach es X.env := by rfl) (hpl : (backTo pos (starEach es X.env)).any (·.1) = false := by rfl) : DE X L (.Call (.Name x p) (e :: es) [] pos) τ M Q :=
  de_of (pe_call F hr hg hm hk hb .nil pass0 pa_s hdb he hpl) fun σ G H Q' gs gm k => w σ G H _ gs gm fun ss M1 vs G1 H1 q e1 g1 a1 => ⟨L, M1, G1, ss, Q, g1, by rw [List.append_nil]; exact a1, q, k.mono e1⟩
def startK (N : List Str) (ss : List Sl) : List (Option Sl) := ss.map some ++ List.replicate (N.length - ss.length) none
theorem good_start {K : PySem.W.Frag} {G : Hp} {N : List Str} {vs : List V} {ss : List Sl} (a : SlL K G vs ss) : GoodS K G (L2.start N vs) (startK N ss) := by
  refine ⟨by unfold L2.start startK; simp [a.len], fun i s h => ?_⟩
  unfold startK at h
  by_cases hi : i < ss.length
  · rw [List.getElem?_append_left (by simpa using hi), List.getElem?_map] at h
    cases e : ss[i]? with
    | none => rw [e] at h; cases h
    | some t =>
      rw [e] at h
      have h' : some t = some s := Option.some.inj h
      cases h'
      obtain ⟨v, h1, h2⟩ := a.get e
      refine ⟨v, ?_, h2⟩
      unfold L2.start
      rw [List.getElem?_append_left (by rw [List.length_map, a.len]; exact hi), List.getElem?_map, h1]
      rfl
  · rw [List.getElem?_append_right (by simpa using hi), List.getElem?_replicate] at h
    split at h <;> cases h
section
variable {P : Program} {w : World} {K : PySem.W.Frag} {mg : Str → Option Value} {base : Heap}
theorem fn_k {R : Rr} {x qual : Str} {st : Stmt} {f : Addr} {fd : FuncData} {N ps : List Str} {k : Nat} (F : Fun K x qual st f fd) (S : FnScope N ps (defScope st)) (hl : ∀ L ss M Q, R L ss M Q → ss.length = ps.length)
    (hb : ∀ (cdv : Value) (A : Around) (outer : List Env) (s : Shared) (H : Hp) (E : XK) (L : Lk) (ss : List Sl) (M : Cs) (Q : Sl → Cs → Prop), Room k (A.deeper (envOfC qual (defScope st) s.heap.objs.size f cdv)) → R L ss M Q →
      DB ((cxOf CX0 P w K mg base N qual (defScope st) f cdv A outer s H E).nox) L (defBody st) (startK N ss) M { nx := fun _ M' => Q (.d .none) M', rt := Q }) : FnOk P w K mg base CX0 (k + 1) f fd ps (Spk K R) := by
  refine F.ok S (fun vs H Q E h => ?_) (fun cdv A outer s H vs Q E hr h => ?_)
  · obtain ⟨L, M, G, ss, Q0, g, a, r, _⟩ := h
    rw [a.len]
    exact hl L ss M Q0 r
  · obtain ⟨L, M, G, ss, Q0, g, a, r, q⟩ := h
    refine ⟨_, pss_s, ?_⟩
    refine hb cdv A outer s H E L ss M Q0 hr r _ G H _ (good_start a) g ⟨fun τ' M' σ' G' H' h e g' _ => q _ M' _ G' H' h e g' (.d .non), q, fun _ _ _ _ _ h => h.elim, fun _ _ _ _ _ h => h.elim⟩
end
/-! ### statements -/
theorem db_nil (h : E.nx τ M) : DB X L [] τ M E := db_of pss_nil fun σ G H D gs gm k => k.nx.go h gm gs
theorem db_cons (w : DS X L st τ M { E with nx := fun τ' M' => DB X L sts τ' M' E }) : DB X L (st :: sts) τ M E :=
  db_of (pss_cons ps_s pss_s) fun σ G H D gs gm k => w σ G H _ gs gm ⟨fun τ' M' σ' G' H' q e g s => q σ' G' H' D s g (k.mono e), k.rt, k.bk, k.ct⟩
theorem ds_ret (w : DE X L e τ M E.rt) : DS X L (.Return (some e) pos) τ M E := ds_of (ps_ret pe_s) fun σ G H D gs gm k => w σ G H _ gs gm k.rt
theorem ds_expr (w : DE X L e τ M fun _ M1 => E.nx τ M1) (hs : swapsWith e none pos.line X.env = pure false := by rfl) : DS X L (.Expr e pos) τ M E :=
  ds_of (ps_expr pe_s hs) fun σ G H D gs gm k => w σ G H _ gs gm fun s M1 v G1 H1 q e1 g1 a1 => k.nx τ M1 σ G1 H1 q e1 g1 (gs.mono e1)
theorem ds_if (w : DT X L c τ M fun d M1 => (d = true → DB X L sts τ M1 E) ∧ (d = false → DB X L st2 τ M1 E)) : DS X L (.If c sts st2 pos) τ M E :=
  ds_of (ps_if pt_s pss_s pss_s) fun σ G H D gs gm k => w σ G H _ gs gm fun d M1 G1 H1 q e1 g1 => by
    cases d with
    | true => rw [if_pos rfl]; exact q.1 rfl σ G1 H1 D (gs.mono e1) g1 (k.mono e1)
    | false => rw [if_neg Bool.false_ne_true]; exact q.2 rfl σ G1 H1 D (gs.mono e1) g1 (k.mono e1)
theorem ds_brk (h : E.bk τ M) : DS X L (.Break pos) τ M E := ds_of ps_break fun σ G H D gs gm k => k.bk.go h gm gs
theorem ds_cont (h : E.ct τ M) : DS X L (.Continue pos) τ M E := ds_of ps_continue fun σ G H D gs gm k => k.ct.go h gm gs
theorem ds_pass (h : E.nx τ M) : DS X L (.Pass pos) τ M E := ds_of ps_pass fun σ G H D gs gm k => k.nx.go h gm gs
/-! targets -/
variable {QG : List (Option Sl) → Cs → Prop} {s : Sl} {i : Nat} {nm : Str}
theorem dg_of {g : TG} {t : Expr} (h : PG X t g) (w : WG X.K L g s τ M QG) : DG X L t s τ M QG := fun σ G H v Q' gs gm a k => g_of h (w σ G H v Q' gs gm a k)
theorem wg_name (q : QG (τ.set i (some s)) M) : WG X.K L (gName i) s τ M QG := fun σ G H v Q' gs gm a k => k _ M _ G H q (Ex.refl G) gm (gs.set a i)
theorem dg_name (hN : X.N.Nodup) (hi : X.N[i]? = some nm) (hx : Loc X.env.scope nm) (q : QG (τ.set i (some s)) M) (hf : X.fn nm = true ∨ X.env.scope.names.lookup nm = some .local := by first | exact .inl rfl | exact .inr rfl | assumption) : DG X L (.Name nm pos) s τ M QG :=
  dg_of (pg_name hN hi hx hf) (wg_name q)
theorem ds_asg {tg : Expr} (w : DE X L e τ M fun s M1 => DG X L tg s τ M1 E.nx) (hs : swapsWithSole [tg] e pos.line X.env = pure false := by rfl) (hw : swappedStores [tg] e X.env = pure none := by rfl)
    (h1 : (assignEach [tg] X.env).map (·.2) = [assign tg X.env] := by rfl) : DS X L (.Assign [tg] e pos) τ M E :=
  ds_of (ps_asg pe_s pg_s hs hw h1) fun σ G H D gs gm k => w σ G H _ gs gm fun s M1 v G1 H1 q e1 g1 a1 => q σ G1 H1 v _ (gs.mono e1) g1 a1 (k.nx.mono e1)
theorem ds_set (hN : X.N.Nodup) (hi : X.N[i]? = some nm) (hx : Loc X.env.scope nm) (w : DE X L e τ M fun s M1 => E.nx (τ.set i (some s)) M1) (hs : swapsWith e (some (.Name nm p)) pos.line X.env = pure false := by rfl) (hf : X.fn nm = true ∨ X.env.scope.names.lookup nm = some .local := by first | exact .inl rfl | exact .inr rfl | assumption) : DS X L (.Assign [.Name nm p] e pos) τ M E :=
  ds_of (ps_set hN hi hx pe_s hs hf) fun σ G H D gs gm k => w σ G H _ gs gm fun s M1 v G1 H1 q e1 g1 a1 => (k.nx.mono e1).go q g1 ((gs.mono e1).set a1 i)
/-- a, b, .. = a tuple -/
theorem wgs_nil (q : QG τ M) : WGs X.K L gNil [] τ M QG := fun σ G H vs Q' gs gm a k => by
  cases a
  exact ⟨rfl, k.go q gm gs⟩
theorem wgs_cons {t : TG} {u : TGs} {ss : List Sl} (w : WG X.K L t s τ M fun τ1 M1 => WGs X.K L u ss τ1 M1 QG) : WGs X.K L (gCons t u) (s :: ss) τ M QG := fun σ G H vs Q' gs gm a k => by
  cases a with
  | cons a b => exact ⟨_, _, rfl, w σ G H _ _ gs gm a fun τ1 M1 σ1 G1 H1 q e1 g1 s1 => q σ1 G1 H1 _ Q' s1 g1 (b.mono e1) (k.mono e1)⟩
theorem wg_tup {n : Nat} {t : TGs} {ss : List Sl} (hT : isTup s = true) (h : seqOf M s = some ss) (hn : ss.length = n) (w : WGs X.K L t ss τ M QG) : WG X.K L (gTup X.K n t) s τ M QG := fun σ G H v Q' gs gm a k => by
  obtain ⟨p, xs, rfl, r, l⟩ := seq_at gm a h
  rw [hT, if_pos rfl] at r
  exact ⟨p, xs, rfl, r, by rw [l.len]; exact hn, w σ G H xs Q' gs gm l k⟩
/-- a, b = e1, e2 -/
theorem ds_par {j : Nat} {x y : Str} {px py pt : Pos} {kt k2 pt2} (hc : X.calm = true) (hN : X.N.Nodup) (hi : X.N[i]? = some x) (hj : X.N[j]? = some y) (hij : i ≠ j)
    (hx : X.env.scope.names.lookup x = some .local) (hy : X.env.scope.names.lookup y = some .local) (w : DA X L [a, b] τ M fun ss M1 => ∃ s t, ss = [s, t] ∧ E.nx ((τ.set i (some s)).set j (some t)) M1)
    (hw : swappedStores [.Tuple [.Name x px, .Name y py] kt pt] (.Tuple [a, b] k2 pt2) X.env = pure (some [x, y]) := by rfl)
    (hs : swapsWithSole [.Tuple [.Name x px, .Name y py] kt pt] (.Tuple [a, b] k2 pt2) pos.line X.env = pure false := by rfl) : DS X L (.Assign [.Tuple [.Name x px, .Name y py] kt pt] (.Tuple [a, b] k2 pt2) pos) τ M E :=
  ds_of (ps_par hc hN hi hj hij hx hy pa_s hw hs) fun σ G H D gs gm k => w σ G H _ gs gm fun ss M1 vs G1 H1 ⟨s, t, e, q⟩ e1 g1 a1 => by
    subst e
    obtain ⟨v, u, rfl, h1, h2⟩ := sl2 a1
    exact ⟨v, u, rfl, (k.nx.mono e1).go q g1 (((gs.mono e1).set h1 i).set h2 j)⟩
/-- x op= e -/
theorem ds_aug {op : Operator} {ti : TIp} (hN : X.N.Nodup) (hi : X.N[i]? = some nm) (hx : Loc X.env.scope nm) (ho : PIp X op ti) (ht : τ[i]? = some (some s)) (w : DE X L e τ M fun y M1 => R2k X.K L ti s y M1 fun z M2 => E.nx (τ.set i (some z)) M2)
    (hf : X.fn nm = true ∨ X.env.scope.names.lookup nm = some .local := by first | exact .inl rfl | exact .inr rfl | assumption) : DS X L (.AugAssign (.Name nm p) op e pos) τ M E :=
  ds_of (ps_aug hN hi hx pe_s ho hf) fun σ G H D gs gm k => by
    obtain ⟨v, h1, h2⟩ := gs.get i s ht
    exact ⟨v, h1, w σ G H _ gs gm fun y M1 u G1 H1 q e1 g1 a1 => q G1 H1 v u _ g1 (h2.mono e1) a1 fun z M2 t G2 H2 q2 e2 g2 a2 => (k.nx.mono (e1.trans e2)).go q2 g2 ((gs.mono (e1.trans e2)).set a2 i)⟩
end
end Y

namespace Y
open PySem L2 PyProof.Rows PySem.TypeEq

theorem slot_type_ne : Slot "type" (cmpInfo .NotEq).2.1 "object.__ne__" :=
  .of (owner := "object") (n := "__ne__") (by rw [typeLookup_type, builtinLookup_eq_fast]; kernel_rfl) (by decide +kernel) (by decide +kernel) (by decide +kernel)
    (by first | exact .inl (by decide +kernel) | exact .inr (by decide +kernel)) (by rw [isSubtype_type]; kernel_rfl)
theorem slot_type_ne_refl : Slot "type" (cmpInfo .NotEq).2.2 "object.__ne__" :=
  .of (owner := "object") (n := "__ne__") (by rw [typeLookup_type, builtinLookup_eq_fast]; kernel_rfl) (by decide +kernel) (by decide +kernel) (by decide +kernel)
    (by first | exact .inl (by decide +kernel) | exact .inr (by decide +kernel)) (by rw [isSubtype_type]; kernel_rfl)
theorem slot_type_eqN : Slot "type" "__eq__" "object.__eq__" := slot_type_eq
theorem object_ne_same {X : String} (hX : ∀ s' : Shared, s'.TypeIs (.type X) "type") : Gives (Builtin.«object.__ne__» ⟨[.type X, .type X], []⟩) (.val (.bool false)) := fun prog w A R s h => by
  unfold Builtin.«object.__ne__»
  repeat (first | with_reducible refine wpAny_cRoomFor_or (.inl rfl) ?_ | (refine wpAny_bind (m := callSpecialIfBound? (.type X) (Str.ofString "__eq__") [.type X]) (wpAny_callSpecialIfBound?_slot (hX _) slot_type_eqN (call_gives slot_type_eqN (hX _) F.entry_object_eq (F.args_object_eq_2 _ _) (object_eq_same rfl (by simp)) ?_))) | wp_step)
  show wpAny _ _ _ _ _ _
  refine wpAny_bind (wpAny_truthy_bool ?_)
  exact wpAny_pure h
theorem object_ne_other {X Y : String} (hX : ∀ s' : Shared, s'.TypeIs (.type X) "type") (hne : (Value.type X == Value.type Y) = false) : Gives (Builtin.«object.__ne__» ⟨[.type X, .type Y], []⟩) (.val .notImplemented) := fun prog w A R s h => by
  unfold Builtin.«object.__ne__»
  repeat (first | with_reducible refine wpAny_cRoomFor_or (.inl rfl) ?_ | (refine wpAny_bind (m := callSpecialIfBound? (.type X) (Str.ofString "__eq__") [.type Y]) (wpAny_callSpecialIfBound?_slot (hX _) slot_type_eqN (call_gives slot_type_eqN (hX _) F.entry_object_eq (F.args_object_eq_2 _ _) (object_eq_other rfl hne) ?_))) | wp_step)
  show wpAny _ _ _ _ _ _
  exact wpAny_pure h
section
variable {M : Model} {prog : Program} {w : World} {A : Around} {E : Value → Shared → Prop} {s : Shared}
theorem rc_ne_same_decline {a b : Value} {T id : String} {k : Bool} {Q : Value → Shared → Prop} (ha : ∀ s' : Shared, s'.TypeIs a T) (hb : ∀ s' : Shared, s'.TypeIs b T)
    (h1 : Slot T (cmpInfo .NotEq).2.1 id) (h2 : Slot T (cmpInfo .NotEq).2.2 id) (hv : [a, b].any Value.onHeap = false) (hk : isSame a b = pure k)
    (hc : wpAny M A (call (.builtin id) [a, b]) (fun v s₁ => v = .notImplemented ∧ wpAny M A (call (.builtin id) [b, a]) (fun v s₂ => v = .notImplemented ∧ Q (.bool (!k)) s₂) E s₁) E s) :
    wpAny M A (richCompare .NotEq a b) Q E s := by
  rcases hi : cmpInfo CmpOp.NotEq with ⟨sym, f, r⟩
  rw [hi] at h1 h2
  simp only [richCompare, hi, (ha s).oneThing_none]
  try with_reducible refine wpAny_holding ?_
  refine wpAny_bind (wpAny_cRoomFor_or (.inl hv) ?_)
  refine wpAny_bind (wpAny_typeOf (ha s) (wpAny_bind (wpAny_typeOf (hb s) ?_)))
  simp only [bne_self_eq_false, Bool.false_eq_true, if_false, pure_bind, Bool.not_false, if_true]
  refine wpAny_bind (m := tryCompare a _ b) (wpAny_tryCompare_declines (ha s) h1 (wpAny_mono hc (fun v s₁ h₁ => ⟨h₁.1, ?_⟩) fun _ _ x => x))
  refine wpAny_bind (m := tryCompare b _ a) (wpAny_tryCompare_declines (hb s₁) h2 (wpAny_mono h₁.2 (fun v s₂ h₂ => ⟨h₂.1, ?_⟩) fun _ _ x => x))
  refine wpAny_bind (wpAny_rule (wpAny_bind (wpAny_of_eq hk (wpAny_pure h₂.2))))
theorem ne_type_same {X : String} {Q : Value → Shared → Prop} (hX : ∀ s' : Shared, s'.TypeIs (.type X) "type") (h : Q (.bool false) s) : wpAny (model prog w) A (compareOp .NotEq (.type X) (.type X)) Q E s := by
  show wpAny _ A (richCompare .NotEq _ _) Q E s
  exact wpAny_richCompare_same (T := "type") (hX s) (hX s) slot_type_ne (call_gives slot_type_ne (hX s) F.cmpEntry_ne (F.cmpArgs_ne _ _) (object_ne_same hX) ⟨(by intro e; cases e), h⟩)
theorem ne_type_other {X Y : String} {Q : Value → Shared → Prop} (hX : ∀ s' : Shared, s'.TypeIs (.type X) "type") (hY : ∀ s' : Shared, s'.TypeIs (.type Y) "type") (hne : (Value.type X == Value.type Y) = false) (h : Q (.bool true) s) : wpAny (model prog w) A (compareOp .NotEq (.type X) (.type Y)) Q E s := by
  have hne' : (Value.type Y == Value.type X) = false := by
    rw [Bool.eq_false_iff] at hne ⊢
    intro e
    exact hne (by rw [beq_iff_eq] at e ⊢; exact e.symm)
  show wpAny _ A (richCompare .NotEq _ _) Q E s
  exact rc_ne_same_decline (T := "type") (k := false) hX hY slot_type_ne slot_type_ne_refl rfl (by rw [isSame_plain rfl, hne])
    (call_gives slot_type_ne (hX s) F.cmpEntry_ne (F.cmpArgs_ne _ _) (object_ne_other hX hne) ⟨rfl, call_gives slot_type_ne_refl (hY s) F.cmpEntry_ne (F.cmpArgs_ne _ _) (object_ne_other hY hne') ⟨rfl, h⟩⟩)
end
/-- the classes that the programs name -/
def okTy (n : String) : Prop := ∀ s' : Shared, s'.TypeIs (.type n) "type"
section
variable {X : Cx} {L : Lk} {M : Cs} {Q : Sl → Cs → Prop}
def rNeTy : R2 := fun x y H Q => ∃ a b, x = .ty a ∧ y = .ty b ∧ okTy a ∧ okTy b ∧ Q (.bl (!decide (a = b))) H
def rEqTy : R2 := fun x y H Q => ∃ a b, x = .ty a ∧ y = .ty b ∧ okTy a ∧ okTy b ∧ Q (.bl (decide (a = b))) H
theorem ty_ne {a b : String} (h : a ≠ b) : (Value.type a == Value.type b) = false := beq_eq_false_iff_ne.mpr fun z => h (Value.type.inj z)
theorem op_neTy : OpR X (compareOp .NotEq) rNeTy := by
  intro pins s σ H x y v u Q I rx ry h
  obtain ⟨a, b, rfl, rfl, ha, hb, q⟩ := h
  cases (show v = Value.type a from rx)
  cases (show u = Value.type b from ry)
  by_cases e : a = b
  · subst e
    exact ne_type_same ha (fin_bl I q (by simp))
  · exact ne_type_other ha hb (ty_ne e) (fin_bl I q (by simp [e]))
theorem op_eqTy : OpR X (compareOp .Eq) rEqTy := by
  intro pins s σ H x y v u Q I rx ry h
  obtain ⟨a, b, rfl, rfl, ha, hb, q⟩ := h
  cases (show v = Value.type a from rx)
  cases (show u = Value.type b from ry)
  by_cases e : a = b
  · subst e
    exact eq_type_same ha (fin_bl I q (by simp))
  · exact eq_type_other ha hb (ty_ne e) (fin_bl I q (by simp [e]))
theorem eqAt_ty {A : Around} {s : Shared} {a b : String} (ha : okTy a) (hb : okTy b) : SeqAt.EqAt A s (.type a) (.type b) (decide (a = b)) := fun prog w E Q h => by
  unfold eqBool
  refine wpAny_holding ?_
  by_cases e : a = b
  · subst e
    refine wpAny_ite_split (fun _ => ?_) (fun z => absurd (beq_self_eq_true (Value.type a)) z)
    rw [decide_eq_true rfl] at h
    exact wpAny_bind (wpAny_rule (wpAny_pure h))
  · refine wpAny_ite_split (fun z => absurd z (by rw [ty_ne e]; exact Bool.false_ne_true)) (fun _ => ?_)
    rw [decide_eq_false e] at h
    exact wpAny_bind (eq_type_other ha hb (ty_ne e) (wpAny_truthy_bool h))
/-- a class in, not in a tuple of classes -/
def rInTy (neg : Bool) : R2 := fun x y H Q => ∃ (a : String) (p : Addr) (ts : List String), x = .ty a ∧ y = .ref p ∧ Rd H p (.tup (ts.map V.ty)) ∧ okTy a ∧ (∀ t ∈ ts, okTy t) ∧ Q (.bl (if neg then !(ts.any fun t => decide (t = a)) else ts.any fun t => decide (t = a))) H
theorem tys_eq : ∀ {ts : List String} {us : List Value}, Vals (ts.map V.ty) us → us = ts.map Value.type
  | [], _, h => by cases h; rfl
  | t :: r, _, h => by
    cases h with
    | cons a b =>
      have e := tys_eq (ts := r) b
      rw [e]
      cases (show _ = Value.type t from a)
      rfl
def tyIs (a : String) (v : Value) : Bool := match v with
  | .type t => decide (t = a)
  | _ => false
theorem tys_any (a : String) : ∀ ts : List String, (ts.map Value.type).any (tyIs a) = ts.any fun t => decide (t = a)
  | [] => rfl
  | t :: r => by
    rw [List.map_cons, List.any_cons, List.any_cons, tys_any a r]
    rfl
theorem op_niTy : OpR X (compareOp .NotIn) (rInTy true) := by
  intro pins s σ H x y v u Q I rx ry h
  obtain ⟨a, p, ts, rfl, rfl, hq, ha, ht, q⟩ := h
  cases (show v = Value.type a from rx)
  cases ry
  obtain ⟨its, r, pl, hz⟩ := I.tuple (.inl hq)
  have e := tys_eq r
  subst e
  refine SeqAt.notIn_tupleAt (tyIs a) pl (fun w hw => ?_) ⟨.bl _, H, I, rfl, ?_⟩
  · have hw : w ∈ ts.map Value.type := by simpa using hw
    obtain ⟨t, h1, rfl⟩ := List.mem_map.mp hw
    exact eqAt_ty (ht t h1) ha
  · rw [show (ts.map Value.type).toArray.any (tyIs a) = (ts.map Value.type).any (tyIs a) by simp, tys_any]
    exact q
end
end Y

namespace Y
open PySem L2 PyProof.Rows

/-! ### what is walked -/
def sI (X : Cx) (tg iter : Expr) : TI := fun σ H R => ∀ pins s, Inv X pins σ H s → wpAny (model X.prog X.w) X.A (eval iter X.env) (fun v s1 => wpAny (model X.prog X.w) X.A (pyIter v) (PIE X pins σ tg R) X.xe s1) X.xe s
theorem pi_s {X : Cx} {tg iter : Expr} : PI X tg iter (sI X tg iter) := ⟨fun pins s _ _ _ I h => h pins s I⟩
theorem i_of {X : Cx} {tg iter : Expr} {wi : TI} {σ : L2.St} {H : Hp} {R : It → Hp → Prop} (h : PI X tg iter wi) (q : wi σ H R) : sI X tg iter σ H R := fun pins s I => h.run pins s σ H R I q
structure ItOk (K : PySem.W.Frag) (L : Lk) (G1 : Hp) (J : It) (n : Nat) (S : Cs → Prop) (ys : Nat → Sl → Prop) : Prop where
  stop : ∀ M' G' H, S M' → Ex G1 G' → GoodM K L M' G' H → J.stop n H
  go : ∀ i M' G' H, i < n → S M' → Ex G1 G' → GoodM K L M' G' H → J.go i H ∧ ∀ x H', J.yld i H x H' → ∃ y G'', ys i y ∧ Ex G' G'' ∧ GoodM K L M' G'' H' ∧ SlAt K G'' x y
abbrev QI := Nat → (Cs → Prop) → (Nat → Sl → Prop) → Cs → Prop
def DI (X : Cx) (L : Lk) (tg iter : Expr) (τ : List (Option Sl)) (M : Cs) (Q : QI) : Prop := ∀ σ G H R, GoodS X.K G σ τ → GoodM X.K L M G H → (∀ n S ys M1 G1 H1 J, Q n S ys M1 → Ex G G1 → GoodM X.K L M1 G1 H1 → ItOk X.K L G1 J n S ys → R J H1) → sI X tg iter σ H R
def iSeq (K : PySem.W.Frag) (tl : TE) : TI := fun σ H R => tl σ H fun x H1 => ∃ a, x = .ref a ∧ (((∃ xs, SqL K H1 a xs) ∧ R (Itl K a) H1) ∨ ((∃ xs, SqT K H1 a xs) ∧ R (Itt K a) H1))
section
variable {X : Cx} {L : Lk} {τ : List (Option Sl)} {M : Cs} {Q : Sl → Cs → Prop} {QB : Bool → Cs → Prop} {QA : List Sl → Cs → Prop} {e a b c tg iter : Expr} {es : List Expr} {pos : Pos} {E : Ks} {st : Stmt} {sts body : List Stmt} {p p2 : Pos} {x y : Sl} {QJ : QI}
theorem pi_seq {l : Expr} {tl : TE} (hl : PE X l tl) : PI X tg l (iSeq X.K tl) := by
  refine ⟨fun pins s σ H R I h => ?_⟩
  refine thn (hl.run pins s σ H _ I h) fun v s1 ⟨x, H1, I1, r1, q1⟩ => ?_
  obtain ⟨a, e, q⟩ := q1
  subst e
  cases r1
  have fp : ∀ {o : Obj}, ∀ b ∈ [s1.heap.objs.size], FpOk X pins H1 b := fun {o} b hb => by
    have e : b = s1.heap.objs.size := by simpa using hb
    subst e
    exact I1.fpOk (Nat.le_refl _) (I1.hok.fresh (Nat.le_refl _))
  rcases q with ⟨⟨xs, hq⟩, q⟩ | ⟨⟨xs, hq⟩, q⟩
  · obtain ⟨its, rv, p, hz⟩ := I1.list hq
    refine wpAny_pyIter_list p.isList ?_
    exact ⟨s1.heap.objs.size, [s1.heap.objs.size], _, _, H1, rfl, I1.kept (t' := s1.toks) fun b o e => Heap.get?_push_of_some _ e, turn_list a _, ⟨_, Heap.get?_push_size _ rfl, rfl, rfl⟩, fp (o := default), q⟩
  · obtain ⟨its, rv, p, hz⟩ := I1.tuple hq
    refine wpAny_pyIter_tuple (show s1.heap.IsTuple a its.toArray from p) ?_
    exact ⟨s1.heap.objs.size, [s1.heap.objs.size], _, _, H1, rfl, I1.kept (t' := s1.toks) fun b o e => Heap.get?_push_of_some _ e, turn_tuple a _, ⟨_, Heap.get?_push_size _ rfl, rfl, rfl⟩, fp (o := default), q⟩
theorem di_seq (w : DE X L iter τ M fun s M1 => ∃ ss, seqOf M1 s = some ss ∧ QJ ss.length (fun M' => seqOf M' s = some ss) (fun i y => ss[i]? = some y) M1) : DI X L tg iter τ M QJ := fun σ G H R gs gm k => by
    refine i_of (pi_seq pe_s) ?_
    show sE X iter σ H (fun x H1 => ∃ a, x = .ref a ∧ (((∃ xs, SqL X.K H1 a xs) ∧ R (Itl X.K a) H1) ∨ ((∃ xs, SqT X.K H1 a xs) ∧ R (Itt X.K a) H1)))
    refine w σ G H _ gs gm ?_
    rintro s M1 v G1 H1 ⟨ss, hs, q⟩ e1 g1 a1
    obtain ⟨p, xs, rfl, r, l⟩ := seq_at g1 a1 hs
    refine ⟨p, rfl, ?_⟩
    cases hT : isTup s with
    | false =>
      rw [hT, if_neg Bool.false_ne_true] at r
      refine .inl ⟨⟨xs, r⟩, k _ _ _ M1 G1 H1 _ q e1 g1 ⟨fun M' G' H' sM e' g' => ?_, fun i M' G' H' hi sM e' g' => ?_⟩⟩
      · obtain ⟨p', xs', ep, r', l'⟩ := seq_at g' (a1.mono e') sM
        cases ep
        rw [hT, if_neg Bool.false_ne_true] at r'
        exact ⟨xs', r', Nat.le_of_eq l'.len⟩
      · obtain ⟨p', xs', ep, r', l'⟩ := seq_at g' (a1.mono e') sM
        cases ep
        rw [hT, if_neg Bool.false_ne_true] at r'
        obtain ⟨v, hv, av⟩ := l'.get (List.getElem?_eq_getElem hi)
        refine ⟨⟨xs', v, r', hv⟩, fun x H2 hy => ?_⟩
        obtain ⟨rfl, f⟩ := hy
        have ex := Option.some.inj ((f _ r').symm.trans hv)
        subst ex
        exact ⟨_, G', List.getElem?_eq_getElem hi, Ex.refl _, g', av⟩
    | true =>
      rw [hT, if_pos rfl] at r
      refine .inr ⟨⟨xs, r⟩, k _ _ _ M1 G1 H1 _ q e1 g1 ⟨fun M' G' H' sM e' g' => ?_, fun i M' G' H' hi sM e' g' => ?_⟩⟩
      · obtain ⟨p', xs', ep, r', l'⟩ := seq_at g' (a1.mono e') sM
        cases ep
        rw [hT, if_pos rfl] at r'
        exact ⟨xs', r', Nat.le_of_eq l'.len⟩
      · obtain ⟨p', xs', ep, r', l'⟩ := seq_at g' (a1.mono e') sM
        cases ep
        rw [hT, if_pos rfl] at r'
        obtain ⟨v, hv, av⟩ := l'.get (List.getElem?_eq_getElem hi)
        refine ⟨⟨xs', v, r', hv⟩, fun x H2 hy => ?_⟩
        obtain ⟨rfl, f⟩ := hy
        have ex := Option.some.inj ((f _ r').symm.trans hv)
        subst ex
        exact ⟨_, G', List.getElem?_eq_getElem hi, Ex.refl _, g', av⟩
theorem itr_ok {K : PySem.W.Frag} {L : Lk} {G1 : Hp} {lo : Int} {n : Nat} : ItOk K L G1 (Itr lo n) n (fun _ => True) (fun i y => y = dI (lo + i)) :=
  ⟨fun M' G' H _ _ _ => Nat.le_refl _, fun i M' G' H hi _ _ g' => ⟨hi, fun x H' ⟨e1, e2⟩ => by
    subst e1 e2
    exact ⟨_, G', rfl, Ex.refl _, g', .d (.int _)⟩⟩⟩
theorem di_range1 (hg : Gl X "range") (hm : X.mg "range" = none) (w : DE X L a τ M fun s M1 => ∃ j : Int, s = dI j ∧ -(2 ^ 62) ≤ j ∧ j < 2 ^ 62 ∧ QJ j.toNat (fun _ => True) (fun i y => y = dI i) M1)
    (hs : starEach [a] X.env = [(false, eval a X.env)] := by rfl) (hs0 : starEach (a :: []) X.env = (false, eval a X.env) :: starEach [] X.env := by rfl) : DI X L tg (.Call (.Name "range" p) [a] [] pos) τ M QJ := fun σ G H R gs gm k => by
    refine i_of (pi_range1 hg hm (pa_cons pe_s pa_nil hs0) hs) ?_
    show sE X a σ H (fun x H1 => ∃ j : Int, [x] = [V.int j] ∧ -(2 ^ 62) ≤ j ∧ j < 2 ^ 62 ∧ R (Itr 0 j.toNat) H1)
    refine w σ G H _ gs gm ?_
    rintro s M1 v G1 H1 ⟨j, es, h1, h2, q⟩ e1 g1 a1
    subst es
    refine ⟨j, by rw [sl_int a1], h1, h2, k _ _ _ M1 G1 H1 _ q e1 g1 ?_⟩
    have z := itr_ok (K := X.K) (L := L) (G1 := G1) (lo := 0) (n := j.toNat)
    simpa using z
theorem di_range2 (hg : Gl X "range") (hm : X.mg "range" = none) (w : DE X L a τ M fun s M1 => DE X L b τ M1 fun t M2 => ∃ i j : Int, s = dI i ∧ t = dI j ∧ (-(2 ^ 62) ≤ i ∧ i < 2 ^ 62 ∧ -(2 ^ 62) ≤ j ∧ j < 2 ^ 62) ∧ QJ (j - i).toNat (fun _ => True) (fun n y => y = dI (i + n)) M2)
    (hs : starEach [a, b] X.env = [(false, eval a X.env), (false, eval b X.env)] := by rfl) (hs2 : starEach [b] X.env = [(false, eval b X.env)] := by rfl) (hs0 : starEach (a :: [b]) X.env = (false, eval a X.env) :: starEach [b] X.env := by rfl) (hs1 : starEach (b :: []) X.env = (false, eval b X.env) :: starEach [] X.env := by rfl) :
    DI X L tg (.Call (.Name "range" p) [a, b] [] pos) τ M QJ := fun σ G H R gs gm k => by
    refine i_of (pi_range2 hg hm (pa_cons pe_s (pa_cons pe_s pa_nil hs1) hs0) hs hs2) ?_
    show sE X a σ H (fun x H1 => sE X b σ H1 fun y H2 => ∃ i j : Int, [x, y] = [V.int i, V.int j] ∧ (-(2 ^ 62) ≤ i ∧ i < 2 ^ 62 ∧ -(2 ^ 62) ≤ j ∧ j < 2 ^ 62) ∧ R (Itr i (j - i).toNat) H2)
    refine w σ G H _ gs gm fun s M1 v G1 H1 q e1 g1 a1 => q σ G1 H1 _ (gs.mono e1) g1 ?_
    rintro t M2 u G2 H2 ⟨i, j, es, et, hb, q1⟩ e2 g2 a2
    subst es et
    exact ⟨i, j, by rw [sl_int a1, sl_int a2], hb, k _ _ _ M2 G2 H2 _ q1 (e1.trans e2) g2 itr_ok⟩
/-! ### for, while -/
theorem ds_for (hp : PassesOwn (model X.prog X.w) X.A X.env X.xe) (hc : X.calm = true) (w : DI X L tg iter τ M fun n S ys M1 => ∃ Iv : Nat → List (Option Sl) → Cs → Prop, Iv 0 τ M1 ∧ (∀ i τ' M', Iv i τ' M' → S M') ∧
      (∀ i y τ' M', i < n → ys i y → Iv i τ' M' → DG X L tg y τ' M' fun τ2 M2 => DB X L body τ2 M2 { E with nx := Iv (i + 1), ct := Iv (i + 1), bk := E.nx }) ∧ (∀ τ' M', Iv n τ' M' → E.nx τ' M'))
    (hs : ∀ x, foldedSetIterable iter X.env x = pure x := by intro _; rfl) : DS X L (.For tg iter body [] pos) τ M E :=
  ds_of (ps_for hp hc pi_s pg_s pss_s hs) fun σ G H D gs gm k => w σ G H _ gs gm fun n S ys M1 G1 H1 J ⟨Iv, i0, st, turn, fin⟩ e1 g1 ok => by
    refine ⟨fun i m σ' H' => m = n - i ∧ i ≤ n ∧ ∃ τ' M' G', Iv i τ' M' ∧ Ex G1 G' ∧ GoodS X.K G' σ' τ' ∧ GoodM X.K L M' G' H', ⟨n, by simp, Nat.zero_le _, τ, M1, G1, i0, Ex.refl _, gs.mono e1, g1⟩, ?_⟩
    rintro i m σ' H' ⟨rfl, hi, τ', M', G', iv, e', s', g'⟩
    by_cases hlt : i < n
    · obtain ⟨go, yl⟩ := ok.go i M' G' H' hlt (st _ _ _ iv) e' g'
      refine .inr ⟨go, fun σ2 H2 => ∃ τ2 M2 G2, Iv (i + 1) τ2 M2 ∧ Ex G1 G2 ∧ GoodS X.K G2 σ2 τ2 ∧ GoodM X.K L M2 G2 H2, fun σ2 H2 ⟨τ2, M2, G2, h⟩ => ⟨n - (i + 1), by omega, rfl, hlt, τ2, M2, G2, h⟩, fun x H2 hy => ?_⟩
      obtain ⟨y, G2, yy, e2, g2, ay⟩ := yl x H2 hy
      have e12 := e'.trans e2
      refine turn i y τ' M' hlt yy iv σ' G2 H2 x _ (s'.mono e2) g2 ay fun τ3 M3 σ3 G3 H3 q3 e3 g3 s3 => ?_
      have e13 := e12.trans e3
      exact q3 σ3 G3 H3 _ s3 g3 ⟨fun τ4 M4 σ4 G4 H4 q4 e4 g4 s4 => ⟨τ4, M4, G4, q4, e13.trans e4, s4, g4⟩, k.rt.mono (e1.trans e13), k.nx.mono (e1.trans e13), fun τ4 M4 σ4 G4 H4 q4 e4 g4 s4 => ⟨τ4, M4, G4, q4, e13.trans e4, s4, g4⟩⟩
    · have e : i = n := by omega
      subst e
      exact .inl ⟨ok.stop M' G' H' (st _ _ _ iv) e' g', k.nx τ' M' σ' G' H' (fin _ _ iv) (e1.trans e') g' s'⟩
theorem ds_while (hp : PassesOwn (model X.prog X.w) X.A X.env X.xe) (Iv : Nat → List (Option Sl) → Cs → Prop) (n : Nat) (i0 : Iv n τ M)
    (turn : ∀ m τ' M', Iv m τ' M' → DT X L c τ' M' fun d M1 => (d = true → DB X L body τ' M1 { E with nx := fun τ2 M2 => ∃ m', m' < m ∧ Iv m' τ2 M2, ct := fun τ2 M2 => ∃ m', m' < m ∧ Iv m' τ2 M2, bk := E.nx }) ∧ (d = false → E.nx τ' M1)) : DS X L (.While c body [] pos) τ M E :=
  ds_of (ps_while hp pt_s pss_s) fun σ G H D gs gm k => by
    refine ⟨fun m σ' H' => ∃ τ' M' G', Iv m τ' M' ∧ Ex G G' ∧ GoodS X.K G' σ' τ' ∧ GoodM X.K L M' G' H', ⟨n, τ, M, G, i0, Ex.refl _, gs, gm⟩, ?_⟩
    rintro m σ' H' ⟨τ', M', G', iv, e', s', g'⟩
    refine turn m τ' M' iv σ' G' H' _ s' g' fun d M1 G1 H1 q e1 g1 => ?_
    have e01 := e'.trans e1
    cases d with
    | true =>
      rw [if_pos rfl]
      refine ⟨fun σ2 H2 => ∃ m', m' < m ∧ ∃ τ2 M2 G2, Iv m' τ2 M2 ∧ Ex G G2 ∧ GoodS X.K G2 σ2 τ2 ∧ GoodM X.K L M2 G2 H2, fun σ2 H2 ⟨m', hm, h⟩ => ⟨m', hm, h⟩, ?_⟩
      exact q.1 rfl σ' G1 H1 _ (s'.mono e1) g1 ⟨fun τ4 M4 σ4 G4 H4 ⟨m', hm, q4⟩ e4 g4 s4 => ⟨m', hm, τ4, M4, G4, q4, e01.trans e4, s4, g4⟩, k.rt.mono e01, k.nx.mono e01, fun τ4 M4 σ4 G4 H4 ⟨m', hm, q4⟩ e4 g4 s4 => ⟨m', hm, τ4, M4, G4, q4, e01.trans e4, s4, g4⟩⟩
    | false =>
      rw [if_neg Bool.false_ne_true]
      exact k.nx τ' M1 σ' G1 H1 (q.2 rfl) e01 g1 (s'.mono e1)
end
/-! ### comprehensions -/
def wipeK (τ : List (Option Sl)) : List Nat → List (Option Sl)
  | [] => τ
  | v :: vs => (wipeK τ vs).set v none
theorem GoodS.drop {K : PySem.W.Frag} {G : Hp} {σ : L2.St} {τ : List (Option Sl)} (g : GoodS K G σ τ) (i : Nat) : GoodS K G (σ.set i none) (τ.set i none) := ⟨by rw [List.length_set, List.length_set, g.len], fun j t h => by
  by_cases e : i = j
  · subst e
    by_cases hl : i < τ.length
    · rw [List.getElem?_set_self hl] at h
      cases h
    · rw [List.getElem?_eq_none (by rw [List.length_set]; omega)] at h
      cases h
  · rw [List.getElem?_set_ne e] at h
    obtain ⟨w, h1, h2⟩ := g.get j t h
    exact ⟨w, by rw [List.getElem?_set_ne e]; exact h1, h2⟩⟩
theorem GoodS.wipe {K : PySem.W.Frag} {G : Hp} {σ : L2.St} {τ : List (Option Sl)} (g : GoodS K G σ τ) : ∀ vs : List Nat, GoodS K G (L2.wipe σ vs) (wipeK τ vs)
  | [] => g
  | v :: vs => (GoodS.wipe g vs).drop v
theorem wipe_get {σ : L2.St} {i : Nat} : ∀ {vs : List Nat}, (L2.wipe σ vs)[i]? = if i ∈ vs then (σ[i]?.map fun _ => none) else σ[i]?
  | [] => by simp [L2.wipe]
  | v :: vs => by
    unfold L2.wipe
    rw [List.getElem?_set, wipe_get (vs := vs), wipe_length]
    by_cases hv : v = i
    · subst hv
      by_cases hl : v < σ.length
      · simp [hl]
      · simp [hl]
    · have hv' : ¬ i = v := fun z => hv z.symm
      simp [hv, hv']
theorem wipe_set {σ : L2.St} {i : Nat} {o : Option V} {vs : List Nat} (h : i ∈ vs) : L2.wipe (σ.set i o) vs = L2.wipe σ vs := by
  apply List.ext_getElem?
  intro j
  rw [wipe_get, wipe_get]
  by_cases hj : j ∈ vs
  · rw [if_pos hj, if_pos hj, List.getElem?_set]
    by_cases e : i = j
    · subst e
      by_cases hl : i < σ.length <;> simp [hl]
    · simp [e]
  · rw [if_neg hj, if_neg hj, List.getElem?_set_ne (fun e : i = j => hj (by rw [← e]; exact h))]
theorem wipe_wipe {σ : L2.St} {vs : List Nat} : L2.wipe (L2.wipe σ vs) vs = L2.wipe σ vs := by
  apply List.ext_getElem?
  intro j
  rw [wipe_get, wipe_get]
  by_cases hj : j ∈ vs
  · rw [if_pos hj, if_pos hj]
    cases σ[j]? <;> rfl
  · rw [if_neg hj, if_neg hj]
section
variable (K : PySem.W.Frag) (L : Lk) (vs : List Nat)
def WGw (g : TG) (s : Sl) (τ : List (Option Sl)) (M : Cs) (Q : List (Option Sl) → Cs → Prop) : Prop := ∀ σ G H v Q', GoodS K G σ τ → GoodM K L M G H → SlAt K G v s → (∀ τ' M' σ' G' H', Q τ' M' → Ex G G' → GoodM K L M' G' H' → GoodS K G' σ' τ' → L2.wipe σ' vs = L2.wipe σ vs → Q' σ' H') → g v σ H Q'
def WGws (g : TGs) (ss : List Sl) (τ : List (Option Sl)) (M : Cs) (Q : List (Option Sl) → Cs → Prop) : Prop := ∀ σ G H v Q', GoodS K G σ τ → GoodM K L M G H → SlL K G v ss → (∀ τ' M' σ' G' H', Q τ' M' → Ex G G' → GoodM K L M' G' H' → GoodS K G' σ' τ' → L2.wipe σ' vs = L2.wipe σ vs → Q' σ' H') → g v σ H Q'
end
section
variable {K : PySem.W.Frag} {L : Lk} {vs : List Nat} {τ : List (Option Sl)} {M : Cs} {QG : List (Option Sl) → Cs → Prop} {s : Sl} {ss : List Sl} {i : Nat}
theorem wgw_name (hi : i ∈ vs) (q : QG (τ.set i (some s)) M) : WGw K L vs (gName i) s τ M QG := fun σ G H v Q' gs gm a k => k _ M _ G H q (Ex.refl G) gm (gs.set a i) (wipe_set hi)
theorem wgws_nil (q : QG τ M) : WGws K L vs gNil [] τ M QG := fun σ G H v Q' gs gm a k => by
  cases a
  exact ⟨rfl, k τ M σ G H q (Ex.refl G) gm gs rfl⟩
theorem wgws_cons {t : TG} {u : TGs} (w : WGw K L vs t s τ M fun τ1 M1 => WGws K L vs u ss τ1 M1 QG) : WGws K L vs (gCons t u) (s :: ss) τ M QG := fun σ G H v Q' gs gm a k => by
  cases a with
  | cons a b => exact ⟨_, _, rfl, w σ G H _ _ gs gm a fun τ1 M1 σ1 G1 H1 q e1 g1 s1 z1 => q σ1 G1 H1 _ Q' s1 g1 (b.mono e1) fun τ2 M2 σ2 G2 H2 q2 e2 g2 s2 z2 => k τ2 M2 σ2 G2 H2 q2 (e1.trans e2) g2 s2 (z2.trans z1)⟩
theorem wgw_tup {n : Nat} {t : TGs} (hT : isTup s = true) (h : seqOf M s = some ss) (hn : ss.length = n) (w : WGws K L vs t ss τ M QG) : WGw K L vs (gTup K n t) s τ M QG := fun σ G H v Q' gs gm a k => by
  obtain ⟨p, xs, rfl, r, l⟩ := seq_at gm a h
  rw [hT, if_pos rfl] at r
  exact ⟨p, xs, rfl, r, by rw [l.len]; exact hn, w σ G H xs Q' gs gm l k⟩
end
section
variable (X : Cx) (scope : Scope)
/-- in every block of this scope -/
def bE (e : Expr) : TE := fun σ H Q => ∀ (s0 : Shared) (H0 : Hp) (C : Addr) (cl : List (Str × Addr)) (fp : List Addr), sE (X.blk s0 H0 scope (compEnvC scope cl C X.env) fp) e σ H Q
def bT (e : Expr) : TT := fun σ H Q => ∀ (s0 : Shared) (H0 : Hp) (C : Addr) (cl : List (Str × Addr)) (fp : List Addr), sT (X.blk s0 H0 scope (compEnvC scope cl C X.env) fp) e σ H Q
def DEb (L : Lk) (e : Expr) (τ : List (Option Sl)) (M : Cs) (Q : Sl → Cs → Prop) : Prop := ∀ (s0 : Shared) (H0 : Hp) (C : Addr) (cl : List (Str × Addr)) (fp : List Addr), DE (X.blk s0 H0 scope (compEnvC scope cl C X.env) fp) L e τ M Q
def DTb (L : Lk) (e : Expr) (τ : List (Option Sl)) (M : Cs) (Q : Bool → Cs → Prop) : Prop := ∀ (s0 : Shared) (H0 : Hp) (C : Addr) (cl : List (Str × Addr)) (fp : List Addr), DT (X.blk s0 H0 scope (compEnvC scope cl C X.env) fp) L e τ M Q
end
section
variable {X : Cx} {L : Lk} {τ : List (Option Sl)} {M : Cs} {Q : Sl → Cs → Prop} {elt kx vx tg iter c : Expr} {scope : Scope} {own : List (Str × Nat)} {pos : Pos} {g : TG}
theorem web {e : Expr} (h : DEb X scope L e τ M Q) : WE X.K L (bE X scope e) τ M Q := fun σ G H Q' gs gm k s0 H0 C cl fp => h s0 H0 C cl fp σ G H Q' gs gm k
theorem wtb {e : Expr} {QB : Bool → Cs → Prop} (h : DTb X scope L e τ M QB) : WT X.K L (bT X scope e) τ M QB := fun σ G H Q' gs gm k s0 H0 C cl fp => h s0 H0 C cl fp σ G H Q' gs gm k
theorem we_lc {tt : TT} {te : TE} {vs : List Nat} (w : DI X L tg iter τ M fun n S ys M1 => ∀ D, M1 D = none → ∃ Iv : Nat → Cs → Prop, Iv 0 (updC M1 D (.l [])) ∧ (∀ i M', Iv i M' → S M') ∧
      (∀ i y M', i < n → ys i y → Iv i M' → WGw X.K L vs g y (wipeK τ vs) M' fun τ2 M2 => WT X.K L tt τ2 M2 fun d M3 => (d = true → WE X.K L te τ2 M3 fun z M4 => ∃ acc, M4 D = some (.l acc) ∧ acc.length < sizeLine ∧ Iv (i + 1) (updC M4 D (.l (acc ++ [z])))) ∧ (d = false → Iv (i + 1) M3)) ∧ (∀ M', Iv n M' → Q (.c D) M')) :
    WE X.K L (tLc (sI X tg iter) g tt te vs) τ M Q := fun σ G H Q' gs gm k => w σ G H _ gs gm fun n S ys M1 G1 H1 J q e1 g1 ok D hD => by
  obtain ⟨Iv, i0, st, turn, fin⟩ := q D (g1.free hD).2
  refine ⟨fun i m H' => m = n - i ∧ i ≤ n ∧ ∃ M' G', Iv i M' ∧ Ex G1 G' ∧ GoodM X.K L M' G' H', ⟨n, by simp, Nat.zero_le _, _, G1, i0, Ex.refl _, g1.newC hD ⟨[], upd_same, .nil⟩⟩, ?_⟩
  rintro i m H' ⟨rfl, hi, M', G', iv, e', g'⟩
  by_cases hlt : i < n
  · obtain ⟨go, yl⟩ := ok.go i M' G' H' hlt (st _ _ iv) e' g'
    refine .inr ⟨go, fun H2 => ∃ M2 G2, Iv (i + 1) M2 ∧ Ex G1 G2 ∧ GoodM X.K L M2 G2 H2, fun H2 ⟨M2, G2, h⟩ => ⟨n - (i + 1), by omega, rfl, hlt, M2, G2, h⟩, fun x H2 hy => ?_⟩
    obtain ⟨y, G2, yy, e2, g2, ay⟩ := yl x H2 hy
    have e12 := e'.trans e2
    refine turn i y M' hlt yy iv _ G2 H2 x _ ((gs.mono (e1.trans e12)).wipe vs) g2 ay fun τ3 M3 σ3 G3 H3 q3 e3 g3 s3 z3 => ?_
    refine ⟨z3.trans wipe_wipe, ?_⟩
    have e13 := e12.trans e3
    refine q3 σ3 G3 H3 _ s3 g3 fun d M4 G4 H4 q4 e4 g4 => ?_
    cases d with
    | true =>
      rw [if_pos rfl]
      refine q4.1 rfl σ3 G4 H4 _ (s3.mono e4) g4 fun z M5 v G5 H5 ⟨acc, hacc, hl, iv5⟩ e5 g5 a5 => ?_
      obtain ⟨f5, xs, h1, h2⟩ := g5.cell D _ hacc
      refine ⟨xs, h1, by rw [h2.len]; exact hl, _, G5, iv5, (e13.trans e4).trans e5, ?_⟩
      exact g5.write hacc h1 (fun _ _ z => nomatch z) ⟨_, upd_same, h2.append (.cons a5 .nil)⟩
    | false =>
      rw [if_neg Bool.false_ne_true]
      exact ⟨M4, G4, q4.2 rfl, e13.trans e4, g4⟩
  · have e : i = n := by omega
    subst e
    exact .inl ⟨ok.stop M' G' H' (st _ _ iv) e' g', k _ M' _ G' H' (fin _ iv) (e1.trans e') g' (.c D)⟩
/-- [elt for tg in iter] -/
theorem de_lc0 (hc : X.calm = true) (hN : X.N.Nodup) (ok : BlkOk X.N X.env.scope scope own) (hg : ∀ (s : Shared) (H : Hp) (C : Addr) (cl : List (Str × Addr)) (fp : List Addr), PG (X.blk s H scope (compEnvC scope cl C X.env) fp) tg g)
    (w : DI X L tg iter τ M fun n S ys M1 => ∀ D, M1 D = none → ∃ Iv : Nat → Cs → Prop, Iv 0 (updC M1 D (.l [])) ∧ (∀ i M', Iv i M' → S M') ∧
      (∀ i y M', i < n → ys i y → Iv i M' → WGw X.K L (own.map (·.2)) g y (wipeK τ (own.map (·.2))) M' fun τ2 M3 => DEb X scope L elt τ2 M3 fun z M4 => ∃ acc, M4 D = some (.l acc) ∧ acc.length < sizeLine ∧ Iv (i + 1) (updC M4 D (.l (acc ++ [z])))) ∧ (∀ M', Iv n M' → Q (.c D) M'))
    (hs : ∀ x, foldedSetIterable iter X.env x = pure x := by intro _; rfl) : DE X L (.ListComp elt [⟨tg, iter, [], 0⟩] scope pos) τ M Q :=
  de_of (pe_lc (te := bE X scope elt) hc hN pi_s ok hg (fun _ _ _ _ _ => pts_nil) (fun s H C cl fp => ⟨fun pins s' σ H' Q' I h => h s H C cl fp pins s' I⟩) hs) (we_lc fun σ G H R gs gm k => w σ G H R gs gm fun n S ys M1 G1 H1 J q e1 g1 ok => k n S ys M1 G1 H1 J (fun D hD => by
    obtain ⟨Iv, i0, st, turn, fin⟩ := q D hD
    refine ⟨Iv, i0, st, fun i y M' hi yy iv => ?_, fin⟩
    intro σ G H v Q' gs gm a k
    refine turn i y M' hi yy iv σ G H v Q' gs gm a fun τ' M' σ' G' H' h => k τ' M' σ' G' H' ?_
    exact fun σ G H Q' gs gm k => k.go (b := true) ⟨fun _ => web h, fun z => nomatch z⟩ gm) e1 g1 ok)
/-- [elt for tg in iter if c] -/
theorem de_lc1 (hc : X.calm = true) (hN : X.N.Nodup) (ok : BlkOk X.N X.env.scope scope own) (hg : ∀ (s : Shared) (H : Hp) (C : Addr) (cl : List (Str × Addr)) (fp : List Addr), PG (X.blk s H scope (compEnvC scope cl C X.env) fp) tg g)
    (w : DI X L tg iter τ M fun n S ys M1 => ∀ D, M1 D = none → ∃ Iv : Nat → Cs → Prop, Iv 0 (updC M1 D (.l [])) ∧ (∀ i M', Iv i M' → S M') ∧
      (∀ i y M', i < n → ys i y → Iv i M' → WGw X.K L (own.map (·.2)) g y (wipeK τ (own.map (·.2))) M' fun τ2 M3 => DTb X scope L c τ2 M3 fun d M3 => (d = true → DEb X scope L elt τ2 M3 fun z M4 => ∃ acc, M4 D = some (.l acc) ∧ acc.length < sizeLine ∧ Iv (i + 1) (updC M4 D (.l (acc ++ [z])))) ∧ (d = false → Iv (i + 1) M3)) ∧ (∀ M', Iv n M' → Q (.c D) M'))
    (hs : ∀ x, foldedSetIterable iter X.env x = pure x := by intro _; rfl) : DE X L (.ListComp elt [⟨tg, iter, [c], 0⟩] scope pos) τ M Q :=
  de_of (pe_lc (te := bE X scope elt) (tt := bT X scope c) hc hN pi_s ok hg (fun s H C cl fp => pts_one ⟨fun pins s' σ H' Q' I h => h s H C cl fp pins s' I⟩) (fun s H C cl fp => ⟨fun pins s' σ H' Q' I h => h s H C cl fp pins s' I⟩) hs) (we_lc fun σ G H R gs gm k => w σ G H R gs gm fun n S ys M1 G1 H1 J q e1 g1 ok => k n S ys M1 G1 H1 J (fun D hD => by
    obtain ⟨Iv, i0, st, turn, fin⟩ := q D hD
    refine ⟨Iv, i0, st, fun i y M' hi yy iv => ?_, fin⟩
    intro σ G H v Q' gs gm a k
    refine turn i y M' hi yy iv σ G H v Q' gs gm a fun τ' M' σ' G' H' h => k τ' M' σ' G' H' ?_
    intro σ G H Q' gs gm k
    exact wtb h σ G H Q' gs gm fun d M5 G5 H5 q5 => k d M5 G5 H5 ⟨fun z => web (q5.1 z), q5.2⟩) e1 g1 ok)
end
end Y

namespace Y
open PySem L2 PyProof.Rows

/-! ### comparisons -/
def isNone : Sl → Bool
  | .d .none => true
  | _ => false
section
variable {K : PySem.W.Frag} {L : Lk} {M : Cs} {Q : Sl → Cs → Prop} {G H : Hp} {v : V} {s x : Sl}
theorem sl_isN (a : SlAt K G v s) : decide (v = .non) = isNone s := by
  cases a with
  | d a => cases a <;> rfl
  | c p => rfl
  | t n => rfl
  | u h l => rfl
  | s h => rfl
theorem k_isN (q : Q (.d (.bool (isNone x))) M) : R2k K L (fun x y H Q => y = .non ∧ Q (.bl (decide (x = .non))) H) x (.d .none) M Q := fun G H v u Q' g a1 a2 k => ⟨sl_non a2, by rw [sl_isN a1]; exact k.go q g (.d (.bl _))⟩
theorem k_notN (q : Q (.d (.bool (!isNone x))) M) : R2k K L (fun x y H Q => y = .non ∧ Q (.bl (!decide (x = .non))) H) x (.d .none) M Q := fun G H v u Q' g a1 a2 k => ⟨sl_non a2, by rw [sl_isN a1]; exact k.go q g (.d (.bl _))⟩
theorem k_eqI {i j : Int} (q : Q (.d (.bool (decide (i = j)))) M) : R2k K L rEq (.d (.int i)) (.d (.int j)) M Q := fun G H v u Q' g a1 a2 k => by
  rw [sl_int a1, sl_int a2]
  refine ⟨rfl, ?_⟩
  have e : decide (V.int i = V.int j) = decide (i = j) := by simp
  rw [e]
  exact k.go q g (.d (.bl _))
theorem k_neI {i j : Int} (q : Q (.d (.bool (!decide (i = j)))) M) : R2k K L rNe (.d (.int i)) (.d (.int j)) M Q := fun G H v u Q' g a1 a2 k => by
  rw [sl_int a1, sl_int a2]
  refine ⟨rfl, ?_⟩
  have e : decide (V.int i = V.int j) = decide (i = j) := by simp
  rw [e]
  exact k.go q g (.d (.bl _))
theorem k_eqS {i j : Str} (q : Q (.d (.bool (decide (i = j)))) M) : R2k K L rEq (.d (.str i)) (.d (.str j)) M Q := fun G H v u Q' g a1 a2 k => by
  rw [sl_str a1, sl_str a2]
  refine ⟨rfl, ?_⟩
  have e : decide (V.str i = V.str j) = decide (i = j) := by simp
  rw [e]
  exact k.go q g (.d (.bl _))
theorem k_neS {i j : Str} (q : Q (.d (.bool (!decide (i = j)))) M) : R2k K L rNe (.d (.str i)) (.d (.str j)) M Q := fun G H v u Q' g a1 a2 k => by
  rw [sl_str a1, sl_str a2]
  refine ⟨rfl, ?_⟩
  have e : decide (V.str i = V.str j) = decide (i = j) := by simp
  rw [e]
  exact k.go q g (.d (.bl _))
theorem k_eqB {i j : Bool} (q : Q (.d (.bool (decide (i = j)))) M) : R2k K L rEq (.d (.bool i)) (.d (.bool j)) M Q := fun G H v u Q' g a1 a2 k => by
  rw [sl_bl a1, sl_bl a2]
  refine ⟨rfl, ?_⟩
  have e : decide (V.bl i = V.bl j) = decide (i = j) := by simp
  rw [e]
  exact k.go q g (.d (.bl _))
theorem k_neB {i j : Bool} (q : Q (.d (.bool (!decide (i = j)))) M) : R2k K L rNe (.d (.bool i)) (.d (.bool j)) M Q := fun G H v u Q' g a1 a2 k => by
  rw [sl_bl a1, sl_bl a2]
  refine ⟨rfl, ?_⟩
  have e : decide (V.bl i = V.bl j) = decide (i = j) := by simp
  rw [e]
  exact k.go q g (.d (.bl _))
theorem k_isB {i j : Bool} (q : Q (.d (.bool (decide (i = j)))) M) : R2k K L rIsB (.d (.bool i)) (.d (.bool j)) M Q := fun G H v u Q' g a1 a2 k => ⟨i, j, sl_bl a1, sl_bl a2, k.go q g (.d (.bl _))⟩
theorem k_notB {i j : Bool} (q : Q (.d (.bool (!decide (i = j)))) M) : R2k K L rNotB (.d (.bool i)) (.d (.bool j)) M Q := fun G H v u Q' g a1 a2 k => ⟨i, j, sl_bl a1, sl_bl a2, k.go q g (.d (.bl _))⟩
theorem k_neTy {a b : String} (ha : okTy a) (hb : okTy b) (q : Q (.d (.bool (!decide (a = b)))) M) : R2k K L rNeTy (.t a) (.t b) M Q := fun G H v u Q' g a1 a2 k => ⟨a, b, sl_t a1, sl_t a2, ha, hb, k.go q g (.d (.bl _))⟩
theorem tys_sl {xs : List V} : ∀ {ts : List String}, SlL K G xs (ts.map Sl.t) → xs = ts.map V.ty := by
  intro ts
  induction ts generalizing xs with
  | nil => intro h; cases h; rfl
  | cons t r ih =>
    intro h
    cases h with
    | cons a b =>
      rw [ih b, sl_t a]
      rfl
theorem k_niTy {a : String} {ts : List String} (ha : okTy a) (ht : ∀ t ∈ ts, okTy t) (q : Q (.d (.bool (!(ts.any fun t => decide (t = a))))) M) : R2k K L (rInTy true) (.t a) (.u (ts.map .t)) M Q := fun G H v u Q' g a1 a2 k => by
  cases a2 with
  | u e l =>
    have z := tys_sl l
    subst z
    exact ⟨a, _, ts, sl_t a1, rfl, g.rd e, ha, ht, k.go q g (.d (.bl _))⟩
end
/-! ### data, whatever it lies in -/
mutual
inductive IsD (M : Cs) : Sl → PyData → Prop
  | d (x : PyData) : IsD M (.d x) x
  | c {a : Addr} {ss : List Sl} {ds : List PyData} : M a = some (.l ss) → IsDL M ss ds → IsD M (.c a) (.list ds)
  | u {ss : List Sl} {ds : List PyData} : IsDL M ss ds → IsD M (.u ss) (.tuple ds)
inductive IsDL (M : Cs) : List Sl → List PyData → Prop
  | nil : IsDL M [] []
  | cons {s : Sl} {d : PyData} {ss : List Sl} {ds : List PyData} : IsD M s d → IsDL M ss ds → IsDL M (s :: ss) (d :: ds)
end
theorem IsDL.ofD {M : Cs} : ∀ ds : List PyData, IsDL M (ds.map Sl.d) ds
  | [] => .nil
  | d :: r => .cons (.d d) (IsDL.ofD r)
theorem IsD.cell {M : Cs} {a : Addr} {ds : List PyData} (h : M a = some (.l (ds.map .d))) : IsD M (.c a) (.list ds) := .c h (IsDL.ofD ds)
section
variable {K : PySem.W.Frag} {L : Lk} {M : Cs} {G H : Hp}
mutual
theorem At.dp (g : GoodM K L M G H) : ∀ (d : PyData) (v : V), d.canLay0 = true → At K G v d → Dp K H v d
  | .none, _, _, .non => .non
  | .bool _, _, _, .bl b => .bl b
  | .int _, _, _, .int i => .int i
  | .str _, _, _, .str x => .str x
  | .list ds, _, z, .lst e l => .lst (.inl (g.rd e)) (AtL.dp g ds _ z l)
  | .tuple ds, _, z, .tup e l => .tup (.inl (g.rd e)) (AtL.dp g ds _ z l)
  | .dict _, _, z, _ => nomatch z
theorem AtL.dp (g : GoodM K L M G H) : ∀ (ds : List PyData) (vs : List V), PyData.canLayAll0 ds = true → AtL K G vs ds → DpAll K H vs ds
  | [], _, _, .nil => .nil
  | d :: r, _, z, .cons a b => .cons (At.dp g d _ (Bool.and_eq_true_iff.mp z).1 a) (AtL.dp g r _ (Bool.and_eq_true_iff.mp z).2 b)
end
mutual
theorem IsD.dp (g : GoodM K L M G H) : ∀ {s : Sl} {d : PyData} {v : V}, IsD M s d → d.canLay0 = true → SlAt K G v s → Dp K H v d
  | _, _, _, .d x, z, .d a => a.dp g _ _ z
  | _, _, _, .c (a := p) h l, z, b => by
    obtain ⟨_, xs, h1, h2⟩ := g.cell p _ h
    cases b
    exact .lst (SqL.of h1) (IsDL.dp g l z h2)
  | _, _, _, .u l, z, .u e b => .tup (.inl (g.rd e)) (IsDL.dp g l z b)
theorem IsDL.dp (g : GoodM K L M G H) : ∀ {ss : List Sl} {ds : List PyData} {vs : List V}, IsDL M ss ds → PyData.canLayAll0 ds = true → SlL K G vs ss → DpAll K H vs ds
  | _, _, _, .nil, _, .nil => .nil
  | _, _, _, .cons a b, z, .cons p q => .cons (IsD.dp g a (Bool.and_eq_true_iff.mp z).1 p) (IsDL.dp g b (Bool.and_eq_true_iff.mp z).2 q)
end
variable {Q : Sl → Cs → Prop} {x y : Sl} {d e : PyData}
theorem k_eqD (hx : IsD M x d) (hy : IsD M y e) (sx : SeqAt.shaped d = true) (sy : SeqAt.shaped e = true) (q : Q (.d (.bool (PyData.eqv d e))) M) : R2k K L (rEqD K) x y M Q := fun G H v u Q' g a1 a2 k =>
  ⟨d, e, hx.dp g (SeqAt.canLay_of_shaped sx) a1, hy.dp g (SeqAt.canLay_of_shaped sy) a2, sx, sy, k.go q g (.d (.bl _))⟩
theorem k_neD (hx : IsD M x d) (hy : IsD M y e) (sx : SeqAt.shaped d = true) (sy : SeqAt.shaped e = true) (q : Q (.d (.bool (!PyData.eqv d e))) M) : R2k K L (rNeD K) x y M Q := fun G H v u Q' g a1 a2 k =>
  ⟨d, e, hx.dp g (SeqAt.canLay_of_shaped sx) a1, hy.dp g (SeqAt.canLay_of_shaped sy) a2, sx, sy, k.go q g (.d (.bl _))⟩
end
/-! ### truth, classes -/
def truOf (M : Cs) : Sl → Option Bool
  | .d .none => some false
  | .d (.bool b) => some b
  | .d (.int i) => some (i != 0)
  | s => (seqOf M s).map fun ss => !ss.isEmpty
theorem empty_sl {K : PySem.W.Frag} {G : Hp} {xs : List V} {ss : List Sl} (l : SlL K G xs ss) : (!xs.isEmpty) = !ss.isEmpty := by
  cases l <;> rfl
theorem tru_at {K : PySem.W.Frag} {L : Lk} {M : Cs} {G H : Hp} {v : V} {s : Sl} {k : Bool} (g : GoodM K L M G H) (a : SlAt K G v s) (h : truOf M s = some k) : TruV K v H k := by
  have seq : ∀ {s : Sl}, SlAt K G v s → (seqOf M s).map (fun ss => !ss.isEmpty) = some k → TruV K v H k := by
    intro s a h
    cases e : seqOf M s with
    | none => rw [e] at h; cases h
    | some ss =>
      rw [e] at h
      have h' : (!ss.isEmpty) = k := Option.some.inj h
      obtain ⟨p, xs, rfl, r, l⟩ := seq_at' g a e
      rcases r with r | r
      · exact .inl ⟨xs, r, by rw [empty_sl l, h']⟩
      · exact .inr (.inl ⟨xs, r, by rw [empty_sl l, h']⟩)
  cases s with
  | d x =>
    cases x with
    | none => rw [sl_non a]; exact (Option.some.inj h).symm
    | bool b => rw [sl_bl a]; exact (Option.some.inj h).symm
    | int i => rw [sl_int a]; exact (Option.some.inj h).symm
    | str z => exact seq a h
    | list ds => exact seq a h
    | tuple ds => exact seq a h
    | dict ds => exact seq a h
  | c p => exact seq a h
  | t n => exact seq a h
  | u ss => exact seq a h
  | s ns => exact seq a h
def tyName (M : Cs) : Sl → Option String
  | .d .none => some "NoneType"
  | .d (.bool _) => some "bool"
  | .d (.int _) => some "int"
  | .d (.str _) => some "str"
  | .d (.list _) => some "list"
  | .d (.tuple _) => some "tuple"
  | .d (.dict _) => some "dict"
  | .u _ => some "tuple"
  | .c a => match M a with
    | some (.l _) => some "list"
    | some (.k _) => some "dict"
    | none => none
  | _ => none
theorem ty_at {K : PySem.W.Frag} {L : Lk} {M : Cs} {G H : Hp} {v : V} {s : Sl} {n : String} (g : GoodM K L M G H) (a : SlAt K G v s) (h : tyName M s = some n) : TyX K H v (.type n) := by
  cases a with
  | d a =>
    cases a with
    | non => cases h; exact .base .non
    | bl b => cases h; exact .base (.bl b)
    | int i => cases h; exact .base (.int i)
    | str x => cases h; exact .base (.str x)
    | lst e l =>
      cases h
      rcases g.rd e with z | ⟨o, z⟩
      · exact .base (.lst z)
      · exact .base (.frz z)
    | tup e l =>
      cases h
      rcases g.rd e with z | ⟨o, z⟩
      · exact .base (.tup z)
      · exact .fTuple z
    | dic e l =>
      cases h
      rcases g.rd e with z | ⟨o, z⟩
      · exact .base (.dK z)
      · exact .fDict z
  | c p =>
    simp only [tyName] at h
    cases e : M p with
    | none => rw [e] at h; cases h
    | some c =>
      rw [e] at h
      cases c with
      | l ss =>
        cases h
        obtain ⟨_, xs, h1, _⟩ := g.cell p _ e
        exact .base (.lst h1)
      | k ss =>
        cases h
        obtain ⟨_, xs, h1, _⟩ := g.cell p _ e
        exact .base (.dK h1)
  | t n => cases h
  | u e l =>
    cases h
    rcases g.rd e with z | ⟨o, z⟩
    · exact .base (.tup z)
    · exact .fTuple z
  | s e => cases h
/-- type(x): no dict -/
theorem tyB_at {K : PySem.W.Frag} {L : Lk} {M : Cs} {G H : Hp} {v : V} {s : Sl} {n : String} (g : GoodM K L M G H) (a : SlAt K G v s) (h : tyName M s = some n) (hd : ∀ kv, s ≠ .d (.dict kv)) : TyB K H v n := by
  cases a with
  | d a =>
    cases a with
    | non => cases h; exact .non
    | bl b => cases h; exact .bl b
    | int i => cases h; exact .int i
    | str x => cases h; exact .str x
    | lst e l => cases h; exact .lst (.inl (g.rd e))
    | tup e l => cases h; exact .tup (.inl (g.rd e))
    | dic e l => exact absurd rfl (hd _)
  | c p =>
    simp only [tyName] at h
    cases e : M p with
    | none => rw [e] at h; cases h
    | some c =>
      rw [e] at h
      cases c with
      | l ss =>
        cases h
        obtain ⟨_, xs, h1, _⟩ := g.cell p _ e
        exact .lst (SqL.of h1)
      | k ss =>
        cases h
        obtain ⟨_, xs, h1, _⟩ := g.cell p _ e
        exact .dK h1
  | t n => cases h
  | u e l => cases h; exact .tup (.inl (g.rd e))
  | s e => cases h
/-! ### dicts -/
theorem kD_inj {a b : Key} (h : kD a = kD b) : a = b := by
  cases a <;> cases b <;> simp [kD] at h <;> rw [h]
def encK (kd : List (Key × PyData)) : List (PyData × PyData) := kd.map fun p => (kD p.1, p.2)
def slK (kd : List (Key × PyData)) : List (Key × Sl) := kd.map fun p => (p.1, .d p.2)
inductive DictIs (M : Cs) : Sl → List (Key × Sl) → Prop
  | c {a : Addr} {kvs : List (Key × Sl)} : M a = some (.k kvs) → DictIs M (.c a) kvs
  | d (kd : List (Key × PyData)) : DictIs M (.d (.dict (encK kd))) (slK kd)
theorem AtK.kv {K : PySem.W.Frag} {G : Hp} : ∀ (kd : List (Key × PyData)) {xs : List (Key × V)}, AtK K G xs (encK kd) → KvAt K G xs (slK kd)
  | [], [], _ => trivial
  | (k, d) :: r, x :: xs, h => by
    generalize hh : encK ((k, d) :: r) = zs at h
    cases h with
    | cons a b =>
      rw [show encK ((k, d) :: r) = (kD k, d) :: encK r from rfl] at hh
      injection hh with h1 h2
      injection h1 with h3 h4
      subst h2 h4
      exact ⟨kD_inj h3.symm, .d a, AtK.kv r b⟩
theorem KvAt.at {K : PySem.W.Frag} {G : Hp} : ∀ (kd : List (Key × PyData)) {xs : List (Key × V)}, KvAt K G xs (slK kd) → AtK K G xs (encK kd)
  | [], [], _ => .nil
  | (k, d) :: r, (k', v) :: xs, ⟨e, a, b⟩ => by
    have e' : k' = k := e
    subst e'
    cases a with
    | d a => exact .cons a (KvAt.at r b)
def valS (kvs : List (Key × Sl)) (k : Key) : Option Sl := (kvs.find? fun kv => decide (kv.1 = k)).map (·.2)
def putS (kvs : List (Key × Sl)) (k : Key) (v : Sl) : List (Key × Sl) := if (kvs.any fun kv => decide (kv.1 = k)) = true then kvs.map (fun kv => if kv.1 = k then (kv.1, v) else kv) else kvs ++ [(k, v)]
section
variable {K : PySem.W.Frag} {G : Hp}
theorem KvAt.len : ∀ {xs : List (Key × V)} {ys : List (Key × Sl)}, KvAt K G xs ys → xs.length = ys.length
  | [], [], _ => rfl
  | _ :: _, _ :: _, ⟨_, _, h⟩ => by rw [List.length_cons, List.length_cons, KvAt.len h]
  | [], _ :: _, h => h.elim
  | _ :: _, [], h => h.elim
theorem KvAt.keys : ∀ {xs : List (Key × V)} {ys : List (Key × Sl)}, KvAt K G xs ys → xs.map (·.1) = ys.map (·.1)
  | [], [], _ => rfl
  | _ :: _, _ :: _, ⟨e, _, h⟩ => by rw [List.map_cons, List.map_cons, KvAt.keys h, e]
  | [], _ :: _, h => h.elim
  | _ :: _, [], h => h.elim
theorem KvAt.val (k : Key) : ∀ {xs : List (Key × V)} {ys : List (Key × Sl)}, KvAt K G xs ys → match valS ys k with
    | none => valV xs k = none
    | some s => ∃ v, valV xs k = some v ∧ SlAt K G v s
  | [], [], _ => rfl
  | x :: xs, y :: ys, ⟨e, a, h⟩ => by
    have ih := KvAt.val k h
    by_cases hk : y.1 = k
    · have e1 : valS (y :: ys) k = some y.2 := by simp [valS, List.find?_cons, hk]
      rw [e1]
      exact ⟨x.2, valV_pos (e.trans hk), a⟩
    · have e1 : valS (y :: ys) k = valS ys k := by simp [valS, List.find?_cons, hk]
      rw [e1, valV_neg (fun z => hk (e.symm.trans z))]
      exact ih
  | [], _ :: _, h => h.elim
  | _ :: _, [], h => h.elim
theorem KvAt.get : ∀ {xs : List (Key × V)} {ys : List (Key × Sl)} {i : Nat} {k : Key} {s : Sl}, KvAt K G xs ys → ys[i]? = some (k, s) → ∃ v, xs[i]? = some (k, v) ∧ SlAt K G v s
  | [], [], _, _, _, _, h => by simp at h
  | x :: xs, y :: ys, 0, k, s, ⟨e, a, h⟩, z => by
    have z' : y = (k, s) := by simpa using z
    subst z'
    obtain ⟨k', v⟩ := x
    have e' : k' = k := e
    subst e'
    exact ⟨v, rfl, a⟩
  | x :: xs, y :: ys, i + 1, k, s, ⟨e, a, h⟩, z => by
    obtain ⟨v, h1, h2⟩ := KvAt.get (i := i) h (by simpa using z)
    exact ⟨v, by simpa using h1, h2⟩
  | [], _ :: _, _, _, _, h, _ => h.elim
  | _ :: _, [], _, _, _, h, _ => h.elim
theorem KvAt.append {ps : List (Key × V)} {qs : List (Key × Sl)} (b : KvAt K G ps qs) : ∀ {xs : List (Key × V)} {ys : List (Key × Sl)}, KvAt K G xs ys → KvAt K G (xs ++ ps) (ys ++ qs)
  | [], [], _ => b
  | _ :: _, _ :: _, ⟨e, a, h⟩ => ⟨e, a, KvAt.append b h⟩
  | [], _ :: _, h => h.elim
  | _ :: _, [], h => h.elim
theorem KvAt.put {k : Key} {v : V} {s : Sl} (a : SlAt K G v s) {xs : List (Key × V)} {ys : List (Key × Sl)} (h : KvAt K G xs ys) : KvAt K G (putK xs k v) (putS ys k s) := by
  have e1 : (xs.any fun kv => decide (kv.1 = k)) = (ys.any fun kv => decide (kv.1 = k)) := by
    have e := h.keys
    have f : ∀ {α : Type} (l : List (Key × α)), (l.any fun kv => decide (kv.1 = k)) = (l.map (·.1)).any fun z => decide (z = k) := fun l => by
      induction l with
      | nil => rfl
      | cons p r ih => rw [List.any_cons, List.map_cons, List.any_cons, ih]
    rw [f, f, e]
  unfold putK putS
  rw [e1]
  split
  · rename_i hany
    clear e1 hany
    induction xs generalizing ys with
    | nil => cases ys with
      | nil => trivial
      | cons => exact h.elim
    | cons x xs ih => cases ys with
      | nil => exact h.elim
      | cons y ys =>
        obtain ⟨e, b, h'⟩ := h
        rw [List.map_cons, List.map_cons]
        by_cases hk : y.1 = k
        · rw [if_pos hk, if_pos (e.trans hk)]
          exact ⟨e, a, ih h'⟩
        · rw [if_neg hk, if_neg (fun z => hk (e.symm.trans z))]
          exact ⟨e, b, ih h'⟩
  · exact KvAt.append (ps := [(k, v)]) (qs := [(k, s)]) (show k = k ∧ SlAt K G v s ∧ True from ⟨rfl, a, trivial⟩) h
end
theorem dict_at {K : PySem.W.Frag} {L : Lk} {M : Cs} {G H : Hp} {v : V} {s : Sl} {kvs : List (Key × Sl)} (g : GoodM K L M G H) (a : SlAt K G v s) (h : DictIs M s kvs) : ∃ p xs, v = .ref p ∧ Rd H p (.dK xs) ∧ KvAt K G xs kvs := by
  cases h with
  | c e =>
    obtain ⟨_, xs, h1, h2⟩ := g.cell _ _ e
    exact ⟨_, xs, sl_c a, .inl h1, h2⟩
  | d kd =>
    cases a with
    | d a =>
      generalize hh : encK kd = zs at a
      cases a with
      | dic e l =>
        subst hh
        exact ⟨_, _, rfl, g.rd e, AtK.kv kd l⟩
end Y

namespace Y
open PySem L2 PyProof.Rows

section
variable {X : Cx} {L : Lk} {τ : List (Option Sl)} {M : Cs} {Q : Sl → Cs → Prop} {QB : Bool → Cs → Prop} {QG : List (Option Sl) → Cs → Prop} {e a b c o i tg iter : Expr} {es : List Expr} {pos apos cpos pos' : Pos} {E : Ks} {st : Stmt} {sts body : List Stmt} {p p2 : Pos} {x y s : Sl} {QJ : QI} {nm : Str}
theorem dt_tru (w : DE X L e τ M fun s M1 => ∃ k, truOf M1 s = some k ∧ QB k M1) (he : ∀ whole, isTrue e X.env whole = (do let v ← whole; standAt e.pos; holding [v] (truthy v)) := by intro _; rfl) : DT X L e τ M QB :=
  dt_of (pt_truth pe_s he) fun σ G H Q' gs gm k => w σ G H _ gs gm fun s M1 v G1 H1 ⟨d, h, q⟩ e1 g1 a1 => ⟨d, tru_at g1 a1 h, (k.mono e1).go q g1⟩
/-! ### built-ins -/
theorem k_isi {T n : String} {b : Bool} (h : tyName M s = some n) (hb : kitB n T = some b) (q : Q (.d (.bool b)) M) : RCk X.K L (rIsi X.K) [s, .t T] M Q := fun G H vs Q' g a k => by
  obtain ⟨v, u, rfl, a1, a2⟩ := sl2 a
  exact ⟨v, u, .type n, .type T, b, rfl, by rw [sl_t a2]; exact .ty T, ty_at g a1 h, kit_ty hb, k.go q g (.d (.bl _))⟩
theorem k_type {n : String} (h : tyName M s = some n) (hd : ∀ kv, s ≠ .d (.dict kv)) (q : Q (.t n) M) : RCk X.K L (rTyp X.K) [s] M Q := fun G H vs Q' g a k => by
  obtain ⟨v, rfl, a1⟩ := sl1 a
  exact ⟨v, n, rfl, tyB_at g a1 h hd, k.go q g (.t n)⟩
theorem k_intI {i : Int} (q : Q (.d (.int i)) M) : RCk X.K L (fun xs H Q => (∃ i, xs = [.int i] ∧ Q (.int i) H) ∨ ∃ k, xs = [.bl k] ∧ Q (.int (if k then 1 else 0)) H) [.d (.int i)] M Q := fun G H vs Q' g a k => by
  obtain ⟨v, rfl, a1⟩ := sl1 a
  rw [sl_int a1]
  exact .inl ⟨i, rfl, k.go q g (.d (.int _))⟩
theorem k_intB {b : Bool} (q : Q (.d (.int (if b then 1 else 0))) M) : RCk X.K L (fun xs H Q => (∃ i, xs = [.int i] ∧ Q (.int i) H) ∨ ∃ k, xs = [.bl k] ∧ Q (.int (if k then 1 else 0)) H) [.d (.bool b)] M Q := fun G H vs Q' g a k => by
  obtain ⟨v, rfl, a1⟩ := sl1 a
  rw [sl_bl a1]
  exact .inr ⟨b, rfl, k.go q g (.d (.int _))⟩
theorem k_abs {i : Int} (q : Q (.d (.int (if i < 0 then -i else i))) M) : RCk X.K L (fun xs H Q => ∃ i, xs = [.int i] ∧ Q (.int (if i < 0 then -i else i)) H) [.d (.int i)] M Q := fun G H vs Q' g a k => by
  obtain ⟨v, rfl, a1⟩ := sl1 a
  rw [sl_int a1]
  exact ⟨i, rfl, k.go q g (.d (.int _))⟩
theorem ints_at {K : PySem.W.Frag} {G : Hp} {xs : List V} {ns : List Int} (l : SlL K G xs (ns.map dI)) : xs = ns.map V.int := by
  induction ns generalizing xs with
  | nil => cases l; rfl
  | cons n r ih =>
    cases l with
    | cons a b =>
      rw [ih b, sl_int a]
      rfl
theorem bls_at {K : PySem.W.Frag} {G : Hp} {xs : List V} {ns : List Bool} (l : SlL K G xs (ns.map fun b => .d (.bool b))) : xs = ns.map V.bl := by
  induction ns generalizing xs with
  | nil => cases l; rfl
  | cons n r ih =>
    cases l with
    | cons a b =>
      rw [ih b, sl_bl a]
      rfl
theorem k_sum {ns : List Int} (hT : isTup s = false) (h : seqOf M s = some (ns.map dI)) (q : Q (.d (.int ns.sum)) M) : RCk X.K L (rSum X.K) [s] M Q := fun G H vs Q' g a k => by
  obtain ⟨v, rfl, a1⟩ := sl1 a
  obtain ⟨p, xs, rfl, r, l⟩ := seq_at g a1 h
  rw [hT, if_neg Bool.false_ne_true] at r
  rw [ints_at l] at r
  exact ⟨p, ns, rfl, r, k.go q g (.d (.int _))⟩
theorem k_all {ns : List Bool} (hT : isTup s = false) (h : seqOf M s = some (ns.map fun b => .d (.bool b))) (q : Q (.d (.bool (ns.all id))) M) : RCk X.K L (rAll X.K) [s] M Q := fun G H vs Q' g a k => by
  obtain ⟨v, rfl, a1⟩ := sl1 a
  obtain ⟨p, xs, rfl, r, l⟩ := seq_at g a1 h
  rw [hT, if_neg Bool.false_ne_true] at r
  rw [bls_at l] at r
  exact ⟨p, ns, rfl, r, k.go q g (.d (.bl _))⟩
def dS (x : Str) : Sl := .d (.str x)
theorem strs_sl {K : PySem.W.Frag} {G : Hp} : ∀ ys : List Str, SlL K G (ys.map V.str) (ys.map dS)
  | [] => .nil
  | y :: r => .cons (.d (.str y)) (strs_sl r)
/-- sorted(d), the keys texts -/
theorem k_sortedD {kvs : List (Key × Sl)} {ks : List Str} (h : DictIs M s kvs) (hk : kvs.map (·.1) = ks.map Sum.inr) (hl : ks.length < 64) (q : ∀ ys p, ys.Perm ks → sortedS ys = true → M p = none → Q (.c p) (updC M p (.l (ys.map dS)))) :
    RCk X.K L (fun xs H Q => ∃ (a : Addr) (kvs : List (Key × V)) (ks : List Str), xs = [.ref a] ∧ Rd H a (.dK kvs) ∧ kvs.map (·.1) = ks.map Sum.inr ∧ ks.length < 64 ∧ ∀ ys p, ys.Perm ks → sortedS ys = true → H p = none → Q (.ref p) (upd H p (.lst (ys.map V.str)))) [s] M Q := fun G H vs Q' g a k => by
  obtain ⟨v, rfl, a1⟩ := sl1 a
  obtain ⟨p, xs, rfl, r, l⟩ := dict_at g a1 h
  exact ⟨p, xs, ks, rfl, r, l.keys.trans hk, hl, fun ys c h1 h2 hc => k _ _ _ G _ (q ys c h1 h2 (g.free hc).2) (Ex.refl G) (g.newC hc ⟨_, upd_same, strs_sl ys⟩) (.c c)⟩
/-- list(xs) -/
theorem k_list {ss : List Sl} (h : seqOf M s = some ss) (q : ∀ p, M p = none → Q (.c p) (updC M p (.l ss))) : RCk X.K L (fun xs H Q => ∃ p ys, xs = [.ref p] ∧ (SqL X.K H p ys ∨ SqT X.K H p ys) ∧ ∀ l, H l = none → Q (.ref l) (upd H l (.lst ys))) [s] M Q := fun G H vs Q' g a k => by
  obtain ⟨v, rfl, a1⟩ := sl1 a
  obtain ⟨p, xs, rfl, r, l⟩ := seq_at' g a1 h
  exact ⟨p, xs, rfl, r, fun c hc => k _ _ _ G _ (q c (g.free hc).2) (Ex.refl G) (g.newC hc ⟨_, upd_same, l⟩) (.c c)⟩
/-! ### dicts -/
theorem dget_at {K : PySem.W.Frag} {G H : Hp} {v : V} {kvs : List (Key × Sl)} {k : Key} (g : GoodM K L M G H) (a : SlAt K G v s) (h : DictIs M s kvs) : ∃ p o, v = .ref p ∧ L2.IsD H p ∧ DGet H p (kV k) o ∧ match valS kvs k with
    | none => o = none
    | some z => ∃ u, o = some u ∧ SlAt K G u z := by
  obtain ⟨p, xs, rfl, r, l⟩ := dict_at g a h
  refine ⟨p, valV xs k, rfl, .inl ⟨xs, r⟩, .inl ⟨xs, k, r, rfl, rfl⟩, ?_⟩
  exact l.val k
theorem key_at {K : PySem.W.Frag} {G : Hp} {v : V} {k : Key} (a : SlAt K G v (.d (kD k))) : v = kV k := by
  cases k with
  | inl n => exact sl_int a
  | inr z => exact sl_str a
/-- d[k] -/
theorem de_dget (hu : X.A.units + 1 < cLine) (w : DE X L o τ M fun s M1 => DE X L i τ M1 fun t M2 => ∃ kvs k z, DictIs M2 s kvs ∧ t = .d (kD k) ∧ valS kvs k = some z ∧ Q z M2) (hs : NoSl i := by exact fun _ _ => rfl) : DE X L (.Subscript o i pos) τ M Q :=
  de_of (pe_dget hu pe_s pe_s hs) fun σ G H Q' gs gm k => w σ G H _ gs gm fun s M1 v G1 H1 q e1 g1 a1 => q σ G1 H1 _ (gs.mono e1) g1 fun t M2 u G2 H2 ⟨kvs, key, z, hd, ht, hv, q2⟩ e2 g2 a2 => by
    subst ht
    obtain ⟨p, oo, rfl, _, dg, h⟩ := dget_at (k := key) g2 (a1.mono e2) hd
    rw [hv] at h
    obtain ⟨r, rfl, ar⟩ := h
    rw [key_at a2]
    exact ⟨p, r, rfl, dg, (k.mono (e1.trans e2)).go q2 g2 ar⟩
/-- d.get(k, x) -/
theorem de_dget2 {f : Expr} (hu : X.A.units + 1 < cLine) (w : DE X L o τ M fun s M1 => (∃ kvs, DictIs M1 s kvs) ∧ DE X L e τ M1 fun t M2 => DE X L f τ M2 fun z M3 => ∃ kvs k, DictIs M3 s kvs ∧ t = .d (kD k) ∧ Q ((valS kvs k).getD z) M3) (m : M2 X o "get" apos e f cpos := by exact ⟨rfl, rfl, rfl, rfl⟩) : DE X L (.Call (.Attribute o "get" apos) [e, f] [] cpos) τ M Q :=
  de_of (pe_dget2 hu pe_s pe_s pe_s m) fun σ G H Q' gs gm k => w σ G H _ gs gm fun s M1 v G1 H1 ⟨⟨kvs0, hd0⟩, q⟩ e1 g1 a1 => by
    obtain ⟨p, oo, rfl, isd, _, _⟩ := dget_at (k := .inl 0) g1 a1 hd0
    refine ⟨p, rfl, isd, q σ G1 H1 _ (gs.mono e1) g1 fun t M2 u G2 H2 q2 e2 g2 a2 => q2 σ G2 H2 _ (gs.mono (e1.trans e2)) g2 fun z M3 u3 G3 H3 ⟨kvs, key, hd, ht, q3⟩ e3 g3 a3 => ?_⟩
    subst ht
    obtain ⟨p', oo', ep, _, dg, h⟩ := dget_at (k := key) g3 ((a1.mono e2).mono e3) hd
    cases ep
    rw [key_at a2]
    refine ⟨oo', dg, ?_⟩
    cases hv : valS kvs key with
    | none =>
      rw [hv] at h q3
      rw [h]
      exact (k.mono ((e1.trans e2).trans e3)).go q3 g3 a3
    | some r =>
      rw [hv] at h q3
      obtain ⟨u', rfl, ar⟩ := h
      exact (k.mono ((e1.trans e2).trans e3)).go q3 g3 ar
/-- d[k] = v, the dict a cell -/
theorem ds_dput {value : Expr} (hu : X.A.units + 1 < cLine) (w : DE X L value τ M fun z M1 => DE X L o τ M1 fun s M2 => DE X L i τ M2 fun t M3 => ∃ a kvs k, s = .c a ∧ M3 a = some (.k kvs) ∧ t = .d (kD k) ∧ kvs.length < sizeLine ∧ E.nx τ (updC M3 a (.k (putS kvs k z))))
    (hs : swapsWith value (some (.Subscript o i pos')) pos.line X.env = pure false := by rfl) : DS X L (.Assign [.Subscript o i pos'] value pos) τ M E :=
  ds_of (ps_dput hu pe_s pe_s pe_s hs) fun σ G H D gs gm k => w σ G H _ gs gm fun z M1 v G1 H1 q e1 g1 a1 => q σ G1 H1 _ (gs.mono e1) g1 fun s M2 u G2 H2 q2 e2 g2 a2 => q2 σ G2 H2 _ (gs.mono (e1.trans e2)) g2 fun t M3 w' G3 H3 ⟨a, kvs, key, hs, ha, ht, hl, q3⟩ e3 g3 a3 => by
    subst hs ht
    have e13 := (e1.trans e2).trans e3
    obtain ⟨_, xs, h1, h2⟩ := g3.cell a _ ha
    refine ⟨a, _, sl_c a2, ?_, k.nx _ _ σ G3 _ q3 e13 (g3.write ha h1 (fun _ _ z => nomatch z) ⟨_, upd_same, KvAt.put ((a1.mono e2).mono e3) h2⟩) (gs.mono e13)⟩
    rw [key_at a3]
    exact DPut.k h1 (by rw [h2.len]; exact hl)
/-- xs[i] = v, the list a cell -/
theorem dg_subL (w : DE X L o τ M fun t M1 => DE X L i τ M1 fun u M2 => ∃ a ss k j, t = .c a ∧ M2 a = some (.l ss) ∧ u = dI k ∧ ixN ss.length k = some j ∧ QG τ (updC M2 a (.l (ss.set j s))))
    (ha : ∀ v, assign (.Subscript o i pos) X.env v = (do
      let ov ← holding [v] (eval o X.env)
      let iv ← holding [v, ov] (eval i X.env)
      standAt pos
      holding [v, ov, iv] (setItem ov iv v)
      release [v, ov, iv] []) := by intro _; rfl) : DG X L (.Subscript o i pos) s τ M QG :=
  dg_of (pg_sub pe_s pe_s set_list ha) fun σ G H v Q' gs gm av k => w σ G H _ gs gm fun t M1 u G1 H1 q e1 g1 a1 => q σ G1 H1 _ (gs.mono e1) g1 fun z M2 w' G2 H2 ⟨a, ss, n, j, ht, ha, hu, hj, q2⟩ e2 g2 a2 => by
    subst ht hu
    obtain ⟨_, xs, h1, h2⟩ := g2.cell a _ ha
    exact ⟨a, xs, n, j, sl_c a1, sl_int a2, h1, by rw [h2.len]; exact hj, k _ _ σ G2 _ q2 (e1.trans e2) (g2.write ha h1 (fun _ _ z => nomatch z) ⟨_, upd_same, h2.set ((av.mono e1).mono e2) j⟩) (gs.mono (e1.trans e2))⟩
/-! ### methods -/
def RMk (K : PySem.W.Frag) (L : Lk) (r : V → List V → Hp → VK → Prop) (x : Sl) (xs : List Sl) (M : Cs) (Q : Sl → Cs → Prop) : Prop := ∀ G H v vs Q', GoodM K L M G H → SlAt K G v x → SlL K G vs xs → Ret K L G Q Q' → r v vs H Q'
theorem tyL_at {K : PySem.W.Frag} {G H : Hp} {v : V} {ss : List Sl} (g : GoodM K L M G H) (a : SlAt K G v s) (hT : isTup s = false) (h : seqOf M s = some ss) : tyV K "list" v H := by
  obtain ⟨p, xs, rfl, r, l⟩ := seq_at g a h
  rw [hT, if_neg Bool.false_ne_true] at r
  exact .inl ⟨rfl, xs, r⟩
theorem de_mL {name : Str} {id : String} {r : V → List V → Hp → VK → Prop} (slot : Slot "list" name id) (hty : typeOf (.builtin id) = pure (.type "method_descriptor")) (hm : MtR X id r)
    (w : DE X L o τ M fun x M1 => (isTup x = false ∧ ∃ ss, seqOf M1 x = some ss) ∧ DA X L (e :: es) τ M1 fun ss M2 => RMk X.K L r x ss M2 Q) (hbase : attributeBase o name X.env (eval o X.env) = eval o X.env := by rfl)
    (hfew : ((backTo cpos (starEach (e :: es) X.env)).all (fun x => !x.1) && (backToKw cpos (keywordEach [] X.env)).all (fun x => x.1.isSome)
      && decide ((e :: es).length + ([] : List Keyword).length + (if ([] : List Keyword).isEmpty then 0 else 1) < 30)) = true := by rfl)
    (hline : (apos.endLine == cpos.line) = true := by rfl) (hs : starEach (e :: es) X.env = (false, eval e X.env) :: starEach es X.env := by rfl) (hplain : (backTo cpos (starEach es X.env)).any (·.1) = false := by rfl) : DE X L (.Call (.Attribute o name apos) (e :: es) [] cpos) τ M Q :=
  de_of (pe_bm PySem.F.plainAttrs_list slot hty hm pe_s pa_s hbase hfew hline hs hplain) fun σ G H Q' gs gm k => w σ G H _ gs gm fun x M1 v G1 H1 ⟨⟨hT, ss, hss⟩, q⟩ e1 g1 a1 =>
    ⟨tyL_at g1 a1 hT hss, q σ G1 H1 _ (gs.mono e1) g1 fun ts M2 vs G2 H2 q2 e2 g2 a2 => q2 G2 H2 v vs Q' g2 (a1.mono e2) a2 (k.mono (e1.trans e2))⟩
theorem k_append {a : Addr} {ss : List Sl} {z : Sl} (h : M a = some (.l ss)) (hl : ss.length < sizeLine) (q : Q (.d .none) (updC M a (.l (ss ++ [z])))) : RMk X.K L rAppend (.c a) [z] M Q := fun G H v vs Q' g a1 a2 k => by
  obtain ⟨u, rfl, au⟩ := sl1 a2
  obtain ⟨_, xs, h1, h2⟩ := g.cell a _ h
  exact ⟨a, xs, u, sl_c a1, rfl, h1, by rw [h2.len]; exact hl, k _ _ _ G _ q (Ex.refl G) (g.write h h1 (fun _ _ z => nomatch z) ⟨_, upd_same, h2.append (.cons au .nil)⟩) (.d .non)⟩
/-- xs.append(e) as a statement -/
theorem ds_append (w : DE X L o τ M fun x M1 => (isTup x = false ∧ ∃ ss, seqOf M1 x = some ss) ∧ DE X L e τ M1 fun z M2 => ∃ a ss, x = .c a ∧ M2 a = some (.l ss) ∧ ss.length < sizeLine ∧ E.nx τ (updC M2 a (.l (ss ++ [z])))) (hbase : attributeBase o "append" X.env (eval o X.env) = eval o X.env := by rfl)
    (hfew : ((backTo cpos (starEach (e :: []) X.env)).all (fun x => !x.1) && (backToKw cpos (keywordEach [] X.env)).all (fun x => x.1.isSome)
      && decide ((e :: []).length + ([] : List Keyword).length + (if ([] : List Keyword).isEmpty then 0 else 1) < 30)) = true := by rfl)
    (hline : (apos.endLine == cpos.line) = true := by rfl) (hs : starEach (e :: []) X.env = (false, eval e X.env) :: starEach [] X.env := by rfl) (hplain : (backTo cpos (starEach [] X.env)).any (·.1) = false := by rfl) (hsw : swapsWith (.Call (.Attribute o "append" apos) [e] [] cpos) none pos.line X.env = pure false := by rfl) :
    DS X L (.Expr (.Call (.Attribute o "append" apos) [e] [] cpos) pos) τ M E :=
  ds_expr (de_mL PySem.F.slot_list_append PySem.F.type_list_append mt_append (de_imp w fun x M1 ⟨h, q⟩ => ⟨h, da_cons (de_imp q fun z M2 ⟨a, ss, hx, ha, hl, q2⟩ => da_nil (by subst hx; exact k_append ha hl q2)) hs⟩) hbase hfew hline hs hplain) hsw
theorem SlL.erase {K : PySem.W.Frag} {G : Hp} : ∀ {vs : List V} {ss : List Sl} (j : Nat), SlL K G vs ss → SlL K G (vs.eraseIdx j) (ss.eraseIdx j)
  | _, _, _, .nil => .nil
  | _, _, 0, .cons _ b => b
  | _, _, j + 1, .cons a b => .cons a (b.erase j)
theorem k_popAt {a : Addr} {ss : List Sl} {n : Int} {j : Nat} {z : Sl} (h : M a = some (.l ss)) (h1 : -(2 ^ 63) ≤ n) (h2 : n < 2 ^ 63) (hj : seqIndex? n ss.length = some j) (hz : ss[j]? = some z) (q : Q z (updC M a (.l (ss.eraseIdx j)))) : RMk X.K L rPopAt (.c a) [dI n] M Q := fun G H v vs Q' g a1 a2 k => by
  obtain ⟨u, rfl, au⟩ := sl1 a2
  obtain ⟨_, xs, e1, e2⟩ := g.cell a _ h
  obtain ⟨r, hr, ar⟩ := e2.get hz
  exact ⟨a, xs, n, j, r, sl_c a1, by rw [sl_int au], e1, h1, h2, by rw [e2.len]; exact hj, hr, k _ _ _ G _ q (Ex.refl G) (g.write h e1 (fun _ _ z => nomatch z) ⟨_, upd_same, e2.erase j⟩) ar⟩
/-- methods of texts without arguments -/
theorem de_mS0 {name : Str} {id : String} {f : Str → Bool} (slot : Slot "str" name id) (hty : typeOf (.builtin id) = pure (.type "method_descriptor")) (hm : MtR X id (fun x xs H Q => ∃ a, x = .str a ∧ xs = [] ∧ True ∧ Q (.bl (f a)) H))
    (w : DE X L o τ M fun s M1 => ∃ z, s = dS z ∧ Q (.d (.bool (f z))) M1) (hbase : attributeBase o name X.env (eval o X.env) = eval o X.env := by rfl) (hline : (apos.endLine == pos.line) = true := by rfl) : DE X L (.Call (.Attribute o name apos) [] [] pos) τ M Q :=
  de_of (pe_m0 slot hty hm pe_s hbase hline) fun σ G H Q' gs gm k => w σ G H _ gs gm fun s M1 v G1 H1 ⟨z, hs, q⟩ e1 g1 a1 => by
    subst hs
    rw [sl_str a1]
    exact ⟨⟨z, rfl⟩, z, rfl, rfl, trivial, (k.mono e1).go q g1 (.d (.bl _))⟩
/-- sep.join(xs) -/
theorem strs_at {K : PySem.W.Frag} {G : Hp} {xs : List V} {ys : List Str} (l : SlL K G xs (ys.map dS)) : xs = ys.map V.str := by
  induction ys generalizing xs with
  | nil => cases l; rfl
  | cons n r ih =>
    cases l with
    | cons a b =>
      rw [ih b, sl_str a]
      rfl
theorem de_join (w : DE X L o τ M fun s M1 => ∃ z, s = dS z ∧ DE X L e τ M1 fun t M2 => ∃ ys : List Str, seqOf M2 t = some (ys.map dS) ∧ (ys.map (·.length)).sum + ys.length * z.length ≤ 16777216 ∧ Q (dS (Txt.join z ys)) M2)
    (hs : starEach [e] X.env = [(false, eval e X.env)] := by rfl) (hbase : attributeBase o "join" X.env (eval o X.env) = eval o X.env := by rfl) (hline : (apos.endLine == pos.line) = true := by rfl) : DE X L (.Call (.Attribute o "join" apos) [e] [] pos) τ M Q :=
  de_of (pe_join pe_s pe_s hs hbase hline) fun σ G H Q' gs gm k => w σ G H _ gs gm fun s M1 v G1 H1 ⟨z, hs, q⟩ e1 g1 a1 => by
    subst hs
    rw [sl_str a1]
    refine ⟨⟨z, rfl⟩, q σ G1 H1 _ (gs.mono e1) g1 fun t M2 u G2 H2 ⟨ys, ht, hl, q2⟩ e2 g2 a2 => ?_⟩
    obtain ⟨p, xs, rfl, r, l⟩ := seq_at' g2 a2 ht
    rw [strs_at l] at r
    exact ⟨z, p, ys, rfl, rfl, r, hl, (k.mono (e1.trans e2)).go q2 g2 (.d (.str _))⟩
/-! ### more walks -/
theorem di_zip {e2 : Expr} {elts : List Expr} {kk : Nat} {tpos : Pos} (hg : Gl X "zip") (hm : X.mg "zip" = none)
    (w : DA X L [e, e2] τ M fun ss M1 => ∃ s t xs ys, ss = [s, t] ∧ isTup s = isTup t ∧ seqOf M1 s = some xs ∧ seqOf M1 t = some ys ∧ xs.length = ys.length ∧ QJ xs.length (fun M' => seqOf M' s = some xs ∧ seqOf M' t = some ys) (fun i y => ∃ a b, xs[i]? = some a ∧ ys[i]? = some b ∧ y = .u [a, b]) M1)
    (hs : starEach [e, e2] X.env = (false, eval e X.env) :: starEach [e2] X.env := by rfl) (hpl : (backTo pos (starEach [e2] X.env)).any (·.1) = false := by rfl) : DI X L (.Tuple elts kk tpos) (.Call (.Name "zip" p) [e, e2] [] pos) τ M QJ := fun σ G H R gs gm k => by
  refine i_of (RZ.pi_zipA hg hm pa_s hs hpl) ?_
  show sA X [e, e2] σ H (fun vs H1 => ∃ a b xs ys, vs = [.ref a, .ref b] ∧ ((SqL X.K H1 a xs ∧ SqL X.K H1 b ys ∧ R (Itz X.K a b) H1) ∨ (SqT X.K H1 a xs ∧ SqT X.K H1 b ys ∧ R (RZ.ItzT X.K a b) H1)))
  refine w σ G H _ gs gm ?_
  rintro ss M1 vs G1 H1 ⟨s, t, us, ws, e0, hT, h1, h2, hl, q⟩ e1 g1 a1
  subst e0
  obtain ⟨v, u, rfl, av, au⟩ := sl2 a1
  obtain ⟨pa, xs, rfl, ra, la⟩ := seq_at g1 av h1
  obtain ⟨pb, ys, rfl, rb, lb⟩ := seq_at g1 au h2
  refine ⟨pa, pb, xs, ys, rfl, ?_⟩
  rw [← hT] at rb
  cases hS : isTup s with
  | false =>
    rw [hS, if_neg Bool.false_ne_true] at ra rb
    refine .inl ⟨ra, rb, k _ _ _ M1 G1 H1 _ q e1 g1 ⟨fun M' G' H' sM e' g' => ?_, fun i M' G' H' hi sM e' g' => ?_⟩⟩
    · obtain ⟨p1, xs1, ep, r1, l1⟩ := seq_at g' (av.mono e') sM.1
      obtain ⟨p2, ys1, eq, r2, l2⟩ := seq_at g' (au.mono e') sM.2
      cases ep
      cases eq
      rw [← hT] at r2
      rw [hS, if_neg Bool.false_ne_true] at r1 r2
      exact ⟨xs1, ys1, r1, r2, .inl (Nat.le_of_eq l1.len)⟩
    · obtain ⟨p1, xs1, ep, r1, l1⟩ := seq_at g' (av.mono e') sM.1
      obtain ⟨p2, ys1, eq, r2, l2⟩ := seq_at g' (au.mono e') sM.2
      cases ep
      cases eq
      rw [← hT] at r2
      rw [hS, if_neg Bool.false_ne_true] at r1 r2
      have hj : i < ws.length := by omega
      obtain ⟨v1, hv1, av1⟩ := l1.get (List.getElem?_eq_getElem hi)
      obtain ⟨v2, hv2, av2⟩ := l2.get (List.getElem?_eq_getElem hj)
      refine ⟨⟨xs1, ys1, v1, v2, r1, r2, hv1, hv2⟩, fun x H2 hy => ?_⟩
      obtain ⟨T, x1, x2, rfl, nT, rfl, f1, f2⟩ := hy
      have ex1 := Option.some.inj ((f1 _ r1).symm.trans hv1)
      have ex2 := Option.some.inj ((f2 _ r2).symm.trans hv2)
      subst ex1 ex2
      have fr := g'.free nT
      exact ⟨_, _, ⟨_, _, List.getElem?_eq_getElem hi, List.getElem?_eq_getElem hj, rfl⟩, Ex.new fr.1, g'.newD nT, .u upd_same (.cons (av1.mono (Ex.new fr.1)) (.cons (av2.mono (Ex.new fr.1)) .nil))⟩
  | true =>
    rw [hS, if_pos rfl] at ra rb
    refine .inr ⟨ra, rb, k _ _ _ M1 G1 H1 _ q e1 g1 ⟨fun M' G' H' sM e' g' => ?_, fun i M' G' H' hi sM e' g' => ?_⟩⟩
    · obtain ⟨p1, xs1, ep, r1, l1⟩ := seq_at g' (av.mono e') sM.1
      obtain ⟨p2, ys1, eq, r2, l2⟩ := seq_at g' (au.mono e') sM.2
      cases ep
      cases eq
      rw [← hT] at r2
      rw [hS, if_pos rfl] at r1 r2
      exact ⟨xs1, ys1, r1, r2, .inl (Nat.le_of_eq l1.len)⟩
    · obtain ⟨p1, xs1, ep, r1, l1⟩ := seq_at g' (av.mono e') sM.1
      obtain ⟨p2, ys1, eq, r2, l2⟩ := seq_at g' (au.mono e') sM.2
      cases ep
      cases eq
      rw [← hT] at r2
      rw [hS, if_pos rfl] at r1 r2
      have hj : i < ws.length := by omega
      obtain ⟨v1, hv1, av1⟩ := l1.get (List.getElem?_eq_getElem hi)
      obtain ⟨v2, hv2, av2⟩ := l2.get (List.getElem?_eq_getElem hj)
      refine ⟨⟨xs1, ys1, v1, v2, r1, r2, hv1, hv2⟩, fun x H2 hy => ?_⟩
      obtain ⟨T, x1, x2, rfl, nT, rfl, f1, f2⟩ := hy
      have ex1 := Option.some.inj ((f1 _ r1).symm.trans hv1)
      have ex2 := Option.some.inj ((f2 _ r2).symm.trans hv2)
      subst ex1 ex2
      have fr := g'.free nT
      exact ⟨_, _, ⟨_, _, List.getElem?_eq_getElem hi, List.getElem?_eq_getElem hj, rfl⟩, Ex.new fr.1, g'.newD nT, .u upd_same (.cons (av1.mono (Ex.new fr.1)) (.cons (av2.mono (Ex.new fr.1)) .nil))⟩
end
end Y

namespace Y
open PySem L2 PyProof.Rows

/-- no dict is walked at present -/
def NoDK (L : Lk) : Prop := ∀ x ∈ L, ∀ kvs, x.2.2 ≠ .dK kvs
section
variable {K : PySem.W.Frag} {L : Lk} {M : Cs} {G H : Hp} {d : Addr} {kvs : List (Key × V)} {od : Obj}
theorem lock_exact (g : GoodM K L M G H) (hL : NoDK L) (hd : G d = some (.dK kvs)) : H d = some (.dK kvs) := by
  rcases g.vw d _ hd with z | ⟨x, hx, _, w⟩
  · exact z
  · exact absurd w (hL x hx kvs)
theorem lock_ne (g : GoodM K L M G H) (hL : NoDK L) (hd : G d = some (.dK kvs)) : ∀ x ∈ L, x.1 ≠ d := fun x hx e => by
  have h1 := g.lk x hx
  rw [e, lock_exact g hL hd] at h1
  cases h1
theorem GoodM.lock (g : GoodM K L M G H) (hL : NoDK L) (hd : G d = some (.dK kvs)) : GoodM K ((d, od, .dK kvs) :: L) M G (upd H d (.frz od (.dK kvs))) := by
  refine ⟨fun a o e => ?_, fun a c e => ?_, fun x hx => ?_⟩
  · by_cases ha : a = d
    · subst ha
      rw [hd] at e
      cases e
      exact .inr ⟨_, List.mem_cons_self, rfl, rfl⟩
    · rcases g.vw a o e with z | ⟨x, hx, z⟩
      · exact .inl (by rw [upd_ne ha]; exact z)
      · exact .inr ⟨x, List.mem_cons_of_mem _ hx, z⟩
  · obtain ⟨z1, z2⟩ := g.cell a c e
    have ha : a ≠ d := by
      intro z
      rw [z, hd] at z1
      cases z1
    exact ⟨z1, z2.mono (Ex.refl G) fun o q => by rw [upd_ne ha]; exact q⟩
  · rcases List.mem_cons.mp hx with rfl | hx
    · exact upd_same
    · rw [upd_ne (lock_ne g hL hd x hx)]
      exact g.lk x hx
theorem GoodM.unlock (g : GoodM K ((d, od, .dK kvs) :: L) M G H) (hne : ∀ x ∈ L, x.1 ≠ d) (hd : G d = some (.dK kvs)) : GoodM K L M G (upd H d (.dK kvs)) := by
  refine ⟨fun a o e => ?_, fun a c e => ?_, fun x hx => ?_⟩
  · by_cases ha : a = d
    · subst ha
      rw [hd] at e
      cases e
      exact .inl upd_same
    · rcases g.vw a o e with z | ⟨x, hx, z⟩
      · exact .inl (by rw [upd_ne ha]; exact z)
      · rcases List.mem_cons.mp hx with rfl | hx
        · exact absurd z.1.symm ha
        · exact .inr ⟨x, hx, z⟩
  · obtain ⟨z1, z2⟩ := g.cell a c e
    have ha : a ≠ d := by
      intro z
      rw [z, hd] at z1
      cases z1
    exact ⟨z1, z2.mono (Ex.refl G) fun o q => by rw [upd_ne ha]; exact q⟩
  · rw [upd_ne (hne x hx)]
    exact g.lk x (List.mem_cons_of_mem _ hx)
end
section
variable {X : Cx} {L : Lk} {τ : List (Option Sl)} {M : Cs} {Q : Sl → Cs → Prop} {QG : List (Option Sl) → Cs → Prop} {e a b c o tg iter : Expr} {es : List Expr} {pos apos cpos pos' p0 : Pos} {E : Ks} {st : Stmt} {sts body : List Stmt} {QJ : QI} {nm : Str} {i : Nat}
/-- for k, v in d.items(), d a name -/
theorem ds_forItems {elts : List Expr} {kk : Nat} {tpos : Pos} {kd : List (Key × PyData)} (hp : PassesOwn (model X.prog X.w) X.A X.env X.xe) (hc : X.calm = true) (hL : NoDK L) (hN : X.N[i]? = some nm) (hv : Vis X.env.scope nm) (ht : τ[i]? = some (some (.d (.dict (encK kd)))))
    (Iv : Nat → List (Option Sl) → Cs → Prop) (i0 : Iv 0 τ M)
    (turn : ∀ x, (∃ xs, x.2.2 = HO.dK xs) → ∀ n k d τ' M', kd[n]? = some (k, d) → Iv n τ' M' → DG X (x :: L) (.Tuple elts kk tpos) (.u [.d (kD k), .d d]) τ' M' fun τ2 M2 => DB X (x :: L) body τ2 M2 { E with nx := Iv (n + 1), ct := Iv (n + 1), bk := E.nx })
    (fin : ∀ τ' M', Iv kd.length τ' M' → E.nx τ' M')
    (hd : (nm == ("__debug__" : Str)) = false := by decide) (hcd : (nm == ("__classdict__" : Str)) = false := by decide)
    (hbase : attributeBase (.Name nm p0) "items" X.env (eval (.Name nm p0) X.env) = eval (.Name nm p0) X.env := by rfl) (hline : (apos.endLine == cpos.line) = true := by rfl)
    (hs : ∀ x, foldedSetIterable (.Call (.Attribute (.Name nm p0) "items" apos) [] [] cpos) X.env x = pure x := by intro _; rfl) : DS X L (.For (.Tuple elts kk tpos) (.Call (.Attribute (.Name nm p0) "items" apos) [] [] cpos) body [] pos) τ M E :=
  ds_of (ps_lock (ps_for hp hc (pi_items (pe_var hN hv hd hcd) hbase hline) pg_s pss_s hs)) fun σ G H D gs gm k => by
    obtain ⟨v, hσ, av⟩ := gs.get i _ ht
    cases av with
    | d av =>
      generalize hz : encK kd = zs at av
      cases av with
      | dic hG l =>
        rename_i dd xs
        subst hz
        have lx := AtK.kv kd l
        have hx := lock_exact gm hL hG
        have hne := lock_ne gm hL hG
        refine ⟨dd, .dK xs, hx, trivial, fun od => ?_⟩
        have gmL := gm.lock (od := od) hL hG
        have kL : EndsOk X.K ((dd, od, .dK xs) :: L) G E ⟨fun σ' H' => H' dd = some (.frz od (.dK xs)) ∧ D.nx σ' (upd H' dd (.dK xs)), fun v H' => H' dd = some (.frz od (.dK xs)) ∧ D.rt v (upd H' dd (.dK xs)), fun σ' H' => H' dd = some (.frz od (.dK xs)) ∧ D.bk σ' (upd H' dd (.dK xs)), fun σ' H' => H' dd = some (.frz od (.dK xs)) ∧ D.ct σ' (upd H' dd (.dK xs))⟩ :=
          ⟨fun τ' M' σ' G' H' q e g s => ⟨g.lk _ List.mem_cons_self, k.nx _ _ _ G' _ q e (g.unlock hne (e _ _ hG)) s⟩, fun s M' v G' H' q e g a => ⟨g.lk _ List.mem_cons_self, k.rt _ _ _ G' _ q e (g.unlock hne (e _ _ hG)) a⟩,
            fun τ' M' σ' G' H' q e g s => ⟨g.lk _ List.mem_cons_self, k.bk _ _ _ G' _ q e (g.unlock hne (e _ _ hG)) s⟩, fun τ' M' σ' G' H' q e g s => ⟨g.lk _ List.mem_cons_self, k.ct _ _ _ G' _ q e (g.unlock hne (e _ _ hG)) s⟩⟩
        refine ⟨.ref dd, hσ, dd, od, xs, rfl, upd_same, ?_⟩
        refine ⟨fun n m σ' H' => m = kd.length - n ∧ n ≤ kd.length ∧ ∃ τ' M' G', Iv n τ' M' ∧ Ex G G' ∧ GoodS X.K G' σ' τ' ∧ GoodM X.K ((dd, od, .dK xs) :: L) M' G' H', ⟨kd.length, by simp, Nat.zero_le _, τ, M, G, i0, Ex.refl _, gs, gmL⟩, ?_⟩
        rintro n m σ' H' ⟨rfl, hn, τ', M', G', iv, e', s', g'⟩
        have hl : xs.length = kd.length := by rw [lx.len]; simp [slK]
        have hd' : H' dd = some (.frz od (.dK xs)) := g'.lk _ List.mem_cons_self
        by_cases hlt : n < kd.length
        · refine .inr ⟨⟨hd', by rw [hl]; exact hlt⟩, fun σ2 H2 => ∃ τ2 M2 G2, Iv (n + 1) τ2 M2 ∧ Ex G G2 ∧ GoodS X.K G2 σ2 τ2 ∧ GoodM X.K ((dd, od, .dK xs) :: L) M2 G2 H2, fun σ2 H2 ⟨τ2, M2, G2, h⟩ => ⟨kd.length - (n + 1), by omega, rfl, hlt, τ2, M2, G2, h⟩, fun x H2 hy => ?_⟩
          obtain ⟨T, k1, v1, hx1, rfl, nT, rfl⟩ := hy
          obtain ⟨u1, hu1, au1⟩ := (KvAt.mono e' lx).get (i := n) (k := (kd[n]).1) (s := .d (kd[n]).2) (by unfold slK; rw [List.getElem?_map, List.getElem?_eq_getElem hlt]; rfl)
          rw [hx1] at hu1
          have hu2 := Option.some.inj hu1
          have f := g'.free nT
          have ek : k1 = (kd[n]).1 := (Prod.mk.inj hu2).1
          have ev : v1 = u1 := (Prod.mk.inj hu2).2
          subst ev
          have ak : At X.K (upd G' T (.tup [kV k1, v1])) (kV k1) (kD (kd[n]).1) := by
            rw [← ek]
            cases k1 with
            | inl z => exact .int z
            | inr z => exact .str z
          have e2 := Ex.new (G := G') (o := .tup [kV k1, v1]) f.1
          refine turn (dd, od, .dK xs) ⟨xs, rfl⟩ n (kd[n]).1 (kd[n]).2 τ' M' (List.getElem?_eq_getElem hlt) iv σ' _ _ _ _ (s'.mono e2) (g'.newD nT) (.u upd_same (.cons (.d ak) (.cons (au1.mono e2) .nil))) fun τ3 M3 σ3 G3 H3 q3 e3 g3 s3 => ?_
          have e13 := (e'.trans e2).trans e3
          exact q3 σ3 G3 H3 _ s3 g3 ⟨fun τ4 M4 σ4 G4 H4 q4 e4 g4 s4 => ⟨τ4, M4, G4, q4, e13.trans e4, s4, g4⟩, kL.rt.mono e13, kL.nx.mono e13, fun τ4 M4 σ4 G4 H4 q4 e4 g4 s4 => ⟨τ4, M4, G4, q4, e13.trans e4, s4, g4⟩⟩
        · have e : n = kd.length := by omega
          subst e
          exact .inl ⟨⟨hd', by rw [hl]; exact Nat.le_refl _⟩, kL.nx τ' M' σ' G' H' (fin _ _ iv) e' g' s'⟩
/-- {kx: vx for tg in iter} -/
theorem we_dc {kx vx : TE} {g : TG} {tt : TT} {vs : List Nat} (w : DI X L tg iter τ M fun n S ys M1 => ∀ D, M1 D = none → ∃ Iv : Nat → Cs → Prop, Iv 0 (updC M1 D (.k [])) ∧ (∀ i M', Iv i M' → S M') ∧
      (∀ i y M', i < n → ys i y → Iv i M' → WGw X.K L vs g y (wipeK τ vs) M' fun τ2 M2 => WT X.K L tt τ2 M2 fun d M3 => (d = true → WE X.K L kx τ2 M3 fun z M4 => WE X.K L vx τ2 M4 fun z2 M5 => ∃ kvs k, z = .d (kD k) ∧ M5 D = some (.k kvs) ∧ kvs.length < sizeLine ∧ Iv (i + 1) (updC M5 D (.k (putS kvs k z2)))) ∧ (d = false → Iv (i + 1) M3)) ∧ (∀ M', Iv n M' → Q (.c D) M')) :
    WE X.K L (tDc (sI X tg iter) g tt kx vx vs) τ M Q := fun σ G H Q' gs gm k => w σ G H _ gs gm fun n S ys M1 G1 H1 J q e1 g1 ok D hD => by
  obtain ⟨Iv, i0, st, turn, fin⟩ := q D (g1.free hD).2
  refine ⟨fun i m H' => m = n - i ∧ i ≤ n ∧ ∃ M' G', Iv i M' ∧ Ex G1 G' ∧ GoodM X.K L M' G' H', ⟨n, by simp, Nat.zero_le _, _, G1, i0, Ex.refl _, g1.newC hD ⟨[], upd_same, trivial⟩⟩, ?_⟩
  rintro i m H' ⟨rfl, hi, M', G', iv, e', g'⟩
  by_cases hlt : i < n
  · obtain ⟨go, yl⟩ := ok.go i M' G' H' hlt (st _ _ iv) e' g'
    refine .inr ⟨go, fun H2 => ∃ M2 G2, Iv (i + 1) M2 ∧ Ex G1 G2 ∧ GoodM X.K L M2 G2 H2, fun H2 ⟨M2, G2, h⟩ => ⟨n - (i + 1), by omega, rfl, hlt, M2, G2, h⟩, fun x H2 hy => ?_⟩
    obtain ⟨y, G2, yy, e2, g2, ay⟩ := yl x H2 hy
    have e12 := e'.trans e2
    refine turn i y M' hlt yy iv _ G2 H2 x _ ((gs.mono (e1.trans e12)).wipe vs) g2 ay fun τ3 M3 σ3 G3 H3 q3 e3 g3 s3 z3 => ?_
    refine ⟨z3.trans wipe_wipe, ?_⟩
    have e13 := e12.trans e3
    refine q3 σ3 G3 H3 _ s3 g3 fun d M4 G4 H4 q4 e4 g4 => ?_
    cases d with
    | true =>
      rw [if_pos rfl]
      refine q4.1 rfl σ3 G4 H4 _ (s3.mono e4) g4 fun z M5 v G5 H5 q5 e5 g5 a5 => ?_
      refine q5 σ3 G5 H5 _ (s3.mono (e4.trans e5)) g5 fun z2 M6 v2 G6 H6 ⟨kvs, key, hz, hk, hl, iv6⟩ e6 g6 a6 => ?_
      obtain ⟨f6, xs, h1, h2⟩ := g6.cell D _ hk
      subst hz
      refine ⟨xs, key, key_at a5, h1, by rw [h2.len]; exact hl, _, G6, iv6, ((e13.trans e4).trans e5).trans e6, ?_⟩
      exact g6.write hk h1 (fun _ _ z => nomatch z) ⟨_, upd_same, KvAt.put a6 h2⟩
    | false =>
      rw [if_neg Bool.false_ne_true]
      exact ⟨M4, G4, q4.2 rfl, e13.trans e4, g4⟩
  · have e : i = n := by omega
    subst e
    exact .inl ⟨ok.stop M' G' H' (st _ _ iv) e' g', k _ M' _ G' H' (fin _ iv) (e1.trans e') g' (.c D)⟩
theorem de_dc0 {kx vx : Expr} {scope : Scope} {own : List (Str × Nat)} {g : TG} (hc : X.calm = true) (hN : X.N.Nodup) (ok : BlkOk X.N X.env.scope scope own) (hg : ∀ (s : Shared) (H : Hp) (C : Addr) (cl : List (Str × Addr)) (fp : List Addr), PG (X.blk s H scope (compEnvC scope cl C X.env) fp) tg g)
    (w : DI X L tg iter τ M fun n S ys M1 => ∀ D, M1 D = none → ∃ Iv : Nat → Cs → Prop, Iv 0 (updC M1 D (.k [])) ∧ (∀ i M', Iv i M' → S M') ∧
      (∀ i y M', i < n → ys i y → Iv i M' → WGw X.K L (own.map (·.2)) g y (wipeK τ (own.map (·.2))) M' fun τ2 M3 => DEb X scope L kx τ2 M3 fun z M4 => DEb X scope L vx τ2 M4 fun z2 M5 => ∃ kvs k, z = .d (kD k) ∧ M5 D = some (.k kvs) ∧ kvs.length < sizeLine ∧ Iv (i + 1) (updC M5 D (.k (putS kvs k z2)))) ∧ (∀ M', Iv n M' → Q (.c D) M'))
    (hs : ∀ x, foldedSetIterable iter X.env x = pure x := by intro _; rfl) : DE X L (.DictComp kx vx [⟨tg, iter, [], 0⟩] scope pos) τ M Q :=
  de_of (pe_dc (tk := bE X scope kx) (tv := bE X scope vx) (tt := tYes) hc hN pi_s ok hg (fun _ _ _ _ _ => pts_nil) (fun s H C cl fp => ⟨fun pins s' σ H' Q' I h => h s H C cl fp pins s' I⟩) (fun s H C cl fp => ⟨fun pins s' σ H' Q' I h => h s H C cl fp pins s' I⟩) hs) (we_dc fun σ G H R gs gm k => w σ G H R gs gm fun n S ys M1 G1 H1 J q e1 g1 ok => k n S ys M1 G1 H1 J (fun D hD => by
    obtain ⟨Iv, i0, st, turn, fin⟩ := q D hD
    refine ⟨Iv, i0, st, fun i y M' hi yy iv => ?_, fin⟩
    intro σ G H v Q' gs gm a k
    refine turn i y M' hi yy iv σ G H v Q' gs gm a fun τ' M' σ' G' H' h => k τ' M' σ' G' H' ?_
    refine fun σ G H Q' gs gm k => k.go (b := true) ⟨fun _ => ?_, fun z => nomatch z⟩ gm
    refine web (X := X) (scope := scope) fun s0 H0 C cl fp σ2 G2 H2 Q2 gs2 gm2 k2 => h s0 H0 C cl fp σ2 G2 H2 Q2 gs2 gm2 fun z M4 v4 G4 H4 q4 => k2 z M4 v4 G4 H4 (web q4)) e1 g1 ok)
/-- a dict cell of data becomes data -/
theorem GoodM.freezeK {K : PySem.W.Frag} {G H : Hp} {p : Addr} {kd : List (Key × PyData)} (g : GoodM K L M G H) (hc : M p = some (.k (slK kd))) : ∃ G', Ex G G' ∧ GoodM K L (delC M p) G' H ∧ At K G' (.ref p) (.dict (encK kd)) := by
  obtain ⟨f, xs, h1, h2⟩ := g.cell p _ hc
  refine ⟨upd G p (.dK xs), Ex.new f, ⟨fun a u e => ?_, fun a c e => ?_, g.lk⟩, .dic upd_same (AtK.mono (Ex.new f) (KvAt.at kd h2))⟩
  · by_cases ha : a = p
    · subst ha
      rw [upd_same] at e
      cases e
      exact .inl h1
    · rw [upd_ne ha] at e
      exact g.vw a u e
  · by_cases ha : a = p
    · subst ha
      rw [delC_same] at e
      cases e
    · rw [delC_ne ha] at e
      obtain ⟨z1, z2⟩ := g.cell a c e
      exact ⟨by rw [upd_ne ha]; exact z1, z2.mono (Ex.new f) fun o q => q⟩
theorem de_frzK (w : DE X L e τ M fun s M1 => ∃ p kd, s = .c p ∧ M1 p = some (.k (slK kd)) ∧ Q (.d (.dict (encK kd))) (delC M1 p)) : DE X L e τ M Q := fun σ G H Q' gs gm k =>
  w σ G H _ gs gm fun s M1 v G1 H1 ⟨p, ds, e, hp, q⟩ e1 g1 a1 => by
    subst e
    obtain ⟨G2, e2, g2, a2⟩ := g1.freezeK hp
    rw [sl_c a1]
    exact k _ _ _ G2 H1 q (e1.trans e2) g2 (.d a2)
/-- a statement's cell slot becomes data: the slot j holds the cell p -/
theorem db_frz {j : Nat} {p : Addr} {ds : List PyData} (hj : τ[j]? = some (some (.c p))) (hp : M p = some (.l (ds.map .d))) (w : DB X L sts (τ.set j (some (.d (.list ds)))) (delC M p) E) : DB X L sts τ M E := fun σ G H D gs gm k => by
  obtain ⟨G2, e2, g2, a2⟩ := gm.freeze hp
  obtain ⟨v, hv, av⟩ := gs.get j _ hj
  have ev := sl_c av
  subst ev
  have hset : σ.set j (some (.ref p)) = σ := by
    apply List.ext_getElem?
    intro n
    by_cases e : j = n
    · subst e
      obtain ⟨hl, _⟩ := List.getElem?_eq_some_iff.mp hv
      rw [List.getElem?_set_self hl, hv]
    · rw [List.getElem?_set_ne e]
  have gs2 := (gs.mono e2).set (v := .ref p) (SlAt.d a2) j
  rw [hset] at gs2
  exact w σ G2 H D gs2 g2 (k.mono e2)
end
end Y

namespace Y
open PySem L2 PyProof.Rows

theorem bt_isinstance : bootBuiltins "isinstance" = some (.builtin "isinstance") := by decide +kernel
theorem bt_len : bootBuiltins "len" = some (.builtin "len") := by decide +kernel
theorem bt_sum : bootBuiltins "sum" = some (.builtin "sum") := by decide +kernel
theorem bt_all : bootBuiltins "all" = some (.builtin "all") := by decide +kernel
theorem bt_min : bootBuiltins "min" = some (.builtin "min") := by decide +kernel
theorem bt_max : bootBuiltins "max" = some (.builtin "max") := by decide +kernel
theorem bt_abs : bootBuiltins "abs" = some (.builtin "abs") := by decide +kernel
theorem bt_sorted : bootBuiltins "sorted" = some (.builtin "sorted") := by decide +kernel
theorem bt_repr : bootBuiltins "repr" = some (.builtin "repr") := by decide +kernel
theorem bt_any : bootBuiltins "any" = some (.builtin "any") := by decide +kernel
theorem bt_int : bootBuiltins "int" = some (.type "int") := by decide +kernel
theorem bt_bool : bootBuiltins "bool" = some (.type "bool") := by decide +kernel
theorem bt_str : bootBuiltins "str" = some (.type "str") := by decide +kernel
theorem bt_list : bootBuiltins "list" = some (.type "list") := by decide +kernel
theorem bt_tuple : bootBuiltins "tuple" = some (.type "tuple") := by decide +kernel
theorem bt_dict : bootBuiltins "dict" = some (.type "dict") := by decide +kernel
theorem bt_type : bootBuiltins "type" = some (.type "type") := by decide +kernel
theorem bt_set : bootBuiltins "set" = some (.type "set") := by decide +kernel
theorem bt_zip : bootBuiltins "zip" = some (.type "zip") := by decide +kernel
theorem bt_enumerate : bootBuiltins "enumerate" = some (.type "enumerate") := by decide +kernel
theorem bt_range : bootBuiltins "range" = some (.type "range") := by decide +kernel
theorem bt_reversed : bootBuiltins "reversed" = some (.type "reversed") := by decide +kernel
theorem okTy_int : okTy "int" := PySem.TypeEq.meta_int
theorem okTy_str : okTy "str" := PySem.TypeEq.meta_str
theorem okTy_bool : okTy "bool" := PySem.TypeEq.meta_bool
theorem okTy_NoneType : okTy "NoneType" := PySem.TypeEq.meta_NoneType
theorem okTy_list : okTy "list" := PySem.TypeEq.meta_list
theorem okTy_tuple : okTy "tuple" := PySem.TypeEq.meta_tuple
theorem okTy_dict : okTy "dict" := PySem.TypeEq.meta_dict
/-! ### a < b < c < d as a test -/
def tChain3 (r1 r2 r3 : R2) (ta tb tc td : TE) : TT := fun σ H Q => ta σ H fun x H1 => tb σ H1 fun y H2 => r1 x y H2 fun z H3 => ∃ k, z = .bl k ∧ (if k = true then tc σ H3 fun y2 H4 => r2 y y2 H4 fun z2 H5 => ∃ k2, z2 = .bl k2 ∧ (if k2 = true then td σ H5 fun y3 H6 => r3 y2 y3 H6 fun z3 H7 => ∃ k3, z3 = .bl k3 ∧ Q k3 H7 else Q false H5) else Q false H3)
section
variable {X : Cx} {a b c d : Expr} {ta tb tc td : TE} {pos : Pos}
theorem pt_chain3 {op op' op'' : CmpOp} {r r' r'' : R2} (ho : OpR X (compareOp op) r) (ho' : OpR X (compareOp op') r') (ho'' : OpR X (compareOp op'') r'') (ha : PE X a ta) (hb : PE X b tb) (hc : PE X c tc) (hd : PE X d td)
    (hm : lastMarks [op, op', op''] [b, c, d] = false := by with_unfolding_all rfl) : PT X (.Compare a [op, op', op''] [b, c, d] pos) (tChain3 r r' r'' ta tb tc td) := by
  refine ⟨fun pins s σ H Q I h => ?_⟩
  refine isTrue_chain (thn (ha.run pins s σ H _ I h) fun v s1 ⟨x, H1, I1, r1, q1⟩ => test_link (thn (hb.run pins s1 σ H1 _ I1 q1) fun u s2 ⟨y, H2, I2, r2, q2⟩ =>
    thn (ho pins s2 σ H2 x y v u _ I2 r1 r2 q2) fun e s3 ⟨z, H3, I3, r3, k, ek, q3⟩ => ?_)) hm
  subst ek
  cases r3
  refine wpAny_truthy_bool ?_
  cases k with
  | false => exact ite_ff ⟨H3, I3, q3⟩
  | true =>
    refine ite_tt (test_link (thn (hc.run pins s3 σ H3 _ I3 q3) fun u4 s4 ⟨y4, H4, I4, r4, q4⟩ => thn (ho' pins s4 σ H4 y y4 u u4 _ I4 r2 r4 q4) fun e5 s5 ⟨z5, H5, I5, r5, k5, ek5, q5⟩ => ?_))
    subst ek5
    cases r5
    refine wpAny_truthy_bool ?_
    cases k5 with
    | false => exact ite_ff ⟨H5, I5, q5⟩
    | true =>
      refine ite_tt (test_last (thn (hd.run pins s5 σ H5 _ I5 q5) fun u6 s6 ⟨y6, H6, I6, r6, q6⟩ => thn (ho'' pins s6 σ H6 y4 y6 u4 u6 _ I6 r4 r6 q6) fun e7 s7 ⟨z7, H7, I7, r7, k7, ek7, q7⟩ => ?_))
      subst ek7
      cases r7
      exact wpAny_truthy_bool ⟨H7, I7, q7⟩
theorem dt_chain3 {op op' op'' : CmpOp} {r r' r'' : R2} {L : Lk} {τ : List (Option Sl)} {M : Cs} {QB : Bool → Cs → Prop} (ho : OpR X (compareOp op) r) (ho' : OpR X (compareOp op') r') (ho'' : OpR X (compareOp op'') r'')
    (w : DE X L a τ M fun x M1 => DE X L b τ M1 fun y M2 => R2k X.K L r x y M2 (BoolQ fun k M3 => (k = true → DE X L c τ M3 fun z M4 => R2k X.K L r' y z M4 (BoolQ fun k2 M5 => (k2 = true → DE X L d τ M5 fun t M6 => R2k X.K L r'' z t M6 (BoolQ QB)) ∧ (k2 = false → QB false M5))) ∧ (k = false → QB false M3)))
    (hm : lastMarks [op, op', op''] [b, c, d] = false := by with_unfolding_all rfl) : DT X L (.Compare a [op, op', op''] [b, c, d] pos) τ M QB :=
  dt_of (pt_chain3 ho ho' ho'' pe_s pe_s pe_s pe_s hm) fun σ G H Q' gs gm k =>
    w σ G H _ gs gm fun x M1 v G1 H1 q e1 g1 a1 => q σ G1 H1 _ (gs.mono e1) g1 fun y M2 u G2 H2 q2 e2 g2 a2 => q2 G2 H2 v u _ g2 (a1.mono e2) a2 fun s M3 z G3 H3 ⟨k1, e, q3, q4⟩ e3 g3 a3 => by
      subst e
      refine ⟨k1, sl_bl a3, ?_⟩
      have e13 := (e1.trans e2).trans e3
      cases k1 with
      | false =>
        rw [if_neg Bool.false_ne_true]
        exact (k.mono e13).go (q4 rfl) g3
      | true =>
        rw [if_pos rfl]
        refine q3 rfl σ G3 H3 _ (gs.mono e13) g3 fun t M4 w' G4 H4 q5 e4 g4 a4 => q5 G4 H4 u w' _ g4 ((a2.mono e3).mono e4) a4 fun s5 M5 z5 G5 H5 ⟨k5, e5', q6, q7⟩ e5 g5 a5 => ?_
        subst e5'
        refine ⟨k5, sl_bl a5, ?_⟩
        have e15 := (e13.trans e4).trans e5
        cases k5 with
        | false =>
          rw [if_neg Bool.false_ne_true]
          exact (k.mono e15).go (q7 rfl) g5
        | true =>
          rw [if_pos rfl]
          refine q6 rfl σ G5 H5 _ (gs.mono e15) g5 fun t6 M6 w6 G6 H6 q8 e6 g6 a6 => q8 G6 H6 w' w6 _ g6 ((a4.mono e5).mono e6) a6 fun s7 M7 z7 G7 H7 ⟨k7, e7', q9⟩ e7 g7 a7 => ?_
          subst e7'
          exact ⟨k7, sl_bl a7, k k7 M7 G7 H7 q9 ((e15.trans e6).trans e7) g7⟩
end
theorem no1 {P : Prop} (h : false = true) : P := nomatch h
theorem no2 {P : Prop} (h : true = false) : P := nomatch h
section
variable {X : Cx} {L : Lk} {τ : List (Option Sl)} {M : Cs} {QB QB2 : Bool → Cs → Prop} {c : Expr} {sts st2 : List Stmt} {pos : Pos} {E : Ks}
theorem dt_imp (w : DT X L c τ M QB2) (h : ∀ k M', QB2 k M' → QB k M') : DT X L c τ M QB := fun σ G H Q' gs gm k => w σ G H Q' gs gm fun b M' G' H' q => k b M' G' H' (h b M' q)
/-- an if whose test is told first -/
theorem ds_ifB (b : Bool) (h : DT X L c τ M fun k M1 => k = b ∧ M1 = M) (wt : b = true → DB X L sts τ M E) (wf : b = false → DB X L st2 τ M E) : DS X L (.If c sts st2 pos) τ M E := ds_if (dt_imp h fun k M1 ⟨e1, e2⟩ => by subst e1 e2; exact ⟨wt, wf⟩)
theorem ds_ifF (h : DT X L c τ M fun k M1 => k = false ∧ M1 = M) (w : DB X L st2 τ M E) : DS X L (.If c sts st2 pos) τ M E := ds_ifB false h (fun z => nomatch z) fun _ => w
theorem ds_ifT (h : DT X L c τ M fun k M1 => k = true ∧ M1 = M) (w : DB X L sts τ M E) : DS X L (.If c sts st2 pos) τ M E := ds_ifB true h (fun _ => w) fun z => nomatch z
end
/-! ### cells that nobody asks for -/
def Sub (M2 M1 : Cs) : Prop := ∀ a c, M2 a = some c → M1 a = some c
theorem Sub.refl (M : Cs) : Sub M M := fun _ _ h => h
theorem Sub.new {M M1 : Cs} {p : Addr} {c : Cell} (h : Sub M M1) (hp : M1 p = none) : Sub M (updC M1 p c) := fun a d e => by
  have e1 := h a d e
  rw [updC_ne (neC e1 hp)]
  exact e1
theorem Sub.put {M M1 : Cs} {p : Addr} {c : Cell} (h : Sub M M1) (hp : M p = none) : Sub M (updC M1 p c) := fun a d e => by
  rw [updC_ne (neC e hp)]
  exact h a d e
theorem Sub.del {M M1 : Cs} {p : Addr} (h : Sub M M1) (hp : M p = none) : Sub M (delC M1 p) := fun a d e => by
  rw [delC_ne (neC e hp)]
  exact h a d e
theorem Sub.none {M M1 : Cs} {p : Addr} (h : Sub M M1) (hp : M1 p = none) : M p = none := by
  cases e : M p with
  | none => rfl
  | some c => rw [h p c e] at hp; cases hp
theorem Sub.cong {M2 M1 : Cs} {p : Addr} {c : Cell} (h : Sub M2 M1) : Sub (updC M2 p c) (updC M1 p c) := fun a d e => by
  by_cases ha : a = p
  · subst ha
    rw [updC_same] at e ⊢
    exact e
  · rw [updC_ne ha] at e ⊢
    exact h a d e
theorem GoodM.sub {K : PySem.W.Frag} {L : Lk} {M1 M2 : Cs} {G H : Hp} (g : GoodM K L M1 G H) (h : Sub M2 M1) : GoodM K L M2 G H := ⟨g.vw, fun a c e => g.cell a c (h a c e), g.lk⟩
section
variable {X : Cx} {L : Lk} {τ : List (Option Sl)} {M : Cs} {Q : Sl → Cs → Prop} {e : Expr} {s : Sl} {sts : List Stmt} {E : Ks}
theorem de_gc (w : DE X L e τ M fun s M1 => ∃ M2, Sub M2 M1 ∧ Q s M2) : DE X L e τ M Q := fun σ G H Q' gs gm k => w σ G H _ gs gm fun s M1 v G1 H1 ⟨M2, h, q⟩ e1 g1 a1 => k s M2 v G1 H1 q e1 (g1.sub h) a1
theorem db_gc {M2 : Cs} (h : Sub M2 M) (w : DB X L sts τ M2 E) : DB X L sts τ M E := fun σ G H D gs gm k => w σ G H D gs (gm.sub h) k
theorem call_lenR : CallR X (.builtin "len") (fun xs H Q => ∃ a kvs, xs = [V.ref a] ∧ Rd H a (.dK kvs) ∧ Q (.int kvs.length) H) := by
  intro pins s σ H xs us Q I r h
  obtain ⟨a, kvs, rfl, ha, q⟩ := h
  obtain ⟨u, rfl, ru⟩ := vals1 r
  cases ru
  exact d_len I ha fun t s' I' => ⟨.int kvs.length, H, I', ⟨t, rfl⟩, q⟩
theorem k_lenD {kvs : List (Key × Sl)} (h : DictIs M s kvs) (q : Q (.d (.int kvs.length)) M) : RCk X.K L (fun xs H Q => ∃ a kvs, xs = [V.ref a] ∧ Rd H a (.dK kvs) ∧ Q (.int kvs.length) H) [s] M Q := fun G H vs Q' g a k => by
  obtain ⟨v, rfl, a1⟩ := sl1 a
  obtain ⟨p, xs, rfl, r, l⟩ := dict_at g a1 h
  exact ⟨p, xs, rfl, r, by rw [l.len]; exact k.go q g (.d (.int _))⟩
end
section
variable {X : Cx} {L : Lk} {τ : List (Option Sl)} {M : Cs} {st : Stmt} {sts : List Stmt} {E : Ks}
/-- a statement whose ways come together again -/
theorem db_consJ (J : List (Option Sl) → Cs → Prop) (w : DS X L st τ M { E with nx := J }) (h : ∀ τ' M', J τ' M' → DB X L sts τ' M' E) : DB X L (st :: sts) τ M E := db_cons fun σ G H D gs gm k => w σ G H D gs gm ⟨fun τ' M' σ' G' H' q => k.nx τ' M' σ' G' H' (h τ' M' q), k.rt, k.bk, k.ct⟩
end
/-- a def of the top: where it stands -/
def FunAt (K : PySem.W.Frag) (mg : Str → Option Value) (x : Str) (st : Stmt) (ps : List Str) : Prop := ∃ (f : Addr) (fd : FuncData), Fun K x x st f fd ∧ mg x = some (.ref f) ∧ Binds K fd ps []
/-- a def that may be called -/
def Cal (P : Program) (w : World) (K : PySem.W.Frag) (mg : Str → Option Value) (base : Heap) (x : Str) (k : Nat) (ps : List Str) (R : Rr) : Prop :=
  ∃ (f : Addr) (fd : FuncData), FnOk P w K mg base CX0 k f fd ps (Spk K R) ∧ mg x = some (.ref f) ∧ PySem.W.keepIn K (.ref f) = true ∧ Binds K fd ps []
theorem Cal.up {P : Program} {w : World} {K : PySem.W.Frag} {mg : Str → Option Value} {base : Heap} {x : Str} {j k : Nat} {ps : List Str} {R : Rr} (c : Cal P w K mg base x j ps R) (h : j ≤ k) : Cal P w K mg base x k ps R := by
  obtain ⟨f, fd, F, m, kp, b⟩ := c
  exact ⟨f, fd, F.mono h, m, kp, b⟩
section
variable {X : Cx} {L : Lk} {τ : List (Option Sl)} {M : Cs} {Q : Sl → Cs → Prop} {e : Expr} {es : List Expr} {pos p : Pos}
theorem de_callC {R : Rr} {k : Nat} {ps : List Str} {x : Str} (c : Cal X.prog X.w X.K X.mg X.base x k ps R) (hr : Room k X.A) (hg : Gl X x) (w : DA X L (e :: es) τ M fun ss M1 => R L ss M1 Q) (hdb : (x == ("__debug__" : Str)) = false := by decide)
    (he : starEach (e :: es) X.env = (false, eval e X.env) :: starEach es X.env := by rfl) (hpl : (backTo pos (starEach es X.env)).any (·.1) = false := by rfl) : DE X L (.Call (.Name x p) (e :: es) [] pos) τ M Q := by
  obtain ⟨f, fd, F, m, kp, b⟩ := c
  exact de_call F hr hg m kp b w hdb he hpl
end
abbrev cxF (P : Program) (w : World) (K : PySem.W.Frag) (mg : Str → Option Value) (base : Heap) (N : List Str) (x : Str) (st : Stmt) (f : Addr) (cdv : Value) (A : Around) (outer : List Env) (s : Shared) (H : Hp) (E : XK) : Cx := (cxOf CX0 P w K mg base N x (defScope st) f cdv A outer s H E).nox
theorem cal_of {P : Program} {w : World} {K : PySem.W.Frag} {mg : Str → Option Value} {base : Heap} {R : Rr} {x : Str} {st : Stmt} {N ps : List Str} {k : Nat} (F : FunAt K mg x st ps) (S : FnScope N ps (defScope st)) (hl : ∀ L ss M Q, R L ss M Q → ss.length = ps.length)
    (hb : ∀ (f : Addr) (cdv : Value) (A : Around) (outer : List Env) (s : Shared) (H : Hp) (E : XK) (L : Lk) (ss : List Sl) (M : Cs) (Q : Sl → Cs → Prop), Room k (cxF P w K mg base N x st f cdv A outer s H E).A → R L ss M Q →
      DB (cxF P w K mg base N x st f cdv A outer s H E) L (defBody st) (startK N ss) M { nx := fun _ M' => Q (.d .none) M', rt := Q }) : Cal P w K mg base x (k + 1) ps R := by
  obtain ⟨f, fd, F, m, b⟩ := F
  exact ⟨f, fd, fn_k F S hl fun cdv A outer s H E L ss M Q hr r => hb f cdv A outer s H E L ss M Q hr r, m, F.kp, b⟩
end Y

namespace Y
open PySem L2 PyProof.Rows
def tyD : PyData → String
  | .none => "NoneType"
  | .bool _ => "bool"
  | .int _ => "int"
  | .str _ => "str"
  | .list _ => "list"
  | .tuple _ => "tuple"
  | .dict _ => "dict"
def isaInt : PyData → Bool
  | .int _ => true
  | .bool _ => true
  | _ => false
def isaBool : PyData → Bool
  | .bool _ => true
  | _ => false
def isaStr : PyData → Bool
  | .str _ => true
  | _ => false
def isaDict : PyData → Bool
  | .dict _ => true
  | _ => false
def isaList : PyData → Bool
  | .list _ => true
  | _ => false
def isaTup : PyData → Bool
  | .tuple _ => true
  | _ => false
theorem kb_int (x : PyData) : kitB (tyD x) "int" = some (isaInt x) := by cases x <;> (simp only [tyD, isaInt, isaBool, isaStr, isaDict, isaList, isaTup]; decide +kernel)
theorem kb_bool (x : PyData) : kitB (tyD x) "bool" = some (isaBool x) := by cases x <;> (simp only [tyD, isaInt, isaBool, isaStr, isaDict, isaList, isaTup]; decide +kernel)
theorem kb_str (x : PyData) : kitB (tyD x) "str" = some (isaStr x) := by cases x <;> (simp only [tyD, isaInt, isaBool, isaStr, isaDict, isaList, isaTup]; decide +kernel)
theorem kb_dict (x : PyData) : kitB (tyD x) "dict" = some (isaDict x) := by cases x <;> (simp only [tyD, isaInt, isaBool, isaStr, isaDict, isaList, isaTup]; decide +kernel)
theorem kb_list (x : PyData) : kitB (tyD x) "list" = some (isaList x) := by cases x <;> (simp only [tyD, isaInt, isaBool, isaStr, isaDict, isaList, isaTup]; decide +kernel)
theorem kb_tup (x : PyData) : kitB (tyD x) "tuple" = some (isaTup x) := by cases x <;> (simp only [tyD, isaInt, isaBool, isaStr, isaDict, isaList, isaTup]; decide +kernel)
theorem tyName_d (M : Cs) (x : PyData) : tyName M (.d x) = some (tyD x) := by cases x <;> rfl
section
variable {X : Cx} {L : Lk} {M : Cs} {Q : Sl → Cs → Prop} {x : PyData}
theorem k_isaInt (q : Q (.d (.bool (isaInt x))) M) : RCk X.K L (rIsi X.K) [.d x, .t "int"] M Q := k_isi (tyName_d M x) (kb_int x) q
theorem k_isaBool (q : Q (.d (.bool (isaBool x))) M) : RCk X.K L (rIsi X.K) [.d x, .t "bool"] M Q := k_isi (tyName_d M x) (kb_bool x) q
theorem k_isaStr (q : Q (.d (.bool (isaStr x))) M) : RCk X.K L (rIsi X.K) [.d x, .t "str"] M Q := k_isi (tyName_d M x) (kb_str x) q
theorem k_isaDict (q : Q (.d (.bool (isaDict x))) M) : RCk X.K L (rIsi X.K) [.d x, .t "dict"] M Q := k_isi (tyName_d M x) (kb_dict x) q
theorem k_isaList (q : Q (.d (.bool (isaList x))) M) : RCk X.K L (rIsi X.K) [.d x, .t "list"] M Q := k_isi (tyName_d M x) (kb_list x) q
theorem k_isaTup (q : Q (.d (.bool (isaTup x))) M) : RCk X.K L (rIsi X.K) [.d x, .t "tuple"] M Q := k_isi (tyName_d M x) (kb_tup x) q
theorem k_typeD (h : isaDict x = false) (q : Q (.t (tyD x)) M) : RCk X.K L (rTyp X.K) [.d x] M Q := k_type (tyName_d M x) (fun kv e => by cases e; cases h) q
end
theorem okTy_d (x : PyData) : okTy (tyD x) := by
  cases x
  · exact okTy_NoneType
  · exact okTy_bool
  · exact okTy_int
  · exact okTy_str
  · exact okTy_list
  · exact okTy_tuple
  · exact okTy_dict
/-! ### one text joined -/
theorem join_one (z : Str) : Txt.join "" [z] = z := by
  first | rfl | simp [Txt.join]
/-! ### arguments, as data -/
def intOf : PyData → PyData
  | .int i => .int i
  | _ => .none
def short : PyData → Prop
  | .str z => z.length ≤ 16777216
  | _ => True
def strOf : PyData → PyData
  | .str z => .str z
  | _ => .none
def okName (z : Str) : Bool := decide (1 ≤ z.length) && (decide (z.length ≤ 8) && (Txt.isascii z && (Txt.isalpha z && Txt.islower z)))
def writerOf : PyData → PyData
  | .str z => if okName z = true then .str z else .none
  | _ => .none
end Y

namespace Y
open PySem L2 PyProof.Rows
/-! ### line counts, runs, contents -/
abbrev Cnt := List (Str × Int)
def kdC (cs : Cnt) : List (Key × PyData) := cs.map fun p => (.inr p.1, .int p.2)
def eCnt (cs : Cnt) : PyData := .dict (encK (kdC cs))
def eLc : Option Cnt → PyData
  | none => .none
  | some cs => eCnt cs
def getC (cs : Cnt) (z : Str) : Option Int := (cs.find? fun p => decide (p.1 = z)).map (·.2)
def high : Option Cnt → Str → Int
  | none, _ => 10 ^ 30
  | some cs, z => (getC cs z).getD 0
def okCnt (cs : Cnt) : Prop := 1 ≤ cs.length ∧ cs.length ≤ 12 ∧ (cs.map (·.1)).Nodup ∧ ∀ p ∈ cs, okName p.1 = true ∧ 0 ≤ p.2 ∧ p.2 ≤ 10 ^ 30
theorem valS_C (z : Str) : ∀ cs : Cnt, valS (slK (kdC cs)) (.inr z) = (getC cs z).map dI
  | [] => rfl
  | p :: r => by
    have ih := valS_C z r
    by_cases h : p.1 = z
    · simp [valS, slK, kdC, getC, List.find?_cons, h, dI]
    · have h' : ¬ (Sum.inr p.1 : Key) = Sum.inr z := fun e => h (Sum.inr.inj e)
      simp only [valS, slK, kdC, getC, List.map_cons, List.find?_cons, h, h', decide_false] at ih ⊢
      exact ih
abbrev Run := Str × Int × Int
def eRun (r : Run) : PyData := .tuple [.str r.1, .int r.2.1, .int r.2.2]
def sRun (r : Run) : Sl := .d (eRun r)
abbrev Line := Str × Int
def eLine (l : Line) : PyData := .tuple [.str l.1, .int l.2]
def sLine (l : Line) : Sl := .d (eLine l)
def okRun (lc : Option Cnt) (r : Run) : Prop := okName r.1 = true ∧ 1 ≤ r.2.1 ∧ r.2.1 ≤ r.2.2 ∧ r.2.2 ≤ high lc r.1
def okLine (lc : Option Cnt) (l : Line) : Prop := okName l.1 = true ∧ 1 ≤ l.2 ∧ l.2 ≤ high lc l.1
def cont (a b : Run) : Bool := decide (b.1 = a.1) && decide (b.2.1 = a.2.2 + 1)
def okC (lc : Option Cnt) (c : List Run) : Prop := (∀ r ∈ c, okRun lc r) ∧ ∀ (i : Nat) (a b : Run), c[i]? = some a → c[i + 1]? = some b → cont a b = false
/-- what plain_lines answers -/
def mkLines (lc : Option Cnt) (w f l : PyData) : PyData := match writerOf w, intOf f, intOf l with
  | .str z, .int a, .int b => if 1 ≤ a ∧ a ≤ b ∧ b ≤ high lc z then .tuple [.str z, .int a, .int b] else .none
  | _, _, _ => .none
theorem mkLines_n1 {lc : Option Cnt} {x y z : PyData} (h : isNone (.d (writerOf x)) = true) : mkLines lc x y z = .none := by
  unfold mkLines
  cases hx : writerOf x <;> rw [hx] at h <;> first | (cases h; done) | rfl
theorem mkLines_n2 {lc : Option Cnt} {x y z : PyData} (h : isNone (.d (intOf y)) = true) : mkLines lc x y z = .none := by
  unfold mkLines
  cases hy : intOf y <;> rw [hy] at h <;> first | (cases h; done) | (cases writerOf x <;> rfl)
theorem mkLines_n3 {lc : Option Cnt} {x y z : PyData} (h : isNone (.d (intOf z)) = true) : mkLines lc x y z = .none := by
  unfold mkLines
  cases hz : intOf z <;> rw [hz] at h <;> first | (cases h; done) | (cases writerOf x <;> cases intOf y <;> rfl)
theorem short_of_okName {z : Str} (h : okName z = true) : short (.str z) := by
  unfold okName at h
  simp only [Bool.and_eq_true, decide_eq_true_eq] at h
  show z.length ≤ 16777216
  omega
theorem mkLines_ok {lc : Option Cnt} {r : Run} (h : okRun lc r) : mkLines lc (.str r.1) (.int r.2.1) (.int r.2.2) = eRun r := by
  obtain ⟨h1, h2, h3, h4⟩ := h
  simp only [mkLines, writerOf, intOf, h1, if_true]
  rw [if_pos ⟨h2, h3, h4⟩]
  rfl
def withRun (c : List Run) (r : Run) : List Run := match c.getLast? with
  | some l => if cont l r = true then c.dropLast ++ [(r.1, l.2.1, r.2.2)] else c ++ [r]
  | none => c ++ [r]
def nLines (c : List Run) : Int := (c.map fun r => r.2.2 - r.2.1 + 1).sum
def tk (r : Run) (n : Int) : Int := if r.2.2 - r.2.1 + 1 < n then r.2.2 - r.2.1 + 1 else n
def cutF (r : Run) (t : Int) : List Run := if t > 0 then [(r.1, r.2.1, r.2.1 + t - 1)] else []
def cutB (r : Run) (t : Int) : List Run := if r.2.1 + t ≤ r.2.2 then [(r.1, r.2.1 + t, r.2.2)] else []
def cutC : List Run → Int → List Run × List Run
  | [], _ => ([], [])
  | r :: c, n => (cutF r (tk r n) ++ (cutC c (n - tk r n)).1, cutB r (tk r n) ++ (cutC c (n - tk r n)).2)
def cutN : List Run → Int → Nat → Int
  | [], n, _ => n
  | _ :: _, n, 0 => n
  | r :: c, n, i + 1 => cutN c (n - tk r n) i
theorem cutN_zero (c : List Run) (n : Int) : cutN c n 0 = n := by cases c <;> rfl
theorem cutN_succ : ∀ (c : List Run) (n : Int) (i : Nat) (h : i < c.length), cutN c n (i + 1) = cutN c n i - tk c[i] (cutN c n i)
  | [], _, _, h => by simp at h
  | r :: c, n, 0, h => cutN_zero c _
  | r :: c, n, i + 1, h => cutN_succ c (n - tk r n) i (by simpa using h)
theorem cut_take : ∀ (c : List Run) (n : Int) (i : Nat) (h : i < c.length), cutC (c.take (i + 1)) n = ((cutC (c.take i) n).1 ++ cutF c[i] (tk c[i] (cutN c n i)), (cutC (c.take i) n).2 ++ cutB c[i] (tk c[i] (cutN c n i)))
  | [], _, _, h => by simp at h
  | r :: c, n, 0, h => by
    show (cutF r (tk r n) ++ (cutC (c.take 0) (n - tk r n)).1, cutB r (tk r n) ++ (cutC (c.take 0) (n - tk r n)).2) = ([] ++ cutF r (tk r n), [] ++ cutB r (tk r n))
    rw [List.take_zero]
    show (cutF r (tk r n) ++ [], cutB r (tk r n) ++ []) = _
    rw [List.append_nil, List.append_nil, List.nil_append, List.nil_append]
  | r :: c, n, i + 1, h => by
    have h' : i < c.length := by simpa using h
    have := cut_take c (n - tk r n) i h'
    show (cutF r (tk r n) ++ (cutC (c.take (i + 1)) (n - tk r n)).1, cutB r (tk r n) ++ (cutC (c.take (i + 1)) (n - tk r n)).2) = ((cutF r (tk r n) ++ (cutC (c.take i) (n - tk r n)).1) ++ cutF c[i] (tk c[i] (cutN c (n - tk r n) i)), (cutB r (tk r n) ++ (cutC (c.take i) (n - tk r n)).2) ++ cutB c[i] (tk c[i] (cutN c (n - tk r n) i)))
    rw [this, List.append_assoc, List.append_assoc]
theorem cutF_len (r : Run) (t : Int) : (cutF r t).length ≤ 1 := by
  unfold cutF
  split <;> simp
theorem cutB_len (r : Run) (t : Int) : (cutB r t).length ≤ 1 := by
  unfold cutB
  split <;> simp
theorem cut_len1 : ∀ (c : List Run) (n : Int), (cutC c n).1.length ≤ c.length ∧ (cutC c n).2.length ≤ c.length
  | [], _ => ⟨Nat.le_refl _, Nat.le_refl _⟩
  | r :: c, n => by
    obtain ⟨h1, h2⟩ := cut_len1 c (n - tk r n)
    have h3 := cutF_len r (tk r n)
    have h4 := cutB_len r (tk r n)
    constructor
    · show (cutF r (tk r n) ++ (cutC c (n - tk r n)).1).length ≤ c.length + 1
      rw [List.length_append]
      omega
    · show (cutB r (tk r n) ++ (cutC c (n - tk r n)).2).length ≤ c.length + 1
      rw [List.length_append]
      omega
/-- a list or tuple, cell or data -/
def LT (M : Cs) (s : Sl) (ss : List Sl) : Prop := seqOf M s = some ss ∧ (tyName M s = some "list" ∨ tyName M s = some "tuple")
theorem LT.list (M : Cs) (ds : List PyData) : LT M (.d (.list ds)) (ds.map .d) := ⟨rfl, .inl rfl⟩
theorem LT.tup (M : Cs) (ds : List PyData) : LT M (.d (.tuple ds)) (ds.map .d) := ⟨rfl, .inr rfl⟩
theorem LT.cell {M : Cs} {a : Addr} {ss : List Sl} (h : M a = some (.l ss)) : LT M (.c a) ss := ⟨by simp only [seqOf, h], .inl (by simp only [tyName, h])⟩
/-- a cell elsewhere does not matter -/
theorem seqOf_updC {M : Cs} {s : Sl} {ss : List Sl} {p : Addr} {c : Cell} (h : seqOf M s = some ss) (hp : M p = none) : seqOf (updC M p c) s = some ss := by
  cases s with
  | c a =>
    by_cases e : a = p
    · subst e
      simp only [seqOf, hp] at h
      cases h
    · simp only [seqOf, updC_ne e]
      exact h
  | d x => cases x <;> exact h
  | t n => exact h
  | u l => exact h
  | s n => exact h
theorem tyName_updC {M : Cs} {s : Sl} {n : String} {p : Addr} {c : Cell} (h : tyName M s = some n) (hp : M p = none) : tyName (updC M p c) s = some n := by
  cases s with
  | c a =>
    by_cases e : a = p
    · subst e
      simp only [tyName, hp] at h
      cases h
    · simp only [tyName, updC_ne e]
      exact h
  | d x => cases x <;> exact h
  | t n => exact h
  | u l => exact h
  | s n => exact h
theorem LT.upd {M : Cs} {s : Sl} {ss : List Sl} {p : Addr} {c : Cell} (h : LT M s ss) (hp : M p = none) : LT (updC M p c) s ss := ⟨seqOf_updC h.1 hp, h.2.imp (fun z => tyName_updC z hp) (fun z => tyName_updC z hp)⟩
/-- the item at i, by Python's subscript -/
theorem atI_n {α : Type} {xs : List α} {j : Nat} {v : α} (h : xs[j]? = some v) : atI xs ((j : Nat) : Int) = some v := atI_nat h
theorem atI_0 {α : Type} {xs : List α} {v : α} (h : xs[0]? = some v) : atI xs 0 = some v := atI_nat (j := 0) h
theorem atI_1 {α : Type} {xs : List α} {v : α} (h : xs[1]? = some v) : atI xs 1 = some v := atI_nat (j := 1) h
theorem atI_2 {α : Type} {xs : List α} {v : α} (h : xs[2]? = some v) : atI xs 2 = some v := atI_nat (j := 2) h
theorem atI_l {α : Type} {xs : List α} {v : α} (h : xs.getLast? = some v) : atI xs (-1) = some v := by
  obtain ⟨ys, e⟩ := List.getLast?_eq_some_iff.mp h
  rw [e]
  exact atI_last ys v
end Y

namespace PySem.W
open PySem
section
variable {prog : Program} {w : World} {A : Around} {E : Value → Shared → Prop} {s : Shared}
theorem ylt_hint {x : Str} {t : Tok} {Q : Bool → Shared → Prop} (h : Q false s) : wpAny (model prog w) A (Builtin.List.listLengthHint (.str x t)) Q E s := by
  unfold Builtin.List.listLengthHint
  refine wpAny_bind (wpAny_specialOf (typeIs_str s x t) PySem.F.slot_str_len.lookup ?_)
  generalize hid : ("str.__len__" : String) = id0
  wp_delta
  rw [show splitId id0 = some ("str", "__len__") from by subst hid; decide +kernel]
  subst hid
  refine wpAny_bind (wpAny_isInstance (T := "str") (b := true) (typeIs_str s x t) (by rw [isSubtype_type]; kernel_rfl) ?_)
  refine wpAny_ite_split (fun hab => absurd hab (by decide)) (fun _ => ?_)
  refine wpAny_ite_split (fun _ => ?_) (fun hab => absurd (by decide +kernel) hab)
  refine wpAny_bind (wpAny_typeOf (typeIs_str s x t) ?_)
  exact wpAny_pure h
theorem ylt_extend {R : Result → Shared → Prop} {x : Str} {t : Tok} (hh : A.handled = none) (S : Addr) (res : Value) (c₀ : Nat) (hS : s.heap.get? S = some { cls := .type "list", data := .seq #[] c₀ })
    (hR : ∀ h' tk acc' c', (∀ b o, b ≠ S → s.heap.get? b = some o → h'.get? b = some o) → h'.get? S = some { cls := .type "list", dict := none, data := .seq acc' c', slots := #[] } → ItemsOf (SignAt x) acc' x.cps.size → R (.ok (.ret res)) { s with heap := h', toks := tk }) (hn : x.cps.size ≤ sizeLine) :
    wpAny (model prog w) A.in1 (Builtin.List.listExtendWith (.ref S) (.str x t) res)
      (fun fin s' => match fin with | .done f => R (.ok f) s' | .again c' => c'.quiet = true ∧ codeAny (model prog w) A c' R s') (fun e s' => R (.error e) s') s := by
  have hSI : S ≠ s.heap.objs.size := Nat.ne_of_lt (Heap.lt_size hS)
  have hSf : S ∉ [s.heap.objs.size] := by simp only [List.mem_cons, List.not_mem_nil, or_false]; exact hSI
  unfold Builtin.List.listExtendWith
  refine wpAny_bind (wpAny_typeOf (T := "str") (typeIs_str s x t) ?_)
  have h1 : Builtin.List.listSameRef (.ref S) (.str x t) = false := rfl
  simp only [h1, show (Value.type "str" == Value.type "list") = false by decide +kernel, show (Value.type "str" == Value.type "tuple") = false by decide +kernel, Bool.or_false, Bool.false_eq_true, if_false]
  refine wpAny_bind (wpAny_pyIter_str fun oI St hW st => ?_)
  have W := hW A hh
  have key : ∀ (h : Heap) (c₁ tk : Nat), St 0 h → (∀ b o, b ≠ S → s.heap.get? b = some o → h.get? b = some o) →
      h.get? S = some { cls := .type "list", data := .seq #[] c₁ } → codeAny (model prog w) A (.builtin "list.extend.loop" ⟨[.ref S, .ref s.heap.objs.size, res], []⟩) R { s with heap := h, toks := tk } := by
    intro h c₁ tk hst hk hS₁
    refine codeAny_extend_loopS (hW A.in1 hh).toS hn S hSf res x.cps.size 0 _ #[] c₁ rfl (Nat.zero_le _) hst hS₁ (ItemsOf.nil _) fun s' acc' c' hm hS' hacc => ?_
    rw [Moved.eq_with hm]
    refine hR s'.heap s'.toks acc' c' (fun b o hb e => hm.heap b o (fun hmem => ?_) (hk b o hb e)) hS' hacc
    rcases List.mem_cons.mp hmem with e' | hmem
    · exact hb e'
    · exact absurd (Heap.lt_size e) (by rw [List.mem_singleton.mp hmem]; exact Nat.lt_irrefl _)
  have hS₁ := Heap.get?_push_of_some oI hS
  refine wpAny_bind (wpAny_holding (ylt_hint ?_))
  refine wpAny_ite_split (fun _ => ?_) (fun _ => wpAny_pure ⟨plainId_quiet PySem.F.plain_extend_loop _, key _ c₀ _ st (fun b o _ e => Heap.get?_push_of_some _ e) hS₁⟩)
  refine wpAny_bind (wpAny_rule ?_)
  refine wpAny_bind ?_
  show wpAny _ _ (updateSeq S (·.push .none) >>= fun _ => updateSeq S (·.pop)) _ _ _
  refine wpAny_bind (wpAny_updateSeq hS₁ rfl ?_)
  have hS₂ := Heap.get?_update_self (Obj.mapSeq (·.push Value.none)) hS₁ rfl
  refine wpAny_updateSeq (hz := by seq_fits) hS₂ rfl ?_
  have hS₃ := Heap.get?_update_self (Obj.mapSeq (·.pop)) hS₂ rfl
  refine wpAny_pure ⟨plainId_quiet PySem.F.plain_extend_loop _, key _ _ _ ?_ (fun b o hb e => ?_) hS₃⟩
  · refine W.frame 0 _ _ st fun b hb o e => ?_
    have hbS : b ≠ S := fun h => hSf (h ▸ hb)
    exact (Heap.get?_update_other _ _ (Ne.symm hbS)).trans ((Heap.get?_update_other _ _ (Ne.symm hbS)).trans e)
  · exact (Heap.get?_update_other _ _ (Ne.symm hb)).trans ((Heap.get?_update_other _ _ (Ne.symm hb)).trans (Heap.get?_push_of_some _ e))
theorem ylt_init {R : Result → Shared → Prop} {x : Str} {t : Tok} (hh : A.handled = none) (S : Addr) (hS : s.heap.get? S = some { cls := .type "list", data := .seq #[] })
    (hR : ∀ h' tk acc' c', (∀ b o, b ≠ S → s.heap.get? b = some o → h'.get? b = some o) → h'.get? S = some { cls := .type "list", dict := none, data := .seq acc' c', slots := #[] } → ItemsOf (SignAt x) acc' x.cps.size → R (.ok (.ret .none)) { s with heap := h', toks := tk }) (hn : x.cps.size ≤ sizeLine) :
    wpAny (model prog w) A.in1 (Builtin.«list.__init__» ⟨[.ref S, .str x t], []⟩)
      (fun fin s' => match fin with | .done f => R (.ok f) s' | .again c' => c'.quiet = true ∧ codeAny (model prog w) A c' R s') (fun e s' => R (.error e) s') s := by
  show wpAny _ _ (do let old ← Builtin.List.listItems (.ref S); Builtin.List.listUpdate (.ref S) (fun _ => #[]); letGo old.toList.reverse; Builtin.List.listExtendWith (.ref S) (.str x t) .none) _ _ s
  refine wpAny_bind ?_
  unfold Builtin.List.listItems
  refine wpAny_bind (wpAny_seqItems hS rfl (wpAny_pure ?_))
  show wpAny _ _ (updateSeq S (fun _ => #[]) >>= fun _ => letGo (#[] : Array Value).toList.reverse >>= fun _ => Builtin.List.listExtendWith (.ref S) (.str x t) .none) _ _ s
  refine wpAny_bind (wpAny_updateSeq hS rfl ?_)
  have hS₂ := Heap.get?_update_self (Obj.mapSeq (fun _ => (#[] : Array Value))) hS rfl
  have oth : ∀ b o, b ≠ S → s.heap.get? b = some o → (s.heap.update S (Obj.mapSeq (fun _ => (#[] : Array Value)))).get? b = some o :=
    fun b o hb e => (Heap.get?_update_other _ _ (Ne.symm hb)).trans e
  refine wpAny_bind (wpAny_letGo ?_)
  refine ylt_extend hh S .none _ hS₂ (fun h' tk acc' c' hk hS' hacc => ?_) hn
  exact hR h' tk acc' c' (fun b o hb e => hk b o hb (oth b o hb e)) hS' hacc
theorem ylt_call {Q : Value → Shared → Prop} {x : Str} {t : Tok} (hh : A.handled = none) (hn : x.cps.size ≤ sizeLine)
    (hQ : ∀ h' tk acc' c', (∀ b o, s.heap.get? b = some o → h'.get? b = some o) → h'.get? s.heap.objs.size = some { cls := .type "list", dict := none, data := .seq acc' c', slots := #[] } → ItemsOf (SignAt x) acc' x.cps.size → Q (.ref s.heap.objs.size) { s with heap := h', toks := tk }) :
    wpAny (model prog w) A (call (.type "list") [.str x t]) Q E s := by
  refine callType_codes (Q₁ := fun obj s₁ => obj = .ref s.heap.objs.size ∧ s₁ = { s with heap := s.heap.push { cls := .type "list", data := .seq #[] } }) PySem.F.called_list (PySem.F.typeCall_list_1 _) PySem.F.entry_list_init
    (code_list_new _ ⟨rfl, rfl⟩) fun obj s₁ h₁ => ?_
  obtain ⟨rfl, rfl⟩ := h₁
  have hS : (s.heap.push { cls := .type "list", data := .seq #[] }).get? s.heap.objs.size = some { cls := .type "list", data := .seq #[] } := Heap.get?_push_size _ rfl
  refine ⟨⟨_, hS, rfl⟩, PySem.F.args_list_init_2 _ _, ylt_init (A := A.in1) hh _ hS (fun h' tk acc' c' hk hS' hacc => ?_) hn⟩
  exact ⟨rfl, hQ h' tk acc' c' (fun b o e => hk b o (Nat.ne_of_lt (Heap.lt_size e)) (Heap.get?_push_of_some _ e)) hS' hacc⟩
end
end PySem.W
namespace Y
open PySem L2 PyProof.Rows
def signs (x : Str) : List Str := x.cps.toList.map fun c => ⟨#[c]⟩
section
variable {X : Cx} {L : Lk} {M : Cs} {Q : Sl → Cs → Prop}
theorem call_listS (hc : X.calm = true) : CallR X (.type "list") (fun xs H Q => ∃ x : Str, xs = [.str x] ∧ x.cps.size ≤ sizeLine ∧ ∀ l, H l = none → Q (.ref l) (upd H l (.lst ((signs x).map V.str)))) := by
  intro pins s σ H xs us Q I r h
  obtain ⟨x, rfl, hn, q⟩ := h
  obtain ⟨u, rfl, t, rfl⟩ := vals1 r
  refine PySem.W.ylt_call (I.ok.hd hc) hn fun h' tk acc c' hk hD hacc => ?_
  have hv : Vals ((signs x).map V.str) acc.toList := by
    have hl : (signs x).length = acc.toList.length := by
      have e1 : acc.size = x.cps.size := hacc.1
      simp only [signs, List.length_map, Array.length_toList, e1]
    have gen : ∀ (ys : List Str) (vs : List Value), ys.length = vs.length → (∀ (j : Nat) y v, ys[j]? = some y → vs[j]? = some v → RelV (.str y) v) → Vals (ys.map V.str) vs := by
      intro ys
      induction ys with
      | nil => intro vs hl _; cases vs with
        | nil => exact .nil
        | cons a b => simp at hl
      | cons y r ih => intro vs hl f; cases vs with
        | nil => simp at hl
        | cons a b => exact .cons (f 0 y a rfl rfl) (ih b (by simpa using hl) fun j y v h1 h2 => f (j + 1) y v (by simpa using h1) (by simpa using h2))
    refine gen _ _ hl fun j y v h1 h2 => ?_
    obtain ⟨c, u, e1, e2⟩ := hacc.2 j v (by rw [← Array.getElem?_toList]; exact h2)
    subst e2
    have e3 : y = ⟨#[c]⟩ := by
      unfold signs at h1
      rw [List.getElem?_map, Array.getElem?_toList, e1] at h1
      exact (Option.some.inj h1).symm
    subst e3
    exact ⟨u, rfl⟩
  refine ⟨.ref s.heap.objs.size, upd H s.heap.objs.size (.lst ((signs x).map V.str)), I.laid (t' := tk) hk (Nat.le_refl _)
    (show ObjOk X.prog X.w _ _ _ (.lst ((signs x).map V.str)) from ⟨by rw [List.length_map]; simp [signs]; exact hn, acc.toList, c', hv, by rw [Array.toArray_toList]; exact hD⟩), rfl, q _ (I.hok.fresh (Nat.le_refl _))⟩
theorem k_listS {x : Str} (hn : x.cps.size ≤ sizeLine) (q : ∀ p, M p = none → Q (.c p) (updC M p (.l ((signs x).map dS)))) : RCk X.K L (fun xs H Q => ∃ x : Str, xs = [.str x] ∧ x.cps.size ≤ sizeLine ∧ ∀ l, H l = none → Q (.ref l) (upd H l (.lst ((signs x).map V.str)))) [dS x] M Q := fun G H vs Q' g a k => by
  obtain ⟨v, rfl, a1⟩ := sl1 a
  rw [sl_str a1]
  exact ⟨x, rfl, hn, fun c hc => k _ _ _ G _ (q c (g.free hc).2) (Ex.refl G) (g.newC hc ⟨_, upd_same, strs_sl _⟩) (.c c)⟩
/-- isinstance(x, (A, B)) -/
def rIsiR (K : PySem.W.Frag) : List V → Hp → VK → Prop := fun xs H Q => ∃ (x : V) (tp : Addr) (cs : List V) (t : Value) (us : List Value) (b : Bool), xs = [x, .ref tp] ∧ Rd H tp (.tup cs) ∧ Paired ClsV cs us ∧ TyX K H x t ∧ PySem.W.kitAny K t us = some b ∧ Q (.bl b) H
theorem call_isiR : CallR X (.builtin "isinstance") (rIsiR X.K) := by
  intro pins s σ H xs us Q I r h
  obtain ⟨x, tp, cs, t, ws, b, rfl, hT, k, ty, e, q⟩ := h
  obtain ⟨u1, u2, rfl, r1, r2⟩ := vals2 r
  cases (show u2 = Value.ref tp from r2)
  obtain ⟨P, Z, p, hx⟩ := kit_of I r1 ty
  obtain ⟨_, its, rv, o, h1, h2, n, h3⟩ := (show ObjOk X.prog X.w H s.heap tp (.tup cs) from hT.ok I.hok)
  have e3 := ClsV.all k rv
  subst e3
  obtain ⟨oc, od, dt, sl⟩ := o
  simp only at h2 h3
  subst h2 h3
  exact PySem.W.kia_tup Z I.kIn p h1 e hx fun tk => ⟨.bl b, H, I.tok tk, rfl, q⟩
theorem cls_paired : ∀ ts : List String, Paired ClsV (ts.map V.ty) (ts.map Value.type)
  | [] => .nil
  | t :: r => .cons (.ty t) (cls_paired r)
theorem k_isiR {s : Sl} {ts : List String} {n : String} {b : Bool} (h : tyName M s = some n) (hb : ∀ K, PySem.W.kitAny K (.type n) (ts.map Value.type) = some b) (q : Q (.d (.bool b)) M) : RCk X.K L (rIsiR X.K) [s, .u (ts.map .t)] M Q := fun G H vs Q' g a k => by
  obtain ⟨v, u, rfl, a1, a2⟩ := sl2 a
  cases a2 with
  | u e l =>
    have z := tys_sl l
    subst z
    exact ⟨v, _, _, .type n, ts.map Value.type, b, rfl, g.rd e, cls_paired ts, ty_at g a1 h, hb _, k.go q g (.d (.bl _))⟩
theorem kitAny_LT (K : PySem.W.Frag) (x : PyData) : PySem.W.kitAny K (.type (tyD x)) (["list", "tuple"].map Value.type) = some (isaList x || isaTup x) := by
  refine kitAny_cons (kit_ty (kb_list x)) (fun h => ?_) (fun h => by rw [h]; rfl)
  refine kitAny_cons (kit_ty (kb_tup x)) (fun h2 => ?_) (fun h2 => by rw [h, h2]; rfl)
  rw [h, h2]
  exact kitAny_nil
end
/-! name = [..] where the comprehension is a statement's whole value -/
section
variable {X : Cx} {L : Lk} {τ : List (Option Sl)} {M : Cs} {elt tg iter c : Expr} {scope : Scope} {own : List (Str × Nat)} {pos spos py : Pos} {g : TG} {E : Ks} {i : Nat} {y : Str}
theorem ds_setLc1 (hc : X.calm = true) (hN : X.N.Nodup) (hy : X.N[i]? = some y) (hyl : X.env.scope.names.lookup y = some .local)
    (hsw : swapsWith (.ListComp elt [⟨tg, iter, [c], 0⟩] scope pos) (some (.Name y py)) spos.line X.env = pure true) (ok : BlkOk X.N X.env.scope scope own) (hg : ∀ (s : Shared) (H : Hp) (C : Addr) (cl : List (Str × Addr)) (fp : List Addr), PG (X.blk s H scope (compEnvC scope cl C X.env) fp) tg g)
    (w : DI X L tg iter τ M fun n S ys M1 => ∀ D, M1 D = none → ∃ Iv : Nat → Cs → Prop, Iv 0 (updC M1 D (.l [])) ∧ (∀ i M', Iv i M' → S M') ∧
      (∀ i y M', i < n → ys i y → Iv i M' → WGw X.K L (own.map (·.2)) g y (wipeK τ (own.map (·.2))) M' fun τ2 M3 => DTb X scope L c τ2 M3 fun d M3 => (d = true → DEb X scope L elt τ2 M3 fun z M4 => ∃ acc, M4 D = some (.l acc) ∧ acc.length < sizeLine ∧ Iv (i + 1) (updC M4 D (.l (acc ++ [z])))) ∧ (d = false → Iv (i + 1) M3)) ∧ (∀ M', Iv n M' → E.nx (τ.set i (some (.c D))) M'))
    (hs : ∀ x, foldedSetIterable iter X.env x = pure x := by intro _; rfl) : DS X L (.Assign [.Name y py] (.ListComp elt [⟨tg, iter, [c], 0⟩] scope pos) spos) τ M E := by
  refine ds_of (ps_setLc (te := bE X scope elt) (tt := bT X scope c) hc hN hy hyl hsw pi_s ok hg (fun s H C cl fp => pts_one ⟨fun pins s' σ H' Q' I h => h s H C cl fp pins s' I⟩) (fun s H C cl fp => ⟨fun pins s' σ H' Q' I h => h s H C cl fp pins s' I⟩) hs) fun σ G H D gs gm k => ?_
  refine we_lc (L := L) (M := M) (τ := τ) (Q := fun s M' => E.nx (τ.set i (some s)) M') (fun σ G H R gs gm k => w σ G H R gs gm fun n S ys M1 G1 H1 J q e1 g1 ok => k n S ys M1 G1 H1 J (fun D hD => ?_) e1 g1 ok) σ G H _ gs gm (fun s M1 v G1 H1 q e1 g1 a1 => (k.nx.mono e1).go q g1 ((gs.mono e1).set a1 i))
  obtain ⟨Iv, i0, st, turn, fin⟩ := q D hD
  refine ⟨Iv, i0, st, fun i y M' hi yy iv => ?_, fin⟩
  intro σ G H v Q' gs gm a k
  refine turn i y M' hi yy iv σ G H v Q' gs gm a fun τ' M' σ' G' H' h => k τ' M' σ' G' H' ?_
  intro σ G H Q' gs gm k
  exact wtb h σ G H Q' gs gm fun d M5 G5 H5 q5 => k d M5 G5 H5 ⟨fun z => web (q5.1 z), q5.2⟩
end
section
variable {X : Cx} {L : Lk} {τ : List (Option Sl)} {M : Cs} {Q : Sl → Cs → Prop} {a b c : Expr} {p2 pos : Pos}
theorem de_slHi (w : DE X L a τ M fun x M1 => DE X L b τ M1 fun y M2 => ∃ n, y = .d (.int n) ∧ ∃ ss, isTup x = false ∧ seqOf M2 x = some ss ∧ ∀ p, M2 p = none → Q (.c p) (updC M2 p (.l (cutG ss none (some n))))) : DE X L (.Subscript a (.Slice none (some b) none p2) pos) τ M Q := de_sl (lo := none) (hi := some b) w
theorem de_slLo (w : DE X L a τ M fun x M1 => DE X L b τ M1 fun y M2 => ∃ n, y = .d (.int n) ∧ ∃ ss, isTup x = false ∧ seqOf M2 x = some ss ∧ ∀ p, M2 p = none → Q (.c p) (updC M2 p (.l (cutG ss (some n) none)))) : DE X L (.Subscript a (.Slice (some b) none none p2) pos) τ M Q := de_sl (lo := some b) (hi := none) w
theorem de_slLH (w : DE X L a τ M fun x M1 => DE X L b τ M1 fun y M2 => ∃ m, y = .d (.int m) ∧ DE X L c τ M2 fun z M3 => ∃ n, z = .d (.int n) ∧ ∃ ss, isTup x = false ∧ seqOf M3 x = some ss ∧ ∀ p, M3 p = none → Q (.c p) (updC M3 p (.l (cutG ss (some m) (some n))))) : DE X L (.Subscript a (.Slice (some b) (some c) none p2) pos) τ M Q := de_sl (lo := some b) (hi := some c) w
end
/-! ### slices of lists, at places that are told -/
theorem cutG_hi {α : Type} (xs : List α) (n : Nat) : cutG xs none (some (n : Int)) = xs.take n := by
  unfold cutG
  rw [HT.sIx_none, HT.sIx_nat, List.drop_zero, Nat.sub_zero]
  by_cases h : n ≤ xs.length
  · rw [Nat.min_eq_left h]
  · rw [Nat.min_eq_right (by omega), List.take_of_length_le (Nat.le_refl _), List.take_of_length_le (by omega)]
theorem cutG_lohi {α : Type} (xs : List α) (m n : Nat) : cutG xs (some (m : Int)) (some (n : Int)) = (xs.take n).drop m := by
  unfold cutG
  rw [HT.sIx_nat, HT.sIx_nat, List.drop_take]
  by_cases h : m ≤ xs.length
  · rw [Nat.min_eq_left h]
    by_cases h2 : n ≤ xs.length
    · rw [Nat.min_eq_left h2]
    · rw [Nat.min_eq_right (by omega), List.take_of_length_le (by rw [List.length_drop]; omega), List.take_of_length_le (by rw [List.length_drop]; omega)]
  · rw [Nat.min_eq_right (show xs.length ≤ m by omega), List.drop_of_length_le (Nat.le_refl _), List.drop_of_length_le (show xs.length ≤ m by omega)]
    simp
/-! ### equal data -/
theorem eqvAll_map {α : Type} [DecidableEq α] (f : α → PyData) (h : ∀ a b, PyData.eqv (f a) (f b) = decide (a = b)) : ∀ c d : List α, PyData.eqvAll (c.map f) (d.map f) = decide (c = d)
  | [], [] => by simp [PyData.eqvAll]
  | [], _ :: _ => by simp [PyData.eqvAll]
  | _ :: _, [] => by simp [PyData.eqvAll]
  | a :: c, b :: d => by
    show (PyData.eqv (f a) (f b) && PyData.eqvAll (c.map f) (d.map f)) = _
    rw [h, eqvAll_map f h c d]
    by_cases e : a = b <;> by_cases e2 : c = d <;> simp [e, e2]
theorem eqv_list {α : Type} [DecidableEq α] (f : α → PyData) (h : ∀ a b, PyData.eqv (f a) (f b) = decide (a = b)) (c d : List α) : PyData.eqv (.list (c.map f)) (.list (d.map f)) = decide (c = d) := eqvAll_map f h c d
theorem eqv_int (a b : Int) : PyData.eqv (.int a) (.int b) = decide (a = b) := by
  show (a == b) = _
  by_cases e : a = b <;> simp [e]
theorem eqv_str (a b : Str) : PyData.eqv (.str a) (.str b) = decide (a = b) := by
  show (a == b) = _
  by_cases e : a = b <;> simp [e]
theorem eqv_run (a b : Run) : PyData.eqv (eRun a) (eRun b) = decide (a = b) := by
  obtain ⟨w, f, l⟩ := a
  obtain ⟨w', f', l'⟩ := b
  show (PyData.eqv (.str w) (.str w') && (PyData.eqv (.int f) (.int f') && (PyData.eqv (.int l) (.int l') && true))) = _
  rw [eqv_str, eqv_int, eqv_int]
  by_cases e1 : w = w' <;> by_cases e2 : f = f' <;> by_cases e3 : l = l' <;> simp [e1, e2, e3]
theorem eqv_line (a b : Line) : PyData.eqv (eLine a) (eLine b) = decide (a = b) := by
  obtain ⟨w, f⟩ := a
  obtain ⟨w', f'⟩ := b
  show (PyData.eqv (.str w) (.str w') && (PyData.eqv (.int f) (.int f') && true)) = _
  rw [eqv_str, eqv_int]
  by_cases e1 : w = w' <;> by_cases e2 : f = f' <;> simp [e1, e2]
theorem strOk_name {z : Str} (h : okName z = true) : PyData.strOk z = true := by
  unfold okName at h
  simp only [Bool.and_eq_true] at h
  have h3 : Txt.isascii z = true := h.2.2.1
  unfold Txt.isascii at h3
  unfold PyData.strOk
  rw [Array.all_eq_true] at h3 ⊢
  intro i hi
  have := h3 i hi
  simp only [decide_eq_true_eq] at this ⊢
  omega
theorem canLayAll_map {α : Type} (f : α → PyData) : ∀ c : List α, (∀ a ∈ c, (f a).canLay0 = true) → PyData.canLayAll0 (c.map f) = true
  | [], _ => rfl
  | a :: c, h => by
    show ((f a).canLay0 && PyData.canLayAll0 (c.map f)) = true
    rw [h a List.mem_cons_self, canLayAll_map f c fun b hb => h b (List.mem_cons_of_mem _ hb)]
    rfl
theorem depthAll_map {α : Type} (f : α → PyData) (n : Nat) : ∀ c : List α, (∀ a ∈ c, (f a).depth ≤ n) → PyData.depthAll (c.map f) ≤ n
  | [], _ => Nat.zero_le _
  | a :: c, h => by
    show max (f a).depth (PyData.depthAll (c.map f)) ≤ n
    exact Nat.max_le.mpr ⟨h a List.mem_cons_self, depthAll_map f n c fun b hb => h b (List.mem_cons_of_mem _ hb)⟩
theorem shaped_list {α : Type} (f : α → PyData) (c : List α) (n : Nat) (hn : n ≤ 63) (h1 : ∀ a ∈ c, (f a).canLay0 = true) (h2 : ∀ a ∈ c, (f a).depth ≤ n) : SeqAt.shaped (.list (c.map f)) = true := by
  unfold SeqAt.shaped
  rw [Bool.and_eq_true]
  refine ⟨canLayAll_map f c h1, ?_⟩
  have : PyData.depth (.list (c.map f)) = PyData.depthAll (c.map f) + 1 := rfl
  have := depthAll_map f n c h2
  simp only [decide_eq_true_eq]
  omega
theorem can_run {r : Run} (h : okName r.1 = true) : (eRun r).canLay0 = true := by
  show (PyData.strOk r.1 && (true && (true && true))) = true
  rw [strOk_name h]
  rfl
theorem can_line {r : Line} (h : okName r.1 = true) : (eLine r).canLay0 = true := by
  show (PyData.strOk r.1 && (true && true)) = true
  rw [strOk_name h]
  rfl
theorem shaped_runs (c : List Run) (h : ∀ r ∈ c, okName r.1 = true) : SeqAt.shaped (.list (c.map eRun)) = true := shaped_list eRun c 1 (by decide) (fun r hr => can_run (h r hr)) (fun r _ => Nat.le_refl 1)
theorem shaped_lines (c : List Line) (h : ∀ r ∈ c, okName r.1 = true) : SeqAt.shaped (.list (c.map eLine)) = true := shaped_list eLine c 1 (by decide) (fun r hr => can_line (h r hr)) (fun r _ => Nat.le_refl 1)
theorem shaped_ints (ns : List Int) : SeqAt.shaped (.list (ns.map PyData.int)) = true := shaped_list PyData.int ns 0 (by decide) (fun _ _ => rfl) (fun _ _ => Nat.le_refl 0)
theorem isd_runs {M : Cs} {a : Addr} {c : List Run} (h : M a = some (.l (c.map sRun))) : IsD M (.c a) (.list (c.map eRun)) := IsD.cell (by rw [h, List.map_map]; rfl)
theorem isd_lines {M : Cs} {a : Addr} {c : List Line} (h : M a = some (.l (c.map sLine))) : IsD M (.c a) (.list (c.map eLine)) := IsD.cell (by rw [h, List.map_map]; rfl)
theorem isd_ints {M : Cs} {a : Addr} {c : List Int} (h : M a = some (.l (c.map dI))) : IsD M (.c a) (.list (c.map PyData.int)) := IsD.cell (by rw [h, List.map_map]; rfl)
end Y

namespace Y
open PySem L2 PyProof.Rows
/-! ### defs that may be called where no repr is under way -/
/-- the same promise as a def's, asked only where no repr is under way -/
structure Calm (P : Program) (w : World) (K : PySem.W.Frag) (mg : Str → Option Value) (base : Heap) (k : Nat) (f : Addr) (fd : FuncData) (ps : List Str) (sp : Sp) : Prop where
  cnt : ∀ vs H Q E, sp vs H Q E → vs.length = ps.length
  go : ∀ (B : Around) (fr : List Env) (t : Shared) (H : Hp) (ar : Args) (us : List Value) (vs : List V) (Q : VK) (E : XK), Room k B → B.guards = some [] → Env0 P w K mg base B fr t H →
    BindsTo t fd ar (ps.zip us) → Vals vs us → sp vs H Q E → codeAny (model P w) B (.call (.ref f) ar) (CR CX0 fr P w H t Q E) t
section
variable {P : Program} {w : World} {K : PySem.W.Frag} {mg : Str → Option Value} {base : Heap}
theorem calm_of {R : Rr} {x qual : Str} {st : Stmt} {f : Addr} {fd : FuncData} {N ps : List Str} {k : Nat} (F : Fun K x qual st f fd) (S : FnScope N ps (defScope st)) (hl : ∀ L ss M Q, R L ss M Q → ss.length = ps.length)
    (hb : ∀ (cdv : Value) (A : Around) (outer : List Env) (s : Shared) (H : Hp) (E : XK) (L : Lk) (ss : List Sl) (M : Cs) (Q : Sl → Cs → Prop), Room k (A.deeper (envOfC qual (defScope st) s.heap.objs.size f cdv)) → A.guards = some [] → R L ss M Q →
      DB ((cxOf CX0 P w K mg base N qual (defScope st) f cdv A outer s H E).nox) L (defBody st) (startK N ss) M { nx := fun _ M' => Q (.d .none) M', rt := Q }) : Calm P w K mg base (k + 1) f fd ps (Spk K R) := by
  obtain ⟨oc, od, kV, doc, pm, an, cdv, ct, osl, rfl, lk, hcd⟩ := F.ex
  have hn : ∀ vs H Q E, Spk K R vs H Q E → vs.length = ps.length := fun vs H Q E ⟨L, M, G, ss, Q0, g, a, r, _⟩ => by
    rw [a.len]
    exact hl L ss M Q0 r
  refine ⟨hn, fun B fr t H ar us vs Q E room noG e0 bd rel prom => ?_⟩
  have inK : K.In t.heap := e0.mod.kin.keeps fun b o z => (e0.bs b o z).1
  have noL : t.heap.NoLimit := e0.mod.nolimit.keeps fun b o z => (e0.bs b o z).1
  refine codeAny_call_function room.depth (inK _ _ lk) rfl S.co S.gen rfl (PySem.W.codeRec_of inK hcd) (bd _ _ _ _ ?_)
  refine wpAny_newFunctionEnv_cells S.kind (fun z hz => ?_) fun env he s1 inC => ?_
  · obtain ⟨zn, zv⟩ := z
    rcases S.par zn (List.of_mem_zip hz).1 with o | o
    · exact .inl o
    · exact .inr ⟨o, PySem.W.cellsFrom_some _ _ _ (.inl o)⟩
  subst he
  refine ⟨noL.keeps inC.toInCall.keep, codeAny_func ?_⟩
  have I : Inv (cxOf CX0 P w K mg base N qual (defScope st) f cdv B fr t H E) [] (start N vs) H s1 := inv_start S room.hd e0 (hn _ _ _ _ prom) rel inC
  obtain ⟨L, M, G, ss, Q0, g, a, r, q⟩ := prom
  have body := hb cdv B fr t H E L ss M Q0 (room.deeper _) noG r _ G H { nx := fun _ H' => Q .non H', rt := Q, bk := fun _ _ => False, ct := fun _ _ => False } (good_start a) g ⟨fun τ' M' σ' G' H' h e g' _ => q _ M' _ G' H' h e g' (.d .non), q, fun _ _ _ _ _ h => h.elim, fun _ _ _ _ _ h => h.elim⟩
  have run := (pss_s (X := (cxOf CX0 P w K mg base N qual (defScope st) f cdv B fr t H E).nox) (sts := defBody st)).nox.run [] s1 (start N vs) H _ I body
  refine wpAny_mono run (fun fl s' hs => ?_) fun _ _ hs => hs
  cases fl with
  | ret u =>
    obtain ⟨v, σ', H', J, rv, qv⟩ := hs
    exact ⟨v, H', J.os, J.bare, J.base, J.hok, rv, qv⟩
  | next =>
    obtain ⟨σ', H', J, qv⟩ := hs
    exact ⟨V.non, H', J.os, J.bare, J.base, J.hok, rfl, qv⟩
  | brk => exact hs.elim fun _ z => z.elim fun _ z => z.2.elim
  | cont => exact hs.elim fun _ z => z.elim fun _ z => z.2.elim
/-- a def that may be called where no repr is under way: where it stands -/
def CalG (P : Program) (w : World) (K : PySem.W.Frag) (mg : Str → Option Value) (base : Heap) (x : Str) (k : Nat) (ps : List Str) (R : Rr) : Prop :=
  ∃ (f : Addr) (fd : FuncData), Calm P w K mg base k f fd ps (Spk K R) ∧ mg x = some (.ref f) ∧ PySem.W.keepIn K (.ref f) = true ∧ Binds K fd ps []
theorem calG_of {R : Rr} {x : Str} {st : Stmt} {N ps : List Str} {k : Nat} (F : FunAt K mg x st ps) (S : FnScope N ps (defScope st)) (hl : ∀ L ss M Q, R L ss M Q → ss.length = ps.length)
    (hb : ∀ (f : Addr) (cdv : Value) (A : Around) (outer : List Env) (s : Shared) (H : Hp) (E : XK) (L : Lk) (ss : List Sl) (M : Cs) (Q : Sl → Cs → Prop), Room k (cxF P w K mg base N x st f cdv A outer s H E).A → A.guards = some [] → R L ss M Q →
      DB (cxF P w K mg base N x st f cdv A outer s H E) L (defBody st) (startK N ss) M { nx := fun _ M' => Q (.d .none) M', rt := Q }) : CalG P w K mg base x (k + 1) ps R := by
  obtain ⟨f, fd, F, m, b⟩ := F
  exact ⟨f, fd, calm_of F S hl fun cdv A outer s H E L ss M Q hr hg r => hb f cdv A outer s H E L ss M Q hr hg r, m, F.kp, b⟩
end
section
variable {X : Cx} {L : Lk} {τ : List (Option Sl)} {M : Cs} {Q : Sl → Cs → Prop} {e : Expr} {es : List Expr} {pos p : Pos}
theorem de_callG {R : Rr} {k : Nat} {ps : List Str} {x : Str} (c : CalG X.prog X.w X.K X.mg X.base x k ps R) (hr : Room k X.A) (noG : X.A.guards = some []) (hg : Gl X x) (wd : DA X L (e :: es) τ M fun ss M1 => R L ss M1 Q) (hdb : (x == ("__debug__" : Str)) = false := by decide)
    (he : starEach (e :: es) X.env = (false, eval e X.env) :: starEach es X.env := by rfl) (hpl : (backTo pos (starEach es X.env)).any (·.1) = false := by rfl) : DE X L (.Call (.Name x p) (e :: es) [] pos) τ M Q := by
  obtain ⟨f, fd, F, hm, hk, hb⟩ := c
  refine de_of (te := fun σ H Q' => sA X (e :: es) σ H fun vs H1 => Spk X.K R vs H1 Q' fun _ _ _ => False) ⟨fun pins s σ H Q' I h => ?_⟩ fun σ G H Q' gs gm kk => wd σ G H _ gs gm fun ss M1 vs G1 H1 q e1 g1 a1 => ⟨L, M1, G1, ss, Q, g1, a1, q, kk.mono e1⟩
  refine wpAny_Call_Name_kw (ld_glob I hg hm ?_ hdb)
  refine PySem.W.callWith_K (h₀ := X.base) I.ok.mod.kin hk (thn (pa_s.run pos pins s σ H _ I h) fun us s1 ⟨vs, H1, I1, rl, pr⟩ => ⟨I1.kIn, ?_⟩) he hpl
  have hlen : us.length = ps.length := by rw [← rl.length]; exact F.cnt _ _ _ _ pr
  have bd := hb s1 us I1.kIn (by rw [List.append_nil]; exact hlen)
  rw [List.append_nil] at bd
  refine wpAny_call (codeAny_mono (F.go X.A X.stack s1 H1 ⟨us, []⟩ us vs Q' _ hr noG I1.env0 bd rl pr) fun o s' hq => ?_)
  cases o with
  | error e => exact pass0 pins σ H1 s1 e s' I1 hq
  | ok fl =>
    cases fl with
    | ret u => exact I1.after hq
    | next => exact hq.elim
    | brk => exact hq.elim
    | cont => exact hq.elim
/-- repr(x), x of lists, tuples, ints, texts -/
def rShow (K : PySem.W.Frag) : List V → Hp → VK → Prop := fun xs H Q => ∃ (a : Addr) (d : PyData), xs = [.ref a] ∧ Dp K H (.ref a) d ∧ d.showable = true ∧ d.hasDict = false ∧ d.depth ≤ 60 ∧ d.shown.length ≤ sizeLine ∧ Q (.str d.shown) H
theorem call_show (noG : X.A.guards = some []) (hu : X.A.units + 64 < cLine) : CallR X (.builtin "repr") (rShow X.K) := by
  intro pins s σ H xs us Q I r h
  obtain ⟨a, d, rfl, hd, sh, nd, dp, sz, q⟩ := h
  obtain ⟨u, rfl, ru⟩ := vals1 r
  cases ru
  obtain ⟨as, rd⟩ := Dp.reads I d _ _ hd rfl
  exact PySem.repr_of_reads' rd sh (fun z => absurd z (by rw [nd]; decide)) noG (by omega) (fun _ _ z => z) (fun h' u tk hk => ⟨.str d.shown, H, I.kept (t' := tk) hk, ⟨u, rfl⟩, q⟩) sz
end
end Y

namespace Y
open PySem L2 PyProof.Rows
/-- the law's own call, where its promise is asked only with no repr under way -/
theorem calm_law {P : Program} {w : World} {K : PySem.W.Frag} {mg mb : Str → Option Value} {k : Nat} {fa a : Addr} {fd : FuncData} {x : Str} {R : Rr} {t : Shared} {vs : List Value} {ns : List Int}
    (inK : K.In t.heap) (hns : t.heap.Ns mainGlobals mg) (hnb : t.heap.Ns builtinsNs mb) (hbb : ∀ y : Str, y ≠ "__name__" → mb y = bootBuiltins y) (noL : t.heap.NoLimit) (noGen : t.gens = #[])
    (hobj : t.heap.get? a = some { cls := .type "list", data := .seq vs.toArray }) (hin : IntsAre vs ns) (hlen : ns.length ≤ sizeLine) (room : Room k callerA)
    (F : ∀ base : Heap, K.In base → base.Ns mainGlobals mg → Calm P w K mg base k fa fd [x] (Spk K R)) (hbd : ∀ (s : Shared) (u : Value), BindsTo s fd ⟨[u], []⟩ [(x, u)])
    (prom : ∀ H : Hp, Only H → SqL K H a (ns.map V.int) → Spk K R [.ref a] H (fun v _ => v = .bl true) fun _ _ _ => False) :
    codeAny (model P w) callerA (.call (.ref fa) ⟨[.ref a], []⟩) (fun o t' => o = .ok (.ret (.bool true)) ∧ OldK t.heap t'.heap ∧ t'.os = t.os ∧ AllBare t'.gens) t := by
  have rv := vals_ints hin
  have lv := hin.length
  obtain ⟨H, ho, hS, hok, hA, hK⟩ : ∃ H : Hp, Only H ∧ SqL K H a (ns.map V.int) ∧ HOk P w H t.heap ∧ (∀ b, H b ≠ none → b = a) ∧ (H a ≠ none → K.lookup a = none) := by
    cases hk : K.lookup a with
    | some o =>
      have z := (inK a o hk).symm.trans hobj
      cases z
      exact ⟨fun _ => none, fun _ => .inl rfl, .inr ⟨_, vs.toArray, _, hk, rfl, rfl, rfl, by rw [List.size_toArray, lv]; exact hlen, by simpa using rv⟩, fun _ _ z => (nomatch z), fun _ z => absurd rfl z, fun z => absurd rfl z⟩
    | none =>
      have at1 : ∀ {b : Addr} {u : HO}, (if b = a then some (HO.frz { cls := .type "list", data := .seq vs.toArray } (.lst (ns.map V.int))) else none) = some u → b = a ∧ HO.frz { cls := .type "list", data := .seq vs.toArray } (.lst (ns.map V.int)) = u := fun {b u} z => by
        by_cases hb : b = a
        · rw [if_pos hb] at z
          exact ⟨hb, Option.some.inj z⟩
        · rw [if_neg hb] at z
          cases z
      refine ⟨fun b => if b = a then some (.frz { cls := .type "list", data := .seq vs.toArray } (.lst (ns.map V.int))) else none, fun b => ?_, .inl (.inr ⟨_, if_pos rfl⟩), fun b u z => ?_, fun b z => ?_, fun _ => rfl⟩
      · rcases Decidable.em (b = a) with hb | hb
        · exact .inr ⟨_, _, if_pos hb⟩
        · exact .inl (if_neg hb)
      · obtain ⟨rfl, rfl⟩ := at1 z
        exact ⟨hobj, by rw [List.length_map]; exact hlen, vs, _, rv, hobj⟩
      · rcases Decidable.em (b = a) with hb | hb
        · exact hb
        · exact absurd (if_neg hb) z
  have seqNo : ∀ {b : Addr} {o : Obj} {es : Array DictEntry} {ep : Nat}, t.heap.get? b = some o → o.data = .dict es ep → H b = none := fun {b o es ep} z d => by
    cases q : H b with
    | none => rfl
    | some u =>
      have zb : b = a := hA b (by rw [q]; exact fun y => (nomatch y))
      rw [zb, hobj] at z
      cases z
      exact absurd d fun y => (nomatch y)
  have inB : ∀ {b : Addr} {m : Str → Option Value}, t.heap.Ns b m → (hidT t.heap H).Ns b m := fun ⟨o, es, ep, z, d, r⟩ => ⟨o, es, ep, hidT_get z (seqNo z d), d, r⟩
  have kB : K.In (hidT t.heap H) := fun b o z => hidT_get (inK b o z) (by
    cases q : H b with
    | none => rfl
    | some u =>
      have zb : b = a := hA b (by rw [q]; exact fun y => (nomatch y))
      rw [zb, hK (by rw [← zb, q]; exact fun y => (nomatch y))] at z
      cases z)
  have md : Mod K mg (hidT t.heap H) := ⟨kB, inB hns, ⟨mb, inB hnb, hbb⟩, noL.elim fun mc z => ⟨mc, inB z.1, z.2⟩⟩
  have e0 : Env0 P w K mg (hidT t.heap H) callerA [] t H := ⟨rfl, md, fun b o z => of_hidT z, Nat.le_of_eq (hidT_size _ _), trivial, fun b hb => (nomatch hb), hok, .of_eq noGen⟩
  have main := (F _ kB (inB hns)).go callerA [] t H ⟨[.ref a], []⟩ [.ref a] [.ref a] _ _ room rfl e0 (hbd t (.ref a)) (.cons rfl .nil) (prom H ho hS)
  refine codeAny_mono main fun o t' h => ?_
  cases o with
  | error e => exact h.elim
  | ok fl =>
    cases fl with
    | next => exact h.elim
    | brk => exact h.elim
    | cont => exact h.elim
    | ret u =>
      obtain ⟨v, H', os, bare, un, hok', rl, qv⟩ := h
      cases (show v = .bl true from qv)
      cases (show u = Value.bool true from rl)
      refine ⟨rfl, OldK.of_keep fun b o z => ?_, os, bare⟩
      cases q : H b with
      | none => exact un.keep b o z q (fun y => (nomatch y)) (fun y => (nomatch y))
      | some u =>
        rcases ho b with y | ⟨ob, xs, y⟩
        · rw [q] at y
          cases y
        · obtain ⟨z1, _⟩ := hok b _ y
          obtain ⟨z2, _⟩ := hok' b _ (un.frzs b ob _ y)
          rw [z] at z1
          cases z1
          exact z2
theorem walk_calm {l : PySem.W.OpenLaw} {n k : Nat} {q : Program} {loose : List Str} {XP : (Str → Option Value) → Heap → Prop} {YP : World → Heap → Prop} {d : DefRec} {K : Params → PySem.W.Frag} {R : Rr} {x : Str}
    (hmost : l.most = some n) (hle : n ≤ sizeLine) (hdef : d.params.defaults = []) (room : Room k callerA) (hY : ∀ (w : World) (h : Heap), YP w h → (K w.params).In h)
    (F : ∀ (w : World) (mg : Str → Option Value) (fa : Addr) (h : Heap), (K w.params).In h → h.Ns mainGlobals mg → mg d.name = some (.ref fa) →
      ∃ fd : FuncData, (∀ (s : Shared) (u : Value), BindsTo s fd ⟨[u], []⟩ [(x, u)]) ∧ ∀ base : Heap, (K w.params).In base → base.Ns mainGlobals mg → Calm l.prog w (K w.params) mg base k fa fd [x] (Spk (K w.params) R))
    (prom : ∀ (w : World) (H : Hp) (a : Addr) (ns : List Int), ns.length ≤ n → Only H → SqL (K w.params) H a (ns.map V.int) → Spk (K w.params) R [.ref a] H (fun v _ => v = .bl true) fun _ _ _ => False) :
    PySem.W.WalkO q loose XP YP l.row.toRowW d [] (fun f vs => PySem.call f vs) := by
  refine Att.attach_call hmost hdef fun w t0 t mg mb fa o pm cd doc a vs ns G y ho hd hcd hmg hobj hin hlen noGen => ?_
  obtain ⟨fd, hbd, hF⟩ := F w mg fa _ (hY w _ y) G.T.g hmg
  exact calm_law (hY w _ y) G.T.g G.T.b G.T.builtins G.T.nolimit noGen hobj hin (Nat.le_trans hlen hle) room hF hbd fun H ho hS => prom w H a ns hlen ho hS
end Y

namespace Y
open PySem L2 PyProof.Rows
/-! ### how long a repr is -/
theorem listText_le (ts : List Str) : (listText ts).length ≤ 2 + piled ts := by
  cases ts with
  | nil => decide
  | cons t r =>
    have h1 : (listText (t :: r)).length = (textFrom 1 (("[" : Str) ++ (if (0 : Nat) > 0 then ", " else "" : String) ++ t) r).length + 1 := by
      show (textFrom 1 _ r ++ "]").length = _
      rw [strLen_append]
      rfl
    rw [h1, textFrom_length_pos _ _ _ (by decide), strLen_append, strLen_append, piled_cons]
    show 1 + 0 + t.length + piled r + 1 ≤ _
    omega
theorem tupleText_le (ts : List Str) : (tupleText ts).length ≤ 3 + piled ts := by
  have h1 : ∀ s : Str, (s ++ (if ts.length == 1 then ",)" else ")" : String)).length ≤ s.length + 2 := fun s => by
    rw [strLen_append]
    split
    · show s.length + 2 ≤ _; omega
    · show s.length + 1 ≤ _; omega
  have h2 := h1 (("(" : Str) ++ Str.join ", " ts)
  have h3 : (("(" : Str) ++ Str.join ", " ts).length = 1 + (Str.join ", " ts).length := by rw [strLen_append]; rfl
  show (("(" : Str) ++ Str.join ", " ts ++ (if ts.length == 1 then ",)" else ")" : String)).length ≤ _
  rcases Decidable.em (ts = []) with e | e
  · subst e
    decide
  · have := join_length_add ts e
    omega
theorem shownAll_map : ∀ ds : List PyData, PyData.shownAll ds = ds.map PyData.shown
  | [] => by simp only [PyData.shownAll, List.map_nil]
  | d :: r => by simp only [PyData.shownAll, List.map_cons, shownAll_map r]
theorem piled_le {n : Nat} : ∀ {ts : List Str}, (∀ t ∈ ts, t.length ≤ n) → piled ts ≤ (n + 2) * ts.length
  | [], _ => Nat.zero_le _
  | t :: r, h => by
    have h1 := h t List.mem_cons_self
    have h2 := piled_le (ts := r) fun u hu => h u (List.mem_cons_of_mem _ hu)
    rw [piled_cons, List.length_cons, Nat.mul_add, Nat.mul_one]
    omega
theorem shown_int_le {i : Int} (h : i.natAbs < 10 ^ 31) : (PyData.int i).shown.length ≤ 32 := by
  simp only [PyData.shown]
  have := int_text_length_le10 (k := 31) (by decide) h
  show (Str.ofString (toString i)).length ≤ 32
  rw [PySem.ofString_length]
  exact this
theorem shown_name_le {z : Str} (h : okName z = true) : (PyData.str z).shown.length ≤ 82 := by
  simp only [PyData.shown]
  unfold okName at h
  simp only [Bool.and_eq_true, decide_eq_true_eq] at h
  have h3 : Txt.isascii z = true := h.2.2.1
  unfold Txt.isascii at h3
  have := StrLaws.reprText_len z fun c hc => by
    rw [Array.all_eq_true] at h3
    obtain ⟨i, hi, e⟩ := List.getElem_of_mem hc
    have := h3 i (by simpa using hi)
    simp only [decide_eq_true_eq] at this
    have e' : z.cps[i]'(by simpa using hi) = c := by simpa using e
    rw [e'] at this
    exact Nat.lt_of_lt_of_le this (by decide)
  have := h.2.1
  omega
theorem show_int {i : Int} (h : i.natAbs < 10 ^ 31) : (PyData.int i).showable = true := by
  simp only [PyData.showable, decide_eq_true_eq]
  by_cases e : i.natAbs = 0
  · rw [e]; decide
  · exact (Nat.log2_lt e).mpr (Nat.lt_trans h (by decide))
def fitR (r : Run) : Prop := okName r.1 = true ∧ r.2.1.natAbs < 10 ^ 31 ∧ r.2.2.natAbs < 10 ^ 31
theorem shown_run_le {r : Run} (h : fitR r) : (eRun r).shown.length ≤ 160 := by
  show (tupleText (PyData.shownAll _)).length ≤ _
  have h1 := shown_name_le h.1
  have h2 := shown_int_le h.2.1
  have h3 := shown_int_le h.2.2
  refine Nat.le_trans (tupleText_le _) ?_
  rw [shownAll_map]
  show 3 + piled [_, _, _] ≤ _
  rw [piled_cons, piled_cons, piled_cons, piled_nil]
  omega
theorem shown_runs_le {c : List Run} (h : ∀ r ∈ c, fitR r) : (PyData.list (c.map eRun)).shown.length ≤ 3 + 162 * c.length ∧ (PyData.tuple (c.map eRun)).shown.length ≤ 3 + 162 * c.length := by
  have h1 : piled (PyData.shownAll (c.map eRun)) ≤ 162 * c.length := by
    rw [shownAll_map]
    have := piled_le (n := 160) (ts := (c.map eRun).map PyData.shown) fun t ht => by
      rw [List.map_map] at ht
      obtain ⟨r, hr, rfl⟩ := List.mem_map.mp ht
      exact shown_run_le (h r hr)
    rw [List.length_map, List.length_map] at this
    exact this
  constructor
  · show (listText (PyData.shownAll (c.map eRun))).length ≤ _
    have := listText_le (PyData.shownAll (c.map eRun))
    omega
  · show (tupleText (PyData.shownAll (c.map eRun))).length ≤ _
    have := tupleText_le (PyData.shownAll (c.map eRun))
    omega
theorem showableAll_map {α : Type} (f : α → PyData) : ∀ c : List α, (∀ a ∈ c, (f a).showable = true) → PyData.showableAll (c.map f) = true
  | [], _ => by simp only [List.map_nil, PyData.showableAll]
  | a :: c, h => by
    simp only [List.map_cons, PyData.showableAll, h a List.mem_cons_self, showableAll_map f c fun b hb => h b (List.mem_cons_of_mem _ hb), Bool.and_self]
theorem show_run {r : Run} (h : fitR r) : (eRun r).showable = true := by
  show PyData.showableAll [.str r.1, .int r.2.1, .int r.2.2] = true
  simp only [PyData.showableAll, show_int h.2.1, show_int h.2.2, Bool.and_self, Bool.and_true]
  simp only [PyData.showable]
section
variable {X : Cx} {L : Lk} {M : Cs} {Q : Sl → Cs → Prop}
theorem k_show {s : Sl} {d : PyData} {ss : List Sl} (h : IsD M s d) (hs : seqOf M s = some ss) (can : d.canLay0 = true) (sh : d.showable = true) (dp : d.depth ≤ 60) (sz : d.shown.length ≤ sizeLine) (q : Q (.d (.str d.shown)) M) : RCk X.K L (rShow X.K) [s] M Q := fun G H vs Q' g a k => by
  obtain ⟨v, rfl, a1⟩ := sl1 a
  obtain ⟨p, xs, e, _, _⟩ := seq_at g a1 hs
  subst e
  exact ⟨p, d, rfl, h.dp g can a1, sh, PyData.hasDict_of_canLay d can, dp, sz, k.go q g (.d (.str _))⟩
/-- repr of a content, list or tuple -/
theorem k_showR {s : Sl} {c : List Run} {ss : List Sl} {tup : Bool} (h : IsD M s (if tup = true then .tuple (c.map eRun) else .list (c.map eRun))) (hs : seqOf M s = some ss) (ok : ∀ r ∈ c, fitR r) (hl : c.length ≤ 10000) (q : Q (.d (.str (PyData.shown (if tup = true then .tuple (c.map eRun) else .list (c.map eRun))))) M) : RCk X.K L (rShow X.K) [s] M Q := by
  have hc : PyData.canLayAll0 (c.map eRun) = true := canLayAll_map eRun c fun r hr => can_run (ok r hr).1
  have hw : PyData.showableAll (c.map eRun) = true := showableAll_map eRun c fun r hr => show_run (ok r hr)
  have hd : PyData.depthAll (c.map eRun) ≤ 1 := depthAll_map eRun 1 c fun r _ => Nat.le_refl 1
  have hz := shown_runs_le ok
  have sl : (10 ^ 7 : Nat) ≤ sizeLine := by rw [sizeLine_eq]; decide
  cases tup with
  | true => exact k_show (d := .tuple (c.map eRun)) h hs hc hw (by show PyData.depthAll _ + 1 ≤ 60; omega) (by omega) q
  | false => exact k_show (d := .list (c.map eRun)) h hs hc hw (by show PyData.depthAll _ + 1 ≤ 60; omega) (by omega) q
end
end Y

namespace Y
open PySem L2 PyProof.Rows
section
variable {X : Cx} {L : Lk} {τ : List (Option Sl)} {M : Cs} {Q : Sl → Cs → Prop} {o : Expr} {apos cpos pos : Pos} {E : Ks}
/-- tuple(xs) of a list -/
theorem k_tupleL {s : Sl} {ss : List Sl} (hT : isTup s = false) (h : seqOf M s = some ss) (q : Q (.u ss) M) : RCk X.K L (fun xs H Q => ∃ p ys, xs = [.ref p] ∧ ((SqL X.K H p ys ∧ ∀ l, H l = none → Q (.ref l) (upd H l (.tup ys))) ∨ (SqT X.K H p ys ∧ Q (.ref p) H))) [s] M Q := fun G H vs Q' g a k => by
  obtain ⟨v, rfl, a1⟩ := sl1 a
  obtain ⟨p, xs, rfl, r, l⟩ := seq_at g a1 h
  rw [hT, if_neg Bool.false_ne_true] at r
  refine ⟨p, xs, rfl, .inl ⟨r, fun c hc => ?_⟩⟩
  have f := g.free hc
  exact k _ _ _ _ _ q (Ex.new f.1) (g.newD hc) (.u upd_same (l.mono (Ex.new f.1)))
/-- xs.clear() as a statement -/
theorem ds_clear (w : DE X L o τ M fun x M1 => ∃ a ss, x = .c a ∧ M1 a = some (.l ss) ∧ E.nx τ (updC M1 a (.l []))) (hbase : attributeBase o "clear" X.env (eval o X.env) = eval o X.env := by rfl) (hline : (apos.endLine == cpos.line) = true := by rfl)
    (hsw : swapsWith (.Call (.Attribute o "clear" apos) [] [] cpos) none pos.line X.env = pure false := by rfl) : DS X L (.Expr (.Call (.Attribute o "clear" apos) [] [] cpos) pos) τ M E :=
  ds_expr (de_of (pe_bm0 PySem.F.plainAttrs_list PySem.F.slot_list_clear PySem.F.type_list_clear mt_clear pe_s hbase hline) fun σ G H Q' gs gm k => w σ G H _ gs gm fun x M1 v G1 H1 ⟨a, ss, hx, ha, q⟩ e1 g1 a1 => by
    subst hx
    obtain ⟨_, xs, h1, h2⟩ := g1.cell a _ ha
    have ev := sl_c a1
    subst ev
    exact ⟨.inl ⟨rfl, xs, .inl (.inl h1)⟩, a, xs, rfl, rfl, h1, k (.d .none) _ _ G1 _ q e1 (g1.write ha h1 (fun _ _ z => (nomatch z)) ⟨[], upd_same, .nil⟩) (.d .non)⟩) hsw
end
end Y

namespace Y
open PySem L2 PyProof.Rows
/-! ### data with dicts: repr -/
/-- the module table stands -/
def Sys (base : Heap) : Prop := ∃ mm, base.Ns sysModules mm
mutual
inductive DX (K : PySem.W.Frag) (H : Hp) : V → PyData → Prop
  | non : DX K H .non .none
  | bl (b : Bool) : DX K H (.bl b) (.bool b)
  | int (i : Int) : DX K H (.int i) (.int i)
  | str (x : Str) : DX K H (.str x) (.str x)
  | lst {a : Addr} {xs : List V} {ds : List PyData} : SqL K H a xs → DXs K H xs ds → DX K H (.ref a) (.list ds)
  | tup {a : Addr} {xs : List V} {ds : List PyData} : SqT K H a xs → DXs K H xs ds → DX K H (.ref a) (.tuple ds)
  | dic {a : Addr} {kvs : List (Key × V)} {ds : List (PyData × PyData)} : Rd H a (.dK kvs) → DXk K H kvs ds → DX K H (.ref a) (.dict ds)
inductive DXs (K : PySem.W.Frag) (H : Hp) : List V → List PyData → Prop
  | nil : DXs K H [] []
  | cons {v : V} {vs : List V} {d : PyData} {ds : List PyData} : DX K H v d → DXs K H vs ds → DXs K H (v :: vs) (d :: ds)
inductive DXk (K : PySem.W.Frag) (H : Hp) : List (Key × V) → List (PyData × PyData) → Prop
  | nil : DXk K H [] []
  | cons {k : Key} {v : V} {kvs : List (Key × V)} {d : PyData} {ds : List (PyData × PyData)} : DX K H v d → DXk K H kvs ds → DXk K H ((k, v) :: kvs) ((kD k, d) :: ds)
end
section
variable {X : Cx} {pins : List (Addr × Obj)} {σ : L2.St} {H : Hp} {s : Shared}
theorem list_ne (I : Inv X pins σ H s) (S : Sys X.base) {a : Addr} {xs : List V} (hs : SqL X.K H a xs) : a ≠ sysModules := by
  intro e
  subst e
  obtain ⟨mm, o, es, ep, ho, hd, _⟩ := S
  have hb := (I.bs _ _ ho).1
  obtain ⟨its, rv, ⟨o', n, ho', hc, _, hd'⟩, _⟩ := I.list hs
  rw [hb] at ho'
  cases ho'
  rw [hd] at hd'
  cases hd'
mutual
theorem DX.reads (I : Inv X pins σ H s) (S : Sys X.base) : ∀ {v : V} {d : PyData}, DX X.K H v d → ∀ {u : Value}, RelV v u → ∃ as, Reads s.heap u d as ∧ sysModules ∉ as
  | _, _, .non, _, r => by
    cases r
    exact ⟨_, Reads.none, by simp⟩
  | _, _, .bl b, _, r => by
    cases r
    exact ⟨_, Reads.bool b, by simp⟩
  | _, _, .int i, _, r => by
    obtain ⟨t, rfl⟩ := r
    exact ⟨_, Reads.int i t, by simp⟩
  | _, _, .str x, _, r => by
    obtain ⟨t, rfl⟩ := r
    exact ⟨_, Reads.str x t, by simp⟩
  | _, _, .lst hs ha, _, r => by
    cases r
    have ne := list_ne I S hs
    obtain ⟨its, rv, ⟨o, n, ho, hc, _, hd⟩, _⟩ := I.list hs
    obtain ⟨as, hr, hn⟩ := DXs.reads I S ha rv
    exact ⟨_, Reads.list ho hc hd hr, fun z => by
      rcases List.mem_cons.mp z with z | z
      · exact ne z.symm
      · exact hn z⟩
  | _, _, .tup hs ha, _, r => by
    cases r
    obtain ⟨its, rv, ⟨o, ho, hc, n, hd⟩, _⟩ := I.tuple hs
    obtain ⟨as, hr, hn⟩ := DXs.reads I S ha rv
    exact ⟨_, Reads.tuple ho hc hd hr, hn⟩
  | _, _, .dic hs ha, _, r => by
    cases r
    obtain ⟨_, ne, vs, kv, o, es, ep, ho, hx, hd, _, hp, _⟩ := (show ObjOk X.prog X.w H s.heap _ (.dK _) from hs.ok I.hok)
    obtain ⟨as, bs, h1, h2, n1, n2⟩ := DXk.reads I S ha kv hp
    refine ⟨_, Reads.dict ho hx.1 hd h1 h2, fun z => ?_⟩
    rcases List.mem_append.mp z with z | z
    · rcases List.mem_cons.mp z with z | z
      · subst z
        simp at ne
      · exact n1 z
    · exact n2 z
theorem DXs.reads (I : Inv X pins σ H s) (S : Sys X.base) : ∀ {vs : List V} {ds : List PyData}, DXs X.K H vs ds → ∀ {us : List Value}, Vals vs us → ∃ as, ReadsAll s.heap us ds as ∧ sysModules ∉ as
  | _, _, .nil, _, r => by
    cases r
    exact ⟨_, ReadsAll.nil, by simp⟩
  | _, _, .cons h1 h2, _, r => by
    cases r with
    | cons r1 r2 =>
      obtain ⟨as, q1, n1⟩ := DX.reads I S h1 r1
      obtain ⟨bs, q2, n2⟩ := DXs.reads I S h2 r2
      exact ⟨_, ReadsAll.cons q1 q2, fun z => (List.mem_append.mp z).elim n1 n2⟩
theorem DXk.reads (I : Inv X pins σ H s) (S : Sys X.base) : ∀ {kvs : List (Key × V)} {ds : List (PyData × PyData)}, DXk X.K H kvs ds → ∀ {vs : List (Key × Value)} {es : List DictEntry}, KV kvs vs → Pairs (mixKind X.prog X.w) es vs →
    ∃ as bs, ReadsAll s.heap (es.map (·.key)) (ds.map (·.1)) as ∧ ReadsAll s.heap (es.map (·.val)) (ds.map (·.2)) bs ∧ sysModules ∉ as ∧ sysModules ∉ bs
  | _, _, .nil, _, _, kv, hp => by
    cases kv
    cases hp
    exact ⟨_, _, ReadsAll.nil, ReadsAll.nil, by simp, by simp⟩
  | _, _, .cons h1 h2, _, _, kv, hp => by
    cases kv with
    | cons k1 k2 =>
      cases hp with
      | cons hk he hp' =>
        obtain ⟨as, bs, q1, q2, n1, n2⟩ := DXk.reads I S h2 k2 hp'
        obtain ⟨cs, q3, n3⟩ := DX.reads I S h1 k1.2
        rw [← he] at q3
        rw [← k1.1] at hk
        rcases keyIs_shape hk with ⟨i, t, e1, e2⟩ | ⟨x, t, e1, e2⟩
        · refine ⟨_, _, ReadsAll.cons (as := []) ?_ q1, ReadsAll.cons q3 q2, by simpa using n1, fun z => (List.mem_append.mp z).elim n3 n2⟩
          have e3 := congrArg kD e1
          simp only [e2]
          exact e3 ▸ Reads.int i t
        · refine ⟨_, _, ReadsAll.cons (as := []) ?_ q1, ReadsAll.cons q3 q2, by simpa using n1, fun z => (List.mem_append.mp z).elim n3 n2⟩
          have e3 := congrArg kD e1
          simp only [e2]
          exact e3 ▸ Reads.str x t
end
end
/-! data in cells, dicts among them -/
mutual
inductive IsX (M : Cs) : Sl → PyData → Prop
  | d (x : PyData) : IsX M (.d x) x
  | c {a : Addr} {ss : List Sl} {ds : List PyData} : M a = some (.l ss) → IsXL M ss ds → IsX M (.c a) (.list ds)
  | k {a : Addr} {kvs : List (Key × Sl)} {ds : List (PyData × PyData)} : M a = some (.k kvs) → IsXK M kvs ds → IsX M (.c a) (.dict ds)
  | u {ss : List Sl} {ds : List PyData} : IsXL M ss ds → IsX M (.u ss) (.tuple ds)
  | s (ns : List Int) : IsX M (.s ns) (.list (ns.map PyData.int))
inductive IsXL (M : Cs) : List Sl → List PyData → Prop
  | nil : IsXL M [] []
  | cons {s : Sl} {d : PyData} {ss : List Sl} {ds : List PyData} : IsX M s d → IsXL M ss ds → IsXL M (s :: ss) (d :: ds)
inductive IsXK (M : Cs) : List (Key × Sl) → List (PyData × PyData) → Prop
  | nil : IsXK M [] []
  | cons {k : Key} {s : Sl} {kvs : List (Key × Sl)} {d : PyData} {ds : List (PyData × PyData)} : IsX M s d → IsXK M kvs ds → IsXK M ((k, s) :: kvs) ((kD k, d) :: ds)
end
theorem IsXL.ofD {M : Cs} : ∀ ds : List PyData, IsXL M (ds.map Sl.d) ds
  | [] => .nil
  | d :: r => .cons (.d d) (IsXL.ofD r)
theorem IsXK.ofD {M : Cs} : ∀ kd : List (Key × PyData), IsXK M (slK kd) (encK kd)
  | [] => .nil
  | (k, d) :: r => .cons (.d d) (IsXK.ofD r)
theorem IsX.cell {M : Cs} {a : Addr} {ds : List PyData} (h : M a = some (.l (ds.map .d))) : IsX M (.c a) (.list ds) := .c h (IsXL.ofD ds)
theorem IsX.dict {M : Cs} {a : Addr} {kd : List (Key × PyData)} (h : M a = some (.k (slK kd))) : IsX M (.c a) (.dict (encK kd)) := .k h (IsXK.ofD kd)
section
variable {K : PySem.W.Frag} {L : Lk} {M : Cs} {G H : Hp}
mutual
theorem At.dx (g : GoodM K L M G H) : ∀ {v : V} {d : PyData}, At K G v d → DX K H v d
  | _, _, .non => .non
  | _, _, .bl b => .bl b
  | _, _, .int i => .int i
  | _, _, .str x => .str x
  | _, _, .lst e l => .lst (.inl (g.rd e)) (AtL.dx g l)
  | _, _, .tup e l => .tup (.inl (g.rd e)) (AtL.dx g l)
  | _, _, .dic e l => .dic (g.rd e) (AtK.dx g l)
theorem AtL.dx (g : GoodM K L M G H) : ∀ {vs : List V} {ds : List PyData}, AtL K G vs ds → DXs K H vs ds
  | _, _, .nil => .nil
  | _, _, .cons a b => .cons (At.dx g a) (AtL.dx g b)
theorem AtK.dx (g : GoodM K L M G H) : ∀ {vs : List (Key × V)} {ds : List (PyData × PyData)}, AtK K G vs ds → DXk K H vs ds
  | _, _, .nil => .nil
  | _, _, .cons a b => .cons (At.dx g a) (AtK.dx g b)
end
theorem ints_dx : ∀ ns : List Int, DXs K H (ns.map V.int) (ns.map PyData.int)
  | [] => .nil
  | n :: r => .cons (.int n) (ints_dx r)
mutual
theorem IsX.dx (g : GoodM K L M G H) : ∀ {s : Sl} {d : PyData} {v : V}, IsX M s d → SlAt K G v s → DX K H v d
  | _, _, _, .d x, .d a => At.dx g a
  | _, _, _, .c (a := p) h l, b => by
    obtain ⟨_, xs, h1, h2⟩ := g.cell p _ h
    cases b
    exact .lst (SqL.of h1) (IsXL.dx g l h2)
  | _, _, _, .k (a := p) h l, b => by
    obtain ⟨_, xs, h1, h2⟩ := g.cell p _ h
    cases b
    exact .dic (.inl h1) (IsXK.dx g l h2)
  | _, _, _, .u l, .u e b => .tup (.inl (g.rd e)) (IsXL.dx g l b)
  | _, _, _, .s ns, .s e => by
    refine .lst ?_ (ints_dx ns)
    rcases e with e | e
    · exact .inl (g.rd e)
    · exact .inr e
theorem IsXL.dx (g : GoodM K L M G H) : ∀ {ss : List Sl} {ds : List PyData} {vs : List V}, IsXL M ss ds → SlL K G vs ss → DXs K H vs ds
  | _, _, _, .nil, .nil => .nil
  | _, _, _, .cons a b, .cons p q => .cons (IsX.dx g a p) (IsXL.dx g b q)
theorem IsXK.dx (g : GoodM K L M G H) : ∀ {ks : List (Key × Sl)} {ds : List (PyData × PyData)} {vs : List (Key × V)}, IsXK M ks ds → KvAt K G vs ks → DXk K H vs ds
  | _, _, [], .nil, _ => .nil
  | _, _, _ :: _, .nil, h => h.elim
  | _, _, (k, v) :: vs, .cons (k := k2) a b, ⟨e, p, q⟩ => by
    have e' : k = k2 := e
    subst e'
    exact .cons (IsX.dx g a p) (IsXK.dx g b q)
  | _, _, [], .cons a b, h => h.elim
end
end
/-- what has an address -/
def isBox : PyData → Bool
  | .list _ => true
  | .tuple _ => true
  | .dict _ => true
  | _ => false
def rShowX (K : PySem.W.Frag) : List V → Hp → VK → Prop := fun xs H Q => ∃ (a : Addr) (d : PyData), xs = [.ref a] ∧ DX K H (.ref a) d ∧ d.showable = true ∧ d.depth ≤ 60 ∧ d.shown.length ≤ sizeLine ∧ Q (.str d.shown) H
theorem call_showX {X : Cx} (S : Sys X.base) (noG : X.A.guards = some []) (hu : X.A.units + 64 < cLine) : CallR X (.builtin "repr") (rShowX X.K) := by
  intro pins s σ H xs us Q I r h
  obtain ⟨a, d, rfl, hd, sh, dp, sz, q⟩ := h
  obtain ⟨u, rfl, ru⟩ := vals1 r
  cases ru
  obtain ⟨as, rd, nm⟩ := DX.reads I S hd (u := .ref a) rfl
  exact PySem.repr_of_reads' rd sh (fun _ => nm) noG (by omega) (fun _ _ z => z) (fun h' u tk hk => ⟨.str d.shown, H, I.kept (t' := tk) hk, ⟨u, rfl⟩, q⟩) sz
/-! ### how long a repr is -/
def small (z : Str) : Bool := Txt.isascii z && decide (z.length ≤ 30)
mutual
/-- ints below 10 ^ 45, short plain texts -/
def fitX : PyData → Bool
  | .none => true
  | .bool _ => true
  | .int i => decide (i.natAbs < 10 ^ 45)
  | .str z => small z
  | .list ds => fitXs ds
  | .tuple ds => fitXs ds
  | .dict kvs => fitXk kvs
def fitXs : List PyData → Bool
  | [] => true
  | d :: r => fitX d && fitXs r
def fitXk : List (PyData × PyData) → Bool
  | [] => true
  | p :: r => fitX p.1 && fitX p.2 && fitXk r
end
mutual
/-- how many parts -/
def wtX : PyData → Nat
  | .none => 1
  | .bool _ => 1
  | .int _ => 1
  | .str _ => 1
  | .list ds => 1 + wtXs ds
  | .tuple ds => 1 + wtXs ds
  | .dict kvs => 1 + wtXk kvs
def wtXs : List PyData → Nat
  | [] => 0
  | d :: r => wtX d + wtXs r
def wtXk : List (PyData × PyData) → Nat
  | [] => 0
  | p :: r => wtX p.1 + wtX p.2 + wtXk r
end
theorem dictText_le (ts : List Str) : (dictText ts).length ≤ 2 + piled ts := by
  have e : (dictText ts).length = 1 + (Str.join ", " ts).length + 1 := by
    unfold dictText
    rw [strLen_append, strLen_append]; rfl
  by_cases h : ts = []
  · subst h; decide
  · have h2 := join_length_add ts h
    omega
theorem small_len {z : Str} (h : small z = true) : (PyData.str z).shown.length ≤ 302 := by
  simp only [PyData.shown]
  unfold small at h
  simp only [Bool.and_eq_true, decide_eq_true_eq] at h
  have h3 : Txt.isascii z = true := h.1
  unfold Txt.isascii at h3
  have := StrLaws.reprText_len z fun c hc => by
    rw [Array.all_eq_true] at h3
    obtain ⟨i, hi, e⟩ := List.getElem_of_mem hc
    have := h3 i (by simpa using hi)
    simp only [decide_eq_true_eq] at this
    have e' : z.cps[i]'(by simpa using hi) = c := by simpa using e
    rw [e'] at this
    exact Nat.lt_of_lt_of_le this (by decide)
  omega
theorem int_len45 {i : Int} (h : i.natAbs < 10 ^ 45) : (PyData.int i).shown.length ≤ 302 := by
  simp only [PyData.shown]
  have := int_text_length_le10 (k := 45) (by decide) h
  show (Str.ofString (toString i)).length ≤ 302
  rw [PySem.ofString_length]
  omega
mutual
theorem shownX_le : ∀ d : PyData, fitX d = true → d.shown.length + 4 ≤ 320 * wtX d
  | .none, _ => by simp only [PyData.shown, wtX]; decide
  | .bool b, _ => by cases b <;> (simp only [PyData.shown, wtX]; decide)
  | .int i, h => by
    have := int_len45 (i := i) (by simpa [fitX] using h)
    simp only [wtX]
    omega
  | .str z, h => by
    have := small_len (z := z) (by simpa [fitX] using h)
    simp only [wtX]
    omega
  | .list ds, h => by
    have h1 := shownXs_le ds (by simpa [fitX] using h)
    have h2 := listText_le (PyData.shownAll ds)
    simp only [PyData.shown, wtX]
    omega
  | .tuple ds, h => by
    have h1 := shownXs_le ds (by simpa [fitX] using h)
    have h2 := tupleText_le (PyData.shownAll ds)
    simp only [PyData.shown, wtX]
    omega
  | .dict ds, h => by
    have h1 := shownXk_le ds (by simpa [fitX] using h)
    have h2 := dictText_le (PyData.shownKv ds)
    simp only [PyData.shown, wtX]
    omega
theorem shownXs_le : ∀ ds : List PyData, fitXs ds = true → piled (PyData.shownAll ds) ≤ 320 * wtXs ds
  | [], _ => by simp only [PyData.shownAll, piled_nil]; omega
  | d :: r, h => by
    simp only [fitXs, Bool.and_eq_true] at h
    have h1 := shownX_le d h.1
    have h2 := shownXs_le r h.2
    have h3 := wtX_pos d
    simp only [PyData.shownAll, piled_cons, wtXs]
    omega
theorem shownXk_le : ∀ ds : List (PyData × PyData), fitXk ds = true → piled (PyData.shownKv ds) ≤ 320 * wtXk ds
  | [], _ => by simp only [PyData.shownKv, piled_nil]; omega
  | (k, d) :: r, h => by
    simp only [fitXk, Bool.and_eq_true] at h
    have h1 := shownX_le k h.1.1
    have h1' := shownX_le d h.1.2
    have h2 := shownXk_le r h.2
    have h3 := wtX_pos d
    have h4 := wtX_pos k
    have h5 : ((": " : Str)).length = 2 := rfl
    simp only [PyData.shownKv, piled_cons, wtXk, strLen_append, h5]
    omega
theorem wtX_pos : ∀ d : PyData, 1 ≤ wtX d
  | .none => by simp only [wtX]; omega
  | .bool _ => by simp only [wtX]; omega
  | .int _ => by simp only [wtX]; omega
  | .str _ => by simp only [wtX]; omega
  | .list _ => by simp only [wtX]; omega
  | .tuple _ => by simp only [wtX]; omega
  | .dict _ => by simp only [wtX]; omega
end
mutual
theorem showX : ∀ d : PyData, fitX d = true → d.showable = true
  | .none, _ => by simp only [PyData.showable]
  | .bool b, _ => by simp only [PyData.showable]
  | .int i, h => by
    simp only [fitX, decide_eq_true_eq] at h
    simp only [PyData.showable, decide_eq_true_eq]
    by_cases e : i.natAbs = 0
    · rw [e]; decide
    · exact (Nat.log2_lt e).mpr (Nat.lt_trans h (by decide))
  | .str z, h => by simp only [PyData.showable]
  | .list ds, h => by simp only [PyData.showable]; exact showXs ds (by simpa [fitX] using h)
  | .tuple ds, h => by simp only [PyData.showable]; exact showXs ds (by simpa [fitX] using h)
  | .dict ds, h => by simp only [PyData.showable]; exact showXk ds (by simpa [fitX] using h)
theorem showXs : ∀ ds : List PyData, fitXs ds = true → PyData.showableAll ds = true
  | [], _ => by simp only [PyData.showableAll]
  | d :: r, h => by
    simp only [fitXs, Bool.and_eq_true] at h
    simp only [PyData.showableAll, showX d h.1, showXs r h.2, Bool.and_self]
theorem showXk : ∀ ds : List (PyData × PyData), fitXk ds = true → PyData.showableKv ds = true
  | [], _ => by simp only [PyData.showableKv]
  | (k, d) :: r, h => by
    simp only [fitXk, Bool.and_eq_true] at h
    simp only [PyData.showableKv, showX k h.1.1, showX d h.1.2, showXk r h.2, Bool.and_self]
end
section
variable {X : Cx} {L : Lk} {M : Cs} {Q : Sl → Cs → Prop}
/-- repr of a list, a tuple, a dict -/
theorem k_showX {s : Sl} {d : PyData} (h : IsX M s d) (hb : isBox d = true) (fit : fitX d = true) (wt : wtX d ≤ 20000) (dp : d.depth ≤ 60) (q : Q (.d (.str d.shown)) M) : RCk X.K L (rShowX X.K) [s] M Q := fun G H vs Q' g a k => by
  obtain ⟨v, rfl, a1⟩ := sl1 a
  have x := IsX.dx g h a1
  have sz := shownX_le d fit
  have sl : (10 ^ 7 : Nat) ≤ sizeLine := by rw [sizeLine_eq]; decide
  have isr : ∃ p, v = .ref p := by
    cases x with
    | lst => exact ⟨_, rfl⟩
    | tup => exact ⟨_, rfl⟩
    | dic => exact ⟨_, rfl⟩
    | _ => cases hb
  obtain ⟨p, e⟩ := isr
  subst e
  exact ⟨p, d, rfl, x, showX d fit, dp, by omega, k.go q g (.d (.str _))⟩
end
/-- the law's own call, where its promise is asked only with no repr under way -/
theorem calm_lawS {P : Program} {w : World} {K : PySem.W.Frag} {mg mb : Str → Option Value} {k : Nat} {fa a : Addr} {fd : FuncData} {x : Str} {R : Rr} {t : Shared} {vs : List Value} {ns : List Int}
    (inK : K.In t.heap) (hns : t.heap.Ns mainGlobals mg) (hnb : t.heap.Ns builtinsNs mb) (hbb : ∀ y : Str, y ≠ "__name__" → mb y = bootBuiltins y) (noL : t.heap.NoLimit) (noGen : t.gens = #[])
    (hobj : t.heap.get? a = some { cls := .type "list", data := .seq vs.toArray }) (hin : IntsAre vs ns) (hlen : ns.length ≤ sizeLine) (room : Room k callerA)
    (hsys : Sys t.heap) (F : ∀ base : Heap, K.In base → base.Ns mainGlobals mg → Sys base → Calm P w K mg base k fa fd [x] (Spk K R)) (hbd : ∀ (s : Shared) (u : Value), BindsTo s fd ⟨[u], []⟩ [(x, u)])
    (prom : ∀ H : Hp, Only H → SqL K H a (ns.map V.int) → Spk K R [.ref a] H (fun v _ => v = .bl true) fun _ _ _ => False) :
    codeAny (model P w) callerA (.call (.ref fa) ⟨[.ref a], []⟩) (fun o t' => o = .ok (.ret (.bool true)) ∧ OldK t.heap t'.heap ∧ t'.os = t.os ∧ AllBare t'.gens) t := by
  have rv := vals_ints hin
  have lv := hin.length
  obtain ⟨H, ho, hS, hok, hA, hK⟩ : ∃ H : Hp, Only H ∧ SqL K H a (ns.map V.int) ∧ HOk P w H t.heap ∧ (∀ b, H b ≠ none → b = a) ∧ (H a ≠ none → K.lookup a = none) := by
    cases hk : K.lookup a with
    | some o =>
      have z := (inK a o hk).symm.trans hobj
      cases z
      exact ⟨fun _ => none, fun _ => .inl rfl, .inr ⟨_, vs.toArray, _, hk, rfl, rfl, rfl, by rw [List.size_toArray, lv]; exact hlen, by simpa using rv⟩, fun _ _ z => (nomatch z), fun _ z => absurd rfl z, fun z => absurd rfl z⟩
    | none =>
      have at1 : ∀ {b : Addr} {u : HO}, (if b = a then some (HO.frz { cls := .type "list", data := .seq vs.toArray } (.lst (ns.map V.int))) else none) = some u → b = a ∧ HO.frz { cls := .type "list", data := .seq vs.toArray } (.lst (ns.map V.int)) = u := fun {b u} z => by
        by_cases hb : b = a
        · rw [if_pos hb] at z
          exact ⟨hb, Option.some.inj z⟩
        · rw [if_neg hb] at z
          cases z
      refine ⟨fun b => if b = a then some (.frz { cls := .type "list", data := .seq vs.toArray } (.lst (ns.map V.int))) else none, fun b => ?_, .inl (.inr ⟨_, if_pos rfl⟩), fun b u z => ?_, fun b z => ?_, fun _ => rfl⟩
      · rcases Decidable.em (b = a) with hb | hb
        · exact .inr ⟨_, _, if_pos hb⟩
        · exact .inl (if_neg hb)
      · obtain ⟨rfl, rfl⟩ := at1 z
        exact ⟨hobj, by rw [List.length_map]; exact hlen, vs, _, rv, hobj⟩
      · rcases Decidable.em (b = a) with hb | hb
        · exact hb
        · exact absurd (if_neg hb) z
  have seqNo : ∀ {b : Addr} {o : Obj} {es : Array DictEntry} {ep : Nat}, t.heap.get? b = some o → o.data = .dict es ep → H b = none := fun {b o es ep} z d => by
    cases q : H b with
    | none => rfl
    | some u =>
      have zb : b = a := hA b (by rw [q]; exact fun y => (nomatch y))
      rw [zb, hobj] at z
      cases z
      exact absurd d fun y => (nomatch y)
  have inB : ∀ {b : Addr} {m : Str → Option Value}, t.heap.Ns b m → (hidT t.heap H).Ns b m := fun ⟨o, es, ep, z, d, r⟩ => ⟨o, es, ep, hidT_get z (seqNo z d), d, r⟩
  have kB : K.In (hidT t.heap H) := fun b o z => hidT_get (inK b o z) (by
    cases q : H b with
    | none => rfl
    | some u =>
      have zb : b = a := hA b (by rw [q]; exact fun y => (nomatch y))
      rw [zb, hK (by rw [← zb, q]; exact fun y => (nomatch y))] at z
      cases z)
  have md : Mod K mg (hidT t.heap H) := ⟨kB, inB hns, ⟨mb, inB hnb, hbb⟩, noL.elim fun mc z => ⟨mc, inB z.1, z.2⟩⟩
  have e0 : Env0 P w K mg (hidT t.heap H) callerA [] t H := ⟨rfl, md, fun b o z => of_hidT z, Nat.le_of_eq (hidT_size _ _), trivial, fun b hb => (nomatch hb), hok, .of_eq noGen⟩
  have main := (F _ kB (inB hns) (hsys.elim fun mm z => ⟨mm, inB z⟩)).go callerA [] t H ⟨[.ref a], []⟩ [.ref a] [.ref a] _ _ room rfl e0 (hbd t (.ref a)) (.cons rfl .nil) (prom H ho hS)
  refine codeAny_mono main fun o t' h => ?_
  cases o with
  | error e => exact h.elim
  | ok fl =>
    cases fl with
    | next => exact h.elim
    | brk => exact h.elim
    | cont => exact h.elim
    | ret u =>
      obtain ⟨v, H', os, bare, un, hok', rl, qv⟩ := h
      cases (show v = .bl true from qv)
      cases (show u = Value.bool true from rl)
      refine ⟨rfl, OldK.of_keep fun b o z => ?_, os, bare⟩
      cases q : H b with
      | none => exact un.keep b o z q (fun y => (nomatch y)) (fun y => (nomatch y))
      | some u =>
        rcases ho b with y | ⟨ob, xs, y⟩
        · rw [q] at y
          cases y
        · obtain ⟨z1, _⟩ := hok b _ y
          obtain ⟨z2, _⟩ := hok' b _ (un.frzs b ob _ y)
          rw [z] at z1
          cases z1
          exact z2
theorem walk_calmS {l : PySem.W.OpenLaw} {n k : Nat} {q : Program} {loose : List Str} {XP : (Str → Option Value) → Heap → Prop} {YP : World → Heap → Prop} {d : DefRec} {K : Params → PySem.W.Frag} {R : Rr} {x : Str}
    (hmost : l.most = some n) (hle : n ≤ sizeLine) (hdef : d.params.defaults = []) (himp : importsNone q = true) (room : Room k callerA) (hY : ∀ (w : World) (h : Heap), YP w h → (K w.params).In h)
    (F : ∀ (w : World) (mg : Str → Option Value) (fa : Addr) (h : Heap), (K w.params).In h → h.Ns mainGlobals mg → mg d.name = some (.ref fa) →
      ∃ fd : FuncData, (∀ (s : Shared) (u : Value), BindsTo s fd ⟨[u], []⟩ [(x, u)]) ∧ ∀ base : Heap, (K w.params).In base → base.Ns mainGlobals mg → Sys base → Calm l.prog w (K w.params) mg base k fa fd [x] (Spk (K w.params) R))
    (prom : ∀ (w : World) (H : Hp) (a : Addr) (ns : List Int), ns.length ≤ n → Only H → SqL (K w.params) H a (ns.map V.int) → Spk (K w.params) R [.ref a] H (fun v _ => v = .bl true) fun _ _ _ => False) :
    PySem.W.WalkO q loose XP YP l.row.toRowW d [] (fun f vs => PySem.call f vs) := by
  refine Att.attach_call hmost hdef fun w t0 t mg mb fa o pm cd doc a vs ns G y ho hd hcd hmg hobj hin hlen noGen => ?_
  obtain ⟨fd, hbd, hF⟩ := F w mg fa _ (hY w _ y) G.T.g hmg
  exact calm_lawS (hY w _ y) G.T.g G.T.b G.T.builtins G.T.nolimit noGen hobj hin (Nat.le_trans hlen hle) room ((G.T.seer himp).mods.elim fun mm z => ⟨mm, z.1⟩) hF hbd fun H ho hS => prom w H a ns hlen ho hS
end Y

/-! list(range(a, b)) of ints of any size -/
namespace PySem
section
variable {pr : Program} {wd : World} {Ar : Around} {Er : Value → Shared → Prop} {sh : Shared} {ra : Addr} {lo hi st : Int} {ta tb tc : Tok} {m : Nat}
abbrev lriObj (lo hi st : Int) : Obj := { cls := .type "longrange_iterator", data := .fields #[rawInt lo, rawInt (Builtin.Range.rangeSize lo hi st), rawInt st] }
theorem ylr_extend {R : Result → Shared → Prop} (hd : Ar.handled = none) (ir : IsRange sh.heap ra lo hi st ta tb tc) (big : Builtin.Range.small lo hi st = false) (sz : Builtin.Range.rangeSize lo hi st = m) (le : m ≤ 2 ^ 24) (l : Addr) (res : Value) (k0 : Nat)
    (isl : sh.heap.get? l = some { cls := .type "list", data := .seq #[] k0 })
    (done : ∀ h1 tk ac k1, (∀ z o, z ≠ l → sh.heap.get? z = some o → h1.get? z = some o) → h1.get? l = some { cls := .type "list", dict := none, data := .seq ac k1, slots := #[] } → ItemsOf (fun j v => ∃ t, v = .int (lo + j * st) t) ac m → R (.ok (.ret res)) { sh with heap := h1, toks := tk }) :
    wpAny (model pr wd) Ar.in1 (Builtin.List.listExtendWith (.ref l) (.ref ra) res) (fun fin t => match fin with | .done f => R (.ok f) t | .again c' => c'.quiet = true ∧ codeAny (model pr wd) Ar c' R t) (fun e t => R (.error e) t) sh := by
  have n1 : l ≠ ra := by intro e; rw [e, ir] at isl; simp at isl
  have n2 : l ≠ sh.heap.objs.size := Nat.ne_of_lt (Heap.lt_size isl)
  have n3 : l ∉ [sh.heap.objs.size] := by intro z; exact n2 (List.mem_singleton.mp z)
  have loop : ∀ (h : Heap) (k1 tk : Nat), IsLongIter h sh.heap.objs.size (lo + ((0 : Nat) : Int) * st) ((m : Int) - ((0 : Nat) : Int)) st → (∀ z o, z ≠ l → sh.heap.get? z = some o → h.get? z = some o) → h.get? l = some { cls := .type "list", data := .seq #[] k1 } →
      codeAny (model pr wd) Ar (.builtin "list.extend.loop" ⟨[.ref l, .ref sh.heap.objs.size, res], []⟩) R { sh with heap := h, toks := tk } := by
    intro h k1 tk it kp il
    refine codeAny_extend_loopS ((Walks.longrange (prog := pr) (w := wd) (A := Ar.in1) hd sh.heap.objs.size lo st m).toS) (by have := sizeLine_eq; omega) l n3 res m 0 _ #[] k1 rfl (Nat.zero_le _) it il (ItemsOf.nil _) ?_
    intro t ac k2 mv il2 its
    rw [Moved.eq_with mv]
    refine done t.heap t.toks ac k2 ?_ il2 its
    intro z o nz e
    refine mv.heap z o ?_ (kp z o nz e)
    intro hm
    rcases List.mem_cons.mp hm with y | y
    · exact nz y
    · have := Heap.lt_size e
      rw [List.mem_singleton.mp y] at this
      exact Nat.lt_irrefl _ this
  unfold Builtin.List.listExtendWith
  refine wpAny_bind (wpAny_typeOf (T := "range") ⟨_, ir, rfl⟩ ?_)
  have e1 : Builtin.List.listSameRef (.ref l) (.ref ra) = false := by simp [Builtin.List.listSameRef, n1]
  simp only [e1, show (Value.type "range" == Value.type "list") = false from by decide, show (Value.type "range" == Value.type "tuple") = false from by decide, Bool.or_false, Bool.false_eq_true, if_false]
  refine wpAny_bind (wpAny_pyIter_longrange ir big (wpAny_bind (wpAny_holding (wpAny_hint_range (n := m) (Heap.get?_push_of_some _ ir) sz le ?_))))
  have it0 : IsLongIter (sh.heap.push (lriObj lo hi st)) sh.heap.objs.size (lo + ((0 : Nat) : Int) * st) ((m : Int) - ((0 : Nat) : Int)) st := by
    show IsLongIter _ _ _ _ _
    have := Heap.get?_push_size sh.heap (o := lriObj lo hi st) rfl
    simp only [lriObj, sz] at this
    simpa [lriObj, sz] using this
  have il0 := Heap.get?_push_of_some (lriObj lo hi st) isl
  refine wpAny_ite_split (fun _ => ?_) (fun _ => wpAny_pure ⟨plainId_quiet F.plain_extend_loop _, loop _ k0 _ it0 (fun z o _ e => Heap.get?_push_of_some _ e) il0⟩)
  refine wpAny_bind (wpAny_rule (wpAny_bind ?_))
  show wpAny _ _ (updateSeq l (·.push .none) >>= fun _ => updateSeq l (·.pop)) _ _ _
  refine wpAny_bind (wpAny_updateSeq il0 rfl ?_)
  have il1 := Heap.get?_update_self (Obj.mapSeq (·.push Value.none)) il0 rfl
  refine wpAny_updateSeq (hz := by seq_fits) il1 rfl ?_
  have il2 := Heap.get?_update_self (Obj.mapSeq (·.pop)) il1 rfl
  have far : ∀ z o, z ≠ l → (sh.heap.push (lriObj lo hi st)).get? z = some o → (((sh.heap.push (lriObj lo hi st)).update l (Obj.mapSeq (·.push Value.none))).update l (Obj.mapSeq (·.pop))).get? z = some o :=
    fun z o nz e => (Heap.get?_update_other _ _ (Ne.symm nz)).trans ((Heap.get?_update_other _ _ (Ne.symm nz)).trans e)
  exact wpAny_pure ⟨plainId_quiet F.plain_extend_loop _, loop _ _ _ (far _ _ (Ne.symm n2) it0) (fun z o nz e => far z o nz (Heap.get?_push_of_some _ e)) il2⟩
theorem ylr_init {R : Result → Shared → Prop} (hd : Ar.handled = none) (ir : IsRange sh.heap ra lo hi st ta tb tc) (big : Builtin.Range.small lo hi st = false) (sz : Builtin.Range.rangeSize lo hi st = m) (le : m ≤ 2 ^ 24) (l : Addr) (isl : sh.heap.get? l = some { cls := .type "list", data := .seq #[] })
    (done : ∀ h1 tk ac k1, (∀ z o, z ≠ l → sh.heap.get? z = some o → h1.get? z = some o) → h1.get? l = some { cls := .type "list", dict := none, data := .seq ac k1, slots := #[] } → ItemsOf (fun j v => ∃ t, v = .int (lo + j * st) t) ac m → R (.ok (.ret .none)) { sh with heap := h1, toks := tk }) :
    wpAny (model pr wd) Ar.in1 (Builtin.«list.__init__» ⟨[.ref l, .ref ra], []⟩) (fun fin t => match fin with | .done f => R (.ok f) t | .again c' => c'.quiet = true ∧ codeAny (model pr wd) Ar c' R t) (fun e t => R (.error e) t) sh := by
  have n1 : ra ≠ l := by intro e; rw [← e, ir] at isl; simp at isl
  show wpAny _ _ (do let old ← Builtin.List.listItems (.ref l); Builtin.List.listUpdate (.ref l) (fun _ => #[]); letGo old.toList.reverse; Builtin.List.listExtendWith (.ref l) (.ref ra) .none) _ _ sh
  refine wpAny_bind ?_; unfold Builtin.List.listItems; refine wpAny_bind (wpAny_seqItems isl rfl (wpAny_pure ?_))
  show wpAny _ _ (updateSeq l (fun _ => #[]) >>= fun _ => letGo (#[] : Array Value).toList.reverse >>= fun _ => Builtin.List.listExtendWith (.ref l) (.ref ra) .none) _ _ sh
  refine wpAny_bind (wpAny_updateSeq isl rfl (wpAny_bind (wpAny_letGo ?_)))
  have far : ∀ z o, z ≠ l → sh.heap.get? z = some o → (sh.heap.update l (Obj.mapSeq (fun _ => (#[] : Array Value)))).get? z = some o := fun z o nz e => (Heap.get?_update_other _ _ (Ne.symm nz)).trans e
  refine ylr_extend hd (far _ _ n1 ir) big sz le l .none _ (Heap.get?_update_self (Obj.mapSeq (fun _ => (#[] : Array Value))) isl rfl) ?_
  intro h1 tk ac k1 kp il its
  exact done h1 tk ac k1 (fun z o nz e => kp z o nz (far z o nz e)) il its
theorem ylr_call {Q : Value → Shared → Prop} (hd : Ar.handled = none) (ir : IsRange sh.heap ra lo hi st ta tb tc) (big : Builtin.Range.small lo hi st = false) (sz : Builtin.Range.rangeSize lo hi st = m) (le : m ≤ 2 ^ 24)
    (done : ∀ h1 tk ac k1, (∀ z o, sh.heap.get? z = some o → h1.get? z = some o) → h1.get? sh.heap.objs.size = some { cls := .type "list", dict := none, data := .seq ac k1, slots := #[] } → ItemsOf (fun j v => ∃ t, v = .int (lo + j * st) t) ac m → Q (.ref sh.heap.objs.size) { sh with heap := h1, toks := tk }) :
    wpAny (model pr wd) Ar (call (.type "list") [.ref ra]) Q Er sh := by
  refine callType_codes (Q₁ := fun x t => x = .ref sh.heap.objs.size ∧ t = { sh with heap := sh.heap.push { cls := .type "list", data := .seq #[] } }) F.called_list (F.typeCall_list_1 _) F.entry_list_init (code_list_new _ ⟨rfl, rfl⟩) ?_
  rintro x t ⟨rfl, rfl⟩
  have isl := Heap.get?_push_size sh.heap (o := { cls := .type "list", data := .seq #[] }) rfl
  refine ⟨⟨_, isl, rfl⟩, F.args_list_init_2 _ _, ylr_init (Ar := Ar.in1) hd (Heap.get?_push_of_some _ ir) big sz le _ isl ?_⟩
  intro h1 tk ac k1 kp il its
  exact ⟨rfl, done h1 tk ac k1 (fun z o e => kp z o (Nat.ne_of_lt (Heap.lt_size e)) (Heap.get?_push_of_some _ e)) il its⟩
end
end PySem
namespace Y
open PySem L2 PyProof.Rows
section
variable {X : Cx} {L : Lk} {τ : List (Option Sl)} {M : Cs} {Q : Sl → Cs → Prop} {a b : Expr} {p p2 pos pos2 : Pos} {QJ : QI} {tg : Expr}
def rgI (i j : Int) : List Sl := (List.range (j - i).toNat).map fun k => dI (i + (k : Nat))
theorem rg_sl {K : PySem.W.Frag} {G : Hp} (i j : Int) : SlL K G (rgV i j) (rgI i j) := by
  unfold rgV rgI
  have gen : ∀ l : List Nat, SlL K G (l.map fun k => V.int (i + (k : Nat))) (l.map fun k => dI (i + (k : Nat))) := by
    intro l
    induction l with
    | nil => exact .nil
    | cons x r ih => exact .cons (.d (.int _)) ih
  exact gen _
def tLstRgL (te : L2.St → Hp → (Int → Int → Hp → Prop) → Prop) : TE := fun σ H Q => te σ H fun i j H1 => (j - i).toNat ≤ 2 ^ 24 ∧ ∀ q, H1 q = none → Q (.ref q) (upd H1 q (.lst (rgV i j)))
theorem pe_listRgL {e : Expr} {te : L2.St → Hp → (Int → Int → Hp → Prop) → Prop} (hc : X.calm = true) (hg : Gl X "list") (hm : X.mg "list" = none) (he : PRg X e te) (na : starEach [e] X.env = (false, eval e X.env) :: starEach [] X.env := by rfl) : PE X (.Call (.Name "list" p) [e] [] pos) (tLstRgL te) := by
  refine ⟨fun pins s σ H Q I h => ?_⟩
  refine Call_ (ld_blt I hg hm boot_list (PyProof.Rows.callWith_type1 (args_cons (thn (he pins s σ H _ I h) fun x s1 ⟨r, i, j, t, u, v, H1, ex, hr, I1, le, q⟩ => args_nil ?_) na) na))
  subst ex
  have fin : ∀ h1 tk ac k1, (∀ z o, s1.heap.get? z = some o → h1.get? z = some o) → h1.get? s1.heap.objs.size = some { cls := .type "list", dict := none, data := .seq ac k1, slots := #[] } → ItemsOf (fun m v => ∃ t, v = .int (i + m * 1) t) ac (j - i).toNat → EP X pins σ Q (.ref s1.heap.objs.size) { s1 with heap := h1, toks := tk } := by
    intro h1 tk ac k1 kp il its
    refine ⟨.ref s1.heap.objs.size, upd H1 s1.heap.objs.size (.lst (rgV i j)), I1.laid kp (Nat.le_refl _) (show ObjOk X.prog X.w _ _ _ (.lst (rgV i j)) from ⟨by rw [rgV_length, sizeLine_eq]; omega, ac.toList, k1, vals_rg its, by rw [Array.toArray_toList]; exact il⟩), rfl, q _ (I1.hok.fresh (Nat.le_refl _))⟩
  cases sm : Builtin.Range.small i j 1 with
  | true => exact call_list_range (n := (j - i).toNat) (I1.ok.hd hc) hr sm (rangeSize_nat i j) le fin
  | false => exact ylr_call (m := (j - i).toNat) (I1.ok.hd hc) hr sm (rangeSize_nat i j) le fin
/-- list(range(a, b)) -/
theorem de_listRg (hc : X.calm = true) (hg : Gl X "list") (hm : X.mg "list" = none) (hg2 : Gl X "range") (hm2 : X.mg "range" = none) (w : DE X L a τ M fun s M1 => DE X L b τ M1 fun t M2 => ∃ i j : Int, s = dI i ∧ t = dI j ∧ (j - i).toNat ≤ 2 ^ 24 ∧ ∀ q, M2 q = none → Q (.c q) (updC M2 q (.l (rgI i j))))
    (na : starEach [.Call (.Name "range" p2) [a, b] [] pos2] X.env = (false, eval (.Call (.Name "range" p2) [a, b] [] pos2) X.env) :: starEach [] X.env := by rfl) (nb : starEach [a, b] X.env = (false, eval a X.env) :: starEach [b] X.env := by rfl) (nc : starEach [b] X.env = (false, eval b X.env) :: starEach [] X.env := by rfl) (nd : (backTo pos2 (starEach [b] X.env)).any (·.1) = false := by rfl) :
    DE X L (.Call (.Name "list" p) [.Call (.Name "range" p2) [a, b] [] pos2] [] pos) τ M Q := by
  refine de_of (pe_listRgL hc hg hm (prg_2 hg2 hm2 pe_s pe_s nb nc nd) na) fun σ G H Q' gs gm k => ?_
  refine w σ G H _ gs gm fun s M1 v G1 H1 q e1 g1 a1 => q σ G1 H1 _ (gs.mono e1) g1 ?_
  rintro t M2 u G2 H2 ⟨i, j, es, et, le, q2⟩ e2 g2 a2
  subst es et
  refine ⟨i, j, sl_int (a1.mono e2), sl_int a2, le, fun c hc => ?_⟩
  exact k _ _ _ _ _ (q2 c (g2.free hc).2) (e1.trans e2) (g2.newC hc ⟨_, upd_same, rg_sl i j⟩) (.c c)
end
end Y

namespace Y
open PySem L2 PyProof.Rows
section
variable {X : Cx} {L : Lk} {τ : List (Option Sl)} {M : Cs} {Q : Sl → Cs → Prop} {e iter tg : Expr} {p pos : Pos} {QJ : QI}
/-- reversed(xs) -/
theorem di_rev (hg : Gl X "reversed") (hm : X.mg "reversed" = none) (w : DE X L iter τ M fun s M1 => ∃ ss, seqOf M1 s = some ss ∧ QJ ss.length (fun M' => seqOf M' s = some ss) (fun i y => ss[ss.length - 1 - i]? = some y) M1)
    (hs : starEach [iter] X.env = (false, eval iter X.env) :: starEach [] X.env := by rfl) : DI X L tg (.Call (.Name "reversed" p) [iter] [] pos) τ M QJ := fun σ G H R gs gm k => by
  refine i_of (RT.pi_revA hg hm pe_s hs) ?_
  show sE X iter σ H (fun v H1 => ∃ (a : Addr) (xs : List V), v = .ref a ∧ ((SqL X.K H1 a xs ∧ R (Itv X.K a xs.length) H1) ∨ (SqT X.K H1 a xs ∧ R (RT.ItvT X.K a xs.length) H1)))
  refine w σ G H _ gs gm ?_
  rintro s M1 v G1 H1 ⟨ss, hs, q⟩ e1 g1 a1
  obtain ⟨p, xs, rfl, r, l⟩ := seq_at g1 a1 hs
  refine ⟨p, xs, rfl, ?_⟩
  have len0 := l.len
  cases hT : isTup s with
  | false =>
    rw [hT, if_neg Bool.false_ne_true] at r
    refine .inl ⟨r, k _ _ _ M1 G1 H1 _ q e1 g1 ⟨fun M' G' H' sM e' g' => Nat.le_of_eq len0, fun i M' G' H' hi sM e' g' => ?_⟩⟩
    obtain ⟨p', xs', ep, r', l'⟩ := seq_at g' (a1.mono e') sM
    cases ep
    rw [hT, if_neg Bool.false_ne_true] at r'
    have hj : ss.length - 1 - i < ss.length := by omega
    obtain ⟨v, hv, av⟩ := l'.get (List.getElem?_eq_getElem hj)
    rw [len0]
    refine ⟨⟨hi, xs', v, r', hv⟩, fun x H2 hy => ?_⟩
    obtain ⟨rfl, f⟩ := hy
    have ex := Option.some.inj ((f _ r').symm.trans hv)
    subst ex
    exact ⟨_, G', List.getElem?_eq_getElem hj, Ex.refl _, g', av⟩
  | true =>
    rw [hT, if_pos rfl] at r
    refine .inr ⟨r, k _ _ _ M1 G1 H1 _ q e1 g1 ⟨fun M' G' H' sM e' g' => Nat.le_of_eq len0, fun i M' G' H' hi sM e' g' => ?_⟩⟩
    obtain ⟨p', xs', ep, r', l'⟩ := seq_at g' (a1.mono e') sM
    cases ep
    rw [hT, if_pos rfl] at r'
    have hj : ss.length - 1 - i < ss.length := by omega
    obtain ⟨v, hv, av⟩ := l'.get (List.getElem?_eq_getElem hj)
    rw [len0]
    refine ⟨⟨hi, xs', v, r', hv⟩, fun x H2 hy => ?_⟩
    obtain ⟨rfl, f⟩ := hy
    have ex := Option.some.inj ((f _ r').symm.trans hv)
    subst ex
    exact ⟨_, G', List.getElem?_eq_getElem hj, Ex.refl _, g', av⟩
theorem SlL.rev {K : PySem.W.Frag} {G : Hp} : ∀ {vs : List V} {ss : List Sl}, SlL K G vs ss → SlL K G vs.reverse ss.reverse
  | _, _, .nil => .nil
  | _, _, .cons a b => by
    rw [List.reverse_cons, List.reverse_cons]
    exact (SlL.rev b).append (.cons a .nil)
/-- xs[::-1], a list -/
theorem de_rev {k : Nat} {p1 p2 p3 : Pos} (w : DE X L e τ M fun s M1 => ∃ ss, isTup s = false ∧ seqOf M1 s = some ss ∧ ∀ q, M1 q = none → Q (.c q) (updC M1 q (.l ss.reverse))) : DE X L (.Subscript e (.Slice none none (some (.UnaryOp .USub (.Constant (.int 1) k p1) p2)) p3) pos) τ M Q :=
  de_of (pe_revL pe_s) fun σ G H Q' gs gm kk => w σ G H _ gs gm fun s M1 v G1 H1 ⟨ss, hT, h, q⟩ e1 g1 a1 => by
    obtain ⟨p, xs, rfl, r, l⟩ := seq_at g1 a1 h
    rw [hT, if_neg Bool.false_ne_true] at r
    exact ⟨p, xs, rfl, r, fun c hc => kk _ _ _ G1 _ (q c (g1.free hc).2) e1 (g1.newC hc ⟨_, upd_same, l.rev⟩) (.c c)⟩
/-! dict of pairs -/
def mergeS (kvs more : List (Key × Sl)) : List (Key × Sl) := more.foldl (fun acc kv => putS acc kv.1 kv.2) kvs
theorem KvAt.merge {K : PySem.W.Frag} {G : Hp} : ∀ {more : List (Key × V)} {ms : List (Key × Sl)} {xs : List (Key × V)} {ys : List (Key × Sl)}, KvAt K G more ms → KvAt K G xs ys → KvAt K G (mergeK xs more) (mergeS ys ms)
  | [], [], _, _, _, h => h
  | (k, v) :: ps, (k2, s) :: qs, _, _, ⟨e, a, t⟩, h => by
    have e' : k = k2 := e
    subst e'
    exact KvAt.merge (more := ps) (ms := qs) t (KvAt.put a h)
  | [], _ :: _, _, _, h, _ => h.elim
  | _ :: _, [], _, _, h, _ => h.elim
def prD (kv : Key × PyData) : Sl := .d (.tuple [kD kv.1, kv.2])
theorem pairs_at {K : PySem.W.Frag} {L : Lk} {M : Cs} {G H : Hp} (g : GoodM K L M G H) : ∀ {kd : List (Key × PyData)} {xs : List V}, SlL K G xs (kd.map prD) → ∃ (ps : List Addr) (kvs : List (Key × V)), xs = ps.map V.ref ∧ Paired (fun p kv => SqT K H p [kV kv.1, kv.2]) ps kvs ∧ KvAt K G kvs (slK kd)
  | [], xs, h => by
    cases h
    exact ⟨[], [], rfl, .nil, trivial⟩
  | (k, d) :: r, xs, h => by
    rw [List.map_cons] at h
    cases h with
    | cons a b =>
      obtain ⟨ps, kvs, rfl, hp, hk⟩ := pairs_at g b
      cases a with
      | d a =>
        cases a with
        | @tup q _ _ e l =>
          cases l with
          | @cons vk _ _ _ a1 l =>
            cases l with
            | @cons vd _ _ _ a2 l =>
              cases l
              have ek : vk = kV k := by
                cases k with
                | inl i => cases a1; rfl
                | inr x => cases a1; rfl
              subst ek
              exact ⟨q :: ps, (k, vd) :: kvs, rfl, .cons (.inl (g.rd e)) hp, rfl, .d a2, hk⟩
theorem k_dictP {s : Sl} {kd : List (Key × PyData)} (hT : isTup s = false) (h : seqOf M s = some (kd.map prD)) (q : ∀ p, M p = none → Q (.c p) (updC M p (.k (mergeS [] (slK kd))))) :
    RCk X.K L (fun xs H Q => ∃ (a : Addr) (ps : List Addr) (kvs : List (Key × V)), xs = [.ref a] ∧ SqL X.K H a (ps.map V.ref) ∧ Paired (fun p kv => SqT X.K H p [kV kv.1, kv.2]) ps kvs ∧ ∀ p, H p = none → Q (.ref p) (upd H p (.dK (mergeK [] kvs)))) [s] M Q := fun G H vs Q' g a k => by
  obtain ⟨v, rfl, a1⟩ := sl1 a
  obtain ⟨p, xs, rfl, r, l⟩ := seq_at g a1 h
  rw [hT, if_neg Bool.false_ne_true] at r
  obtain ⟨ps, kvs, rfl, hp, hk⟩ := pairs_at g l
  exact ⟨p, ps, kvs, rfl, r, hp, fun c hc => k _ _ _ G _ (q c (g.free hc).2) (Ex.refl G) (g.newC hc ⟨_, upd_same, KvAt.merge hk trivial⟩) (.c c)⟩
theorem putS_new {kvs : List (Key × Sl)} {k : Key} {v : Sl} (h : k ∉ kvs.map (·.1)) : putS kvs k v = kvs ++ [(k, v)] := by
  unfold putS
  rw [if_neg]
  intro z
  obtain ⟨p, hp, e⟩ := List.any_eq_true.mp z
  exact h (List.mem_map.mpr ⟨p, hp, of_decide_eq_true e⟩)
theorem mergeS_nodup : ∀ (more kvs : List (Key × Sl)), ((kvs ++ more).map (·.1)).Nodup → mergeS kvs more = kvs ++ more
  | [], kvs, _ => by rw [List.append_nil]; rfl
  | (k, v) :: r, kvs, h => by
    have h1 : k ∉ kvs.map (·.1) := by
      rw [List.map_append, List.map_cons] at h
      have := (List.nodup_append.mp h).2.2
      intro z
      exact this k z k List.mem_cons_self rfl
    show mergeS (putS kvs k v) r = _
    rw [putS_new h1, mergeS_nodup r _ (by rw [List.append_assoc]; exact h), List.append_assoc]
    rfl
end
end Y

namespace Y
open PySem L2 PyProof.Rows
/-! ### a dict cell, seen as data while a call runs -/
mutual
def ndD : PyData → Bool
  | .list ds => ndDs ds
  | .tuple ds => ndDs ds
  | .dict _ => false
  | _ => true
def ndDs : List PyData → Bool
  | [] => true
  | d :: r => ndD d && ndDs r
end
mutual
def ndS : Sl → Bool
  | .d x => ndD x
  | .u ss => ndSs ss
  | _ => true
def ndSs : List Sl → Bool
  | [] => true
  | s :: r => ndS s && ndSs r
end
def ndK : List (Key × Sl) → Bool
  | [] => true
  | p :: r => ndS p.2 && ndK r
def ndC : Cell → Bool
  | .l ss => ndSs ss
  | .k kvs => ndK kvs
def ndM (M : Cs) : Prop := ∀ a c, M a = some c → ndC c = true
def delG (G : Hp) (a : Addr) : Hp := fun b => if b = a then none else G b
theorem delG_ne {G : Hp} {a b : Addr} (h : b ≠ a) : delG G a b = G b := by unfold delG; rw [if_neg h]
theorem delG_same {G : Hp} {a : Addr} : delG G a a = none := by unfold delG; rw [if_pos rfl]
section
variable {K : PySem.W.Frag} {G : Hp} {a : Addr} {xs : List (Key × V)}
theorem delG_keep {b : Addr} {o : HO} (ha : G a = some (.dK xs)) (h : G b = some o) (ho : ∀ ys, o ≠ .dK ys) : delG G a b = some o := by
  rw [delG_ne]
  · exact h
  · intro e
    subst e
    rw [ha] at h
    cases h
    exact ho _ rfl
mutual
theorem At.less (ha : G a = some (.dK xs)) : ∀ {v : V} {d : PyData}, At K G v d → ndD d = true → At K (delG G a) v d
  | _, _, .non, _ => .non
  | _, _, .bl b, _ => .bl b
  | _, _, .int i, _ => .int i
  | _, _, .str x, _ => .str x
  | _, _, .lst h l, n => .lst (delG_keep ha h fun _ => nofun) (AtL.less ha l (by simpa [ndD] using n))
  | _, _, .tup h l, n => .tup (delG_keep ha h fun _ => nofun) (AtL.less ha l (by simpa [ndD] using n))
  | _, _, .dic h l, n => by simp [ndD] at n
theorem AtL.less (ha : G a = some (.dK xs)) : ∀ {vs : List V} {ds : List PyData}, AtL K G vs ds → ndDs ds = true → AtL K (delG G a) vs ds
  | _, _, .nil, _ => .nil
  | _, _, .cons h l, n => by
    simp only [ndDs, Bool.and_eq_true] at n
    exact .cons (At.less ha h n.1) (AtL.less ha l n.2)
end
mutual
theorem SlAt.less (ha : G a = some (.dK xs)) : ∀ {v : V} {s : Sl}, SlAt K G v s → ndS s = true → SlAt K (delG G a) v s
  | _, _, .d h, n => .d (At.less ha h (by simpa [ndS] using n))
  | _, _, .c p, _ => .c p
  | _, _, .t m, _ => .t m
  | _, _, .u h l, n => .u (delG_keep ha h fun _ => nofun) (SlL.less ha l (by simpa [ndS] using n))
  | _, _, .s h, _ => .s (h.imp (fun z => delG_keep ha z fun _ => nofun) id)
theorem SlL.less (ha : G a = some (.dK xs)) : ∀ {vs : List V} {ss : List Sl}, SlL K G vs ss → ndSs ss = true → SlL K (delG G a) vs ss
  | _, _, .nil, _ => .nil
  | _, _, .cons h l, n => by
    simp only [ndSs, Bool.and_eq_true] at n
    exact .cons (SlAt.less ha h n.1) (SlL.less ha l n.2)
end
theorem KvAt.less (ha : G a = some (.dK xs)) : ∀ {vs : List (Key × V)} {ss : List (Key × Sl)}, KvAt K G vs ss → ndK ss = true → KvAt K (delG G a) vs ss
  | [], [], _, _ => trivial
  | _ :: _, _ :: _, ⟨e, h, l⟩, n => by
    simp only [ndK, Bool.and_eq_true] at n
    exact ⟨e, SlAt.less ha h n.1, KvAt.less ha l n.2⟩
  | [], _ :: _, h, _ => h.elim
  | _ :: _, [], h, _ => h.elim
theorem CellOk.less {H : Hp} {b : Addr} {c : Cell} (ha : G a = some (.dK xs)) (h : CellOk K G H b c) (n : ndC c = true) : CellOk K (delG G a) H b c := by
  cases c with
  | l ss => obtain ⟨ys, h1, h2⟩ := h; exact ⟨ys, h1, SlL.less ha h2 n⟩
  | k ss => obtain ⟨ys, h1, h2⟩ := h; exact ⟨ys, h1, KvAt.less ha h2 n⟩
theorem GoodM.less {L : Lk} {M : Cs} {H : Hp} {kvs : List (Key × Sl)} (g : GoodM K L M G H) (hL : NoDK L) (ha : G a = some (.dK xs)) (hk : KvAt K G xs kvs) (nM : ndM M) (nk : ndK kvs = true) : GoodM K L (updC M a (.k kvs)) (delG G a) H := by
  refine ⟨fun b o h => ?_, fun b c h => ?_, g.lk⟩
  · by_cases e : b = a
    · subst e
      rw [delG_same] at h
      cases h
    · rw [delG_ne e] at h
      exact g.vw b o h
  · by_cases e : b = a
    · subst e
      rw [updC_same] at h
      cases h
      exact ⟨delG_same, xs, lock_exact g hL ha, KvAt.less ha hk nk⟩
    · rw [updC_ne e] at h
      obtain ⟨h1, h2⟩ := g.cell b c h
      exact ⟨by rw [delG_ne e]; exact h1, CellOk.less ha h2 (nM b c h)⟩
end
/-- the arguments with one dict cell seen as data -/
def seeA (a : Addr) (d : PyData) : List Sl → List Sl := List.map fun s => match s with
  | .c b => if b = a then .d d else .c b
  | s => s
theorem SlL.see {K : PySem.W.Frag} {G : Hp} {a : Addr} {d : PyData} (h : At K G (.ref a) d) : ∀ {vs : List V} {ss : List Sl}, SlL K G vs ss → SlL K G vs (seeA a d ss)
  | _, _, .nil => .nil
  | _, _, .cons p l => by
    refine .cons ?_ (SlL.see h l)
    cases p with
    | c b =>
      show SlAt K G (.ref b) (if b = a then .d d else .c b)
      by_cases e : b = a
      · rw [if_pos e, e]; exact .d h
      · rw [if_neg e]; exact .c b
    | d x => exact .d x
    | t n => exact .t n
    | u x y => exact .u x y
    | s x => exact .s x
section
variable {X : Cx} {L : Lk} {τ : List (Option Sl)} {M : Cs} {Q : Sl → Cs → Prop} {e : Expr} {es : List Expr} {pos p : Pos}
/-- what is asked where a contract is used with the dict cell a seen as data -/
def View (L : Lk) (R : Rr) (a : Addr) (kd : List (Key × PyData)) (ss : List Sl) (M1 : Cs) (Q : Sl → Cs → Prop) : Prop :=
  NoDK L ∧ M1 a = some (.k (slK kd)) ∧ ndK (slK kd) = true ∧ R L (seeA a (.dict (encK kd)) ss) (delC M1 a) fun s M2 => M2 a = none → ∃ M3, Sub M3 M2 ∧ ndS s = true ∧ ndM M3 ∧ Q s (updC M3 a (.k (slK kd)))
theorem view_ret {K : PySem.W.Frag} {L : Lk} {R : Rr} {a : Addr} {kd : List (Key × PyData)} {ss : List Sl} {M1 : Cs} {Q : Sl → Cs → Prop} {G H : Hp} {vs : List V} {Q' : VK} (v : View L R a kd ss M1 Q) (g : GoodM K L M1 G H) (al : SlL K G vs ss) (k : Ret K L G Q Q') :
    ∃ (M G1 : _) (ss' : List Sl) (Q0 : Sl → Cs → Prop), GoodM K L M G1 H ∧ SlL K G1 vs ss' ∧ R L ss' M Q0 ∧ Ret K L G1 Q0 Q' := by
  obtain ⟨hL, ha, nk, r⟩ := v
  obtain ⟨f, xs, h1, h2⟩ := g.cell a _ ha
  have ex : Ex G (upd G a (.dK xs)) := Ex.new f
  have gm : GoodM K L (delC M1 a) (upd G a (.dK xs)) H := by
    refine ⟨fun b u e => ?_, fun b c e => ?_, g.lk⟩
    · by_cases hb : b = a
      · subst hb
        rw [upd_same] at e
        cases e
        exact .inl h1
      · rw [upd_ne hb] at e
        exact g.vw b u e
    · by_cases hb : b = a
      · subst hb
        rw [delC_same] at e
        cases e
      · rw [delC_ne hb] at e
        obtain ⟨z1, z2⟩ := g.cell b c e
        exact ⟨by rw [upd_ne hb]; exact z1, z2.mono ex fun o q => q⟩
  have ad : At K (upd G a (.dK xs)) (.ref a) (.dict (encK kd)) := .dic upd_same (AtK.mono ex (KvAt.at kd h2))
  refine ⟨_, _, _, _, gm, SlL.see ad (al.mono ex), r, ?_⟩
  intro s M2 v G2 H2 q0 e2 g2 a2
  have ha2 : G2 a = some (.dK xs) := e2 _ _ upd_same
  have no : M2 a = none := by
    cases z : M2 a with
    | none => rfl
    | some c =>
      have := (g2.cell a c z).1
      rw [ha2] at this
      cases this
  obtain ⟨M3, sb, ns, nm, q⟩ := q0 no
  refine k s _ v (delG G2 a) H2 q ?_ (GoodM.less (g2.sub sb) hL ha2 (KvAt.mono (ex.trans e2) h2) nm nk) (SlAt.less ha2 a2 ns)
  intro b o hb
  have hba : b ≠ a := by
    intro z
    subst z
    rw [f] at hb
    cases hb
  rw [delG_ne hba]
  exact e2 _ _ (ex _ _ hb)
theorem de_callV {R : Rr} {k : Nat} {ps : List Str} {x : Str} (a : Addr) (kd : List (Key × PyData)) (c : Cal X.prog X.w X.K X.mg X.base x k ps R) (hr : Room k X.A) (hg : Gl X x) (w : DA X L (e :: es) τ M fun ss M1 => View L R a kd ss M1 Q) (hdb : (x == ("__debug__" : Str)) = false := by decide)
    (he : starEach (e :: es) X.env = (false, eval e X.env) :: starEach es X.env := by rfl) (hpl : (backTo pos (starEach es X.env)).any (·.1) = false := by rfl) : DE X L (.Call (.Name x p) (e :: es) [] pos) τ M Q := by
  obtain ⟨f, fd, F, m, kp, b⟩ := c
  refine de_call (R := fun L ss M Q => View L R a kd ss M Q) ⟨fun vs H Q E h => ?_, fun B fr t H ar us vs Q E room e0 bd rel h => ?_⟩ hr hg m kp b w hdb he hpl
  · obtain ⟨L, M, G, ss, Q0, g, al, v, r⟩ := h
    obtain ⟨M1, G1, ss1, Q1, g1, a1, r1, q1⟩ := view_ret v g al r
    exact F.len vs H Q E ⟨L, M1, G1, ss1, Q1, g1, a1, r1, q1⟩
  · obtain ⟨L, M, G, ss, Q0, g, al, v, r⟩ := h
    obtain ⟨M1, G1, ss1, Q1, g1, a1, r1, q1⟩ := view_ret v g al r
    exact F.run B fr t H ar us vs Q E room e0 bd rel ⟨L, M1, G1, ss1, Q1, g1, a1, r1, q1⟩
theorem de_callVG {R : Rr} {k : Nat} {ps : List Str} {x : Str} (a : Addr) (kd : List (Key × PyData)) (c : CalG X.prog X.w X.K X.mg X.base x k ps R) (hr : Room k X.A) (noG : X.A.guards = some []) (hg : Gl X x) (w : DA X L (e :: es) τ M fun ss M1 => View L R a kd ss M1 Q) (hdb : (x == ("__debug__" : Str)) = false := by decide)
    (he : starEach (e :: es) X.env = (false, eval e X.env) :: starEach es X.env := by rfl) (hpl : (backTo pos (starEach es X.env)).any (·.1) = false := by rfl) : DE X L (.Call (.Name x p) (e :: es) [] pos) τ M Q := by
  obtain ⟨f, fd, F, m, kp, b⟩ := c
  refine de_callG (R := fun L ss M Q => View L R a kd ss M Q) ⟨f, fd, ⟨fun vs H Q E h => ?_, fun B fr t H ar us vs Q E room ng e0 bd rel h => ?_⟩, m, kp, b⟩ hr noG hg w hdb he hpl
  · obtain ⟨L, M, G, ss, Q0, g, al, v, r⟩ := h
    obtain ⟨M1, G1, ss1, Q1, g1, a1, r1, q1⟩ := view_ret v g al r
    exact F.cnt vs H Q E ⟨L, M1, G1, ss1, Q1, g1, a1, r1, q1⟩
  · obtain ⟨L, M, G, ss, Q0, g, al, v, r⟩ := h
    obtain ⟨M1, G1, ss1, Q1, g1, a1, r1, q1⟩ := view_ret v g al r
    exact F.go B fr t H ar us vs Q E room ng e0 bd rel ⟨L, M1, G1, ss1, Q1, g1, a1, r1, q1⟩
end
/-! which cells are kept -/
def keep (ps : List Addr) (M : Cs) : Cs := fun a => if a ∈ ps then M a else none
theorem keep_sub {ps : List Addr} {M : Cs} : Sub (keep ps M) M := fun a c h => by
  unfold keep at h
  split at h
  · exact h
  · cases h
theorem keep_in {ps : List Addr} {M : Cs} {a : Addr} (h : a ∈ ps) : keep ps M a = M a := by unfold keep; rw [if_pos h]
theorem keep_nd {ps : List Addr} {M : Cs} (h : ∀ a ∈ ps, ∃ c, M a = some c ∧ ndC c = true) : ndM (keep ps M) := fun a c e => by
  unfold keep at e
  split at e
  · next hm =>
    obtain ⟨c', h1, h2⟩ := h a hm
    rw [h1] at e
    cases e
    exact h2
  · cases e
section
variable {X : Cx} {L : Lk} {τ : List (Option Sl)} {M : Cs} {Q : Sl → Cs → Prop} {e1 e2 : Expr} {pos : Pos}
/-- {"x": i} -/
theorem de_dictSI {x : Str} {i : Int} {j1 j2} {p1 p2 : Pos} (q : ∀ p, M p = none → Q (.c p) (updC M p (.k (slK [(.inr x, .int i)])))) : DE X L (.Dict [some (.Constant (.str x) j1 p1)] [.Constant (.int i) j2 p2] pos) τ M Q :=
  de_of (pe_disp (pps_cons pe_str pe_int pps_nil) rfl rfl (by simp) (by simp)) fun σ G H Q' gs gm kk p hp => by
    refine ⟨upd_same, [(.inr x, .int i)], rfl, (by show 1 ≤ 15; decide), ?_⟩
    have e : upd (upd H p (.dK [])) p (.dK (mergeK [] [(.inr x, V.int i)])) = upd H p (.dK [(.inr x, V.int i)]) := by
      funext b
      by_cases hb : b = p
      · subst hb
        rw [upd_same, upd_same]
        rfl
      · rw [upd_ne hb, upd_ne hb, upd_ne hb]
    rw [e]
    have f := gm.free hp
    exact kk _ _ _ G _ (q p f.2) (Ex.refl G) (gm.newC hp ⟨[(.inr x, .int i)], upd_same, rfl, .d (.int i), trivial⟩) (.c p)
end
theorem ndDs_map {α : Type} (f : α → PyData) (h : ∀ x, ndD (f x) = true) : ∀ c : List α, ndDs (c.map f) = true
  | [] => by simp [ndDs]
  | x :: r => by rw [List.map_cons]; simp only [ndDs, h x, ndDs_map f h r, Bool.and_self]
theorem ndSs_map {α : Type} (f : α → Sl) (h : ∀ x, ndS (f x) = true) : ∀ c : List α, ndSs (c.map f) = true
  | [] => by simp [ndSs]
  | x :: r => by rw [List.map_cons]; simp only [ndSs, h x, ndSs_map f h r, Bool.and_self]
theorem nd_run (r : Run) : ndS (sRun r) = true := by simp [ndS, sRun, eRun, ndD, ndDs]
theorem nd_line (r : Line) : ndS (sLine r) = true := by simp [ndS, sLine, eLine, ndD, ndDs]
theorem nd_int (i : Int) : ndS (dI i) = true := by simp [ndS, dI, ndD]
theorem nd_str (x : Str) : ndS (dS x) = true := by simp [ndS, dS, ndD]
theorem nd_runs (c : List Run) : ndC (.l (c.map sRun)) = true := ndSs_map sRun nd_run c
theorem nd_ints (c : List Int) : ndC (.l (c.map dI)) = true := ndSs_map dI nd_int c
theorem nd_cnt : ∀ cs : Cnt, ndK (slK (kdC cs)) = true
  | [] => rfl
  | p :: r => by
    have ih := nd_cnt r
    unfold slK kdC at ih ⊢
    simp only [List.map_cons, ndK, ndS, ndD, ih, Bool.and_self]
end Y

namespace Y
open PySem L2 PyProof.Rows
/-! ### repr of data of any kind but texts; enumerate -/
def noTx : PyData → Bool
  | .str _ => false
  | _ => true
def rShowA (K : PySem.W.Frag) : List V → Hp → VK → Prop := fun xs H Q => ∃ (v : V) (d : PyData), xs = [v] ∧ DX K H v d ∧ noTx d = true ∧ d.showable = true ∧ d.depth ≤ 60 ∧ d.shown.length ≤ sizeLine ∧ Q (.str d.shown) H
theorem call_showA {X : Cx} (S : Sys X.base) (noG : X.A.guards = some []) (hu : X.A.units + 64 < cLine) : CallR X (.builtin "repr") (rShowA X.K) := by
  intro pins s σ H xs us Q I r h
  obtain ⟨v, d, rfl, hd, nt, sh, dp, sz, q⟩ := h
  obtain ⟨u, rfl, ru⟩ := vals1 r
  have box : ∀ a, v = .ref a → wpAny (model X.prog X.w) X.A (call (.builtin "repr") [u]) (EP X pins σ Q) X.xe s := by
    intro a e
    subst e
    cases ru
    obtain ⟨as, rd, nm⟩ := DX.reads I S hd (u := .ref a) rfl
    exact PySem.repr_of_reads' rd sh (fun _ => nm) noG (by omega) (fun _ _ z => z) (fun h' u tk hk => ⟨.str d.shown, H, I.kept (t' := tk) hk, ⟨u, rfl⟩, q⟩) sz
  cases hd with
  | non =>
    cases ru
    exact PySem.P.repr_of_none ⟨.str _, H, I.tok _, ⟨s.toks, by simp only [PyData.shown]⟩, q⟩
  | bl b =>
    cases ru
    exact PySem.P.repr_of_bool ⟨.str _, H, I.tok _, ⟨s.toks, by simp only [PyData.shown]⟩, q⟩
  | int i =>
    obtain ⟨t, rfl⟩ := ru
    have hz : i.natAbs.log2 < 1920 := by simpa [PyData.showable] using sh
    exact PySem.P.repr_of_int hz ⟨.str _, H, I.tok _, ⟨s.toks, by simp only [PyData.shown]⟩, q⟩
  | str x => cases nt
  | lst => exact box _ rfl
  | tup => exact box _ rfl
  | dic => exact box _ rfl
section
variable {X : Cx} {L : Lk} {τ : List (Option Sl)} {M : Cs} {Q : Sl → Cs → Prop} {e : Expr} {p pos : Pos} {QJ : QI}
theorem k_showA {s : Sl} {d : PyData} (h : IsX M s d) (nt : noTx d = true) (fit : fitX d = true) (wt : wtX d ≤ 20000) (dp : d.depth ≤ 60) (q : Q (.d (.str d.shown)) M) : RCk X.K L (rShowA X.K) [s] M Q := fun G H vs Q' g a k => by
  obtain ⟨v, rfl, a1⟩ := sl1 a
  have sz := shownX_le d fit
  have sl : (10 ^ 7 : Nat) ≤ sizeLine := by rw [sizeLine_eq]; decide
  exact ⟨v, d, rfl, IsX.dx g h a1, nt, showX d fit, dp, by omega, k.go q g (.d (.str _))⟩
/-- enumerate(xs), a list -/
theorem di_enum {elts : List Expr} {kk : Nat} {tpos : Pos} (hg : Gl X "enumerate") (hm : X.mg "enumerate" = none)
    (w : DE X L e τ M fun s M1 => ∃ xs, isTup s = false ∧ seqOf M1 s = some xs ∧ QJ xs.length (fun M' => seqOf M' s = some xs) (fun i y => ∃ a, xs[i]? = some a ∧ y = .u [dI (i : Nat), a]) M1)
    (hs : starEach [e] X.env = [(false, eval e X.env)] := by rfl) : DI X L (.Tuple elts kk tpos) (.Call (.Name "enumerate" p) [e] [] pos) τ M QJ := fun σ G H R gs gm k => by
  refine i_of (pi_enum hg hm (pa_cons pe_s pa_nil hs) hs) ?_
  show sE X e σ H (fun v H1 => ∃ a xs, [v] = [V.ref a] ∧ SqL X.K H1 a xs ∧ R (Ite X.K a) H1)
  refine w σ G H _ gs gm ?_
  rintro s M1 v G1 H1 ⟨us, hT, h1, q⟩ e1 g1 a1
  obtain ⟨pa, xs, rfl, ra, la⟩ := seq_at g1 a1 h1
  rw [hT, if_neg Bool.false_ne_true] at ra
  refine ⟨pa, xs, rfl, ra, k _ _ _ M1 G1 H1 _ q e1 g1 ⟨fun M' G' H' sM e' g' => ?_, fun i M' G' H' hi sM e' g' => ?_⟩⟩
  · obtain ⟨p1, xs1, ep, r1, l1⟩ := seq_at g' (a1.mono e') sM
    cases ep
    rw [hT, if_neg Bool.false_ne_true] at r1
    exact ⟨xs1, r1, Nat.le_of_eq l1.len⟩
  · obtain ⟨p1, xs1, ep, r1, l1⟩ := seq_at g' (a1.mono e') sM
    cases ep
    rw [hT, if_neg Bool.false_ne_true] at r1
    obtain ⟨v1, hv1, av1⟩ := l1.get (List.getElem?_eq_getElem hi)
    refine ⟨⟨xs1, v1, r1, hv1⟩, fun x H2 hy => ?_⟩
    obtain ⟨T, x1, rfl, nT, rfl, f1⟩ := hy
    have ex1 := Option.some.inj ((f1 _ r1).symm.trans hv1)
    subst ex1
    have fr := g'.free nT
    exact ⟨_, _, ⟨_, List.getElem?_eq_getElem hi, rfl⟩, Ex.new fr.1, g'.newD nT, .u upd_same (.cons (.d (.int _)) (.cons (av1.mono (Ex.new fr.1)) .nil))⟩
end
/-! ### a dict of counts that grows -/
def putC (cs : Cnt) (z : Str) (v : Int) : Cnt := if (cs.any fun p => decide (p.1 = z)) = true then cs.map (fun p => if p.1 = z then (p.1, v) else p) else cs ++ [(z, v)]
theorem putS_put (cs : Cnt) (z : Str) (v : Int) : putS (slK (kdC cs)) (.inr z) (dI v) = slK (kdC (putC cs z v)) := by
  have e : ((slK (kdC cs)).any fun kv => decide (kv.1 = Sum.inr z)) = cs.any fun p => decide (p.1 = z) := by
    unfold slK kdC
    rw [List.map_map, List.any_map]
    congr 1
    funext p
    show decide ((Sum.inr p.1 : Key) = Sum.inr z) = decide (p.1 = z)
    by_cases h : p.1 = z
    · rw [decide_eq_true h, decide_eq_true (by rw [h])]
    · rw [decide_eq_false h, decide_eq_false (fun q => h (Sum.inr.inj q))]
  unfold putS putC
  rw [e]
  split
  · unfold slK kdC
    rw [List.map_map, List.map_map, List.map_map, List.map_map]
    apply List.map_congr_left
    intro p _
    show (if (Sum.inr p.1 : Key) = .inr z then ((Sum.inr p.1 : Key), dI v) else (.inr p.1, .d (.int p.2))) = (Sum.inr (if p.1 = z then (p.1, v) else p).1, Sl.d (.int (if p.1 = z then (p.1, v) else p).2))
    by_cases e : p.1 = z
    · rw [if_pos (by rw [e]), if_pos e]
      rfl
    · rw [if_neg (fun q => e (Sum.inr.inj q)), if_neg e]
  · unfold slK kdC
    rw [List.map_append, List.map_append]
    rfl
theorem getC_cons (p : Str × Int) (cs : Cnt) (y : Str) : getC (p :: cs) y = if p.1 = y then some p.2 else getC cs y := by
  unfold getC
  rw [List.find?_cons]
  by_cases h : p.1 = y
  · rw [if_pos h, decide_eq_true h]
    rfl
  · rw [if_neg h, decide_eq_false h]
theorem getC_app (cs : Cnt) (z y : Str) (v : Int) : getC (cs ++ [(z, v)]) y = if (getC cs y).isSome = true then getC cs y else if z = y then some v else none := by
  induction cs with
  | nil => rw [List.nil_append, getC_cons]; rfl
  | cons p r ih =>
    rw [List.cons_append, getC_cons, getC_cons, ih]
    by_cases h : p.1 = y
    · rw [if_pos h, if_pos h]; rfl
    · rw [if_neg h, if_neg h]
theorem getC_map (cs : Cnt) (z y : Str) (v : Int) : getC (cs.map fun p => if p.1 = z then (p.1, v) else p) y = if y = z then (getC cs y).map fun _ => v else getC cs y := by
  induction cs with
  | nil => split <;> rfl
  | cons p r ih =>
    rw [List.map_cons, getC_cons, getC_cons, ih]
    by_cases hz : p.1 = z
    · rw [if_pos hz]
      by_cases h : p.1 = y
      · rw [if_pos h, if_pos (by rw [← h, hz]), if_pos h]
        rfl
      · rw [if_neg h, if_neg h]
    · rw [if_neg hz]
      by_cases h : p.1 = y
      · rw [if_pos h, if_neg (by rw [← h]; exact hz), if_pos h]
      · rw [if_neg h, if_neg h]
theorem any_getC (cs : Cnt) (z : Str) : (cs.any fun p => decide (p.1 = z)) = (getC cs z).isSome := by
  induction cs with
  | nil => rfl
  | cons p r ih =>
    rw [List.any_cons, getC_cons, ih]
    by_cases h : p.1 = z
    · rw [if_pos h, decide_eq_true h]; rfl
    · rw [if_neg h, decide_eq_false h]; rfl
theorem getC_put (cs : Cnt) (z y : Str) (v : Int) : getC (putC cs z v) y = if y = z then some v else getC cs y := by
  unfold putC
  rw [any_getC]
  by_cases h : (getC cs z).isSome = true
  · rw [if_pos h, getC_map]
    by_cases e : y = z
    · rw [if_pos e, if_pos e, e]
      obtain ⟨u, hu⟩ := Option.isSome_iff_exists.mp h
      rw [hu]
      rfl
    · rw [if_neg e, if_neg e]
  · rw [if_neg h, getC_app]
    by_cases e : y = z
    · rw [if_pos e, e, if_neg h, if_pos rfl]
    · rw [if_neg e]
      cases g : getC cs y with
      | some u => rfl
      | none => rw [if_neg (by simp), if_neg (fun q => e q.symm)]
theorem putC_len (cs : Cnt) (z : Str) (v : Int) : (putC cs z v).length ≤ cs.length + 1 := by
  unfold putC
  split
  · rw [List.length_map]; omega
  · rw [List.length_append]; exact Nat.le_refl _
end Y

namespace Y
open PySem L2 PyProof.Rows
/-! ### comprehensions over a dict's keys, the dict a name that holds data -/
section
variable {X : Cx} {L : Lk} {τ : List (Option Sl)} {M : Cs} {Q : Sl → Cs → Prop} {elt kx vx tg c : Expr} {scope : Scope} {own : List (Str × Nat)} {pos p0 : Pos} {g : TG} {i : Nat} {nm : Str} {kd : List (Key × PyData)}
/-- the walk over the keys of a locked dict, a dict being made -/
theorem dcK_run {σ : L2.St} {G HL : Hp} {Q2 : VK} {dd : Addr} {od : Obj} {xs : List (Key × V)} {vs : List Nat} (gs : GoodS X.K G σ τ) (gmL : GoodM X.K ((dd, od, .dK xs) :: L) M G HL) (hσ : σ[i]? = some (some (.ref dd))) (lx : KvAt X.K G xs (slK kd))
    (w : ∀ D, M D = none → ∃ Iv : Nat → Cs → Prop, Iv 0 (updC M D (.k [])) ∧ (∀ x, (∃ xs, x.2.2 = HO.dK xs) → ∀ n k d M', kd[n]? = some (k, d) → Iv n M' →
      WGw X.K (x :: L) vs g (.d (kD k)) (wipeK τ vs) M' fun τ2 M3 => DEb X scope (x :: L) kx τ2 M3 fun z M4 => DEb X scope (x :: L) vx τ2 M4 fun z2 M5 => ∃ kvs k, z = .d (kD k) ∧ M5 D = some (.k kvs) ∧ kvs.length < sizeLine ∧ Iv (n + 1) (updC M5 D (.k (putS kvs k z2)))) ∧
      (∀ M' G' H', Iv kd.length M' → Ex G G' → GoodM X.K ((dd, od, .dK xs) :: L) M' G' H' → Q2 (.ref D) H')) : tDc (iKeys (tVar i)) g tYes (bE X scope kx) (bE X scope vx) vs σ HL Q2 := by
        have hx0 : HL dd = some (.frz od (.dK xs)) := gmL.lk _ List.mem_cons_self
        refine ⟨.ref dd, hσ, dd, od, rfl, .inl ⟨xs, hx0, fun D hD => ?_⟩⟩
        obtain ⟨Iv, i0, turn, fin⟩ := w D (gmL.free hD).2
        have hl : xs.length = kd.length := by rw [lx.len]; simp [slK]
        refine ⟨fun n m H' => m = kd.length - n ∧ n ≤ kd.length ∧ ∃ M' G', Iv n M' ∧ Ex G G' ∧ GoodM X.K ((dd, od, .dK xs) :: L) M' G' H', ⟨kd.length, by simp, Nat.zero_le _, _, G, i0, Ex.refl _, gmL.newC hD ⟨[], upd_same, trivial⟩⟩, ?_⟩
        rintro n m H' ⟨rfl, hn, M', G', iv, e', g'⟩
        have hd' : H' dd = some (.frz od (.dK xs)) := g'.lk _ List.mem_cons_self
        by_cases hlt : n < kd.length
        · refine .inr ⟨⟨hd', by rw [hl]; exact hlt⟩, fun H2 => ∃ M2 G2, Iv (n + 1) M2 ∧ Ex G G2 ∧ GoodM X.K ((dd, od, .dK xs) :: L) M2 G2 H2, fun H2 ⟨M2, G2, h⟩ => ⟨kd.length - (n + 1), by omega, rfl, hlt, M2, G2, h⟩, fun x H2 hy => ?_⟩
          obtain ⟨rfl, k1, v1, hx1, rfl⟩ := hy
          obtain ⟨u1, hu1, au1⟩ := (KvAt.mono e' lx).get (i := n) (k := (kd[n]).1) (s := .d (kd[n]).2) (by unfold slK; rw [List.getElem?_map, List.getElem?_eq_getElem hlt]; rfl)
          rw [hx1] at hu1
          have hu2 := Option.some.inj hu1
          have ek : k1 = (kd[n]).1 := (Prod.mk.inj hu2).1
          have ak : At X.K G' (kV k1) (kD (kd[n]).1) := by
            rw [← ek]
            cases k1 with
            | inl z => exact .int z
            | inr z => exact .str z
          refine turn (dd, od, .dK xs) ⟨xs, rfl⟩ n (kd[n]).1 (kd[n]).2 M' (List.getElem?_eq_getElem hlt) iv _ G' H2 _ _ ((gs.mono e').wipe vs) g' (.d ak) fun τ3 M3 σ3 G3 H3 q3 e3 g3 s3 z3 => ?_
          refine ⟨z3.trans wipe_wipe, ?_⟩
          unfold tYes
          dsimp only
          rw [if_pos rfl]
          have e13 := e'.trans e3
          refine web (X := X) (scope := scope) (e := kx) q3 σ3 G3 H3 _ s3 g3 fun z M5 v5 G5 H5 q5 e5 g5 a5 => ?_
          refine web (X := X) (scope := scope) (e := vx) q5 σ3 G5 H5 _ (s3.mono e5) g5 fun z2 M6 v2 G6 H6 ⟨kvs, key, hz, hk, hl6, iv6⟩ e6 g6 a6 => ?_
          obtain ⟨f6, ys, h1, h2⟩ := g6.cell D _ hk
          subst hz
          refine ⟨ys, key, key_at a5, h1, by rw [h2.len]; exact hl6, _, G6, iv6, (e13.trans e5).trans e6, ?_⟩
          exact g6.write hk h1 (fun _ _ z => nomatch z) ⟨_, upd_same, KvAt.put a6 h2⟩
        · have e : n = kd.length := by omega
          subst e
          exact .inl ⟨⟨hd', by rw [hl]; exact Nat.le_refl _⟩, fin M' G' H' iv e' g'⟩
/-- {kx: vx for tg in d} -/
theorem de_dcKeys (hc : X.calm = true) (hN : X.N.Nodup) (ok : BlkOk X.N X.env.scope scope own) (hg : ∀ (s : Shared) (H : Hp) (C : Addr) (cl : List (Str × Addr)) (fp : List Addr), PG (X.blk s H scope (compEnvC scope cl C X.env) fp) tg g)
    (hL : NoDK L) (hi : X.N[i]? = some nm) (hv : Vis X.env.scope nm) (ht : τ[i]? = some (some (.d (.dict (encK kd)))))
    (w : ∀ D, M D = none → ∃ Iv : Nat → Cs → Prop, Iv 0 (updC M D (.k [])) ∧ (∀ x, (∃ xs, x.2.2 = HO.dK xs) → ∀ n k d M', kd[n]? = some (k, d) → Iv n M' →
      WGw X.K (x :: L) (own.map (·.2)) g (.d (kD k)) (wipeK τ (own.map (·.2))) M' fun τ2 M3 => DEb X scope (x :: L) kx τ2 M3 fun z M4 => DEb X scope (x :: L) vx τ2 M4 fun z2 M5 => ∃ kvs k, z = .d (kD k) ∧ M5 D = some (.k kvs) ∧ kvs.length < sizeLine ∧ Iv (n + 1) (updC M5 D (.k (putS kvs k z2)))) ∧ (∀ M', Iv kd.length M' → Q (.c D) M'))
    (hd : (nm == ("__debug__" : Str)) = false := by decide) (hcd : (nm == ("__classdict__" : Str)) = false := by decide) (hs : ∀ x, foldedSetIterable (.Name nm p0) X.env x = pure x := by intro _; rfl) : DE X L (.DictComp kx vx [⟨tg, .Name nm p0, [], 0⟩] scope pos) τ M Q :=
  de_of (pe_lock (pe_dc (tk := bE X scope kx) (tv := bE X scope vx) (tt := tYes) hc hN (pi_keys (pe_var hi hv hd hcd)) ok hg (fun _ _ _ _ _ => pts_nil) (fun s H C cl fp => ⟨fun pins s' σ H' Q' I h => h s H C cl fp pins s' I⟩) (fun s H C cl fp => ⟨fun pins s' σ H' Q' I h => h s H C cl fp pins s' I⟩) hs)) fun σ G H Q' gs gm k => by
    obtain ⟨v, hσ, av⟩ := gs.get i _ ht
    cases av with
    | d av =>
      generalize hz : encK kd = zs at av
      cases av with
      | dic hG l =>
        rename_i dd xs
        subst hz
        have lx := AtK.kv kd l
        have hx := lock_exact gm hL hG
        have hne := lock_ne gm hL hG
        refine ⟨dd, .dK xs, hx, trivial, fun od => ?_⟩
        have gmL := gm.lock (od := od) hL hG
        refine dcK_run (kd := kd) gs gmL hσ lx fun D hD => ?_
        obtain ⟨Iv, i0, turn, fin⟩ := w D hD
        exact ⟨Iv, i0, turn, fun M' G' H' iv e' g' => ⟨g'.lk _ List.mem_cons_self, k _ M' _ G' _ (fin _ iv) e' (g'.unlock hne (e' _ _ hG)) (.c D)⟩⟩
/-- the same, a list being made -/
theorem lcK_run {σ : L2.St} {G HL : Hp} {Q2 : VK} {dd : Addr} {od : Obj} {xs : List (Key × V)} {vs : List Nat} (gs : GoodS X.K G σ τ) (gmL : GoodM X.K ((dd, od, .dK xs) :: L) M G HL) (hσ : σ[i]? = some (some (.ref dd))) (lx : KvAt X.K G xs (slK kd))
    (w : ∀ D, M D = none → ∃ Iv : Nat → Cs → Prop, Iv 0 (updC M D (.l [])) ∧ (∀ x, (∃ xs, x.2.2 = HO.dK xs) → ∀ n k d M', kd[n]? = some (k, d) → Iv n M' →
      WGw X.K (x :: L) vs g (.d (kD k)) (wipeK τ vs) M' fun τ2 M3 => DTb X scope (x :: L) c τ2 M3 fun b M4 => (b = true → DEb X scope (x :: L) elt τ2 M4 fun z M5 => ∃ acc, M5 D = some (.l acc) ∧ acc.length < sizeLine ∧ Iv (n + 1) (updC M5 D (.l (acc ++ [z])))) ∧ (b = false → Iv (n + 1) M4)) ∧
      (∀ M' G' H', Iv kd.length M' → Ex G G' → GoodM X.K ((dd, od, .dK xs) :: L) M' G' H' → Q2 (.ref D) H')) : tLc (iKeys (tVar i)) g (bT X scope c) (bE X scope elt) vs σ HL Q2 := by
        have hx0 : HL dd = some (.frz od (.dK xs)) := gmL.lk _ List.mem_cons_self
        refine ⟨.ref dd, hσ, dd, od, rfl, .inl ⟨xs, hx0, fun D hD => ?_⟩⟩
        obtain ⟨Iv, i0, turn, fin⟩ := w D (gmL.free hD).2
        have hl : xs.length = kd.length := by rw [lx.len]; simp [slK]
        refine ⟨fun n m H' => m = kd.length - n ∧ n ≤ kd.length ∧ ∃ M' G', Iv n M' ∧ Ex G G' ∧ GoodM X.K ((dd, od, .dK xs) :: L) M' G' H', ⟨kd.length, by simp, Nat.zero_le _, _, G, i0, Ex.refl _, gmL.newC hD ⟨[], upd_same, .nil⟩⟩, ?_⟩
        rintro n m H' ⟨rfl, hn, M', G', iv, e', g'⟩
        have hd' : H' dd = some (.frz od (.dK xs)) := g'.lk _ List.mem_cons_self
        by_cases hlt : n < kd.length
        · refine .inr ⟨⟨hd', by rw [hl]; exact hlt⟩, fun H2 => ∃ M2 G2, Iv (n + 1) M2 ∧ Ex G G2 ∧ GoodM X.K ((dd, od, .dK xs) :: L) M2 G2 H2, fun H2 ⟨M2, G2, h⟩ => ⟨kd.length - (n + 1), by omega, rfl, hlt, M2, G2, h⟩, fun x H2 hy => ?_⟩
          obtain ⟨rfl, k1, v1, hx1, rfl⟩ := hy
          obtain ⟨u1, hu1, au1⟩ := (KvAt.mono e' lx).get (i := n) (k := (kd[n]).1) (s := .d (kd[n]).2) (by unfold slK; rw [List.getElem?_map, List.getElem?_eq_getElem hlt]; rfl)
          rw [hx1] at hu1
          have hu2 := Option.some.inj hu1
          have ek : k1 = (kd[n]).1 := (Prod.mk.inj hu2).1
          have ak : At X.K G' (kV k1) (kD (kd[n]).1) := by
            rw [← ek]
            cases k1 with
            | inl z => exact .int z
            | inr z => exact .str z
          refine turn (dd, od, .dK xs) ⟨xs, rfl⟩ n (kd[n]).1 (kd[n]).2 M' (List.getElem?_eq_getElem hlt) iv _ G' H2 _ _ ((gs.mono e').wipe vs) g' (.d ak) fun τ3 M3 σ3 G3 H3 q3 e3 g3 s3 z3 => ?_
          refine ⟨z3.trans wipe_wipe, ?_⟩
          have e13 := e'.trans e3
          refine wtb (X := X) (scope := scope) (e := c) q3 σ3 G3 H3 _ s3 g3 fun b M4 G4 H4 q4 e4 g4 => ?_
          cases b with
          | true =>
            rw [if_pos rfl]
            refine web (X := X) (scope := scope) (e := elt) (q4.1 rfl) σ3 G4 H4 _ (s3.mono e4) g4 fun z M5 v5 G5 H5 ⟨acc, hacc, hl5, iv5⟩ e5 g5 a5 => ?_
            obtain ⟨f5, ys, h1, h2⟩ := g5.cell D _ hacc
            refine ⟨ys, h1, by rw [h2.len]; exact hl5, _, G5, iv5, (e13.trans e4).trans e5, ?_⟩
            exact g5.write hacc h1 (fun _ _ z => nomatch z) ⟨_, upd_same, h2.append (.cons a5 .nil)⟩
          | false =>
            rw [if_neg Bool.false_ne_true]
            exact ⟨M4, G4, q4.2 rfl, e13.trans e4, g4⟩
        · have e : n = kd.length := by omega
          subst e
          exact .inl ⟨⟨hd', by rw [hl]; exact Nat.le_refl _⟩, fin M' G' H' iv e' g'⟩
/-- [elt for tg in d if c] -/
theorem de_lcKeys (hc : X.calm = true) (hN : X.N.Nodup) (ok : BlkOk X.N X.env.scope scope own) (hg : ∀ (s : Shared) (H : Hp) (C : Addr) (cl : List (Str × Addr)) (fp : List Addr), PG (X.blk s H scope (compEnvC scope cl C X.env) fp) tg g)
    (hL : NoDK L) (hi : X.N[i]? = some nm) (hv : Vis X.env.scope nm) (ht : τ[i]? = some (some (.d (.dict (encK kd)))))
    (w : ∀ D, M D = none → ∃ Iv : Nat → Cs → Prop, Iv 0 (updC M D (.l [])) ∧ (∀ x, (∃ xs, x.2.2 = HO.dK xs) → ∀ n k d M', kd[n]? = some (k, d) → Iv n M' →
      WGw X.K (x :: L) (own.map (·.2)) g (.d (kD k)) (wipeK τ (own.map (·.2))) M' fun τ2 M3 => DTb X scope (x :: L) c τ2 M3 fun b M4 => (b = true → DEb X scope (x :: L) elt τ2 M4 fun z M5 => ∃ acc, M5 D = some (.l acc) ∧ acc.length < sizeLine ∧ Iv (n + 1) (updC M5 D (.l (acc ++ [z])))) ∧ (b = false → Iv (n + 1) M4)) ∧ (∀ M', Iv kd.length M' → Q (.c D) M'))
    (hd : (nm == ("__debug__" : Str)) = false := by decide) (hcd : (nm == ("__classdict__" : Str)) = false := by decide) (hs : ∀ x, foldedSetIterable (.Name nm p0) X.env x = pure x := by intro _; rfl) : DE X L (.ListComp elt [⟨tg, .Name nm p0, [c], 0⟩] scope pos) τ M Q :=
  de_of (pe_lock (pe_lc (te := bE X scope elt) (tt := bT X scope c) hc hN (pi_keys (pe_var hi hv hd hcd)) ok hg (fun s H C cl fp => pts_one ⟨fun pins s' σ H' Q' I h => h s H C cl fp pins s' I⟩) (fun s H C cl fp => ⟨fun pins s' σ H' Q' I h => h s H C cl fp pins s' I⟩) hs)) fun σ G H Q' gs gm k => by
    obtain ⟨v, hσ, av⟩ := gs.get i _ ht
    cases av with
    | d av =>
      generalize hz : encK kd = zs at av
      cases av with
      | dic hG l =>
        rename_i dd xs
        subst hz
        have lx := AtK.kv kd l
        have hx := lock_exact gm hL hG
        have hne := lock_ne gm hL hG
        refine ⟨dd, .dK xs, hx, trivial, fun od => ?_⟩
        have gmL := gm.lock (od := od) hL hG
        refine lcK_run (kd := kd) gs gmL hσ lx fun D hD => ?_
        obtain ⟨Iv, i0, turn, fin⟩ := w D hD
        exact ⟨Iv, i0, turn, fun M' G' H' iv e' g' => ⟨g'.lk _ List.mem_cons_self, k _ M' _ G' _ (fin _ iv) e' (g'.unlock hne (e' _ _ hG)) (.c D)⟩⟩
/-- y = {kx: vx for ..}, the comprehension the statement's whole value -/
theorem ps_setDcY {j : Nat} {y : Str} {py spos : Pos} {iter : Expr} {ti : TI} {tt : TT} {tk tv : TE} {gs : List Expr} (calm : X.calm = true) (nd : X.N.Nodup) (at1 : X.N[j]? = some y) (at2 : X.env.scope.names.lookup y = some .local)
    (sw : swapsWith (.DictComp kx vx [⟨tg, iter, gs, 0⟩] scope pos) (some (.Name y py)) spos.line X.env = pure true) (wi : PI X tg iter ti) (ok : BlkOk X.N X.env.scope scope own)
    (wg : ∀ (s : Shared) (H : Hp) (C : Addr) (cl : List (Str × Addr)) (fp : List Addr), PG (X.blk s H scope (compEnvC scope cl C X.env) fp) tg g) (wt : ∀ (s : Shared) (H : Hp) (C : Addr) (cl : List (Str × Addr)) (fp : List Addr), PTs (X.blk s H scope (compEnvC scope cl C X.env) fp) gs tt)
    (wk : ∀ (s : Shared) (H : Hp) (C : Addr) (cl : List (Str × Addr)) (fp : List Addr), PE (X.blk s H scope (compEnvC scope cl C X.env) fp) kx tk) (wv : ∀ (s : Shared) (H : Hp) (C : Addr) (cl : List (Str × Addr)) (fp : List Addr), PE (X.blk s H scope (compEnvC scope cl C X.env) fp) vx tv)
    (fs : ∀ x, foldedSetIterable iter X.env x = pure x := by intro _; rfl) : PS X (.Assign [.Name y py] (.DictComp kx vx [⟨tg, iter, gs, 0⟩] scope pos) spos) (tAsg (tDc ti g tt tk tv (own.map (·.2))) (gName j)) := by
  refine ⟨fun pins s σ H D I q0 => ?_⟩
  rw [exec_Assign_Name_used _ _ _ _ sw]
  refine wpAny_bind (wpAny_standAt (wpAny_bind ?_))
  show wpAny _ X.A (do let _ ← comprehension (.DictComp kx vx [⟨tg, iter, gs, 0⟩] scope pos) scope X.env (firstIterPos [⟨tg, iter, gs, 0⟩] pos) newDict false (eval iter X.env) (some (assign (.Name y py) X.env))) _ _ s
  have q1 : tDc ti g tt tk tv (own.map (·.2)) σ H (fun x H1 => gName j x σ H1 D.nx) := q0
  refine wpAny_bind (thn (dc_core (Qf := fun _ s2 => SP X pins D .next s2) calm nd I wi ok wg wt wk wv fs q1 fun Ld Cc s2 m H2 J qq nn ff => ?_) fun _ s2 z => wpAny_pure (wpAny_pure z))
  show wpAny _ _ (assign (.Name y py) X.env (.ref Ld)) _ _ _
  refine wpAny_assign_Name (store_ok2 (v := V.ref Ld) J nd at1 (.inl at2) rfl (fun s3 I3 ⟨b, sb, hb⟩ => ?_) (.inr at2))
  obtain ⟨f0, f1, f2, f3, f4, f5⟩ := ff
  have ne : Cc ≠ b := by
    rcases hb with z | z
    · rw [z]; exact f1
    · intro e; exact f4 y b z e.symm
  exact ⟨m, nn.sameBut sb ne, fun h3 s4 => ⟨_, H2, I3.turned (t' := s3.toks) (fun b o hb e => (s4.2 b hb).trans e) f0 f1 f3 f4 f5, qq⟩⟩
theorem ds_setDcKeys {j : Nat} {y : Str} {py spos : Pos} {E : Ks} (hc : X.calm = true) (hN : X.N.Nodup) (hy : X.N[j]? = some y) (hyl : X.env.scope.names.lookup y = some .local)
    (hsw : swapsWith (.DictComp kx vx [⟨tg, .Name nm p0, [], 0⟩] scope pos) (some (.Name y py)) spos.line X.env = pure true) (ok : BlkOk X.N X.env.scope scope own) (hg : ∀ (s : Shared) (H : Hp) (C : Addr) (cl : List (Str × Addr)) (fp : List Addr), PG (X.blk s H scope (compEnvC scope cl C X.env) fp) tg g)
    (hL : NoDK L) (hi : X.N[i]? = some nm) (hv : Vis X.env.scope nm) (ht : τ[i]? = some (some (.d (.dict (encK kd)))))
    (w : ∀ D, M D = none → ∃ Iv : Nat → Cs → Prop, Iv 0 (updC M D (.k [])) ∧ (∀ x, (∃ xs, x.2.2 = HO.dK xs) → ∀ n k d M', kd[n]? = some (k, d) → Iv n M' →
      WGw X.K (x :: L) (own.map (·.2)) g (.d (kD k)) (wipeK τ (own.map (·.2))) M' fun τ2 M3 => DEb X scope (x :: L) kx τ2 M3 fun z M4 => DEb X scope (x :: L) vx τ2 M4 fun z2 M5 => ∃ kvs k, z = .d (kD k) ∧ M5 D = some (.k kvs) ∧ kvs.length < sizeLine ∧ Iv (n + 1) (updC M5 D (.k (putS kvs k z2)))) ∧ (∀ M', Iv kd.length M' → E.nx (τ.set j (some (.c D))) M'))
    (hd : (nm == ("__debug__" : Str)) = false := by decide) (hcd : (nm == ("__classdict__" : Str)) = false := by decide) (hs : ∀ x, foldedSetIterable (.Name nm p0) X.env x = pure x := by intro _; rfl) : DS X L (.Assign [.Name y py] (.DictComp kx vx [⟨tg, .Name nm p0, [], 0⟩] scope pos) spos) τ M E :=
  ds_of (ps_lock (ps_setDcY (tk := bE X scope kx) (tv := bE X scope vx) (tt := tYes) hc hN hy hyl hsw (pi_keys (pe_var hi hv hd hcd)) ok hg (fun _ _ _ _ _ => pts_nil) (fun s H C cl fp => ⟨fun pins s' σ H' Q' I h => h s H C cl fp pins s' I⟩) (fun s H C cl fp => ⟨fun pins s' σ H' Q' I h => h s H C cl fp pins s' I⟩) hs)) fun σ G H D0 gs gm k => by
    obtain ⟨v, hσ, av⟩ := gs.get i _ ht
    cases av with
    | d av =>
      generalize hz : encK kd = zs at av
      cases av with
      | dic hG l =>
        rename_i dd xs
        subst hz
        have lx := AtK.kv kd l
        have hx := lock_exact gm hL hG
        have hne := lock_ne gm hL hG
        refine ⟨dd, .dK xs, hx, trivial, fun od => ?_⟩
        have gmL := gm.lock (od := od) hL hG
        refine dcK_run (kd := kd) gs gmL hσ lx fun D hD => ?_
        obtain ⟨Iv, i0, turn, fin⟩ := w D hD
        exact ⟨Iv, i0, turn, fun M' G' H' iv e' g' => ⟨g'.lk _ List.mem_cons_self, k.nx _ M' _ G' _ (fin _ iv) e' (g'.unlock hne (e' _ _ hG)) ((gs.mono e').set (.c D) j)⟩⟩
end
section
variable {X : Cx} {L : Lk} {M : Cs} {Q : Sl → Cs → Prop}
theorem k_max2 {i j : Int} (q : Q (.d (.int (if j > i then j else i))) M) : RCk X.K L (fun xs H Q => ∃ i j, xs = [.int i, .int j] ∧ Q (.int (if j > i then j else i)) H) [.d (.int i), .d (.int j)] M Q := fun G H vs Q' g a k => by
  obtain ⟨v, u, rfl, a1, a2⟩ := sl2 a
  rw [sl_int a1, sl_int a2]
  exact ⟨i, j, rfl, k.go q g (.d (.int _))⟩
end
end Y

namespace Y
open PySem L2 PyProof.Rows
theorem SlL.dropL {K : PySem.W.Frag} {G : Hp} : ∀ {vs : List V} {ss : List Sl}, SlL K G vs ss → SlL K G vs.dropLast ss.dropLast
  | _, _, .nil => .nil
  | _, _, .cons _ .nil => .nil
  | _, _, .cons a (.cons b c) => .cons a (SlL.dropL (.cons b c))
section
variable {X : Cx} {L : Lk} {τ : List (Option Sl)} {M : Cs} {Q : Sl → Cs → Prop} {o : Expr} {apos cpos pos : Pos} {E : Ks}
/-- xs.pop() as a statement -/
theorem ds_pop (w : DE X L o τ M fun x M1 => ∃ a ss, x = .c a ∧ M1 a = some (.l ss) ∧ ss ≠ [] ∧ E.nx τ (updC M1 a (.l ss.dropLast))) (hbase : attributeBase o "pop" X.env (eval o X.env) = eval o X.env := by rfl) (hline : (apos.endLine == cpos.line) = true := by rfl)
    (hsw : swapsWith (.Call (.Attribute o "pop" apos) [] [] cpos) none pos.line X.env = pure false := by rfl) : DS X L (.Expr (.Call (.Attribute o "pop" apos) [] [] cpos) pos) τ M E :=
  ds_expr (de_of (pe_bm0 PySem.F.plainAttrs_list PySem.F.slot_list_pop PySem.F.type_list_pop mt_pop pe_s hbase hline) fun σ G H Q' gs gm k => w σ G H _ gs gm fun x M1 v G1 H1 ⟨a, ss, hx, ha, hne, q⟩ e1 g1 a1 => by
    subst hx
    obtain ⟨_, xs, h1, h2⟩ := g1.cell a _ ha
    have ev := sl_c a1
    subst ev
    obtain ⟨z, hz⟩ : ∃ z, ss[ss.length - 1]? = some z := ⟨_, List.getElem?_eq_getElem (by have := List.length_pos_iff.mpr hne; omega)⟩
    obtain ⟨r, hr, ar⟩ := h2.get hz
    exact ⟨.inl ⟨rfl, xs, .inl (.inl h1)⟩, a, xs, r, rfl, rfl, h1, by rw [h2.len]; exact hr, k z _ _ G1 _ q e1 (g1.write ha h1 (fun _ _ z => (nomatch z)) ⟨_, upd_same, h2.dropL⟩) ar⟩) hsw
end
section
variable {X : Cx} {L : Lk} {τ : List (Option Sl)} {M : Cs} {Q : Sl → Cs → Prop} {e1 e2 : Expr} {pos : Pos}
/-- {"x": i, "y": j} -/
theorem de_dictSI2 {x y : Str} {i j : Int} {j1 j2 j3 j4} {p1 p2 p3 p4 : Pos} (ne : x ≠ y) (q : ∀ p, M p = none → Q (.c p) (updC M p (.k (slK [(.inr x, .int i), (.inr y, .int j)])))) : DE X L (.Dict [some (.Constant (.str x) j1 p1), some (.Constant (.str y) j3 p3)] [.Constant (.int i) j2 p2, .Constant (.int j) j4 p4] pos) τ M Q :=
  de_of (pe_disp (pps_cons pe_str pe_int (pps_cons pe_str pe_int pps_nil)) rfl rfl (by simp) (by simp)) fun σ G H Q' gs gm kk p hp => by
    refine ⟨upd_same, [(.inr x, .int i), (.inr y, .int j)], rfl, (by show 2 ≤ 15; decide), ?_⟩
    have e : upd (upd H p (.dK [])) p (.dK (mergeK [] [(.inr x, V.int i), (.inr y, V.int j)])) = upd H p (.dK [(.inr x, V.int i), (.inr y, V.int j)]) := by
      funext b
      by_cases hb : b = p
      · subst hb
        rw [upd_same, upd_same]
        have : ¬ (Sum.inr x : Key) = Sum.inr y := fun z => ne (Sum.inr.inj z)
        simp [mergeK, putK, this]
      · rw [upd_ne hb, upd_ne hb, upd_ne hb]
    rw [e]
    have f := gm.free hp
    exact kk _ _ _ G _ (q p f.2) (Ex.refl G) (gm.newC hp ⟨[(.inr x, .int i), (.inr y, .int j)], upd_same, rfl, .d (.int i), rfl, .d (.int j), trivial⟩) (.c p)
end
end Y

namespace Y
open PySem L2 PyProof.Rows
section
variable {X : Cx} {o : Expr} {p pos apos mpos : Pos} {td : TE}
/-- sum(o.values()), a dict with int values -/
def tSumV (td : TE) : TE := fun σ H Q => td σ H fun x H1 => ∃ (a : Addr) (kvs : List (Key × V)) (is : List Int), x = V.ref a ∧ Rd H1 a (.dK kvs) ∧ kvs.map (·.2) = is.map V.int ∧ Q (.int is.sum) H1
theorem preSum_getD : ∀ is : List Int, preSum (fun i => is.getD i 0) is.length = is.sum := by
  have key : ∀ (f : Nat → Int) (n : Nat), preSum f (n + 1) = f 0 + preSum (fun i => f (i + 1)) n := fun f n => by
    induction n with
    | zero => simp [preSum]
    | succ n ih =>
      show preSum f (n + 1) + f (n + 1) = f 0 + (preSum (fun i => f (i + 1)) n + f (n + 1))
      rw [ih, Int.add_assoc]
  intro is
  induction is with
  | nil => rfl
  | cons x r ih =>
    show preSum _ (r.length + 1) = _
    rw [key, List.sum_cons, ← ih]
    rfl
/-- the place where the view of the values is laid -/
def vw (a : Addr) : Obj := { cls := .type "dict_values", data := .fields #[.ref a] }
theorem vw_keep {h : Heap} {a b : Addr} {u : Obj} (e : h.get? b = some u) : (h.push (vw a)).get? b = some u := Heap.get?_push_of_some _ e
theorem vw_size (h : Heap) (a : Addr) : (h.push (vw a)).objs.size = h.objs.size + 1 := Heap.size_push _ _
theorem len_vals {kvs : List (Key × V)} {us : List (Key × Value)} {is : List Int} (r : KV kvs us) (hv : kvs.map (·.2) = is.map V.int) : us.length = is.length := by
  rw [← KV.length r, ← List.length_map (f := fun kv : Key × V => kv.2), hv, List.length_map]
theorem int_vals {kvs : List (Key × V)} {us : List (Key × Value)} {is : List Int} (r : KV kvs us) (hv : kvs.map (·.2) = is.map V.int) (i : Nat) (v : Value) (h : ∃ k, us[i]? = some (k, v)) : ∃ t, v = Value.int (is.getD i 0) t := by
  obtain ⟨k, hk⟩ := h
  obtain ⟨y, hy, ry⟩ := KV.at' r hk
  have m1 : (is.map V.int)[i]? = some y := by
    rw [← hv, List.getElem?_map, hy]
    rfl
  rw [List.getElem?_map] at m1
  obtain ⟨n, hn, rfl⟩ := Option.map_eq_some_iff.mp m1
  obtain ⟨t, rfl⟩ := ry
  exact ⟨t, by rw [List.getD_eq_getElem?_getD, hn]; rfl⟩
theorem pe_sumV (hc : X.calm = true) (hg : Gl X "sum") (hm : X.mg "sum" = none) (hd : PE X o td)
    (hb : attributeBase o "values" X.env (eval o X.env) = eval o X.env := by rfl) (hl : (apos.endLine == mpos.line) = true := by rfl)
    (hs : starEach [Expr.Call (.Attribute o "values" apos) [] [] mpos] X.env = [(false, eval (Expr.Call (.Attribute o "values" apos) [] [] mpos) X.env)] := by rfl) : PE X (.Call (.Name "sum" p) [.Call (.Attribute o "values" apos) [] [] mpos] [] pos) (tSumV td) := .mk fun pins z σ H Q I h => by
  have fits := fun (v : Value) (z1 : Shared) (w1 : ∃ x H1, Inv X pins σ H1 z1 ∧ RelV x v ∧ ∃ (a : Addr) (kvs : List (Key × V)) (is : List Int), x = V.ref a ∧ Rd H1 a (.dK kvs) ∧ kvs.map (·.2) = is.map V.int ∧ Q (.int is.sum) H1) => w1
  refine wpAny_Call_Name_kw (ld_blt I hg hm (u := .builtin "sum") (by decide +kernel) ?_ (by decide) (by decide))
  rw [hs]
  refine PySem.callWith_builtin1 (wpAny_Call_method0_late hb hl (thn (hd.run pins z σ H _ I h) fun v z1 y => ?_))
  obtain ⟨x, H1, I1, rx, a, kvs, is, hx, hr, hi, q⟩ := fits v z1 y
  rw [hx] at rx
  rw [show v = Value.ref a from rx]
  obtain ⟨_, ns, us, ru, dof⟩ := dk_rd I1.hok hr
  obtain ⟨ep, da⟩ := dof.dictAt
  have da2 := da
  obtain ⟨ob, _, ho, oc, _⟩ := da2
  have below : a < z1.heap.objs.size := Heap.lt_size ho
  have da3 : (z1.heap.push (vw a)).DictAt (mixKind X.prog X.w) a us ep := da.keep fun _ _ => vw_keep
  refine ⟨"dict", "dict.values", F.plainAttrs_dict, F.slot_dict_values, F.type_dict_values, ⟨ob, ho, oc.1⟩, fun b e => ⟨ob, by cases e; exact ho, oc.2.1⟩, Calls.callWith_builtin rfl (PySem.evalArgs_none ?_)⟩
  refine call_meetsIn F.slot_dict_values ⟨ob, ho, oc.1⟩ F.entry_dict_values (F.args_dict_values_1 _) (meets_dict_values (mixKind X.prog X.w) a ns) ⟨⟨us, dof⟩, ?_⟩
  refine call_sum_walkAnyS (wpAny_pyIter_values (v := z1.heap.objs.size) (d := a) ⟨_, Heap.get?_push_size _ rfl, rfl, rfl⟩ da3 ?_)
  have apart : a ≠ (z1.heap.push (vw a)).objs.size := by
    rw [vw_size]
    exact Nat.ne_of_lt (Nat.lt_succ_of_lt below)
  have W := Walks.dictValues (knd := mixKind X.prog X.w) (A := X.A.in1) (I.ok.hd hc) (z1.heap.push (vw a)).objs.size a apart us ep
  refine ⟨_, _, _, _, _, _, _, fun i => is.getD i 0, rfl, W.toS, ⟨⟨_, Heap.get?_push_size _ rfl, rfl, rfl⟩, da3.keep fun _ _ => Heap.get?_push_of_some _⟩, fun b hb => ?_, int_vals ru hi, fun z2 t mv => ?_⟩
  · have top : ∀ u : Obj, ((z1.heap.push (vw a)).push u).objs.size = z1.heap.objs.size + 2 := fun u => by rw [Heap.size_push, vw_size]
    refine Nat.lt_of_lt_of_eq ?_ (top _).symm
    rcases List.mem_cons.mp hb with e | hb
    · rw [e, vw_size]
      exact Nat.lt_succ_self _
    · rw [List.mem_singleton.mp hb]
      exact Nat.lt_succ_of_lt (Nat.lt_succ_of_lt below)
  · rw [Moved.eq_with mv, len_vals ru hi, preSum_getD]
    refine ⟨.int _, H1, I1.kept fun b u e => mv.heap b u (fun m => ?_) (Heap.get?_push_of_some _ (vw_keep e)), ⟨t, rfl⟩, q⟩
    have lo := Heap.lt_size e
    rw [List.mem_singleton.mp m, vw_size] at lo
    exact Nat.not_succ_le_self _ (Nat.le_of_succ_le lo)
end
theorem KvAt.ints {K : PySem.W.Frag} {G : Hp} : ∀ {xs : List (Key × V)} {kvs : List (Key × Sl)} {is : List Int}, KvAt K G xs kvs → kvs.map (·.2) = is.map dI → xs.map (·.2) = is.map V.int
  | [], [], is, _, h => by
    cases is with
    | nil => rfl
    | cons _ _ => cases h
  | (k, v) :: ps, (k2, s) :: qs, is, h, e => by
    obtain ⟨_, a, t⟩ := h
    cases is with
    | nil => cases e
    | cons i is =>
      have e1 : s = dI i := (List.cons.inj e).1
      subst e1
      show v :: ps.map (·.2) = V.int i :: is.map V.int
      rw [show v = V.int i from sl_int (show SlAt K G v (dI i) from a), KvAt.ints t (List.cons.inj e).2]
section
variable {X : Cx} {L : Lk} {τ : List (Option Sl)} {M : Cs} {Q : Sl → Cs → Prop} {o : Expr} {p pos apos mpos : Pos}
/-- sum(d.values()) -/
theorem de_sumV (hc : X.calm = true) (hg : Gl X "sum") (hm : X.mg "sum" = none) (w : DE X L o τ M fun s M1 => ∃ (kvs : List (Key × Sl)) (is : List Int), DictIs M1 s kvs ∧ kvs.map (·.2) = is.map dI ∧ Q (dI is.sum) M1) (hbase : attributeBase o "values" X.env (eval o X.env) = eval o X.env := by rfl) (hline : (apos.endLine == mpos.line) = true := by rfl)
    (hse : starEach [Expr.Call (.Attribute o "values" apos) [] [] mpos] X.env = [(false, eval (Expr.Call (.Attribute o "values" apos) [] [] mpos) X.env)] := by rfl) : DE X L (.Call (.Name "sum" p) [.Call (.Attribute o "values" apos) [] [] mpos] [] pos) τ M Q :=
  de_of (pe_sumV hc hg hm pe_s hbase hline hse) fun σ G H Q' gs gm k => w σ G H _ gs gm fun s M1 v G1 H1 ⟨kvs, is, hd, hi, q⟩ e1 g1 a1 => by
    obtain ⟨a, xs, rfl, r, l⟩ := dict_at g1 a1 hd
    exact ⟨a, xs, is, rfl, r, KvAt.ints l hi, (k.mono e1).go q g1 (.d (.int _))⟩
end
end Y

namespace Y
open PySem L2 PyProof.Rows
/-! the first items of a tuple of data -/
section
variable {X : Cx} {L : Lk} {τ : List (Option Sl)} {M : Cs} {Q : Sl → Cs → Prop} {a b : Expr} {p2 pos : Pos}
theorem de_slTHi (w : DE X L a τ M fun x M1 => DE X L b τ M1 fun y M2 => ∃ (n : Nat) (ds : List PyData), y = .d (.int n) ∧ x = .d (.tuple ds) ∧ n < ds.length ∧ Q (.d (.tuple (ds.take n))) M2) : DE X L (.Subscript a (.Slice none (some b) none p2) pos) τ M Q :=
  de_of (pe_slice sl_tup pe_s po_none (po_some pe_s)) fun σ G H Q' gs gm k => w σ G H _ gs gm fun x M1 v G1 H1 q e1 g1 a1 => q σ G1 H1 _ (gs.mono e1) g1 fun y M2 u G2 H2 ⟨n, ds, ey, ex, hn, q2⟩ e2 g2 a2 => by
    subst ey ex
    have a1' := a1.mono e2
    cases a1' with
    | d z =>
      cases z with
      | @tup p vs _ e l =>
        have hlen : vs.length = ds.length := by rw [l.sl.len, List.length_map]
        refine ⟨(n : Int), sl_int a2, p, vs, rfl, .inl (g2.rd e), ?_, fun c hc => ?_⟩
        · rw [HT.sIx_nat]
          omega
        · have ll : SlL X.K G2 (cutV vs none (some (n : Int))) ((ds.take n).map Sl.d) := by
            have := cut_sl l.sl none (some (n : Int))
            rw [cutG_hi, ← List.map_take] at this
            exact this
          exact k _ _ _ (upd G2 c (.tup (cutV vs none (some (n : Int))))) _ q2 ((e1.trans e2).trans (Ex.new (g2.free hc).1)) (g2.newD hc) (.d (.tup upd_same (ll.at.mono (Ex.new (g2.free hc).1))))
end
/-! dict(d): a copy -/
section
variable {X : Cx} {L : Lk} {M : Cs} {Q : Sl → Cs → Prop} {s : Sl}
theorem k_dictD {kvs : List (Key × Sl)} (h : DictIs M s kvs) (q : ∀ p, M p = none → Q (.c p) (updC M p (.k kvs))) :
    RCk X.K L (fun xs H Q => ∃ (a : Addr) (kvs : List (Key × V)), xs = [.ref a] ∧ Rd H a (.dK kvs) ∧ ∀ p, H p = none → Q (.ref p) (upd H p (.dK kvs))) [s] M Q := fun G H vs Q' g a k => by
  obtain ⟨v, rfl, av⟩ := sl1 a
  obtain ⟨p, xs, rfl, r, l⟩ := dict_at g av h
  exact ⟨p, xs, rfl, r, fun c hc => k _ _ _ G _ (q c (g.free hc).2) (Ex.refl G) (g.newC hc ⟨_, upd_same, l⟩) (.c c)⟩
end
end Y

namespace Y
open PySem L2 PyProof.Rows
section
variable {X : Cx} {L : Lk} {τ : List (Option Sl)} {M : Cs} {Q : Sl → Cs → Prop} {a b e o : Expr} {p2 pos apos cpos mpos : Pos} {E : Ks}
/-- a sign of a text -/
theorem de_ixS (w : DE X L a τ M fun x M1 => DE X L b τ M1 fun y M2 => ∃ (z : Str) (i : Int) (c : Nat), x = dS z ∧ y = dI i ∧ z.length ≤ sizeLine ∧ atI z.cps.toList i = some c ∧ Q (dS ⟨#[c]⟩) M2) (hs : PlainIx b := by exact fun _ _ => rfl) : DE X L (.Subscript a b pos) τ M Q :=
  de_of (pe_ix ix_str pe_s pe_s hs) fun σ G H Q' gs gm k => w σ G H _ gs gm fun x M1 v G1 H1 q e1 g1 a1 => q σ G1 H1 _ (gs.mono e1) g1 fun y M2 u G2 H2 ⟨z, i, c, ex, ey, hl, ha, q2⟩ e2 g2 a2 => by
    subst ex ey
    exact ⟨z, i, c, sl_str (a1.mono e2), sl_int a2, hl, ha, (k.mono (e1.trans e2)).go q2 g2 (.d (.str _))⟩
/-- texts joined by + -/
theorem de_addS (w : DE X L a τ M fun x M1 => DE X L b τ M1 fun y M2 => ∃ i j : Str, x = dS i ∧ y = dS j ∧ i.length + j.length ≤ sizeLine ∧ Q (dS (i ++ j)) M2) : DE X L (.BinOp a .Add b pos) τ M Q :=
  de_op op_add_str (de_imp w fun x M1 q => de_imp q fun y M2 ⟨i, j, e1, e2, hl, q2⟩ => fun G H v u Q' g a1 a2 k => by
    subst e1 e2
    exact ⟨i, j, sl_str a1, sl_str a2, hl, k.go q2 g (.d (.str _))⟩)
/-- xs.pop() as a value -/
theorem de_popV (w : DE X L o τ M fun x M1 => ∃ a ss z, x = .c a ∧ M1 a = some (.l ss) ∧ ss[ss.length - 1]? = some z ∧ Q z (updC M1 a (.l ss.dropLast))) (hbase : attributeBase o "pop" X.env (eval o X.env) = eval o X.env := by rfl) (hline : (apos.endLine == cpos.line) = true := by rfl) :
    DE X L (.Call (.Attribute o "pop" apos) [] [] cpos) τ M Q :=
  de_of (pe_bm0 PySem.F.plainAttrs_list PySem.F.slot_list_pop PySem.F.type_list_pop mt_pop pe_s hbase hline) fun σ G H Q' gs gm k => w σ G H _ gs gm fun x M1 v G1 H1 ⟨a, ss, z, hx, ha, hz, q⟩ e1 g1 a1 => by
    subst hx
    obtain ⟨_, xs, h1, h2⟩ := g1.cell a _ ha
    have ev := sl_c a1
    subst ev
    obtain ⟨r, hr, ar⟩ := h2.get hz
    exact ⟨.inl ⟨rfl, xs, .inl (.inl h1)⟩, a, xs, r, rfl, rfl, h1, by rw [h2.len]; exact hr, k z _ _ G1 _ q e1 (g1.write ha h1 (fun _ _ z => (nomatch z)) ⟨_, upd_same, h2.dropL⟩) ar⟩
/-- xs.extend(ys), both lists of one's own -/
theorem k_extend {a b : Addr} {ss ts : List Sl} (h : M a = some (.l ss)) (h' : M b = some (.l ts)) (hl : ss.length + ts.length ≤ sizeLine) (q : Q (.d .none) (updC M a (.l (ss ++ ts)))) : RMk X.K L rExtend (.c a) [.c b] M Q := fun G H v vs Q' g a1 a2 k => by
  obtain ⟨u, rfl, au⟩ := sl1 a2
  obtain ⟨_, xs, h1, h2⟩ := g.cell a _ h
  obtain ⟨_, zs, h3, h4⟩ := g.cell b _ h'
  exact ⟨a, b, xs, zs, sl_c a1, by rw [sl_c au], h1, h3, by rw [h2.len, h4.len]; exact hl, k _ _ _ G _ q (Ex.refl G) (g.write h h1 (fun _ _ z => nomatch z) ⟨_, upd_same, h2.append h4⟩) (.d .non)⟩
theorem ds_extend (w : DE X L o τ M fun x M1 => (isTup x = false ∧ ∃ ss, seqOf M1 x = some ss) ∧ DE X L e τ M1 fun z M2 => ∃ a b ss ts, x = .c a ∧ z = .c b ∧ M2 a = some (.l ss) ∧ M2 b = some (.l ts) ∧ ss.length + ts.length ≤ sizeLine ∧ E.nx τ (updC M2 a (.l (ss ++ ts)))) (hbase : attributeBase o "extend" X.env (eval o X.env) = eval o X.env := by rfl)
    (hfew : ((backTo cpos (starEach (e :: []) X.env)).all (fun x => !x.1) && (backToKw cpos (keywordEach [] X.env)).all (fun x => x.1.isSome)
      && decide ((e :: []).length + ([] : List Keyword).length + (if ([] : List Keyword).isEmpty then 0 else 1) < 30)) = true := by rfl)
    (hline : (apos.endLine == cpos.line) = true := by rfl) (hs : starEach (e :: []) X.env = (false, eval e X.env) :: starEach [] X.env := by rfl) (hplain : (backTo cpos (starEach [] X.env)).any (·.1) = false := by rfl) (hsw : swapsWith (.Call (.Attribute o "extend" apos) [e] [] cpos) none pos.line X.env = pure false := by rfl) :
    DS X L (.Expr (.Call (.Attribute o "extend" apos) [e] [] cpos) pos) τ M E :=
  ds_expr (de_mL PySem.F.slot_list_extend PySem.F.type_list_extend (fun pins s σ H x vs v us Q I rx rv h => mt_extend pins s σ H x vs v us Q I rx rv h) (de_imp w fun x M1 ⟨h, q⟩ => ⟨h, da_cons (de_imp q fun z M2 ⟨a, b, ss, ts, hx, hz, ha, hb, hl, q2⟩ => da_nil (by subst hx hz; exact k_extend ha hb hl q2)) hs⟩) hbase hfew hline hs hplain) hsw
end
section
variable {X : Cx} {L : Lk} {M : Cs} {Q : Sl → Cs → Prop} {s : Sl}
/-- max(xs), min(xs), sorted(xs) of whole numbers -/
theorem k_maxL {ns : List Int} (hT : isTup s = false) (h : seqOf M s = some (ns.map dI)) (h0 : 0 < ns.length) (q : ∀ m, m ∈ ns → (∀ y, y ∈ ns → y ≤ m) → Q (dI m) M) : RCk X.K L (rMax X.K) [s] M Q := fun G H vs Q' g a k => by
  obtain ⟨v, rfl, a1⟩ := sl1 a
  obtain ⟨p, xs, rfl, r, l⟩ := seq_at g a1 h
  rw [hT, if_neg Bool.false_ne_true] at r
  rw [ints_at l] at r
  exact ⟨p, ns, rfl, r, h0, fun m hm hy => k.go (q m hm hy) g (.d (.int _))⟩
theorem k_minL {ns : List Int} (hT : isTup s = false) (h : seqOf M s = some (ns.map dI)) (h0 : 0 < ns.length) (q : ∀ m, m ∈ ns → (∀ y, y ∈ ns → m ≤ y) → Q (dI m) M) : RCk X.K L (rMin X.K) [s] M Q := fun G H vs Q' g a k => by
  obtain ⟨v, rfl, a1⟩ := sl1 a
  obtain ⟨p, xs, rfl, r, l⟩ := seq_at g a1 h
  rw [hT, if_neg Bool.false_ne_true] at r
  rw [ints_at l] at r
  exact ⟨p, ns, rfl, r, h0, fun m hm hy => k.go (q m hm hy) g (.d (.int _))⟩
end
end Y

namespace Y
open PySem L2 PyProof.Rows
section
variable {X : Cx} {L : Lk} {M : Cs} {Q : Sl → Cs → Prop} {s : Sl}
theorem k_sortedI {ns : List Int} (hT : isTup s = false) (h : seqOf M s = some (ns.map dI)) (h0 : ns.length < 64) (q : ∀ (ns' : List Int) (p : Addr), ns'.Perm ns → ns'.Pairwise (· ≤ ·) → M p = none → Q (.c p) (updC M p (.l (ns'.map dI)))) : RCk X.K L (rSorted X.K) [s] M Q := fun G H vs Q' g a k => by
  obtain ⟨v, rfl, a1⟩ := sl1 a
  obtain ⟨p, xs, rfl, r, l⟩ := seq_at g a1 h
  rw [hT, if_neg Bool.false_ne_true] at r
  rw [ints_at l] at r
  exact ⟨p, ns, rfl, r, h0, fun ns' c hp hs hc => k _ _ _ G _ (q ns' c hp hs (g.free hc).2) (Ex.refl G) (g.newC hc ⟨_, upd_same, ints_sl _⟩) (.c c)⟩
/-- i not in a list of whole numbers -/
theorem k_niL {i : Int} {t : Sl} {ns : List Int} (h : seqOf M t = some (ns.map dI)) (q : Q (.d (.bool (!decide (i ∈ ns)))) M) : R2k X.K L (rIn X.K true) (dI i) t M Q := fun G H v u Q' g a1 a2 k => by
  obtain ⟨p, xs, rfl, r, l⟩ := seq_at' g a2 h
  rw [ints_at l] at r
  rw [sl_int a1]
  refine ⟨p, ns.map V.int, rfl, r, rfl, ?_, ?_⟩
  · rw [List.all_map]
    exact List.all_eq_true.mpr fun _ _ => rfl
  · have e : inV (V.int i) (ns.map V.int) = decide (i ∈ ns) := by
      unfold inV
      rw [List.any_map]
      by_cases hi : i ∈ ns
      · rw [decide_eq_true hi]
        exact List.any_eq_true.mpr ⟨i, hi, by simp [eqV]⟩
      · rw [decide_eq_false hi]
        refine List.any_eq_false.mpr fun j hj => ?_
        have : j ≠ i := fun e => hi (e ▸ hj)
        simp [eqV, this]
    rw [e, if_pos rfl]
    exact k.go q g (.d (.bl _))
end
/-! ### list(d.values()) -/
section
variable {X : Cx} {o : Expr} {p pos apos mpos : Pos} {td : TE}
def tListV (td : TE) : TE := fun σ H Q => td σ H fun x H1 => ∃ (a : Addr) (kvs : List (Key × V)) (is : List Int), x = V.ref a ∧ Rd H1 a (.dK kvs) ∧ kvs.map (·.2) = is.map V.int ∧ ∀ p, H1 p = none → Q (.ref p) (upd H1 p (.lst (is.map V.int)))
theorem pe_listV (hc : X.calm = true) (hg : Gl X "list") (hm : X.mg "list" = none) (hv : bootBuiltins "list" = some (.type "list")) (hd : PE X o td)
    (hb : attributeBase o "values" X.env (eval o X.env) = eval o X.env := by rfl) (hl : (apos.endLine == mpos.line) = true := by rfl)
    (hs : starEach [Expr.Call (.Attribute o "values" apos) [] [] mpos] X.env = (false, eval (Expr.Call (.Attribute o "values" apos) [] [] mpos) X.env) :: starEach [] X.env := by rfl) : PE X (.Call (.Name "list" p) [.Call (.Attribute o "values" apos) [] [] mpos] [] pos) (tListV td) := by
  refine ⟨fun pins s σ H Q I hq => ?_⟩
  refine wpAny_Call_Name_kw (ld_blt I hg hm hv ?_)
  refine PyProof.Rows.callWith_type1 ?_ hs rfl
  rw [hs]
  show wpAny _ _ (spliced ((false, eval (.Call (.Attribute o "values" apos) [] [] mpos) X.env) :: backTo pos (starEach [] X.env))) _ _ s
  refine Calls.spliced_cons ?_
  refine wpAny_Call_method (T := "dict") (id := "dict.values") hb rfl hl F.plainAttrs_dict F.slot_dict_values F.type_dict_values (thn (hd.run pins s σ H _ I hq) fun u s1 ⟨x, H1, I1, rx, a, kvs, is, ex, hr, hi, q⟩ => ?_)
  subst ex
  obtain rfl : u = Value.ref a := rx
  obtain ⟨hz, hs0, vs, kv, hdo⟩ := dk_rd I1.hok hr
  obtain ⟨ep, hat⟩ := hdo.dictAt
  have lk : kvs.length = vs.length := KV.length kv
  refine ⟨hdo.typeIs, hdo.mapOf.noDict, ?_⟩
  show wpAny _ _ (callWith mpos (.builtin "dict.values") [.ref a] [] []) _ X.xe s1
  refine method_meetsIn F.slot_dict_values F.entry_dict_values rfl (PySem.evalArgs_none ⟨rfl, hdo.typeIs, F.args_dict_values_1 _, _, meets_dict_values (mixKind X.prog X.w) a hs0, ⟨vs, hdo⟩, ?_⟩)
  refine Calls.spliced_nil ?_
  have I2 : Inv X pins σ H1 { s1 with heap := s1.heap.push (vw a) } := I1.kept (t' := s1.toks) fun b ob q => Heap.get?_push_of_some _ q
  have lo := hdo.dictAt
  refine PySem.W.kdl_call (PySem.W.kdl_values (knd := mixKind X.prog X.w) (kvs := vs) (ep := ep)) (I1.ok.hd hc) ⟨⟨_, Heap.get?_push_size _ rfl, rfl, rfl⟩, hat.keep fun _ _ => vw_keep⟩ (by omega) fun h' tk acc c hk hS hacc => ?_
  refine ⟨.ref _, upd H1 (s1.heap.push (vw a)).objs.size (.lst (is.map V.int)), I2.laid (t' := tk) hk (Nat.le_refl _) (show ObjOk X.prog X.w _ _ _ (.lst (is.map V.int)) from ⟨?_, acc.toList, c, ?_, ?_⟩), rfl, q _ (I2.hok.fresh (Nat.le_refl _))⟩
  · rw [List.length_map, ← len_vals kv hi, ← lk]
    exact hz
  · have el : acc.toList.length = acc.size := by simp
    refine vals_of_at (by rw [List.length_map, el, hacc.1, len_vals kv hi]) fun j x w h1 h2 => ?_
    obtain ⟨t, et⟩ := int_vals kv hi j w (hacc.2 j w (by rw [← Array.getElem?_toList]; exact h2))
    rw [List.getElem?_map] at h1
    obtain ⟨n, hn, rfl⟩ := Option.map_eq_some_iff.mp h1
    rw [et, List.getD_eq_getElem?_getD, hn]
    exact ⟨t, rfl⟩
  · rw [Array.toArray_toList]
    exact hS
end
section
variable {X : Cx} {L : Lk} {τ : List (Option Sl)} {M : Cs} {Q : Sl → Cs → Prop} {o : Expr} {p pos apos mpos : Pos}
theorem de_listV (hc : X.calm = true) (hg : Gl X "list") (hm : X.mg "list" = none) (w : DE X L o τ M fun s M1 => ∃ (kvs : List (Key × Sl)) (is : List Int), DictIs M1 s kvs ∧ kvs.map (·.2) = is.map dI ∧ ∀ p, M1 p = none → Q (.c p) (updC M1 p (.l (is.map dI)))) (hv : bootBuiltins "list" = some (.type "list") := by decide +kernel) (hbase : attributeBase o "values" X.env (eval o X.env) = eval o X.env := by rfl) (hline : (apos.endLine == mpos.line) = true := by rfl)
    (hse : starEach [Expr.Call (.Attribute o "values" apos) [] [] mpos] X.env = (false, eval (Expr.Call (.Attribute o "values" apos) [] [] mpos) X.env) :: starEach [] X.env := by rfl) : DE X L (.Call (.Name "list" p) [.Call (.Attribute o "values" apos) [] [] mpos] [] pos) τ M Q :=
  de_of (pe_listV hc hg hm hv pe_s hbase hline hse) fun σ G H Q' gs gm k => w σ G H _ gs gm fun s M1 v G1 H1 ⟨kvs, is, hd, hi, q⟩ e1 g1 a1 => by
    obtain ⟨a, xs, rfl, r, l⟩ := dict_at g1 a1 hd
    exact ⟨a, xs, is, rfl, r, KvAt.ints l hi, fun c hc => k _ _ _ G1 _ (q c (g1.free hc).2) e1 (g1.newC hc ⟨_, upd_same, ints_sl _⟩) (.c c)⟩
end
end Y

namespace Y
open PySem L2 PyProof.Rows
section
variable {X : Cx} {L : Lk} {τ : List (Option Sl)} {M : Cs} {Q : Sl → Cs → Prop} {e a b c o tg iter : Expr} {es : List Expr} {pos apos cpos pos' p0 : Pos} {E : Ks} {st : Stmt} {sts body : List Stmt} {nm : Str} {i : Nat}
/-- for k in d, d a name that holds data -/
theorem ds_forKeys {kd : List (Key × PyData)} (hp : PassesOwn (model X.prog X.w) X.A X.env X.xe) (hc : X.calm = true) (hL : NoDK L) (hN : X.N[i]? = some nm) (hv : Vis X.env.scope nm) (ht : τ[i]? = some (some (.d (.dict (encK kd)))))
    (Iv : Nat → List (Option Sl) → Cs → Prop) (i0 : Iv 0 τ M)
    (turn : ∀ x, (∃ xs, x.2.2 = HO.dK xs) → ∀ n k d τ' M', kd[n]? = some (k, d) → Iv n τ' M' → DG X (x :: L) tg (.d (kD k)) τ' M' fun τ2 M2 => DB X (x :: L) body τ2 M2 { E with nx := Iv (n + 1), ct := Iv (n + 1), bk := E.nx })
    (fin : ∀ τ' M', Iv kd.length τ' M' → E.nx τ' M')
    (hd : (nm == ("__debug__" : Str)) = false := by decide) (hcd : (nm == ("__classdict__" : Str)) = false := by decide)
    (hs : ∀ x, foldedSetIterable (.Name nm p0) X.env x = pure x := by intro _; rfl) : DS X L (.For tg (.Name nm p0) body [] pos) τ M E :=
  ds_of (ps_lock (ps_for hp hc (pi_keys (pe_var hN hv hd hcd)) pg_s pss_s hs)) fun σ G H D gs gm k => by
    obtain ⟨v, hσ, av⟩ := gs.get i _ ht
    cases av with
    | d av =>
      generalize hz : encK kd = zs at av
      cases av with
      | dic hG l =>
        rename_i dd xs
        subst hz
        have lx := AtK.kv kd l
        have hx := lock_exact gm hL hG
        have hne := lock_ne gm hL hG
        refine ⟨dd, .dK xs, hx, trivial, fun od => ?_⟩
        have gmL := gm.lock (od := od) hL hG
        have kL : EndsOk X.K ((dd, od, .dK xs) :: L) G E ⟨fun σ' H' => H' dd = some (.frz od (.dK xs)) ∧ D.nx σ' (upd H' dd (.dK xs)), fun v H' => H' dd = some (.frz od (.dK xs)) ∧ D.rt v (upd H' dd (.dK xs)), fun σ' H' => H' dd = some (.frz od (.dK xs)) ∧ D.bk σ' (upd H' dd (.dK xs)), fun σ' H' => H' dd = some (.frz od (.dK xs)) ∧ D.ct σ' (upd H' dd (.dK xs))⟩ :=
          ⟨fun τ' M' σ' G' H' q e g s => ⟨g.lk _ List.mem_cons_self, k.nx _ _ _ G' _ q e (g.unlock hne (e _ _ hG)) s⟩, fun s M' v G' H' q e g a => ⟨g.lk _ List.mem_cons_self, k.rt _ _ _ G' _ q e (g.unlock hne (e _ _ hG)) a⟩,
            fun τ' M' σ' G' H' q e g s => ⟨g.lk _ List.mem_cons_self, k.bk _ _ _ G' _ q e (g.unlock hne (e _ _ hG)) s⟩, fun τ' M' σ' G' H' q e g s => ⟨g.lk _ List.mem_cons_self, k.ct _ _ _ G' _ q e (g.unlock hne (e _ _ hG)) s⟩⟩
        refine ⟨.ref dd, hσ, dd, od, rfl, .inl ⟨xs, upd_same, ?_⟩⟩
        refine ⟨fun n m σ' H' => m = kd.length - n ∧ n ≤ kd.length ∧ ∃ τ' M' G', Iv n τ' M' ∧ Ex G G' ∧ GoodS X.K G' σ' τ' ∧ GoodM X.K ((dd, od, .dK xs) :: L) M' G' H', ⟨kd.length, by simp, Nat.zero_le _, τ, M, G, i0, Ex.refl _, gs, gmL⟩, ?_⟩
        rintro n m σ' H' ⟨rfl, hn, τ', M', G', iv, e', s', g'⟩
        have hl : xs.length = kd.length := by rw [lx.len]; simp [slK]
        have hd' : H' dd = some (.frz od (.dK xs)) := g'.lk _ List.mem_cons_self
        by_cases hlt : n < kd.length
        · refine .inr ⟨⟨hd', by rw [hl]; exact hlt⟩, fun σ2 H2 => ∃ τ2 M2 G2, Iv (n + 1) τ2 M2 ∧ Ex G G2 ∧ GoodS X.K G2 σ2 τ2 ∧ GoodM X.K ((dd, od, .dK xs) :: L) M2 G2 H2, fun σ2 H2 ⟨τ2, M2, G2, h⟩ => ⟨kd.length - (n + 1), by omega, rfl, hlt, τ2, M2, G2, h⟩, fun x H2 hy => ?_⟩
          obtain ⟨rfl, k1, v1, hx1, rfl⟩ := hy
          obtain ⟨u1, hu1, au1⟩ := (KvAt.mono e' lx).get (i := n) (k := (kd[n]).1) (s := .d (kd[n]).2) (by unfold slK; rw [List.getElem?_map, List.getElem?_eq_getElem hlt]; rfl)
          rw [hx1] at hu1
          have hu2 := Option.some.inj hu1
          have ek : k1 = (kd[n]).1 := (Prod.mk.inj hu2).1
          have ak : At X.K G' (kV k1) (kD (kd[n]).1) := by
            rw [← ek]
            cases k1 with
            | inl z => exact .int z
            | inr z => exact .str z
          refine turn (dd, od, .dK xs) ⟨xs, rfl⟩ n (kd[n]).1 (kd[n]).2 τ' M' (List.getElem?_eq_getElem hlt) iv σ' _ _ _ _ s' g' (.d ak) fun τ3 M3 σ3 G3 H3 q3 e3 g3 s3 => ?_
          have e13 := e'.trans e3
          exact q3 σ3 G3 H3 _ s3 g3 ⟨fun τ4 M4 σ4 G4 H4 q4 e4 g4 s4 => ⟨τ4, M4, G4, q4, e13.trans e4, s4, g4⟩, kL.rt.mono e13, kL.nx.mono e13, fun τ4 M4 σ4 G4 H4 q4 e4 g4 s4 => ⟨τ4, M4, G4, q4, e13.trans e4, s4, g4⟩⟩
        · have e : n = kd.length := by omega
          subst e
          exact .inl ⟨⟨hd', by rw [hl]; exact Nat.le_refl _⟩, kL.nx τ' M' σ' G' H' (fin _ _ iv) e' g' s'⟩
end
/-! comprehensions over a dict's values -/
section
variable {X : Cx} {L : Lk} {τ : List (Option Sl)} {M : Cs} {Q : Sl → Cs → Prop} {elt kx vx tg c : Expr} {scope : Scope} {own : List (Str × Nat)} {pos p0 apos mpos : Pos} {g : TG} {i : Nat} {nm : Str} {kd : List (Key × PyData)}
theorem lcV_run {σ : L2.St} {G HL : Hp} {Q2 : VK} {dd : Addr} {od : Obj} {xs : List (Key × V)} {vs : List Nat} (gs : GoodS X.K G σ τ) (gmL : GoodM X.K ((dd, od, .dK xs) :: L) M G HL) (hσ : σ[i]? = some (some (.ref dd))) (lx : KvAt X.K G xs (slK kd))
    (w : ∀ D, M D = none → ∃ Iv : Nat → Cs → Prop, Iv 0 (updC M D (.l [])) ∧ (∀ x, (∃ xs, x.2.2 = HO.dK xs) → ∀ n k d M', kd[n]? = some (k, d) → Iv n M' →
      WGw X.K (x :: L) vs g (.d d) (wipeK τ vs) M' fun τ2 M3 => DTb X scope (x :: L) c τ2 M3 fun b M4 => (b = true → DEb X scope (x :: L) elt τ2 M4 fun z M5 => ∃ acc, M5 D = some (.l acc) ∧ acc.length < sizeLine ∧ Iv (n + 1) (updC M5 D (.l (acc ++ [z])))) ∧ (b = false → Iv (n + 1) M4)) ∧
      (∀ M' G' H', Iv kd.length M' → Ex G G' → GoodM X.K ((dd, od, .dK xs) :: L) M' G' H' → Q2 (.ref D) H')) : tLc (iVals (tVar i)) g (bT X scope c) (bE X scope elt) vs σ HL Q2 := by
        have hx0 : HL dd = some (.frz od (.dK xs)) := gmL.lk _ List.mem_cons_self
        refine ⟨.ref dd, hσ, dd, od, xs, rfl, hx0, fun D hD => ?_⟩
        obtain ⟨Iv, i0, turn, fin⟩ := w D (gmL.free hD).2
        have hl : xs.length = kd.length := by rw [lx.len]; simp [slK]
        refine ⟨fun n m H' => m = kd.length - n ∧ n ≤ kd.length ∧ ∃ M' G', Iv n M' ∧ Ex G G' ∧ GoodM X.K ((dd, od, .dK xs) :: L) M' G' H', ⟨kd.length, by simp, Nat.zero_le _, _, G, i0, Ex.refl _, gmL.newC hD ⟨[], upd_same, .nil⟩⟩, ?_⟩
        rintro n m H' ⟨rfl, hn, M', G', iv, e', g'⟩
        have hd' : H' dd = some (.frz od (.dK xs)) := g'.lk _ List.mem_cons_self
        by_cases hlt : n < kd.length
        · refine .inr ⟨⟨hd', by rw [hl]; exact hlt⟩, fun H2 => ∃ M2 G2, Iv (n + 1) M2 ∧ Ex G G2 ∧ GoodM X.K ((dd, od, .dK xs) :: L) M2 G2 H2, fun H2 ⟨M2, G2, h⟩ => ⟨kd.length - (n + 1), by omega, rfl, hlt, M2, G2, h⟩, fun x H2 hy => ?_⟩
          obtain ⟨rfl, k1, hx1⟩ := hy
          obtain ⟨u1, hu1, au1⟩ := (KvAt.mono e' lx).get (i := n) (k := (kd[n]).1) (s := .d (kd[n]).2) (by unfold slK; rw [List.getElem?_map, List.getElem?_eq_getElem hlt]; rfl)
          rw [hx1] at hu1
          have hu2 := Option.some.inj hu1
          have ev : x = u1 := (Prod.mk.inj hu2).2
          subst ev
          refine turn (dd, od, .dK xs) ⟨xs, rfl⟩ n (kd[n]).1 (kd[n]).2 M' (List.getElem?_eq_getElem hlt) iv _ G' H2 _ _ ((gs.mono e').wipe vs) g' au1 fun τ3 M3 σ3 G3 H3 q3 e3 g3 s3 z3 => ?_
          refine ⟨z3.trans wipe_wipe, ?_⟩
          have e13 := e'.trans e3
          refine wtb (X := X) (scope := scope) (e := c) q3 σ3 G3 H3 _ s3 g3 fun b M4 G4 H4 q4 e4 g4 => ?_
          cases b with
          | true =>
            rw [if_pos rfl]
            refine web (X := X) (scope := scope) (e := elt) (q4.1 rfl) σ3 G4 H4 _ (s3.mono e4) g4 fun z M5 v5 G5 H5 ⟨acc, hacc, hl5, iv5⟩ e5 g5 a5 => ?_
            obtain ⟨f5, ys, h1, h2⟩ := g5.cell D _ hacc
            refine ⟨ys, h1, by rw [h2.len]; exact hl5, _, G5, iv5, (e13.trans e4).trans e5, ?_⟩
            exact g5.write hacc h1 (fun _ _ z => nomatch z) ⟨_, upd_same, h2.append (.cons a5 .nil)⟩
          | false =>
            rw [if_neg Bool.false_ne_true]
            exact ⟨M4, G4, q4.2 rfl, e13.trans e4, g4⟩
        · have e : n = kd.length := by omega
          subst e
          exact .inl ⟨⟨hd', by rw [hl]; exact Nat.le_refl _⟩, fin M' G' H' iv e' g'⟩
/-- [elt for tg in d.values() if c] -/
theorem de_lcVals (hc : X.calm = true) (hN : X.N.Nodup) (ok : BlkOk X.N X.env.scope scope own) (hg : ∀ (s : Shared) (H : Hp) (C : Addr) (cl : List (Str × Addr)) (fp : List Addr), PG (X.blk s H scope (compEnvC scope cl C X.env) fp) tg g)
    (hL : NoDK L) (hi : X.N[i]? = some nm) (hv : Vis X.env.scope nm) (ht : τ[i]? = some (some (.d (.dict (encK kd)))))
    (w : ∀ D, M D = none → ∃ Iv : Nat → Cs → Prop, Iv 0 (updC M D (.l [])) ∧ (∀ x, (∃ xs, x.2.2 = HO.dK xs) → ∀ n k d M', kd[n]? = some (k, d) → Iv n M' →
      WGw X.K (x :: L) (own.map (·.2)) g (.d d) (wipeK τ (own.map (·.2))) M' fun τ2 M3 => DTb X scope (x :: L) c τ2 M3 fun b M4 => (b = true → DEb X scope (x :: L) elt τ2 M4 fun z M5 => ∃ acc, M5 D = some (.l acc) ∧ acc.length < sizeLine ∧ Iv (n + 1) (updC M5 D (.l (acc ++ [z])))) ∧ (b = false → Iv (n + 1) M4)) ∧ (∀ M', Iv kd.length M' → Q (.c D) M'))
    (hd : (nm == ("__debug__" : Str)) = false := by decide) (hcd : (nm == ("__classdict__" : Str)) = false := by decide)
    (hbase : attributeBase (.Name nm p0) "values" X.env (eval (.Name nm p0) X.env) = eval (.Name nm p0) X.env := by rfl) (hline : (apos.endLine == mpos.line) = true := by rfl)
    (hs : ∀ x, foldedSetIterable (.Call (.Attribute (.Name nm p0) "values" apos) [] [] mpos) X.env x = pure x := by intro _; rfl) : DE X L (.ListComp elt [⟨tg, .Call (.Attribute (.Name nm p0) "values" apos) [] [] mpos, [c], 0⟩] scope pos) τ M Q :=
  de_of (pe_lock (pe_lc (te := bE X scope elt) (tt := bT X scope c) hc hN (pi_values (pe_var hi hv hd hcd) hbase hline) ok hg (fun s H C cl fp => pts_one ⟨fun pins s' σ H' Q' I h => h s H C cl fp pins s' I⟩) (fun s H C cl fp => ⟨fun pins s' σ H' Q' I h => h s H C cl fp pins s' I⟩) hs)) fun σ G H Q' gs gm k => by
    obtain ⟨v, hσ, av⟩ := gs.get i _ ht
    cases av with
    | d av =>
      generalize hz : encK kd = zs at av
      cases av with
      | dic hG l =>
        rename_i dd xs
        subst hz
        have lx := AtK.kv kd l
        have hx := lock_exact gm hL hG
        have hne := lock_ne gm hL hG
        refine ⟨dd, .dK xs, hx, trivial, fun od => ?_⟩
        have gmL := gm.lock (od := od) hL hG
        refine lcV_run (kd := kd) gs gmL hσ lx fun D hD => ?_
        obtain ⟨Iv, i0, turn, fin⟩ := w D hD
        exact ⟨Iv, i0, turn, fun M' G' H' iv e' g' => ⟨g'.lk _ List.mem_cons_self, k _ M' _ G' _ (fin _ iv) e' (g'.unlock hne (e' _ _ hG)) (.c D)⟩⟩
/-- y = [elt for tg in d.values() if c] -/
theorem ds_setLcVals {j : Nat} {y : Str} {py spos : Pos} {E : Ks} (hc : X.calm = true) (hN : X.N.Nodup) (hy : X.N[j]? = some y) (hyl : X.env.scope.names.lookup y = some .local)
    (hsw : swapsWith (.ListComp elt [⟨tg, .Call (.Attribute (.Name nm p0) "values" apos) [] [] mpos, [c], 0⟩] scope pos) (some (.Name y py)) spos.line X.env = pure true) (ok : BlkOk X.N X.env.scope scope own) (hg : ∀ (s : Shared) (H : Hp) (C : Addr) (cl : List (Str × Addr)) (fp : List Addr), PG (X.blk s H scope (compEnvC scope cl C X.env) fp) tg g)
    (hL : NoDK L) (hi : X.N[i]? = some nm) (hv : Vis X.env.scope nm) (ht : τ[i]? = some (some (.d (.dict (encK kd)))))
    (w : ∀ D, M D = none → ∃ Iv : Nat → Cs → Prop, Iv 0 (updC M D (.l [])) ∧ (∀ x, (∃ xs, x.2.2 = HO.dK xs) → ∀ n k d M', kd[n]? = some (k, d) → Iv n M' →
      WGw X.K (x :: L) (own.map (·.2)) g (.d d) (wipeK τ (own.map (·.2))) M' fun τ2 M3 => DTb X scope (x :: L) c τ2 M3 fun b M4 => (b = true → DEb X scope (x :: L) elt τ2 M4 fun z M5 => ∃ acc, M5 D = some (.l acc) ∧ acc.length < sizeLine ∧ Iv (n + 1) (updC M5 D (.l (acc ++ [z])))) ∧ (b = false → Iv (n + 1) M4)) ∧ (∀ M', Iv kd.length M' → E.nx (τ.set j (some (.c D))) M'))
    (hd : (nm == ("__debug__" : Str)) = false := by decide) (hcd : (nm == ("__classdict__" : Str)) = false := by decide)
    (hbase : attributeBase (.Name nm p0) "values" X.env (eval (.Name nm p0) X.env) = eval (.Name nm p0) X.env := by rfl) (hline : (apos.endLine == mpos.line) = true := by rfl)
    (hs : ∀ x, foldedSetIterable (.Call (.Attribute (.Name nm p0) "values" apos) [] [] mpos) X.env x = pure x := by intro _; rfl) : DS X L (.Assign [.Name y py] (.ListComp elt [⟨tg, .Call (.Attribute (.Name nm p0) "values" apos) [] [] mpos, [c], 0⟩] scope pos) spos) τ M E :=
  ds_of (ps_lock (ps_setLc (te := bE X scope elt) (tt := bT X scope c) hc hN hy hyl hsw (pi_values (pe_var hi hv hd hcd) hbase hline) ok hg (fun s H C cl fp => pts_one ⟨fun pins s' σ H' Q' I h => h s H C cl fp pins s' I⟩) (fun s H C cl fp => ⟨fun pins s' σ H' Q' I h => h s H C cl fp pins s' I⟩) hs)) fun σ G H D0 gs gm k => by
    obtain ⟨v, hσ, av⟩ := gs.get i _ ht
    cases av with
    | d av =>
      generalize hz : encK kd = zs at av
      cases av with
      | dic hG l =>
        rename_i dd xs
        subst hz
        have lx := AtK.kv kd l
        have hx := lock_exact gm hL hG
        have hne := lock_ne gm hL hG
        refine ⟨dd, .dK xs, hx, trivial, fun od => ?_⟩
        have gmL := gm.lock (od := od) hL hG
        refine lcV_run (kd := kd) gs gmL hσ lx fun D hD => ?_
        obtain ⟨Iv, i0, turn, fin⟩ := w D hD
        exact ⟨Iv, i0, turn, fun M' G' H' iv e' g' => ⟨g'.lk _ List.mem_cons_self, k.nx _ M' _ G' _ (fin _ iv) e' (g'.unlock hne (e' _ _ hG)) ((gs.mono e').set (.c D) j)⟩⟩
end
end Y

namespace Y
open PySem L2 PyProof.Rows
theorem minOf_spec : ∀ (xs : List Int) (x : Int), (PySem.W.minOf x xs ∈ x :: xs) ∧ ∀ y ∈ x :: xs, PySem.W.minOf x xs ≤ y
  | [], x => ⟨List.mem_cons_self, fun y hy => by rw [List.mem_singleton.mp hy]; exact Int.le_refl _⟩
  | z :: xs, x => by
    have e : PySem.W.minOf x (z :: xs) = PySem.W.minOf (if z < x then z else x) xs := by
      show List.foldl _ _ _ = _
      rw [List.foldl_cons]
      by_cases h : z < x
      · rw [if_pos h, if_pos (show PySem.W.DatumOrd.lt z x = true from decide_eq_true h)]
        rfl
      · rw [if_neg h, if_neg (show ¬ PySem.W.DatumOrd.lt z x = true from fun q => h (of_decide_eq_true q))]
        rfl
    obtain ⟨h1, h2⟩ := minOf_spec xs (if z < x then z else x)
    rw [e]
    refine ⟨?_, fun y hy => ?_⟩
    · rcases List.mem_cons.mp h1 with q | q
      · rw [q]
        by_cases h : z < x
        · rw [if_pos h]; exact List.mem_cons_of_mem _ List.mem_cons_self
        · rw [if_neg h]; exact List.mem_cons_self
      · exact List.mem_cons_of_mem _ (List.mem_cons_of_mem _ q)
    · have h0 := h2 _ List.mem_cons_self
      rcases List.mem_cons.mp hy with q | q
      · rw [q]
        by_cases h : z < x
        · rw [if_pos h] at h0 ⊢; omega
        · rw [if_neg h] at h0 ⊢; exact h0
      · rcases List.mem_cons.mp q with q | q
        · rw [q]
          by_cases h : z < x
          · rw [if_pos h] at h0 ⊢; exact h0
          · rw [if_neg h] at h0 ⊢; omega
        · exact h2 y (List.mem_cons_of_mem _ q)
section
variable {X : Cx}
/-- min(xs, default=d) -/
def rMinD (K : PySem.W.Frag) : List V → List V → Hp → VK → Prop := fun vs zs H Q => ∃ (a : Addr) (ns : List Int) (d : Int), vs = [V.ref a] ∧ zs = [V.int d] ∧ SqL K H a (ns.map V.int) ∧ (ns = [] → Q (.int d) H) ∧ ∀ m, m ∈ ns → (∀ y, y ∈ ns → m ≤ y) → Q (.int m) H
theorem cr_minD (hc : X.calm = true) (hu : X.A.units + 1 < cLine) : CallRK X (.builtin "min") [Str.ofString "default"] (rMinD X.K) := by
  intro pins s σ H vs zs us ws Q I r rz h
  obtain ⟨a, ns, d, rfl, rfl, hs, q0, q1⟩ := h
  obtain rfl := Vals.ref1 r
  obtain ⟨w1, rfl, e1⟩ := vals1 rz
  obtain ⟨t, rfl⟩ : ∃ t, w1 = Value.int d t := e1
  obtain ⟨its, rv, hl, _⟩ := I.list hs
  refine PySem.W.min_list_datum_default (α := Int) (xs := ns) (I.ok.hd hc) hl.isList (PySem.W.HoldAll.of_ints rv.ints) hu (fun e h' tk hk => ⟨.int d, H, I.kept hk, ⟨t, rfl⟩, q0 e⟩) fun y ys i v h' tk e hi hv hk => ?_
  obtain ⟨as, rr⟩ := hv
  obtain ⟨m1, m2⟩ := minOf_spec ys y
  rw [← e] at m1 m2
  have hvi : ∃ t, v = Value.int (PySem.W.minOf y ys) t := by
    cases rr
    exact ⟨_, rfl⟩
  exact ⟨.int _, H, I.kept hk, hvi, q1 _ m1 m2⟩
end
section
variable {X : Cx} {L : Lk} {τ : List (Option Sl)} {M : Cs} {Q : Sl → Cs → Prop} {e : Expr} {p pos kpos dp : Pos} {j : Nat} {d : Int}
theorem de_minD {k0} (hc : X.calm = true) (hu : X.A.units + 1 < cLine) (hg : Gl X "min") (hm : X.mg "min" = none) (w : DE X L e τ M fun s M1 => ∃ ns : List Int, isTup s = false ∧ seqOf M1 s = some (ns.map dI) ∧ (ns = [] → Q (dI d) M1) ∧ ∀ m, m ∈ ns → (∀ y, y ∈ ns → m ≤ y) → Q (dI m) M1)
    (hv : bootBuiltins "min" = some (.builtin "min") := by decide +kernel) (hse : starEach [e] X.env = (false, eval e X.env) :: starEach [] X.env := by rfl)
    (he : backTo pos (starEach [e] X.env) = (false, eval e X.env) :: backTo pos (starEach [] X.env) := by rfl) (hpl : (backTo pos (starEach [e] X.env)).any (·.1) = false := by rfl)
    (hall : (backToKw pos (keywordEach [⟨some "default", .Constant (.int d) k0 dp, kpos⟩] X.env)).all (·.1.isSome) = true := by rfl) (hnone : (backToKw pos (keywordEach [⟨some "default", .Constant (.int d) k0 dp, kpos⟩] X.env)).any (·.1.isNone) = false := by rfl) (hks : (backToKw pos (keywordEach [⟨some "default", .Constant (.int d) k0 dp, kpos⟩] X.env)).filterMap (·.1) = [Str.ofString "default"] := by rfl) :
    DE X L (.Call (.Name "min" p) [e] [⟨some "default", .Constant (.int d) k0 dp, kpos⟩] pos) τ M Q :=
  de_of (pe_callBK (cr_minD hc hu) hg hm hv (pa_cons pe_s pa_nil hse) (pk_cons pe_int pk_nil) (by decide) (by decide) he hpl hall hnone hks) fun σ G H Q' gs gm k => w σ G H _ gs gm fun s M1 v G1 H1 ⟨ns, hT, hs, q0, q1⟩ e1 g1 a1 => by
    obtain ⟨b, xs, rfl, r, l⟩ := seq_at g1 a1 hs
    rw [hT, if_neg Bool.false_ne_true] at r
    rw [ints_at l] at r
    exact ⟨b, ns, d, rfl, rfl, r, fun e => (k.mono e1).go (q0 e) g1 (.d (.int _)), fun m hm hy => (k.mono e1).go (q1 m hm hy) g1 (.d (.int _))⟩
end

/-! ### list(d.items()) -/
section
variable {X : Cx} {L : Lk} {τ : List (Option Sl)} {M : Cs} {Q : Sl → Cs → Prop} {e : Expr} {p pos apos cpos : Pos}
def itD (q : Key × PyData) : Sl := .d (.tuple [kD q.1, q.2])
theorem paired_tup {K : PySem.W.Frag} {G G2 H' : Hp} : ∀ {as : List Addr} {xs : List (Key × V)} {kd : List (Key × PyData)}, Paired (fun (t : Addr) (q : Key × V) => H' t = some (.tup [kV q.1, q.2])) as xs → KvAt K G xs (slK kd) → Ex G G2 → (∀ t ∈ as, G2 t = H' t) → SlL K G2 (as.map V.ref) (kd.map itD)
  | [], [], [], _, _, _, _ => .nil
  | a :: as, (k, v) :: xs, (k2, d) :: kd, h, l, e, ag => by
    cases h with
    | cons h1 h2 =>
      obtain ⟨ek, a1, l2⟩ := l
      refine .cons (.d (.tup ((ag a List.mem_cons_self).trans h1) (.cons ?_ (.cons (At.mono e ?_) .nil)))) (paired_tup h2 l2 e fun t ht => ag t (List.mem_cons_of_mem _ ht))
      · rw [ek]
        cases k2 with
        | inl z => exact .int z
        | inr z => exact .str z
      · cases a1 with
        | d z => exact z
  | [], [], _ :: _, _, l, _, _ => by cases l
  | [], _ :: _, _, h, _, _, _ => by cases h
  | _ :: _, [], _, h, _, _, _ => by cases h
  | _ :: _, _ :: _, [], _, l, _, _ => by cases l
theorem de_listItems (hc : X.calm = true) (hg : Gl X "list") (hm : X.mg "list" = none) (hL : NoDK L) (w : DE X L e τ M fun s M1 => ∃ kd : List (Key × PyData), s = .d (.dict (encK kd)) ∧ ∀ p, M1 p = none → Q (.c p) (updC M1 p (.l (kd.map itD))))
    (hv : bootBuiltins "list" = some (.type "list") := by decide +kernel) (hbase : attributeBase e "items" X.env (eval e X.env) = eval e X.env := by rfl) (hline : (apos.endLine == cpos.line) = true := by rfl)
    (hs : starEach [.Call (.Attribute e "items" apos) [] [] cpos] X.env = (false, eval (.Call (.Attribute e "items" apos) [] [] cpos) X.env) :: starEach [] X.env := by rfl) :
    DE X L (.Call (.Name "list" p) [.Call (.Attribute e "items" apos) [] [] cpos] [] pos) τ M Q :=
  de_of (LiI.pe_listItems hc pe_s hg hm hv hbase hline hs) fun σ G H Q' gs gm k => w σ G H _ gs gm fun s M1 v G1 H1 ⟨kd, es, q⟩ e1 g1 a1 => by
    subst es
    cases a1 with
    | d av =>
      generalize hz : encK kd = zs at av
      cases av with
      | dic hG l =>
        rename_i dd xs
        subst hz
        have lx := AtK.kv kd l
        have hx := lock_exact g1 hL hG
        refine ⟨dd, xs, rfl, hx, fun H' p ts keep hp hts hpn hl pr => ?_⟩
        have off : ∀ b o, G1 b = some o → b ∉ ts := fun b o h hb => by
          rw [(g1.free (hts b hb)).1] at h
          cases h
        have eG : Ex G1 (fun b => if b ∈ ts then H' b else G1 b) := fun b o h => by
          show (if b ∈ ts then _ else _) = _
          rw [if_neg (off b o h)]
          exact h
        have g2 : GoodM X.K L (updC M1 p (.l (kd.map itD))) (fun b => if b ∈ ts then H' b else G1 b) H' := by
          refine ⟨fun a o h => ?_, fun a c h => ?_, fun x hx => keep _ _ (g1.lk x hx)⟩
          · by_cases ha : a ∈ ts
            · have h : (if a ∈ ts then H' a else G1 a) = some o := h
              rw [if_pos ha] at h
              exact .inl h
            · have h : (if a ∈ ts then H' a else G1 a) = some o := h
              rw [if_neg ha] at h
              rcases g1.vw a o h with z | z
              · exact .inl (keep _ _ z)
              · exact .inr z
          · by_cases ha : a = p
            · subst ha
              rw [updC_same] at h
              cases h
              refine ⟨?_, ts.map V.ref, hl, paired_tup pr lx eG fun t ht => ?_⟩
              · show (if a ∈ ts then _ else _) = _
                rw [if_neg hpn]
                exact (g1.free hp).1
              · show (if t ∈ ts then _ else _) = _
                rw [if_pos ht]
            · rw [updC_ne ha] at h
              obtain ⟨z1, z2⟩ := g1.cell a c h
              have hn : a ∉ ts := fun ht => by
                rw [(g1.free (hts a ht)).2] at h
                cases h
              refine ⟨?_, z2.mono eG fun o q => keep _ _ q⟩
              show (if a ∈ ts then _ else _) = _
              rw [if_neg hn]
              exact z1
        exact k _ _ _ _ _ (q p (g1.free hp).2) (e1.trans eG) g2 (.c p)
end
end Y

namespace Y
open PySem L2 PyProof.Rows
section
variable {X : Cx} {L : Lk} {τ : List (Option Sl)} {M : Cs} {Q : Sl → Cs → Prop} {e1 : Expr} {pos : Pos}
/-- {"x": e, "y": j} -/
theorem de_dictSE2 {x y : Str} {j : Int} {j1 j3 j4} {p1 p3 p4 : Pos} (ne : x ≠ y) (w : ∀ p, M p = none → DE X L e1 τ (updC M p (.k [])) fun s M1 => ∃ i, s = dI i ∧ M1 p = some (.k []) ∧ Q (.c p) (updC M1 p (.k (slK [(.inr x, .int i), (.inr y, .int j)])))) : DE X L (.Dict [some (.Constant (.str x) j1 p1), some (.Constant (.str y) j3 p3)] [e1, .Constant (.int j) j4 p4] pos) τ M Q :=
  de_of (pe_disp (pps_cons pe_str pe_s (pps_cons pe_str pe_int pps_nil)) rfl rfl (by simp) (by simp)) fun σ G H Q' gs gm kk p hp => by
    refine w p (gm.free hp).2 σ G (upd H p (.dK [])) _ gs (gm.newC hp ⟨[], upd_same, trivial⟩) fun s M1 v G1 H1 ⟨i, es, hm, q⟩ e1 g1 a1 => ?_
    subst es
    have ev := sl_int a1
    subst ev
    obtain ⟨f1, xs, h1, h2⟩ := g1.cell p _ hm
    have hx : xs = [] := by
      cases xs with
      | nil => rfl
      | cons _ _ => cases h2
    subst hx
    refine ⟨h1, [(.inr x, .int i), (.inr y, .int j)], rfl, (by show 2 ≤ 15; decide), ?_⟩
    have e : mergeK [] [((Sum.inr x : Key), V.int i), (.inr y, .int j)] = [(.inr x, V.int i), (.inr y, V.int j)] := by
      have : ¬ (Sum.inr x : Key) = Sum.inr y := fun z => ne (Sum.inr.inj z)
      simp [mergeK, putK, this]
    rw [e]
    exact kk _ _ _ G1 _ q e1 (g1.write hm h1 (fun _ _ z => nomatch z) ⟨[(.inr x, .int i), (.inr y, .int j)], upd_same, rfl, .d (.int i), rfl, .d (.int j), trivial⟩) (.c p)
end
end Y

/-! x in xs, where what is equal may be told by this model's own words (dicts) -/
namespace PySem.SeqAt
open AutoSeq1 (wpAny_loadPart')
open MeetsSeq MeetsSeq2 MeetsSeq3 SeqRoads2
section
variable {P : Program} {w : World}
theorem member_loop (a : Addr) (its : Array Value) (m : Nat) (od : Option Addr) (ws : Array (Option Value)) (u : Value) (t : Value → Bool) (f : Nat) : ∀ j : Nat, its.size - j = f → MeetsIn P w (Builtin.«list.__contains__.loop» ⟨[.ref a, u, rawInt j], []⟩)
    (fun A R s => s.heap.get? a = some { cls := .type "list", dict := od, data := .seq its m, slots := ws } ∧ (∀ z, z ∈ its → EqP P w A.in1 s z u (t z)) ∧ R (.ok (.ret (.bool ((its.toList.drop j).any t)))) s) := by
  induction f with
  | zero =>
    intro j hj A R s ⟨hob, hz, hq⟩
    cases s
    wp_walk using wpAny_loadPart' hob
    have out : its[((j : Nat) : Int).toNat]? = none := by simp; omega
    rw [show its.toList.drop j = [] from by simp; omega] at hq
    rw [out]
    wp_walk
    exact hq
  | succ f ih =>
    intro j hj A R s ⟨hob, hz, hq⟩
    cases s
    wp_walk using wpAny_loadPart' hob
    have lt : j < its.size := by omega
    have there : its[((j : Nat) : Int).toNat]? = some its[j] := by simp [lt]
    rw [show its.toList.drop j = its[j] :: its.toList.drop (j + 1) from by simp [List.drop_eq_getElem_cons, lt], List.any_cons] at hq
    rw [there]
    refine wpAny_bind (hz _ (Array.getElem_mem lt) _ _ ?_)
    cases k : t its[j] with
    | true =>
      rw [k] at hq
      wp_walk
      exact hq
    | false =>
      rw [k] at hq
      wp_walk
      rw [show ((j : Int) + 1) = ((j + 1 : Nat) : Int) from by push_cast; rfl]
      refine ⟨plainId_quiet plain_contains_loop _, codeAny_builtin entry_contains_loop ?_⟩
      rw [Around.under_plainId plain_contains_loop _]
      exact ih (j + 1) (by omega) A R _ ⟨hob, hz, by simpa using hq⟩
theorem member_list (a : Addr) (its : Array Value) (m : Nat) (od : Option Addr) (ws : Array (Option Value)) (u : Value) (t : Value → Bool) : MeetsIn P w (Builtin.«list.__contains__» ⟨[.ref a, u], []⟩)
    (fun A R s => s.heap.get? a = some { cls := .type "list", dict := od, data := .seq its m, slots := ws } ∧ (∀ z, z ∈ its → EqP P w A.in1 s z u (t z)) ∧ R (.ok (.ret (.bool (its.any t)))) s) := by
  intro A R s ⟨hob, hz, hq⟩
  cases s
  wp_walk using wpAny_loadPart' hob
  refine ⟨plainId_quiet plain_contains_loop _, codeAny_builtin entry_contains_loop ?_⟩
  rw [Around.under_plainId plain_contains_loop _]
  exact member_loop a its m od ws u t _ 0 rfl A R _ ⟨hob, hz, by simpa using hq⟩
theorem member_op {A : Around} {E Q : Value → Shared → Prop} {s : Shared} {a : Addr} {its : Array Value} {u : Value} (t : Value → Bool) (hob : s.heap.IsList a its) (hz : ∀ z, z ∈ its → EqP P w A.in1 s z u (t z)) (hq : Q (.bool (its.any t)) s) : wpAny (model P w) A (compareOp .In u (.ref a)) Q E s := by
  obtain ⟨⟨c, od, da, ws⟩, h0, h1, m, h2⟩ := id hob
  simp only at h1 h2
  subst h1 h2
  show wpAny _ A (do return .bool (← contains (.ref a) u)) Q E s
  refine wpAny_bind (wpAny_contains_slot (T := "list") ⟨_, h0, rfl⟩ F.slot_list_contains (wpAny_mono (call_meetsIn (Q := fun v s' => ∃ b : Bool, v = .bool b ∧ Q (.bool b) s') F.slot_list_contains ⟨_, h0, rfl⟩ F.entry_list_contains (F.args_list_contains_2 _ _) (member_list a its m od ws u t) ⟨h0, hz, ⟨_, rfl, hq⟩⟩) (fun v s' hv => ?_) fun _ _ e => e))
  obtain ⟨b, rfl, q⟩ := (show ∃ b, v = .bool b ∧ Q (.bool b) s' from hv)
  exact wpAny_truthy_bool (wpAny_pure q)
end
end PySem.SeqAt
namespace Y
open PySem L2 PyProof.Rows
def encV (c : Cnt) : List (Key × V) := c.map fun p => (.inr p.1, .int p.2)
theorem valV_enc (z : Str) : ∀ c : Cnt, valV (encV c) (.inr z) = (getC c z).map V.int
  | [] => rfl
  | p :: r => by
    have ih := valV_enc z r
    unfold valV encV getC at ih ⊢
    rw [List.map_cons, List.find?_cons, List.find?_cons]
    by_cases e : p.1 = z
    · rw [show decide ((Sum.inr p.1 : Key) = Sum.inr z) = true from decide_eq_true (by rw [e]), show decide (p.1 = z) = true from decide_eq_true e]
      rfl
    · rw [show decide ((Sum.inr p.1 : Key) = Sum.inr z) = false from decide_eq_false (fun q => e (Sum.inr.inj q)), show decide (p.1 = z) = false from decide_eq_false e]
      exact ih
theorem rd_one {H : Hp} {a : Addr} {x y : List (Key × V)} (h1 : Rd H a (.dK x)) (h2 : Rd H a (.dK y)) : x = y := by
  rcases h1 with h1 | ⟨o, h1⟩ <;> rcases h2 with h2 | ⟨o', h2⟩ <;> (rw [h1] at h2; first | (cases h2; done) | (cases h2; rfl))
/-- the same numbers -/
def eqC (c d : Cnt) : Bool := (c.length == d.length) && c.all fun p => decide (getC d p.1 = some p.2)
theorem hits_C {P : Program} {w : World} {A : Around} {s : Shared} {d : Cnt} {vb : List (Key × Value)} (rb : KV (encV d) vb) : ∀ {c : Cnt} {va : List (Key × Value)}, KV (encV c) va → PySem.W.KeqHitsP P w A s vb va (c.all fun p => decide (getC d p.1 = some p.2))
  | [], va, h => by
    cases h
    exact .nil
  | p :: r, va, h => by
    unfold KV encV at h
    rw [List.map_cons] at h
    cases h with
    | @cons _ q _ qs h t =>
      obtain ⟨h1, h2⟩ := h
      obtain ⟨key, v⟩ := q
      have h1 : (Sum.inr p.1 : Key) = key := h1
      subst h1
      obtain ⟨tk, rfl⟩ : ∃ tk, v = Value.int p.2 tk := h2
      have ih := hits_C (P := P) (w := w) (A := A) (s := s) rb (c := r) (va := qs) t
      have rr := rb.val (.inr p.1)
      rw [valV_enc] at rr
      rw [List.all_cons]
      cases g : getC d p.1 with
      | none =>
        rw [g] at rr
        have : valueAt vb (.inr p.1) = none := by
          cases e : valueAt vb (Sum.inr p.1) with
          | none => rfl
          | some y => rw [e] at rr; exact absurd rr (by intro q; cases q)
        exact .miss this
      | some j =>
        rw [g] at rr
        obtain ⟨y, hy, ry⟩ := RelO.some_of rr
        obtain ⟨tj, rfl⟩ : ∃ tj, y = Value.int j tj := ry
        have e : decide (some j = some p.2) = (p.2 == j) := by
          by_cases q : p.2 = j
          · subst q; simp
          · have : ¬ j = p.2 := fun h => q h.symm
            simp [q, this]
        rw [e]
        exact .hit hy (SeqAt.EqAt.int_int _ _ _ _).eqP ih
theorem encV_inj {c d : Cnt} (h : encV c = encV d) : c = d := by
  induction c generalizing d with
  | nil => cases d with
    | nil => rfl
    | cons _ _ => cases h
  | cons p r ih => cases d with
    | nil => cases h
    | cons q t =>
      unfold encV at h
      rw [List.map_cons, List.map_cons] at h
      injection h with h1 h2
      obtain ⟨p1, p2⟩ := p
      obtain ⟨q1, q2⟩ := q
      have e1 : p1 = q1 := Sum.inr.inj (Prod.mk.inj h1).1
      have e2 : p2 = q2 := by have := (Prod.mk.inj h1).2; injection this
      rw [e1, e2, ih h2]
theorem eqC_self {c : Cnt} (nd : (c.map (·.1)).Nodup) : eqC c c = true := by
  unfold eqC
  rw [Bool.and_eq_true]
  refine ⟨by simp, List.all_eq_true.mpr fun p hp => decide_eq_true ?_⟩
  have key : ∀ c : Cnt, (c.map (·.1)).Nodup → p ∈ c → getC c p.1 = some p.2 := fun c => by
    induction c with
    | nil => intro _ h; cases h
    | cons a r ih =>
      intro nd h
      obtain ⟨n1, n2⟩ := List.nodup_cons.mp nd
      unfold getC at ih ⊢
      rw [List.find?_cons]
      rcases List.mem_cons.mp h with rfl | h
      · rw [show decide (p.1 = p.1) = true from decide_eq_true rfl]; rfl
      · have : ¬ a.1 = p.1 := fun e => n1 (List.mem_map.mpr ⟨p, h, e.symm⟩)
        rw [show decide (a.1 = p.1) = false from decide_eq_false this]
        exact ih n2 h
  exact key c nd hp
section
variable {X : Cx}
def rInM (K : PySem.W.Frag) : R2 := fun x y H Q => ∃ (a l : Addr) (c : Cnt) (ds : List Cnt) (bs : List Addr), x = .ref a ∧ y = .ref l ∧ Rd H a (.dK (encV c)) ∧ (c.map (·.1)).Nodup ∧ SqL K H l (bs.map V.ref) ∧ Paired (fun b d => Rd H b (.dK (encV d))) bs ds ∧ Q (.bl (ds.any fun d => eqC d c)) H
theorem eqP_C {pins : List (Addr × Obj)} {σ : L2.St} {H : Hp} {s : Shared} (I : Inv X pins σ H s) {A : Around} (hu : A.units < cLine) {a b : Addr} {c d : Cnt} (nd : (c.map (·.1)).Nodup) (ha : Rd H a (.dK (encV c))) (hb : Rd H b (.dK (encV d))) : SeqAt.EqP X.prog X.w A s (.ref b) (.ref a) (eqC d c) := by
  obtain ⟨_, ya, va, ra, da⟩ := dk_rd I.hok ha
  obtain ⟨_, yb, vb, rb, db⟩ := dk_rd I.hok hb
  by_cases e : b = a
  · subst e
    have hcd : encV c = encV d := rd_one ha hb
    have hcd := encV_inj hcd
    subst hcd
    rw [eqC_self nd]
    exact (SeqAt.EqAt.same _).eqP
  · refine SeqAt.eqP_refs e fun E Q q => PySem.W.rcP_dicts (knd := mixKind X.prog X.w) yb ya db da hu (fun _ => hits_C ra rb) E Q ?_
    have e1 : vb.length = d.length := by rw [← rb.length]; unfold encV; rw [List.length_map]
    have e2 : va.length = c.length := by rw [← ra.length]; unfold encV; rw [List.length_map]
    rw [e1, e2]
    exact q
theorem op_inM (hu : X.A.units + 1 < cLine) : OpR X (compareOp .In) (rInM X.K) := by
  intro pins s σ H x y v u Q I rx ry h
  obtain ⟨a, l, c, ds, bs, rfl, rfl, ha, nd, hl, hp, q⟩ := h
  cases (show v = Value.ref a from rx)
  cases (show u = Value.ref l from ry)
  obtain ⟨its, rv, hL, _⟩ := I.list hl
  have hits : its = bs.map Value.ref := by
    have key : ∀ {bs : List Addr} {its : List Value}, Vals (bs.map V.ref) its → its = bs.map Value.ref := fun {bs} => by
      induction bs with
      | nil => intro its r; cases r; rfl
      | cons b r ih =>
        intro its h
        rw [List.map_cons] at h
        cases h with
        | cons h1 h2 =>
          rw [show _ = Value.ref b from h1, ih h2]
          rfl
    exact key rv
  subst hits
  have hb : ∀ {bs : List Addr} {ds : List Cnt}, Paired (fun b d => Rd H b (.dK (encV d))) bs ds → ∃ t : Value → Bool, (∀ b ∈ bs, SeqAt.EqP X.prog X.w X.A.in1 s (.ref b) (.ref a) (t (.ref b))) ∧ (bs.map Value.ref).any t = ds.any fun d => eqC d c := by
    intro bs ds hp
    have dl : ∀ b ∈ bs, ∃ d, Rd H b (.dK (encV d)) := by
      clear q
      induction hp with
      | nil => exact fun _ h => nomatch h
      | cons h1 _ ih =>
        intro b hb
        rcases List.mem_cons.mp hb with rfl | hb
        · exact ⟨_, h1⟩
        · exact ih b hb
    classical
    let t : Value → Bool := fun v => match v with
      | .ref b => if h : ∃ d, Rd H b (.dK (encV d)) then eqC (Classical.choose h) c else false
      | _ => false
    have one : ∀ {b : Addr} {d d' : Cnt}, Rd H b (.dK (encV d)) → Rd H b (.dK (encV d')) → d = d' := fun {b d d'} h1 h2 => by
      have : encV d = encV d' := rd_one h1 h2
      exact encV_inj this
    have ht : ∀ {b : Addr} {d : Cnt}, Rd H b (.dK (encV d)) → t (.ref b) = eqC d c := fun {b d} h => by
      have hx : ∃ d, Rd H b (.dK (encV d)) := ⟨d, h⟩
      show (if h : ∃ d, Rd H b (.dK (encV d)) then eqC (Classical.choose h) c else false) = _
      rw [dif_pos hx, one (Classical.choose_spec hx) h]
    refine ⟨t, fun b hb => ?_, ?_⟩
    · obtain ⟨d, hd⟩ := dl b hb
      rw [ht hd]
      exact eqP_C I (by show X.A.units + 1 < cLine; exact hu) nd ha hd
    · clear dl q
      induction hp with
      | nil => rfl
      | cons h1 _ ih => rw [List.map_cons, List.any_cons, List.any_cons, ht h1, ih]
  obtain ⟨t, ht1, ht2⟩ := hb hp
  refine SeqAt.member_op t hL.isList (fun z hz => ?_) ?_
  · obtain ⟨b, hb, rfl⟩ := List.mem_map.mp (by simpa using hz)
    exact ht1 b hb
  · rw [show (bs.map Value.ref).toArray.any t = (bs.map Value.ref).any t from by simp, ht2]
    exact ⟨.bl _, H, I, rfl, q⟩
end
section
variable {X : Cx} {L : Lk} {M : Cs} {Q : Sl → Cs → Prop}
theorem at_cnt {K : PySem.W.Frag} {G : Hp} {v : V} {c : Cnt} (a : SlAt K G v (.d (eCnt c))) : ∃ b, v = .ref b ∧ G b = some (.dK (encV c)) := by
  cases a with
  | d av =>
    generalize hz : eCnt c = z at av
    unfold eCnt at hz
    cases av with
    | dic hG l =>
      rename_i dd xs zs
      have hz : encK (kdC c) = zs := PyData.dict.inj hz
      subst hz
      have lx := AtK.kv (kdC c) l
      refine ⟨dd, rfl, ?_⟩
      have key : ∀ {c : Cnt} {xs : List (Key × V)}, KvAt K G xs (slK (kdC c)) → xs = encV c := fun {c} => by
        induction c with
        | nil => intro xs h; cases xs with
          | nil => rfl
          | cons _ _ => cases h
        | cons p r ih => intro xs h; cases xs with
          | nil => cases h
          | cons x t =>
            obtain ⟨h1, h2, h3⟩ := h
            obtain ⟨k, u⟩ := x
            have h1 : k = .inr p.1 := h1
            have h2 := sl_int (show SlAt K G u (dI p.2) from h2)
            rw [ih h3, h1, h2]
            rfl
      rw [hG, key lx]
    | _ => cases hz
theorem k_inC {c : Cnt} {ds : List Cnt} {t : Sl} (hT : isTup t = false) (h : seqOf M t = some (ds.map fun d => .d (eCnt d))) (nd : (c.map (·.1)).Nodup) (q : Q (.d (.bool (ds.any fun d => eqC d c))) M) : R2k X.K L (rInM X.K) (.d (eCnt c)) t M Q := fun G H v u Q' g a1 a2 k => by
  obtain ⟨p, xs, rfl, r, l⟩ := seq_at g a2 h
  rw [hT, if_neg Bool.false_ne_true] at r
  obtain ⟨a, rfl, ha⟩ := at_cnt a1
  have key : ∀ {ds : List Cnt} {xs : List V}, SlL X.K G xs (ds.map fun d => .d (eCnt d)) → ∃ bs : List Addr, xs = bs.map V.ref ∧ Paired (fun b d => Rd H b (.dK (encV d))) bs ds := fun {ds} => by
    induction ds with
    | nil => intro xs h; cases h; exact ⟨[], rfl, .nil⟩
    | cons d r ih =>
      intro xs h
      rw [List.map_cons] at h
      cases h with
      | cons h1 h2 =>
        obtain ⟨b, rfl, hb⟩ := at_cnt h1
        obtain ⟨bs, rfl, hp⟩ := ih h2
        exact ⟨b :: bs, rfl, .cons (g.rd hb) hp⟩
  obtain ⟨bs, rfl, hp⟩ := key l
  exact ⟨a, p, c, ds, bs, rfl, rfl, g.rd ha, nd, r, hp, k.go q g (.d (.bl _))⟩
end
end Y

namespace Y
open PySem L2 PyProof.Rows
/-! a slot's dict cell becomes data for the rest of a block -/
section
variable {X : Cx} {L : Lk} {τ : List (Option Sl)} {M : Cs} {E : Ks} {sts : List Stmt} {i : Nat} {p : Addr} {kd : List (Key × PyData)}
theorem db_frzD (ht : τ[i]? = some (some (.c p))) (hM : M p = some (.k (slK kd))) (w : DB X L sts (τ.set i (some (.d (.dict (encK kd))))) (delC M p) E) : DB X L sts τ M E := fun σ G H D gs gm k => by
  obtain ⟨G', e, g', a⟩ := gm.freezeK hM
  obtain ⟨v, hσ, av⟩ := gs.get i _ ht
  rw [sl_c av] at hσ
  have gs' : GoodS X.K G' σ (τ.set i (some (.d (.dict (encK kd))))) := by
    have := (gs.mono e).set (v := .ref p) (.d a) i
    have hl : i < σ.length := (List.getElem?_eq_some_iff.mp hσ).1
    have es : σ.set i (some (.ref p)) = σ := by
      refine List.ext_getElem? fun j => ?_
      rw [List.getElem?_set]
      by_cases h : i = j
      · subst h
        rw [if_pos rfl, if_pos hl, hσ]
      · rw [if_neg h]
    rw [es] at this
    exact this
  exact w σ G' H D gs' g' (k.mono e)
end
/-! any(xs), xs * n, k in d -/
section
variable {X : Cx} {L : Lk} {τ : List (Option Sl)} {M : Cs} {Q : Sl → Cs → Prop} {a b : Expr} {pos : Pos} {s : Sl}
theorem k_any {bs : List Bool} (hT : isTup s = false) (h : seqOf M s = some (bs.map fun b => .d (.bool b))) (q : Q (.d (.bool (bs.any id))) M) : RCk X.K L (rAny X.K) [s] M Q := fun G H vs Q' g a k => by
  obtain ⟨v, rfl, a1⟩ := sl1 a
  obtain ⟨p, xs, rfl, r, l⟩ := seq_at g a1 h
  rw [hT, if_neg Bool.false_ne_true] at r
  have key : ∀ {bs : List Bool} {xs : List V}, SlL X.K G xs (bs.map fun b => .d (.bool b)) → xs = bs.map V.bl := fun {bs} => by
    induction bs with
    | nil => intro xs h; cases h; rfl
    | cons b r ih =>
      intro xs h
      rw [List.map_cons] at h
      cases h with
      | cons h1 h2 => rw [sl_bl h1, ih h2]; rfl
  rw [key l] at r
  exact ⟨p, bs, rfl, r, k.go q g (.d (.bl _))⟩
/-- [x] * 2 -/
theorem de_rep2 (w : DE X L a τ M fun x M1 => DE X L b τ M1 fun y M2 => ∃ p z, x = .c p ∧ y = dI 2 ∧ M2 p = some (.l [z]) ∧ ∀ c, M2 c = none → Q (.c c) (updC M2 c (.l [z, z]))) : DE X L (.BinOp a .Mult b pos) τ M Q :=
  de_op op_rep (de_imp w fun x M1 q => de_imp q fun y M2 ⟨p, z, e1, e2, hm, q2⟩ => fun G H v u Q' g a1 a2 k => by
    subst e1 e2
    obtain ⟨f, xs, h1, h2⟩ := g.cell p _ hm
    have hv : v = .ref p := sl_c a1
    have hu := sl_int a2
    cases h2 with
    | @cons vz _ _ _ az t =>
      cases t
      refine ⟨p, 2, [vz], hv, hu, h1, by decide, by decide, by show 1 * 2 ≤ sizeLine; decide, fun c hc => ?_⟩
      exact k _ _ _ G _ (q2 c (g.free hc).2) (Ex.refl G) (g.newC hc ⟨[vz, vz], upd_same, .cons az (.cons az .nil)⟩) (.c c))
end
/-! a dict's items, while other dicts are locked -/
def Other (L : Lk) (n : Nat) : Prop := ∀ x ∈ L, ∀ ys, x.2.2 = HO.dK ys → ys.length ≠ n
theorem NoDK.other {L : Lk} (h : NoDK L) (n : Nat) : Other L n := fun x hx ys e => absurd e (h x hx ys)
section
variable {X : Cx} {L : Lk} {τ : List (Option Sl)} {M : Cs} {Q : Sl → Cs → Prop} {e : Expr} {p pos apos cpos : Pos}
theorem de_listItemsO (hc : X.calm = true) (hg : Gl X "list") (hm : X.mg "list" = none) (w : DE X L e τ M fun s M1 => ∃ kd : List (Key × PyData), s = .d (.dict (encK kd)) ∧ Other L kd.length ∧ ∀ p, M1 p = none → Q (.c p) (updC M1 p (.l (kd.map itD))))
    (hv : bootBuiltins "list" = some (.type "list") := by decide +kernel) (hbase : attributeBase e "items" X.env (eval e X.env) = eval e X.env := by rfl) (hline : (apos.endLine == cpos.line) = true := by rfl)
    (hs : starEach [.Call (.Attribute e "items" apos) [] [] cpos] X.env = (false, eval (.Call (.Attribute e "items" apos) [] [] cpos) X.env) :: starEach [] X.env := by rfl) :
    DE X L (.Call (.Name "list" p) [.Call (.Attribute e "items" apos) [] [] cpos] [] pos) τ M Q :=
  de_of (LiI.pe_listItems hc pe_s hg hm hv hbase hline hs) fun σ G H Q' gs gm k => w σ G H _ gs gm fun s M1 v G1 H1 ⟨kd, es, ho, q⟩ e1 g1 a1 => by
    subst es
    cases a1 with
    | d av =>
      generalize hz : encK kd = zs at av
      cases av with
      | dic hG l =>
        rename_i dd xs
        subst hz
        have lx := AtK.kv kd l
        have hx : H1 dd = some (.dK xs) := by
          rcases g1.vw dd _ hG with z | ⟨x, hx, _, w⟩
          · exact z
          · exact absurd (by rw [lx.len]; simp [slK]) (ho x hx xs w)
        refine ⟨dd, xs, rfl, hx, fun H' p ts keep hp hts hpn hl pr => ?_⟩
        have off : ∀ b o, G1 b = some o → b ∉ ts := fun b o h hb => by
          rw [(g1.free (hts b hb)).1] at h
          cases h
        have eG : Ex G1 (fun b => if b ∈ ts then H' b else G1 b) := fun b o h => by
          show (if b ∈ ts then _ else _) = _
          rw [if_neg (off b o h)]
          exact h
        have g2 : GoodM X.K L (updC M1 p (.l (kd.map itD))) (fun b => if b ∈ ts then H' b else G1 b) H' := by
          refine ⟨fun a o h => ?_, fun a c h => ?_, fun x hx => keep _ _ (g1.lk x hx)⟩
          · by_cases ha : a ∈ ts
            · have h : (if a ∈ ts then H' a else G1 a) = some o := h
              rw [if_pos ha] at h
              exact .inl h
            · have h : (if a ∈ ts then H' a else G1 a) = some o := h
              rw [if_neg ha] at h
              rcases g1.vw a o h with z | z
              · exact .inl (keep _ _ z)
              · exact .inr z
          · by_cases ha : a = p
            · subst ha
              rw [updC_same] at h
              cases h
              refine ⟨?_, ts.map V.ref, hl, paired_tup pr lx eG fun t ht => ?_⟩
              · show (if a ∈ ts then _ else _) = _
                rw [if_neg hpn]
                exact (g1.free hp).1
              · show (if t ∈ ts then _ else _) = _
                rw [if_pos ht]
            · rw [updC_ne ha] at h
              obtain ⟨z1, z2⟩ := g1.cell a c h
              have hn : a ∉ ts := fun ht => by
                rw [(g1.free (hts a ht)).2] at h
                cases h
              refine ⟨?_, z2.mono eG fun o q => keep _ _ q⟩
              show (if a ∈ ts then _ else _) = _
              rw [if_neg hn]
              exact z1
        exact k _ _ _ _ _ (q p (g1.free hp).2) (e1.trans eG) g2 (.c p)
end
/-! k not in d -/
section
variable {X : Cx} {L : Lk} {τ : List (Option Sl)} {M : Cs} {QB : Bool → Cs → Prop} {a b : Expr} {pos : Pos}
theorem dt_dnotin (hu : X.A.units + 1 < cLine) (w : DE X L a τ M fun x M1 => DE X L b τ M1 fun y M2 => ∃ k kvs, x = .d (kD k) ∧ DictIs M2 y kvs ∧ QB (!(valS kvs k).isSome) M2) (hm : behindInMarks .NotIn b = false) : DT X L (.Compare a [.NotIn] [b] pos) τ M QB :=
  dt_of (pt_cmp (pc_dnotin hu pe_s pe_s) hm) fun σ G H Q' gs gm k => w σ G H _ gs gm fun x M1 v G1 H1 q e1 g1 a1 => q σ G1 H1 _ (gs.mono e1) g1 fun y M2 u G2 H2 ⟨key, kvs, hx, hd, q2⟩ e2 g2 a2 => by
    subst hx
    obtain ⟨p, oo, rfl, _, dg, h⟩ := dget_at (k := key) g2 a2 hd
    rw [key_at (a1.mono e2)]
    have ho : oo.isSome = (valS kvs key).isSome := by
      cases e : valS kvs key with
      | none => rw [e] at h; rw [h]; rfl
      | some z => rw [e] at h; obtain ⟨u, hu, _⟩ := h; rw [hu]; rfl
    refine ⟨p, oo, rfl, dg, ?_⟩
    exact ⟨!oo.isSome, rfl, k _ M2 G2 H2 (by rw [ho]; exact q2) (e1.trans e2) g2⟩
end
/-! comprehensions over a dict's keys without a test, over its items with one -/
section
variable {X : Cx} {L : Lk} {τ : List (Option Sl)} {M : Cs} {Q : Sl → Cs → Prop} {elt kx vx tg c : Expr} {scope : Scope} {own : List (Str × Nat)} {pos p0 apos mpos : Pos} {g : TG} {i : Nat} {nm : Str} {kd : List (Key × PyData)}
theorem lcN_run {σ : L2.St} {G HL : Hp} {Q2 : VK} {dd : Addr} {od : Obj} {xs : List (Key × V)} {vs : List Nat} (gs : GoodS X.K G σ τ) (gmL : GoodM X.K ((dd, od, .dK xs) :: L) M G HL) (hσ : σ[i]? = some (some (.ref dd))) (lx : KvAt X.K G xs (slK kd))
    (w : ∀ D, M D = none → ∃ Iv : Nat → Cs → Prop, Iv 0 (updC M D (.l [])) ∧ (∀ x, (∃ xs, x.2.2 = HO.dK xs) → ∀ n k d M', kd[n]? = some (k, d) → Iv n M' →
      WGw X.K (x :: L) vs g (.d (kD k)) (wipeK τ vs) M' fun τ2 M3 => DEb X scope (x :: L) elt τ2 M3 fun z M5 => ∃ acc, M5 D = some (.l acc) ∧ acc.length < sizeLine ∧ Iv (n + 1) (updC M5 D (.l (acc ++ [z])))) ∧
      (∀ M' G' H', Iv kd.length M' → Ex G G' → GoodM X.K ((dd, od, .dK xs) :: L) M' G' H' → Q2 (.ref D) H')) : tLc (iKeys (tVar i)) g tYes (bE X scope elt) vs σ HL Q2 := by
        have hx0 : HL dd = some (.frz od (.dK xs)) := gmL.lk _ List.mem_cons_self
        refine ⟨.ref dd, hσ, dd, od, rfl, .inl ⟨xs, hx0, fun D hD => ?_⟩⟩
        obtain ⟨Iv, i0, turn, fin⟩ := w D (gmL.free hD).2
        have hl : xs.length = kd.length := by rw [lx.len]; simp [slK]
        refine ⟨fun n m H' => m = kd.length - n ∧ n ≤ kd.length ∧ ∃ M' G', Iv n M' ∧ Ex G G' ∧ GoodM X.K ((dd, od, .dK xs) :: L) M' G' H', ⟨kd.length, by simp, Nat.zero_le _, _, G, i0, Ex.refl _, gmL.newC hD ⟨[], upd_same, .nil⟩⟩, ?_⟩
        rintro n m H' ⟨rfl, hn, M', G', iv, e', g'⟩
        have hd' : H' dd = some (.frz od (.dK xs)) := g'.lk _ List.mem_cons_self
        by_cases hlt : n < kd.length
        · refine .inr ⟨⟨hd', by rw [hl]; exact hlt⟩, fun H2 => ∃ M2 G2, Iv (n + 1) M2 ∧ Ex G G2 ∧ GoodM X.K ((dd, od, .dK xs) :: L) M2 G2 H2, fun H2 ⟨M2, G2, h⟩ => ⟨kd.length - (n + 1), by omega, rfl, hlt, M2, G2, h⟩, fun x H2 hy => ?_⟩
          obtain ⟨rfl, k1, v1, hx1, rfl⟩ := hy
          obtain ⟨u1, hu1, au1⟩ := (KvAt.mono e' lx).get (i := n) (k := (kd[n]).1) (s := .d (kd[n]).2) (by unfold slK; rw [List.getElem?_map, List.getElem?_eq_getElem hlt]; rfl)
          rw [hx1] at hu1
          have hu2 := Option.some.inj hu1
          have ek : k1 = (kd[n]).1 := (Prod.mk.inj hu2).1
          have ak : At X.K G' (kV k1) (kD (kd[n]).1) := by
            rw [← ek]
            cases k1 with
            | inl z => exact .int z
            | inr z => exact .str z
          refine turn (dd, od, .dK xs) ⟨xs, rfl⟩ n (kd[n]).1 (kd[n]).2 M' (List.getElem?_eq_getElem hlt) iv _ G' H2 _ _ ((gs.mono e').wipe vs) g' (.d ak) fun τ3 M3 σ3 G3 H3 q3 e3 g3 s3 z3 => ?_
          refine ⟨z3.trans wipe_wipe, ?_⟩
          have e13 := e'.trans e3
          unfold tYes
          dsimp only
          rw [if_pos rfl]
          refine web (X := X) (scope := scope) (e := elt) q3 σ3 G3 H3 _ s3 g3 fun z M5 v5 G5 H5 ⟨acc, hacc, hl5, iv5⟩ e5 g5 a5 => ?_
          obtain ⟨f5, ys, h1, h2⟩ := g5.cell D _ hacc
          refine ⟨ys, h1, by rw [h2.len]; exact hl5, _, G5, iv5, e13.trans e5, ?_⟩
          exact g5.write hacc h1 (fun _ _ z => nomatch z) ⟨_, upd_same, h2.append (.cons a5 .nil)⟩
        · have e : n = kd.length := by omega
          subst e
          exact .inl ⟨⟨hd', by rw [hl]; exact Nat.le_refl _⟩, fin M' G' H' iv e' g'⟩
/-- [elt for tg in d] -/
theorem de_lcKeysN (hc : X.calm = true) (hN : X.N.Nodup) (ok : BlkOk X.N X.env.scope scope own) (hg : ∀ (s : Shared) (H : Hp) (C : Addr) (cl : List (Str × Addr)) (fp : List Addr), PG (X.blk s H scope (compEnvC scope cl C X.env) fp) tg g)
    (hL : NoDK L) (hi : X.N[i]? = some nm) (hv : Vis X.env.scope nm) (ht : τ[i]? = some (some (.d (.dict (encK kd)))))
    (w : ∀ D, M D = none → ∃ Iv : Nat → Cs → Prop, Iv 0 (updC M D (.l [])) ∧ (∀ x, (∃ xs, x.2.2 = HO.dK xs) → ∀ n k d M', kd[n]? = some (k, d) → Iv n M' →
      WGw X.K (x :: L) (own.map (·.2)) g (.d (kD k)) (wipeK τ (own.map (·.2))) M' fun τ2 M3 => DEb X scope (x :: L) elt τ2 M3 fun z M5 => ∃ acc, M5 D = some (.l acc) ∧ acc.length < sizeLine ∧ Iv (n + 1) (updC M5 D (.l (acc ++ [z])))) ∧ (∀ M', Iv kd.length M' → Q (.c D) M'))
    (hd : (nm == ("__debug__" : Str)) = false := by decide) (hcd : (nm == ("__classdict__" : Str)) = false := by decide) (hs : ∀ x, foldedSetIterable (.Name nm p0) X.env x = pure x := by intro _; rfl) : DE X L (.ListComp elt [⟨tg, .Name nm p0, [], 0⟩] scope pos) τ M Q :=
  de_of (pe_lock (pe_lc (te := bE X scope elt) (tt := tYes) hc hN (pi_keys (pe_var hi hv hd hcd)) ok hg (fun _ _ _ _ _ => pts_nil) (fun s H C cl fp => ⟨fun pins s' σ H' Q' I h => h s H C cl fp pins s' I⟩) hs)) fun σ G H Q' gs gm k => by
    obtain ⟨v, hσ, av⟩ := gs.get i _ ht
    cases av with
    | d av =>
      generalize hz : encK kd = zs at av
      cases av with
      | dic hG l =>
        rename_i dd xs
        subst hz
        have lx := AtK.kv kd l
        have hx := lock_exact gm hL hG
        have hne := lock_ne gm hL hG
        refine ⟨dd, .dK xs, hx, trivial, fun od => ?_⟩
        have gmL := gm.lock (od := od) hL hG
        refine lcN_run (kd := kd) gs gmL hσ lx fun D hD => ?_
        obtain ⟨Iv, i0, turn, fin⟩ := w D hD
        exact ⟨Iv, i0, turn, fun M' G' H' iv e' g' => ⟨g'.lk _ List.mem_cons_self, k _ M' _ G' _ (fin _ iv) e' (g'.unlock hne (e' _ _ hG)) (.c D)⟩⟩
end
end Y

namespace Y
open PySem L2 PyProof.Rows
section
variable {X : Cx} {L : Lk} {τ : List (Option Sl)} {M : Cs} {elt tg iter c : Expr} {scope : Scope} {own : List (Str × Nat)} {pos spos py : Pos} {g : TG} {E : Ks} {i : Nat} {y : Str}
theorem ds_setLc0 (hc : X.calm = true) (hN : X.N.Nodup) (hy : X.N[i]? = some y) (hyl : X.env.scope.names.lookup y = some .local)
    (hsw : swapsWith (.ListComp elt [⟨tg, iter, [], 0⟩] scope pos) (some (.Name y py)) spos.line X.env = pure true) (ok : BlkOk X.N X.env.scope scope own) (hg : ∀ (s : Shared) (H : Hp) (C : Addr) (cl : List (Str × Addr)) (fp : List Addr), PG (X.blk s H scope (compEnvC scope cl C X.env) fp) tg g)
    (w : DI X L tg iter τ M fun n S ys M1 => ∀ D, M1 D = none → ∃ Iv : Nat → Cs → Prop, Iv 0 (updC M1 D (.l [])) ∧ (∀ i M', Iv i M' → S M') ∧
      (∀ i y M', i < n → ys i y → Iv i M' → WGw X.K L (own.map (·.2)) g y (wipeK τ (own.map (·.2))) M' fun τ2 M3 => DEb X scope L elt τ2 M3 fun z M4 => ∃ acc, M4 D = some (.l acc) ∧ acc.length < sizeLine ∧ Iv (i + 1) (updC M4 D (.l (acc ++ [z])))) ∧ (∀ M', Iv n M' → E.nx (τ.set i (some (.c D))) M'))
    (hs : ∀ x, foldedSetIterable iter X.env x = pure x := by intro _; rfl) : DS X L (.Assign [.Name y py] (.ListComp elt [⟨tg, iter, [], 0⟩] scope pos) spos) τ M E := by
  refine ds_of (ps_setLc (te := bE X scope elt) (tt := tYes) hc hN hy hyl hsw pi_s ok hg (fun _ _ _ _ _ => pts_nil) (fun s H C cl fp => ⟨fun pins s' σ H' Q' I h => h s H C cl fp pins s' I⟩) hs) fun σ G H D gs gm k => ?_
  refine we_lc (L := L) (M := M) (τ := τ) (Q := fun s M' => E.nx (τ.set i (some s)) M') (fun σ G H R gs gm k => w σ G H R gs gm fun n S ys M1 G1 H1 J q e1 g1 ok => k n S ys M1 G1 H1 J (fun D hD => ?_) e1 g1 ok) σ G H _ gs gm (fun s M1 v G1 H1 q e1 g1 a1 => (k.nx.mono e1).go q g1 ((gs.mono e1).set a1 i))
  obtain ⟨Iv, i0, st, turn, fin⟩ := q D hD
  refine ⟨Iv, i0, st, fun i y M' hi yy iv => ?_, fin⟩
  intro σ G H v Q' gs gm a k
  refine turn i y M' hi yy iv σ G H v Q' gs gm a fun τ' M' σ' G' H' h => k τ' M' σ' G' H' ?_
  intro σ G H Q' gs gm k
  exact k.go (b := true) ⟨fun _ => web (X := X) (scope := scope) h, fun z => nomatch z⟩ gm
end
section
variable {X : Cx} {L : Lk} {τ : List (Option Sl)} {M : Cs} {Q : Sl → Cs → Prop} {elt kx vx tg c : Expr} {scope : Scope} {own : List (Str × Nat)} {pos p0 apos mpos : Pos} {g : TG} {i : Nat} {nm : Str} {kd : List (Key × PyData)}
/-- y = [elt for tg in d if c] -/
theorem ds_setLcKeys {j : Nat} {y : Str} {py spos : Pos} {E : Ks} (hc : X.calm = true) (hN : X.N.Nodup) (hy : X.N[j]? = some y) (hyl : X.env.scope.names.lookup y = some .local)
    (hsw : swapsWith (.ListComp elt [⟨tg, .Name nm p0, [c], 0⟩] scope pos) (some (.Name y py)) spos.line X.env = pure true) (ok : BlkOk X.N X.env.scope scope own) (hg : ∀ (s : Shared) (H : Hp) (C : Addr) (cl : List (Str × Addr)) (fp : List Addr), PG (X.blk s H scope (compEnvC scope cl C X.env) fp) tg g)
    (hL : NoDK L) (hi : X.N[i]? = some nm) (hv : Vis X.env.scope nm) (ht : τ[i]? = some (some (.d (.dict (encK kd)))))
    (w : ∀ D, M D = none → ∃ Iv : Nat → Cs → Prop, Iv 0 (updC M D (.l [])) ∧ (∀ x, (∃ xs, x.2.2 = HO.dK xs) → ∀ n k d M', kd[n]? = some (k, d) → Iv n M' →
      WGw X.K (x :: L) (own.map (·.2)) g (.d (kD k)) (wipeK τ (own.map (·.2))) M' fun τ2 M3 => DTb X scope (x :: L) c τ2 M3 fun b M4 => (b = true → DEb X scope (x :: L) elt τ2 M4 fun z M5 => ∃ acc, M5 D = some (.l acc) ∧ acc.length < sizeLine ∧ Iv (n + 1) (updC M5 D (.l (acc ++ [z])))) ∧ (b = false → Iv (n + 1) M4)) ∧ (∀ M', Iv kd.length M' → E.nx (τ.set j (some (.c D))) M'))
    (hd : (nm == ("__debug__" : Str)) = false := by decide) (hcd : (nm == ("__classdict__" : Str)) = false := by decide)
    (hs : ∀ x, foldedSetIterable (.Name nm p0) X.env x = pure x := by intro _; rfl) : DS X L (.Assign [.Name y py] (.ListComp elt [⟨tg, .Name nm p0, [c], 0⟩] scope pos) spos) τ M E :=
  ds_of (ps_lock (ps_setLc (te := bE X scope elt) (tt := bT X scope c) hc hN hy hyl hsw (pi_keys (pe_var hi hv hd hcd)) ok hg (fun s H C cl fp => pts_one ⟨fun pins s' σ H' Q' I h => h s H C cl fp pins s' I⟩) (fun s H C cl fp => ⟨fun pins s' σ H' Q' I h => h s H C cl fp pins s' I⟩) hs)) fun σ G H D0 gs gm k => by
    obtain ⟨v, hσ, av⟩ := gs.get i _ ht
    cases av with
    | d av =>
      generalize hz : encK kd = zs at av
      cases av with
      | dic hG l =>
        rename_i dd xs
        subst hz
        have lx := AtK.kv kd l
        have hx := lock_exact gm hL hG
        have hne := lock_ne gm hL hG
        refine ⟨dd, .dK xs, hx, trivial, fun od => ?_⟩
        have gmL := gm.lock (od := od) hL hG
        refine lcK_run (kd := kd) gs gmL hσ lx fun D hD => ?_
        obtain ⟨Iv, i0, turn, fin⟩ := w D hD
        exact ⟨Iv, i0, turn, fun M' G' H' iv e' g' => ⟨g'.lk _ List.mem_cons_self, k.nx _ M' _ G' _ (fin _ iv) e' (g'.unlock hne (e' _ _ hG)) ((gs.mono e').set (.c D) j)⟩⟩
theorem lcI_run {σ : L2.St} {G HL : Hp} {Q2 : VK} {dd : Addr} {od : Obj} {xs : List (Key × V)} {vs : List Nat} (gs : GoodS X.K G σ τ) (gmL : GoodM X.K ((dd, od, .dK xs) :: L) M G HL) (hσ : σ[i]? = some (some (.ref dd))) (lx : KvAt X.K G xs (slK kd))
    (w : ∀ D, M D = none → ∃ Iv : Nat → Cs → Prop, Iv 0 (updC M D (.l [])) ∧ (∀ x, (∃ xs, x.2.2 = HO.dK xs) → ∀ n k d M', kd[n]? = some (k, d) → Iv n M' →
      WGw X.K (x :: L) vs g (.u [.d (kD k), .d d]) (wipeK τ vs) M' fun τ2 M3 => DTb X scope (x :: L) c τ2 M3 fun b M4 => (b = true → DEb X scope (x :: L) elt τ2 M4 fun z M5 => ∃ acc, M5 D = some (.l acc) ∧ acc.length < sizeLine ∧ Iv (n + 1) (updC M5 D (.l (acc ++ [z])))) ∧ (b = false → Iv (n + 1) M4)) ∧
      (∀ M' G' H', Iv kd.length M' → Ex G G' → GoodM X.K ((dd, od, .dK xs) :: L) M' G' H' → Q2 (.ref D) H')) : tLc (iItems (tVar i)) g (bT X scope c) (bE X scope elt) vs σ HL Q2 := by
        have hx0 : HL dd = some (.frz od (.dK xs)) := gmL.lk _ List.mem_cons_self
        refine ⟨.ref dd, hσ, dd, od, xs, rfl, hx0, fun D hD => ?_⟩
        obtain ⟨Iv, i0, turn, fin⟩ := w D (gmL.free hD).2
        have hl : xs.length = kd.length := by rw [lx.len]; simp [slK]
        refine ⟨fun n m H' => m = kd.length - n ∧ n ≤ kd.length ∧ ∃ M' G', Iv n M' ∧ Ex G G' ∧ GoodM X.K ((dd, od, .dK xs) :: L) M' G' H', ⟨kd.length, by simp, Nat.zero_le _, _, G, i0, Ex.refl _, gmL.newC hD ⟨[], upd_same, .nil⟩⟩, ?_⟩
        rintro n m H' ⟨rfl, hn, M', G', iv, e', g'⟩
        have hd' : H' dd = some (.frz od (.dK xs)) := g'.lk _ List.mem_cons_self
        by_cases hlt : n < kd.length
        · refine .inr ⟨⟨hd', by rw [hl]; exact hlt⟩, fun H2 => ∃ M2 G2, Iv (n + 1) M2 ∧ Ex G G2 ∧ GoodM X.K ((dd, od, .dK xs) :: L) M2 G2 H2, fun H2 ⟨M2, G2, h⟩ => ⟨kd.length - (n + 1), by omega, rfl, hlt, M2, G2, h⟩, fun x H2 hy => ?_⟩
          obtain ⟨T, k1, v1, hx1, rfl, nT, rfl⟩ := hy
          obtain ⟨u1, hu1, au1⟩ := (KvAt.mono e' lx).get (i := n) (k := (kd[n]).1) (s := .d (kd[n]).2) (by unfold slK; rw [List.getElem?_map, List.getElem?_eq_getElem hlt]; rfl)
          rw [hx1] at hu1
          have hu2 := Option.some.inj hu1
          have f := g'.free nT
          have ek : k1 = (kd[n]).1 := (Prod.mk.inj hu2).1
          have ev : v1 = u1 := (Prod.mk.inj hu2).2
          subst ev
          have ak : At X.K (upd G' T (.tup [kV k1, v1])) (kV k1) (kD (kd[n]).1) := by
            rw [← ek]
            cases k1 with
            | inl z => exact .int z
            | inr z => exact .str z
          have e2 := Ex.new (G := G') (o := .tup [kV k1, v1]) f.1
          refine turn (dd, od, .dK xs) ⟨xs, rfl⟩ n (kd[n]).1 (kd[n]).2 M' (List.getElem?_eq_getElem hlt) iv _ _ _ _ _ ((gs.mono (e'.trans e2)).wipe vs) (g'.newD nT) (.u upd_same (.cons (.d ak) (.cons (au1.mono e2) .nil))) fun τ3 M3 σ3 G3 H3 q3 e3 g3 s3 z3 => ?_
          refine ⟨z3.trans wipe_wipe, ?_⟩
          have e13 := (e'.trans e2).trans e3
          refine wtb (X := X) (scope := scope) (e := c) q3 σ3 G3 H3 _ s3 g3 fun b M4 G4 H4 q4 e4 g4 => ?_
          cases b with
          | true =>
            rw [if_pos rfl]
            refine web (X := X) (scope := scope) (e := elt) (q4.1 rfl) σ3 G4 H4 _ (s3.mono e4) g4 fun z M5 v5 G5 H5 ⟨acc, hacc, hl5, iv5⟩ e5 g5 a5 => ?_
            obtain ⟨f5, ys, h1, h2⟩ := g5.cell D _ hacc
            refine ⟨ys, h1, by rw [h2.len]; exact hl5, _, G5, iv5, (e13.trans e4).trans e5, ?_⟩
            exact g5.write hacc h1 (fun _ _ z => nomatch z) ⟨_, upd_same, h2.append (.cons a5 .nil)⟩
          | false =>
            rw [if_neg Bool.false_ne_true]
            exact ⟨M4, G4, q4.2 rfl, e13.trans e4, g4⟩
        · have e : n = kd.length := by omega
          subst e
          exact .inl ⟨⟨hd', by rw [hl]; exact Nat.le_refl _⟩, fin M' G' H' iv e' g'⟩
/-- [elt for tg in d.items() if c] -/
theorem de_lcItems {elts : List Expr} {kk : Nat} {tpos : Pos} (hc : X.calm = true) (hN : X.N.Nodup) (ok : BlkOk X.N X.env.scope scope own) (hg : ∀ (s : Shared) (H : Hp) (C : Addr) (cl : List (Str × Addr)) (fp : List Addr), PG (X.blk s H scope (compEnvC scope cl C X.env) fp) (.Tuple elts kk tpos) g)
    (hL : NoDK L) (hi : X.N[i]? = some nm) (hv : Vis X.env.scope nm) (ht : τ[i]? = some (some (.d (.dict (encK kd)))))
    (w : ∀ D, M D = none → ∃ Iv : Nat → Cs → Prop, Iv 0 (updC M D (.l [])) ∧ (∀ x, (∃ xs, x.2.2 = HO.dK xs) → ∀ n k d M', kd[n]? = some (k, d) → Iv n M' →
      WGw X.K (x :: L) (own.map (·.2)) g (.u [.d (kD k), .d d]) (wipeK τ (own.map (·.2))) M' fun τ2 M3 => DTb X scope (x :: L) c τ2 M3 fun b M4 => (b = true → DEb X scope (x :: L) elt τ2 M4 fun z M5 => ∃ acc, M5 D = some (.l acc) ∧ acc.length < sizeLine ∧ Iv (n + 1) (updC M5 D (.l (acc ++ [z])))) ∧ (b = false → Iv (n + 1) M4)) ∧ (∀ M', Iv kd.length M' → Q (.c D) M'))
    (hd : (nm == ("__debug__" : Str)) = false := by decide) (hcd : (nm == ("__classdict__" : Str)) = false := by decide)
    (hbase : attributeBase (.Name nm p0) "items" X.env (eval (.Name nm p0) X.env) = eval (.Name nm p0) X.env := by rfl) (hline : (apos.endLine == mpos.line) = true := by rfl)
    (hs : ∀ x, foldedSetIterable (.Call (.Attribute (.Name nm p0) "items" apos) [] [] mpos) X.env x = pure x := by intro _; rfl) : DE X L (.ListComp elt [⟨.Tuple elts kk tpos, .Call (.Attribute (.Name nm p0) "items" apos) [] [] mpos, [c], 0⟩] scope pos) τ M Q :=
  de_of (pe_lock (pe_lc (te := bE X scope elt) (tt := bT X scope c) hc hN (pi_items (pe_var hi hv hd hcd) hbase hline) ok hg (fun s H C cl fp => pts_one ⟨fun pins s' σ H' Q' I h => h s H C cl fp pins s' I⟩) (fun s H C cl fp => ⟨fun pins s' σ H' Q' I h => h s H C cl fp pins s' I⟩) hs)) fun σ G H Q' gs gm k => by
    obtain ⟨v, hσ, av⟩ := gs.get i _ ht
    cases av with
    | d av =>
      generalize hz : encK kd = zs at av
      cases av with
      | dic hG l =>
        rename_i dd xs
        subst hz
        have lx := AtK.kv kd l
        have hx := lock_exact gm hL hG
        have hne := lock_ne gm hL hG
        refine ⟨dd, .dK xs, hx, trivial, fun od => ?_⟩
        have gmL := gm.lock (od := od) hL hG
        refine lcI_run (kd := kd) gs gmL hσ lx fun D hD => ?_
        obtain ⟨Iv, i0, turn, fin⟩ := w D hD
        exact ⟨Iv, i0, turn, fun M' G' H' iv e' g' => ⟨g'.lk _ List.mem_cons_self, k _ M' _ G' _ (fin _ iv) e' (g'.unlock hne (e' _ _ hG)) (.c D)⟩⟩
end
section
variable {X : Cx} {L : Lk} {τ : List (Option Sl)} {M : Cs} {Q : Sl → Cs → Prop} {e a b c o tg iter : Expr} {es : List Expr} {pos apos cpos pos' p0 : Pos} {E : Ks} {st : Stmt} {sts body : List Stmt} {nm : Str} {i : Nat}
/-- for k in d, d a name that holds data -/
theorem ds_forKeysL {kd : List (Key × PyData)} (hp : PassesOwn (model X.prog X.w) X.A X.env X.xe) (hc : X.calm = true) (hL : NoDK L) (hN : X.N[i]? = some nm) (hv : Vis X.env.scope nm) (ht : τ[i]? = some (some (.d (.dict (encK kd)))))
    (Iv : Nat → List (Option Sl) → Cs → Prop) (i0 : Iv 0 τ M)
    (turn : ∀ x, (∃ xs, x.2.2 = HO.dK xs ∧ xs.length = kd.length) → ∀ n k d τ' M', kd[n]? = some (k, d) → Iv n τ' M' → DG X (x :: L) tg (.d (kD k)) τ' M' fun τ2 M2 => DB X (x :: L) body τ2 M2 { E with nx := Iv (n + 1), ct := Iv (n + 1), bk := E.nx })
    (fin : ∀ τ' M', Iv kd.length τ' M' → E.nx τ' M')
    (hd : (nm == ("__debug__" : Str)) = false := by decide) (hcd : (nm == ("__classdict__" : Str)) = false := by decide)
    (hs : ∀ x, foldedSetIterable (.Name nm p0) X.env x = pure x := by intro _; rfl) : DS X L (.For tg (.Name nm p0) body [] pos) τ M E :=
  ds_of (ps_lock (ps_for hp hc (pi_keys (pe_var hN hv hd hcd)) pg_s pss_s hs)) fun σ G H D gs gm k => by
    obtain ⟨v, hσ, av⟩ := gs.get i _ ht
    cases av with
    | d av =>
      generalize hz : encK kd = zs at av
      cases av with
      | dic hG l =>
        rename_i dd xs
        subst hz
        have lx := AtK.kv kd l
        have hx := lock_exact gm hL hG
        have hne := lock_ne gm hL hG
        refine ⟨dd, .dK xs, hx, trivial, fun od => ?_⟩
        have gmL := gm.lock (od := od) hL hG
        have kL : EndsOk X.K ((dd, od, .dK xs) :: L) G E ⟨fun σ' H' => H' dd = some (.frz od (.dK xs)) ∧ D.nx σ' (upd H' dd (.dK xs)), fun v H' => H' dd = some (.frz od (.dK xs)) ∧ D.rt v (upd H' dd (.dK xs)), fun σ' H' => H' dd = some (.frz od (.dK xs)) ∧ D.bk σ' (upd H' dd (.dK xs)), fun σ' H' => H' dd = some (.frz od (.dK xs)) ∧ D.ct σ' (upd H' dd (.dK xs))⟩ :=
          ⟨fun τ' M' σ' G' H' q e g s => ⟨g.lk _ List.mem_cons_self, k.nx _ _ _ G' _ q e (g.unlock hne (e _ _ hG)) s⟩, fun s M' v G' H' q e g a => ⟨g.lk _ List.mem_cons_self, k.rt _ _ _ G' _ q e (g.unlock hne (e _ _ hG)) a⟩,
            fun τ' M' σ' G' H' q e g s => ⟨g.lk _ List.mem_cons_self, k.bk _ _ _ G' _ q e (g.unlock hne (e _ _ hG)) s⟩, fun τ' M' σ' G' H' q e g s => ⟨g.lk _ List.mem_cons_self, k.ct _ _ _ G' _ q e (g.unlock hne (e _ _ hG)) s⟩⟩
        refine ⟨.ref dd, hσ, dd, od, rfl, .inl ⟨xs, upd_same, ?_⟩⟩
        refine ⟨fun n m σ' H' => m = kd.length - n ∧ n ≤ kd.length ∧ ∃ τ' M' G', Iv n τ' M' ∧ Ex G G' ∧ GoodS X.K G' σ' τ' ∧ GoodM X.K ((dd, od, .dK xs) :: L) M' G' H', ⟨kd.length, by simp, Nat.zero_le _, τ, M, G, i0, Ex.refl _, gs, gmL⟩, ?_⟩
        rintro n m σ' H' ⟨rfl, hn, τ', M', G', iv, e', s', g'⟩
        have hl : xs.length = kd.length := by rw [lx.len]; simp [slK]
        have hd' : H' dd = some (.frz od (.dK xs)) := g'.lk _ List.mem_cons_self
        by_cases hlt : n < kd.length
        · refine .inr ⟨⟨hd', by rw [hl]; exact hlt⟩, fun σ2 H2 => ∃ τ2 M2 G2, Iv (n + 1) τ2 M2 ∧ Ex G G2 ∧ GoodS X.K G2 σ2 τ2 ∧ GoodM X.K ((dd, od, .dK xs) :: L) M2 G2 H2, fun σ2 H2 ⟨τ2, M2, G2, h⟩ => ⟨kd.length - (n + 1), by omega, rfl, hlt, τ2, M2, G2, h⟩, fun x H2 hy => ?_⟩
          obtain ⟨rfl, k1, v1, hx1, rfl⟩ := hy
          obtain ⟨u1, hu1, au1⟩ := (KvAt.mono e' lx).get (i := n) (k := (kd[n]).1) (s := .d (kd[n]).2) (by unfold slK; rw [List.getElem?_map, List.getElem?_eq_getElem hlt]; rfl)
          rw [hx1] at hu1
          have hu2 := Option.some.inj hu1
          have ek : k1 = (kd[n]).1 := (Prod.mk.inj hu2).1
          have ak : At X.K G' (kV k1) (kD (kd[n]).1) := by
            rw [← ek]
            cases k1 with
            | inl z => exact .int z
            | inr z => exact .str z
          refine turn (dd, od, .dK xs) ⟨xs, rfl, hl⟩ n (kd[n]).1 (kd[n]).2 τ' M' (List.getElem?_eq_getElem hlt) iv σ' _ _ _ _ s' g' (.d ak) fun τ3 M3 σ3 G3 H3 q3 e3 g3 s3 => ?_
          have e13 := e'.trans e3
          exact q3 σ3 G3 H3 _ s3 g3 ⟨fun τ4 M4 σ4 G4 H4 q4 e4 g4 s4 => ⟨τ4, M4, G4, q4, e13.trans e4, s4, g4⟩, kL.rt.mono e13, kL.nx.mono e13, fun τ4 M4 σ4 G4 H4 q4 e4 g4 s4 => ⟨τ4, M4, G4, q4, e13.trans e4, s4, g4⟩⟩
        · have e : n = kd.length := by omega
          subst e
          exact .inl ⟨⟨hd', by rw [hl]; exact Nat.le_refl _⟩, kL.nx τ' M' σ' G' H' (fin _ _ iv) e' g' s'⟩
end
end Y

namespace Y
open PySem L2 PyProof.Rows
/-! sorted(xs), the items data that are alike -/
theorem each_ix {α β : Type} {R : α → β → Prop} : ∀ {xs : List α} {bs : List β}, xs.length = bs.length → (∀ (i : Nat) x b, xs[i]? = some x → bs[i]? = some b → R x b) → PySem.W.EachIs R xs bs
  | [], [], _, _ => .nil
  | x :: xs, b :: bs, h, f => .cons (f 0 x b rfl rfl) (each_ix (by simpa using h) fun i y c h1 h2 => f (i + 1) y c h1 h2)
  | [], _ :: _, h, _ => by simp at h
  | _ :: _, [], h, _ => by simp at h
theorem vals_ix : ∀ {xs : List V} {us : List Value}, Vals xs us → ∀ {i : Nat} {u : Value}, us[i]? = some u → ∃ x, xs[i]? = some x ∧ RelV x u
  | _, _, .cons h t, 0, u, e => by cases e; exact ⟨_, rfl, h⟩
  | _, _, .cons h t, i + 1, u, e => vals_ix t e
  | _, _, .nil, _, _, e => by simp at e
theorem sl_ix {K : PySem.W.Frag} {G : Hp} : ∀ {xs : List V} {ss : List Sl}, xs.length = ss.length → (∀ (i : Nat) x s, xs[i]? = some x → ss[i]? = some s → SlAt K G x s) → SlL K G xs ss
  | [], [], _, _ => .nil
  | x :: xs, b :: bs, h, f => .cons (f 0 x b rfl rfl) (sl_ix (by simpa using h) fun i y c h1 h2 => f (i + 1) y c h1 h2)
  | [], _ :: _, h, _ => by simp at h
  | _ :: _, [], h, _ => by simp at h
section
variable {X : Cx} {β : Type}
def rSortD (K : PySem.W.Frag) (enc : β → PyData) : List V → Hp → VK → Prop := fun vs H Q => ∃ (a : Addr) (xs : List V) (bs : List β), vs = [V.ref a] ∧ SqL K H a xs ∧ xs.length = bs.length ∧ (∀ (i : Nat) x b, xs[i]? = some x → bs[i]? = some b → Dp K H x (enc b)) ∧ PySem.W.AllAlike (bs.map enc) ∧ PySem.W.Sortable (bs.map enc) ∧ bs.length ≤ sizeLine ∧ (∀ b ∈ bs, (enc b).depth ≤ 50) ∧
  ∀ (ys : List V) (p : Addr), ys.length = bs.length → (∀ (i : Nat) y b, ys[i]? = some y → (bs.mergeSort (PySem.W.dataLe false enc))[i]? = some b → ∃ j : Nat, xs[j]? = some y ∧ bs[j]? = some b) → H p = none → Q (.ref p) (upd H p (.lst ys))
theorem cr_sortD {enc : β → PyData} (hu : X.A.units + 64 < cLine) : CallR X (.builtin "sorted") (rSortD X.K enc) := by
  intro pins s σ H vs us Q I r h
  obtain ⟨a, xs, bs, rfl, hs, hlen, hdp, hal, hso, hL, hdep, q⟩ := h
  obtain ⟨its, rv, hl, _⟩ := I.list hs
  rw [Vals.ref1 r]
  have li : its.length = bs.length := by rw [← rv.length, hlen]
  have e : PySem.W.EachIs (fun (v : Value) (b : β) => ∃ (j : Nat) (x : V), xs[j]? = some x ∧ bs[j]? = some b ∧ RelV x v) its bs := each_ix li fun i v b h1 h2 => by
    obtain ⟨x, hx, rx⟩ := vals_ix rv h1
    exact ⟨i, x, hx, h2, rx⟩
  have er : PySem.W.EachIs (fun (v : Value) (b : β) => ∃ as, Reads s.heap v (enc b) as) its bs := each_ix li fun i v b h1 h2 => by
    obtain ⟨x, hx, rx⟩ := vals_ix rv h1
    exact Dp.reads I (enc b) x v (hdp i x b hx h2) rx
  refine PySem.W.sorted_data hl.isList e er hal hso hL (fun b hb => by have := hdep b hb; omega) fun out hout eo => ?_
  have key : ∀ {out : List Value} {cs : List β}, PySem.W.EachIs (fun (v : Value) (b : β) => ∃ (j : Nat) (x : V), xs[j]? = some x ∧ bs[j]? = some b ∧ RelV x v) out cs → ∃ ys : List V, Vals ys out ∧ ∀ (i : Nat) y b, ys[i]? = some y → cs[i]? = some b → ∃ j : Nat, xs[j]? = some y ∧ bs[j]? = some b := by
    intro out cs h
    induction h with
    | nil => exact ⟨[], .nil, fun i y b h => by simp at h⟩
    | cons h1 _ ih =>
      obtain ⟨j, x, hx, hb, rx⟩ := h1
      obtain ⟨ys, hv, hy⟩ := ih
      refine ⟨x :: ys, .cons rx hv, fun i y b h1 h2 => ?_⟩
      cases i with
      | zero =>
        cases h1
        cases h2
        exact ⟨j, hx, hb⟩
      | succ i => exact hy i y b h1 h2
  obtain ⟨ys, hv, hy⟩ := key eo
  obtain ⟨ep, he'⟩ := PyProof.Rows.sortedAll_at s.heap its (List.toArray out)
  have hly : ys.length = bs.length := by rw [hv.length, hout]
  exact ⟨.ref _, upd H (s.heap.objs.size + 1) (.lst ys), I.laid (t' := s.toks) (fun _ _ => PyProof.Rows.sortedAll_old) (Nat.le_succ _) ⟨by rw [hly]; exact hL, out, ep, hv, he'⟩, rfl, q ys _ hly hy (I.hok.fresh (Nat.le_succ _))⟩
end
section
variable {X : Cx} {L : Lk} {M : Cs} {Q : Sl → Cs → Prop} {s : Sl} {β : Type}
theorem k_sortD {enc : β → PyData} {bs : List β} (hT : isTup s = false) (h : seqOf M s = some (bs.map fun b => .d (enc b))) (hal : PySem.W.AllAlike (bs.map enc)) (hso : PySem.W.Sortable (bs.map enc)) (hL : bs.length ≤ sizeLine) (hcan : ∀ b ∈ bs, (enc b).canLay0 = true) (hdep : ∀ b ∈ bs, (enc b).depth ≤ 50)
    (q : ∀ p, M p = none → Q (.c p) (updC M p (.l ((bs.mergeSort (PySem.W.dataLe false enc)).map fun b => .d (enc b))))) : RCk X.K L (rSortD X.K enc) [s] M Q := fun G H vs Q' g a k => by
  obtain ⟨v, rfl, a1⟩ := sl1 a
  obtain ⟨p, xs, rfl, r, l⟩ := seq_at g a1 h
  rw [hT, if_neg Bool.false_ne_true] at r
  have at_ : ∀ (i : Nat) x b, xs[i]? = some x → bs[i]? = some b → SlAt X.K G x (.d (enc b)) := fun i x b h1 h2 => by
    obtain ⟨y, hy, ay⟩ := l.get (i := i) (by rw [List.getElem?_map, h2]; rfl)
    rw [h1] at hy
    cases hy
    exact ay
  refine ⟨p, xs, bs, rfl, r, by rw [l.len, List.length_map], fun i x b h1 h2 => ?_, hal, hso, hL, hdep, fun ys c hly hy hc => ?_⟩
  · have := at_ i x b h1 h2
    cases this with
    | d z => exact At.dp g _ _ (hcan b (List.mem_of_getElem? h2)) z
  · refine k _ _ _ G _ (q c (g.free hc).2) (Ex.refl G) (g.newC hc ⟨_, upd_same, sl_ix (by rw [hly, List.length_map, List.length_mergeSort]) fun i x t h1 h2 => ?_⟩) (.c c)
    rw [List.getElem?_map] at h2
    obtain ⟨b, hb, rfl⟩ := Option.map_eq_some_iff.mp h2
    obtain ⟨j, h3, h4⟩ := hy i x b h1 hb
    exact at_ j x b h3 h4
end
end Y

namespace Y
open PySem L2 PyProof.Rows
/-! x in xs, x not in xs, both data without dicts -/
section
variable {X : Cx}
def rMemL (K : PySem.W.Frag) (neg : Bool) : R2 := fun x y H Q => ∃ (d : PyData) (ds : List PyData), Dp K H x d ∧ Dp K H y (.list ds) ∧ d.canLay0 = true ∧ PyData.canLayAll0 ds = true ∧ d.depth ≤ 50 ∧ Q (.bl (if neg then !(ds.any fun e => PyData.eqv e d) else ds.any fun e => PyData.eqv e d)) H
theorem op_memL (hu : X.A.units + 64 < cLine) : OpR X (compareOp .In) (rMemL X.K false) := by
  intro pins s σ H x y v u Q I rx ry h
  obtain ⟨d, ds, hd, he, c1, c2, dp, q⟩ := h
  obtain ⟨as, r1⟩ := Dp.reads I d x v hd rx
  obtain ⟨bs, r2⟩ := Dp.reads I (.list ds) y u he ry
  exact SeqAt.in_list_data r2 r1 (PyData.plainAll_of_canLay0 _ c2) (PyData.plain_of_canLay0 _ c1) (by have := Nat.min_le_right (PyData.depthAll ds) d.depth; omega) ⟨.bl _, H, I, rfl, q⟩
theorem op_nmemL (hu : X.A.units + 64 < cLine) : OpR X (compareOp .NotIn) (rMemL X.K true) := by
  intro pins s σ H x y v u Q I rx ry h
  obtain ⟨d, ds, hd, he, c1, c2, dp, q⟩ := h
  obtain ⟨as, r1⟩ := Dp.reads I d x v hd rx
  obtain ⟨bs, r2⟩ := Dp.reads I (.list ds) y u he ry
  exact SeqAt.notIn_list_data r2 r1 (PyData.plainAll_of_canLay0 _ c2) (PyData.plain_of_canLay0 _ c1) (by have := Nat.min_le_right (PyData.depthAll ds) d.depth; omega) ⟨.bl _, H, I, rfl, q⟩
end
section
variable {X : Cx} {K : PySem.W.Frag} {L : Lk} {M : Cs} {Q : Sl → Cs → Prop} {x y : Sl} {d : PyData} {ds : List PyData}
theorem k_memL {neg : Bool} (hx : IsD M x d) (hy : IsD M y (.list ds)) (c1 : d.canLay0 = true) (c2 : PyData.canLayAll0 ds = true) (dp : d.depth ≤ 50) (q : Q (.d (.bool (if neg then !(ds.any fun e => PyData.eqv e d) else ds.any fun e => PyData.eqv e d))) M) : R2k K L (rMemL K neg) x y M Q := fun G H v u Q' g a1 a2 k =>
  ⟨d, ds, hx.dp g c1 a1, hy.dp g c2 a2, c1, c2, dp, k.go q g (.d (.bl _))⟩
end
end Y

namespace Y
open PySem L2 PyProof.Rows
/-! for k, v in E.items(), E any expression whose value is data -/
section
variable {X : Cx}
/-- ends that first let go of something locked -/
def UnlD (X : Cx) (D : Ends) : Ends :=
  ⟨fun σ' H' => ∃ d od u, H' d = some (.frz od u) ∧ (∀ o' u', X.H_0 d ≠ some (.frz o' u')) ∧ D.nx σ' (upd H' d u),
   fun v H' => ∃ d od u, H' d = some (.frz od u) ∧ (∀ o' u', X.H_0 d ≠ some (.frz o' u')) ∧ D.rt v (upd H' d u),
   fun σ' H' => ∃ d od u, H' d = some (.frz od u) ∧ (∀ o' u', X.H_0 d ≠ some (.frz o' u')) ∧ D.bk σ' (upd H' d u),
   fun σ' H' => ∃ d od u, H' d = some (.frz od u) ∧ (∀ o' u', X.H_0 d ≠ some (.frz o' u')) ∧ D.ct σ' (upd H' d u)⟩
theorem ps_unl {st : Stmt} {t : TS} (h : PS X st t) : PS X st (fun D σ H => t (UnlD X D) σ H) := by
  refine ⟨fun pins s σ H D I hw => ?_⟩
  refine thn (h.run pins s σ _ _ I hw) fun f s1 q => ?_
  cases f with
  | next => obtain ⟨σ', H', I2, d, od, u, e, hn, q⟩ := q; exact ⟨σ', _, I2.unlock e hn, q⟩
  | brk => obtain ⟨σ', H', I2, d, od, u, e, hn, q⟩ := q; exact ⟨σ', _, I2.unlock e hn, q⟩
  | cont => obtain ⟨σ', H', I2, d, od, u, e, hn, q⟩ := q; exact ⟨σ', _, I2.unlock e hn, q⟩
  | ret v => obtain ⟨x, σ', H', I2, r, d, od, u, e, hn, q⟩ := q; exact ⟨x, σ', _, I2.unlock e hn, r, q⟩
def tLockV (X : Cx) (t : TE) : TE := fun σ H Q => t σ H fun x H1 => ∃ d u, x = .ref d ∧ H1 d = some u ∧ Mut (some u) ∧ ∀ od, (∀ o' u', X.H_0 d ≠ some (.frz o' u')) → Q x (upd H1 d (.frz od u))
theorem pe_lockV {e : Expr} {t : TE} (h : PE X e t) : PE X e (tLockV X t) := by
  refine ⟨fun pins s σ H Q I hw => ?_⟩
  refine thn (h.run pins s σ _ _ I hw) fun v s1 ⟨x, H1, I1, r, q⟩ => ?_
  obtain ⟨d, u, ex, hd, mu, q⟩ := q
  obtain ⟨od, I2⟩ := I1.lock hd mu
  exact ⟨x, _, I2, r, q od (I1.nofrz hd mu)⟩
end
section
variable {X : Cx} {L : Lk} {τ : List (Option Sl)} {M : Cs} {e : Expr} {pos apos cpos p0 : Pos} {E : Ks} {body : List Stmt}
theorem ds_forItemsT {elts : List Expr} {kk : Nat} {tpos : Pos} (hp : PassesOwn (model X.prog X.w) X.A X.env X.xe) (hc : X.calm = true) (hL : NoDK L)
    (w : DE X L e τ M fun s M0 => ∃ (kd : List (Key × PyData)) (Iv : Nat → List (Option Sl) → Cs → Prop), s = .d (.dict (encK kd)) ∧ Iv 0 τ M0 ∧
      (∀ x, (∃ xs, x.2.2 = HO.dK xs) → ∀ n k d τ' M', kd[n]? = some (k, d) → Iv n τ' M' → DG X (x :: L) (.Tuple elts kk tpos) (.u [.d (kD k), .d d]) τ' M' fun τ2 M2 => DB X (x :: L) body τ2 M2 { E with nx := Iv (n + 1), ct := Iv (n + 1), bk := E.nx }) ∧
      (∀ τ' M', Iv kd.length τ' M' → E.nx τ' M'))
    (hbase : attributeBase e "items" X.env (eval e X.env) = eval e X.env := by rfl) (hline : (apos.endLine == cpos.line) = true := by rfl)
    (hs : ∀ x, foldedSetIterable (.Call (.Attribute e "items" apos) [] [] cpos) X.env x = pure x := by intro _; rfl) : DS X L (.For (.Tuple elts kk tpos) (.Call (.Attribute e "items" apos) [] [] cpos) body [] pos) τ M E :=
  ds_of (ps_unl (ps_for hp hc (pi_items (pe_lockV pe_s) hbase hline) pg_s pss_s hs)) fun σ G0 H0 D gs0 gm0 k => by
    refine w σ G0 H0 _ gs0 gm0 fun s M0 v G H ⟨kd, Iv, es, i0, turn, fin⟩ e1 gm av => ?_
    have gs := gs0.mono e1
    subst es
    cases av with
    | d av =>
      generalize hz : encK kd = zs at av
      cases av with
      | dic hG l =>
        rename_i dd xs
        subst hz
        have lx := AtK.kv kd l
        have hx := lock_exact gm hL hG
        have hne := lock_ne gm hL hG
        refine ⟨dd, .dK xs, rfl, hx, trivial, fun od hnf => ?_⟩
        have gmL := gm.lock (od := od) hL hG
        have kL : EndsOk X.K ((dd, od, .dK xs) :: L) G E (UnlD X D) :=
          ⟨fun τ' M' σ' G' H' q e g s => ⟨dd, od, .dK xs, g.lk _ List.mem_cons_self, hnf, k.nx _ _ _ G' _ q (e1.trans e) (g.unlock hne (e _ _ hG)) s⟩,
            fun s M' v G' H' q e g a => ⟨dd, od, .dK xs, g.lk _ List.mem_cons_self, hnf, k.rt _ _ _ G' _ q (e1.trans e) (g.unlock hne (e _ _ hG)) a⟩,
            fun τ' M' σ' G' H' q e g s => ⟨dd, od, .dK xs, g.lk _ List.mem_cons_self, hnf, k.bk _ _ _ G' _ q (e1.trans e) (g.unlock hne (e _ _ hG)) s⟩,
            fun τ' M' σ' G' H' q e g s => ⟨dd, od, .dK xs, g.lk _ List.mem_cons_self, hnf, k.ct _ _ _ G' _ q (e1.trans e) (g.unlock hne (e _ _ hG)) s⟩⟩
        refine ⟨dd, od, xs, rfl, upd_same, ?_⟩
        refine ⟨fun n m σ' H' => m = kd.length - n ∧ n ≤ kd.length ∧ ∃ τ' M' G', Iv n τ' M' ∧ Ex G G' ∧ GoodS X.K G' σ' τ' ∧ GoodM X.K ((dd, od, .dK xs) :: L) M' G' H', ⟨kd.length, by simp, Nat.zero_le _, τ, M0, G, i0, Ex.refl _, gs, gmL⟩, ?_⟩
        rintro n m σ' H' ⟨rfl, hn, τ', M', G', iv, e', s', g'⟩
        have hl : xs.length = kd.length := by rw [lx.len]; simp [slK]
        have hd' : H' dd = some (.frz od (.dK xs)) := g'.lk _ List.mem_cons_self
        by_cases hlt : n < kd.length
        · refine .inr ⟨⟨hd', by rw [hl]; exact hlt⟩, fun σ2 H2 => ∃ τ2 M2 G2, Iv (n + 1) τ2 M2 ∧ Ex G G2 ∧ GoodS X.K G2 σ2 τ2 ∧ GoodM X.K ((dd, od, .dK xs) :: L) M2 G2 H2, fun σ2 H2 ⟨τ2, M2, G2, h⟩ => ⟨kd.length - (n + 1), by omega, rfl, hlt, τ2, M2, G2, h⟩, fun x H2 hy => ?_⟩
          obtain ⟨T, k1, v1, hx1, rfl, nT, rfl⟩ := hy
          obtain ⟨u1, hu1, au1⟩ := (KvAt.mono e' lx).get (i := n) (k := (kd[n]).1) (s := .d (kd[n]).2) (by unfold slK; rw [List.getElem?_map, List.getElem?_eq_getElem hlt]; rfl)
          rw [hx1] at hu1
          have hu2 := Option.some.inj hu1
          have f := g'.free nT
          have ek : k1 = (kd[n]).1 := (Prod.mk.inj hu2).1
          have ev : v1 = u1 := (Prod.mk.inj hu2).2
          subst ev
          have ak : At X.K (upd G' T (.tup [kV k1, v1])) (kV k1) (kD (kd[n]).1) := by
            rw [← ek]
            cases k1 with
            | inl z => exact .int z
            | inr z => exact .str z
          have e2 := Ex.new (G := G') (o := .tup [kV k1, v1]) f.1
          refine turn (dd, od, .dK xs) ⟨xs, rfl⟩ n (kd[n]).1 (kd[n]).2 τ' M' (List.getElem?_eq_getElem hlt) iv σ' _ _ _ _ (s'.mono e2) (g'.newD nT) (.u upd_same (.cons (.d ak) (.cons (au1.mono e2) .nil))) fun τ3 M3 σ3 G3 H3 q3 e3 g3 s3 => ?_
          have e13 := (e'.trans e2).trans e3
          exact q3 σ3 G3 H3 _ s3 g3 ⟨fun τ4 M4 σ4 G4 H4 q4 e4 g4 s4 => ⟨τ4, M4, G4, q4, e13.trans e4, s4, g4⟩, kL.rt.mono e13, kL.nx.mono e13, fun τ4 M4 σ4 G4 H4 q4 e4 g4 s4 => ⟨τ4, M4, G4, q4, e13.trans e4, s4, g4⟩⟩
        · have e : n = kd.length := by omega
          subst e
          exact .inl ⟨⟨hd', by rw [hl]; exact Nat.le_refl _⟩, kL.nx τ' M' σ' G' H' (fin _ _ iv) e' g' s'⟩
end
end Y

namespace Y
open PySem L2 PyProof.Rows
/-! [elt for tg in d.values()] -/
section
variable {X : Cx} {L : Lk} {τ : List (Option Sl)} {M : Cs} {Q : Sl → Cs → Prop} {elt tg : Expr} {scope : Scope} {own : List (Str × Nat)} {pos p0 apos mpos : Pos} {g : TG} {i : Nat} {nm : Str} {kd : List (Key × PyData)}
theorem lcW_run {σ : L2.St} {G HL : Hp} {Q2 : VK} {dd : Addr} {od : Obj} {xs : List (Key × V)} {vs : List Nat} (gs : GoodS X.K G σ τ) (gmL : GoodM X.K ((dd, od, .dK xs) :: L) M G HL) (hσ : σ[i]? = some (some (.ref dd))) (lx : KvAt X.K G xs (slK kd))
    (w : ∀ D, M D = none → ∃ Iv : Nat → Cs → Prop, Iv 0 (updC M D (.l [])) ∧ (∀ x, (∃ xs, x.2.2 = HO.dK xs) → ∀ n k d M', kd[n]? = some (k, d) → Iv n M' →
      WGw X.K (x :: L) vs g (.d d) (wipeK τ vs) M' fun τ2 M3 => DEb X scope (x :: L) elt τ2 M3 fun z M5 => ∃ acc, M5 D = some (.l acc) ∧ acc.length < sizeLine ∧ Iv (n + 1) (updC M5 D (.l (acc ++ [z])))) ∧
      (∀ M' G' H', Iv kd.length M' → Ex G G' → GoodM X.K ((dd, od, .dK xs) :: L) M' G' H' → Q2 (.ref D) H')) : tLc (iVals (tVar i)) g tYes (bE X scope elt) vs σ HL Q2 := by
  have hx0 : HL dd = some (.frz od (.dK xs)) := gmL.lk _ List.mem_cons_self
  refine ⟨.ref dd, hσ, dd, od, xs, rfl, hx0, fun D hD => ?_⟩
  obtain ⟨Iv, i0, turn, fin⟩ := w D (gmL.free hD).2
  have hl : xs.length = kd.length := by rw [lx.len]; simp [slK]
  refine ⟨fun n m H' => m = kd.length - n ∧ n ≤ kd.length ∧ ∃ M' G', Iv n M' ∧ Ex G G' ∧ GoodM X.K ((dd, od, .dK xs) :: L) M' G' H', ⟨kd.length, by simp, Nat.zero_le _, _, G, i0, Ex.refl _, gmL.newC hD ⟨[], upd_same, .nil⟩⟩, ?_⟩
  rintro n m H' ⟨rfl, hn, M', G', iv, e', g'⟩
  have hd' : H' dd = some (.frz od (.dK xs)) := g'.lk _ List.mem_cons_self
  by_cases hlt : n < kd.length
  · refine .inr ⟨⟨hd', by rw [hl]; exact hlt⟩, fun H2 => ∃ M2 G2, Iv (n + 1) M2 ∧ Ex G G2 ∧ GoodM X.K ((dd, od, .dK xs) :: L) M2 G2 H2, fun H2 ⟨M2, G2, h⟩ => ⟨kd.length - (n + 1), by omega, rfl, hlt, M2, G2, h⟩, fun x H2 hy => ?_⟩
    obtain ⟨rfl, k1, hx1⟩ := hy
    obtain ⟨u1, hu1, au1⟩ := (KvAt.mono e' lx).get (i := n) (k := (kd[n]).1) (s := .d (kd[n]).2) (by unfold slK; rw [List.getElem?_map, List.getElem?_eq_getElem hlt]; rfl)
    rw [hx1] at hu1
    have hu2 := Option.some.inj hu1
    have ev : x = u1 := (Prod.mk.inj hu2).2
    subst ev
    refine turn (dd, od, .dK xs) ⟨xs, rfl⟩ n (kd[n]).1 (kd[n]).2 M' (List.getElem?_eq_getElem hlt) iv _ G' H2 _ _ ((gs.mono e').wipe vs) g' au1 fun τ3 M3 σ3 G3 H3 q3 e3 g3 s3 z3 => ?_
    refine ⟨z3.trans wipe_wipe, ?_⟩
    have e13 := e'.trans e3
    unfold tYes
    dsimp only
    rw [if_pos rfl]
    refine web (X := X) (scope := scope) (e := elt) q3 σ3 G3 H3 _ s3 g3 fun z M5 v5 G5 H5 ⟨acc, hacc, hl5, iv5⟩ e5 g5 a5 => ?_
    obtain ⟨f5, ys, h1, h2⟩ := g5.cell D _ hacc
    refine ⟨ys, h1, by rw [h2.len]; exact hl5, _, G5, iv5, e13.trans e5, ?_⟩
    exact g5.write hacc h1 (fun _ _ z => nomatch z) ⟨_, upd_same, h2.append (.cons a5 .nil)⟩
  · have e : n = kd.length := by omega
    subst e
    exact .inl ⟨⟨hd', by rw [hl]; exact Nat.le_refl _⟩, fin M' G' H' iv e' g'⟩
theorem de_lcValsN (hc : X.calm = true) (hN : X.N.Nodup) (ok : BlkOk X.N X.env.scope scope own) (hg : ∀ (s : Shared) (H : Hp) (C : Addr) (cl : List (Str × Addr)) (fp : List Addr), PG (X.blk s H scope (compEnvC scope cl C X.env) fp) tg g)
    (hL : NoDK L) (hi : X.N[i]? = some nm) (hv : Vis X.env.scope nm) (ht : τ[i]? = some (some (.d (.dict (encK kd)))))
    (w : ∀ D, M D = none → ∃ Iv : Nat → Cs → Prop, Iv 0 (updC M D (.l [])) ∧ (∀ x, (∃ xs, x.2.2 = HO.dK xs) → ∀ n k d M', kd[n]? = some (k, d) → Iv n M' →
      WGw X.K (x :: L) (own.map (·.2)) g (.d d) (wipeK τ (own.map (·.2))) M' fun τ2 M3 => DEb X scope (x :: L) elt τ2 M3 fun z M5 => ∃ acc, M5 D = some (.l acc) ∧ acc.length < sizeLine ∧ Iv (n + 1) (updC M5 D (.l (acc ++ [z])))) ∧ (∀ M', Iv kd.length M' → Q (.c D) M'))
    (hd : (nm == ("__debug__" : Str)) = false := by decide) (hcd : (nm == ("__classdict__" : Str)) = false := by decide)
    (hbase : attributeBase (.Name nm p0) "values" X.env (eval (.Name nm p0) X.env) = eval (.Name nm p0) X.env := by rfl) (hline : (apos.endLine == mpos.line) = true := by rfl)
    (hs : ∀ x, foldedSetIterable (.Call (.Attribute (.Name nm p0) "values" apos) [] [] mpos) X.env x = pure x := by intro _; rfl) : DE X L (.ListComp elt [⟨tg, .Call (.Attribute (.Name nm p0) "values" apos) [] [] mpos, [], 0⟩] scope pos) τ M Q :=
  de_of (pe_lock (pe_lc (te := bE X scope elt) (tt := tYes) hc hN (pi_values (pe_var hi hv hd hcd) hbase hline) ok hg (fun _ _ _ _ _ => pts_nil) (fun s H C cl fp => ⟨fun pins s' σ H' Q' I h => h s H C cl fp pins s' I⟩) hs)) fun σ G H Q' gs gm k => by
    obtain ⟨v, hσ, av⟩ := gs.get i _ ht
    cases av with
    | d av =>
      generalize hz : encK kd = zs at av
      cases av with
      | dic hG l =>
        rename_i dd xs
        subst hz
        have lx := AtK.kv kd l
        have hx := lock_exact gm hL hG
        have hne := lock_ne gm hL hG
        refine ⟨dd, .dK xs, hx, trivial, fun od => ?_⟩
        have gmL := gm.lock (od := od) hL hG
        refine lcW_run (kd := kd) gs gmL hσ lx fun D hD => ?_
        obtain ⟨Iv, i0, turn, fin⟩ := w D hD
        exact ⟨Iv, i0, turn, fun M' G' H' iv e' g' => ⟨g'.lk _ List.mem_cons_self, k _ M' _ G' _ (fin _ iv) e' (g'.unlock hne (e' _ _ hG)) (.c D)⟩⟩
end
end Y

namespace Y
open PySem L2 PyProof.Rows
/-! a contract seen with a dict cell as data, again a contract -/
section
variable {P : Program} {w : World} {K : PySem.W.Frag} {mg : Str → Option Value} {base : Heap}
theorem Cal.view {R : Rr} {k : Nat} {ps : List Str} {x : Str} (a : Addr) (kd : List (Key × PyData)) (c : Cal P w K mg base x k ps R) : Cal P w K mg base x k ps (fun L ss M Q => View L R a kd ss M Q) := by
  obtain ⟨f, fd, F, m, kp, b⟩ := c
  refine ⟨f, fd, ⟨fun vs H Q E h => ?_, fun B fr t H ar us vs Q E room e0 bd rel h => ?_⟩, m, kp, b⟩
  · obtain ⟨L, M, G, ss, Q0, g, al, v, r⟩ := h
    obtain ⟨M1, G1, ss1, Q1, g1, a1, r1, q1⟩ := view_ret v g al r
    exact F.len vs H Q E ⟨L, M1, G1, ss1, Q1, g1, a1, r1, q1⟩
  · obtain ⟨L, M, G, ss, Q0, g, al, v, r⟩ := h
    obtain ⟨M1, G1, ss1, Q1, g1, a1, r1, q1⟩ := view_ret v g al r
    exact F.run B fr t H ar us vs Q E room e0 bd rel ⟨L, M1, G1, ss1, Q1, g1, a1, r1, q1⟩
theorem CalG.view {R : Rr} {k : Nat} {ps : List Str} {x : Str} (a : Addr) (kd : List (Key × PyData)) (c : CalG P w K mg base x k ps R) : CalG P w K mg base x k ps (fun L ss M Q => View L R a kd ss M Q) := by
  obtain ⟨f, fd, F, m, kp, b⟩ := c
  refine ⟨f, fd, ⟨fun vs H Q E h => ?_, fun B fr t H ar us vs Q E room ng e0 bd rel h => ?_⟩, m, kp, b⟩
  · obtain ⟨L, M, G, ss, Q0, g, al, v, r⟩ := h
    obtain ⟨M1, G1, ss1, Q1, g1, a1, r1, q1⟩ := view_ret v g al r
    exact F.cnt vs H Q E ⟨L, M1, G1, ss1, Q1, g1, a1, r1, q1⟩
  · obtain ⟨L, M, G, ss, Q0, g, al, v, r⟩ := h
    obtain ⟨M1, G1, ss1, Q1, g1, a1, r1, q1⟩ := view_ret v g al r
    exact F.go B fr t H ar us vs Q E room ng e0 bd rel ⟨L, M1, G1, ss1, Q1, g1, a1, r1, q1⟩
end
/-! [x] * int(b) -/
section
variable {X : Cx} {L : Lk} {τ : List (Option Sl)} {M : Cs} {Q : Sl → Cs → Prop} {a b : Expr} {pos : Pos}
theorem de_rep01 (bb : Bool) (w : DE X L a τ M fun x M1 => DE X L b τ M1 fun y M2 => ∃ p z, x = .c p ∧ y = dI (if bb = true then 1 else 0) ∧ M2 p = some (.l [z]) ∧ ∀ c, M2 c = none → Q (.c c) (updC M2 c (.l (if bb = true then [z] else [])))) : DE X L (.BinOp a .Mult b pos) τ M Q :=
  de_op op_rep (de_imp w fun x M1 q => de_imp q fun y M2 ⟨p, z, e1, e2, hm, q2⟩ => fun G H v u Q' g a1 a2 k => by
    subst e1 e2
    obtain ⟨f, xs, h1, h2⟩ := g.cell p _ hm
    have hv : v = .ref p := sl_c a1
    have hu := sl_int a2
    cases h2 with
    | @cons vz _ _ _ az t =>
      cases t
      cases bb with
      | true =>
        refine ⟨p, 1, [vz], hv, hu, h1, by decide, by decide, by show 1 * 1 ≤ sizeLine; decide, fun c hc => ?_⟩
        exact k _ _ _ G _ (q2 c (g.free hc).2) (Ex.refl G) (g.newC hc ⟨[vz], upd_same, .cons az .nil⟩) (.c c)
      | false =>
        refine ⟨p, 0, [vz], hv, hu, h1, by decide, by decide, by show 1 * 0 ≤ sizeLine; decide, fun c hc => ?_⟩
        exact k _ _ _ G _ (q2 c (g.free hc).2) (Ex.refl G) (g.newC hc ⟨[], upd_same, .nil⟩) (.c c))
end
/-! sorted names are one list -/
section
open PySem.Spec
def leC (a b : Str) : Prop := a.cps.toList ≤ b.cps.toList
theorem leC_of {a b : Str} (h : (!ltCps b.cps.toList a.cps.toList) = true) : leC a b := by
  rw [ltCps_eq] at h
  have h2 : ¬ b.cps.toList < a.cps.toList := by simpa using h
  exact List.not_lt.mp h2
theorem leC_trans {a b c : Str} (h : leC a b) (k : leC b c) : leC a c := List.le_trans h k
theorem leC_anti {a b : Str} (h : leC a b) (k : leC b a) : a = b := by
  have e : a.cps.toList = b.cps.toList := List.le_antisymm h k
  cases a with
  | mk x => cases b with
    | mk y => exact congrArg Str.mk (Array.toList_inj.mp e)
theorem rising_le : ∀ {l : List Str} {p : Str}, risingS p l = true → ∀ x ∈ l, leC p x
  | [], _, _, _, h => nomatch h
  | y :: l, p, h, x, hx => by
    have h : ((!ltCps y.cps.toList p.cps.toList) && risingS y l) = true := h
    obtain ⟨h1, h2⟩ := Bool.and_eq_true_iff.mp h
    rcases List.mem_cons.mp hx with rfl | hx
    · exact leC_of h1
    · exact leC_trans (leC_of h1) (rising_le h2 x hx)
theorem sorted_tail {p : Str} {l : List Str} (h : sortedS (p :: l) = true) : sortedS l = true := by
  cases l with
  | nil => rfl
  | cons y l => exact (Bool.and_eq_true_iff.mp (show ((!ltCps y.cps.toList p.cps.toList) && risingS y l) = true from h)).2
theorem sorted_one : ∀ {l m : List Str}, l.Perm m → sortedS l = true → sortedS m = true → l = m
  | [], m, h, _, _ => (List.nil_perm.mp h).symm
  | a :: l, [], h, _, _ => nomatch (List.perm_nil.mp h)
  | a :: l, b :: m, h, h1, h2 => by
    have e : a = b := by
      have ha : a ∈ b :: m := h.mem_iff.mp List.mem_cons_self
      have hb : b ∈ a :: l := h.mem_iff.mpr List.mem_cons_self
      rcases List.mem_cons.mp ha with e | ha
      · exact e
      rcases List.mem_cons.mp hb with e | hb
      · exact e.symm
      exact leC_anti (rising_le h1 b hb) (rising_le h2 a ha)
    subst e
    rw [sorted_one (List.perm_cons a |>.mp h) (sorted_tail h1) (sorted_tail h2)]
end
end Y

namespace Y
open PySem L2 PyProof.Rows
/-! {k: v, ..} of any expressions -/
section
variable {X : Cx} {L : Lk}
def DKs (X : Cx) (L : Lk) : List (Option Expr) → List Expr → List (Option Sl) → Cs → (List (Key × Sl) → Cs → Prop) → Prop
  | [], [], _, M, Q => Q [] M
  | some k :: ks, v :: vs, τ, M, Q => DE X L k τ M fun s M1 => ∃ key, s = .d (kD key) ∧ DE X L v τ M1 fun x M2 => DKs X L ks vs τ M2 fun l M3 => Q ((key, x) :: l) M3
  | _, _, _, _, _ => False
def prT (X : Cx) : List (Option Expr) → List Expr → List (TE × TE)
  | some k :: ks, v :: vs => (sE X k, sE X v) :: prT X ks vs
  | _, _ => []
theorem pps_s {pos : Pos} : ∀ {ks : List (Option Expr)} {vs : List Expr}, ks.all (·.isSome) = true → ks.length = vs.length → PPs X pos ks vs (prT X ks vs)
  | [], [], _, _ => pps_nil
  | some e :: ks, v :: vs, h, hl => pps_cons pe_s pe_s (pps_s (by simpa using h) (by simpa using hl))
  | none :: _, _, h, _ => by simp at h
  | [], _ :: _, _, hl => by simp at hl
  | some _ :: _, [], _, hl => by simp at hl
theorem dks_run : ∀ {ks : List (Option Expr)} {vs : List Expr} {τ : List (Option Sl)} {M : Cs} {Q : List (Key × Sl) → Cs → Prop}, DKs X L ks vs τ M Q →
    ∀ (σ : L2.St) (G H : Hp) (Q' : List (V × V) → Hp → Prop), GoodS X.K G σ τ → GoodM X.K L M G H → (∀ l M' kvs G' H', Q l M' → Ex G G' → GoodM X.K L M' G' H' → KvAt X.K G' kvs l → l.length = ks.length → Q' (kvs.map fun kv => (kV kv.1, kv.2)) H') → tPairs (prT X ks vs) σ H Q'
  | [], [], τ, M, Q, h, σ, G, H, Q', gs, gm, k => k [] M [] G H h (Ex.refl G) gm trivial rfl
  | some e :: ks, v :: vs, τ, M, Q, h, σ, G, H, Q', gs, gm, k => by
    have h : DE X L e τ M fun s M1 => ∃ key, s = .d (kD key) ∧ DE X L v τ M1 fun x M2 => DKs X L ks vs τ M2 fun l M3 => Q ((key, x) :: l) M3 := h
    exact h σ G H _ gs gm fun s M1 u G1 H1 ⟨key, es, q1⟩ e1 g1 a1 => by
      subst es
      have ek := key_at a1
      subst ek
      refine q1 σ G1 H1 _ (gs.mono e1) g1 fun x M2 y G2 H2 q2 e2 g2 a2 => ?_
      refine dks_run q2 σ G2 H2 _ ((gs.mono e1).mono e2) g2 fun l M3 kvs G3 H3 q3 e3 g3 a3 hl => ?_
      exact k ((key, x) :: l) M3 ((key, y) :: kvs) G3 H3 q3 ((e1.trans e2).trans e3) g3 ⟨rfl, a2.mono e3, a3⟩ (by rw [List.length_cons, hl]; rfl)
  | none :: _, [], _, _, _, h, _, _, _, _, _, _, _ => h.elim
  | none :: _, _ :: _, _, _, _, h, _, _, _, _, _, _, _ => h.elim
  | [], _ :: _, _, _, _, h, _, _, _, _, _, _, _ => h.elim
  | some _ :: _, [], _, _, _, h, _, _, _, _, _, _, _ => h.elim
variable {τ : List (Option Sl)} {M : Cs} {Q : Sl → Cs → Prop} {ks : List (Option Expr)} {vs : List Expr} {pos : Pos}
theorem KvAt.len' {K : PySem.W.Frag} {G : Hp} {xs : List (Key × V)} {ys : List (Key × Sl)} (h : KvAt K G xs ys) : xs.length = ys.length := KvAt.len h
theorem de_dictE (w : ∀ p, M p = none → DKs X L ks vs τ (updC M p (.k [])) fun l M1 => M1 p = some (.k []) ∧ Q (.c p) (updC M1 p (.k (mergeS [] l)))) (hall : ks.all (·.isSome) = true := by rfl) (hl : ks.length = vs.length := by rfl) (h0 : ks ≠ [] := by exact fun z => nomatch z) (h15 : ks.length ≤ 15 := by decide) :
    DE X L (.Dict ks vs pos) τ M Q :=
  de_of (pe_disp (pps_s hall hl) hall hl h0 h15) fun σ G H Q' gs gm kk p hp => by
    refine dks_run (w p (gm.free hp).2) σ G (upd H p (.dK [])) _ gs (gm.newC hp ⟨[], upd_same, trivial⟩) fun l M1 kvs G1 H1 ⟨hm, q⟩ e1 g1 a1 ll => ?_
    obtain ⟨f1, xs, h1, h2⟩ := g1.cell p _ hm
    have hx : xs = [] := by
      cases xs with
      | nil => rfl
      | cons _ _ => cases h2
    subst hx
    refine ⟨h1, kvs, rfl, by rw [KvAt.len a1, ll]; exact h15, ?_⟩
    exact kk _ _ _ G1 _ q e1 (g1.write hm h1 (fun _ _ z => nomatch z) ⟨_, upd_same, KvAt.merge a1 trivial⟩) (.c p)
end
/-! slices from 1 on, up to -1 -/
theorem cutG_lo1 {α : Type} (xs : List α) : cutG xs (some 1) none = xs.drop 1 := by
  unfold cutG HT.sIx
  cases xs with
  | nil => rfl
  | cons x r => simp
theorem cutG_hiN {α : Type} (xs : List α) : cutG xs none (some (-1)) = xs.dropLast := by
  unfold cutG HT.sIx
  cases xs with
  | nil => rfl
  | cons x r =>
    simp [List.dropLast_eq_take]
    omega
/-! putting a list of intervals into a dict: any data -/
abbrev KvD := List (Key × PyData)
def putD (kd : KvD) (k : Key) (v : PyData) : KvD := if (kd.any fun p => decide (p.1 = k)) = true then kd.map (fun p => if p.1 = k then (p.1, v) else p) else kd ++ [(k, v)]
theorem putS_D (kd : KvD) (k : Key) (v : PyData) : putS (slK kd) k (.d v) = slK (putD kd k v) := by
  unfold putS putD slK
  have e : ((kd.map fun p => (p.1, Sl.d p.2)).any fun kv => decide (kv.1 = k)) = kd.any fun p => decide (p.1 = k) := by
    rw [List.any_map]
    rfl
  rw [e]
  split
  · rw [List.map_map, List.map_map]
    apply List.map_congr_left
    intro p _
    show (if p.1 = k then (p.1, Sl.d v) else (p.1, Sl.d p.2)) = _
    show _ = (fun p => (p.1, Sl.d p.2)) (if p.1 = k then (p.1, v) else p)
    split <;> rfl
  · rw [List.map_append]
    rfl
end Y

namespace Pg
open PySem L2 Y PyProof.Rows
def topS (i : Nat) : Stmt := PySem.Challenge.pw_lastcopy_k30_first_survival_obstruction.main.body.getD i (.Pass ⟨0, 0, 0, 0⟩)
abbrev s_plain_integer : Stmt := topS 8
theorem sc_plain_integer : FnScope ["value"] ["value"] (defScope s_plain_integer) := ⟨rfl, rfl, rfl, by decide +kernel, rfl, by decide +kernel, by decide +kernel⟩
abbrev s_plain_text : Stmt := topS 9
theorem sc_plain_text : FnScope ["value"] ["value"] (defScope s_plain_text) := ⟨rfl, rfl, rfl, by decide +kernel, rfl, by decide +kernel, by decide +kernel⟩
abbrev s_plain_writer : Stmt := topS 10
theorem sc_plain_writer : FnScope ["value", "name"] ["value"] (defScope s_plain_writer) := ⟨rfl, rfl, rfl, by decide +kernel, rfl, by decide +kernel, by decide +kernel⟩
abbrev s_plain_line_counts : Stmt := topS 11
theorem sc_plain_line_counts : FnScope ["value", "counts", "key", "number", "writer", "count"] ["value"] (defScope s_plain_line_counts) := ⟨rfl, rfl, rfl, by decide +kernel, rfl, by decide +kernel, by decide +kernel⟩
abbrev s_highest_number : Stmt := topS 12
theorem sc_highest_number : FnScope ["line_counts", "writer"] ["line_counts", "writer"] (defScope s_highest_number) := ⟨rfl, rfl, rfl, by decide +kernel, rfl, by decide +kernel, by decide +kernel⟩
abbrev s_plain_lines : Stmt := topS 13
theorem sc_plain_lines : FnScope ["line_counts", "writer", "first", "last", "name", "low", "high"] ["line_counts", "writer", "first", "last"] (defScope s_plain_lines) := ⟨rfl, rfl, rfl, by decide +kernel, rfl, by decide +kernel, by decide +kernel⟩
abbrev s_plain_line : Stmt := topS 14
theorem sc_plain_line : FnScope ["line_counts", "value", "run"] ["line_counts", "value"] (defScope s_plain_line) := ⟨rfl, rfl, rfl, by decide +kernel, rfl, by decide +kernel, by decide +kernel⟩
abbrev s_plain_intervals : Stmt := topS 15
theorem sc_plain_intervals : FnScope ["line_counts", "writer", "value", "intervals", "item", "run"] ["line_counts", "writer", "value"] (defScope s_plain_intervals) := ⟨rfl, rfl, rfl, by decide +kernel, rfl, by decide +kernel, by decide +kernel⟩
abbrev s_plain_line_set : Stmt := topS 16
theorem sc_plain_line_set : FnScope ["line_counts", "value", "line_set", "key", "listed", "writer", "intervals"] ["line_counts", "value"] (defScope s_plain_line_set) := ⟨rfl, rfl, rfl, by decide +kernel, rfl, by decide +kernel, by decide +kernel⟩
abbrev s_checked_line_counts : Stmt := topS 17
theorem sc_checked_line_counts : FnScope ["value", "counts"] ["value"] (defScope s_checked_line_counts) := ⟨rfl, rfl, rfl, by decide +kernel, rfl, by decide +kernel, by decide +kernel⟩
abbrev s_checked_line_set : Stmt := topS 18
theorem sc_checked_line_set : FnScope ["line_counts", "value", "line_set"] ["line_counts", "value"] (defScope s_checked_line_set) := ⟨rfl, rfl, rfl, by decide +kernel, rfl, by decide +kernel, by decide +kernel⟩
abbrev s_intervals_between : Stmt := topS 20
theorem sc_intervals_between : FnScope ["intervals", "highest", "found", "start", "first", "last"] ["intervals", "highest"] (defScope s_intervals_between) := ⟨rfl, rfl, rfl, by decide +kernel, rfl, by decide +kernel, by decide +kernel⟩
abbrev s_lines_in_intervals : Stmt := topS 22
theorem sc_lines_in_intervals : FnScope ["intervals", "first", "last"] ["intervals"] (defScope s_lines_in_intervals) := ⟨rfl, rfl, rfl, by decide +kernel, rfl, by decide +kernel, by decide +kernel⟩
abbrev s_gaps_of_writers : Stmt := topS 23
theorem sc_gaps_of_writers : FnScope ["counts", "line_set", "writer"] ["counts", "line_set"] (defScope s_gaps_of_writers) := ⟨rfl, rfl, rfl, by decide +kernel, rfl, by decide +kernel, by decide +kernel⟩
abbrev s_obstructions_of_ends : Stmt := topS 24
theorem sc_obstructions_of_ends : FnScope ["counts", "lines", "firsts", "lasts", "total", "found", "writer", "intervals"] ["counts", "lines"] (defScope s_obstructions_of_ends) := ⟨rfl, rfl, rfl, by decide +kernel, rfl, by decide +kernel, by decide +kernel⟩
abbrev s_obstructions_of_gaps : Stmt := topS 25
theorem sc_obstructions_of_gaps : FnScope ["counts", "lines", "numbers", "total", "found", "writer", "intervals", "others"] ["counts", "lines"] (defScope s_obstructions_of_gaps) := ⟨rfl, rfl, rfl, by decide +kernel, rfl, by decide +kernel, by decide +kernel⟩
abbrev s_survival_obstructions : Stmt := topS 26
theorem sc_survival_obstructions : FnScope ["counts", "lines"] ["counts", "lines"] (defScope s_survival_obstructions) := ⟨rfl, rfl, rfl, by decide +kernel, rfl, by decide +kernel, by decide +kernel⟩
abbrev s_survival_obstruction : Stmt := topS 27
theorem sc_survival_obstruction : FnScope ["line_counts", "line_set", "counts", "lines", "found"] ["line_counts", "line_set"] (defScope s_survival_obstruction) := ⟨rfl, rfl, rfl, by decide +kernel, rfl, by decide +kernel, by decide +kernel⟩
abbrev s_can_survive : Stmt := topS 28
theorem sc_can_survive : FnScope ["line_counts", "line_set"] ["line_counts", "line_set"] (defScope s_can_survive) := ⟨rfl, rfl, rfl, by decide +kernel, rfl, by decide +kernel, by decide +kernel⟩
abbrev s_plain_obstruction : Stmt := topS 30
theorem sc_plain_obstruction : FnScope ["counts", "value", "name"] ["counts", "value"] (defScope s_plain_obstruction) := ⟨rfl, rfl, rfl, by decide +kernel, rfl, by decide +kernel, by decide +kernel⟩
abbrev s_is_survival_obstruction : Stmt := topS 31
theorem sc_is_survival_obstruction : FnScope ["line_counts", "line_set", "value", "counts", "lines"] ["line_counts", "line_set", "value"] (defScope s_is_survival_obstruction) := ⟨rfl, rfl, rfl, by decide +kernel, rfl, by decide +kernel, by decide +kernel⟩
abbrev s__law_source : Stmt := topS 33
theorem sc__law_source : FnScope ["script", "k", "cell"] ["script", "k"] (defScope s__law_source) := ⟨rfl, rfl, rfl, by decide +kernel, rfl, by decide +kernel, by decide +kernel⟩
abbrev s__law_draw : Stmt := topS 34
theorem sc__law_draw : FnScope ["source", "limit", "found", "mixed"] ["source", "limit"] (defScope s__law_draw) := ⟨rfl, rfl, rfl, by decide +kernel, rfl, by decide +kernel, by decide +kernel⟩
abbrev s__law_writers : Stmt := topS 35
theorem sc__law_writers : FnScope ["source", "number", "left", "turn"] ["source", "number"] (defScope s__law_writers) := ⟨rfl, rfl, rfl, by decide +kernel, rfl, by decide +kernel, by decide +kernel⟩
abbrev s__law_line_counts : Stmt := topS 36
theorem sc__law_line_counts : FnScope ["source", "most_writers", "most_lines", "names", "writer"] ["source", "most_writers", "most_lines"] (defScope s__law_line_counts) := ⟨rfl, rfl, rfl, by decide +kernel, rfl, by decide +kernel, by decide +kernel⟩
abbrev s__law_intervals : Stmt := topS 37
theorem sc__law_intervals : FnScope ["source", "total", "most", "found", "least", "turn", "first", "ends"] ["source", "total", "most"] (defScope s__law_intervals) := ⟨rfl, rfl, rfl, by decide +kernel, rfl, by decide +kernel, by decide +kernel⟩
abbrev s__law_line_set : Stmt := topS 38
theorem sc__law_line_set : FnScope ["source", "line_counts", "most", "found", "writer", "own"] ["source", "line_counts", "most"] (defScope s__law_line_set) := ⟨rfl, rfl, rfl, by decide +kernel, rfl, by decide +kernel, by decide +kernel⟩
abbrev s__law_lost : Stmt := topS 39
theorem sc__law_lost : FnScope ["total", "intervals", "found", "least", "first", "last"] ["total", "intervals"] (defScope s__law_lost) := ⟨rfl, rfl, rfl, by decide +kernel, rfl, by decide +kernel, by decide +kernel⟩
abbrev s__law_obstructions : Stmt := topS 40
theorem sc__law_obstructions : FnScope ["line_counts", "line_set", "sizes", "total", "names", "starts", "ends", "found", "writer", "lost", "first", "last", "one"] ["line_counts", "line_set"] (defScope s__law_obstructions) := ⟨rfl, rfl, rfl, by decide +kernel, rfl, by decide +kernel, by decide +kernel⟩
abbrev s__law_with_ends : Stmt := topS 41
theorem sc__law_with_ends : FnScope ["source", "line_counts", "line_set", "names", "found", "turn", "writer", "total", "own"] ["source", "line_counts", "line_set"] (defScope s__law_with_ends) := ⟨rfl, rfl, rfl, by decide +kernel, rfl, by decide +kernel, by decide +kernel⟩
abbrev s__law_tight : Stmt := topS 42
theorem sc__law_tight : FnScope ["source", "names", "wide", "others", "lost", "style", "first", "line_set", "line_counts", "writer", "odd", "step"] ["source"] (defScope s__law_tight) := ⟨rfl, rfl, rfl, by decide +kernel, rfl, by decide +kernel, by decide +kernel⟩
abbrev s__law_right : Stmt := topS 43
theorem sc__law_right : FnScope ["line_counts", "line_set", "expected", "before", "turn", "result"] ["line_counts", "line_set"] (defScope s__law_right) := ⟨rfl, rfl, rfl, by decide +kernel, rfl, by decide +kernel, by decide +kernel⟩
abbrev s__law_single : Stmt := topS 44
theorem sc__law_single : FnScope ["source", "line_counts", "one", "found", "writer"] ["source", "line_counts"] (defScope s__law_single) := ⟨rfl, rfl, rfl, by decide +kernel, rfl, by decide +kernel, by decide +kernel⟩
abbrev s_law : Stmt := topS 45
theorem sc_law : FnScope ["script", "k", "source", "turn", "line_counts", "line_set", "others", "single", "tight", "name", "counts_here", "results", "expected"] ["script"] (defScope s_law) := ⟨rfl, rfl, rfl, by decide +kernel, rfl, by decide +kernel, by decide +kernel⟩

local macro_rules | `(tactic| walk_at "vis") => `(tactic| first | exact Or.inl rfl | exact Or.inr (Or.inl rfl) | exact Or.inr (Or.inr rfl))
local macro_rules | `(tactic| walk_at "e1") => `(tactic| first | walk_at "nm" | refine de_int ?_ | refine de_add ?_ | refine de_sub ?_ | refine de_str ?_ | refine de_non ?_ | refine de_bl ?_)
local macro_rules | `(tactic| walk_at "go") => `(tactic| repeat (first | ((with_reducible show DE _ _ _ _ _ _); walk_at "e1") | ((with_reducible show DA _ _ _ _ _ _); refine da_cons ?_) | refine ⟨_, _, rfl, rfl, ?_⟩))

section
variable {P : Program} {w : World} {K : PySem.W.Frag} {mg : Str → Option Value} {base : Heap}

local macro_rules | `(tactic| walk_at "nm") => `(tactic| first | ((with_reducible refine de_name (x := "value") (i := 0) (s := ?s) ?hN ?hv ?ht ?q ?hd ?hcd); (case hN => rfl); (case hv => walk_at "vis"); (case ht => rfl); (case hd => decide); (case hcd => decide)))


def R_plain_integer : Rr := fun _ ss M Q => ∃ x, ss = [.d x] ∧ Q (.d (intOf x)) M
theorem ok_plain_integer (F : FunAt K mg "plain_integer" s_plain_integer ["value"]) (b1 : mg "isinstance" = none) (b2 : mg "int" = none) (b3 : mg "bool" = none) : Cal P w K mg base "plain_integer" 1 ["value"] R_plain_integer := by
  refine cal_of F sc_plain_integer (fun _ ss _ _ ⟨x, h, _⟩ => by rw [h]; rfl) (fun f cdv A outer s H E L ss M Q hr h => ?_)
  obtain ⟨x, rfl, q⟩ := h
  refine db_cons (ds_if (dt_and2 (dt_val (de_callB call_isi (by rfl) b1 bt_isinstance (da_cons ?_)))))
  walk_at "nm"
  refine da_cons (de_type (by rfl) b2 bt_int (da_nil (k_isaInt ⟨_, rfl, fun h1 => ?_, fun h1 => ?_⟩)))
  · refine dt_not (dt_val (de_callB call_isi (by rfl) b1 bt_isinstance (da_cons ?_)))
    walk_at "nm"
    refine da_cons (de_type (by rfl) b3 bt_bool (da_nil (k_isaBool ⟨_, rfl, fun h2 => ?_, fun h2 => ?_⟩)))
    · refine db_cons (ds_ret (de_callT call_int1 (by rfl) b2 bt_int (da_cons ?_)))
      walk_at "nm"
      cases x with
      | int i => exact da_nil (k_intI q)
      | bool b => cases h2
      | _ => cases h1
    · refine db_nil (db_cons (ds_ret (de_non ?_)))
      cases x with
      | bool b => exact q
      | int i => cases h2
      | _ => cases h1
  · refine ⟨no1, fun _ => db_nil (db_cons (ds_ret (de_non ?_)))⟩
    cases x with
    | int i => cases h1
    | _ => exact q

local macro_rules | `(tactic| walk_at "nm") => `(tactic| first | ((with_reducible refine de_name (x := "value") (i := 0) (s := ?s) ?hN ?hv ?ht ?q ?hd ?hcd); (case hN => rfl); (case hv => walk_at "vis"); (case ht => rfl); (case hd => decide); (case hcd => decide)))


def R_plain_text : Rr := fun _ ss M Q => ∃ x, ss = [.d x] ∧ short x ∧ Q (.d (strOf x)) M
theorem ok_plain_text (F : FunAt K mg "plain_text" s_plain_text ["value"]) (b1 : mg "isinstance" = none) (b2 : mg "str" = none) : Cal P w K mg base "plain_text" 1 ["value"] R_plain_text := by
  refine cal_of F sc_plain_text (fun _ ss _ _ ⟨x, h, _⟩ => by rw [h]; rfl) (fun f cdv A outer s H E L ss M Q hr h => ?_)
  obtain ⟨x, rfl, hs, q⟩ := h
  refine db_cons (ds_if (dt_val (de_callB call_isi (by rfl) b1 bt_isinstance (da_cons ?_))))
  walk_at "nm"
  refine da_cons (de_type (by rfl) b2 bt_str (da_nil (k_isaStr ⟨_, rfl, fun h1 => ?_, fun h1 => ?_⟩)))
  · refine db_cons (ds_ret (de_join (de_str ⟨_, rfl, de_lstD (da_cons ?_)⟩)))
    walk_at "nm"
    cases x with
    | str z =>
      refine da_nil ⟨[.str z], rfl, (by show 1 ≤ sizeLine; decide), [z], rfl, ?_, ?_⟩
      · have hs : z.length ≤ 16777216 := hs
        show z.length + 0 + 1 * 0 ≤ 16777216
        omega
      · rw [Y.join_one]
        exact q
    | _ => cases h1
  · refine db_nil (db_cons (ds_ret (de_non ?_)))
    cases x with
    | str z => cases h1
    | _ => exact q

local macro_rules | `(tactic| walk_at "nm") => `(tactic| first | ((with_reducible refine de_name (x := "value") (i := 0) (s := ?s) ?hN ?hv ?ht ?q ?hd ?hcd); (case hN => rfl); (case hv => walk_at "vis"); (case ht => rfl); (case hd => decide); (case hcd => decide)) | ((with_reducible refine de_name (x := "name") (i := 1) (s := ?s) ?hN ?hv ?ht ?q ?hd ?hcd); (case hN => rfl); (case hv => walk_at "vis"); (case ht => rfl); (case hd => decide); (case hcd => decide)))


def R_plain_writer : Rr := fun _ ss M Q => ∃ x, ss = [.d x] ∧ short x ∧ Q (.d (writerOf x)) M
theorem ok_plain_writer (F : FunAt K mg "plain_writer" s_plain_writer ["value"]) (c1 : Cal P w K mg base "plain_text" 1 ["value"] R_plain_text) (b1 : mg "len" = none) (g1 : ∃ t, mg "LONGEST_NAME" = some (.int 8 t)) : Cal P w K mg base "plain_writer" 2 ["value"] R_plain_writer := by
  refine cal_of F sc_plain_writer (fun _ ss _ _ ⟨x, h, _⟩ => by rw [h]; rfl) (fun f cdv A outer s H E L ss M Q hr h => ?_)
  obtain ⟨x, rfl, hs, q⟩ := h
  obtain ⟨t8, g1⟩ := g1
  refine db_cons (ds_set (i := 1) sc_plain_writer.nd rfl (.inl rfl) (de_callC c1 hr (by rfl) (da_cons ?_)))
  walk_at "nm"
  refine da_nil ⟨x, rfl, hs, ?_⟩
  refine db_cons (ds_if (dt_or2 (dt_cmp op_isN ?_ (nomark _))))
  walk_at "nm"
  refine de_non (k_isN ⟨_, rfl, fun h1 => ?_, fun h1 => ?_⟩)
  · refine ⟨fun _ => db_cons (ds_ret (de_non ?_)), no2⟩
    cases x with
    | str z => cases h1
    | _ => exact q
  · cases x with
    | str z =>
      have hs : z.length ≤ 16777216 := hs
      refine dt_not (dt_chain op_le op_le (de_int (de_callB call_len_str (by rfl) b1 bt_len (da_cons ?_))))
      walk_at "nm"
      refine da_nil (k_lenS hs (k_bool ⟨_, rfl, fun h2 => de_glob (by rfl) g1 ⟨_, rfl⟩ (k_bool ⟨_, rfl, fun h3 => ?_, fun h3 => ?_⟩), fun h2 => ?_⟩))
      · refine db_cons (ds_ret (de_non ?_))
        have : okName z = false := by
          unfold okName
          have e : ¬ z.length ≤ 8 := by
            have := h3
            simp only [Bool.not_eq_true', decide_eq_false_iff_not] at this
            omega
          simp [e]
        simp only [writerOf, this] at q
        exact q
      · have e1 : 1 ≤ z.length := by
          have := h2
          simp only [decide_eq_true_eq] at this
          omega
        have e2 : z.length ≤ 8 := by
          have := h3
          simp only [Bool.not_eq_false', decide_eq_true_eq] at this
          omega
        refine db_nil (db_cons (ds_if (dt_and3 (dt_val (de_mS0 PySem.F.slot_str_isascii PySem.F.type_str_isascii mt_isascii ?_)))))
        walk_at "nm"
        refine ⟨z, rfl, _, rfl, fun h4 => ?_, fun h4 => ?_⟩
        · refine dt_val (de_mS0 PySem.F.slot_str_isalpha PySem.F.type_str_isalpha mt_isalpha ?_)
          walk_at "nm"
          refine ⟨z, rfl, _, rfl, fun h5 => ?_, fun h5 => ?_⟩
          · refine dt_val (de_mS0 PySem.F.slot_str_islower PySem.F.type_str_islower mt_islower ?_)
            walk_at "nm"
            refine ⟨z, rfl, _, rfl, fun h6 => ?_, fun h6 => ?_⟩
            · refine db_cons (ds_ret ?_)
              walk_at "nm"
              simp only [writerOf, okName, e1, e2, h4, h5, h6] at q
              exact q
            · refine db_nil (db_cons (ds_ret (de_non ?_)))
              simp only [writerOf, okName, h6] at q
              simpa using q
          · refine ⟨no1, fun _ => db_nil (db_cons (ds_ret (de_non ?_)))⟩
            simp only [writerOf, okName, h5] at q
            simpa using q
        · refine ⟨no1, fun _ => db_nil (db_cons (ds_ret (de_non ?_)))⟩
          simp only [writerOf, okName, h4] at q
          simpa using q
      · refine ⟨fun _ => db_cons (ds_ret (de_non ?_)), no2⟩
        have : okName z = false := by
          unfold okName
          have e : ¬ 1 ≤ z.length := by
            have := h2
            simp only [decide_eq_false_iff_not] at this
            omega
          simp [e]
        simp only [writerOf, this] at q
        exact q
    | _ => cases h1

end

end Pg

namespace Pg
open PySem L2 Y PyProof.Rows

local macro_rules | `(tactic| walk_at "vis") => `(tactic| first | exact Or.inl rfl | exact Or.inr (Or.inl rfl) | exact Or.inr (Or.inr rfl))
local macro_rules | `(tactic| walk_at "e1") => `(tactic| first | walk_at "nm" | refine de_int ?_ | refine de_add ?_ | refine de_sub ?_ | refine de_str ?_ | refine de_non ?_ | refine de_bl ?_)
local macro_rules | `(tactic| walk_at "go") => `(tactic| repeat (first | ((with_reducible show DE _ _ _ _ _ _); walk_at "e1") | ((with_reducible show DA _ _ _ _ _ _); refine da_cons ?_) | refine ⟨_, _, rfl, rfl, ?_⟩))

section
variable {P : Program} {w : World} {K : PySem.W.Frag} {mg : Str → Option Value} {base : Heap}

local macro_rules | `(tactic| walk_at "nm") => `(tactic| first | ((with_reducible refine de_name (x := "line_counts") (i := 0) (s := ?s) ?hN ?hv ?ht ?q ?hd ?hcd); (case hN => rfl); (case hv => walk_at "vis"); (case ht => rfl); (case hd => decide); (case hcd => decide)) | ((with_reducible refine de_name (x := "writer") (i := 1) (s := ?s) ?hN ?hv ?ht ?q ?hd ?hcd); (case hN => rfl); (case hv => walk_at "vis"); (case ht => rfl); (case hd => decide); (case hcd => decide)))


def R_highest_number : Rr := fun _ ss M Q => ∃ lc z, ss = [.d (eLc lc), dS z] ∧ Q (dI (high lc z)) M
theorem ok_highest_number (F : FunAt K mg "highest_number" s_highest_number ["line_counts", "writer"]) (g1 : ∃ t, mg "LARGEST_NUMBER" = some (.int (10 ^ 30) t)) : Cal P w K mg base "highest_number" 1 ["line_counts", "writer"] R_highest_number := by
  refine cal_of F sc_highest_number (fun _ ss _ _ ⟨lc, z, h, _⟩ => by rw [h]; rfl) (fun f cdv A outer s H E L ss M Q hr h => ?_)
  obtain ⟨lc, z, rfl, q⟩ := h
  obtain ⟨t, g1⟩ := g1
  refine db_cons (ds_if (dt_cmp op_isN ?_ (nomark _)))
  walk_at "nm"
  cases lc with
  | none =>
    refine de_non (k_isN ⟨_, rfl, fun _ => ?_, no2⟩)
    exact db_cons (ds_ret (de_glob (by rfl) g1 ⟨_, rfl⟩ q))
  | some cs =>
    refine de_non (k_isN ⟨_, rfl, no1, fun _ => ?_⟩)
    refine db_nil (db_cons (ds_ret (de_dget2 (hu_of hr) ?_)))
    walk_at "nm"
    refine ⟨⟨_, .d (kdC cs)⟩, ?_⟩
    walk_at "nm"
    refine de_int ⟨_, .inr z, .d (kdC cs), rfl, ?_⟩
    rw [valS_C]
    have e : ((getC cs z).map dI).getD (.d (.int 0)) = dI (high (some cs) z) := by
      show _ = dI ((getC cs z).getD 0)
      cases getC cs z <;> rfl
    rw [e]
    exact q

local macro_rules | `(tactic| walk_at "nm") => `(tactic| first | ((with_reducible refine de_name (x := "line_counts") (i := 0) (s := ?s) ?hN ?hv ?ht ?q ?hd ?hcd); (case hN => rfl); (case hv => walk_at "vis"); (case ht => rfl); (case hd => decide); (case hcd => decide)) | ((with_reducible refine de_name (x := "writer") (i := 1) (s := ?s) ?hN ?hv ?ht ?q ?hd ?hcd); (case hN => rfl); (case hv => walk_at "vis"); (case ht => rfl); (case hd => decide); (case hcd => decide)) | ((with_reducible refine de_name (x := "first") (i := 2) (s := ?s) ?hN ?hv ?ht ?q ?hd ?hcd); (case hN => rfl); (case hv => walk_at "vis"); (case ht => rfl); (case hd => decide); (case hcd => decide)) | ((with_reducible refine de_name (x := "last") (i := 3) (s := ?s) ?hN ?hv ?ht ?q ?hd ?hcd); (case hN => rfl); (case hv => walk_at "vis"); (case ht => rfl); (case hd => decide); (case hcd => decide)) | ((with_reducible refine de_name (x := "name") (i := 4) (s := ?s) ?hN ?hv ?ht ?q ?hd ?hcd); (case hN => rfl); (case hv => walk_at "vis"); (case ht => rfl); (case hd => decide); (case hcd => decide)) | ((with_reducible refine de_name (x := "low") (i := 5) (s := ?s) ?hN ?hv ?ht ?q ?hd ?hcd); (case hN => rfl); (case hv => walk_at "vis"); (case ht => rfl); (case hd => decide); (case hcd => decide)) | ((with_reducible refine de_name (x := "high") (i := 6) (s := ?s) ?hN ?hv ?ht ?q ?hd ?hcd); (case hN => rfl); (case hv => walk_at "vis"); (case ht => rfl); (case hd => decide); (case hcd => decide)))


def R_plain_lines : Rr := fun _ ss M Q => ∃ lc x y z, ss = [.d (eLc lc), .d x, .d y, .d z] ∧ short x ∧ Q (.d (mkLines lc x y z)) M
theorem ok_plain_lines (F : FunAt K mg "plain_lines" s_plain_lines ["line_counts", "writer", "first", "last"]) (c1 : Cal P w K mg base "plain_writer" 2 ["value"] R_plain_writer) (c2 : Cal P w K mg base "plain_integer" 1 ["value"] R_plain_integer)
    (c3 : Cal P w K mg base "highest_number" 1 ["line_counts", "writer"] R_highest_number) : Cal P w K mg base "plain_lines" 3 ["line_counts", "writer", "first", "last"] R_plain_lines := by
  refine cal_of F sc_plain_lines (fun _ ss _ _ ⟨lc, x, y, z, h, _⟩ => by rw [h]; rfl) (fun f cdv A outer s H E L ss M Q hr h => ?_)
  obtain ⟨lc, x, y, z, rfl, hs, q⟩ := h
  refine db_cons (ds_set (i := 4) sc_plain_lines.nd rfl (.inl rfl) (de_callC c1 hr (by rfl) (da_cons ?_)))
  walk_at "nm"
  refine da_nil ⟨x, rfl, hs, ?_⟩
  refine db_cons (ds_set (i := 5) sc_plain_lines.nd rfl (.inl rfl) (de_callC (c2.up (by decide)) hr (by rfl) (da_cons ?_)))
  walk_at "nm"
  refine da_nil ⟨y, rfl, ?_⟩
  refine db_cons (ds_set (i := 6) sc_plain_lines.nd rfl (.inl rfl) (de_callC (c2.up (by decide)) hr (by rfl) (da_cons ?_)))
  walk_at "nm"
  refine da_nil ⟨z, rfl, ?_⟩
  refine db_cons (ds_if (dt_or3 (dt_cmp op_isN ?_ (nomark _))))
  walk_at "nm"
  refine de_non (k_isN ⟨_, rfl, fun h1 => ?_, fun h1 => ?_⟩)
  · refine ⟨fun _ => db_cons (ds_ret (de_non ?_)), no2⟩
    have e : mkLines lc x y z = .none := mkLines_n1 h1
    rw [e] at q
    exact q
  · refine dt_cmp op_isN ?_ (nomark _)
    walk_at "nm"
    refine de_non (k_isN ⟨_, rfl, fun h2 => ?_, fun h2 => ?_⟩)
    · refine ⟨fun _ => db_cons (ds_ret (de_non ?_)), no2⟩
      have e : mkLines lc x y z = .none := mkLines_n2 h2
      rw [e] at q
      exact q
    · refine dt_cmp op_isN ?_ (nomark _)
      walk_at "nm"
      refine de_non (k_isN ⟨_, rfl, fun h3 => ?_, fun h3 => ?_⟩)
      · refine db_cons (ds_ret (de_non ?_))
        have e : mkLines lc x y z = .none := mkLines_n3 h3
        rw [e] at q
        exact q
      · obtain ⟨n, hn⟩ : ∃ n, writerOf x = .str n := by
          cases x with
          | str n =>
            by_cases hn : okName n = true
            · exact ⟨n, by simp only [writerOf, hn, if_true]⟩
            · exfalso
              simp only [writerOf, hn, if_false] at h1
              cases h1
          | _ => cases h1
        obtain ⟨i, hi⟩ : ∃ i, intOf y = .int i := by
          cases y with
          | int i => exact ⟨i, rfl⟩
          | _ => cases h2
        obtain ⟨j, hj⟩ : ∃ j, intOf z = .int j := by
          cases z with
          | int i => exact ⟨i, rfl⟩
          | _ => cases h3
        rw [hn, hi, hj]
        have el : mkLines lc x y z = if 1 ≤ i ∧ i ≤ j ∧ j ≤ high lc n then .tuple [.str n, .int i, .int j] else .none := by
          simp only [mkLines, hn, hi, hj]
        rw [el] at q
        have no : ¬ (1 ≤ i ∧ i ≤ j ∧ j ≤ high lc n) → Q (.d .none) M := fun h => by
          rw [if_neg h] at q
          exact q
        refine db_nil (db_cons (ds_if (dt_chain3 op_le op_le op_le (de_int ?_))))
        walk_at "nm"
        refine k_bool ⟨_, rfl, fun h4 => ?_, fun h4 => ?_⟩
        · walk_at "nm"
          refine k_bool ⟨_, rfl, fun h5 => ?_, fun h5 => ?_⟩
          · refine de_callC (c3.up (by decide)) hr (by rfl) (da_cons ?_)
            walk_at "nm"
            refine da_cons ?_
            walk_at "nm"
            refine da_nil ⟨lc, n, rfl, k_bool ⟨_, rfl, fun h6 => ?_, fun h6 => ?_⟩⟩
            · refine db_cons (ds_ret (de_tupD (da_cons ?_)))
              walk_at "nm"
              refine da_cons ?_
              walk_at "nm"
              refine da_cons ?_
              walk_at "nm"
              refine da_nil ⟨[.str n, .int i, .int j], rfl, (by show 3 ≤ sizeLine; decide), ?_⟩
              rw [if_pos ⟨of_decide_eq_true h4, of_decide_eq_true h5, of_decide_eq_true h6⟩] at q
              exact q
            · exact db_nil (db_cons (ds_ret (de_non (no fun h => of_decide_eq_false h6 h.2.2))))
          · exact ⟨no1, fun _ => db_nil (db_cons (ds_ret (de_non (no fun h => of_decide_eq_false h5 h.2.1))))⟩
        · refine ⟨no1, fun _ => db_nil (db_cons (ds_ret (de_non (no fun h => of_decide_eq_false h4 h.1))))⟩

end

end Pg

namespace Pg
open PySem L2 Y PyProof.Rows

local macro_rules | `(tactic| walk_at "vis") => `(tactic| first | exact Or.inl rfl | exact Or.inr (Or.inl rfl) | exact Or.inr (Or.inr rfl))
local macro_rules | `(tactic| walk_at "e1") => `(tactic| first | walk_at "nm" | refine de_int ?_ | refine de_add ?_ | refine de_sub ?_ | refine de_str ?_ | refine de_non ?_ | refine de_bl ?_)
local macro_rules | `(tactic| walk_at "go") => `(tactic| repeat (first | ((with_reducible show DE _ _ _ _ _ _); walk_at "e1") | ((with_reducible show DA _ _ _ _ _ _); refine da_cons ?_) | refine ⟨_, _, rfl, rfl, ?_⟩))

section
variable {P : Program} {w : World} {K : PySem.W.Frag} {mg : Str → Option Value} {base : Heap}

local macro_rules | `(tactic| walk_at "nm") => `(tactic| first | ((with_reducible refine de_name (x := "line_counts") (i := 0) (s := ?s) ?hN ?hv ?ht ?q ?hd ?hcd); (case hN => rfl); (case hv => walk_at "vis"); (case ht => rfl); (case hd => decide); (case hcd => decide)) | ((with_reducible refine de_name (x := "value") (i := 1) (s := ?s) ?hN ?hv ?ht ?q ?hd ?hcd); (case hN => rfl); (case hv => walk_at "vis"); (case ht => rfl); (case hd => decide); (case hcd => decide)) | ((with_reducible refine de_name (x := "run") (i := 2) (s := ?s) ?hN ?hv ?ht ?q ?hd ?hcd); (case hN => rfl); (case hv => walk_at "vis"); (case ht => rfl); (case hd => decide); (case hcd => decide)))


def lineOf (lc : Option Cnt) : PyData → PyData
  | .tuple [a, b] => match mkLines lc a b b with
    | .tuple [x, y, _] => .tuple [x, y]
    | _ => .none
  | _ => .none
def R_plain_line : Rr := fun _ ss M Q => ∃ lc l, ss = [.d (eLc lc), sLine l] ∧ okLine lc l ∧ Q (sLine l) M
theorem ok_plain_line (F : FunAt K mg "plain_line" s_plain_line ["line_counts", "value"]) (c1 : Cal P w K mg base "plain_lines" 3 ["line_counts", "writer", "first", "last"] R_plain_lines) (b1 : mg "type" = none) (b2 : mg "tuple" = none) (b3 : mg "len" = none) : Cal P w K mg base "plain_line" 4 ["line_counts", "value"] R_plain_line := by
  refine cal_of F sc_plain_line (fun _ ss _ _ ⟨lc, x, h, _⟩ => by rw [h]; rfl) (fun f cdv A outer s H E L ss M Q hr h => ?_)
  obtain ⟨lc, l, rfl, ok, q⟩ := h
  refine db_cons (ds_if (dt_or2 (dt_cmp op_neTy (de_callT call_type1 (by rfl) b1 bt_type (da_cons ?_)) (nomark _))))
  walk_at "nm"
  refine da_nil (k_typeD rfl (de_type (by rfl) b2 bt_tuple (k_neTy okTy_tuple okTy_tuple ⟨_, rfl, fun z => absurd z (by simp [tyD, eLine, eRun, isNone, sRun, sLine]), fun _ => ?_⟩)))
  refine dt_cmp op_ne (de_callB call_len_seq (by rfl) b3 bt_len (da_cons ?_)) (nomark _)
  walk_at "nm"
  refine da_nil (k_len (ss := [.d (.str l.1), .d (.int l.2)]) rfl (de_int (k_neI ⟨_, rfl, fun z => absurd z (by simp [tyD, eLine, eRun, isNone, sRun, sLine]), fun _ => ?_⟩)))
  refine db_nil (db_cons (ds_set (i := 2) sc_plain_line.nd rfl (.inl rfl) (de_callC c1 hr (by rfl) (da_cons ?_))))
  walk_at "nm"
  refine da_cons (de_ix ?_)
  walk_at "nm"
  refine de_int ⟨_, _, .d (.str l.1), rfl, rfl, rfl, ?_⟩
  refine da_cons (de_ix ?_)
  walk_at "nm"
  refine de_int ⟨_, _, .d (.int l.2), rfl, rfl, rfl, ?_⟩
  refine da_cons (de_ix ?_)
  walk_at "nm"
  refine de_int ⟨_, _, .d (.int l.2), rfl, rfl, rfl, ?_⟩
  refine da_nil ⟨lc, _, _, _, rfl, short_of_okName ok.1, ?_⟩
  have e : mkLines lc (.str l.1) (.int l.2) (.int l.2) = eRun (l.1, l.2, l.2) := mkLines_ok (r := (l.1, l.2, l.2)) ⟨ok.1, ok.2.1, Int.le_refl _, ok.2.2⟩
  rw [e]
  refine db_cons (ds_if (dt_cmp op_isN ?_ (nomark _)))
  walk_at "nm"
  refine de_non (k_isN ⟨_, rfl, fun z => absurd z (by simp [tyD, eLine, eRun, isNone, sRun, sLine]), fun _ => ?_⟩)
  refine db_nil (db_cons (ds_ret (de_tupD (da_cons (de_ix ?_)))))
  walk_at "nm"
  refine de_int ⟨_, _, .d (.str l.1), rfl, rfl, rfl, ?_⟩
  refine da_cons (de_ix ?_)
  walk_at "nm"
  refine de_int ⟨_, _, .d (.int l.2), rfl, rfl, rfl, ?_⟩
  exact da_nil ⟨[.str l.1, .int l.2], rfl, (by show 2 ≤ sizeLine; decide), q⟩

end

end Pg

namespace Pg
open PySem L2 Y PyProof.Rows

local macro_rules | `(tactic| walk_at "vis") => `(tactic| first | exact Or.inl rfl | exact Or.inr (Or.inl rfl) | exact Or.inr (Or.inr rfl))
local macro_rules | `(tactic| walk_at "e1") => `(tactic| first | walk_at "nm" | refine de_int ?_ | refine de_add ?_ | refine de_sub ?_ | refine de_str ?_ | refine de_non ?_ | refine de_bl ?_)
local macro_rules | `(tactic| walk_at "go") => `(tactic| repeat (first | ((with_reducible show DE _ _ _ _ _ _); walk_at "e1") | ((with_reducible show DA _ _ _ _ _ _); refine da_cons ?_) | refine ⟨_, _, rfl, rfl, ?_⟩))

section
variable {P : Program} {w : World} {K : PySem.W.Frag} {mg : Str → Option Value} {base : Heap}

local macro_rules | `(tactic| walk_at "nm") => `(tactic| first | ((with_reducible refine de_name (x := "value") (i := 0) (s := ?s) ?hN ?hv ?ht ?q ?hd ?hcd); (case hN => rfl); (case hv => walk_at "vis"); (case ht => rfl); (case hd => decide); (case hcd => decide)) | ((with_reducible refine de_name (x := "counts") (i := 1) (s := ?s) ?hN ?hv ?ht ?q ?hd ?hcd); (case hN => rfl); (case hv => walk_at "vis"); (case ht => rfl); (case hd => decide); (case hcd => decide)) | ((with_reducible refine de_name (x := "key") (i := 2) (s := ?s) ?hN ?hv ?ht ?q ?hd ?hcd); (case hN => rfl); (case hv => walk_at "vis"); (case ht => rfl); (case hd => decide); (case hcd => decide)) | ((with_reducible refine de_name (x := "number") (i := 3) (s := ?s) ?hN ?hv ?ht ?q ?hd ?hcd); (case hN => rfl); (case hv => walk_at "vis"); (case ht => rfl); (case hd => decide); (case hcd => decide)) | ((with_reducible refine de_name (x := "writer") (i := 4) (s := ?s) ?hN ?hv ?ht ?q ?hd ?hcd); (case hN => rfl); (case hv => walk_at "vis"); (case ht => rfl); (case hd => decide); (case hcd => decide)) | ((with_reducible refine de_name (x := "count") (i := 5) (s := ?s) ?hN ?hv ?ht ?q ?hd ?hcd); (case hN => rfl); (case hv => walk_at "vis"); (case ht => rfl); (case hd => decide); (case hcd => decide)))


/-- the same counts, in order -/
def Sorted (cs cs' : Cnt) : Prop := cs'.Perm cs ∧ sortedS (cs'.map (·.1)) = true
def R_plain_line_counts : Rr := fun L ss M Q => ∃ cs, NoDK L ∧ ss = [.d (eCnt cs)] ∧ okCnt cs ∧ ∀ cs', Sorted cs cs' → Q (.d (eCnt cs')) M
theorem getC_mem {cs : Cnt} (hn : (cs.map (·.1)).Nodup) {p : Str × Int} (h : p ∈ cs) : getC cs p.1 = some p.2 := by
  induction cs with
  | nil => cases h
  | cons a r ih =>
    rw [List.map_cons, List.nodup_cons] at hn
    rcases List.mem_cons.mp h with rfl | h
    · simp [getC, List.find?_cons]
    · have ne : ¬ a.1 = p.1 := fun e => hn.1 (by rw [e]; exact List.mem_map_of_mem h)
      have := ih hn.2 h
      simp only [getC, List.find?_cons, ne, decide_false] at this ⊢
      exact this
theorem putS_new {kvs : List (Key × Sl)} {k : Key} {v : Sl} (h : k ∉ kvs.map (·.1)) : putS kvs k v = kvs ++ [(k, v)] := by
  unfold putS
  rw [if_neg]
  simp only [List.any_eq_true, decide_eq_true_eq, not_exists, not_and]
  exact fun p hp e => h (e ▸ List.mem_map_of_mem hp)
theorem slK_take (cs : Cnt) (i : Nat) : slK ((kdC cs).take i) = (slK (kdC cs)).take i := by
  unfold slK
  rw [List.map_take]
theorem keys_C (cs : Cnt) : (slK (kdC cs)).map (·.1) = (cs.map (·.1)).map Sum.inr := by
  simp [slK, kdC]
theorem perm_of_keys {cs : Cnt} (hn : (cs.map (·.1)).Nodup) {ys : List Str} (h : ys.Perm (cs.map (·.1))) : (ys.map fun y => (y, (getC cs y).getD 0)).Perm cs := by
  have h2 := h.map (fun y => (y, (getC cs y).getD 0))
  refine h2.trans (List.Perm.of_eq ?_)
  rw [List.map_map]
  conv => rhs; rw [← List.map_id cs]
  apply List.map_congr_left
  intro p hp
  simp only [Function.comp, getC_mem hn hp, Option.getD_some, id]
theorem ok_plain_line_counts (F : FunAt K mg "plain_line_counts" s_plain_line_counts ["value"]) (c1 : Cal P w K mg base "plain_writer" 2 ["value"] R_plain_writer) (c2 : Cal P w K mg base "plain_integer" 1 ["value"] R_plain_integer)
    (b1 : mg "isinstance" = none) (b2 : mg "dict" = none) (b3 : mg "len" = none) (b4 : mg "sorted" = none) (g1 : ∃ t, mg "MOST_WRITERS" = some (.int 12 t)) (g2 : ∃ t, mg "LARGEST_NUMBER" = some (.int (10 ^ 30) t)) : Cal P w K mg base "plain_line_counts" 3 ["value"] R_plain_line_counts := by
  refine cal_of F sc_plain_line_counts (fun _ ss _ _ ⟨cs, _, h, _⟩ => by rw [h]; rfl) (fun f cdv A outer s H E L ss M Q hr h => ?_)
  obtain ⟨cs, hL, rfl, ok, q⟩ := h
  obtain ⟨l1, l2, nd, okp⟩ := ok
  obtain ⟨t1, g1⟩ := g1
  obtain ⟨t2, g2⟩ := g2
  have hlen : (kdC cs).length = cs.length := by simp [kdC]
  refine db_cons (ds_ifF (dt_or2 (dt_not (dt_val (de_callB call_isi (by rfl) b1 bt_isinstance (da_cons ?_))))) (db_nil ?_))
  · walk_at "nm"
    refine da_cons (de_type (by rfl) b2 bt_dict (da_nil (k_isaDict ⟨_, rfl, fun z => absurd z (by simp [isaDict, eCnt]), fun _ => dt_not (dt_chain op_le op_le (de_int (de_callB call_lenR (by rfl) b3 bt_len (da_cons ?_))))⟩)))
    walk_at "nm"
    refine da_nil (k_lenD (.d (kdC cs)) ?_)
    rw [show (slK (kdC cs)).length = cs.length by simp [slK, kdC]]
    refine k_bool ⟨_, rfl, fun _ => de_glob (by rfl) g1 ⟨_, rfl⟩ (k_bool ⟨_, rfl, by simp; omega, rfl⟩), fun z => absurd z (by simp; omega)⟩
  refine db_cons (ds_set (i := 1) sc_plain_line_counts.nd rfl (.inr rfl) (de_dictC fun p hp => ?_))
  refine db_cons (ds_forItems (i := 0) (kd := kdC cs) PassesOwn.never rfl hL rfl (.inl rfl) rfl (fun n τ' M' => ∃ y2 y3 y4 y5, τ' = [some (.d (eCnt cs)), some (.c p), y2, y3, y4, y5] ∧ M' = updC M p (.k (slK ((kdC cs).take n)))) ⟨none, none, none, none, rfl, rfl⟩ ?_ ?_)
  · rintro x ⟨xs, hx⟩ n k d τ' M' hn ⟨y2, y3, y4, y5, rfl, rfl⟩
    have hnl : n < cs.length := by
      have := (List.getElem?_eq_some_iff.mp hn).1
      omega
    have hkd : k = .inr cs[n].1 ∧ d = .int cs[n].2 := by
      rw [show (kdC cs)[n]? = some (.inr cs[n].1, .int cs[n].2) by simp [kdC, List.getElem?_eq_getElem hnl]] at hn
      have := Option.some.inj hn
      exact ⟨(Prod.mk.inj this).1.symm, (Prod.mk.inj this).2.symm⟩
    obtain ⟨rfl, rfl⟩ := hkd
    obtain ⟨o1, o2, o3⟩ := okp _ (List.getElem_mem hnl)
    refine dg_of (pg_tup rfl (pgs_cons (pg_name (i := 2) sc_plain_line_counts.nd rfl (.inl rfl)) (pgs_cons (pg_name (i := 3) sc_plain_line_counts.nd rfl (.inl rfl)) pgs_nil))) (wg_tup rfl rfl rfl (wgs_cons (wg_name (wgs_cons (wg_name (wgs_nil ?_))))))
    refine db_cons (ds_set (i := 4) sc_plain_line_counts.nd rfl (.inl rfl) (de_callC c1 hr (by rfl) (da_cons ?_)))
    walk_at "nm"
    refine da_nil ⟨.str cs[n].1, rfl, short_of_okName o1, ?_⟩
    rw [show writerOf (.str cs[n].1) = .str cs[n].1 by simp only [writerOf, o1, if_true]]
    refine db_cons (ds_set (i := 5) sc_plain_line_counts.nd rfl (.inl rfl) (de_callC (c2.up (by decide)) hr (by rfl) (da_cons ?_)))
    walk_at "nm"
    refine da_nil ⟨.int cs[n].2, rfl, ?_⟩
    refine db_cons (ds_ifF (dt_or3 (dt_cmp op_isN ?_ (nomark _))) (db_nil ?_))
    · walk_at "nm"
      refine de_non (k_isN ⟨_, rfl, fun z => (nomatch z), fun _ => dt_cmp op_isN ?_ (nomark _)⟩)
      walk_at "nm"
      refine de_non (k_isN ⟨_, rfl, fun z => (nomatch z), fun _ => dt_not (dt_chain op_le op_le (de_int ?_))⟩)
      walk_at "nm"
      exact k_bool ⟨_, rfl, fun _ => de_glob (by rfl) g2 ⟨_, rfl⟩ (k_bool ⟨_, rfl, by simpa using o3, rfl⟩), fun z => absurd z (by simp [o2])⟩
    refine db_cons (ds_dput (hu_of hr) ?_)
    walk_at "nm"
    walk_at "nm"
    walk_at "nm"
    refine ⟨p, _, .inr cs[n].1, rfl, updC_same, rfl, ?_, db_nil ⟨_, _, _, _, rfl, ?_⟩⟩
    · rw [sizeLine_eq]
      simp [slK, kdC]
      omega
    · rw [updC_updC, putS_new ?_]
      · have e : (kdC cs).take (n + 1) = (kdC cs).take n ++ [(.inr cs[n].1, .int cs[n].2)] := by
          rw [List.take_add_one, hn]
          rfl
        rw [e]
        simp [slK, dI, intOf]
      · rw [slK_take, List.map_take, keys_C]
        intro hm
        rw [← List.map_take] at hm
        obtain ⟨z, hz, ez⟩ := List.mem_map.mp hm
        have ez' : z = cs[n].1 := Sum.inr.inj ez
        subst ez'
        obtain ⟨j, hj, ej⟩ := List.getElem_of_mem hz
        rw [List.length_take, List.length_map] at hj
        rw [List.getElem_take, List.getElem_map] at ej
        have hj1 : j < cs.length := by omega
        have := (List.getElem_inj (i := j) (j := n) (h₀ := by rw [List.length_map]; exact hj1) (h₁ := by rw [List.length_map]; exact hnl) nd).mp (by rw [List.getElem_map, List.getElem_map]; exact ej)
        omega
  · rintro τ' M' ⟨y2, y3, y4, y5, rfl, rfl⟩
    rw [List.take_of_length_le (Nat.le_refl _)]
    refine db_cons (ds_ret (de_gc (de_frzK (de_dc0 (own := [("writer", 4)]) (g := gName 4) rfl sc_plain_line_counts.nd (blkOk_by (own := [("writer", 4)]) (N := ["value", "counts", "key", "number", "writer", "count"]) (sc := defScope s_plain_line_counts) (by decide +kernel)) (fun _ _ _ _ _ => pg_name (i := 4) sc_plain_line_counts.nd rfl (.inl rfl)) (di_seq (de_callB (call_sortedD rfl) (by rfl) b4 bt_sorted (da_cons ?_)))))))
    walk_at "nm"
    refine da_nil (k_sortedD (DictIs.c updC_same) (keys_C cs) (by rw [List.length_map]; omega) fun ys p2 hperm hsort hp2 => ?_)
    refine ⟨ys.map dS, by simp only [seqOf, updC_same], fun D hD => ?_⟩
    have np2 : p2 ≠ p := fun e => by rw [e, updC_same] at hp2; cases hp2
    have nD2 : D ≠ p2 := fun e => by rw [e, updC_same] at hD; cases hD
    have nDp : D ≠ p := fun e => by
      rw [e, updC_ne np2.symm, updC_same] at hD
      cases hD
    have hlk : ys.length = cs.length := by rw [hperm.length_eq, List.length_map]
    refine ⟨fun i M' => M' = updC (updC (updC M p (.k (slK (kdC cs)))) p2 (.l (ys.map dS))) D (.k (slK (kdC ((ys.take i).map fun y => (y, (getC cs y).getD 0))))), rfl, ?_, ?_, ?_⟩
    · rintro i M' rfl
      simp only [seqOf, updC_ne nD2.symm, updC_same]
    · rintro i y M' hi hy rfl
      rw [List.length_map] at hi
      have hy' : y = dS ys[i] := by
        rw [List.getElem?_map, List.getElem?_eq_getElem hi] at hy
        exact (Option.some.inj hy).symm
      subst hy'
      refine wgw_name (by simp) ?_
      intro s0 H0 C cl fp
      walk_at "nm"
      intro s0 H0 C cl fp
      refine de_dget (hu_of hr) ?_
      walk_at "nm"
      walk_at "nm"
      have hmem : ys[i] ∈ cs.map (·.1) := hperm.mem_iff.mp (List.getElem_mem hi)
      obtain ⟨p0, hp0, e0⟩ := List.mem_map.mp hmem
      have hg : getC cs ys[i] = some p0.2 := by rw [← e0]; exact getC_mem nd hp0
      refine ⟨_, .inr ys[i], dI p0.2, .c (by rw [updC_ne nDp.symm, updC_ne np2.symm, updC_same]), rfl, by rw [valS_C, hg]; rfl, _, .inr ys[i], rfl, updC_same, ?_, ?_⟩
      · rw [sizeLine_eq]
        simp [slK, kdC]
        omega
      · rw [updC_updC, putS_new ?_]
        · show updC _ _ _ = updC _ _ _
          rw [show slK (kdC ((ys.take (i + 1)).map fun y => (y, (getC cs y).getD 0))) = slK (kdC ((ys.take i).map fun y => (y, (getC cs y).getD 0))) ++ [(.inr ys[i], dI p0.2)] from by
            rw [List.take_add_one, List.getElem?_eq_getElem hi]
            simp only [slK, kdC, Option.toList_some, List.map_append, List.map_cons, List.map_nil, hg, Option.getD_some, dI]]
        · rw [keys_C]
          intro hm
          obtain ⟨z, hz, ez⟩ := List.mem_map.mp hm
          have ez' : z = ys[i] := Sum.inr.inj ez
          rw [List.map_map] at hz
          obtain ⟨z2, hz2, ez2⟩ := List.mem_map.mp hz
          have ez2' : z2 = z := ez2
          rw [ez2', ez'] at hz2
          have ndy : ys.Nodup := hperm.nodup_iff.mpr nd
          obtain ⟨j, hj, ej⟩ := List.getElem_of_mem hz2
          rw [List.length_take] at hj
          rw [List.getElem_take] at ej
          have := (List.getElem_inj (i := j) (j := i) (h₀ := by omega) (h₁ := hi) ndy).mp ej
          omega
    · rintro M' rfl
      refine ⟨D, kdC (ys.map fun y => (y, (getC cs y).getD 0)), rfl, ?_, ?_⟩
      · rw [List.length_map, List.take_of_length_le (Nat.le_refl _), updC_same]
      · refine ⟨M, ?_, q _ ⟨perm_of_keys nd hperm, ?_⟩⟩
        · have hD0 : M D = none := by
            rw [updC_ne nD2, updC_ne nDp] at hD
            exact hD
          have hp20 : M p2 = none := by
            rw [updC_ne np2] at hp2
            exact hp2
          exact ((((Sub.refl M).new hp).put hp20).put hD0).del hD0
        · rw [List.map_map, show (ys.map ((fun x => x.1) ∘ fun y => (y, (getC cs y).getD 0))) = ys from by simp [Function.comp_def]]
          exact hsort

local macro_rules | `(tactic| walk_at "nm") => `(tactic| first | ((with_reducible refine de_name (x := "value") (i := 0) (s := ?s) ?hN ?hv ?ht ?q ?hd ?hcd); (case hN => rfl); (case hv => walk_at "vis"); (case ht => rfl); (case hd => decide); (case hcd => decide)) | ((with_reducible refine de_name (x := "counts") (i := 1) (s := ?s) ?hN ?hv ?ht ?q ?hd ?hcd); (case hN => rfl); (case hv => walk_at "vis"); (case ht => rfl); (case hd => decide); (case hcd => decide)))


theorem ok_checked_line_counts (F : FunAt K mg "checked_line_counts" s_checked_line_counts ["value"]) (c1 : Cal P w K mg base "plain_line_counts" 3 ["value"] R_plain_line_counts) : Cal P w K mg base "checked_line_counts" 4 ["value"] R_plain_line_counts := by
  refine cal_of F sc_checked_line_counts (fun _ ss _ _ ⟨cs, _, h, _⟩ => by rw [h]; rfl) (fun f cdv A outer s H E L ss M Q hr h => ?_)
  obtain ⟨cs, hL, rfl, ok, q⟩ := h
  refine db_cons (ds_set (i := 1) sc_checked_line_counts.nd rfl (.inl rfl) (de_callC c1 hr (by rfl) (da_cons ?_)))
  walk_at "nm"
  refine da_nil ⟨cs, hL, rfl, ok, fun cs' hs => ?_⟩
  refine db_cons (ds_ifF (dt_cmp op_isN ?_ (nomark _)) (db_nil (db_cons (ds_ret ?_))))
  · walk_at "nm"
    exact de_non (k_isN ⟨_, rfl, rfl, rfl⟩)
  · walk_at "nm"
    exact q cs' hs

end

end Pg

namespace Pg
open PySem L2 Y PyProof.Rows

local macro_rules | `(tactic| walk_at "vis") => `(tactic| first | exact Or.inl rfl | exact Or.inr (Or.inl rfl) | exact Or.inr (Or.inr rfl))
local macro_rules | `(tactic| walk_at "e1") => `(tactic| first | walk_at "nm" | refine de_int ?_ | refine de_add ?_ | refine de_sub ?_ | refine de_str ?_ | refine de_non ?_ | refine de_bl ?_)
local macro_rules | `(tactic| walk_at "go") => `(tactic| repeat (first | ((with_reducible show DE _ _ _ _ _ _); walk_at "e1") | ((with_reducible show DA _ _ _ _ _ _); refine da_cons ?_) | refine ⟨_, _, rfl, rfl, ?_⟩))


theorem sub_put {A B : Cs} {p : Addr} {c : Cell} (h : Sub A B) (hp : A p = none) : Sub A (updC B p c) := fun b d e => by
  rw [updC_ne (neC e hp)]
  exact h b d e
theorem Sub.trans {A B C : Cs} (h : Sub A B) (k : Sub B C) : Sub A C := fun a c e => k a c (h a c e)
/-- intervals of one writer -/
abbrev Ivs := List (Int × Int)
def eIv (p : Int × Int) : PyData := .tuple [.int p.1, .int p.2]
def sIv (p : Int × Int) : Sl := .d (eIv p)
def eIvs (l : Ivs) : PyData := .list (l.map eIv)
theorem seq_ivs (M : Cs) (l : Ivs) : seqOf M (.d (eIvs l)) = some (l.map sIv) := by simp only [seqOf, eIvs, List.map_map]; rfl
abbrev LSet := List (Str × Ivs)
def kdL (ls : LSet) : List (Key × PyData) := ls.map fun p => (.inr p.1, eIvs p.2)
def eLS (ls : LSet) : PyData := .dict (encK (kdL ls))
/-- ascending intervals that do not touch, of the numbers 1 to h -/
def okIvs (h : Int) (l : Ivs) : Prop := (∀ p ∈ l, 1 ≤ p.1 ∧ p.1 ≤ p.2 ∧ p.2 ≤ h) ∧ ∀ (i : Nat) (a b : Int × Int), l[i]? = some a → l[i + 1]? = some b → a.2 + 1 < b.1
def okLS (cs : Cnt) (ls : LSet) : Prop := (ls.map (·.1)).Nodup ∧ ls.length ≤ 12 ∧ ∀ p ∈ ls, okName p.1 = true ∧ p.1 ∈ cs.map (·.1) ∧ okIvs (high (some cs) p.1) p.2 ∧ p.2.length ≤ 1000
/-- the writers with lines -/
def neLS (ls : LSet) : LSet := ls.filter fun p => !p.2.isEmpty
section
variable {P : Program} {w : World} {K : PySem.W.Frag} {mg : Str → Option Value} {base : Heap}

local macro_rules | `(tactic| walk_at "nm") => `(tactic| first | ((with_reducible refine de_name (x := "line_counts") (i := 0) (s := ?s) ?hN ?hv ?ht ?q ?hd ?hcd); (case hN => rfl); (case hv => walk_at "vis"); (case ht => rfl); (case hd => decide); (case hcd => decide)) | ((with_reducible refine de_name (x := "writer") (i := 1) (s := ?s) ?hN ?hv ?ht ?q ?hd ?hcd); (case hN => rfl); (case hv => walk_at "vis"); (case ht => rfl); (case hd => decide); (case hcd => decide)) | ((with_reducible refine de_name (x := "value") (i := 2) (s := ?s) ?hN ?hv ?ht ?q ?hd ?hcd); (case hN => rfl); (case hv => walk_at "vis"); (case ht => rfl); (case hd => decide); (case hcd => decide)) | ((with_reducible refine de_name (x := "intervals") (i := 3) (s := ?s) ?hN ?hv ?ht ?q ?hd ?hcd); (case hN => rfl); (case hv => walk_at "vis"); (case ht => rfl); (case hd => decide); (case hcd => decide)) | ((with_reducible refine de_name (x := "item") (i := 4) (s := ?s) ?hN ?hv ?ht ?q ?hd ?hcd); (case hN => rfl); (case hv => walk_at "vis"); (case ht => rfl); (case hd => decide); (case hcd => decide)) | ((with_reducible refine de_name (x := "run") (i := 5) (s := ?s) ?hN ?hv ?ht ?q ?hd ?hcd); (case hN => rfl); (case hv => walk_at "vis"); (case ht => rfl); (case hd => decide); (case hcd => decide)))


def R_plain_ivs : Rr := fun _ ss M Q => ∃ (lc : Option Cnt) (z : Str) (l : Ivs), ss = [.d (eLc lc), dS z, .d (eIvs l)] ∧ okName z = true ∧ okIvs (high lc z) l ∧ l.length ≤ 10000 ∧ ∀ (p : Addr) (M' : Cs), Sub M M' → M p = none → M' p = some (.l (l.map sIv)) → Q (.c p) M'
theorem ok_plain_intervals (F : FunAt K mg "plain_intervals" s_plain_intervals ["line_counts", "writer", "value"]) (c1 : Cal P w K mg base "plain_lines" 3 ["line_counts", "writer", "first", "last"] R_plain_lines) (b1 : mg "type" = none) (b2 : mg "list" = none) (b3 : mg "tuple" = none) (b4 : mg "len" = none) : Cal P w K mg base "plain_intervals" 4 ["line_counts", "writer", "value"] R_plain_ivs := by
  refine cal_of F sc_plain_intervals (fun _ ss _ _ ⟨lc, z, l, h, _⟩ => by rw [h]; rfl) (fun f cdv A outer s H E L ss M Q hr h => ?_)
  obtain ⟨lc, z, l, rfl, zn, ok, hl, q⟩ := h
  refine db_cons (ds_if (dt_cmp op_neTy (de_callT call_type1 (by rfl) b1 bt_type (da_cons ?_)) (nomark _)))
  walk_at "nm"
  refine da_nil (k_typeD rfl (de_type (by rfl) b2 bt_list (k_neTy okTy_list okTy_list ⟨_, rfl, fun z => absurd z (by simp [tyD, eIvs]), fun _ => db_nil ?_⟩)))
  refine db_cons (ds_set (i := 3) sc_plain_intervals.nd rfl (.inl rfl) (de_lstC (da_nil ⟨Nat.zero_le _, fun pf hpf => ?_⟩)))
  have sub_M1 : Sub M (updC M pf (.l [])) := (Sub.refl _).new hpf
  have m_pf : updC M pf (.l []) pf = some (.l []) := updC_same
  generalize updC M pf (.l []) = M1 at sub_M1 m_pf
  refine db_cons (ds_for PassesOwn.never rfl (di_seq ?_))
  walk_at "nm"
  refine ⟨l.map sIv, seq_ivs _ _, ?_⟩
  refine ⟨fun i τ' M' => ∃ (y4 y5 : Option Sl), τ' = [some (.d (eLc lc)), some (dS z), some (.d (eIvs l)), some (.c pf), y4, y5] ∧ Sub M M' ∧ M' pf = some (.l ((l.take i).map sIv)), ⟨none, none, rfl, sub_M1, m_pf⟩, fun _ _ _ _ => seq_ivs _ _, ?_, ?_⟩
  · rintro i y τ' M2 hi hy ⟨y4, y5, rfl, sub2, m2f⟩
    rw [List.length_map] at hi
    have hy' : y = sIv l[i] := by
      rw [List.getElem?_map, List.getElem?_eq_getElem hi] at hy
      exact (Option.some.inj hy).symm
    subst hy'
    have hti : l.take (i + 1) = l.take i ++ [l[i]] := by rw [List.take_add_one, List.getElem?_eq_getElem hi]; rfl
    have hprev : ∀ j x, i = j + 1 → l[j]? = some x → x.2 + 1 < (l[i]).1 := fun j x e hx => ok.2 j x l[i] hx (by rw [← e]; exact List.getElem?_eq_getElem hi)
    obtain ⟨o1, o2, o3⟩ := ok.1 _ (List.getElem_mem hi)
    generalize l[i] = v at hti hprev o1 o2 o3
    refine dg_of (pg_name (i := 4) sc_plain_intervals.nd rfl (.inl rfl)) (wg_name ?_)
    refine db_cons (ds_if (dt_or2 (dt_cmp op_neTy (de_callT call_type1 (by rfl) b1 bt_type (da_cons ?_)) (nomark _))))
    walk_at "nm"
    refine da_nil (k_typeD rfl (de_type (by rfl) b3 bt_tuple (k_neTy okTy_tuple okTy_tuple ⟨_, rfl, fun z => absurd z (by simp [tyD, eIv]), fun _ => ?_⟩)))
    refine dt_cmp op_ne (de_callB call_len_seq (by rfl) b4 bt_len (da_cons ?_)) (nomark _)
    walk_at "nm"
    refine da_nil (k_len (ss := [.d (.int v.1), .d (.int v.2)]) rfl (de_int (k_neI ⟨_, rfl, fun z => absurd z (by simp), fun _ => db_nil ?_⟩)))
    refine db_cons (ds_set (i := 5) sc_plain_intervals.nd rfl (.inl rfl) (de_callC c1 hr (by rfl) (da_cons ?_)))
    walk_at "nm"
    refine da_cons ?_
    walk_at "nm"
    refine da_cons (de_ix ?_)
    walk_at "nm"
    refine de_int ⟨_, 0, dI v.1, rfl, rfl, rfl, da_cons (de_ix ?_)⟩
    walk_at "nm"
    refine de_int ⟨_, 1, dI v.2, rfl, rfl, rfl, da_nil ⟨lc, .str z, .int v.1, .int v.2, rfl, short_of_okName zn, ?_⟩⟩
    have e : mkLines lc (.str z) (.int v.1) (.int v.2) = eRun (z, v.1, v.2) := mkLines_ok (r := (z, v.1, v.2)) ⟨zn, o1, o2, o3⟩
    rw [e]
    refine db_consJ (fun τ' M' => τ' = [some (.d (eLc lc)), some (dS z), some (.d (eIvs l)), some (.c pf), some (sIv v), some (sRun (z, v.1, v.2))] ∧ M' = M2) (ds_if (dt_or2 (dt_cmp op_isN ?_ (nomark _)))) ?_
    · walk_at "nm"
      refine de_non (k_isN ⟨_, rfl, fun z => (nomatch z), fun _ => dt_and2 (dt_tru ?_)⟩)
      walk_at "nm"
      have tru : truOf M2 (.c pf) = some (!(l.take i).isEmpty) := by
        show ((seqOf M2 (.c pf)).map fun ss => !ss.isEmpty) = _
        rw [show seqOf M2 (.c pf) = some ((l.take i).map sIv) from by simp only [seqOf, m2f]]
        cases l.take i <;> rfl
      refine ⟨_, tru, fun h => ?_, fun _ => ⟨no1, fun _ => db_nil ⟨rfl, rfl⟩⟩⟩
      have hi0 : 0 < i := by
        cases i with
        | zero => cases h
        | succ i => exact Nat.succ_pos i
      obtain ⟨j, hj⟩ : ∃ j, i = j + 1 := ⟨i - 1, by omega⟩
      have hjl : j < l.length := by omega
      have hx := hprev j l[j] hj (List.getElem?_eq_getElem hjl)
      have hlast : ((l.take i).map sIv).getLast? = some (sIv l[j]) := by
        rw [hj, List.take_add_one, List.getElem?_eq_getElem hjl, List.map_append]
        exact List.getLast?_concat
      generalize l[j] = x at hx hlast
      refine dt_cmp op_le (de_ix ?_) (by with_unfolding_all rfl)
      walk_at "nm"
      refine de_int ⟨_, 1, dI v.1, rfl, rfl, rfl, de_add (de_ix (de_ix ?_))⟩
      walk_at "nm"
      refine de_neg (de_int ⟨1, rfl, (l.take i).map sIv, _, sIv x, by simp only [seqOf, m2f], rfl, atI_l hlast, de_int ⟨_, 1, dI x.2, rfl, rfl, rfl, de_int ⟨_, _, rfl, rfl, k_bool ⟨_, rfl, fun z => absurd (of_decide_eq_true z) (by omega), fun _ => db_nil ⟨rfl, rfl⟩⟩⟩⟩⟩)
    rintro τ' M3 ⟨rfl, rfl⟩
    refine db_cons (ds_append ?_)
    walk_at "nm"
    refine ⟨⟨rfl, _, by simp only [seqOf, m2f]; rfl⟩, de_tupD (da_cons (de_ix ?_))⟩
    walk_at "nm"
    refine de_int ⟨_, 1, dI v.1, rfl, rfl, rfl, da_cons (de_ix ?_)⟩
    walk_at "nm"
    refine de_int ⟨_, 2, dI v.2, rfl, rfl, rfl, da_nil ⟨[.int v.1, .int v.2], rfl, (by show 2 ≤ sizeLine; decide), pf, _, rfl, m2f, ?_, db_nil ⟨_, _, rfl, sub_put sub2 hpf, ?_⟩⟩⟩
    · rw [List.length_map, List.length_take, sizeLine_eq]
      omega
    · rw [updC_same, hti, List.map_append]
      rfl
  rintro τ' M2 ⟨y4, y5, rfl, sub2, m2f⟩
  rw [List.length_map, List.take_length] at m2f
  refine db_cons (ds_ret ?_)
  walk_at "nm"
  exact q pf M2 sub2 hpf m2f

local macro_rules | `(tactic| walk_at "nm") => `(tactic| first | ((with_reducible refine de_name (x := "line_counts") (i := 0) (s := ?s) ?hN ?hv ?ht ?q ?hd ?hcd); (case hN => rfl); (case hv => walk_at "vis"); (case ht => rfl); (case hd => decide); (case hcd => decide)) | ((with_reducible refine de_name (x := "value") (i := 1) (s := ?s) ?hN ?hv ?ht ?q ?hd ?hcd); (case hN => rfl); (case hv => walk_at "vis"); (case ht => rfl); (case hd => decide); (case hcd => decide)) | ((with_reducible refine de_name (x := "line_set") (i := 2) (s := ?s) ?hN ?hv ?ht ?q ?hd ?hcd); (case hN => rfl); (case hv => walk_at "vis"); (case ht => rfl); (case hd => decide); (case hcd => decide)) | ((with_reducible refine de_name (x := "key") (i := 3) (s := ?s) ?hN ?hv ?ht ?q ?hd ?hcd); (case hN => rfl); (case hv => walk_at "vis"); (case ht => rfl); (case hd => decide); (case hcd => decide)) | ((with_reducible refine de_name (x := "listed") (i := 4) (s := ?s) ?hN ?hv ?ht ?q ?hd ?hcd); (case hN => rfl); (case hv => walk_at "vis"); (case ht => rfl); (case hd => decide); (case hcd => decide)) | ((with_reducible refine de_name (x := "writer") (i := 5) (s := ?s) ?hN ?hv ?ht ?q ?hd ?hcd); (case hN => rfl); (case hv => walk_at "vis"); (case ht => rfl); (case hd => decide); (case hcd => decide)) | ((with_reducible refine de_name (x := "intervals") (i := 6) (s := ?s) ?hN ?hv ?ht ?q ?hd ?hcd); (case hN => rfl); (case hv => walk_at "vis"); (case ht => rfl); (case hd => decide); (case hcd => decide)))


def R_plain_ls : Rr := fun L ss M Q => ∃ (cs : Cnt) (ls : LSet), NoDK L ∧ ss = [.d (eLc (some cs)), .d (eLS ls)] ∧ okLS cs ls ∧ ∀ (p : Addr) (M' : Cs), Sub M M' → M p = none → M' p = some (.k (slK (kdL (neLS ls)))) → Q (.c p) M'
theorem keys_L (ls : LSet) : (slK (kdL ls)).map (·.1) = (ls.map (·.1)).map Sum.inr := by
  simp [slK, kdL]
theorem valS_cntIs {cs : Cnt} {z : Str} (h : z ∈ cs.map (·.1)) : (valS (slK (kdC cs)) (.inr z)).isSome = true := by
  rw [valS_C]
  obtain ⟨p, hp, e⟩ := List.mem_map.mp h
  have : ∃ v, getC cs z = some v := by
    unfold getC
    cases g : cs.find? fun p => decide (p.1 = z) with
    | some x => exact ⟨x.2, rfl⟩
    | none => exact absurd (List.find?_eq_none.mp g p hp) (by simp [e])
  obtain ⟨v, hv⟩ := this
  rw [hv]
  rfl
theorem neLS_take (ls : LSet) {n : Nat} (h : n < ls.length) : neLS (ls.take (n + 1)) = neLS (ls.take n) ++ (if ls[n].2.isEmpty = true then [] else [ls[n]]) := by
  unfold neLS
  rw [List.take_add_one, List.getElem?_eq_getElem h, List.filter_append]
  congr 1
  show List.filter _ [ls[n]] = _
  rw [List.filter_cons]
  cases ls[n].2.isEmpty <;> rfl
theorem neLS_sub (ls : LSet) : ∀ p ∈ neLS ls, p ∈ ls := fun p hp => (List.mem_filter.mp hp).1
theorem neLS_len (ls : LSet) : (neLS ls).length ≤ ls.length := List.length_filter_le _ _
theorem ok_plain_line_set (F : FunAt K mg "plain_line_set" s_plain_line_set ["line_counts", "value"]) (c1 : Cal P w K mg base "plain_writer" 2 ["value"] R_plain_writer) (c2 : Cal P w K mg base "plain_intervals" 4 ["line_counts", "writer", "value"] R_plain_ivs) (b1 : mg "isinstance" = none) (b2 : mg "dict" = none) : Cal P w K mg base "plain_line_set" 5 ["line_counts", "value"] R_plain_ls := by
  refine cal_of F sc_plain_line_set (fun _ ss _ _ ⟨cs, ls, _, h, _⟩ => by rw [h]; rfl) (fun f cdv A outer s H E L ss M Q hr h => ?_)
  obtain ⟨cs, ls, hL, rfl, ok, q⟩ := h
  obtain ⟨nd, l12, okp⟩ := ok
  refine db_cons (ds_ifF (dt_not (dt_val (de_callB call_isi (by rfl) b1 bt_isinstance (da_cons ?_)))) (db_nil ?_))
  · walk_at "nm"
    exact da_cons (de_type (by rfl) b2 bt_dict (da_nil (k_isaDict ⟨_, rfl, rfl, rfl⟩)))
  refine db_cons (ds_set (i := 2) sc_plain_line_set.nd rfl (.inl rfl) (de_dictC fun pd hpd => ?_))
  have sub_M1 : Sub M (updC M pd (.k [])) := (Sub.refl _).new hpd
  have m_pd : updC M pd (.k []) pd = some (.k []) := updC_same
  generalize updC M pd (.k []) = M1 at sub_M1 m_pd
  refine db_cons (ds_forItems (i := 1) (kd := kdL ls) PassesOwn.never rfl hL rfl (by walk_at "vis") rfl (fun n τ' M' => ∃ (y3 y4 y5 y6 : Option Sl), τ' = [some (.d (eLc (some cs))), some (.d (eLS ls)), some (.c pd), y3, y4, y5, y6] ∧ Sub M M' ∧ M' pd = some (.k (slK (kdL (neLS (ls.take n)))))) ⟨none, none, none, none, rfl, sub_M1, m_pd⟩ ?_ ?_)
  · rintro x ⟨xs, hx⟩ n k d τ' M2 hn ⟨y3, y4, y5, y6, rfl, sub2, m2d⟩
    have hkl : (kdL ls).length = ls.length := by simp [kdL]
    have hnl : n < ls.length := by
      have := (List.getElem?_eq_some_iff.mp hn).1
      omega
    have hkd : k = .inr ls[n].1 ∧ d = eIvs ls[n].2 := by
      rw [show (kdL ls)[n]? = some (.inr ls[n].1, eIvs ls[n].2) by simp [kdL, List.getElem?_eq_getElem hnl]] at hn
      have := Option.some.inj hn
      exact ⟨(Prod.mk.inj this).1.symm, (Prod.mk.inj this).2.symm⟩
    obtain ⟨rfl, rfl⟩ := hkd
    obtain ⟨zn, zin, oki, il⟩ := okp _ (List.getElem_mem hnl)
    have htk := neLS_take ls hnl
    have hnot : (Sum.inr ls[n].1 : Key) ∉ (slK (kdL (neLS (ls.take n)))).map (·.1) := by
      rw [keys_L]
      intro hm
      obtain ⟨z, hz, ez⟩ := List.mem_map.mp hm
      have ez := Sum.inr.inj ez
      obtain ⟨p, hp, ep⟩ := List.mem_map.mp hz
      have hp2 := neLS_sub _ p hp
      obtain ⟨j, hj, ej⟩ := List.getElem_of_mem hp2
      rw [List.length_take] at hj
      rw [List.getElem_take] at ej
      have h1 : (ls.map (·.1))[j]'(by rw [List.length_map]; omega) = (ls.map (·.1))[n]'(by rw [List.length_map]; omega) := by rw [List.getElem_map, List.getElem_map, ej, ep, ez]
      exact absurd ((List.getElem_inj nd).mp h1) (by omega)
    have hlen : (neLS (ls.take n)).length ≤ 12 := by
      have := neLS_len (ls.take n)
      rw [List.length_take] at this
      omega
    generalize ls[n] = pz at zn zin oki il htk hnot
    obtain ⟨z, l⟩ := pz
    refine dg_of (pg_tup rfl (pgs_cons (pg_name (i := 3) sc_plain_line_set.nd rfl (.inl rfl)) (pgs_cons (pg_name (i := 4) sc_plain_line_set.nd rfl (.inl rfl)) pgs_nil))) (wg_tup rfl rfl rfl (wgs_cons (wg_name (wgs_cons (wg_name (wgs_nil ?_))))))
    refine db_cons (ds_set (i := 5) sc_plain_line_set.nd rfl (.inl rfl) (de_callC (c1.up (by decide)) hr (by rfl) (da_cons ?_)))
    walk_at "nm"
    refine da_nil ⟨.str z, rfl, short_of_okName zn, ?_⟩
    rw [show writerOf (.str z) = .str z by simp only [writerOf, show okName z = true from zn, if_true]]
    refine db_cons (ds_ifF (dt_or2 (dt_cmp op_isN ?_ (nomark _))) (db_nil ?_))
    · walk_at "nm"
      refine de_non (k_isN ⟨_, rfl, fun z => (nomatch z), fun _ => dt_and2 (dt_cmp op_notN ?_ (nomark _))⟩)
      walk_at "nm"
      refine de_non (k_notN ⟨_, rfl, fun _ => dt_dnotin (hu_of hr) ?_ (by with_unfolding_all rfl), fun _ => ⟨rfl, rfl⟩⟩)
      walk_at "nm"
      walk_at "nm"
      refine ⟨.inr z, slK (kdC cs), rfl, .d (kdC cs), ?_⟩
      rw [valS_cntIs zin]
      exact ⟨rfl, rfl⟩
    refine db_cons (ds_set (i := 6) sc_plain_line_set.nd rfl (.inl rfl) (de_callC c2 hr (by rfl) ?_))
    walk_at "go"
    refine da_nil ⟨some cs, z, l, rfl, zn, oki, Nat.le_trans il (by decide), fun p3 M3 sub3 hp3 m3 => ?_⟩
    refine db_cons (ds_ifF (dt_cmp op_isN ?_ (nomark _)) (db_nil ?_))
    · walk_at "nm"
      exact de_non (k_isN ⟨_, rfl, rfl, rfl⟩)
    refine db_frz (j := 6) (p := p3) (ds := l.map eIv) rfl (by rw [m3, List.map_map]; rfl) ?_
    have m4d : delC M3 p3 pd = some (.k (slK (kdL (neLS (ls.take n))))) := by
      rw [delC_ne (neC m2d hp3)]
      exact sub3 _ _ m2d
    have sub4 : Sub M (delC M3 p3) := fun a c h => by
      rw [delC_ne (neC h (sub2.none hp3))]
      exact sub3 _ _ (sub2 _ _ h)
    generalize delC M3 p3 = M4 at m4d sub4
    refine db_cons (ds_if (dt_tru ?_))
    walk_at "nm"
    have tru : truOf M4 (.d (eIvs l)) = some (!l.isEmpty) := by
      show ((seqOf M4 (.d (eIvs l))).map fun ss => !ss.isEmpty) = _
      rw [seq_ivs]
      cases l <;> rfl
    refine ⟨_, tru, fun h => ?_, fun h => db_nil (db_nil ⟨_, _, _, _, rfl, sub4, ?_⟩)⟩
    · have h : l.isEmpty = false := by simpa using h
      refine db_cons (ds_dput (hu_of hr) ?_)
      walk_at "nm"
      walk_at "nm"
      walk_at "nm"
      refine ⟨pd, _, .inr z, rfl, m4d, rfl, ?_, db_nil (db_nil ⟨_, _, _, _, rfl, sub_put sub4 hpd, ?_⟩)⟩
      · unfold slK kdL
        rw [List.length_map, List.length_map, sizeLine_eq]
        omega
      · rw [updC_same, putS_new hnot, htk, if_neg (by rw [h]; exact Bool.false_ne_true)]
        unfold slK kdL
        simp only [List.map_append]
        rfl
    · have h : l.isEmpty = true := by simpa using h
      rw [htk, if_pos h, List.append_nil]
      exact m4d
  rintro τ' M2 ⟨y3, y4, y5, y6, rfl, sub2, m2d⟩
  rw [show (kdL ls).length = ls.length by simp [kdL], List.take_length] at m2d
  refine db_cons (ds_ret ?_)
  walk_at "nm"
  exact q pd M2 sub2 hpd m2d

local macro_rules | `(tactic| walk_at "nm") => `(tactic| first | ((with_reducible refine de_name (x := "line_counts") (i := 0) (s := ?s) ?hN ?hv ?ht ?q ?hd ?hcd); (case hN => rfl); (case hv => walk_at "vis"); (case ht => rfl); (case hd => decide); (case hcd => decide)) | ((with_reducible refine de_name (x := "value") (i := 1) (s := ?s) ?hN ?hv ?ht ?q ?hd ?hcd); (case hN => rfl); (case hv => walk_at "vis"); (case ht => rfl); (case hd => decide); (case hcd => decide)) | ((with_reducible refine de_name (x := "line_set") (i := 2) (s := ?s) ?hN ?hv ?ht ?q ?hd ?hcd); (case hN => rfl); (case hv => walk_at "vis"); (case ht => rfl); (case hd => decide); (case hcd => decide)))


theorem ok_checked_line_set (F : FunAt K mg "checked_line_set" s_checked_line_set ["line_counts", "value"]) (c1 : Cal P w K mg base "plain_line_set" 5 ["line_counts", "value"] R_plain_ls) : Cal P w K mg base "checked_line_set" 6 ["line_counts", "value"] R_plain_ls := by
  refine cal_of F sc_checked_line_set (fun _ ss _ _ ⟨cs, ls, _, h, _⟩ => by rw [h]; rfl) (fun f cdv A outer s H E L ss M Q hr h => ?_)
  obtain ⟨cs, ls, hL, rfl, ok, q⟩ := h
  refine db_cons (ds_set (i := 2) sc_checked_line_set.nd rfl (.inl rfl) (de_callC c1 hr (by rfl) ?_))
  walk_at "go"
  refine da_nil ⟨cs, ls, hL, rfl, ok, fun p M1 sub1 hp m1 => ?_⟩
  refine db_cons (ds_ifF (dt_cmp op_isN ?_ (nomark _)) (db_nil ?_))
  · walk_at "nm"
    exact de_non (k_isN ⟨_, rfl, rfl, rfl⟩)
  refine db_cons (ds_ret ?_)
  walk_at "nm"
  exact q p M1 sub1 hp m1

end

end Pg

namespace Pg
open PySem L2 Y PyProof.Rows

local macro_rules | `(tactic| walk_at "vis") => `(tactic| first | exact Or.inl rfl | exact Or.inr (Or.inl rfl) | exact Or.inr (Or.inr rfl))
local macro_rules | `(tactic| walk_at "e1") => `(tactic| first | walk_at "nm" | refine de_int ?_ | refine de_add ?_ | refine de_sub ?_ | refine de_str ?_ | refine de_non ?_ | refine de_bl ?_)
local macro_rules | `(tactic| walk_at "go") => `(tactic| repeat (first | ((with_reducible show DE _ _ _ _ _ _); walk_at "e1") | ((with_reducible show DA _ _ _ _ _ _); refine da_cons ?_) | refine ⟨_, _, rfl, rfl, ?_⟩))


/-- the first number behind some intervals -/
def stI (l : Ivs) : Nat → Int
  | 0 => 1
  | i + 1 => match l[i]? with
    | some p => p.2 + 1
    | none => 1
def hoI (l : Ivs) (j : Nat) : Ivs := match l[j]? with
  | some p => if stI l j < p.1 then [(stI l j, p.1 - 1)] else []
  | none => []
def foI (l : Ivs) (i : Nat) : Ivs := (List.range i).flatMap (hoI l)
/-- the numbers from 1 to h in none of the intervals -/
def btw (l : Ivs) (h : Int) : Ivs := foI l l.length ++ if stI l l.length ≤ h then [(stI l l.length, h)] else []
theorem stI_succ {l : Ivs} {i : Nat} {p : Int × Int} (h : l[i]? = some p) : stI l (i + 1) = p.2 + 1 := by
  show (match l[i]? with
    | some p => p.2 + 1
    | none => 1) = _
  rw [h]
theorem foI_succ {l : Ivs} {i : Nat} {p : Int × Int} (h : l[i]? = some p) : foI l (i + 1) = foI l i ++ if stI l i < p.1 then [(stI l i, p.1 - 1)] else [] := by
  unfold foI
  rw [List.range_succ, List.flatMap_append, List.flatMap_cons, List.flatMap_nil, List.append_nil]
  congr 1
  unfold hoI
  rw [h]
theorem foI_len (l : Ivs) : ∀ i, (foI l i).length ≤ i
  | 0 => Nat.le_refl 0
  | i + 1 => by
    have ih := foI_len l i
    unfold foI at ih ⊢
    rw [List.range_succ, List.flatMap_append, List.flatMap_cons, List.flatMap_nil, List.append_nil, List.length_append]
    have : (hoI l i).length ≤ 1 := by
      unfold hoI
      split
      · split
        · exact Nat.le_refl 1
        · exact Nat.zero_le 1
      · exact Nat.zero_le 1
    omega
theorem btw_len (l : Ivs) (h : Int) : (btw l h).length ≤ l.length + 1 := by
  unfold btw
  rw [List.length_append]
  have := foI_len l l.length
  split <;> simp <;> omega
/-- how many numbers -/
def linA (l : Ivs) : Int := (l.map fun p => p.2 - p.1 + 1).sum
def getL (ls : LSet) (z : Str) : Option Ivs := (ls.find? fun p => decide (p.1 = z)).map (·.2)
def ivsOf (ls : LSet) (z : Str) : Ivs := (getL ls z).getD []
theorem valS_L (z : Str) : ∀ ls : LSet, valS (slK (kdL ls)) (.inr z) = (getL ls z).map fun l => .d (eIvs l)
  | [] => rfl
  | p :: r => by
    have ih := valS_L z r
    unfold valS slK kdL getL at ih ⊢
    rw [List.map_cons, List.map_cons, List.find?_cons, List.find?_cons]
    by_cases e : p.1 = z
    · rw [show decide ((Sum.inr p.1 : Key) = Sum.inr z) = true from decide_eq_true (by rw [e]), show decide (p.1 = z) = true from decide_eq_true e]
      rfl
    · rw [show decide ((Sum.inr p.1 : Key) = Sum.inr z) = false from decide_eq_false (fun q => e (Sum.inr.inj q)), show decide (p.1 = z) = false from decide_eq_false e]
      exact ih
theorem valS_Ld (ls : LSet) (z : Str) : ((valS (slK (kdL ls)) (.inr z)).getD (.d (.list []))) = .d (eIvs (ivsOf ls z)) := by
  rw [valS_L]
  unfold ivsOf
  cases getL ls z <;> rfl
theorem ivsOf_len {ls : LSet} {k : Nat} (h : ∀ p ∈ ls, p.2.length ≤ k) (z : Str) : (ivsOf ls z).length ≤ k := by
  unfold ivsOf getL
  cases e : ls.find? fun p => decide (p.1 = z) with
  | none => exact Nat.zero_le k
  | some p => exact h p (List.mem_of_find?_eq_some e)
/-- what is missing of each writer -/
def gwA (cs : Cnt) (ls : LSet) : LSet := cs.map fun p => (p.1, btw (ivsOf ls p.1) p.2)
theorem putS_newL {ls : LSet} {z : Str} {l : Ivs} (h : z ∉ ls.map (·.1)) : putS (slK (kdL ls)) (.inr z) (.d (eIvs l)) = slK (kdL (ls ++ [(z, l)])) := by
  rw [putS_new (by
    rw [keys_L]
    intro q
    obtain ⟨y, hy, e⟩ := List.mem_map.mp q
    exact h ((Sum.inr.inj e) ▸ hy))]
  unfold slK kdL
  simp only [List.map_append]
  rfl
theorem take_fresh {α : Type} {l : List α} (nd : l.Nodup) {n : Nat} (h : n < l.length) : l[n] ∉ l.take n := fun q => by
  obtain ⟨j, hj, e⟩ := List.getElem_of_mem q
  rw [List.length_take] at hj
  rw [List.getElem_take] at e
  exact absurd ((List.getElem_inj nd).mp e) (by omega)
section
variable {P : Program} {w : World} {K : PySem.W.Frag} {mg : Str → Option Value} {base : Heap}

local macro_rules | `(tactic| walk_at "nm") => `(tactic| first | ((with_reducible refine de_name (x := "intervals") (i := 0) (s := ?s) ?hN ?hv ?ht ?q ?hd ?hcd); (case hN => rfl); (case hv => walk_at "vis"); (case ht => rfl); (case hd => decide); (case hcd => decide)) | ((with_reducible refine de_name (x := "highest") (i := 1) (s := ?s) ?hN ?hv ?ht ?q ?hd ?hcd); (case hN => rfl); (case hv => walk_at "vis"); (case ht => rfl); (case hd => decide); (case hcd => decide)) | ((with_reducible refine de_name (x := "found") (i := 2) (s := ?s) ?hN ?hv ?ht ?q ?hd ?hcd); (case hN => rfl); (case hv => walk_at "vis"); (case ht => rfl); (case hd => decide); (case hcd => decide)) | ((with_reducible refine de_name (x := "start") (i := 3) (s := ?s) ?hN ?hv ?ht ?q ?hd ?hcd); (case hN => rfl); (case hv => walk_at "vis"); (case ht => rfl); (case hd => decide); (case hcd => decide)) | ((with_reducible refine de_name (x := "first") (i := 4) (s := ?s) ?hN ?hv ?ht ?q ?hd ?hcd); (case hN => rfl); (case hv => walk_at "vis"); (case ht => rfl); (case hd => decide); (case hcd => decide)) | ((with_reducible refine de_name (x := "last") (i := 5) (s := ?s) ?hN ?hv ?ht ?q ?hd ?hcd); (case hN => rfl); (case hv => walk_at "vis"); (case ht => rfl); (case hd => decide); (case hcd => decide)))


def R_between : Rr := fun _ ss M Q => ∃ (l : Ivs) (h : Int), ss = [.d (eIvs l), dI h] ∧ l.length ≤ 10000 ∧ ∀ (p : Addr) (M' : Cs), Sub M M' → M p = none → M' p = some (.l ((btw l h).map sIv)) → Q (.c p) M'
theorem ok_intervals_between (F : FunAt K mg "intervals_between" s_intervals_between ["intervals", "highest"]) : Cal P w K mg base "intervals_between" 1 ["intervals", "highest"] R_between := by
  refine cal_of F sc_intervals_between (fun _ ss _ _ ⟨l, h, e, _⟩ => by rw [e]; rfl) (fun f cdv A outer s H E L ss M Q hr h => ?_)
  obtain ⟨l, hi, rfl, hl, q⟩ := h
  refine db_cons (ds_set (i := 2) sc_intervals_between.nd rfl (.inl rfl) (de_lstC (da_nil ⟨Nat.zero_le _, fun pf hpf => ?_⟩)))
  have sub_M1 : Sub M (updC M pf (.l [])) := (Sub.refl _).new hpf
  have m_pf : updC M pf (.l []) pf = some (.l []) := updC_same
  generalize updC M pf (.l []) = M1 at sub_M1 m_pf
  refine db_cons (ds_set (i := 3) sc_intervals_between.nd rfl (.inl rfl) (de_int ?_))
  refine db_cons (ds_for PassesOwn.never rfl (di_seq ?_))
  walk_at "nm"
  refine ⟨l.map sIv, seq_ivs _ _, ?_⟩
  refine ⟨fun i τ' M' => ∃ (y4 y5 : Option Sl), τ' = [some (.d (eIvs l)), some (dI hi), some (.c pf), some (dI (stI l i)), y4, y5] ∧ Sub M M' ∧ M' pf = some (.l ((foI l i).map sIv)), ⟨none, none, rfl, sub_M1, m_pf⟩, fun _ _ _ _ => seq_ivs _ _, ?_, ?_⟩
  · rintro i y τ' M2 hi' hy ⟨y4, y5, rfl, sub2, m2f⟩
    rw [List.length_map] at hi'
    have hy' : y = sIv l[i] := by
      rw [List.getElem?_map, List.getElem?_eq_getElem hi'] at hy
      exact (Option.some.inj hy).symm
    subst hy'
    have hli : l[i]? = some l[i] := List.getElem?_eq_getElem hi'
    have hst := stI_succ hli
    have hfo := foI_succ hli
    have hfl := foI_len l i
    generalize l[i] = v at hst hfo
    refine dg_of (pg_tup rfl (pgs_cons (pg_name (i := 4) sc_intervals_between.nd rfl (.inl rfl)) (pgs_cons (pg_name (i := 5) sc_intervals_between.nd rfl (.inl rfl)) pgs_nil))) (wg_tup rfl rfl rfl (wgs_cons (wg_name (wgs_cons (wg_name (wgs_nil ?_))))))
    refine db_consJ (fun τ' M' => τ' = [some (.d (eIvs l)), some (dI hi), some (.c pf), some (dI (stI l i)), some (dI v.1), some (dI v.2)] ∧ Sub M M' ∧ M' pf = some (.l ((foI l (i + 1)).map sIv))) (ds_if (dt_cmp op_lt ?_ (by with_unfolding_all rfl))) ?_
    · walk_at "nm"
      walk_at "nm"
      refine k_bool ⟨_, rfl, fun h => ?_, fun h => db_nil ⟨rfl, sub2, ?_⟩⟩
      · have h := of_decide_eq_true h
        refine db_cons (ds_append ?_)
        walk_at "nm"
        refine ⟨⟨rfl, _, by simp only [seqOf, m2f]; rfl⟩, de_tupD (da_cons ?_)⟩
        walk_at "nm"
        refine da_cons (de_sub ?_)
        walk_at "nm"
        refine de_int ⟨_, _, rfl, rfl, da_nil ⟨[.int (stI l i), .int (v.1 - 1)], rfl, (by show 2 ≤ sizeLine; decide), pf, _, rfl, m2f, ?_, db_nil ⟨rfl, sub_put sub2 hpf, ?_⟩⟩⟩
        · rw [List.length_map, sizeLine_eq]
          omega
        · rw [updC_same, hfo, if_pos h, List.map_append]
          rfl
      · have h := of_decide_eq_false h
        rw [hfo, if_neg h, List.append_nil]
        exact m2f
    rintro τ' M3 ⟨rfl, sub3, m3f⟩
    refine db_cons (ds_set (i := 3) sc_intervals_between.nd rfl (.inl rfl) (de_add ?_))
    walk_at "nm"
    refine de_int ⟨_, _, rfl, rfl, db_nil ⟨some (dI v.1), some (dI v.2), ?_, sub3, m3f⟩⟩
    rw [hst]
    rfl
  rintro τ' M2 ⟨y4, y5, rfl, sub2, m2f⟩
  rw [List.length_map] at m2f ⊢
  have hfl := foI_len l l.length
  refine db_consJ (fun τ' M' => τ' = [some (.d (eIvs l)), some (dI hi), some (.c pf), some (dI (stI l l.length)), y4, y5] ∧ Sub M M' ∧ M' pf = some (.l ((btw l hi).map sIv))) (ds_if (dt_cmp op_le ?_ (by with_unfolding_all rfl))) ?_
  · walk_at "nm"
    walk_at "nm"
    refine k_bool ⟨_, rfl, fun h => ?_, fun h => db_nil ⟨rfl, sub2, ?_⟩⟩
    · have h := of_decide_eq_true h
      refine db_cons (ds_append ?_)
      walk_at "nm"
      refine ⟨⟨rfl, _, by simp only [seqOf, m2f]; rfl⟩, de_tupD (da_cons ?_)⟩
      walk_at "nm"
      refine da_cons ?_
      walk_at "nm"
      refine da_nil ⟨[.int (stI l l.length), .int hi], rfl, (by show 2 ≤ sizeLine; decide), pf, _, rfl, m2f, ?_, db_nil ⟨rfl, sub_put sub2 hpf, ?_⟩⟩
      · rw [List.length_map, sizeLine_eq]
        omega
      · rw [updC_same]
        unfold btw
        rw [if_pos h, List.map_append]
        rfl
    · have h := of_decide_eq_false h
      unfold btw
      rw [if_neg h, List.append_nil]
      exact m2f
  rintro τ' M3 ⟨rfl, sub3, m3f⟩
  refine db_cons (ds_ret ?_)
  walk_at "nm"
  exact q pf M3 sub3 hpf m3f

local macro_rules | `(tactic| walk_at "nm") => `(tactic| first | ((with_reducible refine de_name (x := "intervals") (i := 0) (s := ?s) ?hN ?hv ?ht ?q ?hd ?hcd); (case hN => rfl); (case hv => walk_at "vis"); (case ht => rfl); (case hd => decide); (case hcd => decide)) | ((with_reducible refine de_name (x := "first") (i := 1) (s := ?s) ?hN ?hv ?ht ?q ?hd ?hcd); (case hN => rfl); (case hv => walk_at "vis"); (case ht => rfl); (case hd => decide); (case hcd => decide)) | ((with_reducible refine de_name (x := "last") (i := 2) (s := ?s) ?hN ?hv ?ht ?q ?hd ?hcd); (case hN => rfl); (case hv => walk_at "vis"); (case ht => rfl); (case hd => decide); (case hcd => decide)))


def R_lines_in : Rr := fun _ ss M Q => ∃ (l : Ivs), ss = [.d (eIvs l)] ∧ l.length ≤ 10000 ∧ ∀ M', Sub M M' → Q (dI (linA l)) M'
theorem ok_lines_in_intervals (F : FunAt K mg "lines_in_intervals" s_lines_in_intervals ["intervals"]) (b1 : mg "sum" = none) : Cal P w K mg base "lines_in_intervals" 1 ["intervals"] R_lines_in := by
  refine cal_of F sc_lines_in_intervals (fun _ ss _ _ ⟨l, e, _⟩ => by rw [e]; rfl) (fun f cdv A outer s H E L ss M Q hr h => ?_)
  obtain ⟨l, rfl, hl, q⟩ := h
  refine db_cons (ds_ret (de_callB (cr_sum rfl) (by rfl) b1 bt_sum (da_cons ?_)))
  refine de_lc0 (own := [("first", 1), ("last", 2)]) (g := gTup K 2 (gCons (gName 1) (gCons (gName 2) gNil))) rfl sc_lines_in_intervals.nd (blkOk_by (own := [("first", 1), ("last", 2)]) (N := ["intervals", "first", "last"]) (sc := defScope s_lines_in_intervals) (by decide +kernel)) (fun _ _ _ _ _ => pg_tup rfl (pgs_cons (pg_name (i := 1) sc_lines_in_intervals.nd rfl (.inl rfl)) (pgs_cons (pg_name (i := 2) sc_lines_in_intervals.nd rfl (.inl rfl)) pgs_nil))) (di_seq ?_)
  walk_at "nm"
  refine ⟨l.map sIv, seq_ivs _ _, fun D hD => ?_⟩
  refine ⟨fun i M' => M' = updC M D (.l (((l.take i).map fun p => p.2 - p.1 + 1).map dI)), rfl, fun _ _ _ => seq_ivs _ _, ?_, ?_⟩
  · rintro i y M' hi hy rfl
    rw [List.length_map] at hi
    have hy' : y = sIv l[i] := by
      rw [List.getElem?_map, List.getElem?_eq_getElem hi] at hy
      exact (Option.some.inj hy).symm
    subst hy'
    have hlen : (((l.take i).map fun p => p.2 - p.1 + 1).map dI).length < sizeLine := by
      rw [List.length_map, List.length_map, List.length_take, sizeLine_eq]
      omega
    have htk : ((l.take (i + 1)).map fun p => p.2 - p.1 + 1).map dI = ((l.take i).map fun p => p.2 - p.1 + 1).map dI ++ [dI ((l[i]).2 - (l[i]).1 + 1)] := by
      rw [List.take_add_one, List.getElem?_eq_getElem hi, List.map_append, List.map_append]
      rfl
    generalize l[i] = v at htk
    refine wgw_tup rfl rfl rfl (wgws_cons (wgw_name (by simp) (wgws_cons (wgw_name (by simp) (wgws_nil ?_)))))
    intro s0 H0 C cl fp
    refine de_add (de_sub ?_)
    walk_at "nm"
    walk_at "nm"
    refine ⟨_, _, rfl, rfl, de_int ⟨_, _, rfl, rfl, _, updC_same, hlen, ?_⟩⟩
    show updC _ _ _ = updC _ _ _
    rw [updC_updC, htk]
    rfl
  rintro M' rfl
  rw [List.length_map, List.take_length]
  exact da_nil (k_sum rfl (by simp only [seqOf, updC_same]) (q _ ((Sub.refl M).new hD)))

local macro_rules | `(tactic| walk_at "nm") => `(tactic| first | ((with_reducible refine de_name (x := "counts") (i := 0) (s := ?s) ?hN ?hv ?ht ?q ?hd ?hcd); (case hN => rfl); (case hv => walk_at "vis"); (case ht => rfl); (case hd => decide); (case hcd => decide)) | ((with_reducible refine de_name (x := "line_set") (i := 1) (s := ?s) ?hN ?hv ?ht ?q ?hd ?hcd); (case hN => rfl); (case hv => walk_at "vis"); (case ht => rfl); (case hd => decide); (case hcd => decide)) | ((with_reducible refine de_name (x := "writer") (i := 2) (s := ?s) ?hN ?hv ?ht ?q ?hd ?hcd); (case hN => rfl); (case hv => walk_at "vis"); (case ht => rfl); (case hd => decide); (case hcd => decide)))


def R_gapsw : Rr := fun L ss M Q => ∃ (cs : Cnt) (ls : LSet), NoDK L ∧ ss = [.d (eCnt cs), .d (eLS ls)] ∧ okCnt cs ∧ (∀ p ∈ ls, p.2.length ≤ 1000) ∧ ∀ (p : Addr) (M' : Cs), Sub M M' → M p = none → M' p = some (.k (slK (kdL (gwA cs ls)))) → Q (.c p) M'
theorem ok_gaps_of_writers (F : FunAt K mg "gaps_of_writers" s_gaps_of_writers ["counts", "line_set"]) (c1 : Cal P w K mg base "intervals_between" 1 ["intervals", "highest"] R_between) : Cal P w K mg base "gaps_of_writers" 2 ["counts", "line_set"] R_gapsw := by
  refine cal_of F sc_gaps_of_writers (fun _ ss _ _ ⟨cs, ls, _, e, _⟩ => by rw [e]; rfl) (fun f cdv A outer s H E L ss M Q hr h => ?_)
  obtain ⟨cs, ls, hL, rfl, ok, hls, q⟩ := h
  obtain ⟨l1, l12, nd, okp⟩ := ok
  refine db_cons (ds_ret (de_dcKeys (i := 0) (kd := kdC cs) (own := [("writer", 2)]) (g := gName 2) rfl sc_gaps_of_writers.nd (blkOk_by (own := [("writer", 2)]) (N := ["counts", "line_set", "writer"]) (sc := defScope s_gaps_of_writers) (by decide +kernel)) (fun _ _ _ _ _ => pg_name (i := 2) sc_gaps_of_writers.nd rfl (.inl rfl)) hL rfl (by walk_at "vis") rfl fun D hD => ?_))
  refine ⟨fun n M' => Sub M M' ∧ M' D = some (.k (slK (kdL (gwA (cs.take n) ls)))), ⟨(Sub.refl M).new hD, updC_same⟩, fun x hx n k d M' hn hM => ?_, fun M' hM => ?_⟩
  · obtain ⟨sub, mD⟩ := hM
    unfold kdC at hn
    rw [List.getElem?_map] at hn
    obtain ⟨⟨z, v⟩, hpz, epz⟩ := Option.map_eq_some_iff.mp hn
    cases epz
    obtain ⟨hlt, hget⟩ := List.getElem?_eq_some_iff.mp hpz
    have hgz : getC cs z = some v := getC_mem nd (List.mem_of_getElem? hpz)
    have hfr : z ∉ (gwA (cs.take n) ls).map (·.1) := by
      unfold gwA
      rw [List.map_map]
      have h1 := take_fresh nd (n := n) (by rw [List.length_map]; exact hlt)
      rw [List.getElem_map, hget, ← List.map_take] at h1
      exact h1
    refine wgw_name (by simp) ?_
    intro s0 H0 C cl fp
    walk_at "nm"
    intro s0 H0 C cl fp
    refine de_frz (de_callC (c1.up (by decide)) hr (by rfl) (da_cons ?_))
    refine de_dget2 (hu_of hr) ?_
    walk_at "nm"
    refine ⟨⟨_, .d (kdL ls)⟩, ?_⟩
    walk_at "nm"
    refine de_lstD (da_nil ⟨[], rfl, Nat.zero_le _, _, .inr z, .d (kdL ls), rfl, ?_⟩)
    rw [valS_Ld]
    refine da_cons (de_dget (hu_of hr) ?_)
    walk_at "nm"
    walk_at "nm"
    refine ⟨_, .inr z, dI v, .d (kdC cs), rfl, by rw [valS_C, hgz]; rfl, da_nil ⟨ivsOf ls z, v, rfl, Nat.le_trans (ivsOf_len hls z) (by decide), fun p2 M2 sub2 hp2 m2 => ⟨p2, (btw (ivsOf ls z) v).map eIv, rfl, by rw [m2, List.map_map]; rfl, ?_⟩⟩⟩
    have mD2 : delC M2 p2 D = some (.k (slK (kdL (gwA (cs.take n) ls)))) := by
      rw [delC_ne (neC mD hp2)]
      exact sub2 _ _ mD
    refine ⟨_, .inr z, rfl, mD2, ?_, ?_, ?_⟩
    · unfold slK kdL gwA
      rw [List.length_map, List.length_map, List.length_map, List.length_take, sizeLine_eq]
      omega
    · refine sub_put (fun a c h => ?_) hD
      rw [delC_ne (neC h (sub.none hp2))]
      exact sub2 _ _ (sub _ _ h)
    · rw [updC_same]
      have e : gwA (cs.take (n + 1)) ls = gwA (cs.take n) ls ++ [(z, btw (ivsOf ls z) v)] := by
        unfold gwA
        rw [List.take_add_one, hpz, List.map_append]
        rfl
      rw [e, ← putS_newL hfr]
      rfl
  obtain ⟨sub, mD⟩ := hM
  have hkl : (kdC cs).length = cs.length := by unfold kdC; rw [List.length_map]
  rw [hkl, List.take_length] at mD
  exact q D M' sub hD mD

end

end Pg

namespace Pg
open PySem L2 Y PyProof.Rows

local macro_rules | `(tactic| walk_at "vis") => `(tactic| first | exact Or.inl rfl | exact Or.inr (Or.inl rfl) | exact Or.inr (Or.inr rfl))
local macro_rules | `(tactic| walk_at "e1") => `(tactic| first | walk_at "nm" | refine de_int ?_ | refine de_add ?_ | refine de_sub ?_ | refine de_str ?_ | refine de_non ?_ | refine de_bl ?_)
local macro_rules | `(tactic| walk_at "go") => `(tactic| repeat (first | ((with_reducible show DE _ _ _ _ _ _); walk_at "e1") | ((with_reducible show DA _ _ _ _ _ _); refine da_cons ?_) | refine ⟨_, _, rfl, rfl, ?_⟩))


def sumC (cs : Cnt) : Int := (cs.map (·.2)).sum
theorem sum_perm {a b : List Int} (h : a.Perm b) : a.sum = b.sum := by
  induction h with
  | nil => rfl
  | cons x _ ih => rw [List.sum_cons, List.sum_cons, ih]
  | swap x y l => rw [List.sum_cons, List.sum_cons, List.sum_cons, List.sum_cons]; omega
  | trans _ _ i1 i2 => exact i1.trans i2
def gv (rows : Cnt) (z : Str) : Int := (getC rows z).getD 0
def fstI (l : Ivs) : Int := (l.head?.map (·.1)).getD 0
def lstI (l : Ivs) : Int := (l.getLast?.map (·.2)).getD 0
def fiA (ls : LSet) : List Line := (ls.filter fun p => decide (fstI p.2 = 1)).map fun p => (p.1, 1)
def laA (cs : Cnt) (ls : LSet) : List Line := (ls.filter fun p => decide (lstI p.2 = gv cs p.1)).map fun p => (p.1, gv cs p.1)
def totA (ls : LSet) : Int := (ls.map fun p => linA p.2).sum
def obNF : PyData := .tuple [.str "no first"]
def obNL : PyData := .tuple [.str "no last"]
def obSE (l : Line) : PyData := .tuple [.str "single end", eLine l]
def obGP (z : Str) (n o : Int) : PyData := .tuple [.str "gaps", .str z, .int n, .int o]
def seA (f g : List Line) (t : Int) : List PyData := match f with
  | [l] => if f = g ∧ 1 < t then [obSE l] else []
  | _ => []
/-- the obstructions of ends, from the first and the last lines -/
def obEnds (f g : List Line) (t : Int) : List PyData := (if f.isEmpty = true then [obNF] else []) ++ (if g.isEmpty = true then [obNL] else []) ++ seA f g t
def gwG (t : Int) (z : Str) (v : Int) (l : Ivs) : List PyData := if t - linA l < ((btw l v).length : Int) then [obGP z (btw l v).length (t - linA l)] else []
def obGaps (cs : Cnt) (ls : LSet) (t : Int) : List PyData := cs.flatMap fun p => gwG t p.1 p.2 (ivsOf ls p.1)
/-- the sum over all writers -/
def totW (cs : Cnt) (ls : LSet) : Int := (cs.map fun p => linA (ivsOf ls p.1)).sum
def obAll (cs : Cnt) (ls : LSet) : List PyData := if sumC cs = 0 then [] else obEnds (fiA ls) (laA cs ls) (totA ls) ++ obGaps cs ls (totW cs ls)
/-- what the first obstruction is, or None -/
def obOne (cs : Cnt) (ls : LSet) : PyData := (obAll cs ls).head?.getD .none
theorem gwG_len (t : Int) (z : Str) (v : Int) (l : Ivs) : (gwG t z v l).length ≤ 1 := by
  unfold gwG
  split
  · exact Nat.le_refl 1
  · exact Nat.zero_le 1
theorem obGaps_len (cs : Cnt) (ls : LSet) (t : Int) : (obGaps cs ls t).length ≤ cs.length := by
  unfold obGaps
  induction cs with
  | nil => exact Nat.le_refl 0
  | cons p r ih =>
    rw [List.flatMap_cons, List.length_append, List.length_cons]
    have := gwG_len t p.1 p.2 (ivsOf ls p.1)
    omega
theorem seA_len (f g : List Line) (t : Int) : (seA f g t).length ≤ 1 := by
  unfold seA
  split
  · split
    · exact Nat.le_refl 1
    · exact Nat.zero_le 1
  · exact Nat.zero_le 1
theorem obEnds_len (f g : List Line) (t : Int) : (obEnds f g t).length ≤ 3 := by
  unfold obEnds
  rw [List.length_append, List.length_append]
  have := seA_len f g t
  have h1 : (if f.isEmpty = true then [obNF] else []).length ≤ 1 := by split <;> simp
  have h2 : (if g.isEmpty = true then [obNL] else []).length ≤ 1 := by split <;> simp
  omega
/-- a kind of obstruction of these counts -/
def okOb (cs : Cnt) (d : PyData) : Prop := d = obNF ∨ d = obNL ∨ (∃ l, d = obSE l ∧ okLine (some cs) l) ∨ ∃ z n o, d = obGP z n o ∧ okName z = true
theorem getL_mem {ls : LSet} (nd : (ls.map (·.1)).Nodup) {p : Str × Ivs} (h : p ∈ ls) : getL ls p.1 = some p.2 := by
  induction ls with
  | nil => cases h
  | cons a r ih =>
    rw [List.map_cons, List.nodup_cons] at nd
    rcases List.mem_cons.mp h with rfl | h
    · simp [getL, List.find?_cons]
    · have ne : ¬ a.1 = p.1 := fun e => nd.1 (by rw [e]; exact List.mem_map_of_mem h)
      have := ih nd.2 h
      simp only [getL, List.find?_cons, ne, decide_false] at this ⊢
      exact this
theorem okNE {cs : Cnt} {ls : LSet} (h : okLS cs ls) : okLS cs (neLS ls) ∧ ∀ p ∈ neLS ls, p.2 ≠ [] := by
  obtain ⟨a, b, c⟩ := h
  refine ⟨⟨a.sublist (List.Sublist.map _ List.filter_sublist), Nat.le_trans (neLS_len ls) b, fun p hp => c p (neLS_sub ls p hp)⟩, fun p hp e => ?_⟩
  have := (List.mem_filter.mp hp).2
  rw [e] at this
  cases this
theorem head_iv {l : Ivs} (h : l ≠ []) : ∃ p, l[0]? = some p ∧ l.head? = some p ∧ fstI l = p.1 := by
  cases l with
  | nil => exact absurd rfl h
  | cons p r => exact ⟨p, rfl, rfl, rfl⟩
theorem last_iv {l : Ivs} (h : l ≠ []) : ∃ p, l.getLast? = some p ∧ lstI l = p.2 := by
  refine ⟨l.getLast h, List.getLast?_eq_some_getLast h, ?_⟩
  unfold lstI
  rw [List.getLast?_eq_some_getLast h]
  rfl
theorem filt_take {α : Type} (f : α → Bool) (l : List α) {n : Nat} (h : n < l.length) : (l.take (n + 1)).filter f = (l.take n).filter f ++ if f l[n] = true then [l[n]] else [] := by
  rw [List.take_add_one, List.getElem?_eq_getElem h, List.filter_append]
  congr 1
  show List.filter f [l[n]] = _
  rw [List.filter_cons]
  cases f l[n] <;> rfl
section
variable {P : Program} {w : World} {K : PySem.W.Frag} {mg : Str → Option Value} {base : Heap}

local macro_rules | `(tactic| walk_at "nm") => `(tactic| first | ((with_reducible refine de_name (x := "counts") (i := 0) (s := ?s) ?hN ?hv ?ht ?q ?hd ?hcd); (case hN => rfl); (case hv => walk_at "vis"); (case ht => rfl); (case hd => decide); (case hcd => decide)) | ((with_reducible refine de_name (x := "lines") (i := 1) (s := ?s) ?hN ?hv ?ht ?q ?hd ?hcd); (case hN => rfl); (case hv => walk_at "vis"); (case ht => rfl); (case hd => decide); (case hcd => decide)) | ((with_reducible refine de_name (x := "firsts") (i := 2) (s := ?s) ?hN ?hv ?ht ?q ?hd ?hcd); (case hN => rfl); (case hv => walk_at "vis"); (case ht => rfl); (case hd => decide); (case hcd => decide)) | ((with_reducible refine de_name (x := "lasts") (i := 3) (s := ?s) ?hN ?hv ?ht ?q ?hd ?hcd); (case hN => rfl); (case hv => walk_at "vis"); (case ht => rfl); (case hd => decide); (case hcd => decide)) | ((with_reducible refine de_name (x := "total") (i := 4) (s := ?s) ?hN ?hv ?ht ?q ?hd ?hcd); (case hN => rfl); (case hv => walk_at "vis"); (case ht => rfl); (case hd => decide); (case hcd => decide)) | ((with_reducible refine de_name (x := "found") (i := 5) (s := ?s) ?hN ?hv ?ht ?q ?hd ?hcd); (case hN => rfl); (case hv => walk_at "vis"); (case ht => rfl); (case hd => decide); (case hcd => decide)) | ((with_reducible refine de_name (x := "writer") (i := 6) (s := ?s) ?hN ?hv ?ht ?q ?hd ?hcd); (case hN => rfl); (case hv => walk_at "vis"); (case ht => rfl); (case hd => decide); (case hcd => decide)) | ((with_reducible refine de_name (x := "intervals") (i := 7) (s := ?s) ?hN ?hv ?ht ?q ?hd ?hcd); (case hN => rfl); (case hv => walk_at "vis"); (case ht => rfl); (case hd => decide); (case hcd => decide)))


def R_ob_ends : Rr := fun L ss M Q => ∃ (cs : Cnt) (ls : LSet), NoDK L ∧ ss = [.d (eCnt cs), .d (eLS ls)] ∧ okCnt cs ∧ okLS cs ls ∧ (∀ p ∈ ls, p.2 ≠ []) ∧ ∀ (p : Addr) (M' : Cs), Sub M M' → M p = none → M' p = some (.l ((obEnds (fiA ls) (laA cs ls) (totA ls)).map .d)) → Q (.c p) M'
set_option maxHeartbeats 4000000 in
theorem ok_obstructions_of_ends (F : FunAt K mg "obstructions_of_ends" s_obstructions_of_ends ["counts", "lines"]) (c1 : Cal P w K mg base "lines_in_intervals" 1 ["intervals"] R_lines_in) (b1 : mg "sum" = none) (b2 : mg "len" = none) : Cal P w K mg base "obstructions_of_ends" 2 ["counts", "lines"] R_ob_ends := by
  refine cal_of F sc_obstructions_of_ends (fun _ ss _ _ ⟨cs, ls, _, e, _⟩ => by rw [e]; rfl) (fun f cdv A outer s H E L ss M Q hr h => ?_)
  obtain ⟨cs, ls, hL, rfl, okc, okl, ne, q⟩ := h
  obtain ⟨ndl, l12, okp⟩ := okl
  have hkl : (kdL ls).length = ls.length := by simp [kdL]
  have hent : ∀ {n : Nat} {k : Key} {d : PyData}, (kdL ls)[n]? = some (k, d) → ∃ h : n < ls.length, k = .inr ls[n].1 ∧ d = eIvs ls[n].2 := fun {n k d} hn => by
    have hnl : n < ls.length := by
      have := (List.getElem?_eq_some_iff.mp hn).1
      omega
    refine ⟨hnl, ?_⟩
    rw [show (kdL ls)[n]? = some (.inr ls[n].1, eIvs ls[n].2) by simp [kdL, List.getElem?_eq_getElem hnl]] at hn
    have := Option.some.inj hn
    exact ⟨(Prod.mk.inj this).1.symm, (Prod.mk.inj this).2.symm⟩
  have hvalL : ∀ {p : Str × Ivs}, p ∈ ls → valS (slK (kdL ls)) (.inr p.1) = some (.d (eIvs p.2)) := fun hp => by rw [valS_L, getL_mem ndl hp]; rfl
  -- firsts
  refine db_cons (ds_setLcKeys (j := 2) (i := 1) (kd := kdL ls) (own := [("writer", 6)]) (g := gName 6) rfl sc_obstructions_of_ends.nd rfl rfl (by with_unfolding_all rfl) (blkOk_by (own := [("writer", 6)]) (N := ["counts", "lines", "firsts", "lasts", "total", "found", "writer", "intervals"]) (sc := defScope s_obstructions_of_ends) (by decide +kernel)) (fun _ _ _ _ _ => pg_name (i := 6) sc_obstructions_of_ends.nd rfl (.inl rfl)) hL rfl (by walk_at "vis") rfl fun D1 hD1 => ?_)
  refine ⟨fun n M' => M' = updC M D1 (.l ((fiA (ls.take n)).map sLine)), rfl, fun x hx n k d M' hn hM => ?_, fun M' hM => ?_⟩
  · subst hM
    obtain ⟨hnl, rfl, rfl⟩ := hent hn
    have hmem := List.getElem_mem hnl
    obtain ⟨p0, hp0, _, hf0⟩ := head_iv (ne _ hmem)
    have hv := hvalL hmem
    have htk : fiA (ls.take (n + 1)) = fiA (ls.take n) ++ if fstI ls[n].2 = 1 then [(ls[n].1, 1)] else [] := by
      unfold fiA
      rw [filt_take _ ls hnl, List.map_append]
      congr 1
      by_cases e : fstI ls[n].2 = 1
      · rw [if_pos (decide_eq_true e), if_pos e]; rfl
      · rw [if_neg (fun z => e (of_decide_eq_true z)), if_neg e]; rfl
    have hlen : (fiA (ls.take n)).length ≤ 12 := by
      unfold fiA
      rw [List.length_map]
      have h1 := List.length_filter_le (fun p : Str × Ivs => decide (fstI p.2 = 1)) (ls.take n)
      rw [List.length_take] at h1
      omega
    rw [hf0] at htk
    generalize ls[n] = pz at hp0 hv htk
    obtain ⟨z, l⟩ := pz
    have hp0 : l[0]? = some p0 := hp0
    refine wgw_name (by simp) ?_
    intro s0 H0 C cl fp
    refine dt_cmp op_eq (de_ix (de_ix (de_dget (hu_of hr) ?_))) (by with_unfolding_all rfl)
    walk_at "nm"
    walk_at "nm"
    refine ⟨_, .inr z, .d (eIvs l), .d (kdL ls), rfl, hv, de_int ⟨l.map sIv, ((0 : Nat) : Int), sIv p0, seq_ivs _ _, rfl, atI_nat (by rw [List.getElem?_map, hp0]; rfl), de_int ⟨_, 0, dI p0.1, rfl, rfl, rfl, de_int (k_eqI ⟨_, rfl, fun h => ?_, fun h => ?_⟩)⟩⟩⟩
    · have h := of_decide_eq_true h
      intro s0 H0 C cl fp
      refine de_tupD (da_cons ?_)
      walk_at "nm"
      refine da_cons (de_int (da_nil ⟨[.str z, .int 1], rfl, (by show 2 ≤ sizeLine; decide), _, updC_same, ?_, ?_⟩))
      · rw [List.length_map, sizeLine_eq]
        omega
      · show updC _ _ _ = updC _ _ _
        rw [updC_updC, htk, if_pos h, List.map_append]
        rfl
    · have h := of_decide_eq_false h
      show updC _ _ _ = updC _ _ _
      rw [htk, if_neg h, List.append_nil]
  subst hM
  rw [hkl, List.take_length]
  have sub_M1 : Sub M (updC M D1 (.l ((fiA ls).map sLine))) := (Sub.refl _).new hD1
  have m_D1 : updC M D1 (.l ((fiA ls).map sLine)) D1 = some (.l ((fiA ls).map sLine)) := updC_same
  generalize updC M D1 (.l ((fiA ls).map sLine)) = M1 at sub_M1 m_D1
  -- lasts
  refine db_cons (ds_setLcKeys (j := 3) (i := 1) (kd := kdL ls) (own := [("writer", 6)]) (g := gName 6) rfl sc_obstructions_of_ends.nd rfl rfl (by with_unfolding_all rfl) (blkOk_by (own := [("writer", 6)]) (N := ["counts", "lines", "firsts", "lasts", "total", "found", "writer", "intervals"]) (sc := defScope s_obstructions_of_ends) (by decide +kernel)) (fun _ _ _ _ _ => pg_name (i := 6) sc_obstructions_of_ends.nd rfl (.inl rfl)) hL rfl (by walk_at "vis") rfl fun D2 hD2 => ?_)
  refine ⟨fun n M' => M' = updC M1 D2 (.l ((laA cs (ls.take n)).map sLine)), rfl, fun x hx n k d M' hn hM => ?_, fun M' hM => ?_⟩
  · subst hM
    obtain ⟨hnl, rfl, rfl⟩ := hent hn
    have hmem := List.getElem_mem hnl
    obtain ⟨p0, hp0, hf0⟩ := last_iv (ne _ hmem)
    have hv := hvalL hmem
    obtain ⟨_, zin, _, _⟩ := okp _ hmem
    obtain ⟨v, hgv⟩ : ∃ v, getC cs ls[n].1 = some v := by
      obtain ⟨p, hp, e⟩ := List.mem_map.mp zin
      exact ⟨p.2, by rw [← e]; exact getC_mem okc.2.2.1 hp⟩
    have htk : laA cs (ls.take (n + 1)) = laA cs (ls.take n) ++ if lstI ls[n].2 = gv cs ls[n].1 then [(ls[n].1, gv cs ls[n].1)] else [] := by
      unfold laA
      rw [filt_take _ ls hnl, List.map_append]
      congr 1
      by_cases e : lstI ls[n].2 = gv cs ls[n].1
      · rw [if_pos (decide_eq_true e), if_pos e]; rfl
      · rw [if_neg (fun z => e (of_decide_eq_true z)), if_neg e]; rfl
    have hlen : (laA cs (ls.take n)).length ≤ 12 := by
      unfold laA
      rw [List.length_map]
      have h1 := List.length_filter_le (fun p : Str × Ivs => decide (lstI p.2 = gv cs p.1)) (ls.take n)
      rw [List.length_take] at h1
      omega
    have egv : gv cs ls[n].1 = v := by unfold gv; rw [hgv]; rfl
    rw [hf0, egv] at htk
    generalize ls[n] = pz at hp0 hv htk hgv
    obtain ⟨z, l⟩ := pz
    have hlS : (l.map sIv).getLast? = some (sIv p0) := by rw [List.getLast?_map, hp0]; rfl
    refine wgw_name (by simp) ?_
    intro s0 H0 C cl fp
    refine dt_cmp op_eq (de_ix (de_ix (de_dget (hu_of hr) ?_))) (by with_unfolding_all rfl)
    walk_at "nm"
    walk_at "nm"
    refine ⟨_, .inr z, .d (eIvs l), .d (kdL ls), rfl, hv, de_neg (de_int ⟨1, rfl, l.map sIv, _, sIv p0, seq_ivs _ _, rfl, atI_l hlS, de_int ⟨_, 1, dI p0.2, rfl, rfl, rfl, de_dget (hu_of hr) ?_⟩⟩)⟩
    walk_at "nm"
    walk_at "nm"
    refine ⟨_, .inr z, dI v, .d (kdC cs), rfl, by rw [valS_C, hgv]; rfl, k_eqI ⟨_, rfl, fun h => ?_, fun h => ?_⟩⟩
    · have h := of_decide_eq_true h
      intro s0 H0 C cl fp
      refine de_tupD (da_cons ?_)
      walk_at "nm"
      refine da_cons (de_dget (hu_of hr) ?_)
      walk_at "nm"
      walk_at "nm"
      refine ⟨_, .inr z, dI v, .d (kdC cs), rfl, by rw [valS_C, hgv]; rfl, da_nil ⟨[.str z, .int v], rfl, (by show 2 ≤ sizeLine; decide), _, updC_same, ?_, ?_⟩⟩
      · rw [List.length_map, sizeLine_eq]
        omega
      · show updC _ _ _ = updC _ _ _
        rw [updC_updC, htk, if_pos h, List.map_append]
        rfl
    · have h := of_decide_eq_false h
      show updC _ _ _ = updC _ _ _
      rw [htk, if_neg h, List.append_nil]
  subst hM
  rw [hkl, List.take_length]
  have sub_M2 : Sub M1 (updC M1 D2 (.l ((laA cs ls).map sLine))) := (Sub.refl _).new hD2
  have m_D2 : updC M1 D2 (.l ((laA cs ls).map sLine)) D2 = some (.l ((laA cs ls).map sLine)) := updC_same
  generalize updC M1 D2 (.l ((laA cs ls).map sLine)) = M2 at sub_M2 m_D2
  have m2f := sub_M2 _ _ m_D1
  -- total
  refine db_cons (ds_set (i := 4) sc_obstructions_of_ends.nd rfl (.inl rfl) (de_callB (cr_sum rfl) (by rfl) b1 bt_sum (da_cons ?_)))
  refine de_lcValsN (i := 1) (kd := kdL ls) (own := [("intervals", 7)]) (g := gName 7) rfl sc_obstructions_of_ends.nd (blkOk_by (own := [("intervals", 7)]) (N := ["counts", "lines", "firsts", "lasts", "total", "found", "writer", "intervals"]) (sc := defScope s_obstructions_of_ends) (by decide +kernel)) (fun _ _ _ _ _ => pg_name (i := 7) sc_obstructions_of_ends.nd rfl (.inl rfl)) hL rfl (by walk_at "vis") rfl fun D3 hD3 => ?_
  refine ⟨fun n M' => Sub M2 M' ∧ M' D3 = some (.l (((ls.take n).map fun p => linA p.2).map dI)), ⟨(Sub.refl _).new hD3, updC_same⟩, fun x hx n k d M' hn hM => ?_, fun M' hM => ?_⟩
  · obtain ⟨sub, mD⟩ := hM
    obtain ⟨hnl, rfl, rfl⟩ := hent hn
    obtain ⟨_, _, _, hil⟩ := okp _ (List.getElem_mem hnl)
    have htk : ((ls.take (n + 1)).map fun p => linA p.2).map dI = ((ls.take n).map fun p => linA p.2).map dI ++ [dI (linA ls[n].2)] := by
      rw [List.take_add_one, List.getElem?_eq_getElem hnl, List.map_append, List.map_append]
      rfl
    generalize ls[n] = pz at hil htk
    obtain ⟨z, l⟩ := pz
    refine wgw_name (by simp) ?_
    intro s0 H0 C cl fp
    refine de_callC (c1.up (by decide)) hr (by rfl) ?_
    walk_at "go"
    refine da_nil ⟨l, rfl, Nat.le_trans hil (by decide), fun M3 sub3 => ⟨_, sub3 _ _ mD, ?_, sub_put (Sub.trans sub sub3) hD3, ?_⟩⟩
    · rw [List.length_map, List.length_map, List.length_take, sizeLine_eq]
      omega
    · rw [updC_same, htk]
  obtain ⟨sub3, mD3⟩ := hM
  rw [hkl, List.take_length] at mD3
  refine da_nil (k_sum rfl (by simp only [seqOf, mD3]; rfl) ?_)
  rw [show ((ls.map fun p => linA p.2)).sum = totA ls from rfl]
  have m3f := sub3 _ _ m2f
  have m3l := sub3 _ _ m_D2
  have sub03 : Sub M M' := Sub.trans sub_M1 (Sub.trans sub_M2 sub3)
  have n12 : D1 ≠ D2 := neC m_D1 hD2
  clear sub_M1 sub_M2 m_D1 m_D2 m2f hD1 hD2
  generalize hT : totA ls = T
  have fln : ∀ l ∈ fiA ls, okName l.1 = true := fun l hl => by
    obtain ⟨p, hp, rfl⟩ := List.mem_map.mp hl
    exact (okp p (List.mem_filter.mp hp).1).1
  have lln : ∀ l ∈ laA cs ls, okName l.1 = true := fun l hl => by
    obtain ⟨p, hp, rfl⟩ := List.mem_map.mp hl
    exact (okp p (List.mem_filter.mp hp).1).1
  rw [hT] at q
  generalize fiA ls = fi at m3f fln q
  generalize laA cs ls = la at m3l lln q
  refine db_cons (ds_set (i := 5) sc_obstructions_of_ends.nd rfl (.inl rfl) (de_lstC (da_nil ⟨Nat.zero_le _, fun pf hpf => ?_⟩)))
  have hpfM : M pf = none := sub03.none hpf
  have n1f : D1 ≠ pf := neC m3f hpf
  have n2f : D2 ≠ pf := neC m3l hpf
  have sub_M4 : Sub M' (updC M' pf (.l [])) := (Sub.refl _).new hpf
  have m_pf : updC M' pf (.l []) pf = some (.l []) := updC_same
  generalize updC M' pf (.l []) = M4 at sub_M4 m_pf
  have m4f := sub_M4 _ _ m3f
  have m4l := sub_M4 _ _ m3l
  have sub4 := Sub.trans sub03 sub_M4
  have tru : ∀ {M' : Cs} {a : Addr} {c : List Line}, M' a = some (.l (c.map sLine)) → truOf M' (.c a) = some (!c.isEmpty) := fun {M' a c} h => by
    show ((seqOf M' (.c a)).map fun ss => !ss.isEmpty) = _
    rw [show seqOf M' (.c a) = some (c.map sLine) from by simp only [seqOf, h]]
    cases c <;> rfl
  refine db_consJ (fun τ' M' => τ' = [some (.d (eCnt cs)), some (.d (eLS ls)), some (.c D1), some (.c D2), some (dI T), some (.c pf), none, none] ∧ Sub M M' ∧ M' D1 = some (.l (fi.map sLine)) ∧ M' D2 = some (.l (la.map sLine)) ∧ M' pf = some (.l ((if fi.isEmpty = true then [obNF] else []).map .d))) (ds_if (dt_not (dt_tru ?_))) ?_
  · walk_at "nm"
    refine ⟨_, tru m4f, fun h => ?_, fun h => db_nil ⟨rfl, sub4, m4f, m4l, ?_⟩⟩
    · have h : fi.isEmpty = true := by simpa using h
      refine db_cons (ds_append ?_)
      walk_at "nm"
      refine ⟨⟨rfl, _, by simp only [seqOf, m_pf]; rfl⟩, de_tupD (da_cons (de_str (da_nil ⟨[.str "no first"], rfl, (by show 1 ≤ sizeLine; decide), pf, _, rfl, m_pf, (by show 0 < sizeLine; decide), db_nil ⟨rfl, sub_put sub4 hpfM, by rw [updC_ne n1f]; exact m4f, by rw [updC_ne n2f]; exact m4l, ?_⟩⟩)))⟩
      rw [updC_same, if_pos h]
      rfl
    · have h : fi.isEmpty = false := by simpa using h
      rw [m_pf, if_neg (by rw [h]; exact Bool.false_ne_true)]
      rfl
  rintro τ' M5 ⟨rfl, sub5, m5f, m5l, m5p⟩
  refine db_consJ (fun τ' M' => τ' = [some (.d (eCnt cs)), some (.d (eLS ls)), some (.c D1), some (.c D2), some (dI T), some (.c pf), none, none] ∧ Sub M M' ∧ M' D1 = some (.l (fi.map sLine)) ∧ M' D2 = some (.l (la.map sLine)) ∧ M' pf = some (.l (((if fi.isEmpty = true then [obNF] else []) ++ (if la.isEmpty = true then [obNL] else [])).map .d))) (ds_if (dt_not (dt_tru ?_))) ?_
  · walk_at "nm"
    refine ⟨_, tru m5l, fun h => ?_, fun h => db_nil ⟨rfl, sub5, m5f, m5l, ?_⟩⟩
    · have h : la.isEmpty = true := by simpa using h
      refine db_cons (ds_append ?_)
      walk_at "nm"
      refine ⟨⟨rfl, _, by simp only [seqOf, m5p]; rfl⟩, de_tupD (da_cons (de_str (da_nil ⟨[.str "no last"], rfl, (by show 1 ≤ sizeLine; decide), pf, _, rfl, m5p, ?_, db_nil ⟨rfl, sub_put sub5 hpfM, by rw [updC_ne n1f]; exact m5f, by rw [updC_ne n2f]; exact m5l, ?_⟩⟩)))⟩
      · rw [List.length_map, sizeLine_eq]
        split <;> simp
      · rw [updC_same, if_pos h, List.map_append]
        rfl
    · have h : la.isEmpty = false := by simpa using h
      rw [m5p, if_neg (c := la.isEmpty = true) (by rw [h]; exact Bool.false_ne_true), List.append_nil]
  rintro τ' M6 ⟨rfl, sub6, m6f, m6l, m6p⟩
  have hpl : ((if fi.isEmpty = true then [obNF] else []) ++ (if la.isEmpty = true then [obNL] else []) : List PyData).length ≤ 2 := by
    rw [List.length_append]
    have h1 : (if fi.isEmpty = true then [obNF] else [] : List PyData).length ≤ 1 := by split <;> simp
    have h2 : (if la.isEmpty = true then [obNL] else [] : List PyData).length ≤ 1 := by split <;> simp
    omega
  have q : ∀ (p : Addr) (M' : Cs), Sub M M' → M p = none → M' p = some (.l ((((if fi.isEmpty = true then [obNF] else []) ++ (if la.isEmpty = true then [obNL] else [])) ++ seA fi la T).map .d)) → Q (.c p) M' := q
  generalize ((if fi.isEmpty = true then [obNF] else []) ++ (if la.isEmpty = true then [obNL] else []) : List PyData) = pre at m6p q hpl
  refine db_consJ (fun τ' M' => τ' = [some (.d (eCnt cs)), some (.d (eLS ls)), some (.c D1), some (.c D2), some (dI T), some (.c pf), none, none] ∧ Sub M M' ∧ M' pf = some (.l ((pre ++ seA fi la T).map .d))) (ds_if (dt_and3 (dt_cmp op_eq (de_callB call_len_seq (by rfl) b2 bt_len (da_cons ?_)) (by with_unfolding_all rfl)))) ?_
  · walk_at "nm"
    have noS : seA fi la T = [] → M6 pf = some (.l ((pre ++ seA fi la T).map .d)) := fun h => by rw [h, List.append_nil]; exact m6p
    refine da_nil (k_len (by simp only [seqOf, m6f]; rfl) (de_int (k_eqI ⟨_, rfl, fun h1 => dt_cmp (op_eqD hr.units) ?_ (by with_unfolding_all rfl), fun h1 => ⟨no1, fun _ => db_nil ⟨rfl, sub6, noS ?_⟩⟩⟩)))
    · have h1 := of_decide_eq_true h1
      rw [List.length_map] at h1
      obtain ⟨l, rfl⟩ : ∃ l, fi = [l] := by
        match fi, h1 with
        | [l], _ => exact ⟨l, rfl⟩
        | [], h => cases h
        | a :: b :: r, h => simp at h; omega
      walk_at "nm"
      walk_at "nm"
      refine k_eqD (isd_lines m6f) (isd_lines m6l) (shaped_lines _ fln) (shaped_lines _ lln) ?_
      rw [eqv_list eLine eqv_line]
      refine ⟨_, rfl, fun h2 => dt_cmp op_gt ?_ (by with_unfolding_all rfl), fun h2 => ⟨no1, fun _ => db_nil ⟨rfl, sub6, noS ?_⟩⟩⟩
      · have h2 := of_decide_eq_true h2
        walk_at "nm"
        refine de_int (k_bool ⟨_, rfl, fun h3 => ?_, fun h3 => db_nil ⟨rfl, sub6, noS ?_⟩⟩)
        · have h3 := of_decide_eq_true h3
          have hS : seA [l] la T = [obSE l] := by
            show (if [l] = la ∧ 1 < T then [obSE l] else []) = _
            rw [if_pos ⟨h2, by omega⟩]
          refine db_cons (ds_append ?_)
          walk_at "nm"
          refine ⟨⟨rfl, _, by simp only [seqOf, m6p]; rfl⟩, de_tupD (da_cons (de_str (da_cons (de_ix ?_))))⟩
          walk_at "nm"
          refine de_int ⟨[sLine l], 0, sLine l, by simp only [seqOf, m6f]; rfl, rfl, rfl, da_nil ⟨[.str "single end", eLine l], rfl, (by show 2 ≤ sizeLine; decide), pf, _, rfl, m6p, ?_, db_nil ⟨rfl, sub_put sub6 hpfM, ?_⟩⟩⟩
          · rw [List.length_map, sizeLine_eq]
            omega
          · rw [updC_same, hS, List.map_append]
            rfl
        · have h3 := of_decide_eq_false h3
          show (if [l] = la ∧ 1 < T then [obSE l] else []) = _
          rw [if_neg (fun z => h3 (by have := z.2; omega))]
      · have h2 := of_decide_eq_false h2
        show (if [l] = la ∧ 1 < T then [obSE l] else []) = _
        rw [if_neg (fun z => h2 z.1)]
    · have h1 := of_decide_eq_false h1
      rw [List.length_map] at h1
      match fi, h1 with
      | [], _ => rfl
      | [l], h => exact absurd rfl h
      | a :: b :: r, _ => rfl
  rintro τ' M7 ⟨rfl, sub7, m7p⟩
  refine db_cons (ds_ret ?_)
  walk_at "nm"
  exact q pf M7 sub7 hpfM m7p

end

end Pg

namespace Pg
open PySem L2 Y PyProof.Rows

local macro_rules | `(tactic| walk_at "vis") => `(tactic| first | exact Or.inl rfl | exact Or.inr (Or.inl rfl) | exact Or.inr (Or.inr rfl))
local macro_rules | `(tactic| walk_at "e1") => `(tactic| first | walk_at "nm" | refine de_int ?_ | refine de_add ?_ | refine de_sub ?_ | refine de_str ?_ | refine de_non ?_ | refine de_bl ?_)
local macro_rules | `(tactic| walk_at "go") => `(tactic| repeat (first | ((with_reducible show DE _ _ _ _ _ _); walk_at "e1") | ((with_reducible show DA _ _ _ _ _ _); refine da_cons ?_) | refine ⟨_, _, rfl, rfl, ?_⟩))


def numA (cs : Cnt) (ls : LSet) : Cnt := cs.map fun p => (p.1, linA (ivsOf ls p.1))
theorem numA_get (ls : LSet) : ∀ (cs : Cnt) (z : Str), getC (numA cs ls) z = (getC cs z).map fun _ => linA (ivsOf ls z)
  | [], _ => rfl
  | p :: r, z => by
    have ih := numA_get ls r z
    unfold getC numA at ih ⊢
    rw [List.map_cons, List.find?_cons, List.find?_cons]
    by_cases e : p.1 = z
    · rw [show decide (p.1 = z) = true from decide_eq_true e]
      show some (linA (ivsOf ls p.1)) = some (linA (ivsOf ls z))
      rw [e]
    · rw [show decide (p.1 = z) = false from decide_eq_false e]
      exact ih
theorem putS_newC {cs : Cnt} {z : Str} {v : Int} (h : z ∉ cs.map (·.1)) : putS (slK (kdC cs)) (.inr z) (dI v) = slK (kdC (cs ++ [(z, v)])) := by
  rw [putS_new (by
    rw [keys_C]
    intro q
    obtain ⟨y, hy, e⟩ := List.mem_map.mp q
    exact h ((Sum.inr.inj e) ▸ hy))]
  unfold slK kdC
  simp only [List.map_append]
  rfl
theorem getC_permS {cs cs' : Cnt} (h : cs'.Perm cs) (hn : (cs.map (·.1)).Nodup) (z : Str) : getC cs' z = getC cs z := by
  have hn' : (cs'.map (·.1)).Nodup := (h.map _).nodup_iff.mpr hn
  have some_of : ∀ {t : Cnt} {v : Int}, getC t z = some v → ∃ p ∈ t, p.1 = z ∧ p.2 = v := fun {t v} h => by
    unfold getC at h
    cases e : t.find? fun p => decide (p.1 = z) with
    | none => rw [e] at h; cases h
    | some p =>
      rw [e] at h
      exact ⟨p, List.mem_of_find?_eq_some e, of_decide_eq_true (p := p.1 = z) (List.find?_some (p := fun p : Str × Int => decide (p.1 = z)) e), Option.some.inj h⟩
  cases e : getC cs z with
  | some v =>
    obtain ⟨p, hp, rfl, rfl⟩ := some_of e
    exact getC_mem hn' (h.mem_iff.mpr hp)
  | none =>
    cases e' : getC cs' z with
    | none => rfl
    | some v =>
      obtain ⟨p, hp, rfl, rfl⟩ := some_of e'
      rw [getC_mem hn (h.mem_iff.mp hp)] at e
      cases e
theorem okCnt_permS {cs cs' : Cnt} (h : cs'.Perm cs) (ok : okCnt cs) : okCnt cs' := by
  obtain ⟨a, b, c, d⟩ := ok
  exact ⟨by rw [h.length_eq]; exact a, by rw [h.length_eq]; exact b, (h.map _).nodup_iff.mpr c, fun p hp => d p (h.mem_iff.mp hp)⟩
theorem okLS_perm {cs cs' : Cnt} {ls : LSet} (h : cs'.Perm cs) (hn : (cs.map (·.1)).Nodup) (ok : okLS cs ls) : okLS cs' ls := by
  obtain ⟨a, b, c⟩ := ok
  refine ⟨a, b, fun p hp => ?_⟩
  obtain ⟨c1, c2, c3, c4⟩ := c p hp
  refine ⟨c1, (h.map _).mem_iff.mpr c2, ?_, c4⟩
  have : high (some cs') p.1 = high (some cs) p.1 := by
    show (getC cs' p.1).getD 0 = (getC cs p.1).getD 0
    rw [getC_permS h hn]
  rw [this]
  exact c3
theorem sum_seq (cs : Cnt) : (slK (kdC cs)).map (·.2) = (cs.map (·.2)).map dI := by
  unfold slK kdC
  rw [List.map_map, List.map_map, List.map_map]
  rfl
section
variable {P : Program} {w : World} {K : PySem.W.Frag} {mg : Str → Option Value} {base : Heap}

local macro_rules | `(tactic| walk_at "nm") => `(tactic| first | ((with_reducible refine de_name (x := "counts") (i := 0) (s := ?s) ?hN ?hv ?ht ?q ?hd ?hcd); (case hN => rfl); (case hv => walk_at "vis"); (case ht => rfl); (case hd => decide); (case hcd => decide)) | ((with_reducible refine de_name (x := "lines") (i := 1) (s := ?s) ?hN ?hv ?ht ?q ?hd ?hcd); (case hN => rfl); (case hv => walk_at "vis"); (case ht => rfl); (case hd => decide); (case hcd => decide)) | ((with_reducible refine de_name (x := "numbers") (i := 2) (s := ?s) ?hN ?hv ?ht ?q ?hd ?hcd); (case hN => rfl); (case hv => walk_at "vis"); (case ht => rfl); (case hd => decide); (case hcd => decide)) | ((with_reducible refine de_name (x := "total") (i := 3) (s := ?s) ?hN ?hv ?ht ?q ?hd ?hcd); (case hN => rfl); (case hv => walk_at "vis"); (case ht => rfl); (case hd => decide); (case hcd => decide)) | ((with_reducible refine de_name (x := "found") (i := 4) (s := ?s) ?hN ?hv ?ht ?q ?hd ?hcd); (case hN => rfl); (case hv => walk_at "vis"); (case ht => rfl); (case hd => decide); (case hcd => decide)) | ((with_reducible refine de_name (x := "writer") (i := 5) (s := ?s) ?hN ?hv ?ht ?q ?hd ?hcd); (case hN => rfl); (case hv => walk_at "vis"); (case ht => rfl); (case hd => decide); (case hcd => decide)) | ((with_reducible refine de_name (x := "intervals") (i := 6) (s := ?s) ?hN ?hv ?ht ?q ?hd ?hcd); (case hN => rfl); (case hv => walk_at "vis"); (case ht => rfl); (case hd => decide); (case hcd => decide)) | ((with_reducible refine de_name (x := "others") (i := 7) (s := ?s) ?hN ?hv ?ht ?q ?hd ?hcd); (case hN => rfl); (case hv => walk_at "vis"); (case ht => rfl); (case hd => decide); (case hcd => decide)))


def R_ob_gaps : Rr := fun L ss M Q => ∃ (cs : Cnt) (ls : LSet), NoDK L ∧ ss = [.d (eCnt cs), .d (eLS ls)] ∧ okCnt cs ∧ (∀ p ∈ ls, p.2.length ≤ 1000) ∧ ∀ (p : Addr) (M' : Cs), Sub M M' → M p = none → M' p = some (.l ((obGaps cs ls (totW cs ls)).map .d)) → Q (.c p) M'
set_option maxHeartbeats 4000000 in
theorem ok_obstructions_of_gaps (F : FunAt K mg "obstructions_of_gaps" s_obstructions_of_gaps ["counts", "lines"]) (c1 : Cal P w K mg base "lines_in_intervals" 1 ["intervals"] R_lines_in) (c2 : Cal P w K mg base "gaps_of_writers" 2 ["counts", "line_set"] R_gapsw) (b1 : mg "sum" = none) (b2 : mg "len" = none) : Cal P w K mg base "obstructions_of_gaps" 3 ["counts", "lines"] R_ob_gaps := by
  refine cal_of F sc_obstructions_of_gaps (fun _ ss _ _ ⟨cs, ls, _, e, _⟩ => by rw [e]; rfl) (fun f cdv A outer s H E L ss M Q hr h => ?_)
  obtain ⟨cs, ls, hL, rfl, okc, hls, q⟩ := h
  obtain ⟨l1, l12, nd, okp⟩ := okc
  have hkl : (kdC cs).length = cs.length := by unfold kdC; rw [List.length_map]
  refine db_cons (ds_setDcKeys (j := 2) (i := 0) (kd := kdC cs) (own := [("writer", 5)]) (g := gName 5) rfl sc_obstructions_of_gaps.nd rfl rfl (by with_unfolding_all rfl) (blkOk_by (own := [("writer", 5)]) (N := ["counts", "lines", "numbers", "total", "found", "writer", "intervals", "others"]) (sc := defScope s_obstructions_of_gaps) (by decide +kernel)) (fun _ _ _ _ _ => pg_name (i := 5) sc_obstructions_of_gaps.nd rfl (.inl rfl)) hL rfl (by walk_at "vis") rfl fun D hD => ?_)
  refine ⟨fun n M' => Sub M M' ∧ M' D = some (.k (slK (kdC (numA (cs.take n) ls)))), ⟨(Sub.refl M).new hD, updC_same⟩, fun x hx n k d M' hn hM => ?_, fun M1 hM => ?_⟩
  · obtain ⟨sub, mD⟩ := hM
    unfold kdC at hn
    rw [List.getElem?_map] at hn
    obtain ⟨⟨z, v⟩, hpz, epz⟩ := Option.map_eq_some_iff.mp hn
    cases epz
    obtain ⟨hlt, hget⟩ := List.getElem?_eq_some_iff.mp hpz
    have hfr : z ∉ (numA (cs.take n) ls).map (·.1) := by
      unfold numA
      rw [List.map_map]
      have h1 := take_fresh nd (n := n) (by rw [List.length_map]; exact hlt)
      rw [List.getElem_map, hget, ← List.map_take] at h1
      exact h1
    refine wgw_name (by simp) ?_
    intro s0 H0 C cl fp
    walk_at "nm"
    intro s0 H0 C cl fp
    refine de_callC (c1.up (by decide)) hr (by rfl) (da_cons ?_)
    refine de_dget2 (hu_of hr) ?_
    walk_at "nm"
    refine ⟨⟨_, .d (kdL ls)⟩, ?_⟩
    walk_at "nm"
    refine de_lstD (da_nil ⟨[], rfl, Nat.zero_le _, _, .inr z, .d (kdL ls), rfl, ?_⟩)
    rw [valS_Ld]
    refine da_nil ⟨ivsOf ls z, rfl, Nat.le_trans (ivsOf_len hls z) (by decide), fun M2 sub2 => ⟨_, .inr z, rfl, sub2 _ _ mD, ?_, sub_put (Sub.trans sub sub2) hD, ?_⟩⟩
    · unfold slK kdC numA
      rw [List.length_map, List.length_map, List.length_map, List.length_take, sizeLine_eq]
      omega
    · rw [updC_same]
      have e : numA (cs.take (n + 1)) ls = numA (cs.take n) ls ++ [(z, linA (ivsOf ls z))] := by
        unfold numA
        rw [List.take_add_one, hpz, List.map_append]
        rfl
      rw [e, ← putS_newC hfr]
  obtain ⟨sub1, m1D⟩ := hM
  rw [hkl, List.take_length] at m1D
  refine db_cons (ds_set (i := 3) sc_obstructions_of_gaps.nd rfl (.inl rfl) (de_sumV rfl (by rfl) b1 ?_))
  walk_at "nm"
  refine ⟨slK (kdC (numA cs ls)), (numA cs ls).map (·.2), .c m1D, sum_seq _, ?_⟩
  have hT : ((numA cs ls).map (·.2)).sum = totW cs ls := by unfold numA totW; rw [List.map_map]; rfl
  rw [hT]
  generalize totW cs ls = T at q
  refine db_cons (ds_set (i := 4) sc_obstructions_of_gaps.nd rfl (.inl rfl) (de_lstC (da_nil ⟨Nat.zero_le _, fun pf hpf => ?_⟩)))
  have hpfM : M pf = none := sub1.none hpf
  have nDf : D ≠ pf := neC m1D hpf
  have sub_M2 : Sub M1 (updC M1 pf (.l [])) := (Sub.refl _).new hpf
  have m_pf : updC M1 pf (.l []) pf = some (.l []) := updC_same
  generalize updC M1 pf (.l []) = M2 at sub_M2 m_pf
  have m2D := sub_M2 _ _ m1D
  have sub2 := Sub.trans sub1 sub_M2
  refine db_cons (ds_forItemsT PassesOwn.never rfl hL (de_frzK (de_callC (c2.up (by decide)) hr (by rfl) ?_)))
  walk_at "go"
  refine da_nil ⟨cs, ls, hL, rfl, ⟨l1, l12, nd, okp⟩, hls, fun p3 M3 sub3 hp3 m3 => ⟨p3, kdL (gwA cs ls), rfl, m3, ?_⟩⟩
  have n3f : pf ≠ p3 := neC m_pf hp3
  have n3D : D ≠ p3 := neC m2D hp3
  have hkg : (kdL (gwA cs ls)).length = cs.length := by unfold kdL gwA; rw [List.length_map, List.length_map]
  refine ⟨kdL (gwA cs ls), fun n τ' M' => ∃ (y5 y6 y7 : Option Sl), τ' = [some (.d (eCnt cs)), some (.d (eLS ls)), some (.c D), some (dI T), some (.c pf), y5, y6, y7] ∧ Sub M M' ∧ M' D = some (.k (slK (kdC (numA cs ls)))) ∧ M' pf = some (.l ((obGaps (cs.take n) ls T).map .d)), rfl, ⟨none, none, none, rfl, ?_, ?_, ?_⟩, fun x hx n k d τ' M4 hn => ?_, fun τ' M4 => ?_⟩
  · intro a c h
    rw [delC_ne (neC (sub2 _ _ h) hp3)]
    exact sub3 _ _ (sub2 _ _ h)
  · rw [delC_ne n3D]
    exact sub3 _ _ m2D
  · rw [delC_ne n3f]
    exact sub3 _ _ m_pf
  · rintro ⟨y5, y6, y7, rfl, sub4, m4D, m4f⟩
    unfold kdL gwA at hn
    rw [List.getElem?_map, List.getElem?_map] at hn
    obtain ⟨pz, hp1, epz⟩ := Option.map_eq_some_iff.mp hn
    obtain ⟨⟨z, v⟩, hpz, e2⟩ := Option.map_eq_some_iff.mp hp1
    subst e2
    cases epz
    clear hp1
    have hgz : getC cs z = some v := getC_mem nd (p := (z, v)) (List.mem_of_getElem? hpz)
    have hstep : obGaps (cs.take (n + 1)) ls T = obGaps (cs.take n) ls T ++ gwG T z v (ivsOf ls z) := by
      unfold obGaps
      rw [List.take_add_one, hpz, List.flatMap_append]
      simp
    have hlen := obGaps_len (cs.take n) ls T
    rw [List.length_take] at hlen
    have hbl := btw_len (ivsOf ls z) v
    have hil := ivsOf_len hls z
    refine dg_of (pg_tup rfl (pgs_cons (pg_name (i := 5) sc_obstructions_of_gaps.nd rfl (.inl rfl)) (pgs_cons (pg_name (i := 6) sc_obstructions_of_gaps.nd rfl (.inl rfl)) pgs_nil))) (wg_tup rfl rfl rfl (wgs_cons (wg_name (wgs_cons (wg_name (wgs_nil ?_))))))
    refine db_cons (ds_set (i := 7) sc_obstructions_of_gaps.nd rfl (.inl rfl) (de_sub ?_))
    walk_at "nm"
    refine de_dget (hu_of hr) ?_
    walk_at "nm"
    walk_at "nm"
    refine ⟨_, .inr z, dI (linA (ivsOf ls z)), .c m4D, rfl, by rw [valS_C, numA_get, hgz]; rfl, _, _, rfl, rfl, ?_⟩
    have hsl : ∀ M' : Cs, seqOf M' (.d (eIvs (btw (ivsOf ls z) v))) = some ((btw (ivsOf ls z) v).map sIv) := fun M' => seq_ivs _ _
    refine db_cons (ds_if (dt_cmp op_gt (de_callB call_len_seq (by rfl) b2 bt_len (da_cons ?_)) (by with_unfolding_all rfl)))
    walk_at "nm"
    refine da_nil (k_len (hsl M4) ?_)
    rw [List.length_map]
    walk_at "nm"
    refine k_bool ⟨_, rfl, fun h => ?_, fun h => db_nil (db_nil ⟨_, _, _, rfl, sub4, m4D, ?_⟩)⟩
    · have h := of_decide_eq_true h
      refine db_cons (ds_append ?_)
      walk_at "nm"
      refine ⟨⟨rfl, _, by simp only [seqOf, m4f]; rfl⟩, de_tupD (da_cons (de_str (da_cons ?_)))⟩
      walk_at "nm"
      refine da_cons (de_callB call_len_seq (by rfl) b2 bt_len (da_cons ?_))
      walk_at "nm"
      refine da_nil (k_len (hsl M4) (da_cons ?_))
      walk_at "nm"
      refine da_nil ⟨[.str "gaps", .str z, .int ((btw (ivsOf ls z) v).length : Int), .int (T - linA (ivsOf ls z))], by rw [List.length_map]; rfl, (by show 4 ≤ sizeLine; decide), pf, _, rfl, m4f, ?_, db_nil (db_nil ⟨_, _, _, rfl, sub_put sub4 hpfM, by rw [updC_ne nDf]; exact m4D, ?_⟩)⟩
      · rw [List.length_map, sizeLine_eq]
        omega
      · rw [updC_same, hstep, List.map_append]
        unfold gwG
        rw [if_pos (by omega)]
        rfl
    · have h := of_decide_eq_false h
      rw [hstep]
      unfold gwG
      rw [if_neg (by omega), List.append_nil]
      exact m4f
  · rintro ⟨y5, y6, y7, rfl, sub4, m4D, m4f⟩
    rw [hkg, List.take_length] at m4f
    refine db_cons (ds_ret ?_)
    walk_at "nm"
    exact q pf M4 sub4 hpfM m4f

local macro_rules | `(tactic| walk_at "nm") => `(tactic| first | ((with_reducible refine de_name (x := "counts") (i := 0) (s := ?s) ?hN ?hv ?ht ?q ?hd ?hcd); (case hN => rfl); (case hv => walk_at "vis"); (case ht => rfl); (case hd => decide); (case hcd => decide)) | ((with_reducible refine de_name (x := "lines") (i := 1) (s := ?s) ?hN ?hv ?ht ?q ?hd ?hcd); (case hN => rfl); (case hv => walk_at "vis"); (case ht => rfl); (case hd => decide); (case hcd => decide)))


def R_sob : Rr := fun L ss M Q => ∃ (cs : Cnt) (ls : LSet), NoDK L ∧ ss = [.d (eCnt cs), .d (eLS ls)] ∧ okCnt cs ∧ okLS cs ls ∧ (∀ p ∈ ls, p.2 ≠ []) ∧ ∀ (p : Addr) (M' : Cs), Sub M M' → M p = none → M' p = some (.l ((obAll cs ls).map .d)) → Q (.c p) M'
theorem ok_survival_obstructions (F : FunAt K mg "survival_obstructions" s_survival_obstructions ["counts", "lines"]) (c1 : Cal P w K mg base "obstructions_of_ends" 2 ["counts", "lines"] R_ob_ends) (c2 : Cal P w K mg base "obstructions_of_gaps" 3 ["counts", "lines"] R_ob_gaps) (b1 : mg "sum" = none) : Cal P w K mg base "survival_obstructions" 4 ["counts", "lines"] R_sob := by
  refine cal_of F sc_survival_obstructions (fun _ ss _ _ ⟨cs, ls, _, e, _⟩ => by rw [e]; rfl) (fun f cdv A outer s H E L ss M Q hr h => ?_)
  obtain ⟨cs, ls, hL, rfl, okc, okl, ne, q⟩ := h
  refine db_cons (ds_if (dt_cmp op_eq (de_sumV rfl (by rfl) b1 ?_) (by with_unfolding_all rfl)))
  walk_at "nm"
  refine ⟨slK (kdC cs), cs.map (·.2), .d _, sum_seq _, de_int (k_eqI ⟨_, rfl, fun h => ?_, fun h => db_nil ?_⟩)⟩
  · have h : sumC cs = 0 := of_decide_eq_true h
    refine db_cons (ds_ret (de_lstC (da_nil ⟨Nat.zero_le _, fun p hp => q p _ ((Sub.refl M).new hp) hp ?_⟩)))
    rw [updC_same]
    unfold obAll
    rw [if_pos h]
    rfl
  have h : ¬ sumC cs = 0 := of_decide_eq_false h
  refine db_cons (ds_ret (de_cat ?_))
  refine de_callC (c1.up (by decide)) hr (by rfl) ?_
  walk_at "go"
  refine da_nil ⟨cs, ls, hL, rfl, okc, okl, ne, fun p1 M1 sub1 hp1 m1 => ?_⟩
  refine de_callC (c2.up (by decide)) hr (by rfl) ?_
  walk_at "go"
  refine da_nil ⟨cs, ls, hL, rfl, okc, fun p hp => (okl.2.2 p hp).2.2.2, fun p2 M2 sub2 hp2 m2 => ?_⟩
  refine ⟨_, _, by simp only [lstOf, sub2 _ _ m1]; rfl, by simp only [lstOf, m2]; rfl, ?_, fun p3 hp3 => q p3 _ ((Sub.trans sub1 sub2).new hp3) ((Sub.trans sub1 sub2).none hp3) ?_⟩
  · have h1 := obEnds_len (fiA ls) (laA cs ls) (totA ls)
    have h2 := obGaps_len cs ls (totW cs ls)
    have h3 := okc.2.1
    rw [List.length_map, List.length_map, sizeLine_eq]
    omega
  · rw [updC_same]
    unfold obAll
    rw [if_neg h, List.map_append]

local macro_rules | `(tactic| walk_at "nm") => `(tactic| first | ((with_reducible refine de_name (x := "line_counts") (i := 0) (s := ?s) ?hN ?hv ?ht ?q ?hd ?hcd); (case hN => rfl); (case hv => walk_at "vis"); (case ht => rfl); (case hd => decide); (case hcd => decide)) | ((with_reducible refine de_name (x := "line_set") (i := 1) (s := ?s) ?hN ?hv ?ht ?q ?hd ?hcd); (case hN => rfl); (case hv => walk_at "vis"); (case ht => rfl); (case hd => decide); (case hcd => decide)) | ((with_reducible refine de_name (x := "counts") (i := 2) (s := ?s) ?hN ?hv ?ht ?q ?hd ?hcd); (case hN => rfl); (case hv => walk_at "vis"); (case ht => rfl); (case hd => decide); (case hcd => decide)) | ((with_reducible refine de_name (x := "lines") (i := 3) (s := ?s) ?hN ?hv ?ht ?q ?hd ?hcd); (case hN => rfl); (case hv => walk_at "vis"); (case ht => rfl); (case hd => decide); (case hcd => decide)) | ((with_reducible refine de_name (x := "found") (i := 4) (s := ?s) ?hN ?hv ?ht ?q ?hd ?hcd); (case hN => rfl); (case hv => walk_at "vis"); (case ht => rfl); (case hd => decide); (case hcd => decide)))


def R_so : Rr := fun L ss M Q => ∃ (cs : Cnt) (ls : LSet), NoDK L ∧ ss = [.d (eCnt cs), .d (eLS ls)] ∧ okCnt cs ∧ okLS cs ls ∧ ∀ cs', Sorted cs cs' → Q (.d (obOne cs' (neLS ls))) M
theorem ok_survival_obstruction (F : FunAt K mg "survival_obstruction" s_survival_obstruction ["line_counts", "line_set"]) (c1 : Cal P w K mg base "checked_line_counts" 4 ["value"] R_plain_line_counts) (c2 : Cal P w K mg base "checked_line_set" 6 ["line_counts", "value"] R_plain_ls) (c3 : Cal P w K mg base "survival_obstructions" 4 ["counts", "lines"] R_sob) : Cal P w K mg base "survival_obstruction" 7 ["line_counts", "line_set"] R_so := by
  refine cal_of F sc_survival_obstruction (fun _ ss _ _ ⟨cs, ls, _, e, _⟩ => by rw [e]; rfl) (fun f cdv A outer s H E L ss M Q hr h => ?_)
  obtain ⟨cs, ls, hL, rfl, okc, okl, q⟩ := h
  refine db_cons (ds_set (i := 2) sc_survival_obstruction.nd rfl (.inl rfl) (de_callC (c1.up (by decide)) hr (by rfl) ?_))
  walk_at "go"
  refine da_nil ⟨cs, hL, rfl, okc, fun cs' hs' => ?_⟩
  have okc' := okCnt_permS hs'.1 okc
  have okl' := okLS_perm hs'.1 okc.2.2.1 okl
  obtain ⟨okn, nen⟩ := okNE okl'
  refine db_cons (ds_set (i := 3) sc_survival_obstruction.nd rfl (.inl rfl) (de_callC c2 hr (by rfl) ?_))
  walk_at "go"
  refine da_nil ⟨cs', ls, hL, rfl, okl', fun p1 M1 sub1 hp1 m1 => ?_⟩
  refine db_frzD (i := 3) (kd := kdL (neLS ls)) rfl m1 ?_
  have sub2 : Sub M (delC M1 p1) := fun a c h => by
    rw [delC_ne (neC h hp1)]
    exact sub1 _ _ h
  generalize delC M1 p1 = M2 at sub2
  refine db_cons (ds_set (i := 4) sc_survival_obstruction.nd rfl (.inl rfl) (de_callC (c3.up (by decide)) hr (by rfl) ?_))
  walk_at "go"
  refine da_nil ⟨cs', neLS ls, hL, rfl, okc', okn, nen, fun p3 M3 sub3 hp3 m3 => ?_⟩
  have s3 : seqOf M3 (.c p3) = some ((obAll cs' (neLS ls)).map .d) := by simp only [seqOf, m3]
  have tru : truOf M3 (.c p3) = some (!(obAll cs' (neLS ls)).isEmpty) := by
    show ((seqOf M3 (.c p3)).map fun ss => !ss.isEmpty) = _
    rw [s3]
    cases obAll cs' (neLS ls) <;> rfl
  have q := q cs' hs'
  unfold obOne at q
  refine db_cons (ds_ret (de_gc (de_if (dt_tru ?_))))
  walk_at "nm"
  refine ⟨_, tru, fun h => de_ix ?_, fun h => de_non ⟨M, Sub.trans sub2 sub3, ?_⟩⟩
  · walk_at "nm"
    have h : (obAll cs' (neLS ls)).isEmpty = false := by simpa using h
    cases e : obAll cs' (neLS ls) with
    | nil => rw [e] at h; cases h
    | cons d r =>
      rw [e] at q s3
      exact de_int ⟨_, ((0 : Nat) : Int), .d d, s3, rfl, atI_nat rfl, M, Sub.trans sub2 sub3, q⟩
  · have h : (obAll cs' (neLS ls)).isEmpty = true := by simpa using h
    rw [List.isEmpty_iff.mp h] at q
    exact q

local macro_rules | `(tactic| walk_at "nm") => `(tactic| first | ((with_reducible refine de_name (x := "line_counts") (i := 0) (s := ?s) ?hN ?hv ?ht ?q ?hd ?hcd); (case hN => rfl); (case hv => walk_at "vis"); (case ht => rfl); (case hd => decide); (case hcd => decide)) | ((with_reducible refine de_name (x := "line_set") (i := 1) (s := ?s) ?hN ?hv ?ht ?q ?hd ?hcd); (case hN => rfl); (case hv => walk_at "vis"); (case ht => rfl); (case hd => decide); (case hcd => decide)))


def R_cansurv : Rr := fun L ss M Q => ∃ (cs : Cnt) (ls : LSet), NoDK L ∧ ss = [.d (eCnt cs), .d (eLS ls)] ∧ okCnt cs ∧ okLS cs ls ∧ ∀ cs', Sorted cs cs' → Q (.d (.bool (isNone (.d (obOne cs' (neLS ls)))))) M
theorem ok_can_survive (F : FunAt K mg "can_survive" s_can_survive ["line_counts", "line_set"]) (c1 : Cal P w K mg base "survival_obstruction" 7 ["line_counts", "line_set"] R_so) : Cal P w K mg base "can_survive" 8 ["line_counts", "line_set"] R_cansurv := by
  refine cal_of F sc_can_survive (fun _ ss _ _ ⟨cs, ls, _, e, _⟩ => by rw [e]; rfl) (fun f cdv A outer s H E L ss M Q hr h => ?_)
  obtain ⟨cs, ls, hL, rfl, okc, okl, q⟩ := h
  refine db_cons (ds_ret (de_cmp op_isN (de_callC c1 hr (by rfl) ?_) (nomark _)))
  walk_at "go"
  exact da_nil ⟨cs, ls, hL, rfl, okc, okl, fun cs' hs' => de_non (k_isN (q cs' hs'))⟩

end

end Pg

namespace Pg
open PySem L2 Y PyProof.Rows

local macro_rules | `(tactic| walk_at "vis") => `(tactic| first | exact Or.inl rfl | exact Or.inr (Or.inl rfl) | exact Or.inr (Or.inr rfl))
local macro_rules | `(tactic| walk_at "e1") => `(tactic| first | walk_at "nm" | refine de_int ?_ | refine de_add ?_ | refine de_sub ?_ | refine de_str ?_ | refine de_non ?_ | refine de_bl ?_)
local macro_rules | `(tactic| walk_at "go") => `(tactic| repeat (first | ((with_reducible show DE _ _ _ _ _ _); walk_at "e1") | ((with_reducible show DA _ _ _ _ _ _); refine da_cons ?_) | refine ⟨_, _, rfl, rfl, ?_⟩))


theorem okLine_first {cs : Cnt} {ls : LSet} (okl : okLS cs ls) (ne : ∀ p ∈ ls, p.2 ≠ []) : ∀ l ∈ fiA ls, okLine (some cs) l := fun l hl => by
  obtain ⟨p, hp, rfl⟩ := List.mem_map.mp hl
  obtain ⟨hp, h1⟩ := List.mem_filter.mp hp
  have h1 := of_decide_eq_true h1
  obtain ⟨zn, _, oki, _⟩ := okl.2.2 p hp
  obtain ⟨v, h0, _, hf⟩ := head_iv (ne p hp)
  obtain ⟨o1, o2, o3⟩ := oki.1 v (List.mem_of_getElem? h0)
  rw [hf] at h1
  exact ⟨zn, Int.le_refl _, by show 1 ≤ high (some cs) p.1; omega⟩
def canOb (d : PyData) : Prop := d.canLay0 = true ∧ d.depth ≤ 3
theorem canOb_of {cs : Cnt} {d : PyData} (h : okOb cs d) : canOb d := by
  rcases h with rfl | rfl | ⟨l, rfl, hl⟩ | ⟨z, n, o, rfl, zn⟩
  · exact ⟨by decide +kernel, by decide +kernel⟩
  · exact ⟨by decide +kernel, by decide +kernel⟩
  · refine ⟨?_, ?_⟩
    · show (PyData.strOk "single end" && ((eLine l).canLay0 && true)) = true
      rw [can_line hl.1, Bool.true_and, Bool.and_true]
      decide +kernel
    · unfold obSE eLine
      simp [PyData.depth, PyData.depthAll]
  · refine ⟨?_, ?_⟩
    · show (PyData.strOk "gaps" && (PyData.strOk z && (true && (true && true)))) = true
      rw [strOk_name zn, Bool.true_and, Bool.true_and, Bool.true_and, Bool.and_true]
      decide +kernel
    · unfold obGP
      simp [PyData.depth, PyData.depthAll]
theorem eqv_self_ob {cs : Cnt} {d : PyData} (h : okOb cs d) : PyData.eqv d d = true := by
  rcases h with rfl | rfl | ⟨l, rfl, hl⟩ | ⟨z, n, o, rfl, zn⟩
  · decide +kernel
  · decide +kernel
  · show (PyData.eqv (.str "single end") (.str "single end") && (PyData.eqv (eLine l) (eLine l) && true)) = true
    rw [eqv_line, decide_eq_true rfl]
    decide +kernel
  · show (PyData.eqv (.str "gaps") (.str "gaps") && (PyData.eqv (.str z) (.str z) && (PyData.eqv (.int n) (.int n) && (PyData.eqv (.int o) (.int o) && true)))) = true
    simp [PyData.eqv]
theorem obAll_ok {cs : Cnt} {ls : LSet} (okc : okCnt cs) (okl : okLS cs ls) (ne : ∀ p ∈ ls, p.2 ≠ []) : ∀ d ∈ obAll cs ls, okOb cs d := fun d hd => by
  unfold obAll at hd
  split at hd
  · cases hd
  rcases List.mem_append.mp hd with hd | hd
  · unfold obEnds at hd
    rcases List.mem_append.mp hd with hd | hd
    · rcases List.mem_append.mp hd with hd | hd
      · split at hd
        · exact .inl (List.mem_singleton.mp hd)
        · cases hd
      · split at hd
        · exact .inr (.inl (List.mem_singleton.mp hd))
        · cases hd
    · have hf := okLine_first okl ne
      generalize fiA ls = fi at hd hf
      match fi, hd, hf with
      | [l], hd, hf =>
        have hd : d ∈ if [l] = laA cs ls ∧ 1 < totA ls then [obSE l] else [] := hd
        split at hd
        · exact .inr (.inr (.inl ⟨l, List.mem_singleton.mp hd, hf l List.mem_cons_self⟩))
        · cases hd
      | [], hd, _ => cases hd
      | _ :: _ :: _, hd, _ => cases hd
  · obtain ⟨p, hp, hd⟩ := List.mem_flatMap.mp hd
    unfold gwG at hd
    split at hd
    · exact .inr (.inr (.inr ⟨_, _, _, List.mem_singleton.mp hd, (okc.2.2.2 p hp).1⟩))
    · cases hd
section
variable {P : Program} {w : World} {K : PySem.W.Frag} {mg : Str → Option Value} {base : Heap}

local macro_rules | `(tactic| walk_at "nm") => `(tactic| first | ((with_reducible refine de_name (x := "counts") (i := 0) (s := ?s) ?hN ?hv ?ht ?q ?hd ?hcd); (case hN => rfl); (case hv => walk_at "vis"); (case ht => rfl); (case hd => decide); (case hcd => decide)) | ((with_reducible refine de_name (x := "value") (i := 1) (s := ?s) ?hN ?hv ?ht ?q ?hd ?hcd); (case hN => rfl); (case hv => walk_at "vis"); (case ht => rfl); (case hd => decide); (case hcd => decide)) | ((with_reducible refine de_name (x := "name") (i := 2) (s := ?s) ?hN ?hv ?ht ?q ?hd ?hcd); (case hN => rfl); (case hv => walk_at "vis"); (case ht => rfl); (case hd => decide); (case hcd => decide)))


def R_plain_ob : Rr := fun _ ss M Q => ∃ (cs : Cnt) (d : PyData), ss = [.d (eLc (some cs)), .d d] ∧ okOb cs d ∧ Q (.d d) M
theorem ok_plain_obstruction (F : FunAt K mg "plain_obstruction" s_plain_obstruction ["counts", "value"]) (c1 : Cal P w K mg base "plain_text" 1 ["value"] R_plain_text) (c2 : Cal P w K mg base "plain_line" 4 ["line_counts", "value"] R_plain_line) (c3 : Cal P w K mg base "plain_writer" 2 ["value"] R_plain_writer) (c4 : Cal P w K mg base "plain_integer" 1 ["value"] R_plain_integer) (b1 : mg "type" = none) (b2 : mg "tuple" = none) (b3 : mg "len" = none) : Cal P w K mg base "plain_obstruction" 5 ["counts", "value"] R_plain_ob := by
  refine cal_of F sc_plain_obstruction (fun _ ss _ _ ⟨cs, d, e, _⟩ => by rw [e]; rfl) (fun f cdv A outer s H E L ss M Q hr h => ?_)
  obtain ⟨cs, d, rfl, hd, q⟩ := h
  rcases hd with rfl | rfl | ⟨l, rfl, hl⟩ | ⟨z, n, o, rfl, zn⟩
  · refine db_cons (ds_if (dt_or2 (dt_cmp op_neTy (de_callT call_type1 (by rfl) b1 bt_type (da_cons ?_)) (nomark _))))
    walk_at "nm"
    refine da_nil (k_typeD rfl (de_type (by rfl) b2 bt_tuple (k_neTy okTy_tuple okTy_tuple ⟨_, rfl, fun z => absurd z (by simp [tyD, obNF, obNL, obSE, obGP]), fun _ => ?_⟩)))
    refine dt_cmp op_notIn_seq (de_callB call_len_seq (by rfl) b3 bt_len (da_cons ?_)) (by with_unfolding_all rfl)
    walk_at "nm"
    refine da_nil (k_len (ss := [.d (.str "no first")]) rfl ?_)
    refine de_tupD (da_cons (de_int (da_cons (de_int (da_cons (de_int (da_nil ⟨[.int 1, .int 2, .int 4], rfl, (by show 3 ≤ sizeLine; decide), ?_⟩)))))))
    refine k_niL (ns := [1, 2, 4]) rfl ⟨_, rfl, fun z => absurd z (by simp), fun _ => db_nil ?_⟩
    refine db_cons (ds_set (i := 2) sc_plain_obstruction.nd rfl (.inl rfl) (de_callC (c1.up (by decide)) hr (by rfl) (da_cons (de_ix ?_))))
    walk_at "nm"
    refine de_int ⟨[.d (.str "no first")], 0, .d (.str "no first"), rfl, rfl, rfl, da_nil ⟨.str "no first", rfl, (by show Str.length "no first" ≤ 16777216; decide +kernel), ?_⟩⟩
    rw [show strOf (.str "no first") = .str "no first" from rfl]
    refine db_cons (ds_ifT (dt_cmp op_eq (de_callB call_len_seq (by rfl) b3 bt_len (da_cons ?_)) (by with_unfolding_all rfl)) ?_)
    · walk_at "nm"
      exact da_nil (k_len (ss := [.d (.str "no first")]) rfl (de_int (k_eqI ⟨_, rfl, by simp, rfl⟩)))
    refine db_cons (ds_ret (de_tupD (da_cons ?_)))
    walk_at "nm"
    exact da_nil ⟨[.str "no first"], rfl, (by show 1 ≤ sizeLine; decide), q⟩
  · refine db_cons (ds_if (dt_or2 (dt_cmp op_neTy (de_callT call_type1 (by rfl) b1 bt_type (da_cons ?_)) (nomark _))))
    walk_at "nm"
    refine da_nil (k_typeD rfl (de_type (by rfl) b2 bt_tuple (k_neTy okTy_tuple okTy_tuple ⟨_, rfl, fun z => absurd z (by simp [tyD, obNF, obNL, obSE, obGP]), fun _ => ?_⟩)))
    refine dt_cmp op_notIn_seq (de_callB call_len_seq (by rfl) b3 bt_len (da_cons ?_)) (by with_unfolding_all rfl)
    walk_at "nm"
    refine da_nil (k_len (ss := [.d (.str "no last")]) rfl ?_)
    refine de_tupD (da_cons (de_int (da_cons (de_int (da_cons (de_int (da_nil ⟨[.int 1, .int 2, .int 4], rfl, (by show 3 ≤ sizeLine; decide), ?_⟩)))))))
    refine k_niL (ns := [1, 2, 4]) rfl ⟨_, rfl, fun z => absurd z (by simp), fun _ => db_nil ?_⟩
    refine db_cons (ds_set (i := 2) sc_plain_obstruction.nd rfl (.inl rfl) (de_callC (c1.up (by decide)) hr (by rfl) (da_cons (de_ix ?_))))
    walk_at "nm"
    refine de_int ⟨[.d (.str "no last")], 0, .d (.str "no last"), rfl, rfl, rfl, da_nil ⟨.str "no last", rfl, (by show Str.length "no last" ≤ 16777216; decide +kernel), ?_⟩⟩
    rw [show strOf (.str "no last") = .str "no last" from rfl]
    refine db_cons (ds_ifT (dt_cmp op_eq (de_callB call_len_seq (by rfl) b3 bt_len (da_cons ?_)) (by with_unfolding_all rfl)) ?_)
    · walk_at "nm"
      exact da_nil (k_len (ss := [.d (.str "no last")]) rfl (de_int (k_eqI ⟨_, rfl, by simp, rfl⟩)))
    refine db_cons (ds_ret (de_tupD (da_cons ?_)))
    walk_at "nm"
    exact da_nil ⟨[.str "no last"], rfl, (by show 1 ≤ sizeLine; decide), q⟩
  · refine db_cons (ds_if (dt_or2 (dt_cmp op_neTy (de_callT call_type1 (by rfl) b1 bt_type (da_cons ?_)) (nomark _))))
    walk_at "nm"
    refine da_nil (k_typeD rfl (de_type (by rfl) b2 bt_tuple (k_neTy okTy_tuple okTy_tuple ⟨_, rfl, fun z => absurd z (by simp [tyD, obNF, obNL, obSE, obGP]), fun _ => ?_⟩)))
    refine dt_cmp op_notIn_seq (de_callB call_len_seq (by rfl) b3 bt_len (da_cons ?_)) (by with_unfolding_all rfl)
    walk_at "nm"
    refine da_nil (k_len (ss := [.d (.str "single end"), sLine l]) rfl ?_)
    refine de_tupD (da_cons (de_int (da_cons (de_int (da_cons (de_int (da_nil ⟨[.int 1, .int 2, .int 4], rfl, (by show 3 ≤ sizeLine; decide), ?_⟩)))))))
    refine k_niL (ns := [1, 2, 4]) rfl ⟨_, rfl, fun z => absurd z (by simp), fun _ => db_nil ?_⟩
    refine db_cons (ds_set (i := 2) sc_plain_obstruction.nd rfl (.inl rfl) (de_callC (c1.up (by decide)) hr (by rfl) (da_cons (de_ix ?_))))
    walk_at "nm"
    refine de_int ⟨[.d (.str "single end"), sLine l], 0, .d (.str "single end"), rfl, rfl, rfl, da_nil ⟨.str "single end", rfl, (by show Str.length "single end" ≤ 16777216; decide +kernel), ?_⟩⟩
    rw [show strOf (.str "single end") = .str "single end" from rfl]
    refine db_cons (ds_ifF (dt_cmp op_eq (de_callB call_len_seq (by rfl) b3 bt_len (da_cons ?_)) (by with_unfolding_all rfl)) (db_nil ?_))
    · walk_at "nm"
      exact da_nil (k_len (ss := [.d (.str "single end"), sLine l]) rfl (de_int (k_eqI ⟨_, rfl, by simp, rfl⟩)))
    refine db_cons (ds_ifT (dt_cmp op_eq (de_callB call_len_seq (by rfl) b3 bt_len (da_cons ?_)) (by with_unfolding_all rfl)) ?_)
    · walk_at "nm"
      exact da_nil (k_len (ss := [.d (.str "single end"), sLine l]) rfl (de_int (k_eqI ⟨_, rfl, by simp, rfl⟩)))
    refine db_cons (ds_ret (de_tupD (da_cons ?_)))
    walk_at "nm"
    refine da_cons (de_callC (c2.up (by decide)) hr (by rfl) (da_cons ?_))
    walk_at "nm"
    refine da_cons (de_ix ?_)
    walk_at "nm"
    exact de_int ⟨[.d (.str "single end"), sLine l], 1, sLine l, rfl, rfl, rfl, da_nil ⟨some cs, l, rfl, hl, da_nil ⟨[.str "single end", eLine l], rfl, (by show 2 ≤ sizeLine; decide), q⟩⟩⟩
  · refine db_cons (ds_if (dt_or2 (dt_cmp op_neTy (de_callT call_type1 (by rfl) b1 bt_type (da_cons ?_)) (nomark _))))
    walk_at "nm"
    refine da_nil (k_typeD rfl (de_type (by rfl) b2 bt_tuple (k_neTy okTy_tuple okTy_tuple ⟨_, rfl, fun z => absurd z (by simp [tyD, obNF, obNL, obSE, obGP]), fun _ => ?_⟩)))
    refine dt_cmp op_notIn_seq (de_callB call_len_seq (by rfl) b3 bt_len (da_cons ?_)) (by with_unfolding_all rfl)
    walk_at "nm"
    refine da_nil (k_len (ss := [.d (.str "gaps"), .d (.str z), .d (.int n), .d (.int o)]) rfl ?_)
    refine de_tupD (da_cons (de_int (da_cons (de_int (da_cons (de_int (da_nil ⟨[.int 1, .int 2, .int 4], rfl, (by show 3 ≤ sizeLine; decide), ?_⟩)))))))
    refine k_niL (ns := [1, 2, 4]) rfl ⟨_, rfl, fun z => absurd z (by simp), fun _ => db_nil ?_⟩
    refine db_cons (ds_set (i := 2) sc_plain_obstruction.nd rfl (.inl rfl) (de_callC (c1.up (by decide)) hr (by rfl) (da_cons (de_ix ?_))))
    walk_at "nm"
    refine de_int ⟨[.d (.str "gaps"), .d (.str z), .d (.int n), .d (.int o)], 0, .d (.str "gaps"), rfl, rfl, rfl, da_nil ⟨.str "gaps", rfl, (by show Str.length "gaps" ≤ 16777216; decide +kernel), ?_⟩⟩
    rw [show strOf (.str "gaps") = .str "gaps" from rfl]
    refine db_cons (ds_ifF (dt_cmp op_eq (de_callB call_len_seq (by rfl) b3 bt_len (da_cons ?_)) (by with_unfolding_all rfl)) (db_nil ?_))
    · walk_at "nm"
      exact da_nil (k_len (ss := [.d (.str "gaps"), .d (.str z), .d (.int n), .d (.int o)]) rfl (de_int (k_eqI ⟨_, rfl, by simp, rfl⟩)))
    refine db_cons (ds_ifF (dt_cmp op_eq (de_callB call_len_seq (by rfl) b3 bt_len (da_cons ?_)) (by with_unfolding_all rfl)) (db_nil ?_))
    · walk_at "nm"
      exact da_nil (k_len (ss := [.d (.str "gaps"), .d (.str z), .d (.int n), .d (.int o)]) rfl (de_int (k_eqI ⟨_, rfl, by simp, rfl⟩)))
    refine db_cons (ds_ret (de_tupD (da_cons ?_)))
    walk_at "nm"
    refine da_cons (de_callC (c3.up (by decide)) hr (by rfl) (da_cons (de_ix ?_)))
    walk_at "nm"
    refine de_int ⟨[.d (.str "gaps"), .d (.str z), .d (.int n), .d (.int o)], 1, .d (.str z), rfl, rfl, rfl, da_nil ⟨.str z, rfl, short_of_okName zn, ?_⟩⟩
    rw [show writerOf (.str z) = .str z by simp only [writerOf, zn, if_true]]
    refine da_cons (de_callC (c4.up (by decide)) hr (by rfl) (da_cons (de_ix ?_)))
    walk_at "nm"
    refine de_int ⟨[.d (.str "gaps"), .d (.str z), .d (.int n), .d (.int o)], 2, .d (.int n), rfl, rfl, rfl, da_nil ⟨.int n, rfl, ?_⟩⟩
    refine da_cons (de_callC (c4.up (by decide)) hr (by rfl) (da_cons (de_ix ?_)))
    walk_at "nm"
    exact de_int ⟨[.d (.str "gaps"), .d (.str z), .d (.int n), .d (.int o)], 3, .d (.int o), rfl, rfl, rfl, da_nil ⟨.int o, rfl, da_nil ⟨[.str "gaps", .str z, .int n, .int o], rfl, (by show 4 ≤ sizeLine; decide), q⟩⟩⟩

local macro_rules | `(tactic| walk_at "nm") => `(tactic| first | ((with_reducible refine de_name (x := "line_counts") (i := 0) (s := ?s) ?hN ?hv ?ht ?q ?hd ?hcd); (case hN => rfl); (case hv => walk_at "vis"); (case ht => rfl); (case hd => decide); (case hcd => decide)) | ((with_reducible refine de_name (x := "line_set") (i := 1) (s := ?s) ?hN ?hv ?ht ?q ?hd ?hcd); (case hN => rfl); (case hv => walk_at "vis"); (case ht => rfl); (case hd => decide); (case hcd => decide)) | ((with_reducible refine de_name (x := "value") (i := 2) (s := ?s) ?hN ?hv ?ht ?q ?hd ?hcd); (case hN => rfl); (case hv => walk_at "vis"); (case ht => rfl); (case hd => decide); (case hcd => decide)) | ((with_reducible refine de_name (x := "counts") (i := 3) (s := ?s) ?hN ?hv ?ht ?q ?hd ?hcd); (case hN => rfl); (case hv => walk_at "vis"); (case ht => rfl); (case hd => decide); (case hcd => decide)) | ((with_reducible refine de_name (x := "lines") (i := 4) (s := ?s) ?hN ?hv ?ht ?q ?hd ?hcd); (case hN => rfl); (case hv => walk_at "vis"); (case ht => rfl); (case hd => decide); (case hcd => decide)))


def R_isso : Rr := fun L ss M Q => ∃ (cs : Cnt) (ls : LSet) (d : PyData), NoDK L ∧ ss = [.d (eCnt cs), .d (eLS ls), .d d] ∧ okCnt cs ∧ okLS cs ls ∧ (∀ cs', Sorted cs cs' → d ∈ obAll cs' (neLS ls)) ∧ Q (.d (.bool true)) M
theorem ok_is_survival_obstruction (F : FunAt K mg "is_survival_obstruction" s_is_survival_obstruction ["line_counts", "line_set", "value"]) (c1 : Cal P w K mg base "checked_line_counts" 4 ["value"] R_plain_line_counts) (c2 : Cal P w K mg base "checked_line_set" 6 ["line_counts", "value"] R_plain_ls) (c3 : Cal P w K mg base "plain_obstruction" 5 ["counts", "value"] R_plain_ob) (c4 : Cal P w K mg base "survival_obstructions" 4 ["counts", "lines"] R_sob) : Cal P w K mg base "is_survival_obstruction" 7 ["line_counts", "line_set", "value"] R_isso := by
  refine cal_of F sc_is_survival_obstruction (fun _ ss _ _ ⟨cs, ls, d, _, e, _⟩ => by rw [e]; rfl) (fun f cdv A outer s H E L ss M Q hr h => ?_)
  obtain ⟨cs, ls, d, hL, rfl, okc, okl, hd, q⟩ := h
  refine db_cons (ds_set (i := 3) sc_is_survival_obstruction.nd rfl (.inl rfl) (de_callC (c1.up (by decide)) hr (by rfl) ?_))
  walk_at "go"
  refine da_nil ⟨cs, hL, rfl, okc, fun cs' hs' => ?_⟩
  have okc' := okCnt_permS hs'.1 okc
  have okl' := okLS_perm hs'.1 okc.2.2.1 okl
  obtain ⟨okn, nen⟩ := okNE okl'
  have hd := hd cs' hs'
  have hall := obAll_ok okc' okn nen
  refine db_cons (ds_set (i := 4) sc_is_survival_obstruction.nd rfl (.inl rfl) (de_callC c2 hr (by rfl) ?_))
  walk_at "go"
  refine da_nil ⟨cs', ls, hL, rfl, okl', fun p1 M1 sub1 hp1 m1 => ?_⟩
  refine db_frzD (i := 4) (kd := kdL (neLS ls)) rfl m1 ?_
  have sub2 : Sub M (delC M1 p1) := fun a c h => by
    rw [delC_ne (neC h hp1)]
    exact sub1 _ _ h
  generalize delC M1 p1 = M2 at sub2
  refine db_cons (ds_ret (de_gc (de_cmp (op_memL hr.units) (de_callC (c3.up (by decide)) hr (by rfl) ?_) (by with_unfolding_all rfl))))
  walk_at "go"
  refine da_nil ⟨cs', d, rfl, hall d hd, de_callC (c4.up (by decide)) hr (by rfl) ?_⟩
  walk_at "go"
  refine da_nil ⟨cs', neLS ls, hL, rfl, okc', okn, nen, fun p3 M3 sub3 hp3 m3 => ?_⟩
  have cd := canOb_of (hall d hd)
  refine k_memL (neg := false) (.d d) (IsD.cell m3) cd.1 ?_ (Nat.le_trans cd.2 (by decide)) ⟨M, Sub.trans sub2 sub3, ?_⟩
  · have := canLayAll_map id (obAll cs' (neLS ls)) fun x hx => (canOb_of (hall x hx)).1
    rw [List.map_id] at this
    exact this
  · have : ((obAll cs' (neLS ls)).any fun e => PyData.eqv e d) = true := List.any_eq_true.mpr ⟨d, hd, eqv_self_ob (hall d hd)⟩
    rw [this]
    exact q

end

end Pg

namespace Pg
open PySem L2 Y PyProof.Rows

local macro_rules | `(tactic| walk_at "vis") => `(tactic| first | exact Or.inl rfl | exact Or.inr (Or.inl rfl) | exact Or.inr (Or.inr rfl))
local macro_rules | `(tactic| walk_at "e1") => `(tactic| first | walk_at "nm" | refine de_int ?_ | refine de_add ?_ | refine de_sub ?_ | refine de_str ?_ | refine de_non ?_ | refine de_bl ?_)
local macro_rules | `(tactic| walk_at "go") => `(tactic| repeat (first | ((with_reducible show DE _ _ _ _ _ _); walk_at "e1") | ((with_reducible show DA _ _ _ _ _ _); refine da_cons ?_) | refine ⟨_, _, rfl, rfl, ?_⟩))


/-- a source of draws -/
def Src (M : Cs) (a : Addr) (n : Nat) : Prop := ∃ big mix cnt : Int, M a = some (.l [dI big, dI mix, dI cnt]) ∧ 0 ≤ mix ∧ mix ≤ 10 ^ 40 ∧ 0 ≤ cnt ∧ cnt ≤ (n : Int)
theorem Src.sub {M M' : Cs} {a : Addr} {n : Nat} (h : Src M a n) (s : Sub M M') : Src M' a n := by
  obtain ⟨x, y, z, h1, h2⟩ := h
  exact ⟨x, y, z, s _ _ h1, h2⟩
theorem Src.mono {M : Cs} {a : Addr} {m n : Nat} (h : Src M a m) (l : m ≤ n) : Src M a n := by
  obtain ⟨x, y, z, h1, h2, h3, h4, h5⟩ := h
  exact ⟨x, y, z, h1, h2, h3, h4, by omega⟩
theorem Src.upd {M : Cs} {a p : Addr} {n : Nat} {c : Cell} (h : Src M a n) (ne : p ≠ a) : Src (updC M p c) a n := by
  obtain ⟨x, y, z, h1, h2⟩ := h
  exact ⟨x, y, z, by rw [updC_ne ne.symm]; exact h1, h2⟩
theorem Src.del {M : Cs} {a p : Addr} {n : Nat} (h : Src M a n) (ne : p ≠ a) : Src (delC M p) a n := by
  obtain ⟨x, y, z, h1, h2⟩ := h
  exact ⟨x, y, z, by rw [delC_ne ne.symm]; exact h1, h2⟩
theorem Src.ne {M : Cs} {a p : Addr} {n : Nat} (h : Src M a n) (hp : M p = none) : p ≠ a := by
  obtain ⟨x, y, z, h1, h2⟩ := h
  intro e
  rw [e, h1] at hp
  cases hp
theorem Src.keep {M : Cs} {a : Addr} {n : Nat} {ps : List Addr} (h : Src M a n) (hm : a ∈ ps) : Src (Y.keep ps M) a n := by
  obtain ⟨x, y, z, h1, h2⟩ := h
  exact ⟨x, y, z, by rw [keep_in hm]; exact h1, h2⟩
theorem Src.nd {M : Cs} {a : Addr} {n : Nat} (h : Src M a n) : ∃ c, M a = some c ∧ ndC c = true := by
  obtain ⟨x, y, z, h1, h2⟩ := h
  exact ⟨_, h1, by simp [ndC, ndSs, ndS, dI, ndD]⟩
/-- only the cell a may be another -/
def Fr1 (a : Addr) (M M' : Cs) : Prop := ∀ b, b ≠ a → M' b = M b
theorem Fr1.refl {a : Addr} (M : Cs) : Fr1 a M M := fun _ _ => rfl
theorem Fr1.trans {a : Addr} {M M1 M2 : Cs} (h : Fr1 a M M1) (k : Fr1 a M1 M2) : Fr1 a M M2 := fun b hb => (k b hb).trans (h b hb)
/-- cells may be new, and the cell a another -/
def Gx (a : Addr) (M M' : Cs) : Prop := ∀ b c, b ≠ a → M b = some c → M' b = some c
theorem Gx.refl {a : Addr} (M : Cs) : Gx a M M := fun _ _ _ h => h
theorem Gx.trans {a : Addr} {M M1 M2 : Cs} (h : Gx a M M1) (k : Gx a M1 M2) : Gx a M M2 := fun b c hb e => k b c hb (h b c hb e)
theorem Fr1.gx {a : Addr} {M M' : Cs} (h : Fr1 a M M') : Gx a M M' := fun b c hb e => by rw [h b hb]; exact e
theorem Sub.gx {a : Addr} {M M' : Cs} (h : Sub M M') : Gx a M M' := fun b c _ e => h b c e
theorem Gx.put {a p : Addr} {M M' : Cs} {c : Cell} (h : Gx a M M') (hp : M p = none) : Gx a M (updC M' p c) := fun b d hb e => by
  rw [updC_ne (neC e hp)]
  exact h b d hb e
theorem Gx.none {a p : Addr} {M M' : Cs} (h : Gx a M M') (hp : M' p = none) (ne : p ≠ a) : M p = none := by
  cases e : M p with
  | none => rfl
  | some c =>
    rw [h p c ne e] at hp
    cases hp

theorem eraseIdx_mapS {α β : Type} (f : α → β) : ∀ (l : List α) (j : Nat), (l.map f).eraseIdx j = (l.eraseIdx j).map f
  | [], _ => rfl
  | _ :: _, 0 => rfl
  | a :: l, j + 1 => by
    show f a :: (l.map f).eraseIdx j = f a :: (l.eraseIdx j).map f
    rw [eraseIdx_mapS f l j]
theorem erase_perm {α : Type} : ∀ (l : List α) (j : Nat) (h : j < l.length), (l[j] :: l.eraseIdx j).Perm l
  | [], _, h => by simp at h
  | _ :: _, 0, _ => List.Perm.refl _
  | a :: l, j + 1, h => by
    have h' : j < l.length := by simpa using h
    exact (List.Perm.swap a l[j] (l.eraseIdx j)).trans ((erase_perm l j h').cons a)


theorem powW {i j : Int} {k : Nat} (h : i.natAbs < 2 ^ k) (hj : 0 ≤ j) (hk : (k : Int) * j ≤ 2 ^ 27) : CPowW i j :=
  ⟨hj, Int.le_trans (Int.mul_le_mul_of_nonneg_right (Int.ofNat_le.mpr (intBits_le h)) hj) hk⟩
def pool14 : List Str := ["a", "b", "c", "ab", "ba", "abc", "from", "to", "last", "abcdefgh", "abcdefgi", "zzzzzzzz", "k", "w"]
theorem pool14_nd : pool14.Nodup := by decide +kernel
theorem pool14_ok : ∀ y ∈ pool14, okName y = true := by decide +kernel
section
variable {P : Program} {w : World} {K : PySem.W.Frag} {mg : Str → Option Value} {base : Heap}

local macro_rules | `(tactic| walk_at "nm") => `(tactic| first | ((with_reducible refine de_name (x := "script") (i := 0) (s := ?s) ?hN ?hv ?ht ?q ?hd ?hcd); (case hN => rfl); (case hv => walk_at "vis"); (case ht => rfl); (case hd => decide); (case hcd => decide)) | ((with_reducible refine de_name (x := "k") (i := 1) (s := ?s) ?hN ?hv ?ht ?q ?hd ?hcd); (case hN => rfl); (case hv => walk_at "vis"); (case ht => rfl); (case hd => decide); (case hcd => decide)) | ((with_reducible refine de_name (x := "cell") (i := 2) (s := ?s) ?hN ?hv ?ht ?q ?hd ?hcd); (case hN => rfl); (case hv => walk_at "vis"); (case ht => rfl); (case hd => decide); (case hcd => decide)))


def R_source : Rr := fun _ ss M Q => ∃ (s : Sl) (ns : List Int) (k : Int), ss = [s, dI k] ∧ seqOf M s = some (ns.map dI) ∧ 0 ≤ k ∧ k ≤ 100 ∧ ∀ p M', M p = none → Sub M M' → Src M' p 0 → Q (.c p) M'
theorem ok_law_source (F : FunAt K mg "_law_source" s__law_source ["script", "k"]) (b1 : mg "len" = none) (b2 : mg "max" = none) : Cal P w K mg base "_law_source" 1 ["script", "k"] R_source := by
  refine cal_of F sc__law_source (fun _ ss _ _ ⟨s, ns, k, h, _⟩ => by rw [h]; rfl) (fun f cdv A outer s H E L ss M Q hr h => ?_)
  obtain ⟨x, ns, k, rfl, hs, k0, k1, fin⟩ := h
  refine db_consJ (fun τ' M' => ∃ v : Int, τ' = [some x, some (dI k), some (dI v)] ∧ M' = M) (ds_set (i := 2) sc__law_source.nd rfl (.inl rfl) (de_if (dt_cmp op_lt ?_ (by with_unfolding_all rfl)))) ?_
  · walk_at "nm"
    refine de_callB call_len_seq (by rfl) b1 bt_len (da_cons ?_)
    walk_at "nm"
    refine da_nil (k_len hs (k_bool ⟨_, rfl, fun h => de_ix ?_, fun _ => de_int ⟨0, rfl, rfl⟩⟩))
    walk_at "nm"
    walk_at "nm"
    have h := of_decide_eq_true h
    rw [List.length_map] at h
    have hj : k.toNat < ns.length := by omega
    exact ⟨ns.map dI, ((k.toNat : Nat) : Int), dI ns[k.toNat], hs, (by rw [Int.toNat_of_nonneg k0]; rfl), atI_nat (by rw [List.getElem?_map, List.getElem?_eq_getElem hj]; rfl), ns[k.toNat], rfl, rfl⟩
  rintro τ' M' ⟨v, rfl, rfl⟩
  refine db_cons (ds_ret (de_lstC (da_cons (de_callB (call_max2 rfl) (by rfl) b2 bt_max (da_cons (de_int (da_cons (de_sub ?_))))))))
  walk_at "nm"
  refine de_pow (de_int (de_int ⟨_, _, rfl, rfl, powW (k := 4) (by decide) (by decide) (by decide), _, _, rfl, rfl, da_nil (k_max2 (da_cons (de_add (de_mul (de_add (de_mod ?_))))))⟩))
  walk_at "nm"
  refine de_add (de_pow (de_int (de_int ⟨_, _, rfl, rfl, powW (k := 4) (by decide) (by decide) (by decide), de_int ⟨_, _, rfl, rfl, _, _, rfl, rfl, by decide, de_int ⟨_, _, rfl, rfl, de_int ⟨_, _, rfl, rfl, .inr ⟨by decide, by decide⟩, ?_⟩⟩⟩⟩)))
  have hm : 0 ≤ v % (10 ^ (34 : Int).toNat + 193) ∧ v % (10 ^ (34 : Int).toNat + 193) < 10 ^ 37 := ⟨Int.emod_nonneg _ (by decide), Int.lt_trans (Int.emod_lt_of_pos _ (by decide)) (by decide)⟩
  generalize v % (10 ^ (34 : Int).toNat + 193) = u at hm
  walk_at "nm"
  refine ⟨_, _, rfl, rfl, da_cons (de_int (da_nil ⟨(by show 3 ≤ sizeLine; decide), fun p hp => fin p _ hp ((Sub.refl _).new hp) ⟨_, (u + 1) * 211 + k, 0, updC_same, by omega, by omega, by decide, by decide⟩⟩))⟩

local macro_rules | `(tactic| walk_at "nm") => `(tactic| first | ((with_reducible refine de_name (x := "source") (i := 0) (s := ?s) ?hN ?hv ?ht ?q ?hd ?hcd); (case hN => rfl); (case hv => walk_at "vis"); (case ht => rfl); (case hd => decide); (case hcd => decide)) | ((with_reducible refine de_name (x := "limit") (i := 1) (s := ?s) ?hN ?hv ?ht ?q ?hd ?hcd); (case hN => rfl); (case hv => walk_at "vis"); (case ht => rfl); (case hd => decide); (case hcd => decide)) | ((with_reducible refine de_name (x := "found") (i := 2) (s := ?s) ?hN ?hv ?ht ?q ?hd ?hcd); (case hN => rfl); (case hv => walk_at "vis"); (case ht => rfl); (case hd => decide); (case hcd => decide)) | ((with_reducible refine de_name (x := "mixed") (i := 3) (s := ?s) ?hN ?hv ?ht ?q ?hd ?hcd); (case hN => rfl); (case hv => walk_at "vis"); (case ht => rfl); (case hd => decide); (case hcd => decide)))


def R_draw : Rr := fun _ ss M Q => ∃ (a : Addr) (n : Nat) (lim : Int), ss = [.c a, dI lim] ∧ Src M a n ∧ n < 1000000000 ∧ 0 < lim ∧ lim ≤ 10 ^ 40 ∧ ∀ M' r, Fr1 a M M' → Src M' a (n + 1) → 0 ≤ r → r < lim → Q (dI r) M'
theorem ok_law_draw (F : FunAt K mg "_law_draw" s__law_draw ["source", "limit"]) : Cal P w K mg base "_law_draw" 1 ["source", "limit"] R_draw := by
  refine cal_of F sc__law_draw (fun _ ss _ _ ⟨a, n, lim, h, _⟩ => by rw [h]; rfl) (fun f cdv A outer s H E L ss M Q hr h => ?_)
  obtain ⟨a, n, lim, rfl, ⟨big, mix, cnt, ma, m0, m1, c0, c1⟩, hn, hm0, hm1, fin⟩ := h
  have sa : seqOf M (.c a) = some [dI big, dI mix, dI cnt] := by simp only [seqOf, ma]
  refine db_cons (ds_if (dt_cmp op_gt (de_ix ?_) (nomark _)))
  walk_at "nm"
  refine de_int ⟨_, 0, dI big, sa, rfl, rfl, de_int (k_bool ⟨_, rfl, fun h1 => ?_, fun h1 => db_nil ?_⟩)⟩
  · refine db_cons (ds_set (i := 2) sc__law_draw.nd rfl (.inl rfl) (de_mod (de_ix ?_)))
    walk_at "nm"
    refine de_int ⟨_, 0, dI big, sa, rfl, rfl, ?_⟩
    walk_at "nm"
    refine ⟨_, _, rfl, rfl, hm0, ?_⟩
    refine db_cons (ds_asg (de_div (de_ix ?_)))
    walk_at "nm"
    refine de_int ⟨_, 0, dI big, sa, rfl, rfl, ?_⟩
    walk_at "nm"
    refine ⟨_, _, rfl, rfl, wide_div (b := 200) hm0 (by omega) (by decide) (by decide), dg_subL ?_⟩
    walk_at "nm"
    refine de_int ⟨a, [dI big, dI mix, dI cnt], 0, 0, rfl, ma, rfl, rfl, ?_⟩
    refine db_cons (ds_ret ?_)
    walk_at "nm"
    refine fin _ _ (fun b hb => by rw [updC_ne hb]) ⟨big / lim, mix, cnt, by rw [updC_same]; rfl, m0, m1, c0, by omega⟩ (Int.emod_nonneg _ (by omega)) (Int.emod_lt_of_pos _ hm0)
  refine db_cons (ds_asg (de_add (de_ix ?_)))
  walk_at "nm"
  refine de_int ⟨_, 2, dI cnt, sa, rfl, rfl, de_int ⟨_, _, rfl, rfl, dg_subL ?_⟩⟩
  walk_at "nm"
  refine de_int ⟨a, [dI big, dI mix, dI cnt], 2, 2, rfl, ma, rfl, rfl, ?_⟩
  have ma2 : updC M a (.l ([dI big, dI mix, dI cnt].set 2 (.d (.int (cnt + 1))))) a = some (.l [dI big, dI mix, dI (cnt + 1)]) := updC_same
  have fr2 : Fr1 a M (updC M a (.l ([dI big, dI mix, dI cnt].set 2 (.d (.int (cnt + 1)))))) := fun b hb => by rw [updC_ne hb]
  generalize updC M a (.l ([dI big, dI mix, dI cnt].set 2 (.d (.int (cnt + 1))))) = M2 at ma2 fr2
  have sa2 : seqOf M2 (.c a) = some [dI big, dI mix, dI (cnt + 1)] := by simp only [seqOf, ma2]
  refine db_cons (ds_set (i := 3) sc__law_draw.nd rfl (.inl rfl) (de_mod (de_pow (de_add (de_ix ?_)))))
  walk_at "nm"
  refine de_int ⟨_, 1, dI mix, sa2, rfl, rfl, de_mul (de_int (de_ix ?_))⟩
  walk_at "nm"
  refine de_int ⟨_, 2, dI (cnt + 1), sa2, rfl, rfl, _, _, rfl, rfl, .inl ⟨by decide, by decide⟩, _, _, rfl, rfl, de_int ⟨_, _, rfl, rfl, powW (k := 160) ?_ (by decide) (by decide), ?_⟩⟩
  · omega
  generalize (mix + 49979693 * (cnt + 1)) ^ (3 : Int).toNat = X1
  refine de_add (de_pow (de_int (de_int ⟨_, _, rfl, rfl, powW (k := 4) (by decide) (by decide) (by decide), de_int ⟨_, _, rfl, rfl, _, _, rfl, rfl, by decide, ?_⟩⟩)))
  have hs1 : 0 ≤ X1 % (10 ^ (36 : Int).toNat + 67) ∧ X1 % (10 ^ (36 : Int).toNat + 67) < 10 ^ 42 := ⟨Int.emod_nonneg _ (by decide), Int.lt_trans (Int.emod_lt_of_pos _ (by decide)) (by decide)⟩
  generalize X1 % (10 ^ (36 : Int).toNat + 67) = Y1 at hs1
  refine db_cons (ds_set (i := 3) sc__law_draw.nd rfl (.inl rfl) (de_mod (de_pow (de_add ?_))))
  walk_at "nm"
  refine de_mul (de_int (de_ix ?_))
  walk_at "nm"
  refine de_int ⟨_, 2, dI (cnt + 1), sa2, rfl, rfl, _, _, rfl, rfl, .inl ⟨by decide, by decide⟩, _, _, rfl, rfl, de_int ⟨_, _, rfl, rfl, powW (k := 160) ?_ (by decide) (by decide), ?_⟩⟩
  · omega
  generalize (Y1 + 86028157 * (cnt + 1)) ^ (3 : Int).toNat = X2
  refine de_add (de_pow (de_int (de_int ⟨_, _, rfl, rfl, powW (k := 4) (by decide) (by decide) (by decide), de_int ⟨_, _, rfl, rfl, _, _, rfl, rfl, by decide, ?_⟩⟩)))
  generalize X2 % (10 ^ (38 : Int).toNat + 133) = Y2
  refine db_cons (ds_ret (de_mod (de_div ?_)))
  walk_at "nm"
  refine de_int ⟨_, _, rfl, rfl, wide_div (b := 30) (by decide) (by decide) (by decide) (by decide), ?_⟩
  walk_at "nm"
  refine ⟨_, _, rfl, rfl, hm0, fin _ _ fr2 ⟨big, mix, cnt + 1, ma2, m0, m1, by omega, by omega⟩ (Int.emod_nonneg _ (by omega)) (Int.emod_lt_of_pos _ hm0)⟩

local macro_rules | `(tactic| walk_at "nm") => `(tactic| first | ((with_reducible refine de_name (x := "source") (i := 0) (s := ?s) ?hN ?hv ?ht ?q ?hd ?hcd); (case hN => rfl); (case hv => walk_at "vis"); (case ht => rfl); (case hd => decide); (case hcd => decide)) | ((with_reducible refine de_name (x := "number") (i := 1) (s := ?s) ?hN ?hv ?ht ?q ?hd ?hcd); (case hN => rfl); (case hv => walk_at "vis"); (case ht => rfl); (case hd => decide); (case hcd => decide)) | ((with_reducible refine de_name (x := "left") (i := 2) (s := ?s) ?hN ?hv ?ht ?q ?hd ?hcd); (case hN => rfl); (case hv => walk_at "vis"); (case ht => rfl); (case hd => decide); (case hcd => decide)) | ((with_reducible refine de_name (x := "turn") (i := 3) (s := ?s) ?hN ?hv ?ht ?q ?hd ?hcd); (case hN => rfl); (case hv => walk_at "vis"); (case ht => rfl); (case hd => decide); (case hcd => decide)))


def R_writers : Rr := fun _ ss M Q => ∃ (a : Addr) (n : Nat) (k : Int), ss = [.c a, dI k] ∧ Src M a n ∧ n < 900000000 ∧ 0 ≤ k ∧ k ≤ 14 ∧ ∀ (zs : List Str) (p : Addr) (M' : Cs), Gx a M M' → p ≠ a → M p = none → M' p = some (.l (zs.map dS)) → Src M' a (n + 20) → zs.length = k.toNat → zs.Nodup → (∀ z ∈ zs, z ∈ pool14) → Q (.c p) M'
theorem ok_law_writers (F : FunAt K mg "_law_writers" s__law_writers ["source", "number"]) (c1 : Cal P w K mg base "_law_draw" 1 ["source", "limit"] R_draw) (b1 : mg "len" = none) (b2 : mg "range" = none) : Cal P w K mg base "_law_writers" 2 ["source", "number"] R_writers := by
  refine cal_of F sc__law_writers (fun _ ss _ _ ⟨a, n, k, e, _⟩ => by rw [e]; rfl) (fun f cdv A outer s H E L ss M Q hr h => ?_)
  obtain ⟨a, n, k, rfl, src, hn, k0, k14, fin⟩ := h
  refine db_cons ?_
  refine ds_set (i := 2) (hN := ?hN) ?a ?b ?c
  case hN => exact sc__law_writers.nd
  case a => rfl
  case b => exact .inr rfl
  refine de_lstC ?_
  walk_at "go"
  refine da_nil ?_
  refine ⟨(by show 14 ≤ sizeLine; decide), ?_⟩
  intro pl hpl
  change DB _ _ _ _ (updC M pl (.l (pool14.map dS))) _
  have la := src.ne hpl
  have m1l : updC M pl (.l (pool14.map dS)) pl = some (.l (pool14.map dS)) := updC_same
  have src1 : Src (updC M pl (.l (pool14.map dS))) a n := src.upd la
  have gx1 : Gx a M (updC M pl (.l (pool14.map dS))) := (Gx.refl M).put hpl
  generalize updC M pl (.l (pool14.map dS)) = M1 at m1l src1 gx1
  refine db_cons (ds_ret (de_lc0 (own := [("turn", 3)]) (g := gName 3) rfl sc__law_writers.nd (blkOk_by (own := [("turn", 3)]) (N := ["source", "number", "left", "turn"]) (sc := defScope s__law_writers) (by decide +kernel)) (fun _ _ _ _ _ => pg_name (i := 3) sc__law_writers.nd rfl (.inl rfl)) (di_range1 (by rfl) b2 ?_)))
  walk_at "nm"
  refine ⟨k, rfl, by omega, by omega, fun D hD => ?_⟩
  have nlD : pl ≠ D := neC m1l hD
  have Da := src1.ne hD
  have hDM : M D = none := gx1.none hD Da
  refine ⟨fun i M' => ∃ ys zs : List Str, Gx a M M' ∧ M' pl = some (.l (ys.map dS)) ∧ M' D = some (.l (zs.map dS)) ∧ Src M' a (n + i) ∧ zs.length = i ∧ ys.length + i = 14 ∧ (ys ++ zs).Nodup ∧ ∀ y ∈ ys ++ zs, y ∈ pool14, ⟨pool14, [], gx1.put hDM, by rw [updC_ne nlD]; exact m1l, updC_same, src1.upd Da, rfl, rfl, by rw [List.append_nil]; exact pool14_nd, fun y hy => by rw [List.append_nil] at hy; exact hy⟩, fun _ _ _ => trivial, ?_, ?_⟩
  · rintro i y M' hi rfl ⟨ys, zs, gx, ml, mD, sr, hz, hy, nd, mem⟩
    have hik : i < 14 := by omega
    refine wgw_name (by simp) ?_
    intro s0 H0 C cl fp
    refine de_mL PySem.F.slot_list_pop PySem.F.type_list_pop mt_popAt ?_
    walk_at "nm"
    refine ⟨⟨rfl, _, by simp only [seqOf, ml]; rfl⟩, da_cons (de_callC c1 hr (by rfl) (da_cons ?_))⟩
    walk_at "nm"
    refine da_cons (de_callB call_len_seq (by rfl) b1 bt_len (da_cons ?_))
    walk_at "nm"
    refine da_nil (k_len (by simp only [seqOf, ml]; rfl) (da_nil ⟨a, _, _, rfl, sr, by omega, by rw [List.length_map]; omega, by rw [List.length_map]; omega, fun M3 r3 fr3 sr3 h30 h31 => ?_⟩))
    rw [List.length_map] at h31
    have hj : r3.toNat < ys.length := by omega
    have er3 : r3 = (r3.toNat : Int) := by omega
    have m3l : M3 pl = some (.l (ys.map dS)) := by rw [fr3 pl la]; exact ml
    have m3D : M3 D = some (.l (zs.map dS)) := by rw [fr3 D Da]; exact mD
    generalize r3.toNat = j at hj er3
    refine da_nil (k_popAt (j := j) (z := dS ys[j]) m3l (by omega) (by omega) ?_ (by rw [List.getElem?_map, List.getElem?_eq_getElem hj]; rfl) ?_)
    · rw [List.length_map, er3]
      unfold seqIndex?
      simp
      omega
    have e1 : (ys.map dS).eraseIdx j = (ys.eraseIdx j).map dS := eraseIdx_mapS _ _ _
    rw [e1]
    have key : (ys.eraseIdx j ++ (zs ++ [ys[j]])).Perm (ys ++ zs) := by
      rw [← List.append_assoc]
      refine (List.perm_append_comm (l₁ := ys.eraseIdx j ++ zs) (l₂ := [ys[j]])).trans ?_
      show (ys[j] :: (ys.eraseIdx j ++ zs)).Perm _
      rw [← List.cons_append]
      exact (erase_perm ys j hj).append_right _
    refine ⟨_, by rw [updC_ne nlD.symm]; exact m3D, ?_, ys.eraseIdx j, zs ++ [ys[j]], ((gx.trans fr3.gx).put hpl).put hDM, by rw [updC_ne nlD]; exact updC_same, ?_, (sr3.upd la).upd Da, ?_, ?_, key.nodup_iff.mpr nd, fun y hy => mem y (key.mem_iff.mp hy)⟩
    · rw [List.length_map, sizeLine_eq]
      omega
    · rw [updC_same, List.map_append]
      rfl
    · rw [List.length_append, hz]
      rfl
    · rw [List.length_eraseIdx, if_pos hj]
      omega
  · rintro M' ⟨ys, zs, gx, ml, mD, sr, hz, hy, nd, mem⟩
    exact fin zs D M' gx Da hDM mD (sr.mono (by omega)) hz (List.nodup_append.mp nd).2.1 fun z hz => mem z (List.mem_append_right _ hz)

local macro_rules | `(tactic| walk_at "nm") => `(tactic| first | ((with_reducible refine de_name (x := "source") (i := 0) (s := ?s) ?hN ?hv ?ht ?q ?hd ?hcd); (case hN => rfl); (case hv => walk_at "vis"); (case ht => rfl); (case hd => decide); (case hcd => decide)) | ((with_reducible refine de_name (x := "most_writers") (i := 1) (s := ?s) ?hN ?hv ?ht ?q ?hd ?hcd); (case hN => rfl); (case hv => walk_at "vis"); (case ht => rfl); (case hd => decide); (case hcd => decide)) | ((with_reducible refine de_name (x := "most_lines") (i := 2) (s := ?s) ?hN ?hv ?ht ?q ?hd ?hcd); (case hN => rfl); (case hv => walk_at "vis"); (case ht => rfl); (case hd => decide); (case hcd => decide)) | ((with_reducible refine de_name (x := "names") (i := 3) (s := ?s) ?hN ?hv ?ht ?q ?hd ?hcd); (case hN => rfl); (case hv => walk_at "vis"); (case ht => rfl); (case hd => decide); (case hcd => decide)) | ((with_reducible refine de_name (x := "writer") (i := 4) (s := ?s) ?hN ?hv ?ht ?q ?hd ?hcd); (case hN => rfl); (case hv => walk_at "vis"); (case ht => rfl); (case hd => decide); (case hcd => decide)))


theorem merge_cnt {t : Cnt} (nd : (t.map (·.1)).Nodup) : mergeS [] (slK (kdC t)) = slK (kdC t) := by
  have := mergeS_nodup (slK (kdC t)) [] (by
    rw [List.nil_append, keys_C]
    exact List.Pairwise.map _ (fun a b h e => h (Sum.inr.inj e)) nd)
  rw [this, List.nil_append]
def R_lcounts : Rr := fun _ ss M Q => ∃ (a : Addr) (n : Nat) (mw ml : Int), ss = [.c a, dI mw, dI ml] ∧ Src M a n ∧ n < 800000000 ∧ 0 < mw ∧ mw ≤ 12 ∧ 0 ≤ ml ∧ ml ≤ 10 ^ 30 ∧ ∀ (rows : Cnt) (p : Addr) (M' : Cs), Gx a M M' → p ≠ a → M p = none → M' p = some (.k (slK (kdC rows))) → Src M' a (n + 40) → okCnt rows → Q (.c p) M'
theorem ok_law_line_counts (F : FunAt K mg "_law_line_counts" s__law_line_counts ["source", "most_writers", "most_lines"]) (c1 : Cal P w K mg base "_law_draw" 1 ["source", "limit"] R_draw) (c2 : Cal P w K mg base "_law_writers" 2 ["source", "number"] R_writers) (b1 : mg "dict" = none) : Cal P w K mg base "_law_line_counts" 3 ["source", "most_writers", "most_lines"] R_lcounts := by
  refine cal_of F sc__law_line_counts (fun _ ss _ _ ⟨a, n, mw, ml, e, _⟩ => by rw [e]; rfl) (fun f cdv A outer s H E L ss M Q hr h => ?_)
  obtain ⟨a, n, mw, ml, rfl, src, hn, w0, w12, l0, l30, fin⟩ := h
  refine db_cons (ds_set (i := 3) sc__law_line_counts.nd rfl (.inl rfl) (de_callC c2 hr (by rfl) (da_cons ?_)))
  walk_at "nm"
  refine da_cons (de_add (de_int (de_callC (c1.up (by decide)) hr (by rfl) (da_cons ?_))))
  walk_at "nm"
  refine da_cons ?_
  walk_at "nm"
  refine da_nil ⟨a, n, mw, rfl, src, by omega, w0, by omega, fun M1 r1 fr1 src1 h10 h11 => ⟨_, _, rfl, rfl, da_nil ⟨a, n + 1, 1 + r1, rfl, src1, by omega, by omega, by omega, fun zs p2 M2 gx2 p2a hp2 m2 src2 hzl znd zmem => ?_⟩⟩⟩
  have gx02 : Gx a M M2 := fr1.gx.trans gx2
  have hp2M : M p2 = none := by
    have := fr1 p2 p2a
    rw [← this]
    exact hp2
  have hz12 : zs.length ≤ 12 := by omega
  have hz1 : 1 ≤ zs.length := by omega
  refine db_cons (ds_ret (de_callT (call_dictP rfl) (by rfl) b1 bt_dict (da_cons (de_lc0 (own := [("writer", 4)]) (g := gName 4) rfl sc__law_line_counts.nd (blkOk_by (own := [("writer", 4)]) (N := ["source", "most_writers", "most_lines", "names", "writer"]) (sc := defScope s__law_line_counts) (by decide +kernel)) (fun _ _ _ _ _ => pg_name (i := 4) sc__law_line_counts.nd rfl (.inl rfl)) (di_seq ?_)))))
  walk_at "nm"
  refine ⟨zs.map dS, by simp only [seqOf, m2], fun D hD => ?_⟩
  have n2D : p2 ≠ D := neC m2 hD
  have Da := src2.ne hD
  have hDM : M D = none := gx02.none hD Da
  refine ⟨fun i M' => ∃ vs : Cnt, Gx a M M' ∧ M' p2 = some (.l (zs.map dS)) ∧ M' D = some (.l ((kdC vs).map Y.prD)) ∧ Src M' a (n + 21 + i) ∧ vs.map (·.1) = zs.take i ∧ ∀ v ∈ vs, 0 ≤ v.2 ∧ v.2 ≤ 10 ^ 30, ⟨[], gx02.put hDM, by rw [updC_ne n2D]; exact m2, updC_same, (src2.upd Da).mono (by omega), rfl, fun _ h => nomatch h⟩, ?_, ?_, ?_⟩
  · rintro i M' ⟨vs, _, mz, _⟩
    simp only [seqOf, mz]
  · rintro i y M' hi hy ⟨vs, gx, mz, mD, sr, hk, hv⟩
    rw [List.length_map] at hi
    have hy' : y = dS zs[i] := by
      rw [List.getElem?_map, List.getElem?_eq_getElem hi] at hy
      exact (Option.some.inj hy).symm
    subst hy'
    have hvl : vs.length = i := by
      have := congrArg List.length hk
      rw [List.length_map, List.length_take] at this
      omega
    refine wgw_name (by simp) ?_
    intro s0 H0 C cl fp
    refine de_tupD (da_cons ?_)
    walk_at "nm"
    refine da_cons (de_callC (c1.up (by decide)) hr (by rfl) (da_cons ?_))
    walk_at "nm"
    refine da_cons (de_add ?_)
    walk_at "nm"
    refine de_int ⟨_, _, rfl, rfl, da_nil ⟨a, _, ml + 1, rfl, sr, by omega, by omega, by omega, fun M3 r3 fr3 sr3 h30 h31 => da_nil ⟨[.str zs[i], .int r3], rfl, (by show 2 ≤ sizeLine; decide), _, by rw [fr3 D Da]; exact mD, ?_, vs ++ [(zs[i], r3)], (gx.trans fr3.gx).put hDM, by rw [updC_ne n2D, fr3 p2 p2a]; exact mz, ?_, sr3.upd Da, ?_, fun v hv' => ?_⟩⟩⟩
    · unfold kdC
      rw [List.length_map, List.length_map, hvl, sizeLine_eq]
      omega
    · rw [updC_same]
      unfold kdC
      simp only [List.map_append]
      rfl
    · rw [List.map_append, hk, List.take_add_one, List.getElem?_eq_getElem hi]
      rfl
    · rcases List.mem_append.mp hv' with q | q
      · exact hv v q
      · rw [List.mem_singleton.mp q]
        exact ⟨h30, by show r3 ≤ 10 ^ 30; omega⟩
  rintro M' ⟨vs, gx, mz, mD, sr, hk, hv⟩
  rw [List.length_map, List.take_length] at hk
  have hvl : vs.length = zs.length := by rw [← hk, List.length_map]
  have nd : (vs.map (·.1)).Nodup := by rw [hk]; exact znd
  refine da_nil (k_dictP (kd := kdC vs) rfl (by simp only [seqOf, mD]) fun p hp => ?_)
  rw [merge_cnt nd]
  have pa := sr.ne hp
  refine fin vs p _ (gx.put (gx.none hp pa)) pa (gx.none hp pa) updC_same ((sr.upd pa).mono ?_) ⟨by omega, by omega, nd, fun v hv' => ?_⟩
  · rw [List.length_map]
    omega
  · have : v.1 ∈ zs := by rw [← hk]; exact List.mem_map_of_mem hv'
    exact ⟨pool14_ok _ (zmem _ this), hv v hv'⟩

end

end Pg

namespace Pg
open PySem L2 Y PyProof.Rows

local macro_rules | `(tactic| walk_at "vis") => `(tactic| first | exact Or.inl rfl | exact Or.inr (Or.inl rfl) | exact Or.inr (Or.inr rfl))
local macro_rules | `(tactic| walk_at "e1") => `(tactic| first | walk_at "nm" | refine de_int ?_ | refine de_add ?_ | refine de_sub ?_ | refine de_str ?_ | refine de_non ?_ | refine de_bl ?_)
local macro_rules | `(tactic| walk_at "go") => `(tactic| repeat (first | ((with_reducible show DE _ _ _ _ _ _); walk_at "e1") | ((with_reducible show DA _ _ _ _ _ _); refine da_cons ?_) | refine ⟨_, _, rfl, rfl, ?_⟩))


theorem eqv_iv (a b : Int × Int) : PyData.eqv (eIv a) (eIv b) = decide (a = b) := by
  obtain ⟨a1, a2⟩ := a
  obtain ⟨b1, b2⟩ := b
  show (PyData.eqv (.int a1) (.int b1) && (PyData.eqv (.int a2) (.int b2) && true)) = _
  simp only [PyData.eqv, Prod.mk.injEq]
  by_cases h1 : a1 = b1 <;> by_cases h2 : a2 = b2 <;> simp [h1, h2]
theorem shaped_ivs (l : Ivs) : SeqAt.shaped (.list (l.map eIv)) = true := shaped_list eIv l 1 (by decide) (fun p _ => by show (true && (true && true)) = true; rfl) (fun p _ => by unfold eIv; simp [PyData.depth, PyData.depthAll])
/-- the least first number behind some intervals -/
def leastOf (l : Ivs) : Int := match l.getLast? with
  | some p => p.2 + 2
  | none => 1
theorem leastOf_snoc (l : Ivs) (v : Int × Int) : leastOf (l ++ [v]) = v.2 + 2 := by
  unfold leastOf
  rw [List.getLast?_concat]
theorem okIvs_snoc {h : Int} {l : Ivs} {v : Int × Int} (ok : okIvs h l) (h1 : leastOf l ≤ v.1) (h0 : 1 ≤ v.1) (h2 : v.1 ≤ v.2) (h3 : v.2 ≤ h) : okIvs h (l ++ [v]) := by
  refine ⟨fun p hp => ?_, fun i a b ha hb => ?_⟩
  · rcases List.mem_append.mp hp with hp | hp
    · exact ok.1 p hp
    · rw [List.mem_singleton.mp hp]
      exact ⟨h0, h2, h3⟩
  · have hi : i + 1 < (l ++ [v]).length := (List.getElem?_eq_some_iff.mp hb).1
    rw [List.length_append] at hi
    have hi : i + 1 < l.length + 1 := hi
    rw [List.getElem?_append_left (by omega)] at ha
    by_cases e : i + 1 < l.length
    · rw [List.getElem?_append_left e] at hb
      exact ok.2 i a b ha hb
    · have e : i + 1 = l.length := by omega
      rw [e, List.getElem?_concat_length] at hb
      cases hb
      have : l.getLast? = some a := by rw [List.getLast?_eq_getElem?, show l.length - 1 = i by omega]; exact ha
      unfold leastOf at h1
      rw [this] at h1
      have h1 : a.2 + 2 ≤ v.1 := h1
      omega
theorem leastOf_pos {h : Int} {l : Ivs} (ok : okIvs h l) : 1 ≤ leastOf l := by
  unfold leastOf
  split
  · next p hp =>
    have := ok.1 p (List.mem_of_getLast? hp)
    omega
  · exact Int.le_refl 1
section
variable {P : Program} {w : World} {K : PySem.W.Frag} {mg : Str → Option Value} {base : Heap}

local macro_rules | `(tactic| walk_at "nm") => `(tactic| first | ((with_reducible refine de_name (x := "source") (i := 0) (s := ?s) ?hN ?hv ?ht ?q ?hd ?hcd); (case hN => rfl); (case hv => walk_at "vis"); (case ht => rfl); (case hd => decide); (case hcd => decide)) | ((with_reducible refine de_name (x := "total") (i := 1) (s := ?s) ?hN ?hv ?ht ?q ?hd ?hcd); (case hN => rfl); (case hv => walk_at "vis"); (case ht => rfl); (case hd => decide); (case hcd => decide)) | ((with_reducible refine de_name (x := "most") (i := 2) (s := ?s) ?hN ?hv ?ht ?q ?hd ?hcd); (case hN => rfl); (case hv => walk_at "vis"); (case ht => rfl); (case hd => decide); (case hcd => decide)) | ((with_reducible refine de_name (x := "found") (i := 3) (s := ?s) ?hN ?hv ?ht ?q ?hd ?hcd); (case hN => rfl); (case hv => walk_at "vis"); (case ht => rfl); (case hd => decide); (case hcd => decide)) | ((with_reducible refine de_name (x := "least") (i := 4) (s := ?s) ?hN ?hv ?ht ?q ?hd ?hcd); (case hN => rfl); (case hv => walk_at "vis"); (case ht => rfl); (case hd => decide); (case hcd => decide)) | ((with_reducible refine de_name (x := "turn") (i := 5) (s := ?s) ?hN ?hv ?ht ?q ?hd ?hcd); (case hN => rfl); (case hv => walk_at "vis"); (case ht => rfl); (case hd => decide); (case hcd => decide)) | ((with_reducible refine de_name (x := "first") (i := 6) (s := ?s) ?hN ?hv ?ht ?q ?hd ?hcd); (case hN => rfl); (case hv => walk_at "vis"); (case ht => rfl); (case hd => decide); (case hcd => decide)) | ((with_reducible refine de_name (x := "ends") (i := 7) (s := ?s) ?hN ?hv ?ht ?q ?hd ?hcd); (case hN => rfl); (case hv => walk_at "vis"); (case ht => rfl); (case hd => decide); (case hcd => decide)))


def R_ivs : Rr := fun _ ss M Q => ∃ (a : Addr) (n : Nat) (total most : Int), ss = [.c a, dI total, dI most] ∧ Src M a n ∧ n < 800000000 ∧ 0 ≤ total ∧ total ≤ 10 ^ 30 ∧ 0 ≤ most ∧ most ≤ 3 ∧ ∀ (l : Ivs) (p : Addr) (M' : Cs), Gx a M M' → p ≠ a → M p = none → M' p = some (.l (l.map sIv)) → Src M' a (n + 30) → okIvs total l → l.length ≤ 3 → Q (.c p) M'
set_option maxHeartbeats 4000000 in
theorem ok_law_intervals (F : FunAt K mg "_law_intervals" s__law_intervals ["source", "total", "most"]) (c1 : Cal P w K mg base "_law_draw" 1 ["source", "limit"] R_draw) (b1 : mg "range" = none) (b2 : mg "min" = none) (b3 : mg "max" = none) : Cal P w K mg base "_law_intervals" 2 ["source", "total", "most"] R_ivs := by
  refine cal_of F sc__law_intervals (fun _ ss _ _ ⟨a, n, t, m, e, _⟩ => by rw [e]; rfl) (fun f cdv A outer s H E L ss M Q hr h => ?_)
  obtain ⟨a, n, total, most, rfl, src, hn, t0, t1, m0, m3, fin⟩ := h
  refine db_cons (ds_set (i := 3) sc__law_intervals.nd rfl (.inl rfl) (de_lstC (da_nil ⟨Nat.zero_le _, fun pf hpf => ?_⟩)))
  have fa := src.ne hpf
  have m1f : updC M pf (.l []) pf = some (.l []) := updC_same
  have src1 : Src (updC M pf (.l [])) a n := src.upd fa
  have gx1 : Gx a M (updC M pf (.l [])) := (Gx.refl M).put hpf
  generalize updC M pf (.l []) = M1 at m1f src1 gx1
  refine db_cons (ds_set (i := 4) sc__law_intervals.nd rfl (.inl rfl) (de_int ?_))
  refine db_cons (ds_for PassesOwn.never rfl (di_range1 (by rfl) b1 (de_callC c1 hr (by rfl) (da_cons ?_))))
  walk_at "nm"
  refine da_cons (de_add ?_)
  walk_at "nm"
  refine de_int ⟨_, _, rfl, rfl, da_nil ⟨a, n, most + 1, rfl, src1, by omega, by omega, by omega, fun M2 r2 fr2 src2 h20 h21 => ⟨_, rfl, by omega, by omega, ?_⟩⟩⟩
  have m2f : M2 pf = some (.l []) := by rw [fr2 pf fa]; exact m1f
  have gx2 := gx1.trans fr2.gx
  have hr3 : r2.toNat ≤ 3 := by omega
  generalize r2.toNat = turns at hr3
  refine ⟨fun i τ' M' => ∃ (l : Ivs) (y5 y6 y7 : Option Sl), τ' = [some (.c a), some (dI total), some (dI most), some (.c pf), some (dI (leastOf l)), y5, y6, y7] ∧ Gx a M M' ∧ M' pf = some (.l (l.map sIv)) ∧ Src M' a (n + 1 + 8 * i) ∧ l.length ≤ i ∧ okIvs total l, ⟨[], _, _, _, rfl, gx2, m2f, src2, Nat.le_refl _, ⟨fun _ h => (nomatch h), fun i a b h _ => by cases i <;> cases h⟩⟩, fun _ _ _ _ => trivial, ?_, ?_⟩
  · rintro i y τ' M3 hi rfl ⟨l, y5, y6, y7, rfl, gx3, m3f, src3, hl, ok⟩
    have hlp := leastOf_pos ok
    refine dg_of (pg_name (i := 5) sc__law_intervals.nd rfl (.inl rfl)) (wg_name ?_)
    refine db_cons (ds_set (i := 6) sc__law_intervals.nd rfl (.inl rfl) (de_add ?_))
    walk_at "nm"
    refine de_ix (de_lstD (da_cons (de_int (da_cons (de_callC c1 hr (by rfl) (da_cons ?_))))))
    walk_at "nm"
    refine da_cons (de_int (da_nil ⟨a, _, 3, rfl, src3, by omega, by decide, by decide, fun M4 r4 fr4 src4 h40 h41 => da_cons (de_callC c1 hr (by rfl) (da_cons ?_))⟩))
    walk_at "nm"
    refine da_cons (de_add ?_)
    walk_at "nm"
    refine de_int ⟨_, _, rfl, rfl, da_nil ⟨a, _, total + 1, rfl, src4, by omega, by omega, by omega, fun M5 r5 fr5 src5 h50 h51 => da_nil ⟨[.int 0, .int r4, .int r5], rfl, (by show 3 ≤ sizeLine; decide), de_callC c1 hr (by rfl) (da_cons ?_)⟩⟩⟩
    walk_at "nm"
    refine da_cons (de_int (da_nil ⟨a, _, 3, rfl, src5, by omega, by decide, by decide, fun M6 r6 fr6 src6 h60 h61 => ?_⟩))
    have e6 : ∃ u : Int, 0 ≤ u ∧ atI ([.int 0, .int r4, .int r5].map Sl.d) r6 = some (dI u) := by
      have c8 : r6 = 0 ∨ r6 = 1 ∨ r6 = 2 := by omega
      rcases c8 with rfl | rfl | rfl
      · exact ⟨0, by decide, rfl⟩
      · exact ⟨r4, h40, rfl⟩
      · exact ⟨r5, h50, rfl⟩
    obtain ⟨u6, u60, eu6⟩ := e6
    refine ⟨_, r6, dI u6, rfl, rfl, eu6, _, _, rfl, rfl, ?_⟩
    have m6f : M6 pf = some (.l (l.map sIv)) := by rw [fr6 pf fa, fr5 pf fa, fr4 pf fa]; exact m3f
    have gx6 := ((gx3.trans fr4.gx).trans fr5.gx).trans fr6.gx
    generalize hfst : leastOf l + u6 = fst
    -- ends
    refine db_cons (ds_set (i := 7) sc__law_intervals.nd rfl (.inl rfl) (de_lstD (da_cons ?_)))
    walk_at "nm"
    refine da_cons (de_add ?_)
    walk_at "nm"
    refine de_callC c1 hr (by rfl) (da_cons ?_)
    walk_at "nm"
    refine da_cons (de_int (da_nil ⟨a, _, 3, rfl, src6, by omega, by decide, by decide, fun M7 r7 fr7 src7 h70 h71 => ⟨_, _, rfl, rfl, da_cons (de_add ?_)⟩⟩))
    walk_at "nm"
    refine de_callC c1 hr (by rfl) (da_cons ?_)
    walk_at "nm"
    refine da_cons (de_add ?_)
    walk_at "nm"
    refine de_int ⟨_, _, rfl, rfl, da_nil ⟨a, _, total + 1, rfl, src7, by omega, by omega, by omega, fun M8 r8 fr8 src8 h80 h81 => ⟨_, _, rfl, rfl, da_cons ?_⟩⟩⟩
    walk_at "nm"
    refine da_nil ⟨[.int fst, .int (fst + r7), .int (fst + r8), .int total], rfl, (by show 4 ≤ sizeLine; decide), ?_⟩
    have m8f : M8 pf = some (.l (l.map sIv)) := by rw [fr8 pf fa, fr7 pf fa]; exact m6f
    have gx8 := (gx6.trans fr7.gx).trans fr8.gx
    refine db_cons (ds_if (dt_cmp op_le ?_ (by with_unfolding_all rfl)))
    walk_at "nm"
    walk_at "nm"
    refine k_bool ⟨_, rfl, fun h => ?_, fun h => db_nil (db_nil ⟨l, _, _, _, rfl, gx8, m8f, src8.mono (by omega), by omega, ok⟩)⟩
    have h : fst ≤ total := of_decide_eq_true h
    refine db_cons (ds_append ?_)
    walk_at "nm"
    refine ⟨⟨rfl, _, by simp only [seqOf, m8f]; rfl⟩, de_tupD (da_cons ?_)⟩
    walk_at "nm"
    refine da_cons (de_callB (call_min2 rfl) (by rfl) b2 bt_min (da_cons ?_))
    walk_at "nm"
    refine da_cons (de_callB (call_max2 rfl) (by rfl) b3 bt_max (da_cons ?_))
    walk_at "nm"
    refine da_cons (de_ix ?_)
    walk_at "nm"
    refine de_callC c1 hr (by rfl) (da_cons ?_)
    walk_at "nm"
    refine da_cons (de_int (da_nil ⟨a, _, 4, rfl, src8, by omega, by decide, by decide, fun M9 r9 fr9 src9 h90 h91 => ?_⟩))
    have e9 : ∃ u : Int, atI ([.int fst, .int (fst + r7), .int (fst + r8), .int total].map Sl.d) r9 = some (dI u) := by
      have c8 : r9 = 0 ∨ r9 = 1 ∨ r9 = 2 ∨ r9 = 3 := by omega
      rcases c8 with rfl | rfl | rfl | rfl
      · exact ⟨_, rfl⟩
      · exact ⟨_, rfl⟩
      · exact ⟨_, rfl⟩
      · exact ⟨_, rfl⟩
    obtain ⟨u9, eu9⟩ := e9
    refine ⟨_, r9, dI u9, rfl, rfl, eu9, da_nil (k_max2 (da_nil (k_min2 ?_)))⟩
    have hlast : ∃ v : Int, (if (if u9 > fst then u9 else fst) < total then (if u9 > fst then u9 else fst) else total) = v ∧ fst ≤ v ∧ v ≤ total := by
      refine ⟨_, rfl, ?_⟩
      by_cases e1 : u9 > fst
      · rw [if_pos e1]
        by_cases e2 : u9 < total
        · rw [if_pos e2]; omega
        · rw [if_neg e2]; omega
      · rw [if_neg e1]
        by_cases e2 : fst < total
        · rw [if_pos e2]; omega
        · rw [if_neg e2]; omega
    obtain ⟨v, ev, v0, v1⟩ := hlast
    rw [ev]
    have m9f : M9 pf = some (.l (l.map sIv)) := by rw [fr9 pf fa]; exact m8f
    have gx9 := gx8.trans fr9.gx
    refine da_nil ⟨[.int fst, .int v], rfl, (by show 2 ≤ sizeLine; decide), pf, _, rfl, m9f, ?_, ?_⟩
    · rw [List.length_map, sizeLine_eq]
      omega
    have m10f : updC M9 pf (.l (l.map sIv ++ [.d (.tuple [.int fst, .int v])])) pf = some (.l ((l ++ [(fst, v)]).map sIv)) := by
      rw [updC_same, List.map_append]
      rfl
    have src10 : Src (updC M9 pf (.l (l.map sIv ++ [.d (.tuple [.int fst, .int v])]))) a _ := src9.upd fa
    have gx10 : Gx a M (updC M9 pf (.l (l.map sIv ++ [.d (.tuple [.int fst, .int v])]))) := gx9.put hpf
    generalize updC M9 pf (.l (l.map sIv ++ [.d (.tuple [.int fst, .int v])])) = M10 at m10f src10 gx10
    have hlS : ((l ++ [(fst, v)]).map sIv).getLast? = some (sIv (fst, v)) := by rw [List.map_append]; exact List.getLast?_concat
    refine db_cons (ds_set (i := 4) sc__law_intervals.nd rfl (.inl rfl) (de_add (de_ix (de_ix ?_))))
    walk_at "nm"
    refine de_neg (de_int ⟨1, rfl, (l ++ [(fst, v)]).map sIv, _, sIv (fst, v), by simp only [seqOf, m10f], rfl, atI_l hlS, de_int ⟨_, 1, dI v, rfl, rfl, rfl, de_int ⟨_, _, rfl, rfl, db_nil (db_nil ⟨l ++ [(fst, v)], some (dI i), some (dI fst), some (.d (.list [.int fst, .int (fst + r7), .int (fst + r8), .int total])), ?_, gx10, m10f, src10.mono (by omega), ?_, okIvs_snoc ok (by show leastOf l ≤ fst; omega) (by show 1 ≤ fst; omega) v0 v1⟩)⟩⟩⟩)
    · rw [leastOf_snoc]
      rfl
    · rw [List.length_append]
      simp
      omega
  rintro τ' M3 ⟨l, y5, y6, y7, rfl, gx3, m3f, src3, hl, ok⟩
  refine db_cons (ds_ret ?_)
  walk_at "nm"
  exact fin l pf M3 gx3 fa hpf m3f (src3.mono (by omega)) ok (by omega)

local macro_rules | `(tactic| walk_at "nm") => `(tactic| first | ((with_reducible refine de_name (x := "source") (i := 0) (s := ?s) ?hN ?hv ?ht ?q ?hd ?hcd); (case hN => rfl); (case hv => walk_at "vis"); (case ht => rfl); (case hd => decide); (case hcd => decide)) | ((with_reducible refine de_name (x := "line_counts") (i := 1) (s := ?s) ?hN ?hv ?ht ?q ?hd ?hcd); (case hN => rfl); (case hv => walk_at "vis"); (case ht => rfl); (case hd => decide); (case hcd => decide)) | ((with_reducible refine de_name (x := "most") (i := 2) (s := ?s) ?hN ?hv ?ht ?q ?hd ?hcd); (case hN => rfl); (case hv => walk_at "vis"); (case ht => rfl); (case hd => decide); (case hcd => decide)) | ((with_reducible refine de_name (x := "found") (i := 3) (s := ?s) ?hN ?hv ?ht ?q ?hd ?hcd); (case hN => rfl); (case hv => walk_at "vis"); (case ht => rfl); (case hd => decide); (case hcd => decide)) | ((with_reducible refine de_name (x := "writer") (i := 4) (s := ?s) ?hN ?hv ?ht ?q ?hd ?hcd); (case hN => rfl); (case hv => walk_at "vis"); (case ht => rfl); (case hd => decide); (case hcd => decide)) | ((with_reducible refine de_name (x := "own") (i := 5) (s := ?s) ?hN ?hv ?ht ?q ?hd ?hcd); (case hN => rfl); (case hv => walk_at "vis"); (case ht => rfl); (case hd => decide); (case hcd => decide)))


def R_lset : Rr := fun L ss M Q => ∃ (a : Addr) (n : Nat) (rows : Cnt) (most : Int), NoDK L ∧ ss = [.c a, .d (eCnt rows), dI most] ∧ Src M a n ∧ n < 700000000 ∧ okCnt rows ∧ 0 ≤ most ∧ most ≤ 3 ∧ ∀ (ls : LSet) (p : Addr) (M' : Cs), Gx a M M' → p ≠ a → M p = none → M' p = some (.k (slK (kdL ls))) → Src M' a (n + 500) → okLS rows ls → (∀ q ∈ ls, q.2.length ≤ 3) → Q (.c p) M'
set_option maxHeartbeats 4000000 in
theorem ok_law_line_set (F : FunAt K mg "_law_line_set" s__law_line_set ["source", "line_counts", "most"]) (c1 : Cal P w K mg base "_law_draw" 1 ["source", "limit"] R_draw) (c2 : Cal P w K mg base "_law_intervals" 2 ["source", "total", "most"] R_ivs) : Cal P w K mg base "_law_line_set" 3 ["source", "line_counts", "most"] R_lset := by
  refine cal_of F sc__law_line_set (fun _ ss _ _ ⟨a, n, r, m, _, e, _⟩ => by rw [e]; rfl) (fun f cdv A outer s H E L ss M Q hr h => ?_)
  obtain ⟨a, n, rows, most, hL, rfl, src, hn, okr, m0, m3, fin⟩ := h
  obtain ⟨l1, l12, nd, okp⟩ := okr
  have hkl : (kdC rows).length = rows.length := by unfold kdC; rw [List.length_map]
  refine db_cons (ds_set (i := 3) sc__law_line_set.nd rfl (.inl rfl) (de_dictC fun pf hpf => ?_))
  have fa := src.ne hpf
  have m1f : updC M pf (.k []) pf = some (.k []) := updC_same
  have src1 : Src (updC M pf (.k [])) a n := src.upd fa
  have gx1 : Gx a M (updC M pf (.k [])) := (Gx.refl M).put hpf
  generalize updC M pf (.k []) = M1 at m1f src1 gx1
  refine db_cons (ds_forKeys (i := 1) (kd := kdC rows) PassesOwn.never rfl hL rfl (by walk_at "vis") rfl (fun i τ' M' => ∃ (ls : LSet) (y4 y5 : Option Sl), τ' = [some (.c a), some (.d (eCnt rows)), some (dI most), some (.c pf), y4, y5] ∧ Gx a M M' ∧ M' pf = some (.k (slK (kdL ls))) ∧ Src M' a (n + 40 * i) ∧ (ls.map (·.1)).Sublist ((rows.take i).map (·.1)) ∧ ∀ q ∈ ls, okName q.1 = true ∧ q.1 ∈ rows.map (·.1) ∧ okIvs (high (some rows) q.1) q.2 ∧ q.2.length ≤ 3) ⟨[], none, none, rfl, gx1, m1f, src1, List.Sublist.refl _, fun _ h => nomatch h⟩ ?_ ?_)
  · rintro x ⟨xs, hx⟩ i k d τ' M2 hi ⟨ls, y4, y5, rfl, gx2, m2f, src2, hsub, hls⟩
    unfold kdC at hi
    rw [List.getElem?_map] at hi
    obtain ⟨⟨z, v⟩, hpz, epz⟩ := Option.map_eq_some_iff.mp hi
    cases epz
    obtain ⟨hlt, hget⟩ := List.getElem?_eq_some_iff.mp hpz
    have hmem := List.mem_of_getElem? hpz
    have hgz : getC rows z = some v := getC_mem nd hmem
    obtain ⟨zn, v0, v1⟩ := okp _ hmem
    have hfr : z ∉ ls.map (·.1) := fun q => by
      have h1 := take_fresh nd (n := i) (by rw [List.length_map]; exact hlt)
      rw [List.getElem_map, hget, ← List.map_take] at h1
      exact h1 (hsub.subset q)
    have hlen : ls.length ≤ 12 := by
      have := hsub.length_le
      rw [List.length_map, List.length_map, List.length_take] at this
      omega
    have htk : (rows.take (i + 1)).map (·.1) = (rows.take i).map (·.1) ++ [z] := by
      rw [List.take_add_one, hpz, List.map_append]
      rfl
    have hi12 : i < 12 := by omega
    refine dg_of (pg_name (i := 4) sc__law_line_set.nd rfl (.inl rfl)) (wg_name ?_)
    refine db_cons (ds_set (i := 5) sc__law_line_set.nd rfl (.inl rfl) (de_callC c2 hr (by rfl) (da_cons ?_)))
    walk_at "nm"
    refine da_cons (de_dget (hu_of hr) ?_)
    walk_at "nm"
    walk_at "nm"
    refine ⟨_, .inr z, dI v, .d (kdC rows), rfl, by rw [valS_C, hgz]; rfl, da_cons ?_⟩
    walk_at "nm"
    refine da_nil ⟨a, n + 40 * i, v, most, rfl, src2, by omega, v0, v1, m0, m3, fun l p3 M3 gx3 p3a hp3 m3 src3 okl hl3 => ?_⟩
    have n3f : pf ≠ p3 := neC m2f hp3
    have hp3M : M p3 = none := gx2.none hp3 p3a
    refine db_frz (j := 5) (p := p3) (ds := l.map eIv) rfl (by rw [m3, List.map_map]; rfl) ?_
    have m4f : delC M3 p3 pf = some (.k (slK (kdL ls))) := by rw [delC_ne n3f]; exact gx3 _ _ fa m2f
    have src4 : Src (delC M3 p3) a (n + 40 * i + 30) := src3.del p3a
    have gx4 : Gx a M (delC M3 p3) := fun b c hb e => by
      rw [delC_ne (neC e hp3M)]
      exact gx3 _ _ hb (gx2 _ _ hb e)
    generalize delC M3 p3 = M4 at m4f src4 gx4
    refine db_consJ (fun τ' M' => ∃ (ls : LSet) (y4 y5 : Option Sl), τ' = [some (.c a), some (.d (eCnt rows)), some (dI most), some (.c pf), y4, y5] ∧ Gx a M M' ∧ M' pf = some (.k (slK (kdL ls))) ∧ Src M' a (n + 40 * i + 31) ∧ (ls.map (·.1)).Sublist ((rows.take (i + 1)).map (·.1)) ∧ ∀ q ∈ ls, okName q.1 = true ∧ q.1 ∈ rows.map (·.1) ∧ okIvs (high (some rows) q.1) q.2 ∧ q.2.length ≤ 3) (ds_if (dt_imp (QB2 := fun _ M5 => Gx a M M5 ∧ M5 pf = some (.k (slK (kdL ls))) ∧ Src M5 a (n + 40 * i + 31)) ?_ ?_)) ?_
    · refine dt_or2 (dt_cmp (op_neD hr.units) ?_ (by with_unfolding_all rfl))
      walk_at "nm"
      refine de_lstD (da_nil ⟨[], rfl, Nat.zero_le _, k_neD (.d (.list (l.map eIv))) (.d (.list [])) (shaped_ivs l) (by decide +kernel) ?_⟩)
      refine ⟨_, rfl, fun _ => ⟨gx4, m4f, src4.mono (by omega)⟩, fun _ => dt_cmp op_eq (de_callC (c1.up (by decide)) hr (by rfl) (da_cons ?_)) (by with_unfolding_all rfl)⟩
      walk_at "nm"
      exact da_cons (de_int (da_nil ⟨a, _, 3, rfl, src4, by omega, by decide, by decide, fun M5 r5 fr5 src5 _ _ => de_int (k_eqI ⟨_, rfl, gx4.trans fr5.gx, by rw [fr5 pf fa]; exact m4f, src5⟩)⟩))
    · rintro b M5 ⟨gx5, m5f, src5⟩
      refine ⟨fun _ => ?_, fun _ => db_nil ⟨ls, _, _, rfl, gx5, m5f, src5, ?_, hls⟩⟩
      · refine db_cons (ds_dput (hu_of hr) ?_)
        walk_at "nm"
        walk_at "nm"
        walk_at "nm"
        refine ⟨pf, _, .inr z, rfl, m5f, rfl, ?_, db_nil ⟨ls ++ [(z, l)], _, _, rfl, gx5.put hpf, ?_, src5.upd fa, ?_, fun q hq => ?_⟩⟩
        · unfold slK kdL
          rw [List.length_map, List.length_map, sizeLine_eq]
          omega
        · rw [updC_same, ← putS_newL hfr]
          rfl
        · rw [List.map_append, htk]
          exact hsub.append (List.Sublist.refl _)
        · rcases List.mem_append.mp hq with hq | hq
          · exact hls q hq
          · rw [List.mem_singleton.mp hq]
            refine ⟨zn, List.mem_map_of_mem hmem, ?_, hl3⟩
            show okIvs ((getC rows z).getD 0) l
            rw [hgz]
            exact okl
      · rw [htk]
        exact hsub.trans (List.sublist_append_left _ _)
    rintro τ' M5 ⟨ls, y4, y5, rfl, gx5, m5f, src5, hsub5, hls5⟩
    exact db_nil ⟨ls, _, _, rfl, gx5, m5f, src5.mono (by omega), hsub5, hls5⟩
  rintro τ' M2 ⟨ls, y4, y5, rfl, gx2, m2f, src2, hsub, hls⟩
  rw [hkl] at src2 hsub
  rw [List.take_length] at hsub
  have hlen : ls.length ≤ 12 := by
    have := hsub.length_le
    rw [List.length_map, List.length_map] at this
    omega
  refine db_cons (ds_ret ?_)
  walk_at "nm"
  exact fin ls pf M2 gx2 fa hpf m2f (src2.mono (by omega)) ⟨nd.sublist hsub, hlen, fun q hq => ⟨(hls q hq).1, (hls q hq).2.1, (hls q hq).2.2.1, Nat.le_trans (hls q hq).2.2.2 (by decide)⟩⟩ fun q hq => (hls q hq).2.2.2

end

end Pg

namespace Pg
open PySem L2 Y PyProof.Rows

local macro_rules | `(tactic| walk_at "vis") => `(tactic| first | exact Or.inl rfl | exact Or.inr (Or.inl rfl) | exact Or.inr (Or.inr rfl))
local macro_rules | `(tactic| walk_at "e1") => `(tactic| first | walk_at "nm" | refine de_int ?_ | refine de_add ?_ | refine de_sub ?_ | refine de_str ?_ | refine de_non ?_ | refine de_bl ?_)
local macro_rules | `(tactic| walk_at "go") => `(tactic| repeat (first | ((with_reducible show DE _ _ _ _ _ _); walk_at "e1") | ((with_reducible show DA _ _ _ _ _ _); refine da_cons ?_) | refine ⟨_, _, rfl, rfl, ?_⟩))


theorem ivsOf_mem {ls : LSet} (nd : (ls.map (·.1)).Nodup) {p : Str × Ivs} (h : p ∈ ls) : ivsOf ls p.1 = p.2 := by
  unfold ivsOf
  rw [getL_mem nd h]
  rfl
theorem ivsOf_out {ls : LSet} {z : Str} (h : z ∉ ls.map (·.1)) : ivsOf ls z = [] := by
  unfold ivsOf getL
  cases e : ls.find? fun p => decide (p.1 = z) with
  | none => rfl
  | some p =>
    have h1 := List.mem_of_find?_eq_some e
    have h2 : p.1 = z := of_decide_eq_true (List.find?_some (p := fun p : Str × Ivs => decide (p.1 = z)) e)
    exact absurd (List.mem_map.mpr ⟨p, h1, h2⟩) h
theorem ne_iff (p : Str × Ivs) : (!p.2.isEmpty) = true ↔ p.2 ≠ [] := by
  cases p.2 <;> simp
theorem ivsOf_ne {ls : LSet} (nd : (ls.map (·.1)).Nodup) (z : Str) : ivsOf (neLS ls) z = ivsOf ls z := by
  have nd2 : ((neLS ls).map (·.1)).Nodup := nd.sublist (List.filter_sublist.map _)
  by_cases h : z ∈ ls.map (·.1)
  · obtain ⟨p, hp, rfl⟩ := List.mem_map.mp h
    rw [ivsOf_mem nd hp]
    by_cases e : p.2 = []
    · rw [e]
      refine ivsOf_out fun q => ?_
      obtain ⟨x, hx, ex⟩ := List.mem_map.mp q
      obtain ⟨h1, h2⟩ := List.mem_filter.mp hx
      have h3 := ivsOf_mem nd h1
      rw [ex, ivsOf_mem nd hp, e] at h3
      exact (ne_iff x).mp h2 h3.symm
    · exact ivsOf_mem nd2 (List.mem_filter.mpr ⟨hp, (ne_iff p).mpr e⟩)
  · rw [ivsOf_out h]
    refine ivsOf_out fun q => h ?_
    obtain ⟨x, hx, ex⟩ := List.mem_map.mp q
    exact List.mem_map.mpr ⟨x, (List.mem_filter.mp hx).1, ex⟩
theorem sum_one {α : Type} [DecidableEq α] (f g : α → Int) (z : α) (hf : f z = 0) (hg : ∀ x, x ≠ z → g x = f x) : ∀ {xs : List α}, xs.Nodup → (xs.map g).sum = (xs.map f).sum + if z ∈ xs then g z else 0
  | [], _ => by simp
  | x :: r, nd => by
    rw [List.nodup_cons] at nd
    have ih := sum_one f g z hf hg nd.2
    rw [List.map_cons, List.map_cons, List.sum_cons, List.sum_cons, ih]
    by_cases e : x = z
    · subst e
      rw [if_neg nd.1, if_pos List.mem_cons_self, hf]
      omega
    · rw [hg x e]
      by_cases m : z ∈ r
      · rw [if_pos m, if_pos (List.mem_cons_of_mem _ m)]
        omega
      · rw [if_neg m, if_neg (fun q => by rcases List.mem_cons.mp q with q | q; exact e q.symm; exact m q)]
        omega
theorem ivsOf_cons (p : Str × Ivs) (ls : LSet) (z : Str) : ivsOf (p :: ls) z = if p.1 = z then p.2 else ivsOf ls z := by
  unfold ivsOf getL
  rw [List.find?_cons]
  by_cases e : p.1 = z
  · rw [show decide (p.1 = z) = true from decide_eq_true e, if_pos e]; rfl
  · rw [show decide (p.1 = z) = false from decide_eq_false e, if_neg e]
theorem totW_keys (cs : Cnt) (ls : LSet) : totW cs ls = ((cs.map (·.1)).map fun z => linA (ivsOf ls z)).sum := by
  unfold totW
  rw [List.map_map]
  rfl
theorem totA_W {zs : List Str} (nz : zs.Nodup) : ∀ {ls : LSet}, (ls.map (·.1)).Nodup → (∀ p ∈ ls, p.1 ∈ zs) → totA ls = (zs.map fun z => linA (ivsOf ls z)).sum
  | [], _, _ => by
    have : ∀ l : List Str, (l.map fun z => linA (ivsOf ([] : LSet) z)).sum = 0 := fun l => by
      induction l with
      | nil => rfl
      | cons z r ih => rw [List.map_cons, List.sum_cons, ih]; rfl
    rw [this]
    rfl
  | p :: r, nd, h => by
    rw [List.map_cons, List.nodup_cons] at nd
    have ih := totA_W nz nd.2 fun q hq => h q (List.mem_cons_of_mem _ hq)
    have h0 : ivsOf r p.1 = [] := ivsOf_out nd.1
    have := sum_one (fun z => linA (ivsOf r z)) (fun z => linA (ivsOf (p :: r) z)) p.1 (by show linA (ivsOf r p.1) = 0; rw [h0]; rfl) (fun x hx => by show linA (ivsOf (p :: r) x) = _; rw [ivsOf_cons, if_neg (fun e => hx e.symm)]) nz
    rw [this, if_pos (h p List.mem_cons_self), ← ih, ivsOf_cons, if_pos rfl]
    unfold totA
    rw [List.map_cons, List.sum_cons]
    omega
theorem seA_perm {f f' g g' : List Line} (t : Int) (hf : f.Perm f') (hg : g.Perm g') : seA f g t = seA f' g' t := by
  have hl := hf.length_eq
  match f, f', hl with
  | [], [], _ => rfl
  | [a], [b], _ =>
    have e : a = b := List.mem_singleton.mp (hf.mem_iff.mp List.mem_cons_self)
    subst e
    have : [a] = g ↔ [a] = g' := ⟨fun h => by subst h; exact (List.singleton_perm.mp hg), fun h => by subst h; exact (List.singleton_perm.mp hg.symm)⟩
    show (if [a] = g ∧ 1 < t then [obSE a] else []) = if [a] = g' ∧ 1 < t then [obSE a] else []
    by_cases h : [a] = g ∧ 1 < t
    · rw [if_pos h, if_pos ⟨this.mp h.1, h.2⟩]
    · rw [if_neg h, if_neg fun k => h ⟨this.mpr k.1, k.2⟩]
  | a :: b :: r, a' :: b' :: r', _ => rfl
theorem obEnds_perm {f f' g g' : List Line} (t : Int) (hf : f.Perm f') (hg : g.Perm g') : obEnds f g t = obEnds f' g' t := by
  unfold obEnds
  rw [seA_perm t hf hg, hf.isEmpty_eq, hg.isEmpty_eq]
/-- writers with lines, sorted -/
def nmA (ls : LSet) (zs : List Str) : List Str := zs.filter fun z => !(ivsOf ls z).isEmpty
def stA (ls : LSet) (ns : List Str) : List Line := (ns.filter fun z => decide (fstI (ivsOf ls z) = 1)).map fun z => (z, 1)
def enA (cs : Cnt) (ls : LSet) (ns : List Str) : List Line := (ns.filter fun z => decide (lstI (ivsOf ls z) = gv cs z)).map fun z => (z, gv cs z)
theorem filt_keys {ls : LSet} (f : Str → Bool) (g : Str × Ivs → Bool) (h : ∀ p ∈ ls, f p.1 = g p) : (ls.map (·.1)).filter f = (ls.filter g).map (·.1) := by
  induction ls with
  | nil => rfl
  | cons p r ih =>
    rw [List.map_cons, List.filter_cons, List.filter_cons, h p List.mem_cons_self, ih fun q hq => h q (List.mem_cons_of_mem _ hq)]
    cases g p <;> rfl
theorem nmA_perm {ls : LSet} (nd : (ls.map (·.1)).Nodup) {zs : List Str} (h : zs.Perm (ls.map (·.1))) : (nmA ls zs).Perm ((neLS ls).map (·.1)) := by
  unfold nmA neLS
  rw [← filt_keys (fun z => !(ivsOf ls z).isEmpty) (fun p => !p.2.isEmpty) fun p hp => by rw [ivsOf_mem nd hp]]
  exact h.filter _
theorem stA_perm {ls : LSet} (nd : (ls.map (·.1)).Nodup) {ns : List Str} (h : ns.Perm ((neLS ls).map (·.1))) : (stA ls ns).Perm (fiA (neLS ls)) := by
  unfold stA fiA
  have e := filt_keys (ls := neLS ls) (fun z => decide (fstI (ivsOf ls z) = 1)) (fun p => decide (fstI p.2 = 1)) fun p hp => by rw [ivsOf_mem nd (List.mem_filter.mp hp).1]
  have h2 := h.filter fun z => decide (fstI (ivsOf ls z) = 1)
  rw [e] at h2
  have h3 := h2.map fun z => (z, (1 : Int))
  rw [List.map_map] at h3
  exact h3
theorem enA_perm {cs cs' : Cnt} {ls : LSet} (nd : (ls.map (·.1)).Nodup) (hg : ∀ z, gv cs' z = gv cs z) {ns : List Str} (h : ns.Perm ((neLS ls).map (·.1))) : (enA cs ls ns).Perm (laA cs' (neLS ls)) := by
  unfold enA laA
  have e := filt_keys (ls := neLS ls) (fun z => decide (lstI (ivsOf ls z) = gv cs z)) (fun p => decide (lstI p.2 = gv cs' p.1)) fun p hp => by rw [ivsOf_mem nd (List.mem_filter.mp hp).1, hg]
  have h2 := h.filter fun z => decide (lstI (ivsOf ls z) = gv cs z)
  rw [e] at h2
  have h3 := h2.map fun z => (z, gv cs z)
  rw [List.map_map] at h3
  have e3 : ((fun z => (z, gv cs z)) ∘ fun p : Str × Ivs => p.1) = fun p => (p.1, gv cs' p.1) := by
    funext p
    show (p.1, gv cs p.1) = (p.1, gv cs' p.1)
    rw [hg]
  rw [e3] at h3
  exact h3
theorem gv_perm {cs cs' : Cnt} (h : cs'.Perm cs) (nd : (cs.map (·.1)).Nodup) (z : Str) : gv cs' z = gv cs z := by
  unfold gv
  rw [getC_permS h nd]
def gpZ (cs : Cnt) (ls : LSet) (T : Int) (zs : List Str) : List PyData := zs.flatMap fun z => gwG T z (gv cs z) (ivsOf ls z)
theorem obGaps_keys {cs cs' : Cnt} {ls : LSet} {T : Int} (nd : (ls.map (·.1)).Nodup) (nc : (cs'.map (·.1)).Nodup) (hg : ∀ z, gv cs' z = gv cs z) : obGaps cs' (neLS ls) T = gpZ cs ls T (cs'.map (·.1)) := by
  unfold obGaps gpZ
  rw [List.flatMap_map]
  have : ∀ p ∈ cs', gwG T p.1 p.2 (ivsOf (neLS ls) p.1) = gwG T p.1 (gv cs p.1) (ivsOf ls p.1) := fun p hp => by
    rw [ivsOf_ne nd, ← hg]
    unfold gv
    rw [getC_mem nc hp]
    rfl
  clear nc
  induction cs' with
  | nil => rfl
  | cons p r ih =>
    rw [List.flatMap_cons, List.flatMap_cons, this p List.mem_cons_self]
    congr 1
    exact ih' r fun q hq => this q (List.mem_cons_of_mem _ hq)
where ih' {cs : Cnt} {ls : LSet} {T : Int} : ∀ r : Cnt, (∀ p ∈ r, gwG T p.1 p.2 (ivsOf (neLS ls) p.1) = gwG T p.1 (gv cs p.1) (ivsOf ls p.1)) → (r.flatMap fun p => gwG T p.1 p.2 (ivsOf (neLS ls) p.1)) = r.flatMap fun a => gwG T a.1 (gv cs a.1) (ivsOf ls a.1)
  | [], _ => rfl
  | p :: r, h => by rw [List.flatMap_cons, List.flatMap_cons, h p List.mem_cons_self, ih' r fun q hq => h q (List.mem_cons_of_mem _ hq)]
theorem sumC_pos {cs : Cnt} (h : ∀ p ∈ cs, 0 ≤ p.2) : 0 ≤ sumC cs := by
  unfold sumC
  induction cs with
  | nil => exact Int.le_refl _
  | cons p r ih =>
    rw [List.map_cons, List.sum_cons]
    have := h p List.mem_cons_self
    have := ih fun q hq => h q (List.mem_cons_of_mem _ hq)
    omega
/-- what the law finds -/
theorem obAll_law {cs cs' : Cnt} {ls : LSet} {zs ws : List Str} (okc : okCnt cs) (okl : okLS cs ls) (hs : Sorted cs cs') (hz : zs.Perm (ls.map (·.1))) (hw : ws.Perm (cs.map (·.1))) (sw : sortedS ws = true) :
    obAll cs' (neLS ls) = if 0 < sumC cs then obEnds (stA ls (nmA ls zs)) (enA cs ls (nmA ls zs)) (totW cs ls) ++ gpZ cs ls (totW cs ls) ws else [] := by
  obtain ⟨l1, l12, nd, okp⟩ := okc
  obtain ⟨ndl, ll, lok⟩ := okl
  have hg := gv_perm hs.1 nd
  have nd' : (cs'.map (·.1)).Nodup := (hs.1.map _).nodup_iff.mpr nd
  have ndn : ((neLS ls).map (·.1)).Nodup := ndl.sublist (List.filter_sublist.map _)
  have ek : cs'.map (·.1) = ws := sorted_one ((hs.1.map _).trans hw.symm) hs.2 sw
  have es : sumC cs' = sumC cs := sum_perm (hs.1.map _)
  have hin : ∀ p ∈ neLS ls, p.1 ∈ cs.map (·.1) := fun p hp => (lok p (List.mem_filter.mp hp).1).2.1
  have ew : totW cs' (neLS ls) = totW cs ls := by
    rw [totW_keys, totW_keys]
    have : ((cs'.map (·.1)).map fun z => linA (ivsOf (neLS ls) z)) = (cs'.map (·.1)).map fun z => linA (ivsOf ls z) := by
      congr 1
      funext z
      rw [ivsOf_ne ndl]
    rw [this]
    exact sum_perm ((hs.1.map _).map _)
  have ea : totA (neLS ls) = totW cs ls := by
    rw [totA_W nd ndn hin, ← totW_keys, ← ew, totW_keys, totW_keys]
    exact sum_perm ((hs.1.map _).map _).symm
  have p0 := nmA_perm ndl hz
  unfold obAll
  rw [es, ea, ew, obGaps_keys ndl nd' hg, ek, obEnds_perm _ (stA_perm ndl p0).symm (enA_perm ndl hg p0).symm]
  have := sumC_pos fun p hp => (okp p hp).2.1
  by_cases h : sumC cs = 0
  · rw [if_pos h, if_neg (by omega)]
  · rw [if_neg h, if_pos (by omega)]
section
variable {P : Program} {w : World} {K : PySem.W.Frag} {mg : Str → Option Value} {base : Heap}

local macro_rules | `(tactic| walk_at "nm") => `(tactic| first | ((with_reducible refine de_name (x := "total") (i := 0) (s := ?s) ?hN ?hv ?ht ?q ?hd ?hcd); (case hN => rfl); (case hv => walk_at "vis"); (case ht => rfl); (case hd => decide); (case hcd => decide)) | ((with_reducible refine de_name (x := "intervals") (i := 1) (s := ?s) ?hN ?hv ?ht ?q ?hd ?hcd); (case hN => rfl); (case hv => walk_at "vis"); (case ht => rfl); (case hd => decide); (case hcd => decide)) | ((with_reducible refine de_name (x := "found") (i := 2) (s := ?s) ?hN ?hv ?ht ?q ?hd ?hcd); (case hN => rfl); (case hv => walk_at "vis"); (case ht => rfl); (case hd => decide); (case hcd => decide)) | ((with_reducible refine de_name (x := "least") (i := 3) (s := ?s) ?hN ?hv ?ht ?q ?hd ?hcd); (case hN => rfl); (case hv => walk_at "vis"); (case ht => rfl); (case hd => decide); (case hcd => decide)) | ((with_reducible refine de_name (x := "first") (i := 4) (s := ?s) ?hN ?hv ?ht ?q ?hd ?hcd); (case hN => rfl); (case hv => walk_at "vis"); (case ht => rfl); (case hd => decide); (case hcd => decide)) | ((with_reducible refine de_name (x := "last") (i := 5) (s := ?s) ?hN ?hv ?ht ?q ?hd ?hcd); (case hN => rfl); (case hv => walk_at "vis"); (case ht => rfl); (case hd => decide); (case hcd => decide)))


def R_lost : Rr := fun _ ss M Q => ∃ (l : Ivs) (h : Int), ss = [dI h, .d (eIvs l)] ∧ l.length ≤ 10000 ∧ ∀ (p : Addr) (M' : Cs), Sub M M' → M p = none → M' p = some (.l ((btw l h).map sIv)) → Q (.c p) M'
theorem ok_law_lost (F : FunAt K mg "_law_lost" s__law_lost ["total", "intervals"]) (b1 : mg "int" = none) : Cal P w K mg base "_law_lost" 1 ["total", "intervals"] R_lost := by
  refine cal_of F sc__law_lost (fun _ ss _ _ ⟨l, h, e, _⟩ => by rw [e]; rfl) (fun f cdv A outer s H E L ss M Q hr h => ?_)
  obtain ⟨l, hi, rfl, hl, q⟩ := h
  refine db_cons (ds_set (i := 2) sc__law_lost.nd rfl (.inl rfl) (de_lstC (da_nil ⟨Nat.zero_le _, fun pf hpf => ?_⟩)))
  have sub_M1 : Sub M (updC M pf (.l [])) := (Sub.refl _).new hpf
  have m_pf : updC M pf (.l []) pf = some (.l []) := updC_same
  generalize updC M pf (.l []) = M1 at sub_M1 m_pf
  refine db_cons (ds_set (i := 3) sc__law_lost.nd rfl (.inl rfl) (de_int ?_))
  refine db_cons (ds_for PassesOwn.never rfl (di_seq ?_))
  walk_at "nm"
  refine ⟨l.map sIv, seq_ivs _ _, ?_⟩
  refine ⟨fun i τ' M' => ∃ (y4 y5 : Option Sl), τ' = [some (dI hi), some (.d (eIvs l)), some (.c pf), some (dI (stI l i)), y4, y5] ∧ Sub M M' ∧ M' pf = some (.l ((foI l i).map sIv)), ⟨none, none, rfl, sub_M1, m_pf⟩, fun _ _ _ _ => seq_ivs _ _, ?_, ?_⟩
  · rintro i y τ' M2 hi' hy ⟨y4, y5, rfl, sub2, m2f⟩
    rw [List.length_map] at hi'
    have hy' : y = sIv l[i] := by
      rw [List.getElem?_map, List.getElem?_eq_getElem hi'] at hy
      exact (Option.some.inj hy).symm
    subst hy'
    have hli : l[i]? = some l[i] := List.getElem?_eq_getElem hi'
    have hst := stI_succ hli
    have hfo := foI_succ hli
    have hfl := foI_len l i
    generalize l[i] = v at hst hfo
    refine dg_of (pg_tup rfl (pgs_cons (pg_name (i := 4) sc__law_lost.nd rfl (.inl rfl)) (pgs_cons (pg_name (i := 5) sc__law_lost.nd rfl (.inl rfl)) pgs_nil))) (wg_tup rfl rfl rfl (wgs_cons (wg_name (wgs_cons (wg_name (wgs_nil ?_))))))
    refine db_consJ (fun τ' M' => τ' = [some (dI hi), some (.d (eIvs l)), some (.c pf), some (dI (stI l i)), some (dI v.1), some (dI v.2)] ∧ Sub M M' ∧ M' pf = some (.l ((foI l (i + 1)).map sIv))) (ds_if (dt_cmp op_gt ?_ (by with_unfolding_all rfl))) ?_
    · walk_at "nm"
      walk_at "nm"
      refine k_bool ⟨_, rfl, fun h => ?_, fun h => db_nil ⟨rfl, sub2, ?_⟩⟩
      · have h : stI l i < v.1 := of_decide_eq_true h
        refine db_cons (ds_append ?_)
        walk_at "nm"
        refine ⟨⟨rfl, _, by simp only [seqOf, m2f]; rfl⟩, de_tupD (da_cons ?_)⟩
        walk_at "nm"
        refine da_cons (de_sub ?_)
        walk_at "nm"
        refine de_int ⟨_, _, rfl, rfl, da_nil ⟨[.int (stI l i), .int (v.1 - 1)], rfl, (by show 2 ≤ sizeLine; decide), pf, _, rfl, m2f, ?_, db_nil ⟨rfl, sub_put sub2 hpf, ?_⟩⟩⟩
        · rw [List.length_map, sizeLine_eq]
          omega
        · rw [updC_same, hfo, if_pos h, List.map_append]
          rfl
      · have h : ¬ stI l i < v.1 := of_decide_eq_false h
        rw [hfo, if_neg h, List.append_nil]
        exact m2f
    rintro τ' M3 ⟨rfl, sub3, m3f⟩
    refine db_cons (ds_set (i := 3) sc__law_lost.nd rfl (.inl rfl) (de_add ?_))
    walk_at "nm"
    refine de_int ⟨_, _, rfl, rfl, db_nil ⟨some (dI v.1), some (dI v.2), ?_, sub3, m3f⟩⟩
    rw [hst]
    rfl
  rintro τ' M2 ⟨y4, y5, rfl, sub2, m2f⟩
  rw [List.length_map] at m2f ⊢
  have hfl := foI_len l l.length
  refine db_cons (ds_ret (de_cat ?_))
  walk_at "nm"
  refine de_rep01 (decide (stI l l.length ≤ hi)) ?_
  refine de_lstC (da_cons (de_tupD (da_cons ?_)))
  walk_at "nm"
  refine da_cons ?_
  walk_at "nm"
  refine da_nil ⟨[.int (stI l l.length), .int hi], rfl, (by show 2 ≤ sizeLine; decide), da_nil ⟨(by show 1 ≤ sizeLine; decide), fun p3 hp3 => ?_⟩⟩
  have sub_M3 : Sub M2 (updC M2 p3 (.l [.d (.tuple [.int (stI l l.length), .int hi])])) := (Sub.refl _).new hp3
  have m_p3 : updC M2 p3 (.l [.d (.tuple [.int (stI l l.length), .int hi])]) p3 = some (.l [.d (.tuple [.int (stI l l.length), .int hi])]) := updC_same
  generalize updC M2 p3 (.l [.d (.tuple [.int (stI l l.length), .int hi])]) = M3 at sub_M3 m_p3
  refine de_callT call_int1 (by rfl) b1 bt_int (da_cons (de_cmp op_le ?_ (nomark _)))
  walk_at "nm"
  walk_at "nm"
  refine k_bool (da_nil (k_intB ⟨p3, _, rfl, rfl, m_p3, fun p4 hp4 => ?_⟩))
  have sub_M4 : Sub M3 (updC M3 p4 (.l (if decide (stI l l.length ≤ hi) = true then [.d (.tuple [.int (stI l l.length), .int hi])] else []))) := (Sub.refl _).new hp4
  have m_p4 : updC M3 p4 (.l (if decide (stI l l.length ≤ hi) = true then [.d (.tuple [.int (stI l l.length), .int hi])] else [])) p4 = some (.l (if decide (stI l l.length ≤ hi) = true then [.d (.tuple [.int (stI l l.length), .int hi])] else [])) := updC_same
  generalize updC M3 p4 (.l (if decide (stI l l.length ≤ hi) = true then [.d (.tuple [.int (stI l l.length), .int hi])] else [])) = M4 at sub_M4 m_p4
  have m4f := sub_M4 _ _ (sub_M3 _ _ m2f)
  have sub4 := Sub.trans sub2 (Sub.trans sub_M3 sub_M4)
  refine ⟨_, _, by simp only [lstOf, m4f]; rfl, by simp only [lstOf, m_p4]; rfl, ?_, fun p5 hp5 => q p5 _ (sub4.new hp5) (sub4.none hp5) ?_⟩
  · have : ∀ b : Bool, (if b = true then [(Sl.d (.tuple [.int (stI l l.length), .int hi]))] else []).length ≤ 1 := fun b => by cases b <;> simp
    have := this (decide (stI l l.length ≤ hi))
    rw [List.length_map, sizeLine_eq]
    omega
  · rw [updC_same]
    unfold btw
    by_cases e : stI l l.length ≤ hi
    · rw [if_pos (decide_eq_true e), if_pos e, List.map_append]
      rfl
    · rw [if_neg (fun z => e (of_decide_eq_true z)), if_neg e, List.append_nil, List.append_nil]

local macro_rules | `(tactic| walk_at "nm") => `(tactic| first | ((with_reducible refine de_name (x := "line_counts") (i := 0) (s := ?s) ?hN ?hv ?ht ?q ?hd ?hcd); (case hN => rfl); (case hv => walk_at "vis"); (case ht => rfl); (case hd => decide); (case hcd => decide)) | ((with_reducible refine de_name (x := "line_set") (i := 1) (s := ?s) ?hN ?hv ?ht ?q ?hd ?hcd); (case hN => rfl); (case hv => walk_at "vis"); (case ht => rfl); (case hd => decide); (case hcd => decide)) | ((with_reducible refine de_name (x := "sizes") (i := 2) (s := ?s) ?hN ?hv ?ht ?q ?hd ?hcd); (case hN => rfl); (case hv => walk_at "vis"); (case ht => rfl); (case hd => decide); (case hcd => decide)) | ((with_reducible refine de_name (x := "total") (i := 3) (s := ?s) ?hN ?hv ?ht ?q ?hd ?hcd); (case hN => rfl); (case hv => walk_at "vis"); (case ht => rfl); (case hd => decide); (case hcd => decide)) | ((with_reducible refine de_name (x := "names") (i := 4) (s := ?s) ?hN ?hv ?ht ?q ?hd ?hcd); (case hN => rfl); (case hv => walk_at "vis"); (case ht => rfl); (case hd => decide); (case hcd => decide)) | ((with_reducible refine de_name (x := "starts") (i := 5) (s := ?s) ?hN ?hv ?ht ?q ?hd ?hcd); (case hN => rfl); (case hv => walk_at "vis"); (case ht => rfl); (case hd => decide); (case hcd => decide)) | ((with_reducible refine de_name (x := "ends") (i := 6) (s := ?s) ?hN ?hv ?ht ?q ?hd ?hcd); (case hN => rfl); (case hv => walk_at "vis"); (case ht => rfl); (case hd => decide); (case hcd => decide)) | ((with_reducible refine de_name (x := "found") (i := 7) (s := ?s) ?hN ?hv ?ht ?q ?hd ?hcd); (case hN => rfl); (case hv => walk_at "vis"); (case ht => rfl); (case hd => decide); (case hcd => decide)) | ((with_reducible refine de_name (x := "writer") (i := 8) (s := ?s) ?hN ?hv ?ht ?q ?hd ?hcd); (case hN => rfl); (case hv => walk_at "vis"); (case ht => rfl); (case hd => decide); (case hcd => decide)) | ((with_reducible refine de_name (x := "lost") (i := 9) (s := ?s) ?hN ?hv ?ht ?q ?hd ?hcd); (case hN => rfl); (case hv => walk_at "vis"); (case ht => rfl); (case hd => decide); (case hcd => decide)) | ((with_reducible refine de_name (x := "first") (i := 10) (s := ?s) ?hN ?hv ?ht ?q ?hd ?hcd); (case hN => rfl); (case hv => walk_at "vis"); (case ht => rfl); (case hd => decide); (case hcd => decide)) | ((with_reducible refine de_name (x := "last") (i := 11) (s := ?s) ?hN ?hv ?ht ?q ?hd ?hcd); (case hN => rfl); (case hv => walk_at "vis"); (case ht => rfl); (case hd => decide); (case hcd => decide)) | ((with_reducible refine de_name (x := "one") (i := 12) (s := ?s) ?hN ?hv ?ht ?q ?hd ?hcd); (case hN => rfl); (case hv => walk_at "vis"); (case ht => rfl); (case hd => decide); (case hcd => decide)))


def R_lobs : Rr := fun L ss M Q => ∃ (cs : Cnt) (ls : LSet), NoDK L ∧ ss = [.d (eCnt cs), .d (eLS ls)] ∧ okCnt cs ∧ okLS cs ls ∧ ∀ (p : Addr) (M' : Cs) (obs : List PyData), (∀ cs', Sorted cs cs' → obs = obAll cs' (neLS ls)) → Sub M M' → M p = none → M' p = some (.l (obs.map .d)) → obs.length ≤ 100 → Q (.c p) M'
set_option maxHeartbeats 8000000 in
theorem ok_law_obstructions (F : FunAt K mg "_law_obstructions" s__law_obstructions ["line_counts", "line_set"]) (c1 : Cal P w K mg base "_law_lost" 1 ["total", "intervals"] R_lost) (b1 : mg "dict" = none) (b2 : mg "sum" = none) (b3 : mg "sorted" = none) (b4 : mg "int" = none) (b5 : mg "len" = none) : Cal P w K mg base "_law_obstructions" 2 ["line_counts", "line_set"] R_lobs := by
  refine cal_of F sc__law_obstructions (fun _ ss _ _ ⟨cs, ls, _, e, _⟩ => by rw [e]; rfl) (fun f cdv A outer s H E L ss M Q hr h => ?_)
  obtain ⟨cs, ls, hL, rfl, okc, okl, q⟩ := h
  obtain ⟨l1, l12, nd, okp⟩ := okc
  obtain ⟨ndl, ll12, lok⟩ := okl
  have hkl : (kdC cs).length = cs.length := by unfold kdC; rw [List.length_map]
  have hls : ∀ p ∈ ls, p.2.length ≤ 1000 := fun p hp => (lok p hp).2.2.2
  -- sizes
  refine db_cons (ds_set (i := 2) sc__law_obstructions.nd rfl (.inl rfl) (de_frzK (de_callT (call_dictP rfl) (by rfl) b1 bt_dict (da_cons ?_))))
  refine de_lcKeysN (i := 0) (kd := kdC cs) (own := [("one", 12)]) (g := gName 12) rfl sc__law_obstructions.nd (blkOk_by (own := [("one", 12)]) (N := ["line_counts", "line_set", "sizes", "total", "names", "starts", "ends", "found", "writer", "lost", "first", "last", "one"]) (sc := defScope s__law_obstructions) (by decide +kernel)) (fun _ _ _ _ _ => pg_name (i := 12) sc__law_obstructions.nd rfl (.inl rfl)) hL rfl (by walk_at "vis") rfl fun D hD => ?_
  refine ⟨fun n M' => Sub M M' ∧ M' D = some (.l ((kdC (numA (cs.take n) ls)).map Y.prD)), ⟨(Sub.refl M).new hD, updC_same⟩, fun x hx n k d M' hn hM => ?_, fun M1 hM => ?_⟩
  · obtain ⟨sub, mD⟩ := hM
    unfold kdC at hn
    rw [List.getElem?_map] at hn
    obtain ⟨⟨z, v⟩, hpz, epz⟩ := Option.map_eq_some_iff.mp hn
    cases epz
    refine wgw_name (by simp) ?_
    intro s0 H0 C cl fp
    refine de_tupD (da_cons ?_)
    walk_at "nm"
    refine da_cons (de_callB (cr_sum rfl) (by rfl) b2 bt_sum (da_cons ?_))
    refine de_lc0 (own := [("first", 10), ("last", 11)]) (g := gTup K 2 (gCons (gName 10) (gCons (gName 11) gNil))) rfl ?nd ?ok ?hg (di_seq (de_dget2 (hu_of hr) ?_))
    case nd => exact sc__law_obstructions.nd
    case ok => exact (blkOk_by (own := [("first", 10), ("last", 11)]) (by with_unfolding_all rfl))
    case hg => exact (fun _ _ _ _ _ => pg_tup rfl (pgs_cons (pg_name (i := 10) sc__law_obstructions.nd rfl (.inl rfl)) (pgs_cons (pg_name (i := 11) sc__law_obstructions.nd rfl (.inl rfl)) pgs_nil)))
    walk_at "nm"
    refine ⟨⟨_, .d (kdL ls)⟩, ?_⟩
    walk_at "nm"
    refine de_lstD (da_nil ⟨[], rfl, Nat.zero_le _, _, .inr z, .d (kdL ls), rfl, ?_⟩)
    rw [valS_Ld]
    have hil := ivsOf_len hls z
    generalize hiv : ivsOf ls z = l at hil
    refine ⟨l.map sIv, seq_ivs _ _, fun D3 hD3 => ?_⟩
    refine ⟨fun j M2 => M2 = updC M' D3 (.l (((l.take j).map fun p => p.2 - p.1 + 1).map dI)), rfl, fun _ _ _ => seq_ivs _ _, ?_, ?_⟩
    · rintro j y M3 hj hy rfl
      rw [List.length_map] at hj
      have hy' : y = sIv l[j] := by
        rw [List.getElem?_map, List.getElem?_eq_getElem hj] at hy
        exact (Option.some.inj hy).symm
      subst hy'
      have hend : ((l.take (j + 1)).map fun p => p.2 - p.1 + 1) = ((l.take j).map fun p => p.2 - p.1 + 1) ++ [l[j].2 - l[j].1 + 1] := by
        rw [List.take_add_one, List.getElem?_eq_getElem hj, List.map_append]
        rfl
      generalize l[j] = v at hend
      refine wgw_tup rfl rfl rfl (wgws_cons (wgw_name (by simp) (wgws_cons (wgw_name (by simp) (wgws_nil ?_)))))
      intro s0 H0 C cl fp
      refine de_add (de_sub ?_)
      walk_at "nm"
      walk_at "nm"
      refine ⟨_, _, rfl, rfl, de_int ⟨_, _, rfl, rfl, _, updC_same, ?_, ?_⟩⟩
      · rw [List.length_map, List.length_map, List.length_take, sizeLine_eq]
        omega
      · show updC _ _ _ = updC _ _ _
        rw [updC_updC, hend, List.map_append]
        rfl
    · rintro M3 rfl
      have nD3 : D ≠ D3 := neC mD hD3
      rw [List.length_map, List.take_length]
      refine da_nil (k_sum rfl (by simp only [seqOf, updC_same]) (da_nil ⟨[.str z, .int (linA l)], rfl, (by show 2 ≤ sizeLine; decide), _, by rw [updC_ne nD3]; exact mD, ?_, sub_put (sub_put sub (sub.none hD3)) hD, ?_⟩))
      · unfold kdC numA
        rw [List.length_map, List.length_map, List.length_map, List.length_take, sizeLine_eq]
        omega
      · rw [updC_same]
        have e : numA (cs.take (n + 1)) ls = numA (cs.take n) ls ++ [(z, linA l)] := by
          unfold numA
          rw [List.take_add_one, hpz, List.map_append, ← hiv]
          rfl
        rw [e]
        unfold kdC
        simp only [List.map_append]
        rfl
  obtain ⟨sub1, m1D⟩ := hM
  rw [hkl, List.take_length] at m1D
  have ndN : ((numA cs ls).map (·.1)).Nodup := by
    unfold numA
    rw [List.map_map]
    exact nd
  refine da_nil (k_dictP (kd := kdC (numA cs ls)) rfl (by simp only [seqOf, m1D]) fun pz hpz => ⟨pz, kdC (numA cs ls), rfl, by rw [updC_same, merge_cnt ndN], ?_⟩)
  rw [delC_updC hpz]
  clear m1D
  have hT : ((numA cs ls).map (·.2)).sum = totW cs ls := by unfold numA totW; rw [List.map_map]; rfl
  refine db_cons (ds_set (i := 3) sc__law_obstructions.nd rfl (.inl rfl) (de_sumV rfl (by rfl) b2 ?_))
  walk_at "nm"
  refine ⟨slK (kdC (numA cs ls)), (numA cs ls).map (·.2), .d _, sum_seq _, ?_⟩
  rw [hT]
  -- names
  refine db_cons (ds_setLc1 (i := 4) (own := [("writer", 8)]) (g := gName 8) rfl sc__law_obstructions.nd rfl rfl (by with_unfolding_all rfl) (blkOk_by (own := [("writer", 8)]) (N := ["line_counts", "line_set", "sizes", "total", "names", "starts", "ends", "found", "writer", "lost", "first", "last", "one"]) (sc := defScope s__law_obstructions) (by decide +kernel)) (fun _ _ _ _ _ => pg_name (i := 8) sc__law_obstructions.nd rfl (.inl rfl)) (di_seq (de_callB (call_sortedD rfl) (by rfl) b3 bt_sorted (da_cons ?_))))
  walk_at "nm"
  refine da_nil (k_sortedD (.d (kdL ls)) (keys_L ls) (by rw [List.length_map]; omega) fun zs p0 hperm hsort hp0 => ?_)
  have hzl : zs.length ≤ 12 := by rw [hperm.length_eq, List.length_map]; exact ll12
  have hzv : ∀ z ∈ zs, valS (slK (kdL ls)) (.inr z) = some (.d (eIvs (ivsOf ls z))) := fun z hz => by
    obtain ⟨p, hp, rfl⟩ := List.mem_map.mp (hperm.mem_iff.mp hz)
    rw [valS_L, getL_mem ndl hp, ivsOf_mem ndl hp]
    rfl
  have hzc : ∀ z ∈ zs, valS (slK (kdC cs)) (.inr z) = some (dI (gv cs z)) := fun z hz => by
    obtain ⟨p, hp, rfl⟩ := List.mem_map.mp (hperm.mem_iff.mp hz)
    obtain ⟨x, hx, ex⟩ := List.mem_map.mp (lok p hp).2.1
    rw [valS_C]
    unfold gv
    rw [← ex, getC_mem nd hx]
    rfl
  have hzn : ∀ z ∈ zs, okName z = true := fun z hz => by
    obtain ⟨p, hp, rfl⟩ := List.mem_map.mp (hperm.mem_iff.mp hz)
    exact (lok p hp).1
  have sub_M2 : Sub M1 (updC M1 p0 (.l (zs.map dS))) := (Sub.refl _).new hp0
  have m_p0 : updC M1 p0 (.l (zs.map dS)) p0 = some (.l (zs.map dS)) := updC_same
  generalize updC M1 p0 (.l (zs.map dS)) = M2 at sub_M2 m_p0
  refine ⟨zs.map dS, by simp only [seqOf, m_p0], fun D2 hD2 => ?_⟩
  refine ⟨fun i M' => M' = updC M2 D2 (.l ((nmA ls (zs.take i)).map dS)), rfl, ?_, ?_, ?_⟩
  · rintro i M' rfl
    exact seqOf_updC (by simp only [seqOf, m_p0]) hD2
  · rintro i y M' hi hy rfl
    rw [List.length_map] at hi
    have hy' : y = dS zs[i] := by
      rw [List.getElem?_map, List.getElem?_eq_getElem hi] at hy
      exact (Option.some.inj hy).symm
    subst hy'
    have hv := hzv _ (List.getElem_mem hi)
    have htk : nmA ls (zs.take (i + 1)) = nmA ls (zs.take i) ++ if (!(ivsOf ls zs[i]).isEmpty) = true then [zs[i]] else [] := filt_take _ zs hi
    have hle : (nmA ls (zs.take i)).length ≤ 12 := by
      have := List.length_filter_le (fun z => !(ivsOf ls z).isEmpty) (zs.take i)
      rw [List.length_take] at this
      unfold nmA
      omega
    generalize zs[i] = z at hv htk
    refine wgw_name (by simp) ?_
    intro s0' H0 C cl fp
    refine dt_cmp (op_neD hr.units) (de_dget (hu_of hr) ?_) (by with_unfolding_all rfl)
    walk_at "nm"
    walk_at "nm"
    refine ⟨_, .inr z, .d (eIvs (ivsOf ls z)), .d (kdL ls), rfl, hv, de_lstD (da_nil ⟨[], rfl, Nat.zero_le _, k_neD (.d (eIvs (ivsOf ls z))) (.d (.list [])) (shaped_ivs _) (by decide +kernel) ?_⟩)⟩
    have eqq : (!PyData.eqv (eIvs (ivsOf ls z)) (.list [])) = !(ivsOf ls z).isEmpty := by
      rw [show PyData.eqv (eIvs (ivsOf ls z)) (.list []) = decide (ivsOf ls z = []) from eqv_list eIv eqv_iv (ivsOf ls z) []]
      cases ivsOf ls z <;> simp
    rw [eqq]
    refine ⟨_, rfl, fun h => ?_, fun h => ?_⟩
    · intro s0' H0 C cl fp
      walk_at "nm"
      refine ⟨_, updC_same, ?_, ?_⟩
      · rw [List.length_map, sizeLine_eq]
        omega
      · show updC _ _ _ = updC _ _ _
        rw [updC_updC, htk, if_pos h, List.map_append]
        rfl
    · show updC _ _ _ = updC _ _ _
      rw [htk, if_neg (by rw [h]; exact Bool.false_ne_true), List.append_nil]
  rintro M' rfl
  rw [List.length_map, List.take_length]
  have hns : ∀ z ∈ nmA ls zs, z ∈ zs ∧ ivsOf ls z ≠ [] := fun z hz => by
    obtain ⟨h1, h2⟩ := List.mem_filter.mp hz
    exact ⟨h1, (ne_iff (z, ivsOf ls z)).mp h2⟩
  have hnl : (nmA ls zs).length ≤ 12 := by
    have := List.length_filter_le (fun z => !(ivsOf ls z).isEmpty) zs
    unfold nmA
    omega
  have hq : ∀ cs', Sorted cs cs' → ∀ ws, ws.Perm (cs.map (·.1)) → sortedS ws = true → (if 0 < sumC cs then obEnds (stA ls (nmA ls zs)) (enA cs ls (nmA ls zs)) (totW cs ls) ++ gpZ cs ls (totW cs ls) ws else []) = obAll cs' (neLS ls) := fun cs' hs ws hw sw => (obAll_law ⟨l1, l12, nd, okp⟩ ⟨ndl, ll12, lok⟩ hs hperm hw sw).symm
  have sub_M3 : Sub M2 (updC M2 D2 (.l ((nmA ls zs).map dS))) := (Sub.refl _).new hD2
  have m_D2 : updC M2 D2 (.l ((nmA ls zs).map dS)) D2 = some (.l ((nmA ls zs).map dS)) := updC_same
  generalize updC M2 D2 (.l ((nmA ls zs).map dS)) = M3 at sub_M3 m_D2
  generalize nmA ls zs = ns at hns hnl hq m_D2
  have s3 : seqOf M3 (.c D2) = some (ns.map dS) := by simp only [seqOf, m_D2]
  have sub3 : Sub M M3 := Sub.trans sub1 (Sub.trans sub_M2 sub_M3)
  clear sub1 sub_M2 sub_M3 m_p0 m_D2
  -- starts
  refine db_cons (ds_setLc1 (i := 5) (own := [("writer", 8)]) (g := gName 8) rfl sc__law_obstructions.nd rfl rfl (by with_unfolding_all rfl) (blkOk_by (own := [("writer", 8)]) (N := ["line_counts", "line_set", "sizes", "total", "names", "starts", "ends", "found", "writer", "lost", "first", "last", "one"]) (sc := defScope s__law_obstructions) (by decide +kernel)) (fun _ _ _ _ _ => pg_name (i := 8) sc__law_obstructions.nd rfl (.inl rfl)) (di_seq ?_))
  walk_at "nm"
  refine ⟨ns.map dS, s3, fun D4 hD4 => ?_⟩
  refine ⟨fun i M' => M' = updC M3 D4 (.l ((stA ls (ns.take i)).map sLine)), rfl, ?_, ?_, ?_⟩
  · rintro i M' rfl
    exact seqOf_updC s3 hD4
  · rintro i y M' hi hy rfl
    rw [List.length_map] at hi
    have hy' : y = dS ns[i] := by
      rw [List.getElem?_map, List.getElem?_eq_getElem hi] at hy
      exact (Option.some.inj hy).symm
    subst hy'
    obtain ⟨hz1, hz2⟩ := hns _ (List.getElem_mem hi)
    have hv := hzv _ hz1
    obtain ⟨p1, hp1, _, hf1⟩ := head_iv hz2
    have htk : stA ls (ns.take (i + 1)) = stA ls (ns.take i) ++ if fstI (ivsOf ls ns[i]) = 1 then [(ns[i], 1)] else [] := by
      unfold stA
      rw [filt_take _ ns hi, List.map_append]
      congr 1
      by_cases e : fstI (ivsOf ls ns[i]) = 1
      · rw [if_pos (decide_eq_true e), if_pos e]; rfl
      · rw [if_neg (fun z => e (of_decide_eq_true z)), if_neg e]; rfl
    have hle : (stA ls (ns.take i)).length ≤ 12 := by
      have := List.length_filter_le (fun z => decide (fstI (ivsOf ls z) = 1)) (ns.take i)
      rw [List.length_take] at this
      unfold stA
      rw [List.length_map]
      omega
    rw [hf1] at htk
    generalize ns[i] = z at hv htk hp1
    generalize ivsOf ls z = l at hv hp1
    refine wgw_name (by simp) ?_
    intro s0' H0 C cl fp
    refine dt_cmp op_eq (de_ix (de_ix (de_dget (hu_of hr) ?_))) (by with_unfolding_all rfl)
    walk_at "nm"
    walk_at "nm"
    refine ⟨_, .inr z, .d (eIvs l), .d (kdL ls), rfl, hv, de_int ⟨l.map sIv, ((0 : Nat) : Int), sIv p1, seq_ivs _ _, rfl, atI_nat (by rw [List.getElem?_map, hp1]; rfl), de_int ⟨_, 0, dI p1.1, rfl, rfl, rfl, de_int (k_eqI ⟨_, rfl, fun h => ?_, fun h => ?_⟩)⟩⟩⟩
    · have h := of_decide_eq_true h
      intro s0' H0 C cl fp
      refine de_tupD (da_cons ?_)
      walk_at "nm"
      refine da_cons (de_int (da_nil ⟨[.str z, .int 1], rfl, (by show 2 ≤ sizeLine; decide), _, updC_same, ?_, ?_⟩))
      · rw [List.length_map, sizeLine_eq]
        omega
      · show updC _ _ _ = updC _ _ _
        rw [updC_updC, htk, if_pos h, List.map_append]
        rfl
    · have h := of_decide_eq_false h
      show updC _ _ _ = updC _ _ _
      rw [htk, if_neg h, List.append_nil]
  rintro M' rfl
  rw [List.length_map, List.take_length]
  have sub_M4 : Sub M3 (updC M3 D4 (.l ((stA ls ns).map sLine))) := (Sub.refl _).new hD4
  have m_D4 : updC M3 D4 (.l ((stA ls ns).map sLine)) D4 = some (.l ((stA ls ns).map sLine)) := updC_same
  generalize updC M3 D4 (.l ((stA ls ns).map sLine)) = M4 at sub_M4 m_D4
  have s4 := fun {ss} (h : seqOf M3 (.c D2) = some ss) => show seqOf M4 (.c D2) = some ss from by
    have n2 : M3 D2 = some (.l ss) := by
      cases e : M3 D2 with
      | none => simp only [seqOf, e] at h; cases h
      | some c => cases c with
        | l ts => simp only [seqOf, e] at h; cases h; rfl
        | k kvs => simp only [seqOf, e] at h; cases h
    simp only [seqOf, sub_M4 _ _ n2]
  have s4 := s4 s3
  -- ends
  refine db_cons (ds_setLc1 (i := 6) (own := [("writer", 8)]) (g := gName 8) rfl sc__law_obstructions.nd rfl rfl (by with_unfolding_all rfl) (blkOk_by (own := [("writer", 8)]) (N := ["line_counts", "line_set", "sizes", "total", "names", "starts", "ends", "found", "writer", "lost", "first", "last", "one"]) (sc := defScope s__law_obstructions) (by decide +kernel)) (fun _ _ _ _ _ => pg_name (i := 8) sc__law_obstructions.nd rfl (.inl rfl)) (di_seq ?_))
  walk_at "nm"
  refine ⟨ns.map dS, s4, fun D5 hD5 => ?_⟩
  refine ⟨fun i M' => M' = updC M4 D5 (.l ((enA cs ls (ns.take i)).map sLine)), rfl, ?_, ?_, ?_⟩
  · rintro i M' rfl
    exact seqOf_updC s4 hD5
  · rintro i y M' hi hy rfl
    rw [List.length_map] at hi
    have hy' : y = dS ns[i] := by
      rw [List.getElem?_map, List.getElem?_eq_getElem hi] at hy
      exact (Option.some.inj hy).symm
    subst hy'
    obtain ⟨hz1, hz2⟩ := hns _ (List.getElem_mem hi)
    have hv := hzv _ hz1
    have hc := hzc _ hz1
    obtain ⟨p1, hp1, hf1⟩ := last_iv hz2
    have htk : enA cs ls (ns.take (i + 1)) = enA cs ls (ns.take i) ++ if lstI (ivsOf ls ns[i]) = gv cs ns[i] then [(ns[i], gv cs ns[i])] else [] := by
      unfold enA
      rw [filt_take _ ns hi, List.map_append]
      congr 1
      by_cases e : lstI (ivsOf ls ns[i]) = gv cs ns[i]
      · rw [if_pos (decide_eq_true e), if_pos e]; rfl
      · rw [if_neg (fun z => e (of_decide_eq_true z)), if_neg e]; rfl
    have hle : (enA cs ls (ns.take i)).length ≤ 12 := by
      have := List.length_filter_le (fun z => decide (lstI (ivsOf ls z) = gv cs z)) (ns.take i)
      rw [List.length_take] at this
      unfold enA
      rw [List.length_map]
      omega
    rw [hf1] at htk
    generalize ns[i] = z at hv hc htk hp1
    generalize ivsOf ls z = l at hv hp1
    generalize gv cs z = v at hc htk
    have hlS : (l.map sIv).getLast? = some (sIv p1) := by rw [List.getLast?_map, hp1]; rfl
    refine wgw_name (by simp) ?_
    intro s0' H0 C cl fp
    refine dt_cmp op_eq (de_ix (de_ix (de_dget (hu_of hr) ?_))) (by with_unfolding_all rfl)
    walk_at "nm"
    walk_at "nm"
    refine ⟨_, .inr z, .d (eIvs l), .d (kdL ls), rfl, hv, de_neg (de_int ⟨1, rfl, l.map sIv, _, sIv p1, seq_ivs _ _, rfl, atI_l hlS, de_int ⟨_, 1, dI p1.2, rfl, rfl, rfl, de_dget (hu_of hr) ?_⟩⟩)⟩
    walk_at "nm"
    walk_at "nm"
    refine ⟨_, .inr z, dI v, .d (kdC cs), rfl, hc, k_eqI ⟨_, rfl, fun h => ?_, fun h => ?_⟩⟩
    · have h := of_decide_eq_true h
      intro s0' H0 C cl fp
      refine de_tupD (da_cons ?_)
      walk_at "nm"
      refine da_cons (de_dget (hu_of hr) ?_)
      walk_at "nm"
      walk_at "nm"
      refine ⟨_, .inr z, dI v, .d (kdC cs), rfl, hc, da_nil ⟨[.str z, .int v], rfl, (by show 2 ≤ sizeLine; decide), _, updC_same, ?_, ?_⟩⟩
      · rw [List.length_map, sizeLine_eq]
        omega
      · show updC _ _ _ = updC _ _ _
        rw [updC_updC, htk, if_pos h, List.map_append]
        rfl
    · have h := of_decide_eq_false h
      show updC _ _ _ = updC _ _ _
      rw [htk, if_neg h, List.append_nil]
  rintro M' rfl
  rw [List.length_map, List.take_length]
  have sub_M5 : Sub M4 (updC M4 D5 (.l ((enA cs ls ns).map sLine))) := (Sub.refl _).new hD5
  have m_D5 : updC M4 D5 (.l ((enA cs ls ns).map sLine)) D5 = some (.l ((enA cs ls ns).map sLine)) := updC_same
  generalize updC M4 D5 (.l ((enA cs ls ns).map sLine)) = M5 at sub_M5 m_D5
  have m5f := sub_M5 _ _ m_D4
  have sub5 := Sub.trans sub3 (Sub.trans sub_M4 sub_M5)
  have fln : ∀ l ∈ stA ls ns, okName l.1 = true := fun l hl => by
    obtain ⟨z, hz, rfl⟩ := List.mem_map.mp hl
    exact hzn z (hns z (List.mem_filter.mp hz).1).1
  have lln : ∀ l ∈ enA cs ls ns, okName l.1 = true := fun l hl => by
    obtain ⟨z, hz, rfl⟩ := List.mem_map.mp hl
    exact hzn z (hns z (List.mem_filter.mp hz).1).1
  generalize totW cs ls = T at hq
  generalize stA ls ns = fi at m5f fln hq
  generalize enA cs ls ns = la at m_D5 lln hq
  clear s3 s4 sub_M4 sub_M5 m_D4 sub3
  have eqE : ∀ c : List Line, PyData.eqv (.list (c.map eLine)) (.list []) = c.isEmpty := fun c => by
    rw [show PyData.eqv (.list (c.map eLine)) (.list []) = decide (c = []) from eqv_list eLine eqv_line c []]
    cases c <;> simp
  -- found
  refine db_cons (ds_set (i := 7) sc__law_obstructions.nd rfl (.inl rfl) (de_cat (de_rep01 fi.isEmpty (de_lstC (da_cons (de_tupD (da_cons (de_str ?_))))))))
  refine da_nil ⟨[.str "no first"], rfl, (by show 1 ≤ sizeLine; decide), da_nil ⟨(by show 1 ≤ sizeLine; decide), fun pa hpa => ?_⟩⟩
  have sub_M6 : Sub M5 (updC M5 pa (.l [.d (.tuple [.str "no first"])])) := (Sub.refl _).new hpa
  have m_pa : updC M5 pa (.l [.d (.tuple [.str "no first"])]) pa = some (.l [.d (.tuple [.str "no first"])]) := updC_same
  generalize updC M5 pa (.l [.d (.tuple [.str "no first"])]) = M6 at sub_M6 m_pa
  refine de_callT call_int1 (by rfl) b4 bt_int (da_cons (de_cmp (op_eqD hr.units) ?_ (nomark _)))
  walk_at "nm"
  have m6f := sub_M6 _ _ m5f
  have m6l := sub_M6 _ _ m_D5
  refine de_lstD (da_nil ⟨[], rfl, Nat.zero_le _, k_eqD (isd_lines m6f) (.d (.list [])) (shaped_lines _ fln) (by decide +kernel) ?_⟩)
  rw [eqE]
  refine da_nil (k_intB ⟨pa, _, rfl, rfl, m_pa, fun pb hpb => ?_⟩)
  have sub_M7 : Sub M6 (updC M6 pb (.l (if fi.isEmpty = true then [.d (.tuple [.str "no first"])] else []))) := (Sub.refl _).new hpb
  have m_pb : updC M6 pb (.l (if fi.isEmpty = true then [.d (.tuple [.str "no first"])] else [])) pb = some (.l (if fi.isEmpty = true then [.d (.tuple [.str "no first"])] else [])) := updC_same
  generalize updC M6 pb (.l (if fi.isEmpty = true then [.d (.tuple [.str "no first"])] else [])) = M7 at sub_M7 m_pb
  refine de_rep01 la.isEmpty (de_lstC (da_cons (de_tupD (da_cons (de_str ?_)))))
  refine da_nil ⟨[.str "no last"], rfl, (by show 1 ≤ sizeLine; decide), da_nil ⟨(by show 1 ≤ sizeLine; decide), fun pc hpc => ?_⟩⟩
  have sub_M8 : Sub M7 (updC M7 pc (.l [.d (.tuple [.str "no last"])])) := (Sub.refl _).new hpc
  have m_pc : updC M7 pc (.l [.d (.tuple [.str "no last"])]) pc = some (.l [.d (.tuple [.str "no last"])]) := updC_same
  generalize updC M7 pc (.l [.d (.tuple [.str "no last"])]) = M8 at sub_M8 m_pc
  refine de_callT call_int1 (by rfl) b4 bt_int (da_cons (de_cmp (op_eqD hr.units) ?_ (nomark _)))
  walk_at "nm"
  have m8f := sub_M8 _ _ (sub_M7 _ _ m6f)
  have m8l := sub_M8 _ _ (sub_M7 _ _ m6l)
  refine de_lstD (da_nil ⟨[], rfl, Nat.zero_le _, k_eqD (isd_lines m8l) (.d (.list [])) (shaped_lines _ lln) (by decide +kernel) ?_⟩)
  rw [eqE]
  refine da_nil (k_intB ⟨pc, _, rfl, rfl, m_pc, fun pd hpd => ?_⟩)
  have sub_M9 : Sub M8 (updC M8 pd (.l (if la.isEmpty = true then [.d (.tuple [.str "no last"])] else []))) := (Sub.refl _).new hpd
  have m_pd : updC M8 pd (.l (if la.isEmpty = true then [.d (.tuple [.str "no last"])] else [])) pd = some (.l (if la.isEmpty = true then [.d (.tuple [.str "no last"])] else [])) := updC_same
  generalize updC M8 pd (.l (if la.isEmpty = true then [.d (.tuple [.str "no last"])] else [])) = M9 at sub_M9 m_pd
  have m9b := sub_M9 _ _ (sub_M8 _ _ m_pb)
  have ob1 : ∀ (b : Bool) (x : Sl), (if b = true then [x] else []).length ≤ 1 := fun b x => by cases b <;> simp
  refine ⟨_, _, by simp only [lstOf, m9b]; rfl, by simp only [lstOf, m_pd]; rfl, ?_, fun pf hpf => ?_⟩
  · have h1 := ob1 fi.isEmpty (.d (.tuple [.str "no first"]))
    have h2 := ob1 la.isEmpty (.d (.tuple [.str "no last"]))
    rw [sizeLine_eq]
    omega
  have hpl0 : ((if fi.isEmpty = true then [obNF] else []) ++ (if la.isEmpty = true then [obNL] else []) : List PyData).length ≤ 2 := by
    rw [List.length_append]
    have h1 : (if fi.isEmpty = true then [obNF] else [] : List PyData).length ≤ 1 := by split <;> simp
    have h2 : (if la.isEmpty = true then [obNL] else [] : List PyData).length ≤ 1 := by split <;> simp
    omega
  have epre : (if fi.isEmpty = true then [Sl.d (.tuple [.str "no first"])] else []) ++ (if la.isEmpty = true then [Sl.d (.tuple [.str "no last"])] else []) = (((if fi.isEmpty = true then [obNF] else []) ++ (if la.isEmpty = true then [obNL] else []) : List PyData)).map Sl.d := by
    rw [List.map_append]
    congr 1 <;> split <;> rfl
  rw [epre]
  have sub9 : Sub M M9 := Sub.trans sub5 (Sub.trans sub_M6 (Sub.trans sub_M7 (Sub.trans sub_M8 sub_M9)))
  have m9f := sub_M9 _ _ m8f
  have m9l := sub_M9 _ _ m8l
  have hq : ∀ cs', Sorted cs cs' → ∀ ws, ws.Perm (cs.map (·.1)) → sortedS ws = true → (if 0 < sumC cs then ((((if fi.isEmpty = true then [obNF] else []) ++ (if la.isEmpty = true then [obNL] else [])) ++ seA fi la T) ++ gpZ cs ls T ws) else []) = obAll cs' (neLS ls) := hq
  generalize ((if fi.isEmpty = true then [obNF] else []) ++ (if la.isEmpty = true then [obNL] else []) : List PyData) = pre at hpl0 hq
  clear sub_M6 sub_M7 sub_M8 m6f m6l m8f m8l m9b epre m_pa m_pb m_pc m_pd sub5 m5f m_D5
  have hpfM : M pf = none := sub9.none hpf
  have n4f : D4 ≠ pf := neC m9f hpf
  have n5f : D5 ≠ pf := neC m9l hpf
  have sub_M10 : Sub M9 (updC M9 pf (.l (pre.map Sl.d))) := (Sub.refl _).new hpf
  have m_pf : updC M9 pf (.l (pre.map Sl.d)) pf = some (.l (pre.map Sl.d)) := updC_same
  generalize updC M9 pf (.l (pre.map Sl.d)) = M10 at sub_M10 m_pf
  have mAf := sub_M10 _ _ m9f
  have mAl := sub_M10 _ _ m9l
  have subA := Sub.trans sub9 sub_M10
  clear sub_M9 sub_M10 m9f m9l sub9
  have hse := seA_len fi la T
  -- single end
  refine db_consJ (fun τ' M' => τ' = [some (.d (eCnt cs)), some (.d (eLS ls)), some (.d (eCnt (numA cs ls))), some (dI T), some (.c D2), some (.c D4), some (.c D5), some (.c pf), none, none, none, none, none] ∧ Sub M M' ∧ M' pf = some (.l ((pre ++ seA fi la T).map .d))) (ds_if (dt_and3 (dt_cmp (op_eqD hr.units) ?_ (by with_unfolding_all rfl)))) ?_
  · walk_at "nm"
    walk_at "nm"
    have noS : seA fi la T = [] → M10 pf = some (.l ((pre ++ seA fi la T).map .d)) := fun h => by rw [h, List.append_nil]; exact m_pf
    refine k_eqD (isd_lines mAf) (isd_lines mAl) (shaped_lines _ fln) (shaped_lines _ lln) ?_
    rw [eqv_list eLine eqv_line]
    refine ⟨_, rfl, fun h1 => dt_cmp op_eq (de_callB call_len_seq (by rfl) b5 bt_len (da_cons ?_)) (by with_unfolding_all rfl), fun h1 => ⟨no1, fun _ => db_nil ⟨rfl, subA, noS ?_⟩⟩⟩
    · have h1 := of_decide_eq_true h1
      subst h1
      walk_at "nm"
      refine da_nil (k_len (by simp only [seqOf, mAf]; rfl) (de_int (k_eqI ⟨_, rfl, fun h2 => dt_cmp op_gt ?_ (by with_unfolding_all rfl), fun h2 => ⟨no1, fun _ => db_nil ⟨rfl, subA, noS ?_⟩⟩⟩)))
      · have h2 := of_decide_eq_true h2
        rw [List.length_map] at h2
        obtain ⟨l, rfl⟩ : ∃ l, fi = [l] := by
          match fi, h2 with
          | [l], _ => exact ⟨l, rfl⟩
          | [], h => cases h
          | a :: b :: r, h => simp at h; omega
        walk_at "nm"
        refine de_int (k_bool ⟨_, rfl, fun h3 => ?_, fun h3 => db_nil ⟨rfl, subA, noS ?_⟩⟩)
        · have h3 := of_decide_eq_true h3
          have hS : seA [l] [l] T = [obSE l] := by
            show (if [l] = [l] ∧ 1 < T then [obSE l] else []) = _
            rw [if_pos ⟨rfl, by omega⟩]
          refine db_cons (ds_append ?_)
          walk_at "nm"
          refine ⟨⟨rfl, _, by simp only [seqOf, m_pf]; rfl⟩, de_tupD (da_cons (de_str (da_cons (de_ix ?_))))⟩
          walk_at "nm"
          refine de_int ⟨[sLine l], 0, sLine l, by simp only [seqOf, mAf]; rfl, rfl, rfl, da_nil ⟨[.str "single end", eLine l], rfl, (by show 2 ≤ sizeLine; decide), pf, _, rfl, m_pf, ?_, db_nil ⟨rfl, sub_put subA hpfM, ?_⟩⟩⟩
          · rw [List.length_map, sizeLine_eq]
            omega
          · rw [updC_same, hS, List.map_append]
            rfl
        · have h3 := of_decide_eq_false h3
          show (if [l] = [l] ∧ 1 < T then [obSE l] else []) = _
          rw [if_neg (fun z => h3 (by have := z.2; omega))]
      · have h2 := of_decide_eq_false h2
        rw [List.length_map] at h2
        match fi, h2 with
        | [], _ => rfl
        | [l], h => exact absurd rfl h
        | a :: b :: r, _ => rfl
    · have h1 := of_decide_eq_false h1
      match fi, h1 with
      | [], _ => rfl
      | [l], h =>
        show (if [l] = la ∧ 1 < T then [obSE l] else []) = _
        rw [if_neg (fun z => h z.1)]
      | a :: b :: r, _ => rfl
  rintro τ' M11 ⟨rfl, subB, mBf⟩
  have hpl1 : (pre ++ seA fi la T).length ≤ 3 := by
    rw [List.length_append]
    omega
  generalize pre ++ seA fi la T = pre at mBf hq hpl1
  -- gaps
  refine db_cons (ds_for PassesOwn.never rfl (di_seq (de_callB (call_sortedD rfl) (by rfl) b3 bt_sorted (da_cons ?_))))
  walk_at "nm"
  refine da_nil (k_sortedD (.d (kdC cs)) (keys_C cs) (by rw [List.length_map]; omega) fun ws pw hpermW hsortW hpw => ?_)
  have hwl : ws.length ≤ 12 := by rw [hpermW.length_eq, List.length_map]; exact l12
  have npw : pf ≠ pw := neC mBf hpw
  have sub_M12 : Sub M11 (updC M11 pw (.l (ws.map dS))) := (Sub.refl _).new hpw
  have m_pw : updC M11 pw (.l (ws.map dS)) pw = some (.l (ws.map dS)) := updC_same
  generalize updC M11 pw (.l (ws.map dS)) = M12 at sub_M12 m_pw
  have mCf := sub_M12 _ _ mBf
  have subC := Sub.trans subB sub_M12
  have hpwM := subB.none hpw
  have gpl : ∀ n, (gpZ cs ls T (ws.take n)).length ≤ 12 := fun n => by
    have : ∀ l : List Str, (gpZ cs ls T l).length ≤ l.length := fun l => by
      induction l with
      | nil => exact Nat.le_refl _
      | cons z r ih =>
        unfold gpZ at ih ⊢
        rw [List.flatMap_cons, List.length_append, List.length_cons]
        have := gwG_len T z (gv cs z) (ivsOf ls z)
        omega
    have := this (ws.take n)
    rw [List.length_take] at this
    omega
  refine ⟨ws.map dS, by simp only [seqOf, m_pw], ?_⟩
  refine ⟨fun n τ' M' => ∃ (y8 y9 : Option Sl), τ' = [some (.d (eCnt cs)), some (.d (eLS ls)), some (.d (eCnt (numA cs ls))), some (dI T), some (.c D2), some (.c D4), some (.c D5), some (.c pf), y8, y9, none, none, none] ∧ Sub M M' ∧ M' pw = some (.l (ws.map dS)) ∧ M' pf = some (.l ((pre ++ gpZ cs ls T (ws.take n)).map .d)), ⟨none, none, rfl, subC, m_pw, by rw [List.take_zero]; unfold gpZ; rw [List.flatMap_nil, List.append_nil]; exact mCf⟩, ?_, ?_, ?_⟩
  · rintro i τ' M' ⟨y8, y9, rfl, sub, mw, mf⟩
    simp only [seqOf, mw]
  · rintro i y τ' M' hi hy ⟨y8, y9, rfl, sub, mw, mf⟩
    rw [List.length_map] at hi
    have hy' : y = dS ws[i] := by
      rw [List.getElem?_map, List.getElem?_eq_getElem hi] at hy
      exact (Option.some.inj hy).symm
    subst hy'
    have hstep : gpZ cs ls T (ws.take (i + 1)) = gpZ cs ls T (ws.take i) ++ gwG T ws[i] (gv cs ws[i]) (ivsOf ls ws[i]) := by
      unfold gpZ
      rw [List.take_add_one, List.getElem?_eq_getElem hi, List.flatMap_append]
      simp
    have hgl := gpl i
    obtain ⟨p1, hp1, ep1⟩ := List.mem_map.mp (hpermW.mem_iff.mp (List.getElem_mem hi))
    have hgc := getC_mem nd hp1
    rw [ep1] at hgc
    have egv : gv cs ws[i] = p1.2 := by unfold gv; rw [hgc]; rfl
    rw [egv] at hstep
    generalize ws[i] = z at hstep hgc
    generalize p1.2 = v at hstep hgc
    have hil := ivsOf_len hls z
    have hbl := btw_len (ivsOf ls z) v
    refine dg_of (pg_name (i := 8) sc__law_obstructions.nd rfl (.inl rfl)) (wg_name ?_)
    refine db_cons (ds_set (i := 9) sc__law_obstructions.nd rfl (.inl rfl) (de_callB call_len_seq (by rfl) b5 bt_len (da_cons (de_callC (c1.up (by decide)) hr (by rfl) (da_cons (de_dget (hu_of hr) ?_))))))
    walk_at "nm"
    walk_at "nm"
    refine ⟨_, .inr z, dI v, .d (kdC cs), rfl, by rw [valS_C, hgc]; rfl, da_cons (de_dget2 (hu_of hr) ?_)⟩
    walk_at "nm"
    refine ⟨⟨_, .d (kdL ls)⟩, ?_⟩
    walk_at "nm"
    refine de_lstD (da_nil ⟨[], rfl, Nat.zero_le _, _, .inr z, .d (kdL ls), rfl, ?_⟩)
    rw [valS_Ld]
    refine da_nil ⟨ivsOf ls z, v, rfl, Nat.le_trans hil (by decide), fun p3 M3' sub3' hp3 m3 => da_nil (k_len (by simp only [seqOf, m3]; rfl) ?_)⟩
    rw [List.length_map]
    have mf3 := sub3' _ _ mf
    have mw3 := sub3' _ _ mw
    have sub3 := Sub.trans sub sub3'
    have hsz : DictIs M3' (.d (eCnt (numA cs ls))) (slK (kdC (numA cs ls))) := .d _
    refine db_cons (ds_if (dt_cmp op_gt ?_ (by with_unfolding_all rfl)))
    walk_at "nm"
    refine de_sub ?_
    walk_at "nm"
    refine de_dget (hu_of hr) ?_
    walk_at "nm"
    walk_at "nm"
    refine ⟨_, .inr z, dI (linA (ivsOf ls z)), hsz, rfl, by rw [valS_C, numA_get, hgc]; rfl, _, _, rfl, rfl, ?_⟩
    refine k_bool ⟨_, rfl, fun h => ?_, fun h => db_nil (db_nil ⟨_, _, rfl, sub3, mw3, ?_⟩)⟩
    · have h : T - linA (ivsOf ls z) < ((btw (ivsOf ls z) v).length : Int) := of_decide_eq_true h
      refine db_cons (ds_append ?_)
      walk_at "nm"
      refine ⟨⟨rfl, _, by simp only [seqOf, mf3]; rfl⟩, de_tupD (da_cons (de_str (da_cons ?_)))⟩
      walk_at "nm"
      refine da_cons ?_
      walk_at "nm"
      refine da_cons (de_sub ?_)
      walk_at "nm"
      refine de_dget (hu_of hr) ?_
      walk_at "nm"
      walk_at "nm"
      refine ⟨_, .inr z, dI (linA (ivsOf ls z)), hsz, rfl, by rw [valS_C, numA_get, hgc]; rfl, _, _, rfl, rfl, ?_⟩
      refine da_nil ⟨[.str "gaps", .str z, .int ((btw (ivsOf ls z) v).length : Int), .int (T - linA (ivsOf ls z))], rfl, (by show 4 ≤ sizeLine; decide), pf, _, rfl, mf3, ?_, db_nil (db_nil ⟨_, _, rfl, sub_put sub3 hpfM, by rw [updC_ne npw.symm]; exact mw3, ?_⟩)⟩
      · rw [List.length_map, List.length_append, sizeLine_eq]
        omega
      · rw [updC_same, hstep]
        unfold gwG
        rw [if_pos h]
        simp only [List.map_append, List.append_assoc]
        rfl
    · have h : ¬ T - linA (ivsOf ls z) < ((btw (ivsOf ls z) v).length : Int) := of_decide_eq_false h
      rw [hstep]
      unfold gwG
      rw [if_neg h, List.append_nil]
      exact mf3
  rintro τ' M13 ⟨y8, y9, rfl, subD, mDw, mDf⟩
  rw [List.length_map, List.take_length] at mDf
  have hgl := gpl ws.length
  rw [List.take_length] at hgl
  have hq := fun cs' hs => hq cs' hs ws hpermW hsortW
  refine db_cons (ds_ret (de_if (dt_cmp op_gt (de_sumV rfl (by rfl) b2 ?_) (by with_unfolding_all rfl))))
  walk_at "nm"
  refine ⟨slK (kdC cs), cs.map (·.2), .d _, sum_seq _, de_int (k_bool ⟨_, rfl, fun h => ?_, fun h => ?_⟩)⟩
  · have h : 0 < sumC cs := of_decide_eq_true h
    walk_at "nm"
    refine q pf M13 _ (fun cs' hs => ?_) subD hpfM mDf ?_
    · rw [← hq cs' hs, if_pos h]
    · rw [List.length_append]
      omega
  · have h : ¬ 0 < sumC cs := of_decide_eq_false h
    refine de_lstC (da_nil ⟨Nat.zero_le _, fun p hp => q p _ [] (fun cs' hs => ?_) (subD.new hp) (subD.none hp) updC_same (Nat.zero_le _)⟩)
    rw [← hq cs' hs, if_neg h]

end

end Pg

namespace Pg
open PySem L2 Y PyProof.Rows

local macro_rules | `(tactic| walk_at "vis") => `(tactic| first | exact Or.inl rfl | exact Or.inr (Or.inl rfl) | exact Or.inr (Or.inr rfl))
local macro_rules | `(tactic| walk_at "e1") => `(tactic| first | walk_at "nm" | refine de_int ?_ | refine de_add ?_ | refine de_sub ?_ | refine de_str ?_ | refine de_non ?_ | refine de_bl ?_)
local macro_rules | `(tactic| walk_at "go") => `(tactic| repeat (first | ((with_reducible show DE _ _ _ _ _ _); walk_at "e1") | ((with_reducible show DA _ _ _ _ _ _); refine da_cons ?_) | refine ⟨_, _, rfl, rfl, ?_⟩))


def putL (ls : LSet) (z : Str) (l : Ivs) : LSet := if (ls.any fun p => decide (p.1 = z)) = true then ls.map (fun p => if p.1 = z then (p.1, l) else p) else ls ++ [(z, l)]
theorem putD_L (ls : LSet) (z : Str) (l : Ivs) : putD (kdL ls) (.inr z) (eIvs l) = kdL (putL ls z l) := by
  unfold putD putL kdL
  have e : ((ls.map fun p => ((Sum.inr p.1 : Key), eIvs p.2)).any fun p => decide (p.1 = .inr z)) = ls.any fun p => decide (p.1 = z) := by
    rw [List.any_map]
    congr 1
    funext p
    show decide ((Sum.inr p.1 : Key) = .inr z) = decide (p.1 = z)
    by_cases h : p.1 = z
    · rw [decide_eq_true h, decide_eq_true (by rw [h])]
    · rw [decide_eq_false h, decide_eq_false (fun q => h (Sum.inr.inj q))]
  rw [e]
  split
  · rw [List.map_map, List.map_map]
    apply List.map_congr_left
    intro p _
    show (if (Sum.inr p.1 : Key) = .inr z then ((Sum.inr p.1 : Key), eIvs l) else (Sum.inr p.1, eIvs p.2)) = (fun p : Str × Ivs => ((Sum.inr p.1 : Key), eIvs p.2)) (if p.1 = z then (p.1, l) else p)
    by_cases h : p.1 = z
    · rw [if_pos h, if_pos (by rw [h])]
    · rw [if_neg h, if_neg (fun q => h (Sum.inr.inj q))]
  · rw [List.map_append]
    rfl
theorem putL_keys (ls : LSet) (z : Str) (l : Ivs) : (putL ls z l).map (·.1) = if z ∈ ls.map (·.1) then ls.map (·.1) else ls.map (·.1) ++ [z] := by
  unfold putL
  have e : (ls.any fun p => decide (p.1 = z)) = true ↔ z ∈ ls.map (·.1) := by
    rw [List.any_eq_true, List.mem_map]
    exact ⟨fun ⟨p, h, q⟩ => ⟨p, h, of_decide_eq_true q⟩, fun ⟨p, h, q⟩ => ⟨p, h, decide_eq_true q⟩⟩
  by_cases h : z ∈ ls.map (·.1)
  · rw [if_pos (e.mpr h), if_pos h, List.map_map]
    apply List.map_congr_left
    intro p _
    show (if p.1 = z then (p.1, l) else p).1 = p.1
    split <;> rfl
  · rw [if_neg (fun q => h (e.mp q)), if_neg h, List.map_append]
    rfl
theorem putL_mem {ls : LSet} {z : Str} {l : Ivs} {p : Str × Ivs} (h : p ∈ putL ls z l) : p ∈ ls ∨ p = (z, l) := by
  unfold putL at h
  split at h
  · obtain ⟨q, hq, e⟩ := List.mem_map.mp h
    by_cases hz : q.1 = z
    · rw [if_pos hz] at e
      exact .inr (by rw [← e, hz])
    · rw [if_neg hz] at e
      exact .inl (e ▸ hq)
  · rcases List.mem_append.mp h with h | h
    · exact .inl h
    · exact .inr (List.mem_singleton.mp h)
theorem subset_len {α : Type} [DecidableEq α] : ∀ {a b : List α}, a.Nodup → (∀ x ∈ a, x ∈ b) → a.length ≤ b.length
  | [], _, _, _ => Nat.zero_le _
  | x :: r, b, nd, h => by
    rw [List.nodup_cons] at nd
    have hx := h x List.mem_cons_self
    have ih := subset_len (a := r) (b := b.erase x) nd.2 fun y hy => by
      have hne : y ≠ x := fun e => nd.1 (e ▸ hy)
      exact (List.mem_erase_of_ne hne).mpr (h y (List.mem_cons_of_mem _ hy))
    have hl := List.length_erase_of_mem hx
    have hp := List.length_pos_of_mem hx
    rw [List.length_cons]
    omega
theorem okLS_put {rows : Cnt} {ls : LSet} {z : Str} {l : Ivs} (l12 : rows.length ≤ 12) (ok : okLS rows ls) (zn : okName z = true) (zin : z ∈ rows.map (·.1)) (okl : okIvs (high (some rows) z) l) (ll : l.length ≤ 1000) : okLS rows (putL ls z l) := by
  obtain ⟨nd, _, h⟩ := ok
  have nd2 : ((putL ls z l).map (·.1)).Nodup := by
    rw [putL_keys]
    split
    · exact nd
    · next hz => exact List.nodup_append.mpr ⟨nd, by simp, fun a ha b hb e => hz (by rw [List.mem_singleton.mp hb] at e; exact e ▸ ha)⟩
  have hm : ∀ p ∈ putL ls z l, okName p.1 = true ∧ p.1 ∈ rows.map (·.1) ∧ okIvs (high (some rows) p.1) p.2 ∧ p.2.length ≤ 1000 := fun p hp => by
    rcases putL_mem hp with hp | rfl
    · exact h p hp
    · exact ⟨zn, zin, okl, ll⟩
  refine ⟨nd2, ?_, hm⟩
  have := subset_len nd2 (b := rows.map (·.1)) fun y hy => by
    obtain ⟨p, hp, rfl⟩ := List.mem_map.mp hy
    exact (hm p hp).2.1
  rw [List.length_map, List.length_map] at this
  omega
theorem ivsOf_ok {rows : Cnt} {ls : LSet} (ok : okLS rows ls) (z : Str) : okIvs (high (some rows) z) (ivsOf ls z) := by
  by_cases h : z ∈ ls.map (·.1)
  · obtain ⟨p, hp, rfl⟩ := List.mem_map.mp h
    rw [ivsOf_mem ok.1 hp]
    exact (ok.2.2 p hp).2.2.1
  · rw [ivsOf_out h]
    exact ⟨fun _ h => (nomatch h), fun i a b h _ => by cases i <;> cases h⟩
theorem okIvs_cons {h : Int} {l : Ivs} {v : Int × Int} (ok : okIvs h l) (h0 : 1 ≤ v.1) (h1 : v.1 ≤ v.2) (h2 : v.2 ≤ h) (h3 : ∀ p, l[0]? = some p → v.2 + 1 < p.1) : okIvs h (v :: l) := by
  refine ⟨fun p hp => ?_, fun i a b ha hb => ?_⟩
  · rcases List.mem_cons.mp hp with rfl | hp
    · exact ⟨h0, h1, h2⟩
    · exact ok.1 p hp
  · cases i with
    | zero =>
      rw [List.getElem?_cons_zero] at ha
      cases ha
      rw [List.getElem?_cons_succ] at hb
      exact h3 b hb
    | succ i =>
      rw [List.getElem?_cons_succ] at ha hb
      exact ok.2 i a b ha hb
theorem okIvs_tail {h : Int} {l : Ivs} (ok : okIvs h l) : okIvs h (l.drop 1) := by
  refine ⟨fun p hp => ok.1 p (List.mem_of_mem_drop hp), fun i a b ha hb => ?_⟩
  rw [List.getElem?_drop] at ha hb
  exact ok.2 (1 + i) a b ha hb
theorem okIvs_dropLast {h : Int} {l : Ivs} (ok : okIvs h l) : okIvs h l.dropLast := by
  rw [List.dropLast_eq_take]
  refine ⟨fun p hp => ok.1 p (List.mem_of_mem_take hp), fun i a b ha hb => ?_⟩
  rw [List.getElem?_take] at ha hb
  split at ha
  · split at hb
    · exact ok.2 i a b ha hb
    · cases hb
  · cases ha
theorem okIvs_last {h : Int} {l : Ivs} {v : Int × Int} (ok : okIvs h l) (h0 : 1 ≤ v.1) (h1 : v.1 ≤ v.2) (h2 : v.2 ≤ h) (h3 : ∀ p, l.getLast? = some p → p.2 + 1 < v.1) : okIvs h (l ++ [v]) := by
  refine okIvs_snoc ok ?_ h0 h1 h2
  unfold leastOf
  cases e : l.getLast? with
  | none => exact h0
  | some p =>
    have := h3 p e
    show p.2 + 2 ≤ v.1
    omega
theorem last_before {h : Int} {l : Ivs} {p q : Int × Int} (ok : okIvs h l) (hl : l.getLast? = some p) (hq : l.dropLast.getLast? = some q) : q.2 + 1 < p.1 := by
  have hn : l ≠ [] := fun e => by rw [e] at hl; cases hl
  rw [List.getLast?_eq_getElem?] at hl hq
  have e1 : l.dropLast.length = l.length - 1 := List.length_dropLast
  rw [List.dropLast_eq_take, List.getElem?_take] at hq
  split at hq
  · next hlt =>
    rw [List.length_take] at hlt hq
    have e2 : min (l.length - 1) l.length = l.length - 1 := by omega
    rw [e2] at hlt hq
    exact ok.2 (l.length - 1 - 1) q p hq (by rw [show l.length - 1 - 1 + 1 = l.length - 1 by omega]; exact hl)
  · cases hq
/-- names with lines -/
def posN (rows : Cnt) : List Str := (rows.filter fun p => decide (0 < p.2)).map (·.1)
section
variable {P : Program} {w : World} {K : PySem.W.Frag} {mg : Str → Option Value} {base : Heap}

local macro_rules | `(tactic| walk_at "nm") => `(tactic| first | ((with_reducible refine de_name (x := "source") (i := 0) (s := ?s) ?hN ?hv ?ht ?q ?hd ?hcd); (case hN => rfl); (case hv => walk_at "vis"); (case ht => rfl); (case hd => decide); (case hcd => decide)) | ((with_reducible refine de_name (x := "line_counts") (i := 1) (s := ?s) ?hN ?hv ?ht ?q ?hd ?hcd); (case hN => rfl); (case hv => walk_at "vis"); (case ht => rfl); (case hd => decide); (case hcd => decide)) | ((with_reducible refine de_name (x := "line_set") (i := 2) (s := ?s) ?hN ?hv ?ht ?q ?hd ?hcd); (case hN => rfl); (case hv => walk_at "vis"); (case ht => rfl); (case hd => decide); (case hcd => decide)) | ((with_reducible refine de_name (x := "names") (i := 3) (s := ?s) ?hN ?hv ?ht ?q ?hd ?hcd); (case hN => rfl); (case hv => walk_at "vis"); (case ht => rfl); (case hd => decide); (case hcd => decide)) | ((with_reducible refine de_name (x := "found") (i := 4) (s := ?s) ?hN ?hv ?ht ?q ?hd ?hcd); (case hN => rfl); (case hv => walk_at "vis"); (case ht => rfl); (case hd => decide); (case hcd => decide)) | ((with_reducible refine de_name (x := "turn") (i := 5) (s := ?s) ?hN ?hv ?ht ?q ?hd ?hcd); (case hN => rfl); (case hv => walk_at "vis"); (case ht => rfl); (case hd => decide); (case hcd => decide)) | ((with_reducible refine de_name (x := "writer") (i := 6) (s := ?s) ?hN ?hv ?ht ?q ?hd ?hcd); (case hN => rfl); (case hv => walk_at "vis"); (case ht => rfl); (case hd => decide); (case hcd => decide)) | ((with_reducible refine de_name (x := "total") (i := 7) (s := ?s) ?hN ?hv ?ht ?q ?hd ?hcd); (case hN => rfl); (case hv => walk_at "vis"); (case ht => rfl); (case hd => decide); (case hcd => decide)) | ((with_reducible refine de_name (x := "own") (i := 8) (s := ?s) ?hN ?hv ?ht ?q ?hd ?hcd); (case hN => rfl); (case hv => walk_at "vis"); (case ht => rfl); (case hd => decide); (case hcd => decide)))


def R_wends : Rr := fun L ss M Q => ∃ (a : Addr) (n : Nat) (rows : Cnt) (ls : LSet), NoDK L ∧ ss = [.c a, .d (eCnt rows), .d (eLS ls)] ∧ Src M a n ∧ n < 800000000 ∧ okCnt rows ∧ okLS rows ls ∧ (∀ q ∈ ls, q.2.length ≤ 3) ∧ ∀ (ls' : LSet) (p : Addr) (M' : Cs), Gx a M M' → p ≠ a → M p = none → M' p = some (.k (slK (kdL ls'))) → Src M' a (n + 10) → okLS rows ls' → (∀ q ∈ ls', q.2.length ≤ 5) → Q (.c p) M'
set_option maxHeartbeats 8000000 in
theorem ok_law_with_ends (F : FunAt K mg "_law_with_ends" s__law_with_ends ["source", "line_counts", "line_set"]) (c1 : Cal P w K mg base "_law_draw" 1 ["source", "limit"] R_draw) (b1 : mg "dict" = none) (b2 : mg "range" = none) (b3 : mg "int" = none) (b4 : mg "len" = none) : Cal P w K mg base "_law_with_ends" 2 ["source", "line_counts", "line_set"] R_wends := by
  refine cal_of F sc__law_with_ends (fun _ ss _ _ ⟨a, n, r, ls, _, e, _⟩ => by rw [e]; rfl) (fun f cdv A outer s H E L ss M Q hr h => ?_)
  obtain ⟨a, n, rows, ls, hL, rfl, src, hn, okr, okl, hl3, fin⟩ := h
  obtain ⟨l1, l12, nd, okp⟩ := okr
  have hkl : (kdC rows).length = rows.length := by unfold kdC; rw [List.length_map]
  -- names
  refine db_cons (ds_setLcKeys (j := 3) (i := 1) (kd := kdC rows) (own := [("writer", 6)]) (g := gName 6) rfl sc__law_with_ends.nd rfl rfl (by with_unfolding_all rfl) (blkOk_by (own := [("writer", 6)]) (N := ["source", "line_counts", "line_set", "names", "found", "turn", "writer", "total", "own"]) (sc := defScope s__law_with_ends) (by decide +kernel)) (fun _ _ _ _ _ => pg_name (i := 6) sc__law_with_ends.nd rfl (.inl rfl)) hL rfl (by walk_at "vis") rfl fun D hD => ?_)
  have Da := src.ne hD
  refine ⟨fun n M' => M' = updC M D (.l ((posN (rows.take n)).map dS)), rfl, fun x hx n k d M' hn hM => ?_, fun M' hM => ?_⟩
  · subst hM
    unfold kdC at hn
    rw [List.getElem?_map] at hn
    obtain ⟨⟨z, v⟩, hpz, epz⟩ := Option.map_eq_some_iff.mp hn
    cases epz
    obtain ⟨hlt, hget⟩ := List.getElem?_eq_some_iff.mp hpz
    have hgz : getC rows z = some v := getC_mem nd (p := (z, v)) (List.mem_of_getElem? hpz)
    have htk : posN (rows.take (n + 1)) = posN (rows.take n) ++ if 0 < v then [z] else [] := by
      unfold posN
      rw [filt_take _ rows hlt, List.map_append, hget]
      congr 1
      by_cases e : 0 < v
      · rw [if_pos (decide_eq_true e), if_pos e]; rfl
      · rw [if_neg (fun z => e (of_decide_eq_true z)), if_neg e]; rfl
    have hlen : (posN (rows.take n)).length ≤ 12 := by
      unfold posN
      rw [List.length_map]
      have h1 := List.length_filter_le (fun p : Str × Int => decide (0 < p.2)) (rows.take n)
      rw [List.length_take] at h1
      omega
    refine wgw_name (by simp) ?_
    intro s0 H0 C cl fp
    refine dt_cmp op_gt (de_dget (hu_of hr) ?_) (by with_unfolding_all rfl)
    walk_at "nm"
    walk_at "nm"
    refine ⟨_, .inr z, dI v, .d (kdC rows), rfl, by rw [valS_C, hgz]; rfl, de_int (k_bool ⟨_, rfl, fun h => ?_, fun h => ?_⟩)⟩
    · have h : 0 < v := of_decide_eq_true h
      intro s0 H0 C cl fp
      walk_at "nm"
      refine ⟨_, updC_same, ?_, ?_⟩
      · rw [List.length_map, sizeLine_eq]
        omega
      · show updC _ _ _ = updC _ _ _
        rw [updC_updC, htk, if_pos h, List.map_append]
        rfl
    · have h : ¬ 0 < v := of_decide_eq_false h
      show updC _ _ _ = updC _ _ _
      rw [htk, if_neg h, List.append_nil]
  subst hM
  rw [hkl, List.take_length]
  have m1D : updC M D (.l ((posN rows).map dS)) D = some (.l ((posN rows).map dS)) := updC_same
  have src1 : Src (updC M D (.l ((posN rows).map dS))) a n := src.upd Da
  have gx1 : Gx a M (updC M D (.l ((posN rows).map dS))) := (Gx.refl M).put hD
  generalize updC M D (.l ((posN rows).map dS)) = M1 at m1D src1 gx1
  have hpos : ∀ z ∈ posN rows, ∃ v, getC rows z = some v ∧ okName z = true ∧ z ∈ rows.map (·.1) ∧ 1 ≤ v ∧ v ≤ 10 ^ 30 := fun z hz => by
    obtain ⟨p, hp, rfl⟩ := List.mem_map.mp hz
    obtain ⟨h1, h2⟩ := List.mem_filter.mp hp
    have h2 := of_decide_eq_true h2
    exact ⟨p.2, getC_mem nd h1, (okp p h1).1, List.mem_map_of_mem h1, by omega, (okp p h1).2.2⟩
  have hpnl : (posN rows).length ≤ 12 := by
    unfold posN
    rw [List.length_map]
    have h1 := List.length_filter_le (fun p : Str × Int => decide (0 < p.2)) rows
    omega
  have hpok : ∀ z ∈ posN rows, okName z = true := fun z hz => by
    obtain ⟨v, _, h, _⟩ := hpos z hz
    exact h
  generalize posN rows = ns at hpos hpnl m1D hpok
  -- found
  refine db_cons (ds_set (i := 4) sc__law_with_ends.nd rfl (.inl rfl) (de_callT call_dictD (by rfl) b1 bt_dict (da_cons ?_)))
  walk_at "nm"
  refine da_nil (k_dictD (.d (kdL ls)) fun pf hpf => ?_)
  have fa := src1.ne hpf
  have nDf : D ≠ pf := neC m1D hpf
  have hpfM : M pf = none := gx1.none hpf fa
  have m2f : updC M1 pf (.k (slK (kdL ls))) pf = some (.k (slK (kdL ls))) := updC_same
  have m2D : updC M1 pf (.k (slK (kdL ls))) D = some (.l (ns.map dS)) := by rw [updC_ne nDf]; exact m1D
  have src2 : Src (updC M1 pf (.k (slK (kdL ls)))) a n := src1.upd fa
  have gx2 : Gx a M (updC M1 pf (.k (slK (kdL ls)))) := gx1.put hpfM
  generalize updC M1 pf (.k (slK (kdL ls))) = M2 at m2f m2D src2 gx2
  have eqN : PyData.eqv (.list (ns.map PyData.str)) (.list []) = decide (ns = []) := eqv_list PyData.str eqv_str ns []
  have isn : IsD M2 (.c D) (.list (ns.map PyData.str)) := IsD.cell (by rw [m2D, List.map_map]; rfl)
  have shn : SeqAt.shaped (.list (ns.map PyData.str)) = true := shaped_list PyData.str ns 0 (by decide) (fun z hz => strOk_name (hpok z hz)) (fun _ _ => Nat.le_refl 0)
  refine db_cons (ds_for PassesOwn.never rfl (di_range1 (by rfl) b2 (de_mul (de_int (de_callT call_int1 (by rfl) b3 bt_int (da_cons (de_cmp (op_neD hr.units) ?_ (by with_unfolding_all rfl)))))))) 
  walk_at "nm"
  refine de_lstD (da_nil ⟨[], rfl, Nat.zero_le _, k_neD isn (.d (.list [])) shn (by decide +kernel) ?_⟩)
  rw [eqN]
  refine da_nil (k_intB ⟨_, _, rfl, rfl, .inl ⟨by decide, by decide⟩, _, rfl, ?_⟩)
  have hk : ∃ k : Int, 2 * (if (!decide (ns = [])) = true then 1 else 0) = k ∧ 0 ≤ k ∧ k ≤ 2 ∧ (0 < k → ns ≠ []) := by
    by_cases e : ns = []
    · exact ⟨0, by simp [e], by decide, by decide, fun z => absurd z (by decide)⟩
    · exact ⟨2, by simp [e], by decide, by decide, fun _ => e⟩
  obtain ⟨k, ek, k0, k1, k2⟩ := hk
  rw [ek]
  refine ⟨by omega, by omega, ?_⟩
  refine ⟨fun i τ' M' => ∃ (cur : LSet) (y5 y6 y7 y8 : Option Sl), τ' = [some (.c a), some (.d (eCnt rows)), some (.d (eLS ls)), some (.c D), some (.c pf), y5, y6, y7, y8] ∧ Gx a M M' ∧ M' D = some (.l (ns.map dS)) ∧ M' pf = some (.k (slK (kdL cur))) ∧ Src M' a (n + i) ∧ okLS rows cur ∧ ∀ q ∈ cur, q.2.length ≤ 3 + i, ⟨ls, none, none, none, none, rfl, gx2, m2D, m2f, src2, okl, hl3⟩, fun _ _ _ _ => trivial, ?_, ?_⟩
  · rintro i y τ' M3 hi rfl ⟨cur, y5, y6, y7, y8, rfl, gx3, m3D, m3f, src3, okc, hlc⟩
    have hi2 : i < 2 := by omega
    have hne : ns ≠ [] := k2 (by omega)
    have hnl0 : 0 < ns.length := List.length_pos_iff.mpr hne
    refine dg_of (pg_name (i := 5) sc__law_with_ends.nd rfl (.inl rfl)) (wg_name ?_)
    refine db_cons (ds_set (i := 6) sc__law_with_ends.nd rfl (.inl rfl) (de_ix ?_))
    walk_at "nm"
    refine de_callC c1 hr (by rfl) (da_cons ?_)
    walk_at "nm"
    refine da_cons (de_callB call_len_seq (by rfl) b4 bt_len (da_cons ?_))
    walk_at "nm"
    refine da_nil (k_len (by simp only [seqOf, m3D]; rfl) (da_nil ⟨a, _, _, rfl, src3, by omega, by rw [List.length_map]; omega, by rw [List.length_map]; omega, fun M4 r4 fr4 src4 h40 h41 => ?_⟩))
    rw [List.length_map] at h41
    have hj : r4.toNat < ns.length := by omega
    have m4D : M4 D = some (.l (ns.map dS)) := by rw [fr4 D Da]; exact m3D
    have m4f : M4 pf = some (.k (slK (kdL cur))) := by rw [fr4 pf fa]; exact m3f
    have gx4 := gx3.trans fr4.gx
    refine ⟨ns.map dS, r4, dS ns[r4.toNat], by simp only [seqOf, m4D], rfl, ?_, ?_⟩
    · have hat : ∀ j : Nat, (hj : j < ns.length) → r4 = (j : Int) → atI (ns.map dS) r4 = some (dS ns[j]) := fun j hj e => by
        rw [e]
        exact atI_nat (by rw [List.getElem?_map, List.getElem?_eq_getElem hj]; rfl)
      exact hat _ hj (by omega)
    obtain ⟨v, hv, zn, zin, v1, v30⟩ := hpos _ (List.getElem_mem hj)
    generalize ns[r4.toNat] = z at hv zn zin
    clear hj
    refine db_cons (ds_set (i := 7) sc__law_with_ends.nd rfl (.inl rfl) (de_dget (hu_of hr) ?_))
    walk_at "nm"
    walk_at "nm"
    refine ⟨_, .inr z, dI v, .d (kdC rows), rfl, by rw [valS_C, hv]; rfl, ?_⟩
    refine db_cons (ds_set (i := 8) sc__law_with_ends.nd rfl (.inl rfl) (de_dget2 (hu_of hr) ?_))
    walk_at "nm"
    refine ⟨⟨_, .c m4f⟩, ?_⟩
    walk_at "nm"
    refine de_lstD (da_nil ⟨[], rfl, Nat.zero_le _, _, .inr z, .c m4f, rfl, ?_⟩)
    rw [valS_Ld]
    have hiv := ivsOf_ok okc z
    rw [show high (some rows) z = v by show (getC rows z).getD 0 = v; rw [hv]; rfl] at hiv
    have hil := ivsOf_len hlc z
    generalize ivsOf cur z = l at hiv hil
    have sl : ∀ M' : Cs, seqOf M' (.d (eIvs l)) = some (l.map sIv) := fun M' => seq_ivs _ _
    have eqL : PyData.eqv (eIvs l) (.list []) = decide (l = []) := eqv_list eIv eqv_iv l []
    refine db_consJ (fun τ' M' => ∃ (p9 : Addr) (l' : Ivs), τ' = [some (.c a), some (.d (eCnt rows)), some (.d (eLS ls)), some (.c D), some (.c pf), some (dI i), some (dS z), some (dI v), some (.c p9)] ∧ Sub M4 M' ∧ M4 p9 = none ∧ M' p9 = some (.l (l'.map sIv)) ∧ okIvs v l' ∧ l'.length ≤ 3 + (i + 1)) ?_ ?_
    · have two : i = 0 ∨ i = 1 := by omega
      have mkA : ∀ (A : Expr → Expr) , True := fun _ => trivial
      rcases two with rfl | rfl
      · -- the first line
        refine ds_ifB (decide (l = [] ∨ 2 < fstI l)) (dt_and2 (dt_cmp op_eq ?_ (by with_unfolding_all rfl))) (fun h => ?_) fun h => ?_
        · walk_at "nm"
          refine de_int (k_eqI ⟨_, rfl, fun _ => dt_or2 (dt_cmp (op_eqD hr.units) ?_ (by with_unfolding_all rfl)), fun z => absurd z (by decide)⟩)
          walk_at "nm"
          refine de_lstD (da_nil ⟨[], rfl, Nat.zero_le _, k_eqD (.d (eIvs l)) (.d (.list [])) (shaped_ivs l) (by decide +kernel) ?_⟩)
          rw [eqL]
          refine ⟨_, rfl, fun h => ⟨(decide_eq_true (.inl (of_decide_eq_true h))).symm, rfl⟩, fun h => ?_⟩
          have h := of_decide_eq_false h
          obtain ⟨p0, hp0, _, hf0⟩ := head_iv h
          refine dt_cmp op_gt (de_ix (de_ix ?_)) (by with_unfolding_all rfl)
          walk_at "nm"
          refine de_int ⟨l.map sIv, ((0 : Nat) : Int), sIv p0, sl _, rfl, atI_nat (by rw [List.getElem?_map, hp0]; rfl), de_int ⟨_, 0, dI p0.1, rfl, rfl, rfl, de_int (k_bool ⟨_, rfl, ?_, rfl⟩)⟩⟩
          rw [hf0]
          exact decide_eq_decide.mpr ⟨fun e => .inr e, fun z => z.resolve_left h⟩
        · have h := of_decide_eq_true h
          refine db_cons (ds_set (i := 8) sc__law_with_ends.nd rfl (.inl rfl) (de_cat (de_lstD (da_cons (de_tupD (da_cons (de_int (da_cons (de_int (da_nil ⟨[.int 1, .int 1], rfl, (by show 2 ≤ sizeLine; decide), da_nil ⟨[.tuple [.int 1, .int 1]], rfl, (by show 1 ≤ sizeLine; decide), ?_⟩⟩)))))))))) 
          walk_at "nm"
          refine ⟨[sIv (1, 1)], l.map sIv, rfl, by simp only [lstOf, eIvs, List.map_map]; rfl, ?_, fun p9 hp9 => db_nil ⟨p9, (1, 1) :: l, rfl, (Sub.refl _).new hp9, hp9, updC_same, okIvs_cons hiv (by decide) (by decide) v1 fun p hp => ?_, ?_⟩⟩
          · rw [List.length_map, sizeLine_eq]
            show 1 + l.length ≤ _
            omega
          · have hne : l ≠ [] := fun e => by rw [e] at hp; cases hp
            obtain ⟨p0, hp0, _, hf0⟩ := head_iv hne
            rw [hp] at hp0
            cases hp0
            rcases h with h | h
            · exact absurd h hne
            · show 1 + 1 < p.1
              omega
          · rw [List.length_cons]
            omega
        · have h := of_decide_eq_false h
          have hne : l ≠ [] := fun e => h (.inl e)
          obtain ⟨p0, hp0, _, hf0⟩ := head_iv hne
          have hf2 : ¬ 2 < p0.1 := fun e => h (.inr (by omega))
          refine db_cons (ds_ifT (dt_cmp op_eq ?_ (by with_unfolding_all rfl)) (db_cons (ds_set (i := 8) sc__law_with_ends.nd rfl (.inl rfl) (de_cat (de_lstD (da_cons (de_tupD (da_cons (de_int (da_cons (de_ix (de_ix ?_))))))))))))
          · walk_at "nm"
            exact de_int (k_eqI ⟨_, rfl, decide_eq_true rfl, rfl⟩)
          walk_at "nm"
          refine de_int ⟨l.map sIv, ((0 : Nat) : Int), sIv p0, sl _, rfl, atI_nat (by rw [List.getElem?_map, hp0]; rfl), de_int ⟨_, 1, dI p0.2, rfl, rfl, rfl, da_nil ⟨[.int 1, .int p0.2], rfl, (by show 2 ≤ sizeLine; decide), da_nil ⟨[.tuple [.int 1, .int p0.2]], rfl, (by show 1 ≤ sizeLine; decide), de_slLo ?_⟩⟩⟩⟩
          walk_at "nm"
          refine de_int ⟨1, rfl, l.map sIv, rfl, sl _, fun p8 hp8 => ?_⟩
          rw [cutG_lo1]
          refine ⟨[sIv (1, p0.2)], (l.map sIv).drop 1, rfl, by simp only [lstOf, updC_same], ?_, fun p9 hp9 => ?_⟩
          · rw [List.length_drop, List.length_map, sizeLine_eq]
            show 1 + (l.length - 1) ≤ _
            omega
          have hp9' := ((Sub.refl M4).new hp8).none hp9
          have hm0 := hiv.1 p0 (List.mem_of_getElem? hp0)
          refine db_nil (db_nil ⟨p9, (1, p0.2) :: l.drop 1, rfl, ((Sub.refl _).new hp8).new hp9, hp9', by rw [updC_same, List.map_cons, List.map_drop]; rfl, okIvs_cons (okIvs_tail hiv) (Int.le_refl 1) (by show 1 ≤ p0.2; omega) hm0.2.2 fun p hp => ?_, ?_⟩)
          · rw [List.getElem?_drop] at hp
            exact hiv.2 0 p0 p hp0 hp
          · rw [List.length_cons, List.length_drop]
            omega
      · -- the last line
        refine ds_ifF (dt_and2 (dt_cmp op_eq ?_ (by with_unfolding_all rfl))) (db_cons (ds_ifF (dt_cmp op_eq ?_ (by with_unfolding_all rfl)) (db_cons (ds_ifB (decide (l = [] ∨ lstI l < v - 1)) (dt_or2 (dt_cmp (op_eqD hr.units) ?_ (by with_unfolding_all rfl))) (fun h => ?_) fun h => ?_))))
        · walk_at "nm"
          exact de_int (k_eqI ⟨_, rfl, fun z => absurd z (by decide), fun _ => ⟨rfl, rfl⟩⟩)
        · walk_at "nm"
          exact de_int (k_eqI ⟨_, rfl, decide_eq_false (by decide), rfl⟩)
        · walk_at "nm"
          refine de_lstD (da_nil ⟨[], rfl, Nat.zero_le _, k_eqD (.d (eIvs l)) (.d (.list [])) (shaped_ivs l) (by decide +kernel) ?_⟩)
          rw [eqL]
          refine ⟨_, rfl, fun h => ⟨(decide_eq_true (.inl (of_decide_eq_true h))).symm, rfl⟩, fun h => ?_⟩
          have h := of_decide_eq_false h
          obtain ⟨p0, hp0, hf0⟩ := last_iv h
          have hlS : (l.map sIv).getLast? = some (sIv p0) := by rw [List.getLast?_map, hp0]; rfl
          refine dt_cmp op_lt (de_ix (de_ix ?_)) (by with_unfolding_all rfl)
          walk_at "nm"
          refine de_neg (de_int ⟨1, rfl, l.map sIv, _, sIv p0, sl _, rfl, atI_l hlS, de_int ⟨_, 1, dI p0.2, rfl, rfl, rfl, de_sub ?_⟩⟩)
          walk_at "nm"
          refine de_int ⟨_, _, rfl, rfl, k_bool ⟨_, rfl, ?_, rfl⟩⟩
          rw [hf0]
          exact decide_eq_decide.mpr ⟨fun e => .inr e, fun z => z.resolve_left h⟩
        · have h := of_decide_eq_true h
          refine db_cons (ds_set (i := 8) sc__law_with_ends.nd rfl (.inl rfl) (de_cat ?_))
          walk_at "nm"
          refine de_lstD (da_cons (de_tupD (da_cons ?_)))
          walk_at "nm"
          refine da_cons ?_
          walk_at "nm"
          refine da_nil ⟨[.int v, .int v], rfl, (by show 2 ≤ sizeLine; decide), da_nil ⟨[.tuple [.int v, .int v]], rfl, (by show 1 ≤ sizeLine; decide), ?_⟩⟩
          refine ⟨l.map sIv, [sIv (v, v)], by simp only [lstOf, eIvs, List.map_map]; rfl, rfl, ?_, fun p9 hp9 => db_nil (db_nil (db_nil ⟨p9, l ++ [(v, v)], rfl, (Sub.refl _).new hp9, hp9, by rw [updC_same, List.map_append]; rfl, okIvs_last hiv v1 (Int.le_refl _) (Int.le_refl _) fun p hp => ?_, ?_⟩))⟩
          · rw [List.length_map, sizeLine_eq]
            show l.length + 1 ≤ _
            omega
          · have hne : l ≠ [] := fun e => by rw [e] at hp; cases hp
            obtain ⟨p0, hp0, hf0⟩ := last_iv hne
            rw [hp] at hp0
            cases hp0
            rcases h with h | h
            · exact absurd h hne
            · show p.2 + 1 < v
              omega
          · rw [List.length_append]
            show l.length + 1 ≤ _
            omega
        · have h := of_decide_eq_false h
          have hne : l ≠ [] := fun e => h (.inl e)
          obtain ⟨p0, hp0, hf0⟩ := last_iv hne
          have hlS : (l.map sIv).getLast? = some (sIv p0) := by rw [List.getLast?_map, hp0]; rfl
          refine db_cons (ds_set (i := 8) sc__law_with_ends.nd rfl (.inl rfl) (de_cat (de_slHi ?_)))
          walk_at "nm"
          refine de_neg (de_int ⟨1, rfl, -1, rfl, l.map sIv, rfl, sl _, fun p8 hp8 => ?_⟩)
          rw [cutG_hiN]
          refine de_lstD (da_cons (de_tupD (da_cons (de_ix (de_ix ?_)))))
          walk_at "nm"
          refine de_neg (de_int ⟨1, rfl, l.map sIv, _, sIv p0, sl _, rfl, atI_l hlS, de_int ⟨_, 0, dI p0.1, rfl, rfl, rfl, da_cons ?_⟩⟩)
          walk_at "nm"
          refine da_nil ⟨[.int p0.1, .int v], rfl, (by show 2 ≤ sizeLine; decide), da_nil ⟨[.tuple [.int p0.1, .int v]], rfl, (by show 1 ≤ sizeLine; decide), ?_⟩⟩
          refine ⟨(l.map sIv).dropLast, [sIv (p0.1, v)], by simp only [lstOf, updC_same], rfl, ?_, fun p9 hp9 => ?_⟩
          · rw [List.length_dropLast, List.length_map, sizeLine_eq]
            show l.length - 1 + 1 ≤ _
            omega
          have hp9' := ((Sub.refl M4).new hp8).none hp9
          have hm0 := hiv.1 p0 (List.mem_of_getLast? hp0)
          refine db_nil (db_nil (db_nil ⟨p9, l.dropLast ++ [(p0.1, v)], rfl, ((Sub.refl _).new hp8).new hp9, hp9', by rw [updC_same, List.map_append, List.map_dropLast]; rfl, okIvs_last (okIvs_dropLast hiv) hm0.1 (by show p0.1 ≤ v; omega) (Int.le_refl _) fun p hp => (last_before hiv hp0 hp : p.2 + 1 < p0.1), ?_⟩))
          rw [List.length_append, List.length_dropLast]
          show l.length - 1 + 1 ≤ _
          omega
    rintro τ' M5 ⟨p9, l', rfl, sub5, hp9, m59, okl', hl'⟩
    refine db_frz (j := 8) (p := p9) (ds := l'.map eIv) rfl (by rw [m59, List.map_map]; rfl) ?_
    have n9f : pf ≠ p9 := neC m4f hp9
    have n9D : D ≠ p9 := neC m4D hp9
    have n9a : p9 ≠ a := src4.ne hp9
    have m6f : delC M5 p9 pf = some (.k (slK (kdL cur))) := by rw [delC_ne n9f]; exact sub5 _ _ m4f
    have m6D : delC M5 p9 D = some (.l (ns.map dS)) := by rw [delC_ne n9D]; exact sub5 _ _ m4D
    have src6 : Src (delC M5 p9) a (n + i + 1) := (src4.sub sub5).del n9a
    have gx6 : Gx a M (delC M5 p9) := fun b c hb e => by
      rw [delC_ne (neC e (gx4.none hp9 n9a))]
      exact sub5 _ _ (gx4 _ _ hb e)
    generalize delC M5 p9 = M6 at m6f m6D src6 gx6
    refine db_cons (ds_dput (hu_of hr) ?_)
    walk_at "nm"
    walk_at "nm"
    walk_at "nm"
    refine ⟨pf, _, .inr z, rfl, m6f, rfl, ?_, db_nil ⟨putL cur z l', _, _, _, _, rfl, gx6.put hpfM, by rw [updC_ne nDf]; exact m6D, ?_, src6.upd fa, okLS_put l12 okc zn zin (by show okIvs ((getC rows z).getD 0) l'; rw [hv]; exact okl') (by omega), fun q hq => ?_⟩⟩
    · have := okc.2.1
      unfold slK kdL
      rw [List.length_map, List.length_map, sizeLine_eq]
      omega
    · rw [updC_same, show (PyData.list (l'.map eIv)) = eIvs l' from rfl, putS_D, putD_L]
    · rcases putL_mem hq with hq | rfl
      · have := hlc q hq
        omega
      · exact hl'
  rintro τ' M3 ⟨cur, y5, y6, y7, y8, rfl, gx3, m3D, m3f, src3, okc, hlc⟩
  refine db_cons (ds_ret ?_)
  walk_at "nm"
  exact fin cur pf M3 gx3 fa hpfM m3f (src3.mono (by omega)) okc fun q hq => by
    have := hlc q hq
    omega

end

end Pg

namespace Pg
open PySem L2 Y PyProof.Rows

local macro_rules | `(tactic| walk_at "vis") => `(tactic| first | exact Or.inl rfl | exact Or.inr (Or.inl rfl) | exact Or.inr (Or.inr rfl))
local macro_rules | `(tactic| walk_at "e1") => `(tactic| first | walk_at "nm" | refine de_int ?_ | refine de_add ?_ | refine de_sub ?_ | refine de_str ?_ | refine de_non ?_ | refine de_bl ?_)
local macro_rules | `(tactic| walk_at "go") => `(tactic| repeat (first | ((with_reducible show DE _ _ _ _ _ _); walk_at "e1") | ((with_reducible show DA _ _ _ _ _ _); refine da_cons ?_) | refine ⟨_, _, rfl, rfl, ?_⟩))


theorem dks_cons {X : Cx} {L : Lk} {k v : Expr} {ks : List (Option Expr)} {vs : List Expr} {τ : List (Option Sl)} {M : Cs} {Q : List (Key × Sl) → Cs → Prop} (h : DE X L k τ M fun s M1 => ∃ key, s = .d (kD key) ∧ DE X L v τ M1 fun x M2 => DKs X L ks vs τ M2 fun l M3 => Q ((key, x) :: l) M3) : DKs X L (some k :: ks) (v :: vs) τ M Q := h
theorem dks_nil {X : Cx} {L : Lk} {τ : List (Option Sl)} {M : Cs} {Q : List (Key × Sl) → Cs → Prop} (h : Q [] M) : DKs X L [] [] τ M Q := h
theorem Gx.del {a p : Addr} {M M' : Cs} (h : Gx a M M') (hp : M p = Option.none) : Gx a M (delC M' p) := fun b d hb e => by
  rw [delC_ne (neC e hp)]
  exact h b d hb e
/-- single lines, two steps apart -/
def twoL (f : Int) (n : Nat) : Ivs := (List.range n).map fun k => (f + 2 * (k : Nat), f + 2 * (k : Nat))
theorem twoL_ok {f h : Int} {n : Nat} (hf : 1 ≤ f) (hh : ∀ k : Nat, k < n → f + 2 * (k : Nat) ≤ h) : okIvs h (twoL f n) := by
  unfold twoL
  refine ⟨fun p hp => ?_, fun i a b ha hb => ?_⟩
  · obtain ⟨k, hk, rfl⟩ := List.mem_map.mp hp
    have := hh k (List.mem_range.mp hk)
    exact ⟨by show 1 ≤ f + 2 * (k : Int); omega, Int.le_refl _, this⟩
  · rw [List.getElem?_map] at ha hb
    obtain ⟨x, hx, rfl⟩ := Option.map_eq_some_iff.mp ha
    obtain ⟨y, hy, rfl⟩ := Option.map_eq_some_iff.mp hb
    have e1 := (List.getElem?_eq_some_iff.mp hx).2
    have e2 := (List.getElem?_eq_some_iff.mp hy).2
    rw [List.getElem_range] at e1 e2
    show f + 2 * (x : Int) + 1 < f + 2 * (y : Int)
    omega
theorem twoL_len (f : Int) (n : Nat) : (twoL f n).length = n := by
  unfold twoL
  rw [List.length_map, List.length_range]
theorem twoL_succ (f : Int) (n : Nat) : twoL f (n + 1) = twoL f n ++ [(f + 2 * (n : Nat), f + 2 * (n : Nat))] := by
  unfold twoL
  rw [List.range_succ, List.map_append]
  rfl
theorem sum_between {vs : Cnt} {h : Int} (hv : ∀ v ∈ vs, 1 ≤ v.2 ∧ v.2 ≤ h) : (vs.length : Int) ≤ sumC vs ∧ sumC vs ≤ h * (vs.length : Int) := by
  unfold sumC
  induction vs with
  | nil => simp
  | cons v r ih =>
    rw [List.map_cons, List.sum_cons, List.length_cons]
    have h1 := hv v List.mem_cons_self
    have h2 := ih fun u hu => hv u (List.mem_cons_of_mem _ hu)
    have e : h * ((r.length + 1 : Nat) : Int) = h * (r.length : Int) + h := by
      rw [Int.natCast_add, Int.mul_add]
      simp
    rw [e]
    omega
/-- a line of each of the others -/
def fullL (vs : Cnt) : LSet := vs.map fun p => (p.1, [(1, p.2)])
section
variable {P : Program} {w : World} {K : PySem.W.Frag} {mg : Str → Option Value} {base : Heap}

local macro_rules | `(tactic| walk_at "nm") => `(tactic| first | ((with_reducible refine de_name (x := "source") (i := 0) (s := ?s) ?hN ?hv ?ht ?q ?hd ?hcd); (case hN => rfl); (case hv => walk_at "vis"); (case ht => rfl); (case hd => decide); (case hcd => decide)) | ((with_reducible refine de_name (x := "names") (i := 1) (s := ?s) ?hN ?hv ?ht ?q ?hd ?hcd); (case hN => rfl); (case hv => walk_at "vis"); (case ht => rfl); (case hd => decide); (case hcd => decide)) | ((with_reducible refine de_name (x := "wide") (i := 2) (s := ?s) ?hN ?hv ?ht ?q ?hd ?hcd); (case hN => rfl); (case hv => walk_at "vis"); (case ht => rfl); (case hd => decide); (case hcd => decide)) | ((with_reducible refine de_name (x := "others") (i := 3) (s := ?s) ?hN ?hv ?ht ?q ?hd ?hcd); (case hN => rfl); (case hv => walk_at "vis"); (case ht => rfl); (case hd => decide); (case hcd => decide)) | ((with_reducible refine de_name (x := "lost") (i := 4) (s := ?s) ?hN ?hv ?ht ?q ?hd ?hcd); (case hN => rfl); (case hv => walk_at "vis"); (case ht => rfl); (case hd => decide); (case hcd => decide)) | ((with_reducible refine de_name (x := "style") (i := 5) (s := ?s) ?hN ?hv ?ht ?q ?hd ?hcd); (case hN => rfl); (case hv => walk_at "vis"); (case ht => rfl); (case hd => decide); (case hcd => decide)) | ((with_reducible refine de_name (x := "first") (i := 6) (s := ?s) ?hN ?hv ?ht ?q ?hd ?hcd); (case hN => rfl); (case hv => walk_at "vis"); (case ht => rfl); (case hd => decide); (case hcd => decide)) | ((with_reducible refine de_name (x := "line_set") (i := 7) (s := ?s) ?hN ?hv ?ht ?q ?hd ?hcd); (case hN => rfl); (case hv => walk_at "vis"); (case ht => rfl); (case hd => decide); (case hcd => decide)) | ((with_reducible refine de_name (x := "line_counts") (i := 8) (s := ?s) ?hN ?hv ?ht ?q ?hd ?hcd); (case hN => rfl); (case hv => walk_at "vis"); (case ht => rfl); (case hd => decide); (case hcd => decide)) | ((with_reducible refine de_name (x := "writer") (i := 9) (s := ?s) ?hN ?hv ?ht ?q ?hd ?hcd); (case hN => rfl); (case hv => walk_at "vis"); (case ht => rfl); (case hd => decide); (case hcd => decide)) | ((with_reducible refine de_name (x := "odd") (i := 10) (s := ?s) ?hN ?hv ?ht ?q ?hd ?hcd); (case hN => rfl); (case hv => walk_at "vis"); (case ht => rfl); (case hd => decide); (case hcd => decide)) | ((with_reducible refine de_name (x := "step") (i := 11) (s := ?s) ?hN ?hv ?ht ?q ?hd ?hcd); (case hN => rfl); (case hv => walk_at "vis"); (case ht => rfl); (case hd => decide); (case hcd => decide)))


def R_tight : Rr := fun L ss M Q => ∃ (a : Addr) (n : Nat), NoDK L ∧ ss = [.c a] ∧ Src M a n ∧ n < 800000000 ∧ ∀ (cs : Cnt) (ls : LSet) (M' : Cs), Gx a M M' → Src M' a (n + 50) → okCnt cs → okLS cs ls → (∀ q ∈ ls, q.2.length ≤ 40) → Q (.d (.tuple [eCnt cs, eLS ls])) M'
set_option maxHeartbeats 8000000 in
theorem ok_law_tight (F : FunAt K mg "_law_tight" s__law_tight ["source"]) (c1 : Cal P w K mg base "_law_draw" 1 ["source", "limit"] R_draw) (c2 : Cal P w K mg base "_law_writers" 2 ["source", "number"] R_writers) (b1 : mg "dict" = none) (b2 : mg "sum" = none) (b3 : mg "int" = none) (b4 : mg "range" = none) (b5 : mg "max" = none) : Cal P w K mg base "_law_tight" 3 ["source"] R_tight := by
  refine cal_of F sc__law_tight (fun _ ss _ _ ⟨a, n, _, e, _⟩ => by rw [e]; rfl) (fun f cdv A outer s H E L ss M Q hr h => ?_)
  obtain ⟨a, n, hL, rfl, src, hn, fin⟩ := h
  -- names
  refine db_cons (ds_set (i := 1) sc__law_tight.nd rfl (.inl rfl) (de_callC c2 hr (by rfl) (da_cons ?_)))
  walk_at "nm"
  refine da_cons (de_add (de_int (de_callC (c1.up (by decide)) hr (by rfl) (da_cons ?_))))
  walk_at "nm"
  refine da_cons (de_int (da_nil ⟨a, n, 4, rfl, src, by omega, by decide, by decide, fun M1 r1 fr1 src1 h10 h11 => ⟨_, _, rfl, rfl, da_nil ⟨a, n + 1, 2 + r1, rfl, src1, by omega, by omega, by omega, fun zs p2 M2 gx2 p2a hp2 m2 src2 hzl znd zmem => ?_⟩⟩⟩))
  have gx02 : Gx a M M2 := fr1.gx.trans gx2
  obtain ⟨z0, z1, zr, rfl⟩ : ∃ z0 z1 zr, zs = z0 :: z1 :: zr := by
    have h2 : 2 ≤ zs.length := by omega
    match zs, h2 with
    | z0 :: z1 :: zr, _ => exact ⟨z0, z1, zr, rfl⟩
    | [], h => simp at h
    | [_], h => simp at h
  have z5 : (z1 :: zr).length ≤ 4 := by
    rw [List.length_cons] at hzl
    omega
  have z1l : 1 ≤ (z1 :: zr).length := by rw [List.length_cons]; omega
  have z0t : z0 ∉ z1 :: zr := (List.nodup_cons.mp znd).1
  have znd2 : (z1 :: zr).Nodup := (List.nodup_cons.mp znd).2
  have s2 : seqOf M2 (.c p2) = some ((z0 :: z1 :: zr).map dS) := by simp only [seqOf, m2]
  clear fr1 gx2 src1 hp2
  -- wide
  refine db_cons (ds_set (i := 2) sc__law_tight.nd rfl (.inr rfl) (de_ix (de_lstD (da_cons (de_int (da_cons (de_int (da_nil ⟨[.int 3, .int 8], rfl, (by show 2 ≤ sizeLine; decide), de_callC (c1.up (by decide)) hr (by rfl) (da_cons ?_)⟩))))))))
  walk_at "nm"
  refine da_cons (de_int (da_nil ⟨a, _, 2, rfl, src2, by omega, by decide, by decide, fun M3 r3 fr3 src3 h30 h31 => ?_⟩))
  have e3 : ∃ u : Int, 1 ≤ u ∧ u ≤ 8 ∧ atI ([.int 3, .int 8].map Sl.d) r3 = some (dI u) := by
    have c8 : r3 = 0 ∨ r3 = 1 := by omega
    rcases c8 with rfl | rfl
    · exact ⟨3, by decide, by decide, rfl⟩
    · exact ⟨8, by decide, by decide, rfl⟩
  obtain ⟨wd, wd0, wd1, ewd⟩ := e3
  refine ⟨_, r3, dI wd, rfl, rfl, ewd, ?_⟩
  have m3 : M3 p2 = some (.l ((z0 :: z1 :: zr).map dS)) := by rw [fr3 p2 p2a]; exact m2
  have gx3 := gx02.trans fr3.gx
  clear s2 m2 ewd h30 h31
  -- others
  refine db_cons (ds_set (i := 3) sc__law_tight.nd rfl (.inl rfl) (de_frzK (de_callT (call_dictP rfl) (by rfl) b1 bt_dict (da_cons (de_lc0 (own := [("writer", 9)]) (g := gName 9) rfl sc__law_tight.nd (blkOk_by (own := [("writer", 9)]) (N := ["source", "names", "wide", "others", "lost", "style", "first", "line_set", "line_counts", "writer", "odd", "step"]) (sc := defScope s__law_tight) (by decide +kernel)) (fun _ _ _ _ _ => pg_name (i := 9) sc__law_tight.nd rfl (.inl rfl)) (di_seq (de_slLo ?_)))))))
  walk_at "nm"
  refine de_int ⟨1, rfl, (z0 :: z1 :: zr).map dS, rfl, by simp only [seqOf, m3], fun p4 hp4 => ?_⟩
  rw [cutG_lo1]
  have p4a := src3.ne hp4
  have n24 : p2 ≠ p4 := neC m3 hp4
  have hp4M : M p4 = none := gx3.none hp4 p4a
  have m4z : updC M3 p4 (.l (((z0 :: z1 :: zr).map dS).drop 1)) p4 = some (.l ((z1 :: zr).map dS)) := updC_same
  have m4 : updC M3 p4 (.l (((z0 :: z1 :: zr).map dS).drop 1)) p2 = some (.l ((z0 :: z1 :: zr).map dS)) := by rw [updC_ne n24]; exact m3
  have src4 : Src (updC M3 p4 (.l (((z0 :: z1 :: zr).map dS).drop 1))) a (n + 22) := src3.upd p4a
  have gx4 : Gx a M (updC M3 p4 (.l (((z0 :: z1 :: zr).map dS).drop 1))) := gx3.put hp4M
  generalize updC M3 p4 (.l (((z0 :: z1 :: zr).map dS).drop 1)) = M4 at m4z m4 src4 gx4
  generalize hzt : z1 :: zr = zt at m4z m4 z5 z1l z0t znd2
  have ztm : ∀ z ∈ zt, z ∈ pool14 := fun z hz => zmem z (by rw [hzt]; exact List.mem_cons_of_mem _ hz)
  refine ⟨zt.map dS, by simp only [seqOf, m4z], fun D hD => ?_⟩
  have n4D : p4 ≠ D := neC m4z hD
  have n2D : p2 ≠ D := neC m4 hD
  have Da := src4.ne hD
  have hDM : M D = none := gx4.none hD Da
  refine ⟨fun i M' => ∃ vs : Cnt, Gx a M M' ∧ M' p4 = some (.l (zt.map dS)) ∧ M' p2 = some (.l ((z0 :: zt).map dS)) ∧ M' D = some (.l ((kdC vs).map Y.prD)) ∧ Src M' a (n + 22 + i) ∧ vs.map (·.1) = zt.take i ∧ ∀ v ∈ vs, 1 ≤ v.2 ∧ v.2 ≤ 8, ⟨[], gx4.put hDM, by rw [updC_ne n4D]; exact m4z, by rw [updC_ne n2D]; exact m4, updC_same, src4.upd Da, rfl, fun _ h => nomatch h⟩, ?_, ?_, ?_⟩
  · rintro i M' ⟨vs, _, mz, _⟩
    simp only [seqOf, mz]
  · rintro i y M' hi hy ⟨vs, gx, mz, mp, mD, sr, hk, hv⟩
    rw [List.length_map] at hi
    have hy' : y = dS zt[i] := by
      rw [List.getElem?_map, List.getElem?_eq_getElem hi] at hy
      exact (Option.some.inj hy).symm
    subst hy'
    have hvl : vs.length = i := by
      have := congrArg List.length hk
      rw [List.length_map, List.length_take] at this
      omega
    refine wgw_name (by simp) ?_
    intro s0 H0 C cl fp
    refine de_tupD (da_cons ?_)
    walk_at "nm"
    refine da_cons (de_add (de_int (de_callC (c1.up (by decide)) hr (by rfl) (da_cons ?_))))
    walk_at "nm"
    refine da_cons ?_
    walk_at "nm"
    refine da_nil ⟨a, _, wd, rfl, sr, by omega, by omega, by omega, fun M5 r5 fr5 sr5 h50 h51 => ⟨_, _, rfl, rfl, da_nil ⟨[.str zt[i], .int (1 + r5)], rfl, (by show 2 ≤ sizeLine; decide), _, by rw [fr5 D Da]; exact mD, ?_, vs ++ [(zt[i], 1 + r5)], (gx.trans fr5.gx).put hDM, by rw [updC_ne n4D, fr5 p4 p4a]; exact mz, by rw [updC_ne n2D, fr5 p2 p2a]; exact mp, ?_, sr5.upd Da, ?_, fun v hv' => ?_⟩⟩⟩
    · unfold kdC
      rw [List.length_map, List.length_map, hvl, sizeLine_eq]
      omega
    · rw [updC_same]
      unfold kdC
      simp only [List.map_append]
      rfl
    · rw [List.map_append, hk, List.take_add_one, List.getElem?_eq_getElem hi]
      rfl
    · rcases List.mem_append.mp hv' with q | q
      · exact hv v q
      · rw [List.mem_singleton.mp q]
        exact ⟨by show 1 ≤ 1 + r5; omega, by show 1 + r5 ≤ 8; omega⟩
  rintro M5 ⟨vs, gx5, mz5, mp5, mD5, sr5, hk, hv⟩
  rw [List.length_map] at sr5 hk
  rw [List.take_length] at hk
  have hvl : vs.length = zt.length := by rw [← hk, List.length_map]
  have ndv : (vs.map (·.1)).Nodup := by rw [hk]; exact znd2
  refine da_nil (k_dictP (kd := kdC vs) rfl (by simp only [seqOf, mD5]) fun p6 hp6 => ⟨p6, kdC vs, rfl, by rw [updC_same, merge_cnt ndv], ?_⟩)
  rw [delC_updC hp6]
  have sb := sum_between hv
  have sr5 : Src M5 a (n + 26) := sr5.mono (by omega)
  clear mz5 mD5 m4 m4z src4 gx4 hD hDM n4D n2D Da src3 m3 gx3 hp4 n24 p4a hp4M
  -- lost
  refine db_cons (ds_set (i := 4) sc__law_tight.nd rfl (.inl rfl) (de_add (de_sumV rfl (by rfl) b2 ?_)))
  walk_at "nm"
  refine ⟨slK (kdC vs), vs.map (·.2), .d _, sum_seq _, de_ix (de_lstD (da_cons (de_int (da_cons (de_int (da_cons (de_int (da_nil ⟨[.int 0, .int 0, .int 1], rfl, (by show 3 ≤ sizeLine; decide), de_callC (c1.up (by decide)) hr (by rfl) (da_cons ?_)⟩))))))))⟩
  walk_at "nm"
  refine da_cons (de_int (da_nil ⟨a, _, 3, rfl, sr5, by omega, by decide, by decide, fun M7 r7 fr7 src7 h70 h71 => ?_⟩))
  have e7 : ∃ u : Int, 0 ≤ u ∧ u ≤ 1 ∧ atI ([.int 0, .int 0, .int 1].map Sl.d) r7 = some (dI u) := by
    have c8 : r7 = 0 ∨ r7 = 1 ∨ r7 = 2 := by omega
    rcases c8 with rfl | rfl | rfl
    · exact ⟨0, by decide, by decide, rfl⟩
    · exact ⟨0, by decide, by decide, rfl⟩
    · exact ⟨1, by decide, by decide, rfl⟩
  obtain ⟨u7, u70, u71, eu7⟩ := e7
  refine ⟨_, r7, dI u7, rfl, rfl, eu7, _, _, rfl, rfl, ?_⟩
  have m7 : M7 p2 = some (.l ((z0 :: zt).map dS)) := by rw [fr7 p2 p2a]; exact mp5
  have gx7 := gx5.trans fr7.gx
  have hlost : ∃ lost : Int, (vs.map (·.2)).sum + u7 = lost ∧ 1 ≤ lost ∧ lost ≤ 33 := by
    refine ⟨_, rfl, ?_, ?_⟩
    · have := sb.1
      unfold sumC at this
      omega
    · have := sb.2
      unfold sumC at this
      omega
  obtain ⟨lost, elost, lost0, lost1⟩ := hlost
  rw [elost]
  clear eu7 fr7 gx5 mp5 sr5
  -- style, first
  refine db_cons (ds_set (i := 5) sc__law_tight.nd rfl (.inl rfl) (de_callC (c1.up (by decide)) hr (by rfl) (da_cons ?_)))
  walk_at "nm"
  refine da_cons (de_int (da_nil ⟨a, _, 3, rfl, src7, by omega, by decide, by decide, fun M8 st fr8 src8 h80 h81 => ?_⟩))
  have m8 : M8 p2 = some (.l ((z0 :: zt).map dS)) := by rw [fr8 p2 p2a]; exact m7
  have gx8 := gx7.trans fr8.gx
  clear fr8 m7 src7
  refine db_cons (ds_set (i := 6) sc__law_tight.nd rfl (.inr rfl) (de_add (de_int (de_callT call_int1 (by rfl) b3 bt_int (da_cons (de_cmp op_gt ?_ (nomark _)))))))
  walk_at "nm"
  refine de_int (k_bool (da_nil (k_intB ⟨_, _, rfl, rfl, ?_⟩)))
  have hfst : ∃ fst : Int, 1 + (if (decide (st > 0)) = true then 1 else 0) = fst ∧ (st = 0 → fst = 1) ∧ (0 < st → fst = 2) := by
    refine ⟨_, rfl, fun e => ?_, fun e => ?_⟩
    · rw [if_neg (fun z => absurd (of_decide_eq_true z) (by omega))]; rfl
    · rw [if_pos (decide_eq_true e)]; rfl
  obtain ⟨fst, efst, fst1, fst2⟩ := hfst
  rw [efst]
  have fst12 : 1 ≤ fst ∧ fst ≤ 2 := by
    by_cases e : st = 0
    · rw [fst1 e]; decide
    · rw [fst2 (by omega)]; decide
  -- line_set
  refine db_cons (ds_set (i := 7) sc__law_tight.nd rfl (.inl rfl) (de_dictE fun pl hpl => dks_cons (de_ix ?_)))
  walk_at "nm"
  have pla := src8.ne hpl
  have n2l : p2 ≠ pl := neC m8 hpl
  have hplM : M pl = none := gx8.none hpl pla
  have m9 : updC M8 pl (.k []) p2 = some (.l ((z0 :: zt).map dS)) := by rw [updC_ne n2l]; exact m8
  have m9l : updC M8 pl (.k []) pl = some (.k []) := updC_same
  have src9 : Src (updC M8 pl (.k [])) a (n + 28) := (src8.upd pla).mono (by omega)
  have gx9 : Gx a M (updC M8 pl (.k [])) := gx8.put hplM
  generalize updC M8 pl (.k []) = M9 at m9 m9l src9 gx9
  refine de_int ⟨(z0 :: zt).map dS, ((0 : Nat) : Int), dS z0, by simp only [seqOf, m9], rfl, atI_nat rfl, .inr z0, rfl, de_frz ?_⟩
  refine de_lc0 (own := [("step", 11)]) (g := gName 11) rfl sc__law_tight.nd (blkOk_by (own := [("step", 11)]) (N := ["source", "names", "wide", "others", "lost", "style", "first", "line_set", "line_counts", "writer", "odd", "step"]) (sc := defScope s__law_tight) (by decide +kernel)) (fun _ _ _ _ _ => pg_name (i := 11) sc__law_tight.nd rfl (.inl rfl)) (di_range1 (by rfl) b4 (de_sub (de_add ?_)))
  walk_at "nm"
  refine de_int ⟨_, _, rfl, rfl, ?_⟩
  walk_at "nm"
  refine ⟨_, _, rfl, rfl, lost + 1 - st, rfl, by omega, by omega, fun D hD => ?_⟩
  have n2D : p2 ≠ D := neC m9 hD
  have nlD : pl ≠ D := neC m9l hD
  have Da := src9.ne hD
  have hDM : M D = none := gx9.none hD Da
  have hcount : (lost + 1 - st).toNat ≤ 34 := by omega
  refine ⟨fun i M' => M' = updC M9 D (.l ((twoL fst i).map sIv)), rfl, fun _ _ _ => trivial, ?_, ?_⟩
  · rintro i y M' hi rfl rfl
    refine wgw_name (by simp) ?_
    intro s0 H0 C cl fp
    refine de_tupD (da_cons (de_add ?_))
    walk_at "nm"
    refine de_mul (de_int ?_)
    walk_at "nm"
    refine ⟨_, _, rfl, rfl, .inl ⟨by decide, by decide⟩, _, _, rfl, rfl, da_cons (de_add ?_)⟩
    walk_at "nm"
    refine de_mul (de_int ?_)
    walk_at "nm"
    refine ⟨_, _, rfl, rfl, .inl ⟨by decide, by decide⟩, _, _, rfl, rfl, da_nil ⟨[.int (fst + 2 * (0 + (i : Int))), .int (fst + 2 * (0 + (i : Int)))], ?_, (by show 2 ≤ sizeLine; decide), _, updC_same, ?_, ?_⟩⟩
    · rw [Int.zero_add]
      rfl
    · rw [List.length_map, twoL_len, sizeLine_eq]
      omega
    · show updC _ _ _ = updC _ _ _
      rw [updC_updC, twoL_succ, List.map_append, Int.zero_add]
      rfl
  rintro M' rfl
  have hl := twoL_len fst (lost + 1 - st).toNat
  have okt : ∀ h : Int, (∀ k : Nat, k < (lost + 1 - st).toNat → fst + 2 * (k : Nat) ≤ h) → okIvs h (twoL fst (lost + 1 - st).toNat) := fun h hh => twoL_ok (by omega) hh
  refine ⟨D, (twoL fst (lost + 1 - st).toNat).map eIv, rfl, by rw [updC_same, List.map_map]; rfl, dks_nil ?_⟩
  rw [delC_updC hD]
  have hlx : (twoL fst (lost + 1 - st).toNat).length ≤ 34 := by omega
  generalize twoL fst (lost + 1 - st).toNat = l at hlx okt
  refine ⟨m9l, ?_⟩
  have m10l : updC M9 pl (.k (mergeS [] [(.inr z0, .d (.list (l.map eIv)))])) pl = some (.k (slK (kdL [(z0, l)]))) := updC_same
  have m10 : updC M9 pl (.k (mergeS [] [(.inr z0, .d (.list (l.map eIv)))])) p2 = some (.l ((z0 :: zt).map dS)) := by rw [updC_ne n2l]; exact m9
  have src10 : Src (updC M9 pl (.k (mergeS [] [(.inr z0, .d (.list (l.map eIv)))]))) a (n + 28) := src9.upd pla
  have gx10 : Gx a M (updC M9 pl (.k (mergeS [] [(.inr z0, .d (.list (l.map eIv)))]))) := gx9.put hplM
  generalize updC M9 pl (.k (mergeS [] [(.inr z0, .d (.list (l.map eIv)))])) = M10 at m10l m10 src10 gx10
  clear n2D nlD Da hDM hD src9 gx9 m9 m9l src8 gx8 m8 hpl
  -- line_counts
  refine db_cons (ds_set (i := 8) sc__law_tight.nd rfl (.inl rfl) (de_callT call_dictD (by rfl) b1 bt_dict (da_cons ?_)))
  walk_at "nm"
  refine da_nil (k_dictD (.d (kdC vs)) fun pc hpc => ?_)
  have pca := src10.ne hpc
  have n2c : p2 ≠ pc := neC m10 hpc
  have nlc : pl ≠ pc := neC m10l hpc
  have hpcM : M pc = none := gx10.none hpc pca
  have m11c : updC M10 pc (.k (slK (kdC vs))) pc = some (.k (slK (kdC vs))) := updC_same
  have m11l : updC M10 pc (.k (slK (kdC vs))) pl = some (.k (slK (kdL [(z0, l)]))) := by rw [updC_ne nlc]; exact m10l
  have m11 : updC M10 pc (.k (slK (kdC vs))) p2 = some (.l ((z0 :: zt).map dS)) := by rw [updC_ne n2c]; exact m10
  have src11 : Src (updC M10 pc (.k (slK (kdC vs)))) a (n + 28) := src10.upd pca
  have gx11 : Gx a M (updC M10 pc (.k (slK (kdC vs)))) := gx10.put hpcM
  generalize updC M10 pc (.k (slK (kdC vs))) = M11 at m11c m11l m11 src11 gx11
  clear hpc m10 m10l src10 gx10
  have s11 : seqOf M11 (.c p2) = some ((z0 :: zt).map dS) := by simp only [seqOf, m11]
  refine db_cons (ds_dput (hu_of hr) (de_callB (call_max2 rfl) (by rfl) b5 bt_max (da_cons (de_int (da_cons (de_add (de_add ?_)))))))
  walk_at "nm"
  refine de_mul (de_int (de_sub ?_))
  walk_at "nm"
  walk_at "nm"
  refine ⟨_, _, rfl, rfl, _, _, rfl, rfl, .inl ⟨by decide, by decide⟩, _, _, rfl, rfl, de_callT call_int1 (by rfl) b3 bt_int (da_cons (de_cmp op_gt ?_ (nomark _)))⟩
  walk_at "nm"
  refine de_int (k_bool (da_nil (k_intB ⟨_, _, rfl, rfl, da_nil (k_max2 ?_)⟩)))
  have hc0 : ∃ c0 : Int, (if fst + 2 * (lost - st) + (if (decide (st > 1)) = true then 1 else 0) > 1 then fst + 2 * (lost - st) + (if (decide (st > 1)) = true then 1 else 0) else 1) = c0 ∧ 1 ≤ c0 ∧ c0 ≤ 1000 ∧ fst + 2 * (lost - st) ≤ c0 := by
    refine ⟨_, rfl, ?_⟩
    have hb : ∃ e : Int, (if (decide (st > 1)) = true then 1 else 0 : Int) = e ∧ 0 ≤ e ∧ e ≤ 1 := by
      refine ⟨_, rfl, ?_⟩
      split <;> decide
    obtain ⟨e, ee, e0, e1⟩ := hb
    rw [ee]
    split <;> omega
  obtain ⟨c0, ec0, c01, c02, c03⟩ := hc0
  rw [ec0]
  walk_at "nm"
  refine de_ix ?_
  walk_at "nm"
  refine de_int ⟨(z0 :: zt).map dS, ((0 : Nat) : Int), dS z0, s11, rfl, atI_nat rfl, pc, _, .inr z0, rfl, m11c, rfl, ?_, ?_⟩
  · unfold slK kdC
    rw [List.length_map, List.length_map, sizeLine_eq]
    omega
  rw [show (Sl.d (PyData.int c0)) = dI c0 from rfl, putS_newC (by rw [hk]; exact z0t)]
  have m12c : updC M11 pc (.k (slK (kdC (vs ++ [(z0, c0)])))) pc = some (.k (slK (kdC (vs ++ [(z0, c0)])))) := updC_same
  have m12l : updC M11 pc (.k (slK (kdC (vs ++ [(z0, c0)])))) pl = some (.k (slK (kdL [(z0, l)]))) := by rw [updC_ne nlc]; exact m11l
  have m12 : updC M11 pc (.k (slK (kdC (vs ++ [(z0, c0)])))) p2 = some (.l ((z0 :: zt).map dS)) := by rw [updC_ne n2c]; exact m11
  have src12 : Src (updC M11 pc (.k (slK (kdC (vs ++ [(z0, c0)]))))) a (n + 28) := src11.upd pca
  have gx12 : Gx a M (updC M11 pc (.k (slK (kdC (vs ++ [(z0, c0)]))))) := gx11.put hpcM
  generalize updC M11 pc (.k (slK (kdC (vs ++ [(z0, c0)])))) = M12 at m12c m12l m12 src12 gx12
  clear m11c m11l m11 src11 gx11 s11
  have hke : (vs ++ [(z0, c0)]).map (·.1) = zt ++ [z0] := by rw [List.map_append, hk]; rfl
  have ndc : ((vs ++ [(z0, c0)]).map (·.1)).Nodup := by
    rw [hke]
    exact List.nodup_append.mpr ⟨znd2, by simp, fun x hx y hy e => z0t (by rw [List.mem_singleton.mp hy] at e; exact e ▸ hx)⟩
  have okcs : okCnt (vs ++ [(z0, c0)]) := by
    refine ⟨by rw [List.length_append]; simp, by rw [List.length_append]; simp; omega, ndc, fun p hp => ?_⟩
    rcases List.mem_append.mp hp with hp | hp
    · have h1 : p.1 ∈ zt := by rw [← hk]; exact List.mem_map_of_mem hp
      have := hv p hp
      exact ⟨pool14_ok _ (ztm _ h1), by omega, by omega⟩
    · rw [List.mem_singleton.mp hp]
      exact ⟨pool14_ok _ (zmem _ List.mem_cons_self), by show 0 ≤ c0; omega, by show c0 ≤ 10 ^ 30; omega⟩
  have gvs : ∀ p ∈ vs, getC (vs ++ [(z0, c0)]) p.1 = some p.2 := fun p hp => getC_mem ndc (List.mem_append_left _ hp)
  have gv0 : getC (vs ++ [(z0, c0)]) z0 = some c0 := getC_mem (p := (z0, c0)) ndc (List.mem_append_right _ (List.mem_singleton.mpr rfl))
  -- the others' lines
  refine db_cons (ds_forKeys (i := 3) (kd := kdC vs) PassesOwn.never rfl hL rfl (by walk_at "vis") rfl (fun i τ' M' => ∃ (y9 : Option Sl), τ' = [some (.c a), some (.c p2), some (dI wd), some (.d (eCnt vs)), some (dI lost), some (dI st), some (dI fst), some (.c pl), some (.c pc), y9, none, none] ∧ Gx a M M' ∧ Src M' a (n + 28) ∧ M' p2 = some (.l ((z0 :: zt).map dS)) ∧ M' pc = some (.k (slK (kdC (vs ++ [(z0, c0)])))) ∧ M' pl = some (.k (slK (kdL ((z0, l) :: fullL (vs.take i)))))) ⟨none, rfl, gx12, src12, m12, m12c, m12l⟩ ?_ ?_)
  · rintro x ⟨xs, hx⟩ i k d τ' M2 hi ⟨y9, rfl, gxA, srA, mA, mAc, mAl⟩
    unfold kdC at hi
    rw [List.getElem?_map] at hi
    obtain ⟨⟨z, v⟩, hpz, epz⟩ := Option.map_eq_some_iff.mp hi
    cases epz
    obtain ⟨hlt, hget⟩ := List.getElem?_eq_some_iff.mp hpz
    have hmem := List.mem_of_getElem? hpz
    have hgz : getC vs z = some v := getC_mem ndv hmem
    have hz : z ∈ zt := by rw [← hk]; exact List.mem_map_of_mem (f := fun p : Str × Int => p.1) hmem
    have hfr : z ∉ ((z0, l) :: fullL (vs.take i)).map (·.1) := fun q => by
      rw [List.map_cons] at q
      rcases List.mem_cons.mp q with q | q
      · exact z0t ((show z = z0 from q) ▸ hz)
      · unfold fullL at q
        rw [List.map_map] at q
        have h1 := take_fresh ndv (n := i) (by rw [List.length_map]; exact hlt)
        rw [List.getElem_map, hget, ← List.map_take] at h1
        exact h1 q
    refine dg_of (pg_name (i := 9) sc__law_tight.nd rfl (.inl rfl)) (wg_name ?_)
    refine db_cons (ds_dput (hu_of hr) ?_)
    refine de_lstD (da_cons (de_tupD (da_cons (de_int (da_cons (de_dget (hu_of hr) ?_))))))
    walk_at "nm"
    walk_at "nm"
    refine ⟨_, .inr z, dI v, .d (kdC vs), rfl, by rw [valS_C, hgz]; rfl, da_nil ⟨[.int 1, .int v], rfl, (by show 2 ≤ sizeLine; decide), da_nil ⟨[.tuple [.int 1, .int v]], rfl, (by show 1 ≤ sizeLine; decide), ?_⟩⟩⟩
    walk_at "nm"
    walk_at "nm"
    refine ⟨pl, _, .inr z, rfl, mAl, rfl, ?_, db_nil ⟨_, rfl, gxA.put hplM, srA.upd pla, by rw [updC_ne n2l]; exact mA, by rw [updC_ne nlc.symm]; exact mAc, ?_⟩⟩
    · unfold slK kdL fullL
      rw [List.length_map, List.length_map, List.length_cons, List.length_map, List.length_take, sizeLine_eq]
      omega
    · rw [updC_same]
      have e : fullL (vs.take (i + 1)) = fullL (vs.take i) ++ [(z, [(1, v)])] := by
        unfold fullL
        rw [List.take_add_one, hpz, List.map_append]
        rfl
      rw [e, show (PyData.list [PyData.tuple [.int 1, .int v]]) = eIvs [(1, v)] from rfl, putS_newL hfr]
      rfl
  rintro τ' M13 ⟨y9, rfl, gx13, src13, m13, m13c, m13l⟩
  rw [show (kdC vs).length = vs.length by unfold kdC; rw [List.length_map], List.take_length] at m13l
  have okf : okLS (vs ++ [(z0, c0)]) ((z0, l) :: fullL vs) ∧ ∀ q ∈ (z0, l) :: fullL vs, q.2.length ≤ 34 := by
    have hm : ∀ q ∈ (z0, l) :: fullL vs, (okName q.1 = true ∧ q.1 ∈ (vs ++ [(z0, c0)]).map (·.1) ∧ okIvs (high (some (vs ++ [(z0, c0)])) q.1) q.2) ∧ q.2.length ≤ 34 := fun q hq => by
      rcases List.mem_cons.mp hq with rfl | hq
      · refine ⟨⟨pool14_ok _ (zmem _ List.mem_cons_self), by rw [hke]; exact List.mem_append_right _ (List.mem_singleton.mpr rfl), ?_⟩, hlx⟩
        show okIvs ((getC (vs ++ [(z0, c0)]) z0).getD 0) l
        rw [gv0]
        exact okt c0 fun k hk => by omega
      · unfold fullL at hq
        obtain ⟨p, hp, rfl⟩ := List.mem_map.mp hq
        have h1 : p.1 ∈ zt := by rw [← hk]; exact List.mem_map_of_mem hp
        have h2 := hv p hp
        refine ⟨⟨pool14_ok _ (ztm _ h1), by rw [hke]; exact List.mem_append_left _ h1, ?_⟩, by show 1 ≤ 34; decide⟩
        show okIvs ((getC (vs ++ [(z0, c0)]) p.1).getD 0) [(1, p.2)]
        rw [gvs p hp]
        exact okIvs_cons ⟨fun _ h => (nomatch h), fun i a b h _ => by cases i <;> cases h⟩ (Int.le_refl 1) h2.1 (Int.le_refl _) fun _ h => nomatch h
    refine ⟨⟨?_, ?_, fun q hq => ⟨(hm q hq).1.1, (hm q hq).1.2.1, (hm q hq).1.2.2, Nat.le_trans (hm q hq).2 (by decide)⟩⟩, fun q hq => (hm q hq).2⟩
    · rw [List.map_cons]
      have e : (fullL vs).map (·.1) = zt := by
        unfold fullL
        rw [List.map_map, ← hk]
        rfl
      rw [e]
      exact List.nodup_cons.mpr ⟨z0t, znd2⟩
    · rw [List.length_cons]
      unfold fullL
      rw [List.length_map]
      omega
  obtain ⟨okls, hl34⟩ := okf
  generalize (z0, l) :: fullL vs = ls at m13l okls hl34
  have s13 : seqOf M13 (.c p2) = some ((z0 :: zt).map dS) := by simp only [seqOf, m13]
  -- odd
  have hz1 : z1 ∈ zt := by rw [← hzt]; exact List.mem_cons_self
  refine db_cons (ds_set (i := 10) sc__law_tight.nd rfl (.inl rfl) (de_ix ?_))
  walk_at "nm"
  refine de_int ⟨(z0 :: zt).map dS, ((1 : Nat) : Int), dS z1, s13, rfl, atI_nat (by rw [← hzt]; rfl), ?_⟩
  obtain ⟨p1, hp1, ep1⟩ : ∃ p ∈ vs, p.1 = z1 := by
    rw [← hk] at hz1
    exact List.mem_map.mp hz1
  have hg1 : getC vs z1 = some p1.2 := by rw [← ep1]; exact getC_mem ndv hp1
  have hv1 := hv p1 hp1
  have hgc1 := gvs p1 hp1
  rw [ep1] at hgc1
  generalize p1.2 = v1 at hg1 hv1 hgc1
  refine db_consJ (fun τ' M' => ∃ (ls' : LSet) (y9 y10 : Option Sl), τ' = [some (.c a), some (.c p2), some (dI wd), some (.d (eCnt vs)), some (dI lost), some (dI st), some (dI fst), some (.c pl), some (.c pc), y9, y10, none] ∧ Gx a M M' ∧ Src M' a (n + 30) ∧ M' pc = some (.k (slK (kdC (vs ++ [(z0, c0)])))) ∧ M' pl = some (.k (slK (kdL ls'))) ∧ okLS (vs ++ [(z0, c0)]) ls' ∧ ∀ q ∈ ls', q.2.length ≤ 34) (ds_if (dt_and2 (dt_cmp op_eq (de_callC (c1.up (by decide)) hr (by rfl) (da_cons ?_)) (by with_unfolding_all rfl)))) ?_
  · walk_at "nm"
    refine da_cons (de_int (da_nil ⟨a, _, 2, rfl, src13, by omega, by decide, by decide, fun MA rA frA srA hA0 hA1 => de_int (k_eqI ⟨_, rfl, fun _ => dt_cmp op_gt (de_dget (hu_of hr) ?_) (by with_unfolding_all rfl), fun _ => ⟨no1, fun _ => db_nil ⟨ls, _, _, rfl, gx13.trans frA.gx, srA.mono (by omega), by rw [frA pc pca]; exact m13c, by rw [frA pl pla]; exact m13l, okls, hl34⟩⟩⟩)⟩))
    have mAc : MA pc = some (.k (slK (kdC (vs ++ [(z0, c0)])))) := by rw [frA pc pca]; exact m13c
    have mAl : MA pl = some (.k (slK (kdL ls))) := by rw [frA pl pla]; exact m13l
    have gxA := gx13.trans frA.gx
    walk_at "nm"
    walk_at "nm"
    refine ⟨_, .inr z1, dI v1, .d (kdC vs), rfl, by rw [valS_C, hg1]; rfl, de_int (k_bool ⟨_, rfl, fun h => ?_, fun h => db_nil ⟨ls, _, _, rfl, gxA, srA.mono (by omega), mAc, mAl, okls, hl34⟩⟩)⟩
    have h : 1 < v1 := of_decide_eq_true h
    refine db_cons (ds_dput (hu_of hr) ?_)
    refine de_ix ?_
    refine de_lstD (da_cons ?_)
    refine de_lstD (da_cons (de_tupD (da_cons (de_int (da_cons (de_dget (hu_of hr) ?_))))))
    walk_at "nm"
    walk_at "nm"
    refine ⟨_, .inr z1, dI v1, .d (kdC vs), rfl, by rw [valS_C, hg1]; rfl, da_nil ⟨[.int 2, .int v1], rfl, (by show 2 ≤ sizeLine; decide), da_nil ⟨[.tuple [.int 2, .int v1]], rfl, (by show 1 ≤ sizeLine; decide), ?_⟩⟩⟩
    refine da_cons ?_
    refine de_lstD (da_cons (de_tupD (da_cons (de_int (da_cons (de_sub (de_dget (hu_of hr) ?_)))))))
    walk_at "nm"
    walk_at "nm"
    refine ⟨_, .inr z1, dI v1, .d (kdC vs), rfl, by rw [valS_C, hg1]; rfl, de_int ⟨_, _, rfl, rfl, da_nil ⟨[.int 1, .int (v1 - 1)], rfl, (by show 2 ≤ sizeLine; decide), da_nil ⟨[.tuple [.int 1, .int (v1 - 1)]], rfl, (by show 1 ≤ sizeLine; decide), ?_⟩⟩⟩⟩
    refine da_nil ⟨[eIvs [(2, v1)], eIvs [(1, v1 - 1)]], rfl, (by show 2 ≤ sizeLine; decide), ?_⟩
    refine de_callC (c1.up (by decide)) hr (by rfl) (da_cons ?_)
    walk_at "nm"
    refine da_cons (de_int (da_nil ⟨a, _, 2, rfl, srA, by omega, by decide, by decide, fun MB rB frB srB hB0 hB1 => ?_⟩))
    have eB : ∃ l2 : Ivs, okIvs v1 l2 ∧ l2.length = 1 ∧ atI ([eIvs [(2, v1)], eIvs [(1, v1 - 1)]].map Sl.d) rB = some (.d (eIvs l2)) := by
      have c8 : rB = 0 ∨ rB = 1 := by omega
      have e0 : okIvs v1 [] := ⟨fun _ h => (nomatch h), fun i a b h _ => by cases i <;> cases h⟩
      rcases c8 with rfl | rfl
      · exact ⟨[(2, v1)], okIvs_cons e0 (by show (1 : Int) ≤ 2; decide) (by show 2 ≤ v1; omega) (Int.le_refl _) (fun _ h => nomatch h), rfl, rfl⟩
      · exact ⟨[(1, v1 - 1)], okIvs_cons e0 (Int.le_refl 1) (by show 1 ≤ v1 - 1; omega) (by show v1 - 1 ≤ v1; omega) (fun _ h => nomatch h), rfl, rfl⟩
    obtain ⟨l2, okl2, ll2, el2⟩ := eB
    refine ⟨_, rB, _, rfl, rfl, el2, ?_⟩
    walk_at "nm"
    walk_at "nm"
    refine ⟨pl, _, .inr z1, rfl, by rw [frB pl pla]; exact mAl, rfl, ?_, db_nil ⟨putL ls z1 l2, _, _, rfl, (gxA.trans frB.gx).put hplM, srB.upd pla, by rw [updC_ne nlc.symm, frB pc pca]; exact mAc, ?_, okLS_put okcs.2.1 okls (pool14_ok _ (ztm _ hz1)) (by rw [hke]; exact List.mem_append_left _ hz1) ?_ (by omega), fun q hq => ?_⟩⟩
    · have := okls.2.1
      unfold slK kdL
      rw [List.length_map, List.length_map, sizeLine_eq]
      omega
    · rw [updC_same, putS_D, putD_L]
    · show okIvs ((getC (vs ++ [(z0, c0)]) z1).getD 0) l2
      rw [hgc1]
      exact okl2
    · rcases putL_mem hq with hq | rfl
      · exact hl34 q hq
      · show l2.length ≤ 34
        omega
  rintro τ' M14 ⟨ls', y9, y10, rfl, gx14, src14, m14c, m14l, okls', hl'⟩
  refine db_frzD (i := 8) (kd := kdC (vs ++ [(z0, c0)])) rfl m14c ?_
  refine db_frzD (i := 7) (kd := kdL ls') rfl (by rw [delC_ne nlc]; exact m14l) ?_
  have src15 : Src (delC (delC M14 pc) pl) a (n + 30) := (src14.del pca).del pla
  have gx15 : Gx a M (delC (delC M14 pc) pl) := (gx14.del hpcM).del hplM
  generalize delC (delC M14 pc) pl = M15 at src15 gx15
  refine db_cons (ds_ret (de_tupD (da_cons ?_)))
  walk_at "nm"
  refine da_cons ?_
  walk_at "nm"
  exact da_nil ⟨[eCnt (vs ++ [(z0, c0)]), eLS ls'], rfl, (by show 2 ≤ sizeLine; decide), fin _ _ _ gx15 (src15.mono (by omega)) okcs okls' fun q hq => Nat.le_trans (hl' q hq) (by decide)⟩

end

end Pg

namespace Pg
open PySem L2 Y PyProof.Rows

local macro_rules | `(tactic| walk_at "vis") => `(tactic| first | exact Or.inl rfl | exact Or.inr (Or.inl rfl) | exact Or.inr (Or.inr rfl))
local macro_rules | `(tactic| walk_at "e1") => `(tactic| first | walk_at "nm" | refine de_int ?_ | refine de_add ?_ | refine de_sub ?_ | refine de_str ?_ | refine de_non ?_ | refine de_bl ?_)
local macro_rules | `(tactic| walk_at "go") => `(tactic| repeat (first | ((with_reducible show DE _ _ _ _ _ _); walk_at "e1") | ((with_reducible show DA _ _ _ _ _ _); refine da_cons ?_) | refine ⟨_, _, rfl, rfl, ?_⟩))

theorem fitXs_map {α : Type} (f : α → PyData) : ∀ c : List α, (∀ x ∈ c, fitX (f x) = true) → fitXs (c.map f) = true
  | [], _ => by simp [fitXs]
  | x :: r, h => by rw [List.map_cons]; simp only [fitXs, h x List.mem_cons_self, fitXs_map f r fun y hy => h y (List.mem_cons_of_mem _ hy), Bool.and_self]
theorem small_name {z : Str} (h : okName z = true) : small z = true := by
  unfold okName at h
  simp only [Bool.and_eq_true, decide_eq_true_eq] at h
  have h1 : Txt.isascii z = true := h.2.2.1
  have h2 := h.2.1
  unfold small
  rw [h1, decide_eq_true (by omega)]
  rfl

theorem wtXs_map {α : Type} (f : α → PyData) (k : Nat) : ∀ c : List α, (∀ x, wtX (f x) = k) → wtXs (c.map f) = k * c.length
  | [], _ => by simp [wtXs]
  | x :: r, h => by rw [List.map_cons]; simp only [wtXs, h x, wtXs_map f k r h, List.length_cons]; rw [Nat.mul_add, Nat.mul_one, Nat.add_comm]

theorem fit_cnt {cs : Cnt} (h : okCnt cs) : fitX (eCnt cs) = true := by
  have : ∀ l : Cnt, (∀ p ∈ l, okName p.1 = true ∧ 0 ≤ p.2 ∧ p.2 ≤ 10 ^ 30) → fitXk (encK (kdC l)) = true := fun l => by
    induction l with
    | nil => intro _; rfl
    | cons p r ih =>
      intro h
      obtain ⟨o1, o2, o3⟩ := h p List.mem_cons_self
      have e : encK (kdC (p :: r)) = (.str p.1, .int p.2) :: encK (kdC r) := rfl
      rw [e]
      simp only [fitXk, fitX, small_name o1, ih fun x hx => h x (List.mem_cons_of_mem _ hx), Bool.true_and, Bool.and_true, decide_eq_true_eq]
      omega
  unfold eCnt
  simp only [fitX]
  exact this cs h.2.2.2
theorem wt_cnt (cs : Cnt) : wtX (eCnt cs) = 1 + 2 * cs.length := by
  have : ∀ l : Cnt, wtXk (encK (kdC l)) = 2 * l.length := fun l => by
    induction l with
    | nil => rfl
    | cons p r ih =>
      have e : encK (kdC (p :: r)) = (.str p.1, .int p.2) :: encK (kdC r) := rfl
      rw [e]
      simp only [wtXk, wtX, ih, List.length_cons]
      omega
  unfold eCnt
  simp only [wtX, this]
theorem depth_cnt (cs : Cnt) : (eCnt cs).depth ≤ 1 := by
  have : ∀ l : Cnt, PyData.depthKv (encK (kdC l)) = 0 := fun l => by
    induction l with
    | nil => rfl
    | cons p r ih =>
      have e : encK (kdC (p :: r)) = (.str p.1, .int p.2) :: encK (kdC r) := rfl
      rw [e]
      simp only [PyData.depthKv, PyData.depth, ih]
      rfl
  unfold eCnt
  simp only [PyData.depth, this]
  omega
/-- [line counts, content] -/


theorem putC_keys {cs : Cnt} {z : Str} {v : Int} (h : z ∈ cs.map (·.1)) : (putC cs z v).map (·.1) = cs.map (·.1) := by
  unfold putC
  have e : (cs.any fun p => decide (p.1 = z)) = true := by
    obtain ⟨p, hp, q⟩ := List.mem_map.mp h
    exact List.any_eq_true.mpr ⟨p, hp, decide_eq_true q⟩
  rw [if_pos e, List.map_map]
  apply List.map_congr_left
  intro p _
  show (if p.1 = z then (p.1, v) else p).1 = p.1
  split <;> rfl
theorem putC_mem {cs : Cnt} {z : Str} {v : Int} {p : Str × Int} (h : p ∈ putC cs z v) : p ∈ cs ∨ p = (z, v) := by
  unfold putC at h
  split at h
  · obtain ⟨q, hq, e⟩ := List.mem_map.mp h
    by_cases hz : q.1 = z
    · rw [if_pos hz] at e
      exact .inr (by rw [← e, hz])
    · rw [if_neg hz] at e
      exact .inl (e ▸ hq)
  · rcases List.mem_append.mp h with h | h
    · exact .inl h
    · exact .inr (List.mem_singleton.mp h)
theorem okCnt_putC {cs : Cnt} {z : Str} {v : Int} (ok : okCnt cs) (h : z ∈ cs.map (·.1)) (v0 : 0 ≤ v) (v1 : v ≤ 10 ^ 30) : okCnt (putC cs z v) := by
  obtain ⟨l1, l12, nd, okp⟩ := ok
  have hl : (putC cs z v).length = cs.length := by
    have := congrArg List.length (putC_keys (v := v) h)
    rwa [List.length_map, List.length_map] at this
  refine ⟨by omega, by omega, by rw [putC_keys h]; exact nd, fun p hp => ?_⟩
  rcases putC_mem hp with hp | rfl
  · exact okp p hp
  · obtain ⟨q, hq, e⟩ := List.mem_map.mp h
    exact ⟨by rw [← e]; exact (okp q hq).1, v0, v1⟩
theorem okIvs_nil (h : Int) : okIvs h [] := ⟨fun _ h => (nomatch h), fun i a b h _ => by cases i <;> cases h⟩
theorem okIvs_one {h a b : Int} (h0 : 1 ≤ a) (h1 : a ≤ b) (h2 : b ≤ h) : okIvs h [(a, b)] := okIvs_cons (okIvs_nil h) h0 h1 h2 fun _ h => nomatch h
theorem linA_bd {h : Int} {l : Ivs} (ok : ∀ p ∈ l, 1 ≤ p.1 ∧ p.1 ≤ p.2 ∧ p.2 ≤ h) (h0 : 0 ≤ h) : 0 ≤ linA l ∧ linA l ≤ h * (l.length : Int) := by
  unfold linA
  induction l with
  | nil => simp
  | cons p r ih =>
    rw [List.map_cons, List.sum_cons, List.length_cons]
    have h1 := ok p List.mem_cons_self
    have h2 := ih fun u hu => ok u (List.mem_cons_of_mem _ hu)
    have e : h * ((r.length + 1 : Nat) : Int) = h * (r.length : Int) + h := by
      rw [Int.natCast_add, Int.mul_add]
      simp
    rw [e]
    omega
theorem high_bd {cs : Cnt} (okc : okCnt cs) (z : Str) : 0 ≤ high (some cs) z ∧ high (some cs) z ≤ 10 ^ 30 := by
  show 0 ≤ (getC cs z).getD 0 ∧ (getC cs z).getD 0 ≤ 10 ^ 30
  unfold getC
  cases e : cs.find? fun p => decide (p.1 = z) with
  | none => exact ⟨Int.le_refl _, by decide⟩
  | some p => exact (okc.2.2.2 p (List.mem_of_find?_eq_some e)).2
theorem linA_ls {cs : Cnt} {ls : LSet} (okc : okCnt cs) (okl : okLS cs ls) (z : Str) : 0 ≤ linA (ivsOf ls z) ∧ linA (ivsOf ls z) ≤ 10 ^ 33 := by
  have h1 := high_bd okc z
  have h2 := linA_bd (ivsOf_ok okl z).1 h1.1
  have h3 := ivsOf_len (fun p hp => (okl.2.2 p hp).2.2.2) z
  refine ⟨h2.1, Int.le_trans h2.2 ?_⟩
  have : high (some cs) z * ((ivsOf ls z).length : Int) ≤ 10 ^ 30 * 1000 := Int.mul_le_mul h1.2 (by omega) (by omega) (by decide)
  exact Int.le_trans this (by decide)
theorem totW_bd {cs : Cnt} {ls : LSet} (okc : okCnt cs) (okl : okLS cs ls) : 0 ≤ totW cs ls ∧ totW cs ls ≤ 10 ^ 35 := by
  have : ∀ t : Cnt, 0 ≤ (t.map fun p => linA (ivsOf ls p.1)).sum ∧ (t.map fun p => linA (ivsOf ls p.1)).sum ≤ 10 ^ 33 * (t.length : Int) := fun t => by
    induction t with
    | nil => simp
    | cons p r ih =>
      rw [List.map_cons, List.sum_cons, List.length_cons]
      have h1 := linA_ls okc okl p.1
      have e : (10 : Int) ^ 33 * ((r.length + 1 : Nat) : Int) = 10 ^ 33 * (r.length : Int) + 10 ^ 33 := by
        rw [Int.natCast_add, Int.mul_add]
        simp
      rw [e]
      omega
  have h := this cs
  have l12 := okc.2.1
  unfold totW
  omega
theorem obAll_fit {cs : Cnt} {ls : LSet} (okc : okCnt cs) (okl : okLS cs ls) (ne : ∀ p ∈ ls, p.2 ≠ []) : ∀ d ∈ obAll cs ls, fitX d = true ∧ wtX d ≤ 20 ∧ d.depth ≤ 3 ∧ isNone (.d d) = false := fun d hd => by
  unfold obAll at hd
  split at hd
  · cases hd
  rcases List.mem_append.mp hd with hd | hd
  · unfold obEnds at hd
    rcases List.mem_append.mp hd with hd | hd
    · rcases List.mem_append.mp hd with hd | hd
      · split at hd
        · rw [List.mem_singleton.mp hd]
          exact ⟨by decide +kernel, by decide +kernel, by decide +kernel, rfl⟩
        · cases hd
      · split at hd
        · rw [List.mem_singleton.mp hd]
          exact ⟨by decide +kernel, by decide +kernel, by decide +kernel, rfl⟩
        · cases hd
    · have hf : ∃ l ∈ fiA ls, d = obSE l := by
        unfold seA at hd
        split at hd
        · next l e =>
          split at hd
          · exact ⟨l, by rw [e]; exact List.mem_singleton.mpr rfl, List.mem_singleton.mp hd⟩
          · cases hd
        · cases hd
      obtain ⟨l, hl, rfl⟩ := hf
      have h1 := okLine_first okl ne l hl
      obtain ⟨p, hp, rfl⟩ := List.mem_map.mp hl
      refine ⟨?_, by simp [obSE, eLine, wtX, wtXs], by simp [obSE, eLine, PyData.depth, PyData.depthAll], rfl⟩
      unfold obSE eLine
      simp only [fitX, fitXs, small_name h1.1, Bool.true_and, Bool.and_true, show small "single end" = true from by decide +kernel, decide_eq_true_eq]
      decide
  · unfold obGaps at hd
    obtain ⟨p, hp, hd⟩ := List.mem_flatMap.mp hd
    unfold gwG at hd
    split at hd
    · rw [List.mem_singleton.mp hd]
      have hT := totW_bd okc okl
      have hL := linA_ls okc okl p.1
      have hb := btw_len (ivsOf ls p.1) p.2
      have h3 := ivsOf_len (fun p hp => (okl.2.2 p hp).2.2.2) p.1
      refine ⟨?_, by simp [obGP, wtX, wtXs], by simp [obGP, PyData.depth, PyData.depthAll], rfl⟩
      unfold obGP
      simp only [fitX, fitXs, small_name (okc.2.2.2 p hp).1, Bool.true_and, Bool.and_true, show small "gaps" = true from by decide +kernel, Bool.and_eq_true, decide_eq_true_eq]
      omega
    · cases hd
theorem fit_iv {h : Int} {p : Int × Int} (ok : 1 ≤ p.1 ∧ p.1 ≤ p.2 ∧ p.2 ≤ h) (h30 : h ≤ 10 ^ 30) : fitX (eIv p) = true := by
  unfold eIv
  simp only [fitX, fitXs, Bool.and_true, Bool.and_eq_true, decide_eq_true_eq]
  omega
theorem fit_ls {cs : Cnt} (okc : okCnt cs) {ls : LSet} (okl : okLS cs ls) : fitX (eLS ls) = true := by
  have : ∀ l : LSet, (∀ p ∈ l, okName p.1 = true ∧ okIvs (high (some cs) p.1) p.2) → fitXk (encK (kdL l)) = true := fun l => by
    induction l with
    | nil => intro _; rfl
    | cons p r ih =>
      intro h
      obtain ⟨o1, o2⟩ := h p List.mem_cons_self
      have e : encK (kdL (p :: r)) = (.str p.1, eIvs p.2) :: encK (kdL r) := rfl
      have f := fitXs_map eIv p.2 fun q hq => fit_iv (o2.1 q hq) (high_bd okc p.1).2
      rw [e]
      unfold eIvs
      simp only [fitXk, fitX, small_name o1, f, ih fun x hx => h x (List.mem_cons_of_mem _ hx), Bool.true_and, Bool.and_true]
  unfold eLS
  simp only [fitX]
  exact this ls fun p hp => ⟨(okl.2.2 p hp).1, (okl.2.2 p hp).2.2.1⟩
theorem wt_ls {k : Nat} {ls : LSet} (h : ∀ p ∈ ls, p.2.length ≤ k) : wtX (eLS ls) ≤ 1 + (2 + 3 * k) * ls.length := by
  have : ∀ l : LSet, (∀ p ∈ l, p.2.length ≤ k) → wtXk (encK (kdL l)) ≤ (2 + 3 * k) * l.length := fun l => by
    induction l with
    | nil => intro _; exact Nat.zero_le _
    | cons p r ih =>
      intro h
      have h1 := h p List.mem_cons_self
      have h2 := ih fun x hx => h x (List.mem_cons_of_mem _ hx)
      have e : encK (kdL (p :: r)) = (.str p.1, eIvs p.2) :: encK (kdL r) := rfl
      have f := wtXs_map eIv 3 p.2 fun q => by unfold eIv; simp [wtX, wtXs]
      rw [e]
      unfold eIvs
      simp only [wtXk, wtX, f, List.length_cons]
      rw [Nat.mul_add, Nat.mul_one]
      have : 3 * p.2.length ≤ 3 * k := by omega
      omega
  unfold eLS
  simp only [wtX]
  have := this ls h
  omega
theorem dep_ls (ls : LSet) : (eLS ls).depth ≤ 6 := by
  have : ∀ l : LSet, PyData.depthKv (encK (kdL l)) ≤ 3 := fun l => by
    induction l with
    | nil => exact Nat.zero_le _
    | cons p r ih =>
      have e : encK (kdL (p :: r)) = (.str p.1, eIvs p.2) :: encK (kdL r) := rfl
      have f := depthAll_map eIv 1 p.2 fun q _ => by unfold eIv; simp [PyData.depth, PyData.depthAll]
      rw [e]
      unfold eIvs
      simp only [PyData.depthKv, PyData.depth]
      omega
  unfold eLS
  simp only [PyData.depth]
  have := this ls
  omega
theorem dep_cnt (cs : Cnt) : (eCnt cs).depth ≤ 6 := by
  have : ∀ l : Cnt, PyData.depthKv (encK (kdC l)) ≤ 3 := fun l => by
    induction l with
    | nil => exact Nat.zero_le _
    | cons p r ih =>
      have e : encK (kdC (p :: r)) = (.str p.1, .int p.2) :: encK (kdC r) := rfl
      rw [e]
      simp only [PyData.depthKv, PyData.depth]
      omega
  unfold eCnt
  simp only [PyData.depth]
  have := this cs
  omega
section
variable {P : Program} {w : World} {K : PySem.W.Frag} {mg : Str → Option Value} {base : Heap}

local macro_rules | `(tactic| walk_at "nm") => `(tactic| first | ((with_reducible refine de_name (x := "source") (i := 0) (s := ?s) ?hN ?hv ?ht ?q ?hd ?hcd); (case hN => rfl); (case hv => walk_at "vis"); (case ht => rfl); (case hd => decide); (case hcd => decide)) | ((with_reducible refine de_name (x := "line_counts") (i := 1) (s := ?s) ?hN ?hv ?ht ?q ?hd ?hcd); (case hN => rfl); (case hv => walk_at "vis"); (case ht => rfl); (case hd => decide); (case hcd => decide)) | ((with_reducible refine de_name (x := "one") (i := 2) (s := ?s) ?hN ?hv ?ht ?q ?hd ?hcd); (case hN => rfl); (case hv => walk_at "vis"); (case ht => rfl); (case hd => decide); (case hcd => decide)) | ((with_reducible refine de_name (x := "found") (i := 3) (s := ?s) ?hN ?hv ?ht ?q ?hd ?hcd); (case hN => rfl); (case hv => walk_at "vis"); (case ht => rfl); (case hd => decide); (case hcd => decide)) | ((with_reducible refine de_name (x := "writer") (i := 4) (s := ?s) ?hN ?hv ?ht ?q ?hd ?hcd); (case hN => rfl); (case hv => walk_at "vis"); (case ht => rfl); (case hd => decide); (case hcd => decide)))


def R_single : Rr := fun L ss M Q => ∃ (a b : Addr) (n : Nat) (rows : Cnt), NoDK L ∧ ss = [.c a, .c b] ∧ b ≠ a ∧ M b = some (.k (slK (kdC rows))) ∧ Src M a n ∧ n < 800000000 ∧ okCnt rows ∧ ∀ (cs : Cnt) (ls : LSet) (M' : Cs), Gx a M M' → Src M' a (n + 20) → okCnt cs → okLS cs ls → (∀ q ∈ ls, q.2.length ≤ 40) → Q (.d (.tuple [eCnt cs, eLS ls])) M'
set_option maxHeartbeats 8000000 in
theorem ok_law_single (F : FunAt K mg "_law_single" s__law_single ["source", "line_counts"]) (c1 : Cal P w K mg base "_law_draw" 1 ["source", "limit"] R_draw) (b1 : mg "dict" = none) (b2 : mg "sorted" = none) (b3 : mg "len" = none) : Cal P w K mg base "_law_single" 2 ["source", "line_counts"] R_single := by
  refine cal_of F sc__law_single (fun _ ss _ _ ⟨a, b, n, r, _, e, _⟩ => by rw [e]; rfl) (fun f cdv A outer s H E L ss M Q hr h => ?_)
  obtain ⟨a, b, n, rows, hL, rfl, ba, mb, src, hn, okr, fin⟩ := h
  have l1 := okr.1
  have l12 := okr.2.1
  have nd := okr.2.2.1
  have hkl : (slK (kdC rows)).length = rows.length := by unfold slK kdC; rw [List.length_map, List.length_map]
  refine db_cons (ds_set (i := 2) sc__law_single.nd rfl (.inl rfl) (de_ix (de_callB (call_sortedD rfl) (by rfl) b2 bt_sorted (da_cons ?_))))
  walk_at "nm"
  refine da_nil (k_sortedD (.c mb) (keys_C rows) (by rw [List.length_map]; omega) fun ys py hperm hsort hpy => ?_)
  have hyl : ys.length = rows.length := by rw [hperm.length_eq, List.length_map]
  have pya := src.ne hpy
  have nby : b ≠ py := neC mb hpy
  have gx1 : Gx a M (updC M py (.l (ys.map dS))) := (Gx.refl M).put hpy
  have m1y : updC M py (.l (ys.map dS)) py = some (.l (ys.map dS)) := updC_same
  have m1b : updC M py (.l (ys.map dS)) b = some (.k (slK (kdC rows))) := by rw [updC_ne nby]; exact mb
  have src1 : Src (updC M py (.l (ys.map dS))) a n := src.upd pya
  generalize updC M py (.l (ys.map dS)) = M1 at gx1 m1y m1b src1
  refine de_callC c1 hr (by rfl) (da_cons ?_)
  walk_at "nm"
  refine da_cons (de_callB call_lenR (by rfl) b3 bt_len (da_cons ?_))
  walk_at "nm"
  refine da_nil (k_lenD (.c m1b) (da_nil ⟨a, n, _, rfl, src1, by omega, by rw [hkl]; omega, by rw [hkl]; omega, fun M2 r2 fr2 src2 h20 h21 => ?_⟩))
  rw [hkl] at h21
  have hj : r2.toNat < ys.length := by omega
  have m2y : M2 py = some (.l (ys.map dS)) := by rw [fr2 py pya]; exact m1y
  have m2b : M2 b = some (.k (slK (kdC rows))) := by rw [fr2 b ba]; exact m1b
  have gx2 := gx1.trans fr2.gx
  refine ⟨ys.map dS, r2, dS ys[r2.toNat], by simp only [seqOf, m2y], rfl, ?_, ?_⟩
  · have hat : ∀ j : Nat, (hj : j < ys.length) → r2 = (j : Int) → atI (ys.map dS) r2 = some (dS ys[j]) := fun j hj e => by
      rw [e]
      exact atI_nat (by rw [List.getElem?_map, List.getElem?_eq_getElem hj]; rfl)
    exact hat _ hj (by omega)
  have zin : ys[r2.toNat] ∈ rows.map (·.1) := hperm.mem_iff.mp (List.getElem_mem hj)
  generalize ys[r2.toNat] = z at zin
  have zn : okName z = true := by
    obtain ⟨p, hp, rfl⟩ := List.mem_map.mp zin
    exact (okr.2.2.2 p hp).1
  -- the copy
  refine db_cons (ds_set (i := 1) sc__law_single.nd rfl (.inl rfl) (de_callT call_dictD (by rfl) b1 bt_dict (da_cons ?_)))
  walk_at "nm"
  refine da_nil (k_dictD (.c m2b) fun pc hpc => ?_)
  have pca := src2.ne hpc
  have hpcM : M pc = none := gx2.none hpc pca
  have m3c : updC M2 pc (.k (slK (kdC rows))) pc = some (.k (slK (kdC rows))) := updC_same
  have src3 : Src (updC M2 pc (.k (slK (kdC rows)))) a (n + 1) := src2.upd pca
  have gx3 : Gx a M (updC M2 pc (.k (slK (kdC rows)))) := gx2.put hpcM
  generalize updC M2 pc (.k (slK (kdC rows))) = M3 at m3c src3 gx3
  refine db_cons (ds_dput (hu_of hr) (de_int ?_))
  walk_at "nm"
  walk_at "nm"
  refine ⟨pc, _, .inr z, rfl, m3c, rfl, by rw [hkl, sizeLine_eq]; omega, ?_⟩
  rw [show (Sl.d (PyData.int 1)) = dI 1 from rfl, putS_put]
  have okc : okCnt (putC rows z 1) := okCnt_putC okr zin (by decide) (by decide)
  have zin' : z ∈ (putC rows z 1).map (·.1) := by rw [putC_keys zin]; exact zin
  have gz1 : getC (putC rows z 1) z = some 1 := by rw [getC_put, if_pos rfl]
  have gzo : ∀ y, y ≠ z → getC (putC rows z 1) y = getC rows y := fun y hy => by rw [getC_put, if_neg hy]
  have m4c : updC M3 pc (.k (slK (kdC (putC rows z 1)))) pc = some (.k (slK (kdC (putC rows z 1)))) := updC_same
  have src4 : Src (updC M3 pc (.k (slK (kdC (putC rows z 1))))) a (n + 1) := src3.upd pca
  have gx4 : Gx a M (updC M3 pc (.k (slK (kdC (putC rows z 1))))) := gx3.put hpcM
  generalize updC M3 pc (.k (slK (kdC (putC rows z 1)))) = M4 at m4c src4 gx4
  generalize putC rows z 1 = cs at okc zin' gz1 gzo m4c
  clear m3c src3 gx3
  -- found
  refine db_cons (ds_set (i := 3) sc__law_single.nd rfl (.inl rfl) (de_dictE fun pf hpf => dks_cons ?_))
  walk_at "nm"
  refine ⟨.inr z, rfl, de_lstD (da_cons (de_tupD (da_cons (de_int (da_cons (de_int (da_nil ⟨[.int 1, .int 1], rfl, (by show 2 ≤ sizeLine; decide), da_nil ⟨[.tuple [.int 1, .int 1]], rfl, (by show 1 ≤ sizeLine; decide), dks_nil ⟨updC_same, ?_⟩⟩⟩)))))))⟩
  rw [updC_updC]
  have pfa := src4.ne hpf
  have hpfM : M pf = none := gx4.none hpf pfa
  have ncf : pc ≠ pf := neC m4c hpf
  have m5f : updC M4 pf (.k (mergeS [] [(.inr z, .d (.list [.tuple [.int 1, .int 1]]))])) pf = some (.k (slK (kdL [(z, [(1, 1)])]))) := updC_same
  have m5c : updC M4 pf (.k (mergeS [] [(.inr z, .d (.list [.tuple [.int 1, .int 1]]))])) pc = some (.k (slK (kdC cs))) := by rw [updC_ne ncf]; exact m4c
  have src5 : Src (updC M4 pf (.k (mergeS [] [(.inr z, .d (.list [.tuple [.int 1, .int 1]]))]))) a (n + 1) := src4.upd pfa
  have gx5 : Gx a M (updC M4 pf (.k (mergeS [] [(.inr z, .d (.list [.tuple [.int 1, .int 1]]))]))) := gx4.put hpfM
  generalize updC M4 pf (.k (mergeS [] [(.inr z, .d (.list [.tuple [.int 1, .int 1]]))])) = M5 at m5f m5c src5 gx5
  refine db_frzD (i := 1) (kd := kdC cs) rfl m5c ?_
  have m6f : delC M5 pc pf = some (.k (slK (kdL [(z, [(1, 1)])]))) := by rw [delC_ne ncf.symm]; exact m5f
  have src6 : Src (delC M5 pc) a (n + 1) := src5.del pca
  have gx6 : Gx a M (delC M5 pc) := gx5.del hpcM
  generalize delC M5 pc = M6 at m6f src6 gx6
  have ok1 : okLS cs [(z, [(1, 1)])] := ⟨by simp, by show 1 ≤ 12; decide, fun p hp => by
    rw [List.mem_singleton.mp hp]
    refine ⟨zn, zin', ?_, by show 1 ≤ 1000; decide⟩
    show okIvs ((getC cs z).getD 0) [(1, 1)]
    rw [gz1]
    exact okIvs_one (Int.le_refl 1) (Int.le_refl 1) (Int.le_refl 1)⟩
  refine db_cons (ds_forKeys (i := 1) (kd := kdC cs) PassesOwn.never rfl hL rfl (by walk_at "vis") rfl (fun i τ' M' => ∃ (ls : LSet) (y4 : Option Sl), τ' = [some (.c a), some (.d (eCnt cs)), some (dS z), some (.c pf), y4] ∧ Gx a M M' ∧ Src M' a (n + 1 + i) ∧ M' pf = some (.k (slK (kdL ls))) ∧ okLS cs ls ∧ ∀ q ∈ ls, q.2.length ≤ 1) ⟨[(z, [(1, 1)])], none, rfl, gx6, src6, m6f, ok1, fun q hq => by rw [List.mem_singleton.mp hq]; exact Nat.le_refl 1⟩ ?_ ?_)
  · rintro x ⟨xs, hx⟩ i k d τ' M7 hi ⟨ls, y4, rfl, gx7, src7, m7f, okl, hl1⟩
    unfold kdC at hi
    rw [List.getElem?_map] at hi
    obtain ⟨⟨y, v⟩, hpz, epz⟩ := Option.map_eq_some_iff.mp hi
    cases epz
    have hmem := List.mem_of_getElem? hpz
    have hgy : getC cs y = some v := getC_mem okc.2.2.1 hmem
    obtain ⟨yn, v0, v30⟩ := okc.2.2.2 _ hmem
    have hi12 : i < 12 := by
      have := (List.getElem?_eq_some_iff.mp hpz).1
      have := okc.2.1
      omega
    refine dg_of (pg_name (i := 4) sc__law_single.nd rfl (.inl rfl)) (wg_name ?_)
    refine db_cons (ds_if (dt_and3 (dt_cmp op_ne ?_ (by with_unfolding_all rfl))))
    walk_at "nm"
    walk_at "nm"
    refine k_neS ⟨_, rfl, fun h1 => dt_cmp op_gt (de_dget (hu_of hr) ?_) (by with_unfolding_all rfl), fun _ => ⟨no1, fun _ => db_nil (db_nil ⟨ls, _, rfl, gx7, src7.mono (by omega), m7f, okl, hl1⟩)⟩⟩
    walk_at "nm"
    walk_at "nm"
    refine ⟨_, .inr y, dI v, .d (kdC cs), rfl, by rw [valS_C, hgy]; rfl, de_int (k_bool ⟨_, rfl, fun h2 => dt_cmp op_eq (de_callC c1 hr (by rfl) (da_cons ?_)) (by with_unfolding_all rfl), fun _ => ⟨no1, fun _ => db_nil (db_nil ⟨ls, _, rfl, gx7, src7.mono (by omega), m7f, okl, hl1⟩)⟩⟩)⟩
    have h2 : 2 < v := of_decide_eq_true h2
    walk_at "nm"
    refine da_cons (de_int (da_nil ⟨a, _, 2, rfl, src7, by omega, by decide, by decide, fun M8 r8 fr8 src8 h80 h81 => de_int (k_eqI ⟨_, rfl, fun _ => ?_, fun _ => db_nil (db_nil ⟨ls, _, rfl, gx7.trans fr8.gx, src8.mono (by omega), by rw [fr8 pf pfa]; exact m7f, okl, hl1⟩)⟩)⟩))
    refine db_cons (ds_dput (hu_of hr) (de_lstD (da_cons (de_tupD (da_cons (de_int (da_cons (de_sub (de_dget (hu_of hr) ?_)))))))))
    walk_at "nm"
    walk_at "nm"
    refine ⟨_, .inr y, dI v, .d (kdC cs), rfl, by rw [valS_C, hgy]; rfl, de_int ⟨_, _, rfl, rfl, da_nil ⟨[.int 2, .int (v - 1)], rfl, (by show 2 ≤ sizeLine; decide), da_nil ⟨[.tuple [.int 2, .int (v - 1)]], rfl, (by show 1 ≤ sizeLine; decide), ?_⟩⟩⟩⟩
    walk_at "nm"
    walk_at "nm"
    refine ⟨pf, _, .inr y, rfl, by rw [fr8 pf pfa]; exact m7f, rfl, ?_, db_nil (db_nil ⟨putL ls y [(2, v - 1)], _, rfl, (gx7.trans fr8.gx).put hpfM, (src8.upd pfa).mono (by omega), ?_, okLS_put okc.2.1 okl yn (List.mem_map_of_mem (f := fun p : Str × Int => p.1) hmem) ?_ (by show 1 ≤ 1000; decide), fun q hq => ?_⟩)⟩
    · have := okl.2.1
      unfold slK kdL
      rw [List.length_map, List.length_map, sizeLine_eq]
      omega
    · rw [updC_same, show (PyData.list [.tuple [.int 2, .int (v - 1)]]) = eIvs [(2, v - 1)] from rfl, putS_D, putD_L]
    · show okIvs ((getC cs y).getD 0) [(2, v - 1)]
      rw [hgy]
      exact okIvs_one (by decide) (by omega) (by show v - 1 ≤ v; omega)
    · rcases putL_mem hq with hq | rfl
      · exact hl1 q hq
      · exact Nat.le_refl 1
  rintro τ' M7 ⟨ls, y4, rfl, gx7, src7, m7f, okl, hl1⟩
  have hkc : (kdC cs).length ≤ 12 := by
    have := okc.2.1
    unfold kdC
    rw [List.length_map]
    exact this
  refine db_frzD (i := 3) (kd := kdL ls) rfl m7f ?_
  have src8 : Src (delC M7 pf) a (n + 1 + (kdC cs).length) := src7.del pfa
  have gx8 : Gx a M (delC M7 pf) := gx7.del hpfM
  generalize delC M7 pf = M8 at src8 gx8
  refine db_cons (ds_ret (de_tupD (da_cons ?_)))
  walk_at "nm"
  refine da_cons ?_
  walk_at "nm"
  exact da_nil ⟨[eCnt cs, eLS ls], rfl, (by show 2 ≤ sizeLine; decide), fin _ _ _ gx8 (src8.mono (by omega)) okc okl fun q hq => Nat.le_trans (hl1 q hq) (by decide)⟩

local macro_rules | `(tactic| walk_at "nm") => `(tactic| first | ((with_reducible refine de_name (x := "line_counts") (i := 0) (s := ?s) ?hN ?hv ?ht ?q ?hd ?hcd); (case hN => rfl); (case hv => walk_at "vis"); (case ht => rfl); (case hd => decide); (case hcd => decide)) | ((with_reducible refine de_name (x := "line_set") (i := 1) (s := ?s) ?hN ?hv ?ht ?q ?hd ?hcd); (case hN => rfl); (case hv => walk_at "vis"); (case ht => rfl); (case hd => decide); (case hcd => decide)) | ((with_reducible refine de_name (x := "expected") (i := 2) (s := ?s) ?hN ?hv ?ht ?q ?hd ?hcd); (case hN => rfl); (case hv => walk_at "vis"); (case ht => rfl); (case hd => decide); (case hcd => decide)) | ((with_reducible refine de_name (x := "before") (i := 3) (s := ?s) ?hN ?hv ?ht ?q ?hd ?hcd); (case hN => rfl); (case hv => walk_at "vis"); (case ht => rfl); (case hd => decide); (case hcd => decide)) | ((with_reducible refine de_name (x := "turn") (i := 4) (s := ?s) ?hN ?hv ?ht ?q ?hd ?hcd); (case hN => rfl); (case hv => walk_at "vis"); (case ht => rfl); (case hd => decide); (case hcd => decide)) | ((with_reducible refine de_name (x := "result") (i := 5) (s := ?s) ?hN ?hv ?ht ?q ?hd ?hcd); (case hN => rfl); (case hv => walk_at "vis"); (case ht => rfl); (case hd => decide); (case hcd => decide)))


def R_right : Rr := fun L ss M Q => ∃ (cs : Cnt) (ls : LSet), NoDK L ∧ ss = [.d (eCnt cs), .d (eLS ls)] ∧ okCnt cs ∧ okLS cs ls ∧ (∀ q ∈ ls, q.2.length ≤ 40) ∧ Q (.d (.bool true)) M
set_option maxHeartbeats 8000000 in
theorem ok_law_right (S : Sys base) (F : FunAt K mg "_law_right" s__law_right ["line_counts", "line_set"]) (c1 : Cal P w K mg base "_law_obstructions" 2 ["line_counts", "line_set"] R_lobs) (c2 : Cal P w K mg base "survival_obstruction" 7 ["line_counts", "line_set"] R_so) (c3 : Cal P w K mg base "is_survival_obstruction" 7 ["line_counts", "line_set", "value"] R_isso) (c4 : Cal P w K mg base "can_survive" 8 ["line_counts", "line_set"] R_cansurv) (b1 : mg "repr" = none) (b2 : mg "range" = none) : CalG P w K mg base "_law_right" 9 ["line_counts", "line_set"] R_right := by
  refine calG_of F sc__law_right (fun _ ss _ _ ⟨cs, ls, _, e, _⟩ => by rw [e]; rfl) (fun f cdv A outer s H E L us M Q hr noG h => ?_)
  obtain ⟨cs, ls, hL, rfl, okc, okl, hl40, fin⟩ := h
  -- expected
  refine db_cons (ds_set (i := 2) sc__law_right.nd rfl (.inl rfl) (de_slHi (de_cat (de_callC (c1.up (by decide)) hr (by rfl) ?_))))
  walk_at "go"
  refine da_nil ⟨cs, ls, hL, rfl, okc, okl, fun p1 M1 obs hobs sub1 hp1 m1 hol => ?_⟩
  refine de_lstD (da_cons (de_non (da_nil ⟨[.none], rfl, (by show 1 ≤ sizeLine; decide), ?_⟩)))
  refine ⟨obs.map Sl.d, [Sl.d .none], by simp only [lstOf, m1], rfl, ?_, fun p2 hp2 => ?_⟩
  · rw [List.length_map, sizeLine_eq]
    show obs.length + 1 ≤ _
    omega
  have m2 : updC M1 p2 (.l (obs.map Sl.d ++ [Sl.d .none])) p2 = some (.l (obs.map Sl.d ++ [Sl.d .none])) := updC_same
  have sub2 : Sub M (updC M1 p2 (.l (obs.map Sl.d ++ [Sl.d .none]))) := sub1.new hp2
  generalize updC M1 p2 (.l (obs.map Sl.d ++ [Sl.d .none])) = M2 at m2 sub2
  refine de_int ⟨1, rfl, obs.map Sl.d ++ [Sl.d .none], rfl, by simp only [seqOf, m2], fun p3 hp3 => ?_⟩
  have ecut : cutG (obs.map Sl.d ++ [Sl.d .none]) none (some 1) = [.d (obs.head?.getD .none)] := by
    rw [show cutG (obs.map Sl.d ++ [Sl.d .none]) none (some 1) = (obs.map Sl.d ++ [Sl.d .none]).take 1 from cutG_hi _ 1]
    cases obs <;> rfl
  rw [ecut]
  have ho : ∀ cs', Sorted cs cs' → obOne cs' (neLS ls) = obs.head?.getD .none := fun cs' hs' => by
    unfold obOne
    rw [← hobs cs' hs']
  have hsome : isNone (.d (obs.head?.getD .none)) = false → obs.head?.getD .none ∈ obs := fun h => by
    cases obs with
    | nil => cases h
    | cons d r => exact List.mem_cons_self
  have hfit : ∀ cs0, Sorted cs cs0 → fitX (obs.head?.getD .none) = true ∧ wtX (obs.head?.getD .none) ≤ 20 ∧ (obs.head?.getD .none).depth ≤ 3 := fun cs0 hs0 => by
    cases e : obs with
    | nil => exact ⟨rfl, by decide +kernel, by decide +kernel⟩
    | cons d r =>
      have okl' := okLS_perm hs0.1 okc.2.2.1 okl
      obtain ⟨okn, nen⟩ := okNE okl'
      have := obAll_fit (okCnt_permS hs0.1 okc) okn nen d (by rw [← hobs cs0 hs0, e]; exact List.mem_cons_self)
      exact ⟨this.1, this.2.1, this.2.2.1⟩
  generalize obs.head?.getD .none = o at ho hsome hfit
  refine db_frz (j := 2) (p := p3) (ds := [o]) rfl updC_same ?_
  rw [delC_updC hp3]
  -- before
  have fb : fitX (.list [eCnt cs, eLS ls]) = true := by simp only [fitX, fitXs, fit_cnt okc, fit_ls okc okl, Bool.and_self, Bool.and_true]
  have wb : wtX (.list [eCnt cs, eLS ls]) ≤ 20000 := by
    have h1 := wt_cnt cs
    have h2 := wt_ls hl40
    have h3 := okc.2.1
    have h4 := okl.2.1
    have h5 : (2 + 3 * 40) * ls.length ≤ (2 + 3 * 40) * 12 := Nat.mul_le_mul_left _ h4
    simp only [wtX, wtXs]
    omega
  have db : (PyData.list [eCnt cs, eLS ls]).depth ≤ 60 := by
    have h1 := dep_cnt cs
    have h2 := dep_ls ls
    simp only [PyData.depth, PyData.depthAll]
    omega
  refine db_cons (ds_set (i := 3) sc__law_right.nd rfl (.inl rfl) (de_callB (call_showX S noG hr.units) (by rfl) b1 bt_repr (da_cons (de_lstD (da_cons ?_)))))
  walk_at "nm"
  refine da_cons ?_
  walk_at "nm"
  refine da_nil ⟨[eCnt cs, eLS ls], rfl, (by show 2 ≤ sizeLine; decide), da_nil (k_showX (.d _) rfl fb wb db ?_)⟩
  refine db_cons (ds_for PassesOwn.never rfl (di_range1 (by rfl) b2 (de_int ⟨2, rfl, by decide, by decide, ?_⟩)))
  refine ⟨fun i τ' M' => ∃ (y4 y5 : Option Sl), τ' = [some (.d (eCnt cs)), some (.d (eLS ls)), some (.d (.list [o])), some (dS (PyData.list [eCnt cs, eLS ls]).shown), y4, y5] ∧ M' = M2 ∧ (0 < i → y5 = some (.d o)), ⟨none, none, rfl, rfl, fun z => absurd z (by decide)⟩, fun _ _ _ _ => trivial, ?_, ?_⟩
  · rintro i y τ' M3 hi rfl ⟨y4, y5, rfl, rfl, _⟩
    refine dg_of (pg_name (i := 4) sc__law_right.nd rfl (.inl rfl)) (wg_name ?_)
    refine db_cons (ds_set (i := 5) sc__law_right.nd rfl (.inl rfl) (de_callC (c2.up (by decide)) hr (by rfl) ?_))
    walk_at "go"
    refine da_nil ⟨cs, ls, hL, rfl, okc, okl, fun cs' hs' => ?_⟩
    rw [ho cs' hs']
    obtain ⟨fo, wo, dep⟩ := hfit cs' hs'
    have fo1 : fitX (.list [o]) = true := by simp only [fitX, fitXs, fo, Bool.and_true]
    have wo1 : wtX (.list [o]) ≤ 20000 := by simp only [wtX, wtXs]; omega
    have do1 : (PyData.list [o]).depth ≤ 60 := by simp only [PyData.depth, PyData.depthAll]; omega
    refine db_cons (ds_ifF (dt_or2 (dt_cmp op_ne (de_callB (call_showX S noG hr.units) (by rfl) b1 bt_repr (da_cons (de_lstD (da_cons ?_)))) (by with_unfolding_all rfl))) (db_nil (db_nil ⟨_, _, rfl, rfl, fun _ => rfl⟩)))
    walk_at "nm"
    refine da_nil ⟨[o], rfl, (by show 1 ≤ sizeLine; decide), da_nil (k_showX (.d _) rfl fo1 wo1 do1 (de_callB (call_showX S noG hr.units) (by rfl) b1 bt_repr (da_cons ?_)))⟩
    walk_at "nm"
    refine da_nil (k_showX (.d _) rfl fo1 wo1 do1 (k_neS ⟨_, rfl, fun h => absurd h (by simp), fun _ => dt_cmp op_ne (de_callB (call_showX S noG hr.units) (by rfl) b1 bt_repr (da_cons (de_lstD (da_cons ?_)))) (by with_unfolding_all rfl)⟩))
    walk_at "nm"
    refine da_cons ?_
    walk_at "nm"
    refine da_nil ⟨[eCnt cs, eLS ls], rfl, (by show 2 ≤ sizeLine; decide), da_nil (k_showX (.d _) rfl fb wb db ?_)⟩
    walk_at "nm"
    exact k_neS ⟨_, rfl, by simp, rfl⟩
  rintro τ' M3 ⟨y4, y5, rfl, rfl, h5⟩
  rw [h5 (by decide)]
  refine db_cons (ds_ifF (dt_and2 (dt_cmp op_notN ?_ (nomark _))) (db_nil ?_))
  · walk_at "nm"
    refine de_non (k_notN ⟨_, rfl, fun h => dt_cmp op_notBl (de_callC (c3.up (by decide)) hr (by rfl) ?_) (by with_unfolding_all rfl), fun _ => ⟨rfl, rfl⟩⟩)
    have h : isNone (.d o) = false := by simpa using h
    walk_at "go"
    refine da_nil ⟨cs, ls, o, hL, rfl, okc, okl, fun cs' hs' => ?_, de_bl (k_notB ⟨_, rfl, rfl, rfl⟩)⟩
    rw [← hobs cs' hs']
    exact hsome h
  refine db_cons (ds_ret (de_gc (de_cmp op_eq (de_callB (call_showA S noG hr.units) (by rfl) b1 bt_repr (da_cons (de_callC (c4.up (by decide)) hr (by rfl) ?_))) (by with_unfolding_all rfl))))
  walk_at "go"
  refine da_nil ⟨cs, ls, hL, rfl, okc, okl, fun cs' hs' => da_nil (k_showA (d := .bool (isNone (.d (obOne cs' (neLS ls))))) (.d _) rfl rfl (by simp [wtX]) (by simp [PyData.depth]) ?_)⟩
  rw [ho cs' hs']
  refine de_callB (call_showA S noG hr.units) (by rfl) b1 bt_repr (da_cons (de_cmp op_isN ?_ (nomark _)))
  walk_at "nm"
  refine de_non (k_isN (da_nil (k_showA (d := .bool (isNone (.d o))) (.d _) rfl rfl (by simp [wtX]) (by simp [PyData.depth]) (k_eqS ⟨M, sub2, ?_⟩))))
  rw [decide_eq_true rfl]
  exact fin

end

end Pg

namespace Pg
open PySem L2 Y PyProof.Rows

local macro_rules | `(tactic| walk_at "vis") => `(tactic| first | exact Or.inl rfl | exact Or.inr (Or.inl rfl) | exact Or.inr (Or.inr rfl))
local macro_rules | `(tactic| walk_at "e1") => `(tactic| first | walk_at "nm" | refine de_int ?_ | refine de_add ?_ | refine de_sub ?_ | refine de_str ?_ | refine de_non ?_ | refine de_bl ?_)
local macro_rules | `(tactic| walk_at "go") => `(tactic| repeat (first | ((with_reducible show DE _ _ _ _ _ _); walk_at "e1") | ((with_reducible show DA _ _ _ _ _ _); refine da_cons ?_) | refine ⟨_, _, rfl, rfl, ?_⟩))


theorem nd_ls : ∀ ls : LSet, ndK (slK (kdL ls)) = true
  | [] => rfl
  | p :: r => by
    have ih := nd_ls r
    have e : slK (kdL (p :: r)) = (.inr p.1, .d (eIvs p.2)) :: slK (kdL r) := rfl
    have f : ndDs (p.2.map eIv) = true := ndDs_map eIv (fun q => by simp [eIv, ndD, ndDs]) p.2
    rw [e]
    simp only [ndK, ndS, eIvs, ndD, f, ih, Bool.and_self]
theorem view_right {L : Lk} {rows : Cnt} {ls : LSet} {a a1 a2 : Addr} {n : Nat} {M : Cs} {Q : Sl → Cs → Prop} (hL : NoDK L) (m1 : M a1 = some (.k (slK (kdC rows)))) (m2 : M a2 = some (.k (slK (kdL ls)))) (n12 : a1 ≠ a2) (n1 : a1 ≠ a) (n2 : a2 ≠ a) (sr : Src M a n) (okc : okCnt rows) (okl : okLS rows ls) (hl : ∀ q ∈ ls, q.2.length ≤ 40)
    (q : ∀ M' : Cs, M' a1 = some (.k (slK (kdC rows))) → M' a2 = some (.k (slK (kdL ls))) → Src M' a n → Q (.d (.bool true)) M') : View L (fun L ss M Q => View L R_right a2 (kdL ls) ss M Q) a1 (kdC rows) [.c a1, .c a2] M Q := by
  have see1 : seeA a1 (.dict (encK (kdC rows))) [.c a1, .c a2] = [.d (eCnt rows), .c a2] := by
    simp [seeA, n12.symm]
    rfl
  have see2 : seeA a2 (.dict (encK (kdL ls))) [.d (eCnt rows), .c a2] = [.d (eCnt rows), .d (eLS ls)] := by
    simp [seeA]
    rfl
  refine ⟨hL, m1, nd_cnt rows, ?_⟩
  rw [see1]
  refine ⟨hL, by rw [delC_ne n12.symm]; exact m2, nd_ls ls, ?_⟩
  rw [see2]
  have sr2 : Src (delC (delC M a1) a2) a n := (sr.del n1).del n2
  have sr3 := (sr2.keep (ps := [a]) (by simp)).upd (c := .k (slK (kdL ls))) n2
  refine ⟨rows, ls, hL, rfl, okc, okl, hl, fun no2 => ⟨keep [a] (delC (delC M a1) a2), keep_sub, rfl, keep_nd (fun z hz => ?_), fun no1 => ⟨keep [a, a2] (updC (keep [a] (delC (delC M a1) a2)) a2 (.k (slK (kdL ls)))), keep_sub, rfl, keep_nd (fun z hz => ?_), q _ updC_same ?_ ?_⟩⟩⟩
  · rw [List.mem_singleton.mp hz]
    exact sr2.nd
  · rcases List.mem_cons.mp hz with rfl | hz
    · exact sr3.nd
    rw [List.mem_singleton.mp hz]
    exact ⟨_, updC_same, nd_ls ls⟩
  · rw [updC_ne n12.symm, keep_in (by simp)]
    exact updC_same
  · exact (sr3.keep (ps := [a, a2]) (by simp)).upd n1
theorem okIvs_more {h h' : Int} {l : Ivs} (ok : okIvs h l) (hh : h ≤ h') : okIvs h' l := ⟨fun p hp => by
  have := ok.1 p hp
  omega, ok.2⟩
theorem okLS_nil (cs : Cnt) : okLS cs [] := ⟨List.nodup_nil, Nat.zero_le _, fun _ h => nomatch h⟩
theorem okLS_putC {rows : Cnt} {ls : LSet} {z : Str} {v v' : Int} (ok : okLS rows ls) (hz : getC rows z = some v) (zin : z ∈ rows.map (·.1)) (hv : v ≤ v') : okLS (putC rows z v') ls := by
  refine ⟨ok.1, ok.2.1, fun p hp => ?_⟩
  obtain ⟨h1, h2, h3, h4⟩ := ok.2.2 p hp
  refine ⟨h1, by rw [putC_keys zin]; exact h2, okIvs_more h3 ?_, h4⟩
  show (getC rows p.1).getD 0 ≤ (getC (putC rows z v') p.1).getD 0
  rw [getC_put]
  by_cases e : p.1 = z
  · rw [if_pos e, e, hz]
    exact hv
  · rw [if_neg e]
    exact Int.le_refl _
theorem cs31_ok : okCnt ([("a", 3), ("b", 1)] : Cnt) := ⟨by decide, by decide, by decide +kernel, fun p hp => by
  rcases List.mem_cons.mp hp with rfl | hp
  · exact ⟨by decide +kernel, by decide, by decide⟩
  · rw [List.mem_singleton.mp hp]; exact ⟨by decide +kernel, by decide, by decide⟩⟩
theorem ls13_ok : okLS ([("a", 3), ("b", 1)] : Cnt) ([("a", [(1, 1), (3, 3)])] : LSet) := ⟨by decide +kernel, by decide, fun p hp => by
  rw [List.mem_singleton.mp hp]
  refine ⟨by decide +kernel, by decide +kernel, ?_, by decide⟩
  rw [show high (some ([("a", 3), ("b", 1)] : Cnt)) ("a", [((1 : Int), (1 : Int)), (3, 3)]).1 = 3 by decide +kernel]
  exact okIvs_cons (okIvs_one (by decide) (by decide) (by decide)) (by decide) (by decide) (by decide) fun p h => by
    cases h
    decide⟩
theorem ls22_ok : okLS ([("a", 3), ("b", 1)] : Cnt) ([("b", [(1, 1)]), ("a", [(2, 2)])] : LSet) := ⟨by decide +kernel, by decide, fun p hp => by
  rcases List.mem_cons.mp hp with rfl | hp
  · refine ⟨by decide +kernel, by decide +kernel, ?_, by decide⟩
    rw [show high (some ([("a", 3), ("b", 1)] : Cnt)) ("b", [((1 : Int), (1 : Int))]).1 = 1 by decide +kernel]
    exact okIvs_one (by decide) (by decide) (by decide)
  · rw [List.mem_singleton.mp hp]
    refine ⟨by decide +kernel, by decide +kernel, ?_, by decide⟩
    rw [show high (some ([("a", 3), ("b", 1)] : Cnt)) ("a", [((2 : Int), (2 : Int))]).1 = 3 by decide +kernel]
    exact okIvs_one (by decide) (by decide) (by decide)⟩
theorem ob13 : ∀ cs', Sorted ([("a", 3), ("b", 1)] : Cnt) cs' → obOne cs' (neLS ([("a", [(1, 1), (3, 3)])] : LSet)) = obGP "a" 1 0 := fun cs' hs => by
  unfold obOne
  rw [obAll_law (zs := ["a"]) (ws := ["a", "b"]) cs31_ok ls13_ok hs (List.Perm.refl _) (List.Perm.refl _) (by decide +kernel)]
  rfl
theorem ob22 : ∀ cs', Sorted ([("a", 3), ("b", 1)] : Cnt) cs' → obOne cs' (neLS ([("b", [(1, 1)]), ("a", [(2, 2)])] : LSet)) = obSE ("b", 1) := fun cs' hs => by
  unfold obOne
  rw [obAll_law (zs := ["b", "a"]) (ws := ["a", "b"]) cs31_ok ls22_ok hs (List.Perm.refl _) (List.Perm.refl _) (by decide +kernel)]
  rfl
theorem cs0_ok : okCnt [("a", 0)] := ⟨by decide, by decide, by decide +kernel, fun p hp => by
  rw [List.mem_singleton.mp hp]
  exact ⟨by decide +kernel, by decide, by decide⟩⟩
theorem ob0 : ∀ cs', Sorted [("a", 0)] cs' → obOne cs' (neLS []) = .none := fun cs' hs => by
  unfold obOne
  rw [obAll_law (zs := []) (ws := ["a"]) cs0_ok (okLS_nil _) hs (List.Perm.refl _) (List.Perm.refl _) (by decide +kernel)]
  rfl
theorem mg13 : mergeS [] [((Sum.inr "a" : Key), Sl.d (.list [.tuple [.int 1, .int 1], .tuple [.int 3, .int 3]]))] = slK (kdL ([("a", [(1, 1), (3, 3)])] : LSet)) := by
  rw [mergeS_nodup _ _ (by decide +kernel)]
  rfl
theorem mg22 : mergeS [] [((Sum.inr "b" : Key), Sl.d (.list [.tuple [.int 1, .int 1]])), ((Sum.inr "a" : Key), Sl.d (.list [.tuple [.int 2, .int 2]]))] = slK (kdL ([("b", [(1, 1)]), ("a", [(2, 2)])] : LSet)) := by
  rw [mergeS_nodup _ _ (by decide +kernel)]
  rfl
theorem shp2 : SeqAt.shaped (.list [obGP "a" 1 0, obSE ("b", 1)]) = true := by decide +kernel
theorem eqp2 : PyData.eqv (.list [obGP "a" 1 0, obSE ("b", 1)]) (.list [obGP "a" 1 0, obSE ("b", 1)]) = true := by decide +kernel

end Pg

namespace Pg
open PySem L2 Y PyProof.Rows

local macro_rules | `(tactic| walk_at "vis") => `(tactic| first | exact Or.inl rfl | exact Or.inr (Or.inl rfl) | exact Or.inr (Or.inr rfl))
local macro_rules | `(tactic| walk_at "e1") => `(tactic| first | walk_at "nm" | refine de_int ?_ | refine de_add ?_ | refine de_sub ?_ | refine de_str ?_ | refine de_non ?_ | refine de_bl ?_)
local macro_rules | `(tactic| walk_at "go") => `(tactic| repeat (first | ((with_reducible show DE _ _ _ _ _ _); walk_at "e1") | ((with_reducible show DA _ _ _ _ _ _); refine da_cons ?_) | refine ⟨_, _, rfl, rfl, ?_⟩))


section
variable {P : Program} {w : World} {K : PySem.W.Frag} {mg : Str → Option Value} {base : Heap}

local macro_rules | `(tactic| walk_at "nm") => `(tactic| first | ((with_reducible refine de_name (x := "script") (i := 0) (s := ?s) ?hN ?hv ?ht ?q ?hd ?hcd); (case hN => rfl); (case hv => walk_at "vis"); (case ht => rfl); (case hd => decide); (case hcd => decide)) | ((with_reducible refine de_name (x := "k") (i := 1) (s := ?s) ?hN ?hv ?ht ?q ?hd ?hcd); (case hN => rfl); (case hv => walk_at "vis"); (case ht => rfl); (case hd => decide); (case hcd => decide)) | ((with_reducible refine de_name (x := "source") (i := 2) (s := ?s) ?hN ?hv ?ht ?q ?hd ?hcd); (case hN => rfl); (case hv => walk_at "vis"); (case ht => rfl); (case hd => decide); (case hcd => decide)) | ((with_reducible refine de_name (x := "turn") (i := 3) (s := ?s) ?hN ?hv ?ht ?q ?hd ?hcd); (case hN => rfl); (case hv => walk_at "vis"); (case ht => rfl); (case hd => decide); (case hcd => decide)) | ((with_reducible refine de_name (x := "line_counts") (i := 4) (s := ?s) ?hN ?hv ?ht ?q ?hd ?hcd); (case hN => rfl); (case hv => walk_at "vis"); (case ht => rfl); (case hd => decide); (case hcd => decide)) | ((with_reducible refine de_name (x := "line_set") (i := 5) (s := ?s) ?hN ?hv ?ht ?q ?hd ?hcd); (case hN => rfl); (case hv => walk_at "vis"); (case ht => rfl); (case hd => decide); (case hcd => decide)) | ((with_reducible refine de_name (x := "others") (i := 6) (s := ?s) ?hN ?hv ?ht ?q ?hd ?hcd); (case hN => rfl); (case hv => walk_at "vis"); (case ht => rfl); (case hd => decide); (case hcd => decide)) | ((with_reducible refine de_name (x := "single") (i := 7) (s := ?s) ?hN ?hv ?ht ?q ?hd ?hcd); (case hN => rfl); (case hv => walk_at "vis"); (case ht => rfl); (case hd => decide); (case hcd => decide)) | ((with_reducible refine de_name (x := "tight") (i := 8) (s := ?s) ?hN ?hv ?ht ?q ?hd ?hcd); (case hN => rfl); (case hv => walk_at "vis"); (case ht => rfl); (case hd => decide); (case hcd => decide)) | ((with_reducible refine de_name (x := "name") (i := 9) (s := ?s) ?hN ?hv ?ht ?q ?hd ?hcd); (case hN => rfl); (case hv => walk_at "vis"); (case ht => rfl); (case hd => decide); (case hcd => decide)) | ((with_reducible refine de_name (x := "counts_here") (i := 10) (s := ?s) ?hN ?hv ?ht ?q ?hd ?hcd); (case hN => rfl); (case hv => walk_at "vis"); (case ht => rfl); (case hd => decide); (case hcd => decide)) | ((with_reducible refine de_name (x := "results") (i := 11) (s := ?s) ?hN ?hv ?ht ?q ?hd ?hcd); (case hN => rfl); (case hv => walk_at "vis"); (case ht => rfl); (case hd => decide); (case hcd => decide)) | ((with_reducible refine de_name (x := "expected") (i := 12) (s := ?s) ?hN ?hv ?ht ?q ?hd ?hcd); (case hN => rfl); (case hv => walk_at "vis"); (case ht => rfl); (case hd => decide); (case hcd => decide)))


def R_law : Rr := fun L ss M Q => ∃ (s : Sl) (ns : List Int), NoDK L ∧ ss = [s] ∧ (∀ M', seqOf M' s = some (ns.map dI)) ∧ ns.length ≤ 63 ∧ ∀ M', Q (.d (.bool true)) M'
set_option maxHeartbeats 8000000 in
theorem ok_law (S : Sys base) {f : Addr} {fd : FuncData} (F : Fun K "law" "law" s_law f fd) (c1 : Cal P w K mg base "_law_source" 1 ["script", "k"] R_source) (c2 : Cal P w K mg base "_law_draw" 1 ["source", "limit"] R_draw) (c3 : Cal P w K mg base "_law_line_counts" 3 ["source", "most_writers", "most_lines"] R_lcounts) (c4 : Cal P w K mg base "_law_line_set" 3 ["source", "line_counts", "most"] R_lset)
    (c5 : Cal P w K mg base "_law_with_ends" 2 ["source", "line_counts", "line_set"] R_wends) (c6 : Cal P w K mg base "_law_single" 2 ["source", "line_counts"] R_single) (c7 : Cal P w K mg base "_law_tight" 3 ["source"] R_tight) (c8 : CalG P w K mg base "_law_right" 9 ["line_counts", "line_set"] R_right) (c9 : Cal P w K mg base "survival_obstruction" 7 ["line_counts", "line_set"] R_so)
    (b1 : mg "range" = none) (b2 : mg "max" = none) (b3 : mg "min" = none) (b4 : mg "len" = none) (b5 : mg "sorted" = none) : Calm P w K mg base 10 f fd ["script"] (Spk K R_law) := by
  refine calm_of F sc_law (fun _ ss _ _ ⟨s, ns, _, h, _⟩ => by rw [h]; rfl) (fun cdv A outer s H E L ss M Q hr noG h => ?_)
  obtain ⟨x, ns, hL, rfl, hs, hl, fin⟩ := h
  refine db_cons (ds_for PassesOwn.never rfl (di_range1 (by rfl) b1 (de_callB (call_max2 rfl) (by rfl) b2 bt_max (da_cons (de_int (da_cons (de_callB (call_min2 rfl) (by rfl) b3 bt_min (da_cons (de_int (da_cons (de_callB call_len_seq (by rfl) b4 bt_len (da_cons ?_)))))))))))) 
  walk_at "nm"
  refine da_nil (k_len (hs M) (da_nil (k_min2 (da_nil (k_max2 ⟨_, rfl, ?_⟩)))))
  have hk : ∃ k : Nat, (if (if ((ns.map dI).length : Int) < 6 then ((ns.map dI).length : Int) else 6) > 1 then (if ((ns.map dI).length : Int) < 6 then ((ns.map dI).length : Int) else 6) else 1) = (k : Int) ∧ k ≤ 6 := by
    by_cases h : ((ns.map dI).length : Int) < 6
    · rw [if_pos h]
      by_cases h2 : ((ns.map dI).length : Int) > 1
      · exact ⟨(ns.map dI).length, by rw [if_pos h2], by omega⟩
      · exact ⟨1, by rw [if_neg h2]; rfl, by decide⟩
    · exact ⟨6, by rw [if_neg h]; rfl, Nat.le_refl _⟩
  obtain ⟨kk, ek, hkk⟩ := hk
  rw [ek]
  refine ⟨by omega, by omega, ?_⟩
  refine ⟨fun i τ' M' => ∃ y1 y2 y3 y4 y5 y6 y7 y8 y9, τ' = [some x, y1, y2, y3, y4, y5, y6, y7, y8, y9, none, none, none], ⟨none, none, none, none, none, none, none, none, none, rfl⟩, fun _ _ _ _ => trivial, ?_, ?_⟩
  · rintro i y τ' M2 hi rfl ⟨y1, y2, y3, y4, y5, y6, y7, y8, y9, rfl⟩
    have hi : i < 6 := by omega
    refine dg_of (pg_name (i := 1) sc_law.nd rfl (.inl rfl)) (wg_name ?_)
    refine db_cons (ds_set (i := 2) sc_law.nd rfl (.inl rfl) (de_callC (c1.up (by decide)) hr (by rfl) ?_))
    walk_at "go"
    refine da_nil ⟨x, ns, i, rfl, hs M2, by omega, by omega, fun ps M3 hps sub3 sr3 => ?_⟩
    refine db_cons (ds_for PassesOwn.never rfl (di_range1 (by rfl) b1 (de_int ⟨6, rfl, by decide, by decide, ?_⟩)))
    refine ⟨fun j τ' M' => ∃ y3 y4 y5 y6 y7 y8 y9, τ' = [some x, some (dI i), some (.c ps), y3, y4, y5, y6, y7, y8, y9, none, none, none] ∧ Src M' ps (1000 * j), ⟨_, _, _, _, _, _, _, rfl, sr3⟩, fun _ _ _ _ => trivial, ?_, ?_⟩
    · rintro j y τ' M4 hj rfl ⟨z3, z4, z5, z6, z7, z8, z9, rfl, sr4⟩
      have hj : j < 6 := hj
      refine dg_of (pg_name (i := 3) sc_law.nd rfl (.inl rfl)) (wg_name ?_)
      -- line_counts
      refine db_cons (ds_set (i := 4) sc_law.nd rfl (.inl rfl) (de_callC (c3.up (by decide)) hr (by rfl) (da_cons ?_)))
      walk_at "nm"
      refine da_cons (de_ix (de_lstD (da_cons (de_int (da_cons (de_int (da_nil ⟨[.int 3, .int 12], rfl, (by show 2 ≤ sizeLine; decide), de_mod ?_⟩)))))))
      walk_at "nm"
      have emw : ∃ mw : Int, 0 < mw ∧ mw ≤ 12 ∧ atI ([.int 3, .int 12].map Sl.d) ((j : Int) % 2) = some (dI mw) := by
        have c8 : (j : Int) % 2 = 0 ∨ (j : Int) % 2 = 1 := by omega
        rcases c8 with e | e
        · rw [e]; exact ⟨3, by decide, by decide, rfl⟩
        · rw [e]; exact ⟨12, by decide, by decide, rfl⟩
      obtain ⟨mw, mw0, mw1, emw⟩ := emw
      refine de_int ⟨_, _, rfl, rfl, by decide, _, (j : Int) % 2, dI mw, rfl, rfl, emw, da_cons (de_ix (de_lstD (da_cons (de_int (da_cons (de_int (da_cons (de_pow (de_int (de_int ⟨_, _, rfl, rfl, powW (k := 4) (by decide) (by decide) (by decide), ?_⟩)))))))))) ⟩
      refine da_nil ⟨[.int 3, .int 9, .int (10 ^ 30)], rfl, (by show 3 ≤ sizeLine; decide), de_callC (c2.up (by decide)) hr (by rfl) (da_cons ?_)⟩
      walk_at "nm"
      refine da_cons (de_int (da_nil ⟨ps, _, 3, rfl, sr4, by omega, by decide, by decide, fun M5 r5 fr5 sr5 h50 h51 => ?_⟩))
      have e5 : ∃ u : Int, 0 ≤ u ∧ u ≤ 10 ^ 30 ∧ atI ([.int 3, .int 9, .int (10 ^ 30)].map Sl.d) r5 = some (dI u) := by
        have c8 : r5 = 0 ∨ r5 = 1 ∨ r5 = 2 := by omega
        rcases c8 with rfl | rfl | rfl
        · exact ⟨3, by decide, by decide, rfl⟩
        · exact ⟨9, by decide, by decide, rfl⟩
        · exact ⟨10 ^ 30, by decide, by decide, rfl⟩
      obtain ⟨ml, ml0, ml1, eml⟩ := e5
      refine ⟨_, r5, dI ml, rfl, rfl, eml, da_nil ⟨ps, _, mw, ml, rfl, sr5, by omega, mw0, mw1, ml0, ml1, fun rows p1 M6 gx6 p1s hp1 m6 sr6 okr => ?_⟩⟩
      -- line_set
      have see : ∀ rs : Cnt, seeA p1 (.dict (encK (kdC rs))) [.c ps, .c p1, dI 3] = [.c ps, .d (eCnt rs), dI 3] := fun rs => by
        simp [seeA, p1s.symm, dI]
        rfl
      refine db_cons (ds_set (i := 5) sc_law.nd rfl (.inl rfl) (de_callV p1 (kdC rows) (c4.up (by decide)) hr (by rfl) ?_))
      walk_at "go"
      refine da_nil ⟨hL, m6, nd_cnt rows, ps, _, rows, 3, hL, see rows, sr6.del p1s, by omega, okr, by decide, by decide, fun ls p2 M7 gx7 p2s hp2 m7 sr7 okl hl3 no7 => ⟨keep [ps, p2] M7, keep_sub, rfl, keep_nd (fun z hz => ?_), ?_⟩⟩
      · rcases List.mem_cons.mp hz with rfl | hz
        · exact sr7.nd
        rw [List.mem_singleton.mp hz]
        exact ⟨_, m7, nd_ls ls⟩
      have n12 : p1 ≠ p2 := fun e => by rw [e, m7] at no7; cases no7
      have m8a : updC (keep [ps, p2] M7) p1 (.k (slK (kdC rows))) p1 = some (.k (slK (kdC rows))) := updC_same
      have m8b : updC (keep [ps, p2] M7) p1 (.k (slK (kdC rows))) p2 = some (.k (slK (kdL ls))) := by rw [updC_ne n12.symm, keep_in (by simp)]; exact m7
      have sr8 := (sr7.keep (ps := [ps, p2]) (by simp)).upd (c := .k (slK (kdC rows))) p1s
      generalize updC (keep [ps, p2] M7) p1 (.k (slK (kdC rows))) = M8 at m8a m8b sr8
      clear sr7 m7 gx7 hp2 no7 sr6 m6 gx6 hp1 sr5 fr5 sr4
      have sr8 : Src M8 ps (1000 * j + 541) := sr8.mono (by omega)
      have hl5 : ∀ q ∈ ls, q.2.length ≤ 40 := fun q hq => Nat.le_trans (hl3 q hq) (by decide)
      refine db_consJ (fun τ' M' => ∃ (ls : LSet) (p2 : Addr), τ' = [some x, some (dI i), some (.c ps), some (dI j), some (.c p1), some (.c p2), z6, z7, z8, z9, none, none, none] ∧ p1 ≠ p2 ∧ p2 ≠ ps ∧ M' p1 = some (.k (slK (kdC rows))) ∧ M' p2 = some (.k (slK (kdL ls))) ∧ Src M' ps (1000 * j + 551) ∧ okLS rows ls ∧ ∀ q ∈ ls, q.2.length ≤ 40) (ds_if (dt_cmp op_gt ?_ (by with_unfolding_all rfl))) ?_
      · walk_at "nm"
        refine de_int (k_bool ⟨_, rfl, fun _ => ?_, fun _ => db_nil ⟨ls, p2, rfl, n12, p2s, m8a, m8b, sr8.mono (by omega), okl, hl5⟩⟩)
        refine db_frzD (i := 5) (kd := kdL ls) rfl m8b ?_
        have see2 : seeA p1 (.dict (encK (kdC rows))) [.c ps, .c p1, .d (eLS ls)] = [.c ps, .d (eCnt rows), .d (eLS ls)] := by
          simp [seeA, p1s.symm]
          rfl
        refine db_cons (ds_set (i := 5) sc_law.nd rfl (.inl rfl) (de_callV p1 (kdC rows) (c5.up (by decide)) hr (by rfl) ?_))
        walk_at "go"
        refine da_nil ⟨hL, by rw [delC_ne n12]; exact m8a, nd_cnt rows, ps, _, rows, ls, hL, see2, (sr8.del p2s).del p1s, by omega, okr, okl, hl3, fun ls' p3 M9 gx9 p3s hp3 m9 sr9 okl' hl5' no9 => ⟨keep [ps, p3] M9, keep_sub, rfl, keep_nd (fun z hz => ?_), ?_⟩⟩
        · rcases List.mem_cons.mp hz with rfl | hz
          · exact sr9.nd
          rw [List.mem_singleton.mp hz]
          exact ⟨_, m9, nd_ls ls'⟩
        have n13 : p1 ≠ p3 := fun e => by rw [e, m9] at no9; cases no9
        exact db_nil ⟨ls', p3, rfl, n13, p3s, updC_same, by rw [updC_ne n13.symm, keep_in (by simp)]; exact m9, ((sr9.keep (ps := [ps, p3]) (by simp)).upd p1s), okl', fun q hq => Nat.le_trans (hl5' q hq) (by decide)⟩
      clear hl5 hl3 okl sr8 m8b m8a n12 p2s
      rintro τ' M9 ⟨ls, p2, rfl, n12, p2s, m9a, m9b, sr9, okl, hl5⟩
      -- others, single
      refine db_cons (ds_asg (de_callC (c6.up (by decide)) hr (by rfl) ?_))
      walk_at "go"
      refine da_nil ⟨ps, p1, _, rows, hL, rfl, p1s, m9a, sr9, by omega, okr, fun cs1 ls1 MA gxA srA okc1 okl1 hl1 => ?_⟩
      refine dg_of (pg_tup rfl (pgs_cons (pg_name (i := 6) sc_law.nd rfl (.inl rfl)) (pgs_cons (pg_name (i := 7) sc_law.nd rfl (.inl rfl)) pgs_nil))) (wg_tup rfl rfl rfl (wgs_cons (wg_name (wgs_cons (wg_name (wgs_nil ?_))))))
      have mAa := gxA _ _ p1s m9a
      have mAb := gxA _ _ p2s m9b
      refine db_cons (ds_if (dt_imp (QB2 := fun k M1 => k = false ∧ M1 p1 = some (.k (slK (kdC rows))) ∧ M1 p2 = some (.k (slK (kdL ls))) ∧ Src M1 ps (1000 * j + 571)) (dt_or2 (dt_not (dt_val (de_callVG p1 (kdC rows) (c8.view p2 (kdL ls)) (hr.mono (by decide)) noG (by rfl) ?_)))) ?_))
      · walk_at "go"
        refine da_nil (view_right hL mAa mAb n12 p1s p2s srA okr okl hl5 fun MB mBa mBb srB => ⟨true, rfl, no1, fun _ => dt_not (dt_val (de_callG c8 (hr.mono (by decide)) noG (by rfl) ?_))⟩)
        walk_at "go"
        exact da_nil ⟨cs1, ls1, hL, rfl, okc1, okl1, hl1, ⟨true, rfl, rfl, mBa, mBb, srB⟩⟩
      rintro k MB ⟨rfl, mBa, mBb, srB⟩
      refine ⟨no1, fun _ => db_nil ?_⟩
      -- no lines
      refine db_cons (ds_if (dt_imp (QB2 := fun k M1 => k = false ∧ M1 p1 = some (.k (slK (kdC rows))) ∧ M1 p2 = some (.k (slK (kdL ls))) ∧ Src M1 ps (1000 * j + 571)) (dt_not (dt_val (de_callVG p1 (kdC rows) c8 (hr.mono (by decide)) noG (by rfl) (da_cons ?_)))) ?_))
      · walk_at "nm"
        refine da_cons (de_frzK (de_dictC fun p hp => ⟨p, [], rfl, updC_same, ?_⟩))
        rw [delC_updC hp]
        have see3 : seeA p1 (.dict (encK (kdC rows))) [.c p1, .d (.dict (encK []))] = [.d (eCnt rows), .d (eLS [])] := by
          simp [seeA]
          exact ⟨rfl, rfl⟩
        have mCb : delC MB p1 p2 = some (.k (slK (kdL ls))) := by rw [delC_ne n12.symm]; exact mBb
        refine da_nil ⟨hL, mBa, nd_cnt rows, rows, [], hL, see3, okr, okLS_nil _, (fun _ h => nomatch h), fun no => ⟨keep [ps, p2] (delC MB p1), keep_sub, rfl, keep_nd (fun z hz => ?_), true, rfl, rfl, updC_same, ?_, ?_⟩⟩
        · rcases List.mem_cons.mp hz with rfl | hz
          · exact (srB.del p1s).nd
          rw [List.mem_singleton.mp hz]
          exact ⟨_, mCb, nd_ls ls⟩
        · rw [updC_ne n12.symm, keep_in (by simp)]
          exact mCb
        · exact ((srB.del p1s).keep (ps := [ps, p2]) (by simp)).upd p1s
      rintro k MC ⟨rfl, mCa, mCb, srC⟩
      refine ⟨no1, fun _ => db_nil ?_⟩
      -- others, tight
      refine db_cons (ds_asg (de_callC (c7.up (by decide)) hr (by rfl) ?_))
      walk_at "go"
      refine da_nil ⟨ps, _, hL, rfl, srC, by omega, fun cs2 ls2 MD gxD srD okc2 okl2 hl2 => ?_⟩
      refine dg_of (pg_tup rfl (pgs_cons (pg_name (i := 6) sc_law.nd rfl (.inl rfl)) (pgs_cons (pg_name (i := 8) sc_law.nd rfl (.inl rfl)) pgs_nil))) (wg_tup rfl rfl rfl (wgs_cons (wg_name (wgs_cons (wg_name (wgs_nil ?_))))))
      have mDa := gxD _ _ p1s mCa
      have mDb := gxD _ _ p2s mCb
      refine db_cons (ds_if (dt_not (dt_val (de_callG c8 (hr.mono (by decide)) noG (by rfl) ?_))))
      walk_at "go"
      refine da_nil ⟨cs2, ls2, hL, rfl, okc2, okl2, hl2, ⟨true, rfl, no1, fun _ => db_nil ?_⟩⟩
      -- changed in place
      have nd := okr.2.2.1
      have l1 := okr.1
      have l12 := okr.2.1
      refine db_cons (ds_dput (hu_of hr) (de_lstD (da_nil ⟨[], rfl, Nat.zero_le _, ?_⟩)))
      walk_at "nm"
      refine de_ix (de_callB (call_sortedD rfl) (by rfl) b5 bt_sorted (da_cons ?_))
      walk_at "nm"
      refine da_nil (k_sortedD (.c mDa) (keys_C rows) (by rw [List.length_map]; omega) fun ys py hperm hsort hpy => ?_)
      have hyl : ys.length = rows.length := by rw [hperm.length_eq, List.length_map]
      have hj0 : 0 < ys.length := by omega
      have n1y : p1 ≠ py := neC mDa hpy
      have n2y : p2 ≠ py := neC mDb hpy
      have pys := srD.ne hpy
      refine de_int ⟨ys.map dS, ((0 : Nat) : Int), dS ys[0], by simp only [seqOf, updC_same], rfl, atI_nat (by rw [List.getElem?_map, List.getElem?_eq_getElem hj0]; rfl), ?_⟩
      have hin : ys[0] ∈ rows.map (·.1) := hperm.mem_iff.mp (List.getElem_mem hj0)
      generalize ys[0] = z at hin
      have zn : okName z = true := by
        obtain ⟨p, hp, rfl⟩ := List.mem_map.mp hin
        exact (okr.2.2.2 p hp).1
      refine ⟨p2, _, .inr z, rfl, by rw [updC_ne n2y]; exact mDb, rfl, ?_, ?_⟩
      · have := okl.2.1
        unfold slK kdL
        rw [List.length_map, List.length_map, sizeLine_eq]
        omega
      rw [show (PyData.list []) = eIvs [] from rfl, putS_D, putD_L]
      have okl' := okLS_put okr.2.1 okl zn hin (okIvs_nil _) (Nat.zero_le 1000)
      have hl5' : ∀ q ∈ putL ls z [], q.2.length ≤ 40 := fun q hq => by
        rcases putL_mem hq with hq | rfl
        · exact hl5 q hq
        · exact Nat.zero_le _
      have mEa : updC (updC MD py (.l (ys.map dS))) p2 (.k (slK (kdL (putL ls z [])))) p1 = some (.k (slK (kdC rows))) := by rw [updC_ne n12, updC_ne n1y]; exact mDa
      have mEb : updC (updC MD py (.l (ys.map dS))) p2 (.k (slK (kdL (putL ls z [])))) p2 = some (.k (slK (kdL (putL ls z [])))) := updC_same
      have srE : Src (updC (updC MD py (.l (ys.map dS))) p2 (.k (slK (kdL (putL ls z []))))) ps (1000 * j + 621) := (srD.upd pys).upd p2s
      generalize updC (updC MD py (.l (ys.map dS))) p2 (.k (slK (kdL (putL ls z [])))) = ME at mEa mEb srE
      generalize putL ls z [] = lsE at mEb okl' hl5'
      clear hj0 hyl
      refine db_cons (ds_set (i := 9) sc_law.nd rfl (.inl rfl) (de_ix (de_callB (call_sortedD rfl) (by rfl) b5 bt_sorted (da_cons ?_))))
      walk_at "nm"
      refine da_nil (k_sortedD (.c mEa) (keys_C rows) (by rw [List.length_map]; omega) fun ws pw hpermW hsortW hpw => ?_)
      have hwl : ws.length = rows.length := by rw [hpermW.length_eq, List.length_map]
      have hwne : ws ≠ [] := fun e => by rw [e] at hwl; simp at hwl; omega
      have hgl : ws.getLast? = some (ws.getLast hwne) := List.getLast?_eq_some_getLast hwne
      have hlS : (ws.map dS).getLast? = some (dS (ws.getLast hwne)) := by rw [List.getLast?_map, hgl]; rfl
      have hin2 : ws.getLast hwne ∈ rows.map (·.1) := hpermW.mem_iff.mp (List.getLast_mem hwne)
      refine de_neg (de_int ⟨1, rfl, ws.map dS, _, dS (ws.getLast hwne), by simp only [seqOf, updC_same], rfl, atI_l hlS, ?_⟩)
      generalize ws.getLast hwne = z2 at hin2
      have n1w : p1 ≠ pw := neC mEa hpw
      have n2w : p2 ≠ pw := neC mEb hpw
      have pws := srE.ne hpw
      have mFa : updC ME pw (.l (ws.map dS)) p1 = some (.k (slK (kdC rows))) := by rw [updC_ne n1w]; exact mEa
      have mFb : updC ME pw (.l (ws.map dS)) p2 = some (.k (slK (kdL lsE))) := by rw [updC_ne n2w]; exact mEb
      have srF : Src (updC ME pw (.l (ws.map dS))) ps (1000 * j + 621) := srE.upd pws
      generalize updC ME pw (.l (ws.map dS)) = MF at mFa mFb srF
      obtain ⟨v, hv, v0, v30⟩ : ∃ v, getC rows z2 = some v ∧ 0 ≤ v ∧ v ≤ 10 ^ 30 := by
        obtain ⟨p, hp, rfl⟩ := List.mem_map.mp hin2
        exact ⟨p.2, getC_mem nd hp, (okr.2.2.2 p hp).2⟩
      refine db_cons (ds_dput (hu_of hr) (de_callB (call_min2 rfl) (by rfl) b3 bt_min (da_cons (de_pow (de_int (de_int ⟨_, _, rfl, rfl, powW (k := 4) (by decide) (by decide) (by decide), da_cons (de_add (de_dget (hu_of hr) ?_))⟩))))))
      walk_at "nm"
      walk_at "nm"
      refine ⟨_, .inr z2, dI v, .c mFa, rfl, by rw [valS_C, hv]; rfl, de_int ⟨_, _, rfl, rfl, da_nil (k_min2 ?_)⟩⟩
      have hv2 : ∃ v2 : Int, (if v + 1 < 10 ^ (30 : Int).toNat then v + 1 else 10 ^ (30 : Int).toNat) = v2 ∧ v ≤ v2 ∧ v2 ≤ 10 ^ 30 := by
        have e30 : (10 : Int) ^ (30 : Int).toNat = 10 ^ 30 := rfl
        rw [e30]
        refine ⟨_, rfl, ?_⟩
        split <;> omega
      obtain ⟨v2, ev2, hv20, hv21⟩ := hv2
      rw [ev2]
      walk_at "nm"
      walk_at "nm"
      refine ⟨p1, _, .inr z2, rfl, mFa, rfl, ?_, ?_⟩
      · unfold slK kdC
        rw [List.length_map, List.length_map, sizeLine_eq]
        omega
      rw [show (Sl.d (PyData.int v2)) = dI v2 from rfl, putS_put]
      have okr2 := okCnt_putC okr hin2 (v := v2) (by omega) hv21
      have okl2' := okLS_putC okl' hv hin2 hv20
      refine db_frzD (i := 4) (kd := kdC (putC rows z2 v2)) rfl updC_same ?_
      refine db_frzD (i := 5) (kd := kdL lsE) rfl (by rw [delC_ne n12.symm, updC_ne n12.symm]; exact mFb) ?_
      have srG : Src (delC (delC (updC MF p1 (.k (slK (kdC (putC rows z2 v2))))) p1) p2) ps (1000 * j + 621) := ((srF.upd p1s).del p1s).del p2s
      generalize delC (delC (updC MF p1 (.k (slK (kdC (putC rows z2 v2))))) p1) p2 = MG at srG
      refine db_cons (ds_if (dt_not (dt_val (de_callG c8 (hr.mono (by decide)) noG (by rfl) ?_))))
      walk_at "go"
      exact da_nil ⟨putC rows z2 v2, lsE, hL, rfl, okr2, okl2', hl5', ⟨true, rfl, no1, fun _ => db_nil (db_nil ⟨_, _, _, _, _, _, _, rfl, srG.mono (by omega)⟩)⟩⟩
    rintro τ' M4 ⟨z3, z4, z5, z6, z7, z8, z9, rfl, sr4⟩
    exact db_nil ⟨_, _, _, _, _, _, _, _, _, rfl⟩
  rintro τ' M2 ⟨y1, y2, y3, y4, y5, y6, y7, y8, y9, rfl⟩
  -- fixed inputs
  refine db_cons ?_
  refine ds_set (i := 10) (hN := ?hN10) ?hi10 ?hx10 ?w10 ?hs10 ?hf10
  case hN10 => exact sc_law.nd
  case hi10 => rfl
  case hx10 => exact (.inl rfl)
  case hs10 => rfl
  case hf10 => exact (.inl rfl)
  refine de_frzK ?_
  refine de_dictSI2 ?ne ?q
  case ne => decide
  intro p hp
  refine ⟨p, kdC ([("a", 3), ("b", 1)] : Cnt), rfl, ?_, ?_⟩
  · exact updC_same
  rw [delC_updC hp]
  refine db_cons ?_
  refine ds_set (i := 11) (hN := ?hN11) ?hi11 ?hx11 ?w11 ?hs11 ?hf11
  case hN11 => exact sc_law.nd
  case hi11 => rfl
  case hx11 => exact (.inl rfl)
  case hs11 => rfl
  case hf11 => exact (.inl rfl)
  refine de_lstC ?_
  refine da_cons ?_
  refine de_callC (c9.up (by decide)) hr (by rfl) ?_
  refine da_cons ?_
  walk_at "nm"
  refine da_cons ?_
  refine de_frzK ?_
  refine de_dictE ?_
  intro p2 hp2
  refine dks_cons ?_
  refine de_str ?_
  refine ⟨.inr "a", rfl, ?_⟩
  refine de_lstD ?_
  refine da_cons ?_
  refine de_tupD ?_
  refine da_cons (de_int ?_)
  refine da_cons (de_int ?_)
  refine da_nil ⟨[.int 1, .int 1], rfl, (by show 2 ≤ sizeLine; decide), ?_⟩
  refine da_cons ?_
  refine de_tupD ?_
  refine da_cons (de_int ?_)
  refine da_cons (de_int ?_)
  refine da_nil ⟨[.int 3, .int 3], rfl, (by show 2 ≤ sizeLine; decide), ?_⟩
  refine da_nil ⟨[.tuple [.int 1, .int 1], .tuple [.int 3, .int 3]], rfl, (by show 2 ≤ sizeLine; decide), ?_⟩
  refine dks_nil ?_
  refine ⟨updC_same, p2, kdL ([("a", [(1, 1), (3, 3)])] : LSet), rfl, ?_, ?_⟩
  · rw [updC_same]
    exact congrArg (fun l => some (Cell.k l)) mg13
  rw [updC_updC, delC_updC hp2]
  refine da_nil ?_
  refine ⟨([("a", 3), ("b", 1)] : Cnt), ([("a", [(1, 1), (3, 3)])] : LSet), hL, rfl, cs31_ok, ls13_ok, fun cs' hs' => ?_⟩
  refine da_nil ⟨(by show 1 ≤ sizeLine; decide), fun pr hpr => ?_⟩
  rw [ob13 cs' hs']
  have m3 : updC M2 pr (.l [.d (obGP "a" 1 0)]) pr = some (.l [.d (obGP "a" 1 0)]) := updC_same
  generalize updC M2 pr (.l [.d (obGP "a" 1 0)]) = M3 at m3
  refine db_cons (ds_append ?_)
  walk_at "nm"
  refine ⟨⟨rfl, _, by simp only [seqOf, m3]; rfl⟩, ?_⟩
  refine de_callC (c9.up (by decide)) hr (by rfl) ?_
  refine da_cons ?_
  walk_at "nm"
  refine da_cons ?_
  refine de_frzK ?_
  refine de_dictE ?_
  intro p4 hp4
  refine dks_cons ?_
  refine de_str ?_
  refine ⟨.inr "b", rfl, ?_⟩
  refine de_lstD ?_
  refine da_cons ?_
  refine de_tupD ?_
  refine da_cons (de_int ?_)
  refine da_cons (de_int ?_)
  refine da_nil ⟨[.int 1, .int 1], rfl, (by show 2 ≤ sizeLine; decide), ?_⟩
  refine da_nil ⟨[.tuple [.int 1, .int 1]], rfl, (by show 1 ≤ sizeLine; decide), ?_⟩
  refine dks_cons ?_
  refine de_str ?_
  refine ⟨.inr "a", rfl, ?_⟩
  refine de_lstD ?_
  refine da_cons ?_
  refine de_tupD ?_
  refine da_cons (de_int ?_)
  refine da_cons (de_int ?_)
  refine da_nil ⟨[.int 2, .int 2], rfl, (by show 2 ≤ sizeLine; decide), ?_⟩
  refine da_nil ⟨[.tuple [.int 2, .int 2]], rfl, (by show 1 ≤ sizeLine; decide), ?_⟩
  refine dks_nil ?_
  refine ⟨updC_same, p4, kdL ([("b", [(1, 1)]), ("a", [(2, 2)])] : LSet), rfl, ?_, ?_⟩
  · rw [updC_same]
    exact congrArg (fun l => some (Cell.k l)) mg22
  rw [updC_updC, delC_updC hp4]
  refine da_nil ?_
  refine ⟨([("a", 3), ("b", 1)] : Cnt), ([("b", [(1, 1)]), ("a", [(2, 2)])] : LSet), hL, rfl, cs31_ok, ls22_ok, fun cs' hs' => ?_⟩
  rw [ob22 cs' hs']
  refine ⟨pr, _, rfl, m3, (by show 1 < sizeLine; decide), ?_⟩
  have m4 : updC M3 pr (.l ([.d (obGP "a" 1 0)] ++ [.d (obSE ("b", 1))])) pr = some (.l ([obGP "a" 1 0, obSE ("b", 1)].map Sl.d)) := updC_same
  generalize updC M3 pr (.l ([.d (obGP "a" 1 0)] ++ [.d (obSE ("b", 1))])) = M4 at m4
  refine db_cons ?_
  refine ds_set (i := 12) (hN := ?hN12) ?hi12 ?hx12 ?w12 ?hs12 ?hf12
  case hN12 => exact sc_law.nd
  case hi12 => rfl
  case hx12 => exact (.inl rfl)
  case hs12 => rfl
  case hf12 => exact (.inl rfl)
  refine de_lstD ?_
  refine da_cons ?_
  refine de_tupD ?_
  refine da_cons (de_str ?_)
  refine da_cons (de_str ?_)
  refine da_cons (de_int ?_)
  refine da_cons (de_int ?_)
  refine da_nil ⟨[.str "gaps", .str "a", .int 1, .int 0], rfl, (by show 4 ≤ sizeLine; decide), ?_⟩
  refine da_cons ?_
  refine de_tupD ?_
  refine da_cons (de_str ?_)
  refine da_cons ?_
  refine de_tupD ?_
  refine da_cons (de_str ?_)
  refine da_cons (de_int ?_)
  refine da_nil ⟨[.str "b", .int 1], rfl, (by show 2 ≤ sizeLine; decide), ?_⟩
  refine da_nil ⟨[.str "single end", .tuple [.str "b", .int 1]], rfl, (by show 2 ≤ sizeLine; decide), ?_⟩
  refine da_nil ⟨[obGP "a" 1 0, obSE ("b", 1)], rfl, (by show 2 ≤ sizeLine; decide), ?_⟩
  refine db_cons ?_
  refine ds_ret ?_
  refine de_and ?_
  refine de_cmp (op_eqD hr.units) ?_ (nomark _)
  walk_at "nm"
  walk_at "nm"
  refine k_eqD (IsD.cell m4) (.d _) shp2 shp2 ?_
  rw [eqp2]
  refine ⟨true, rfl, fun _ => ?_, no2⟩
  refine de_one ?_
  refine de_cmp op_isN ?_ (nomark _)
  refine de_callC (c9.up (by decide)) hr (by rfl) ?_
  refine da_cons ?_
  refine de_frzK ?_
  refine de_dictSI ?_
  intro p5 hp5
  refine ⟨p5, kdC [("a", 0)], rfl, ?_, ?_⟩
  · exact updC_same
  rw [delC_updC hp5]
  refine da_cons ?_
  refine de_frzK ?_
  refine de_dictC ?_
  intro p6 hp6
  refine ⟨p6, kdL [], rfl, updC_same, ?_⟩
  rw [delC_updC hp6]
  refine da_nil ?_
  refine ⟨[("a", 0)], [], hL, rfl, cs0_ok, okLS_nil _, fun cs' hs' => ?_⟩
  rw [ob0 cs' hs']
  exact de_non (k_isN (fin _))

end

end Pg

namespace Pg
open PySem L2 Y PyProof.Rows
theorem fa_mk {K : PySem.W.Frag} {h : Heap} {mg : Str → Option Value} {x : Str} {st : Stmt} {ps : List Str} {f : Addr} {oc : Value} {od an : Option Addr} {osl : Array (Option Value)} {kV doc pm cdv ct : Value} (X : K.In h) (G : h.Ns mainGlobals mg) (a : PySem.W.nsIn K mainGlobals x = some (some (.ref f))) (l : K.lookup f = some ⟨oc, od, .func (PySem.W.fnOf x x (defArgs st) (defBody st) (defScope st) .none kV doc pm an cdv ct), osl⟩)
    (c : PySem.W.codeIn K cdv x = true) (k : PySem.W.keepIn K (.ref f) = true) (b : ∀ (kV doc pm : Value) (an : Option Addr) (cdv ct : Value) (us : List Value), us.length = ps.length → bindArgs (PySem.W.fnOf x x (defArgs st) (defBody st) (defScope st) .none kV doc pm an cdv ct) ⟨us, []⟩ = pure (ps.zip us)) : FunAt K mg x st ps :=
  ⟨f, _, PySem.W.mg_of X G a |> fun m => ⟨fun_mk l c k, m, (fun_mk l c k).binds b⟩⟩
theorem sp_law {K : PySem.W.Frag} {H : Hp} {a : Addr} {ns : List Int} (hl : ns.length ≤ 63) (hO : Only H) (hS : SqL K H a (ns.map V.int)) : Spk K R_law [.ref a] H (fun v _ => v = .bl true) fun _ _ _ => False := by
  have ret : ∀ {L : Lk} {G : Hp}, Ret K L G (fun s _ => s = .d (.bool true)) (fun v _ => v = .bl true) := fun s M' v G' H' h _ _ a => by
    subst h
    exact sl_bl a
  rcases hS with (h | ⟨o, h⟩) | h
  · rcases hO a with z | ⟨o, xs, z⟩
    · rw [h] at z; cases z
    · rw [h] at z; cases z
  · refine ⟨[(a, o, .lst (ns.map V.int))], fun _ => none, fun b => if b = a then some (.lst (ns.map V.int)) else none, [.s ns], fun s _ => s = .d (.bool true), ⟨fun b u e => ?_, fun b c e => (nomatch e), fun x hx => ?_⟩, .cons (.s (.inl (if_pos rfl))) .nil, ⟨.s ns, ns, fun x hx kvs e => ?_, rfl, fun _ => rfl, hl, fun _ => rfl⟩, ret⟩
    · by_cases hb : b = a
      · subst hb
        have e' : some (HO.lst (ns.map V.int)) = some u := (if_pos rfl).symm.trans e
        cases e'
        exact .inr ⟨_, List.mem_cons_self, rfl, rfl⟩
      · have e' : none = some u := (if_neg hb).symm.trans e
        cases e'
    · rw [List.mem_singleton.mp hx]
      exact h
    · rw [List.mem_singleton.mp hx] at e
      cases e
  · exact ⟨[], fun _ => none, fun _ => none, [.s ns], fun s _ => s = .d (.bool true), ⟨fun b u e => (nomatch e), fun b c e => (nomatch e), fun x hx => (nomatch hx)⟩, .cons (.s (.inr h)) .nil, ⟨.s ns, ns, fun x hx kvs e => (nomatch hx), rfl, fun _ => rfl, hl, fun _ => rfl⟩, ret⟩

theorem all_mk {l : PySem.W.OpenLaw} {w : World} {K : PySem.W.Frag} {h : Heap} {mg : Str → Option Value} {fa fl : Addr} {oc kV doc pm cd ct : Value} {od an : Option Addr} {osl : Array (Option Value)} (X : K.In h) (G : h.Ns mainGlobals mg) (hfa : mg "law" = some (.ref fa))
    (F_plain_integer : FunAt K mg "plain_integer" s_plain_integer ["value"])
    (F_plain_text : FunAt K mg "plain_text" s_plain_text ["value"])
    (F_plain_writer : FunAt K mg "plain_writer" s_plain_writer ["value"])
    (F_highest_number : FunAt K mg "highest_number" s_highest_number ["line_counts", "writer"])
    (F_plain_lines : FunAt K mg "plain_lines" s_plain_lines ["line_counts", "writer", "first", "last"])
    (F_plain_line : FunAt K mg "plain_line" s_plain_line ["line_counts", "value"])
    (F_plain_line_counts : FunAt K mg "plain_line_counts" s_plain_line_counts ["value"])
    (F_checked_line_counts : FunAt K mg "checked_line_counts" s_checked_line_counts ["value"])
    (F_plain_intervals : FunAt K mg "plain_intervals" s_plain_intervals ["line_counts", "writer", "value"])
    (F_plain_line_set : FunAt K mg "plain_line_set" s_plain_line_set ["line_counts", "value"])
    (F_checked_line_set : FunAt K mg "checked_line_set" s_checked_line_set ["line_counts", "value"])
    (F_intervals_between : FunAt K mg "intervals_between" s_intervals_between ["intervals", "highest"])
    (F_lines_in_intervals : FunAt K mg "lines_in_intervals" s_lines_in_intervals ["intervals"])
    (F_gaps_of_writers : FunAt K mg "gaps_of_writers" s_gaps_of_writers ["counts", "line_set"])
    (F_obstructions_of_ends : FunAt K mg "obstructions_of_ends" s_obstructions_of_ends ["counts", "lines"])
    (F_obstructions_of_gaps : FunAt K mg "obstructions_of_gaps" s_obstructions_of_gaps ["counts", "lines"])
    (F_survival_obstructions : FunAt K mg "survival_obstructions" s_survival_obstructions ["counts", "lines"])
    (F_survival_obstruction : FunAt K mg "survival_obstruction" s_survival_obstruction ["line_counts", "line_set"])
    (F_can_survive : FunAt K mg "can_survive" s_can_survive ["line_counts", "line_set"])
    (F_plain_obstruction : FunAt K mg "plain_obstruction" s_plain_obstruction ["counts", "value"])
    (F_is_survival_obstruction : FunAt K mg "is_survival_obstruction" s_is_survival_obstruction ["line_counts", "line_set", "value"])
    (F__law_source : FunAt K mg "_law_source" s__law_source ["script", "k"])
    (F__law_draw : FunAt K mg "_law_draw" s__law_draw ["source", "limit"])
    (F__law_writers : FunAt K mg "_law_writers" s__law_writers ["source", "number"])
    (F__law_line_counts : FunAt K mg "_law_line_counts" s__law_line_counts ["source", "most_writers", "most_lines"])
    (F__law_intervals : FunAt K mg "_law_intervals" s__law_intervals ["source", "total", "most"])
    (F__law_line_set : FunAt K mg "_law_line_set" s__law_line_set ["source", "line_counts", "most"])
    (F__law_lost : FunAt K mg "_law_lost" s__law_lost ["total", "intervals"])
    (F__law_obstructions : FunAt K mg "_law_obstructions" s__law_obstructions ["line_counts", "line_set"])
    (F__law_with_ends : FunAt K mg "_law_with_ends" s__law_with_ends ["source", "line_counts", "line_set"])
    (F__law_tight : FunAt K mg "_law_tight" s__law_tight ["source"])
    (F__law_single : FunAt K mg "_law_single" s__law_single ["source", "line_counts"])
    (F__law_right : FunAt K mg "_law_right" s__law_right ["line_counts", "line_set"])
    (z0_isinstance : PySem.W.nsIn K mainGlobals "isinstance" = some none)
    (z0_int : PySem.W.nsIn K mainGlobals "int" = some none)
    (z0_bool : PySem.W.nsIn K mainGlobals "bool" = some none)
    (z0_str : PySem.W.nsIn K mainGlobals "str" = some none)
    (z0_len : PySem.W.nsIn K mainGlobals "len" = some none)
    (z0_type : PySem.W.nsIn K mainGlobals "type" = some none)
    (z0_tuple : PySem.W.nsIn K mainGlobals "tuple" = some none)
    (z0_dict : PySem.W.nsIn K mainGlobals "dict" = some none)
    (z0_sorted : PySem.W.nsIn K mainGlobals "sorted" = some none)
    (z0_list : PySem.W.nsIn K mainGlobals "list" = some none)
    (z0_sum : PySem.W.nsIn K mainGlobals "sum" = some none)
    (z0_max : PySem.W.nsIn K mainGlobals "max" = some none)
    (z0_range : PySem.W.nsIn K mainGlobals "range" = some none)
    (z0_min : PySem.W.nsIn K mainGlobals "min" = some none)
    (z0_repr : PySem.W.nsIn K mainGlobals "repr" = some none)
    {i_LONGEST_NAME : Int} {t_LONGEST_NAME : Tok} (g0_LONGEST_NAME : PySem.W.nsIn K mainGlobals "LONGEST_NAME" = some (some (.int i_LONGEST_NAME t_LONGEST_NAME))) (g1_LONGEST_NAME : i_LONGEST_NAME = 8)
    {i_LARGEST_NUMBER : Int} {t_LARGEST_NUMBER : Tok} (g0_LARGEST_NUMBER : PySem.W.nsIn K mainGlobals "LARGEST_NUMBER" = some (some (.int i_LARGEST_NUMBER t_LARGEST_NUMBER))) (g1_LARGEST_NUMBER : i_LARGEST_NUMBER = (10 ^ 30))
    {i_MOST_WRITERS : Int} {t_MOST_WRITERS : Tok} (g0_MOST_WRITERS : PySem.W.nsIn K mainGlobals "MOST_WRITERS" = some (some (.int i_MOST_WRITERS t_MOST_WRITERS))) (g1_MOST_WRITERS : i_MOST_WRITERS = 12)
    (a0 : PySem.W.nsIn K mainGlobals "law" = some (some (.ref fl))) (l0 : K.lookup fl = some ⟨oc, od, .func (PySem.W.fnOf "law" "law" (defArgs s_law) (defBody s_law) (defScope s_law) .none kV doc pm an cd ct), osl⟩) (c0 : PySem.W.codeIn K cd "law" = true) (k0 : PySem.W.keepIn K (.ref fl) = true) :
    ∃ fd : FuncData, (∀ (s : Shared) (v : Value), BindsTo s fd ⟨[v], []⟩ [("script", v)]) ∧ ∀ base : Heap, K.In base → base.Ns mainGlobals mg → Sys base → Calm l.prog w K mg base 10 fa fd ["script"] (Spk K R_law) := by
  have e := hfa.symm.trans (PySem.W.mg_of X G a0)
  cases e

  have z_isinstance : mg "isinstance" = none := PySem.W.mg_none_of X G z0_isinstance
  have z_int : mg "int" = none := PySem.W.mg_none_of X G z0_int
  have z_bool : mg "bool" = none := PySem.W.mg_none_of X G z0_bool
  have z_str : mg "str" = none := PySem.W.mg_none_of X G z0_str
  have z_len : mg "len" = none := PySem.W.mg_none_of X G z0_len
  have z_type : mg "type" = none := PySem.W.mg_none_of X G z0_type
  have z_tuple : mg "tuple" = none := PySem.W.mg_none_of X G z0_tuple
  have z_dict : mg "dict" = none := PySem.W.mg_none_of X G z0_dict
  have z_sorted : mg "sorted" = none := PySem.W.mg_none_of X G z0_sorted
  have z_list : mg "list" = none := PySem.W.mg_none_of X G z0_list
  have z_sum : mg "sum" = none := PySem.W.mg_none_of X G z0_sum
  have z_max : mg "max" = none := PySem.W.mg_none_of X G z0_max
  have z_range : mg "range" = none := PySem.W.mg_none_of X G z0_range
  have z_min : mg "min" = none := PySem.W.mg_none_of X G z0_min
  have z_repr : mg "repr" = none := PySem.W.mg_none_of X G z0_repr
  have g_LONGEST_NAME : ∃ t, mg "LONGEST_NAME" = some (.int 8 t) := ⟨t_LONGEST_NAME, by rw [← g1_LONGEST_NAME]; exact PySem.W.mg_of X G g0_LONGEST_NAME⟩
  have g_LARGEST_NUMBER : ∃ t, mg "LARGEST_NUMBER" = some (.int (10 ^ 30) t) := ⟨t_LARGEST_NUMBER, by rw [← g1_LARGEST_NUMBER]; exact PySem.W.mg_of X G g0_LARGEST_NUMBER⟩
  have g_MOST_WRITERS : ∃ t, mg "MOST_WRITERS" = some (.int 12 t) := ⟨t_MOST_WRITERS, by rw [← g1_MOST_WRITERS]; exact PySem.W.mg_of X G g0_MOST_WRITERS⟩
  refine ⟨PySem.W.fnOf "law" "law" (defArgs s_law) (defBody s_law) (defScope s_law) .none kV doc pm an cd ct, fun s v => .of_eq rfl, fun base _ _ S0 => ?_⟩
  have c_plain_integer : Cal l.prog w K mg base "plain_integer" 1 ["value"] R_plain_integer := ok_plain_integer F_plain_integer z_isinstance z_int z_bool
  have c_plain_text : Cal l.prog w K mg base "plain_text" 1 ["value"] R_plain_text := ok_plain_text F_plain_text z_isinstance z_str
  have c_plain_writer : Cal l.prog w K mg base "plain_writer" 2 ["value"] R_plain_writer := ok_plain_writer F_plain_writer c_plain_text z_len g_LONGEST_NAME
  have c_highest_number : Cal l.prog w K mg base "highest_number" 1 ["line_counts", "writer"] R_highest_number := ok_highest_number F_highest_number g_LARGEST_NUMBER
  have c_plain_lines : Cal l.prog w K mg base "plain_lines" 3 ["line_counts", "writer", "first", "last"] R_plain_lines := ok_plain_lines F_plain_lines c_plain_writer c_plain_integer c_highest_number
  have c_plain_line : Cal l.prog w K mg base "plain_line" 4 ["line_counts", "value"] R_plain_line := ok_plain_line F_plain_line c_plain_lines z_type z_tuple z_len
  have c_plain_line_counts : Cal l.prog w K mg base "plain_line_counts" 3 ["value"] R_plain_line_counts := ok_plain_line_counts F_plain_line_counts c_plain_writer c_plain_integer z_isinstance z_dict z_len z_sorted g_MOST_WRITERS g_LARGEST_NUMBER
  have c_checked_line_counts : Cal l.prog w K mg base "checked_line_counts" 4 ["value"] R_plain_line_counts := ok_checked_line_counts F_checked_line_counts c_plain_line_counts
  have c_plain_intervals : Cal l.prog w K mg base "plain_intervals" 4 ["line_counts", "writer", "value"] R_plain_ivs := ok_plain_intervals F_plain_intervals c_plain_lines z_type z_list z_tuple z_len
  have c_plain_line_set : Cal l.prog w K mg base "plain_line_set" 5 ["line_counts", "value"] R_plain_ls := ok_plain_line_set F_plain_line_set c_plain_writer c_plain_intervals z_isinstance z_dict
  have c_checked_line_set : Cal l.prog w K mg base "checked_line_set" 6 ["line_counts", "value"] R_plain_ls := ok_checked_line_set F_checked_line_set c_plain_line_set
  have c_intervals_between : Cal l.prog w K mg base "intervals_between" 1 ["intervals", "highest"] R_between := ok_intervals_between F_intervals_between
  have c_lines_in_intervals : Cal l.prog w K mg base "lines_in_intervals" 1 ["intervals"] R_lines_in := ok_lines_in_intervals F_lines_in_intervals z_sum
  have c_gaps_of_writers : Cal l.prog w K mg base "gaps_of_writers" 2 ["counts", "line_set"] R_gapsw := ok_gaps_of_writers F_gaps_of_writers c_intervals_between
  have c_obstructions_of_ends : Cal l.prog w K mg base "obstructions_of_ends" 2 ["counts", "lines"] R_ob_ends := ok_obstructions_of_ends F_obstructions_of_ends c_lines_in_intervals z_sum z_len
  have c_obstructions_of_gaps : Cal l.prog w K mg base "obstructions_of_gaps" 3 ["counts", "lines"] R_ob_gaps := ok_obstructions_of_gaps F_obstructions_of_gaps c_lines_in_intervals c_gaps_of_writers z_sum z_len
  have c_survival_obstructions : Cal l.prog w K mg base "survival_obstructions" 4 ["counts", "lines"] R_sob := ok_survival_obstructions F_survival_obstructions c_obstructions_of_ends c_obstructions_of_gaps z_sum
  have c_survival_obstruction : Cal l.prog w K mg base "survival_obstruction" 7 ["line_counts", "line_set"] R_so := ok_survival_obstruction F_survival_obstruction c_checked_line_counts c_checked_line_set c_survival_obstructions
  have c_can_survive : Cal l.prog w K mg base "can_survive" 8 ["line_counts", "line_set"] R_cansurv := ok_can_survive F_can_survive c_survival_obstruction
  have c_plain_obstruction : Cal l.prog w K mg base "plain_obstruction" 5 ["counts", "value"] R_plain_ob := ok_plain_obstruction F_plain_obstruction c_plain_text c_plain_line c_plain_writer c_plain_integer z_type z_tuple z_len
  have c_is_survival_obstruction : Cal l.prog w K mg base "is_survival_obstruction" 7 ["line_counts", "line_set", "value"] R_isso := ok_is_survival_obstruction F_is_survival_obstruction c_checked_line_counts c_checked_line_set c_plain_obstruction c_survival_obstructions
  have c_law_source : Cal l.prog w K mg base "_law_source" 1 ["script", "k"] R_source := ok_law_source F__law_source z_len z_max
  have c_law_draw : Cal l.prog w K mg base "_law_draw" 1 ["source", "limit"] R_draw := ok_law_draw F__law_draw
  have c_law_writers : Cal l.prog w K mg base "_law_writers" 2 ["source", "number"] R_writers := ok_law_writers F__law_writers c_law_draw z_len z_range
  have c_law_line_counts : Cal l.prog w K mg base "_law_line_counts" 3 ["source", "most_writers", "most_lines"] R_lcounts := ok_law_line_counts F__law_line_counts c_law_draw c_law_writers z_dict
  have c_law_intervals : Cal l.prog w K mg base "_law_intervals" 2 ["source", "total", "most"] R_ivs := ok_law_intervals F__law_intervals c_law_draw z_range z_min z_max
  have c_law_line_set : Cal l.prog w K mg base "_law_line_set" 3 ["source", "line_counts", "most"] R_lset := ok_law_line_set F__law_line_set c_law_draw c_law_intervals
  have c_law_lost : Cal l.prog w K mg base "_law_lost" 1 ["total", "intervals"] R_lost := ok_law_lost F__law_lost z_int
  have c_law_obstructions : Cal l.prog w K mg base "_law_obstructions" 2 ["line_counts", "line_set"] R_lobs := ok_law_obstructions F__law_obstructions c_law_lost z_dict z_sum z_sorted z_int z_len
  have c_law_with_ends : Cal l.prog w K mg base "_law_with_ends" 2 ["source", "line_counts", "line_set"] R_wends := ok_law_with_ends F__law_with_ends c_law_draw z_dict z_range z_int z_len
  have c_law_tight : Cal l.prog w K mg base "_law_tight" 3 ["source"] R_tight := ok_law_tight F__law_tight c_law_draw c_law_writers z_dict z_sum z_int z_range z_max
  have c_law_single : Cal l.prog w K mg base "_law_single" 2 ["source", "line_counts"] R_single := ok_law_single F__law_single c_law_draw z_dict z_sorted z_len
  have c_law_right : CalG l.prog w K mg base "_law_right" 9 ["line_counts", "line_set"] R_right := ok_law_right S0 F__law_right c_law_obstructions c_survival_obstruction c_is_survival_obstruction c_can_survive z_repr z_range
  exact ok_law S0 (fun_mk l0 c0 k0) c_law_source c_law_draw c_law_line_counts c_law_line_set c_law_with_ends c_law_single c_law_tight c_law_right c_survival_obstruction z_range z_max z_min z_len z_sorted
end Pg
set_option maxHeartbeats 0 in
theorem PySem.Challenge.cw_lastcopy_k30_first_survival_obstruction_holds : PySem.Challenge.rw_lastcopy_k30_first_survival_obstruction.Holds := by
  w_on; o_law; k_head; (case hw => w_witness2)
  k_fill
  refine Y.walk_calmS (l := PySem.Challenge.rw_lastcopy_k30_first_survival_obstruction) (n := 63) (k := 10) (x := "script") (R := Pg.R_law) rfl (by decide) rfl (by decide +kernel) ⟨rfl, by decide, by decide⟩ (fun w h Y => PySem.W.kIn_of Y) ?F (fun _ _ a ns hl hO hS => Pg.sp_law hl hO hS)
  case F =>
    intro w mg fa h KX G hmg
    refine' Pg.all_mk KX G hmg ?F_plain_integer ?F_plain_text ?F_plain_writer ?F_highest_number ?F_plain_lines ?F_plain_line ?F_plain_line_counts ?F_checked_line_counts ?F_plain_intervals ?F_plain_line_set ?F_checked_line_set ?F_intervals_between ?F_lines_in_intervals ?F_gaps_of_writers ?F_obstructions_of_ends ?F_obstructions_of_gaps ?F_survival_obstructions ?F_survival_obstruction ?F_can_survive ?F_plain_obstruction ?F_is_survival_obstruction ?F__law_source ?F__law_draw ?F__law_writers ?F__law_line_counts ?F__law_intervals ?F__law_line_set ?F__law_lost ?F__law_obstructions ?F__law_with_ends ?F__law_tight ?F__law_single ?F__law_right ?z0_isinstance ?z0_int ?z0_bool ?z0_str ?z0_len ?z0_type ?z0_tuple ?z0_dict ?z0_sorted ?z0_list ?z0_sum ?z0_max ?z0_range ?z0_min ?z0_repr ?g0_LONGEST_NAME ?g1_LONGEST_NAME ?g0_LARGEST_NUMBER ?g1_LARGEST_NUMBER ?g0_MOST_WRITERS ?g1_MOST_WRITERS ?a0 ?l0 ?c0 ?k0
    case F_plain_integer =>
      refine' Pg.fa_mk KX G ?a ?l ?c ?k ?b
      (case a => k_is); (case l => k_is); (case c => k_is); (case k => k_is)
      case b => exact fun _ _ _ _ _ _ us hl => match us, hl with | [_], _ => rfl
    case F_plain_text =>
      refine' Pg.fa_mk KX G ?a ?l ?c ?k ?b
      (case a => k_is); (case l => k_is); (case c => k_is); (case k => k_is)
      case b => exact fun _ _ _ _ _ _ us hl => match us, hl with | [_], _ => rfl
    case F_plain_writer =>
      refine' Pg.fa_mk KX G ?a ?l ?c ?k ?b
      (case a => k_is); (case l => k_is); (case c => k_is); (case k => k_is)
      case b => exact fun _ _ _ _ _ _ us hl => match us, hl with | [_], _ => rfl
    case F_highest_number =>
      refine' Pg.fa_mk KX G ?a ?l ?c ?k ?b
      (case a => k_is); (case l => k_is); (case c => k_is); (case k => k_is)
      case b => exact fun _ _ _ _ _ _ us hl => match us, hl with | [_, _], _ => rfl
    case F_plain_lines =>
      refine' Pg.fa_mk KX G ?a ?l ?c ?k ?b
      (case a => k_is); (case l => k_is); (case c => k_is); (case k => k_is)
      case b => exact fun _ _ _ _ _ _ us hl => match us, hl with | [_, _, _, _], _ => rfl
    case F_plain_line =>
      refine' Pg.fa_mk KX G ?a ?l ?c ?k ?b
      (case a => k_is); (case l => k_is); (case c => k_is); (case k => k_is)
      case b => exact fun _ _ _ _ _ _ us hl => match us, hl with | [_, _], _ => rfl
    case F_plain_line_counts =>
      refine' Pg.fa_mk KX G ?a ?l ?c ?k ?b
      (case a => k_is); (case l => k_is); (case c => k_is); (case k => k_is)
      case b => exact fun _ _ _ _ _ _ us hl => match us, hl with | [_], _ => rfl
    case F_checked_line_counts =>
      refine' Pg.fa_mk KX G ?a ?l ?c ?k ?b
      (case a => k_is); (case l => k_is); (case c => k_is); (case k => k_is)
      case b => exact fun _ _ _ _ _ _ us hl => match us, hl with | [_], _ => rfl
    case F_plain_intervals =>
      refine' Pg.fa_mk KX G ?a ?l ?c ?k ?b
      (case a => k_is); (case l => k_is); (case c => k_is); (case k => k_is)
      case b => exact fun _ _ _ _ _ _ us hl => match us, hl with | [_, _, _], _ => rfl
    case F_plain_line_set =>
      refine' Pg.fa_mk KX G ?a ?l ?c ?k ?b
      (case a => k_is); (case l => k_is); (case c => k_is); (case k => k_is)
      case b => exact fun _ _ _ _ _ _ us hl => match us, hl with | [_, _], _ => rfl
    case F_checked_line_set =>
      refine' Pg.fa_mk KX G ?a ?l ?c ?k ?b
      (case a => k_is); (case l => k_is); (case c => k_is); (case k => k_is)
      case b => exact fun _ _ _ _ _ _ us hl => match us, hl with | [_, _], _ => rfl
    case F_intervals_between =>
      refine' Pg.fa_mk KX G ?a ?l ?c ?k ?b
      (case a => k_is); (case l => k_is); (case c => k_is); (case k => k_is)
      case b => exact fun _ _ _ _ _ _ us hl => match us, hl with | [_, _], _ => rfl
    case F_lines_in_intervals =>
      refine' Pg.fa_mk KX G ?a ?l ?c ?k ?b
      (case a => k_is); (case l => k_is); (case c => k_is); (case k => k_is)
      case b => exact fun _ _ _ _ _ _ us hl => match us, hl with | [_], _ => rfl
    case F_gaps_of_writers =>
      refine' Pg.fa_mk KX G ?a ?l ?c ?k ?b
      (case a => k_is); (case l => k_is); (case c => k_is); (case k => k_is)
      case b => exact fun _ _ _ _ _ _ us hl => match us, hl with | [_, _], _ => rfl
    case F_obstructions_of_ends =>
      refine' Pg.fa_mk KX G ?a ?l ?c ?k ?b
      (case a => k_is); (case l => k_is); (case c => k_is); (case k => k_is)
      case b => exact fun _ _ _ _ _ _ us hl => match us, hl with | [_, _], _ => rfl
    case F_obstructions_of_gaps =>
      refine' Pg.fa_mk KX G ?a ?l ?c ?k ?b
      (case a => k_is); (case l => k_is); (case c => k_is); (case k => k_is)
      case b => exact fun _ _ _ _ _ _ us hl => match us, hl with | [_, _], _ => rfl
    case F_survival_obstructions =>
      refine' Pg.fa_mk KX G ?a ?l ?c ?k ?b
      (case a => k_is); (case l => k_is); (case c => k_is); (case k => k_is)
      case b => exact fun _ _ _ _ _ _ us hl => match us, hl with | [_, _], _ => rfl
    case F_survival_obstruction =>
      refine' Pg.fa_mk KX G ?a ?l ?c ?k ?b
      (case a => k_is); (case l => k_is); (case c => k_is); (case k => k_is)
      case b => exact fun _ _ _ _ _ _ us hl => match us, hl with | [_, _], _ => rfl
    case F_can_survive =>
      refine' Pg.fa_mk KX G ?a ?l ?c ?k ?b
      (case a => k_is); (case l => k_is); (case c => k_is); (case k => k_is)
      case b => exact fun _ _ _ _ _ _ us hl => match us, hl with | [_, _], _ => rfl
    case F_plain_obstruction =>
      refine' Pg.fa_mk KX G ?a ?l ?c ?k ?b
      (case a => k_is); (case l => k_is); (case c => k_is); (case k => k_is)
      case b => exact fun _ _ _ _ _ _ us hl => match us, hl with | [_, _], _ => rfl
    case F_is_survival_obstruction =>
      refine' Pg.fa_mk KX G ?a ?l ?c ?k ?b
      (case a => k_is); (case l => k_is); (case c => k_is); (case k => k_is)
      case b => exact fun _ _ _ _ _ _ us hl => match us, hl with | [_, _, _], _ => rfl
    case F__law_source =>
      refine' Pg.fa_mk KX G ?a ?l ?c ?k ?b
      (case a => k_is); (case l => k_is); (case c => k_is); (case k => k_is)
      case b => exact fun _ _ _ _ _ _ us hl => match us, hl with | [_, _], _ => rfl
    case F__law_draw =>
      refine' Pg.fa_mk KX G ?a ?l ?c ?k ?b
      (case a => k_is); (case l => k_is); (case c => k_is); (case k => k_is)
      case b => exact fun _ _ _ _ _ _ us hl => match us, hl with | [_, _], _ => rfl
    case F__law_writers =>
      refine' Pg.fa_mk KX G ?a ?l ?c ?k ?b
      (case a => k_is); (case l => k_is); (case c => k_is); (case k => k_is)
      case b => exact fun _ _ _ _ _ _ us hl => match us, hl with | [_, _], _ => rfl
    case F__law_line_counts =>
      refine' Pg.fa_mk KX G ?a ?l ?c ?k ?b
      (case a => k_is); (case l => k_is); (case c => k_is); (case k => k_is)
      case b => exact fun _ _ _ _ _ _ us hl => match us, hl with | [_, _, _], _ => rfl
    case F__law_intervals =>
      refine' Pg.fa_mk KX G ?a ?l ?c ?k ?b
      (case a => k_is); (case l => k_is); (case c => k_is); (case k => k_is)
      case b => exact fun _ _ _ _ _ _ us hl => match us, hl with | [_, _, _], _ => rfl
    case F__law_line_set =>
      refine' Pg.fa_mk KX G ?a ?l ?c ?k ?b
      (case a => k_is); (case l => k_is); (case c => k_is); (case k => k_is)
      case b => exact fun _ _ _ _ _ _ us hl => match us, hl with | [_, _, _], _ => rfl
    case F__law_lost =>
      refine' Pg.fa_mk KX G ?a ?l ?c ?k ?b
      (case a => k_is); (case l => k_is); (case c => k_is); (case k => k_is)
      case b => exact fun _ _ _ _ _ _ us hl => match us, hl with | [_, _], _ => rfl
    case F__law_obstructions =>
      refine' Pg.fa_mk KX G ?a ?l ?c ?k ?b
      (case a => k_is); (case l => k_is); (case c => k_is); (case k => k_is)
      case b => exact fun _ _ _ _ _ _ us hl => match us, hl with | [_, _], _ => rfl
    case F__law_with_ends =>
      refine' Pg.fa_mk KX G ?a ?l ?c ?k ?b
      (case a => k_is); (case l => k_is); (case c => k_is); (case k => k_is)
      case b => exact fun _ _ _ _ _ _ us hl => match us, hl with | [_, _, _], _ => rfl
    case F__law_tight =>
      refine' Pg.fa_mk KX G ?a ?l ?c ?k ?b
      (case a => k_is); (case l => k_is); (case c => k_is); (case k => k_is)
      case b => exact fun _ _ _ _ _ _ us hl => match us, hl with | [_], _ => rfl
    case F__law_single =>
      refine' Pg.fa_mk KX G ?a ?l ?c ?k ?b
      (case a => k_is); (case l => k_is); (case c => k_is); (case k => k_is)
      case b => exact fun _ _ _ _ _ _ us hl => match us, hl with | [_, _], _ => rfl
    case F__law_right =>
      refine' Pg.fa_mk KX G ?a ?l ?c ?k ?b
      (case a => k_is); (case l => k_is); (case c => k_is); (case k => k_is)
      case b => exact fun _ _ _ _ _ _ us hl => match us, hl with | [_, _], _ => rfl
    case z0_isinstance => k_is
    case z0_int => k_is
    case z0_bool => k_is
    case z0_str => k_is
    case z0_len => k_is
    case z0_type => k_is
    case z0_tuple => k_is
    case z0_dict => k_is
    case z0_sorted => k_is
    case z0_list => k_is
    case z0_sum => k_is
    case z0_max => k_is
    case z0_range => k_is
    case z0_min => k_is
    case z0_repr => k_is
    case g0_LONGEST_NAME => k_is
    case g1_LONGEST_NAME => rfl
    case g0_LARGEST_NUMBER => k_is
    case g1_LARGEST_NUMBER => rfl
    case g0_MOST_WRITERS => k_is
    case g1_MOST_WRITERS => rfl
    case a0 => k_is
    case l0 => k_is
    case c0 => k_is
    case k0 => k_is

