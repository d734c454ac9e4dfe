import PyProof.Rows.All
import Wide.All
import OpenK.AllK
import Wide.FinOn
import PyProof.EqAt
import PyProof.EqKinds
import PyProof.TupleCall
import HandS.ForMost
import HandS.IsInst
import HandS.Zip
import HandS.Deep
import HandS.More
import HandS.Wide
import HandS.StrMore
import HandS.Style
import HandS.DictComp
import HandS.Flow
import PyProof.TypeEq
import PyProof.InstEq
import KE.KDictList
import PyProof.ListRange
import PyProof.LongRange
import HandS.Conv
import HandS.Rev
import HandS.Dict
import PySem.Challenge.RW_lastcopy_k16_lines_that_may_follow
import PyProof.Rows.StrMeet
set_option Elab.async false
set_option linter.all false
set_option maxRecDepth 100000
set_option maxHeartbeats 1000000
namespace Y
open PySem L2

/-! ### canonical readings: what the model itself asks -/
section
variable (X : Cx)
def sE (e : Expr) : TE := fun σ H Q => ∀ pins s, Inv X pins σ H s → wpAny (model X.prog X.w) X.A (eval e X.env) (EP X pins σ Q) X.xe s
def sT (e : Expr) : TT := fun σ H Q => ∀ pins s, Inv X pins σ H s → wpAny (model X.prog X.w) X.A (isTrue e X.env (eval e X.env)) (TP X pins σ Q) X.xe s
def sA (es : List Expr) : TA := fun σ H Q => ∀ pos pins s, Inv X pins σ H s → wpAny (model X.prog X.w) X.A (spliced (backTo pos (starEach es X.env))) (AP X pins σ Q) X.xe s
def sS (st : Stmt) : TS := fun D σ H => ∀ pins s, Inv X pins σ H s → wpAny (model X.prog X.w) X.A (exec st X.env) (SP X pins D) X.xe s
def sB (st : List Stmt) : TS := fun D σ H => ∀ pins s, Inv X pins σ H s → wpAny (model X.prog X.w) X.A (execs st X.env) (SP X pins D) X.xe s
def sG (t : Expr) : TG := fun v σ H Q => ∀ pins s u, Inv X pins σ H s → RelV v u → wpAny (model X.prog X.w) X.A (assign t X.env u) (fun _ s' => ∃ σ' H', Inv X pins σ' H' s' ∧ Q σ' H') X.xe s
end
section
variable {X : Cx} {e : Expr} {es : List Expr} {st : Stmt} {sts : List Stmt}
theorem pe_s : PE X e (sE X e) := ⟨fun pins s _ _ _ I h => h pins s I⟩
theorem pt_s : PT X e (sT X e) := ⟨fun pins s _ _ _ I h => h pins s I⟩
theorem pa_s : PA X es (sA X es) := ⟨fun pos pins s _ _ _ I h => h pos pins s I⟩
theorem ps_s : PS X st (sS X st) := ⟨fun pins s _ _ _ I h => h pins s I⟩
theorem pss_s : PSs X sts (sB X sts) := ⟨fun pins s _ _ _ I h => h pins s I⟩
theorem pg_s : PG X e (sG X e) := ⟨fun pins s _ _ _ u _ I r h => h pins s u I r⟩
theorem e_of {t : TE} {σ : St} {H : Hp} {Q : VK} (h : PE X e t) (q : t σ H Q) : sE X e σ H Q := fun pins s I => h.run pins s σ H Q I q
theorem t_of {t : TT} {σ : St} {H : Hp} {Q : Bool → Hp → Prop} (h : PT X e t) (q : t σ H Q) : sT X e σ H Q := fun pins s I => h.run pins s σ H Q I q
theorem a_of {t : TA} {σ : St} {H : Hp} {Q : List V → Hp → Prop} (h : PA X es t) (q : t σ H Q) : sA X es σ H Q := fun pos pins s I => h.run pos pins s σ H Q I q
theorem s_of {t : TS} {σ : St} {H : Hp} {D : Ends} (h : PS X st t) (q : t D σ H) : sS X st D σ H := fun pins s I => h.run pins s σ H D I q
theorem b_of {t : TS} {σ : St} {H : Hp} {D : Ends} (h : PSs X sts t) (q : t D σ H) : sB X sts D σ H := fun pins s I => h.run pins s σ H D I q
theorem g_of {t : TG} {v : V} {σ : St} {H : Hp} {Q : St → Hp → Prop} (h : PG X e t) (q : t v σ H Q) : sG X e v σ H Q := fun pins s u I r => h.run pins s σ H v u Q I r q
end

/-! ### data, cells -/
def Ex (G G' : Hp) : Prop := ∀ a o, G a = some o → G' a = some o
theorem Ex.refl (G : Hp) : Ex G G := fun _ _ h => h
theorem Ex.trans {A B C : Hp} (a : Ex A B) (b : Ex B C) : Ex A C := fun x o h => b x o (a x o h)
theorem Ex.new {G : Hp} {p : Addr} {o : HO} (h : G p = none) : Ex G (upd G p o) := fun a u e => by
  rw [upd_ne (ne_of_none e h)]
  exact e
def KL (K : PySem.W.Frag) (a : Addr) (xs : List V) : Prop := ∃ (o : Obj) (its : Array Value) (n : Nat), K.lookup a = some o ∧ o.cls = .type "list" ∧ o.dict = none ∧ o.data = .seq its n ∧ its.size ≤ sizeLine ∧ Vals xs its.toList
def kD : Key → PyData
  | .inl i => .int i
  | .inr x => .str x
mutual
inductive At (K : PySem.W.Frag) (G : Hp) : V → PyData → Prop
  | non : At K G .non .none
  | bl (b : Bool) : At K G (.bl b) (.bool b)
  | int (i : Int) : At K G (.int i) (.int i)
  | str (x : Str) : At K G (.str x) (.str x)
  | lst {a : Addr} {xs : List V} {ds : List PyData} : G a = some (.lst xs) → AtL K G xs ds → At K G (.ref a) (.list ds)
  | tup {a : Addr} {xs : List V} {ds : List PyData} : G a = some (.tup xs) → AtL K G xs ds → At K G (.ref a) (.tuple ds)
  | dic {a : Addr} {kvs : List (Key × V)} {ds : List (PyData × PyData)} : G a = some (.dK kvs) → AtK K G kvs ds → At K G (.ref a) (.dict ds)
inductive AtL (K : PySem.W.Frag) (G : Hp) : List V → List PyData → Prop
  | nil : AtL K G [] []
  | cons {v : V} {vs : List V} {d : PyData} {ds : List PyData} : At K G v d → AtL K G vs ds → AtL K G (v :: vs) (d :: ds)
inductive AtK (K : PySem.W.Frag) (G : Hp) : List (Key × V) → List (PyData × PyData) → Prop
  | nil : AtK K G [] []
  | cons {k : Key} {v : V} {kvs : List (Key × V)} {d : PyData} {ds : List (PyData × PyData)} : At K G v d → AtK K G kvs ds → AtK K G ((k, v) :: kvs) ((kD k, d) :: ds)
end
mutual
theorem At.mono {K : PySem.W.Frag} {G G' : Hp} (e : Ex G G') : ∀ {v : V} {d : PyData}, At K G v d → At K G' v d
  | _, _, .non => .non
  | _, _, .bl b => .bl b
  | _, _, .int i => .int i
  | _, _, .str x => .str x
  | _, _, .lst h a => .lst (e _ _ h) (AtL.mono e a)
  | _, _, .tup h a => .tup (e _ _ h) (AtL.mono e a)
  | _, _, .dic h a => .dic (e _ _ h) (AtK.mono e a)
theorem AtL.mono {K : PySem.W.Frag} {G G' : Hp} (e : Ex G G') : ∀ {v : List V} {d : List PyData}, AtL K G v d → AtL K G' v d
  | _, _, .nil => .nil
  | _, _, .cons a b => .cons (At.mono e a) (AtL.mono e b)
theorem AtK.mono {K : PySem.W.Frag} {G G' : Hp} (e : Ex G G') : ∀ {v : List (Key × V)} {d : List (PyData × PyData)}, AtK K G v d → AtK K G' v d
  | _, _, .nil => .nil
  | _, _, .cons a b => .cons (At.mono e a) (AtK.mono e b)
end
/-- a value as a proof sees it: data, a cell, a class, a tuple of such -/
inductive Sl where
  | d (x : PyData) | c (a : Addr) | t (n : String) | u (ss : List Sl) | s (ns : List Int)
inductive Cell where
  | l (ss : List Sl) | k (kvs : List (Key × Sl))
abbrev Cs := Addr → Option Cell
def updC (M : Cs) (a : Addr) (c : Cell) : Cs := fun b => if b = a then some c else M b
def delC (M : Cs) (a : Addr) : Cs := fun b => if b = a then none else M b
theorem updC_same {M : Cs} {a : Addr} {c : Cell} : updC M a c a = some c := by unfold updC; rw [if_pos rfl]
theorem updC_ne {M : Cs} {a b : Addr} {c : Cell} (h : b ≠ a) : updC M a c b = M b := by unfold updC; rw [if_neg h]
theorem updC_updC {M : Cs} {a : Addr} {c c' : Cell} : updC (updC M a c) a c' = updC M a c' := by
  funext b; unfold updC; split <;> rfl
theorem delC_same {M : Cs} {a : Addr} : delC M a a = none := by unfold delC; rw [if_pos rfl]
theorem delC_ne {M : Cs} {a b : Addr} (h : b ≠ a) : delC M a b = M b := by unfold delC; rw [if_neg h]
theorem delC_updC {M : Cs} {a : Addr} {c : Cell} (h : M a = none) : delC (updC M a c) a = M := by
  funext b
  unfold delC updC
  by_cases e : b = a
  · rw [if_pos e, e, h]
  · rw [if_neg e, if_neg e]
theorem neC {M : Cs} {a b : Addr} {c : Cell} (h : M a = some c) (h' : M b = none) : a ≠ b := by
  intro e; subst e; rw [h] at h'; cases h'
mutual
inductive SlAt (K : PySem.W.Frag) (G : Hp) : V → Sl → Prop
  | d {v : V} {x : PyData} : At K G v x → SlAt K G v (.d x)
  | c (a : Addr) : SlAt K G (.ref a) (.c a)
  | t (n : String) : SlAt K G (.ty n) (.t n)
  | u {a : Addr} {xs : List V} {ss : List Sl} : G a = some (.tup xs) → SlL K G xs ss → SlAt K G (.ref a) (.u ss)
  | s {a : Addr} {ns : List Int} : (G a = some (.lst (ns.map V.int)) ∨ KL K a (ns.map V.int)) → SlAt K G (.ref a) (.s ns)
inductive SlL (K : PySem.W.Frag) (G : Hp) : List V → List Sl → Prop
  | nil : SlL K G [] []
  | cons {v : V} {vs : List V} {s : Sl} {ss : List Sl} : SlAt K G v s → SlL K G vs ss → SlL K G (v :: vs) (s :: ss)
end
mutual
theorem SlAt.mono {K : PySem.W.Frag} {G G' : Hp} (e : Ex G G') : ∀ {v : V} {s : Sl}, SlAt K G v s → SlAt K G' v s
  | _, _, .d a => .d (a.mono e)
  | _, _, .c a => .c a
  | _, _, .t n => .t n
  | _, _, .u h a => .u (e _ _ h) (SlL.mono e a)
  | _, _, .s h => .s (h.imp (e _ _) id)
theorem SlL.mono {K : PySem.W.Frag} {G G' : Hp} (e : Ex G G') : ∀ {v : List V} {s : List Sl}, SlL K G v s → SlL K G' v s
  | _, _, .nil => .nil
  | _, _, .cons a b => .cons (SlAt.mono e a) (SlL.mono e b)
end
section
variable {K : PySem.W.Frag} {G : Hp}
theorem SlL.len : ∀ {vs : List V} {ss : List Sl}, SlL K G vs ss → vs.length = ss.length
  | _, _, .nil => rfl
  | _, _, .cons _ b => by rw [List.length_cons, List.length_cons, b.len]
theorem SlL.get : ∀ {vs : List V} {ss : List Sl} {i : Nat} {s : Sl}, SlL K G vs ss → ss[i]? = some s → ∃ v, vs[i]? = some v ∧ SlAt K G v s
  | _, _, _, _, .nil, e => by simp at e
  | _, _, 0, _, .cons a _, e => by simp at e; subst e; exact ⟨_, rfl, a⟩
  | _, _, i + 1, s, .cons _ b, e => by
    obtain ⟨v, h1, h2⟩ := b.get (i := i) (s := s) (by simpa using e)
    exact ⟨v, by simpa using h1, h2⟩
theorem SlL.append : ∀ {vs ws : List V} {ss ts : List Sl}, SlL K G vs ss → SlL K G ws ts → SlL K G (vs ++ ws) (ss ++ ts)
  | _, _, _, _, .nil, b => b
  | _, _, _, _, .cons a t, b => .cons a (t.append b)
theorem SlL.set {v : V} {s : Sl} (a : SlAt K G v s) : ∀ {vs : List V} {ss : List Sl} (i : Nat), SlL K G vs ss → SlL K G (vs.set i v) (ss.set i s)
  | _, _, _, .nil => .nil
  | _, _, 0, .cons _ b => .cons a b
  | _, _, i + 1, .cons h b => .cons h (b.set a i)
theorem SlL.take : ∀ {vs : List V} {ss : List Sl} (n : Nat), SlL K G vs ss → SlL K G (vs.take n) (ss.take n)
  | _, _, 0, _ => .nil
  | _, _, _ + 1, .nil => .nil
  | _, _, n + 1, .cons a b => .cons a (b.take n)
theorem SlL.drop : ∀ {vs : List V} {ss : List Sl} (n : Nat), SlL K G vs ss → SlL K G (vs.drop n) (ss.drop n)
  | _, _, 0, h => h
  | _, _, _ + 1, .nil => .nil
  | _, _, n + 1, .cons _ b => b.drop n
theorem AtL.sl : ∀ {vs : List V} {ds : List PyData}, AtL K G vs ds → SlL K G vs (ds.map Sl.d)
  | _, _, .nil => .nil
  | _, _, .cons a b => .cons (.d a) b.sl
theorem SlL.at : ∀ {vs : List V} {ds : List PyData}, SlL K G vs (ds.map Sl.d) → AtL K G vs ds
  | _, [], .nil => .nil
  | _, _ :: _, .cons (.d a) b => .cons a b.at
theorem AtL.len {vs : List V} {ds : List PyData} (h : AtL K G vs ds) : vs.length = ds.length := by
  have := h.sl.len
  rwa [List.length_map] at this
end
/-- a dict cell's entries -/
def KvAt (K : PySem.W.Frag) (G : Hp) : List (Key × V) → List (Key × Sl) → Prop
  | [], [] => True
  | p :: ps, q :: qs => p.1 = q.1 ∧ SlAt K G p.2 q.2 ∧ KvAt K G ps qs
  | _, _ => False
theorem KvAt.mono {K : PySem.W.Frag} {G G' : Hp} (e : Ex G G') : ∀ {ps : List (Key × V)} {qs : List (Key × Sl)}, KvAt K G ps qs → KvAt K G' ps qs
  | [], [], _ => trivial
  | _ :: _, _ :: _, ⟨a, b, c⟩ => ⟨a, b.mono e, KvAt.mono e c⟩
  | [], _ :: _, h => h.elim
  | _ :: _, [], h => h.elim
def CellOk (K : PySem.W.Frag) (G H : Hp) (a : Addr) : Cell → Prop
  | .l ss => ∃ xs, H a = some (.lst xs) ∧ SlL K G xs ss
  | .k kvs => ∃ xs, H a = some (.dK xs) ∧ KvAt K G xs kvs
abbrev Lk := List (Addr × Obj × HO)
def VwO (L : Lk) (H : Hp) (a : Addr) (o : HO) : Prop := H a = some o ∨ ∃ x ∈ L, x.1 = a ∧ x.2.2 = o
structure GoodM (K : PySem.W.Frag) (L : Lk) (M : Cs) (G H : Hp) : Prop where
  vw : ∀ a o, G a = some o → VwO L H a o
  cell : ∀ a c, M a = some c → G a = none ∧ CellOk K G H a c
  lk : ∀ x ∈ L, H x.1 = some (.frz x.2.1 x.2.2)
structure GoodS (K : PySem.W.Frag) (G : Hp) (σ : St) (τ : List (Option Sl)) : Prop where
  len : σ.length = τ.length
  get : ∀ (i : Nat) (s : Sl), τ[i]? = some (some s) → ∃ v, σ[i]? = some (some v) ∧ SlAt K G v s
section
variable {K : PySem.W.Frag} {L : Lk} {M : Cs} {G G' H : Hp} {σ : St} {τ : List (Option Sl)}
theorem GoodS.mono (g : GoodS K G σ τ) (e : Ex G G') : GoodS K G' σ τ := ⟨g.len, fun i s h => by
  obtain ⟨v, h1, h2⟩ := g.get i s h
  exact ⟨v, h1, h2.mono e⟩⟩
theorem GoodS.set {v : V} {s : Sl} (g : GoodS K G σ τ) (a : SlAt K G v s) (i : Nat) : GoodS K G (σ.set i (some v)) (τ.set i (some s)) := ⟨by rw [List.length_set, List.length_set, g.len], fun j t h => by
  by_cases e : i = j
  · subst e
    by_cases hl : i < τ.length
    · rw [List.getElem?_set_self hl] at h
      cases h
      exact ⟨v, by rw [List.getElem?_set_self (by rw [g.len]; exact hl)], a⟩
    · rw [List.getElem?_eq_none (by rw [List.length_set]; omega)] at h
      cases h
  · rw [List.getElem?_set_ne e] at h
    obtain ⟨w, h1, h2⟩ := g.get j t h
    exact ⟨w, by rw [List.getElem?_set_ne e]; exact h1, h2⟩⟩
/-- a free address: nothing knows it -/
theorem GoodM.free {p : Addr} (g : GoodM K L M G H) (h : H p = none) : G p = none ∧ M p = none := by
  constructor
  · cases e : G p with
    | none => rfl
    | some o =>
      rcases g.vw p o e with z | ⟨x, hx, z, _⟩
      · rw [h] at z; cases z
      · have y := g.lk x hx
        rw [z, h] at y; cases y
  · cases e : M p with
    | none => rfl
    | some c =>
      have z := (g.cell p c e).2
      cases c with
      | l ss => obtain ⟨xs, z, _⟩ := z; rw [h] at z; cases z
      | k ss => obtain ⟨xs, z, _⟩ := z; rw [h] at z; cases z
theorem rd_upd {p a : Addr} {o u : HO} (h : H p = none) (r : VwO L H a o) : VwO L (upd H p u) a o := by
  rcases r with z | z
  · exact .inl (by rw [upd_ne (ne_of_none z h)]; exact z)
  · exact .inr z
theorem GoodM.rd {a : Addr} {o : HO} (g : GoodM K L M G H) (e : G a = some o) : Rd H a o := by
  rcases g.vw a o e with z | ⟨x, hx, z, w⟩
  · exact .inl z
  · have y := g.lk x hx
    rw [z, w] at y
    exact .inr ⟨_, y⟩
theorem CellOk.mono {a : Addr} {c : Cell} {H' : Hp} (x : CellOk K G H a c) (e : Ex G G') (h : ∀ o, H a = some o → H' a = some o) : CellOk K G' H' a c := by
  cases c with
  | l ss => obtain ⟨xs, h1, h2⟩ := x; exact ⟨xs, h _ h1, h2.mono e⟩
  | k ss => obtain ⟨xs, h1, h2⟩ := x; exact ⟨xs, h _ h1, h2.mono e⟩
/-- new data -/
theorem GoodM.newD {p : Addr} {o : HO} (g : GoodM K L M G H) (h : H p = none) : GoodM K L M (upd G p o) (upd H p o) := by
  have f := g.free h
  refine ⟨fun a u e => ?_, fun a c e => ?_, fun x hx => ?_⟩
  · by_cases ha : a = p
    · subst ha
      rw [upd_same] at e
      cases e
      exact .inl upd_same
    · rw [upd_ne ha] at e
      exact rd_upd h (g.vw a u e)
  · have ha : a ≠ p := neC e f.2
    obtain ⟨z1, z2⟩ := g.cell a c e
    exact ⟨by rw [upd_ne ha]; exact z1, z2.mono (Ex.new f.1) fun o q => by rw [upd_ne ha]; exact q⟩
  · rw [upd_ne (ne_of_none (g.lk x hx) h)]
    exact g.lk x hx
/-- the heap of a cell and a new cell -/
def hoC (xs : List V) : HO := .lst xs
theorem GoodM.newC {p : Addr} {o : HO} {c : Cell} (g : GoodM K L M G H) (h : H p = none) (ok : CellOk K G (upd H p o) p c) : GoodM K L (updC M p c) G (upd H p o) := by
  have f := g.free h
  refine ⟨fun a u e => rd_upd h (g.vw a u e), fun a c' e => ?_, fun x hx => ?_⟩
  · by_cases ha : a = p
    · subst ha
      rw [updC_same] at e
      cases e
      exact ⟨f.1, ok⟩
    · rw [updC_ne ha] at e
      obtain ⟨z1, z2⟩ := g.cell a c' e
      exact ⟨z1, z2.mono (Ex.refl G) fun o q => by rw [upd_ne ha]; exact q⟩
  · rw [upd_ne (ne_of_none (g.lk x hx) h)]
    exact g.lk x hx
/-- a cell is written -/
theorem GoodM.write {p : Addr} {o u : HO} {c c' : Cell} (g : GoodM K L M G H) (hc : M p = some c) (hu : H p = some u) (nf : ∀ b z, u ≠ .frz b z) (ok : CellOk K G (upd H p o) p c') : GoodM K L (updC M p c') G (upd H p o) := by
  have f := g.cell p c hc
  refine ⟨fun a u' e => ?_, fun a c'' e => ?_, fun x hx => ?_⟩
  · have ha : a ≠ p := by
      intro z
      subst z
      rw [f.1] at e
      cases e
    rcases g.vw a u' e with z | z
    · exact .inl (by rw [upd_ne ha]; exact z)
    · exact .inr z
  · by_cases ha : a = p
    · subst ha
      rw [updC_same] at e
      cases e
      exact ⟨f.1, ok⟩
    · rw [updC_ne ha] at e
      obtain ⟨z1, z2⟩ := g.cell a c'' e
      exact ⟨z1, z2.mono (Ex.refl G) fun o q => by rw [upd_ne ha]; exact q⟩
  · have hx' := g.lk x hx
    have ha : x.1 ≠ p := by
      intro z
      rw [z, hu] at hx'
      exact nf _ _ (Option.some.inj hx')
    rw [upd_ne ha]
    exact hx'
/-- a cell becomes data -/
theorem GoodM.freeze {p : Addr} {ds : List PyData} (g : GoodM K L M G H) (hc : M p = some (.l (ds.map .d))) : ∃ G', Ex G G' ∧ GoodM K L (delC M p) G' H ∧ At K G' (.ref p) (.list ds) := by
  obtain ⟨f, xs, h1, h2⟩ := g.cell p _ hc
  refine ⟨upd G p (.lst xs), Ex.new f, ⟨fun a u e => ?_, fun a c e => ?_, g.lk⟩, .lst upd_same (h2.at.mono (Ex.new f))⟩
  · by_cases ha : a = p
    · subst ha
      rw [upd_same] at e
      cases e
      exact .inl h1
    · rw [upd_ne ha] at e
      exact g.vw a u e
  · by_cases ha : a = p
    · subst ha
      rw [delC_same] at e
      cases e
    · rw [delC_ne ha] at e
      obtain ⟨z1, z2⟩ := g.cell a c e
      exact ⟨by rw [upd_ne ha]; exact z1, z2.mono (Ex.new f) fun o q => q⟩
end
end Y

namespace Y
open PySem L2

/-! ### judgements over data -/
section
variable (K : PySem.W.Frag) (L : Lk)
def Ret (G : Hp) (Q : Sl → Cs → Prop) (Q' : VK) : Prop := ∀ s M' v G' H', Q s M' → Ex G G' → GoodM K L M' G' H' → SlAt K G' v s → Q' v H'
def RetB (G : Hp) (Q : Bool → Cs → Prop) (Q' : Bool → Hp → Prop) : Prop := ∀ b M' G' H', Q b M' → Ex G G' → GoodM K L M' G' H' → Q' b H'
def RetA (G : Hp) (Q : List Sl → Cs → Prop) (Q' : List V → Hp → Prop) : Prop := ∀ s M' v G' H', Q s M' → Ex G G' → GoodM K L M' G' H' → SlL K G' v s → Q' v H'
def RetG (G : Hp) (Q : List (Option Sl) → Cs → Prop) (Q' : St → Hp → Prop) : Prop := ∀ τ' M' σ' G' H', Q τ' M' → Ex G G' → GoodM K L M' G' H' → GoodS K G' σ' τ' → Q' σ' H'
def WE (te : TE) (τ : List (Option Sl)) (M : Cs) (Q : Sl → Cs → Prop) : Prop := ∀ σ G H Q', GoodS K G σ τ → GoodM K L M G H → Ret K L G Q Q' → te σ H Q'
def WT (tt : TT) (τ : List (Option Sl)) (M : Cs) (Q : Bool → Cs → Prop) : Prop := ∀ σ G H Q', GoodS K G σ τ → GoodM K L M G H → RetB K L G Q Q' → tt σ H Q'
def WA (ta : TA) (τ : List (Option Sl)) (M : Cs) (Q : List Sl → Cs → Prop) : Prop := ∀ σ G H Q', GoodS K G σ τ → GoodM K L M G H → RetA K L G Q Q' → ta σ H Q'
def WG (g : TG) (s : Sl) (τ : List (Option Sl)) (M : Cs) (Q : List (Option Sl) → Cs → Prop) : Prop := ∀ σ G H v Q', GoodS K G σ τ → GoodM K L M G H → SlAt K G v s → RetG K L G Q Q' → g v σ H Q'
def WGs (g : TGs) (ss : List Sl) (τ : List (Option Sl)) (M : Cs) (Q : List (Option Sl) → Cs → Prop) : Prop := ∀ σ G H vs Q', GoodS K G σ τ → GoodM K L M G H → SlL K G vs ss → RetG K L G Q Q' → g vs σ H Q'
/-- operations on values -/
def R2k (r : R2) (x y : Sl) (M : Cs) (Q : Sl → Cs → Prop) : Prop := ∀ G H v u Q', GoodM K L M G H → SlAt K G v x → SlAt K G u y → Ret K L G Q Q' → r v u H Q'
def RCk (r : List V → Hp → VK → Prop) (xs : List Sl) (M : Cs) (Q : Sl → Cs → Prop) : Prop := ∀ G H vs Q', GoodM K L M G H → SlL K G vs xs → Ret K L G Q Q' → r vs H Q'
structure Ks where
  nx : List (Option Sl) → Cs → Prop
  rt : Sl → Cs → Prop
  bk : List (Option Sl) → Cs → Prop := fun _ _ => False
  ct : List (Option Sl) → Cs → Prop := fun _ _ => False
structure EndsOk (G : Hp) (E : Ks) (D : Ends) : Prop where
  nx : RetG K L G E.nx D.nx
  rt : Ret K L G E.rt D.rt
  bk : RetG K L G E.bk D.bk
  ct : RetG K L G E.ct D.ct
def WS (ts : TS) (τ : List (Option Sl)) (M : Cs) (E : Ks) : Prop := ∀ σ G H D, GoodS K G σ τ → GoodM K L M G H → EndsOk K L G E D → ts D σ H
end
section
variable {K : PySem.W.Frag} {L : Lk} {G G' : Hp}
theorem Ret.mono {Q : Sl → Cs → Prop} {Q' : VK} (k : Ret K L G Q Q') (e : Ex G G') : Ret K L G' Q Q' := fun s M v G2 H2 q e2 => k s M v G2 H2 q (e.trans e2)
theorem RetB.mono {Q : Bool → Cs → Prop} {Q' : Bool → Hp → Prop} (k : RetB K L G Q Q') (e : Ex G G') : RetB K L G' Q Q' := fun b M G2 H2 q e2 => k b M G2 H2 q (e.trans e2)
theorem RetA.mono {Q : List Sl → Cs → Prop} {Q' : List V → Hp → Prop} (k : RetA K L G Q Q') (e : Ex G G') : RetA K L G' Q Q' := fun s M v G2 H2 q e2 => k s M v G2 H2 q (e.trans e2)
theorem RetG.mono {Q : List (Option Sl) → Cs → Prop} {Q' : St → Hp → Prop} (k : RetG K L G Q Q') (e : Ex G G') : RetG K L G' Q Q' := fun s M v G2 H2 q e2 => k s M v G2 H2 q (e.trans e2)
theorem EndsOk.mono {E : Ks} {D : Ends} (k : EndsOk K L G E D) (e : Ex G G') : EndsOk K L G' E D := ⟨k.nx.mono e, k.rt.mono e, k.bk.mono e, k.ct.mono e⟩
theorem Ret.go {Q : Sl → Cs → Prop} {Q' : VK} (k : Ret K L G Q Q') {s : Sl} {M : Cs} {v : V} {H : Hp} (q : Q s M) (g : GoodM K L M G H) (a : SlAt K G v s) : Q' v H := k s M v G H q (Ex.refl G) g a
theorem RetB.go {Q : Bool → Cs → Prop} {Q' : Bool → Hp → Prop} (k : RetB K L G Q Q') {b : Bool} {M : Cs} {H : Hp} (q : Q b M) (g : GoodM K L M G H) : Q' b H := k b M G H q (Ex.refl G) g
theorem RetA.go {Q : List Sl → Cs → Prop} {Q' : List V → Hp → Prop} (k : RetA K L G Q Q') {s : List Sl} {M : Cs} {v : List V} {H : Hp} (q : Q s M) (g : GoodM K L M G H) (a : SlL K G v s) : Q' v H := k s M v G H q (Ex.refl G) g a
theorem RetG.go {Q : List (Option Sl) → Cs → Prop} {Q' : St → Hp → Prop} (k : RetG K L G Q Q') {τ : List (Option Sl)} {M : Cs} {σ : St} {H : Hp} (q : Q τ M) (g : GoodM K L M G H) (a : GoodS K G σ τ) : Q' σ H := k τ M σ G H q (Ex.refl G) g a
end
section
variable (X : Cx) (L : Lk)
abbrev DE (e : Expr) := WE X.K L (sE X e)
abbrev DT (e : Expr) := WT X.K L (sT X e)
abbrev DA (es : List Expr) := WA X.K L (sA X es)
abbrev DG (t : Expr) := WG X.K L (sG X t)
abbrev DS (st : Stmt) := WS X.K L (sS X st)
abbrev DB (st : List Stmt) := WS X.K L (sB X st)
end
section
variable {X : Cx} {L : Lk} {τ : List (Option Sl)} {M : Cs} {Q : Sl → Cs → Prop} {QB : Bool → Cs → Prop} {QA : List Sl → Cs → Prop} {e a b c : Expr} {es : List Expr} {pos : Pos} {E : Ks} {st : Stmt} {sts : List Stmt} {p p2 : Pos}
theorem de_of {te : TE} (h : PE X e te) (w : WE X.K L te τ M Q) : DE X L e τ M Q := fun σ G H Q' gs gm k => e_of h (w σ G H Q' gs gm k)
theorem dt_of {tt : TT} (h : PT X e tt) (w : WT X.K L tt τ M QB) : DT X L e τ M QB := fun σ G H Q' gs gm k => t_of h (w σ G H Q' gs gm k)
theorem da_of {ta : TA} (h : PA X es ta) (w : WA X.K L ta τ M QA) : DA X L es τ M QA := fun σ G H Q' gs gm k => a_of h (w σ G H Q' gs gm k)
theorem ds_of {ts : TS} (h : PS X st ts) (w : WS X.K L ts τ M E) : DS X L st τ M E := fun σ G H D gs gm k => s_of h (w σ G H D gs gm k)
theorem db_of {ts : TS} (h : PSs X sts ts) (w : WS X.K L ts τ M E) : DB X L sts τ M E := fun σ G H D gs gm k => b_of h (w σ G H D gs gm k)
theorem de_imp {Q2 : Sl → Cs → Prop} (w : DE X L e τ M Q2) (h : ∀ s M', Q2 s M' → Q s M') : DE X L e τ M Q := fun σ G H Q' gs gm k => w σ G H Q' gs gm fun s M' v G' H' q => k s M' v G' H' (h s M' q)
/-- names, constants -/
theorem de_name {i : Nat} {x : Str} {s : Sl} (hN : X.N[i]? = some x) (hv : Vis X.env.scope x) (ht : τ[i]? = some (some s)) (q : Q s M) (hd : (x == ("__debug__" : Str)) = false := by decide) (hcd : (x == ("__classdict__" : Str)) = false := by decide) : DE X L (.Name x pos) τ M Q :=
  de_of (pe_var hN hv hd hcd) fun σ G H Q' gs gm k => by
    obtain ⟨v, h1, h2⟩ := gs.get i s ht
    exact ⟨v, h1, k.go q gm h2⟩
theorem de_int {k : Int} {j} (q : Q (.d (.int k)) M) : DE X L (.Constant (.int k) j pos) τ M Q := de_of pe_int fun σ G H Q' gs gm k => k.go q gm (.d (.int _))
theorem de_bl {k : Bool} {j} (q : Q (.d (.bool k)) M) : DE X L (.Constant (.bool k) j pos) τ M Q := de_of pe_bl fun σ G H Q' gs gm k => k.go q gm (.d (.bl _))
theorem de_non {j} (q : Q (.d .none) M) : DE X L (.Constant .none j pos) τ M Q := de_of pe_non fun σ G H Q' gs gm k => k.go q gm (.d .non)
theorem de_str {x : Str} {j} (q : Q (.d (.str x)) M) : DE X L (.Constant (.str x) j pos) τ M Q := de_of pe_str fun σ G H Q' gs gm k => k.go q gm (.d (.str _))
theorem de_type {x : Str} {n : String} (hg : Gl X x) (hm : X.mg x = none) (hv : bootBuiltins x = some (.type n)) (q : Q (.t n) M) (hn : x ≠ "__name__" := by decide) (hdb : (x == ("__debug__" : Str)) = false := by decide) : DE X L (.Name x pos) τ M Q :=
  de_of (te := tC (.ty n)) ⟨fun pins s σ H Q I h => ld_blt I hg hm hv ⟨.ty n, H, I, rfl, h⟩ hn hdb⟩ fun σ G H Q' gs gm k => k.go q gm (.t n)
theorem de_glob {x : Str} {i : Int} {v : Value} (hg : Gl X x) (hm : X.mg x = some v) (hr : RelV (.int i) v) (q : Q (.d (.int i)) M) (hdb : (x == ("__debug__" : Str)) = false := by decide) : DE X L (.Name x pos) τ M Q := de_of (pe_glob hg hm hr hdb) fun σ G H Q' gs gm k => k.go q gm (.d (.int _))
/-- argument lists -/
theorem da_nil (q : QA [] M) : DA X L [] τ M QA := da_of pa_nil fun σ G H Q' gs gm k => k.go q gm .nil
theorem da_cons (w : DE X L e τ M fun s M1 => DA X L es τ M1 fun ss M2 => QA (s :: ss) M2) (hs : starEach (e :: es) X.env = (false, eval e X.env) :: starEach es X.env := by rfl) : DA X L (e :: es) τ M QA :=
  da_of (pa_cons pe_s pa_s hs) fun σ G H Q' gs gm k => w σ G H _ gs gm fun s M1 v G1 H1 q e1 g1 a1 =>
    q σ G1 H1 _ (gs.mono e1) g1 fun ss M2 vs G2 H2 q2 e2 g2 a2 => k (s :: ss) M2 (v :: vs) G2 H2 q2 (e1.trans e2) g2 (.cons (a1.mono e2) a2)
/-- two-place operations -/
theorem we_op {r : R2} (w : DE X L a τ M fun x M1 => DE X L b τ M1 fun y M2 => R2k X.K L r x y M2 Q) : WE X.K L (tOp r (sE X a) (sE X b)) τ M Q := fun σ G H Q' gs gm k =>
  w σ G H _ gs gm fun x M1 v G1 H1 q e1 g1 a1 => q σ G1 H1 _ (gs.mono e1) g1 fun y M2 u G2 H2 q2 e2 g2 a2 => q2 G2 H2 v u Q' g2 (a1.mono e2) a2 (k.mono (e1.trans e2))
theorem de_op {op : Operator} {r : R2} (ho : OpR X (binaryOp op) r) (w : DE X L a τ M fun x M1 => DE X L b τ M1 fun y M2 => R2k X.K L r x y M2 Q) : DE X L (.BinOp a op b pos) τ M Q := de_of (pe_op ho pe_s pe_s) (we_op w)
theorem de_cmp {op : CmpOp} {r : R2} (ho : OpR X (compareOp op) r) (w : DE X L a τ M fun x M1 => DE X L b τ M1 fun y M2 => R2k X.K L r x y M2 Q) (hm : behindInMarks op b = false) : DE X L (.Compare a [op] [b] pos) τ M Q := de_of (pe_cmpR ho pe_s pe_s hm) (we_op w)
/-- a value in the place of a test -/
def BoolQ (QB : Bool → Cs → Prop) : Sl → Cs → Prop := fun s M => ∃ k, s = .d (.bool k) ∧ QB k M
theorem sl_bl {K : PySem.W.Frag} {G : Hp} {v : V} {k : Bool} (a : SlAt K G v (.d (.bool k))) : v = .bl k := by
  cases a with | d a => cases a; rfl
theorem sl_int {K : PySem.W.Frag} {G : Hp} {v : V} {k : Int} (a : SlAt K G v (.d (.int k))) : v = .int k := by
  cases a with | d a => cases a; rfl
theorem sl_str {K : PySem.W.Frag} {G : Hp} {v : V} {k : Str} (a : SlAt K G v (.d (.str k))) : v = .str k := by
  cases a with | d a => cases a; rfl
theorem sl_non {K : PySem.W.Frag} {G : Hp} {v : V} (a : SlAt K G v (.d .none)) : v = .non := by
  cases a with | d a => cases a; rfl
theorem sl_t {K : PySem.W.Frag} {G : Hp} {v : V} {n : String} (a : SlAt K G v (.t n)) : v = .ty n := by
  cases a; rfl
theorem sl_c {K : PySem.W.Frag} {G : Hp} {v : V} {n : Addr} (a : SlAt K G v (.c n)) : v = .ref n := by
  cases a; rfl
theorem dt_cmp {op : CmpOp} {r : R2} (ho : OpR X (compareOp op) r) (w : DE X L a τ M fun x M1 => DE X L b τ M1 fun y M2 => R2k X.K L r x y M2 (BoolQ QB)) (hm : behindInMarks op b = false) : DT X L (.Compare a [op] [b] pos) τ M QB :=
  dt_of (pt_cmpR ho pe_s pe_s hm) fun σ G H Q' gs gm k => we_op w σ G H _ gs gm fun s M1 v G1 H1 ⟨d, e, q⟩ e1 g1 a1 => by
    subst e
    exact ⟨d, sl_bl a1, k d M1 G1 H1 q e1 g1⟩
theorem dt_val (w : DE X L e τ M (BoolQ QB)) (he : ∀ whole, isTrue e X.env whole = (do let v ← whole; standAt e.pos; holding [v] (truthy v)) := by intro _; rfl) : DT X L e τ M QB :=
  dt_of (pt_val pe_s he) fun σ G H Q' gs gm k => w σ G H _ gs gm fun s M1 v G1 H1 ⟨d, e, q⟩ e1 g1 a1 => by
    subst e
    exact ⟨d, sl_bl a1, k d M1 G1 H1 q e1 g1⟩
/-- chains -/
theorem we_chain {r r' : R2} (w : DE X L a τ M fun x M1 => DE X L b τ M1 fun y M2 => R2k X.K L r x y M2 (BoolQ fun d M3 => (d = true → DE X L c τ M3 fun z M4 => R2k X.K L r' y z M4 Q) ∧ (d = false → Q (.d (.bool false)) M3))) :
    WE X.K L (tChain r r' (sE X a) (sE X b) (sE X c)) τ M Q := fun σ G H Q' gs gm k =>
  w σ G H _ gs gm fun x M1 v G1 H1 q e1 g1 a1 => q σ G1 H1 _ (gs.mono e1) g1 fun y M2 u G2 H2 q2 e2 g2 a2 => q2 G2 H2 v u _ g2 (a1.mono e2) a2 fun s M3 z G3 H3 ⟨d, e, q3, q4⟩ e3 g3 a3 => by
    subst e
    refine ⟨d, sl_bl a3, ?_⟩
    have e13 := (e1.trans e2).trans e3
    cases d with
    | true =>
      rw [if_pos rfl]
      exact q3 rfl σ G3 H3 _ (gs.mono e13) g3 fun t M4 w' G4 H4 q5 e4 g4 a4 => q5 G4 H4 u w' Q' g4 ((a2.mono e3).mono e4) a4 (k.mono (e13.trans e4))
    | false =>
      rw [if_neg Bool.false_ne_true]
      exact (k.mono e13).go (q4 rfl) g3 (.d (.bl false))
theorem de_chain {op op' : CmpOp} {r r' : R2} (ho : OpR X (compareOp op) r) (ho' : OpR X (compareOp op') r')
    (w : DE X L a τ M fun x M1 => DE X L b τ M1 fun y M2 => R2k X.K L r x y M2 (BoolQ fun d M3 => (d = true → DE X L c τ M3 fun z M4 => R2k X.K L r' y z M4 Q) ∧ (d = false → Q (.d (.bool false)) M3)))
    (hm : lastMarks [op, op'] [b, c] = false := by with_unfolding_all rfl) : DE X L (.Compare a [op, op'] [b, c] pos) τ M Q := de_of (pe_chain ho ho' pe_s pe_s pe_s hm) (we_chain w)
theorem dt_chain {op op' : CmpOp} {r r' : R2} (ho : OpR X (compareOp op) r) (ho' : OpR X (compareOp op') r')
    (w : DE X L a τ M fun x M1 => DE X L b τ M1 fun y M2 => R2k X.K L r x y M2 (BoolQ fun d M3 => (d = true → DE X L c τ M3 fun z M4 => R2k X.K L r' y z M4 (BoolQ QB)) ∧ (d = false → QB false M3)))
    (hm : lastMarks [op, op'] [b, c] = false := by with_unfolding_all rfl) : DT X L (.Compare a [op, op'] [b, c] pos) τ M QB :=
  dt_of (pt_chain ho ho' pe_s pe_s pe_s hm) fun σ G H Q' gs gm k => we_chain (Q := BoolQ QB) (de_imp w fun x M1 q => de_imp q fun y M2 q2 => fun G H v u Q' g a1 a2 k => q2 G H v u Q' g a1 a2 fun s M3 z G3 H3 ⟨d, e, q3, q4⟩ => k s M3 z G3 H3 ⟨d, e, q3, fun z => ⟨false, rfl, q4 z⟩⟩) σ G H _ gs gm fun s M1 v G1 H1 ⟨d, e, q⟩ e1 g1 a1 => by
    subst e
    exact ⟨d, sl_bl a1, k d M1 G1 H1 q e1 g1⟩
/-! and, or, not as tests -/
variable {rest : List Expr}
def DW (X : Cx) (L : Lk) (e : Expr) (τ : List (Option Sl)) (M : Cs) (QB : Bool → Cs → Prop) : Prop := ∃ tt, PW X e tt ∧ WT X.K L tt τ M QB
theorem dt_not (w : DT X L a τ M fun k M1 => QB (!k) M1) : DT X L (.UnaryOp .Not a pos) τ M QB := dt_of (pt_not pt_s) fun σ G H Q' gs gm k => w σ G H _ gs gm fun d M1 G1 H1 q e1 g1 => k _ M1 G1 H1 q e1 g1
theorem dt_and2 (w : DT X L a τ M fun k M1 => (k = true → DT X L b τ M1 QB) ∧ (k = false → QB false M1)) : DT X L (.BoolOp .And [a, b] pos) τ M QB :=
  dt_of (pw_and pt_s (pw_and1 pt_s)).pt fun σ G H Q' gs gm k => w σ G H _ gs gm fun d M1 G1 H1 q e1 g1 => by
    cases d with
    | true => rw [if_pos rfl]; exact q.1 rfl σ G1 H1 Q' (gs.mono e1) g1 (k.mono e1)
    | false => rw [if_neg Bool.false_ne_true]; exact (k.mono e1).go (q.2 rfl) g1
theorem dt_or2 (w : DT X L a τ M fun k M1 => (k = true → QB true M1) ∧ (k = false → DT X L b τ M1 QB)) : DT X L (.BoolOp .Or [a, b] pos) τ M QB :=
  dt_of (pw_or pt_s (pw_or1 pt_s)).pt fun σ G H Q' gs gm k => w σ G H _ gs gm fun d M1 G1 H1 q e1 g1 => by
    cases d with
    | false => rw [if_neg Bool.false_ne_true]; exact q.2 rfl σ G1 H1 Q' (gs.mono e1) g1 (k.mono e1)
    | true => rw [if_pos rfl]; exact (k.mono e1).go (q.1 rfl) g1
theorem dt_and3 (w : DT X L a τ M fun k M1 => (k = true → DT X L b τ M1 fun k2 M2 => (k2 = true → DT X L c τ M2 QB) ∧ (k2 = false → QB false M2)) ∧ (k = false → QB false M1)) : DT X L (.BoolOp .And [a, b, c] pos) τ M QB :=
  dt_of (pw_and pt_s (pw_and pt_s (pw_and1 pt_s))).pt fun σ G H Q' gs gm k => w σ G H _ gs gm fun d M1 G1 H1 q e1 g1 => by
    cases d with
    | true =>
      rw [if_pos rfl]
      refine q.1 rfl σ G1 H1 _ (gs.mono e1) g1 fun d2 M2 G2 H2 q2 e2 g2 => ?_
      cases d2 with
      | true => rw [if_pos rfl]; exact q2.1 rfl σ G2 H2 Q' (gs.mono (e1.trans e2)) g2 (k.mono (e1.trans e2))
      | false => rw [if_neg Bool.false_ne_true]; exact (k.mono (e1.trans e2)).go (q2.2 rfl) g2
    | false => rw [if_neg Bool.false_ne_true]; exact (k.mono e1).go (q.2 rfl) g1
theorem dt_or3 (w : DT X L a τ M fun k M1 => (k = true → QB true M1) ∧ (k = false → DT X L b τ M1 fun k2 M2 => (k2 = true → QB true M2) ∧ (k2 = false → DT X L c τ M2 QB))) : DT X L (.BoolOp .Or [a, b, c] pos) τ M QB :=
  dt_of (pw_or pt_s (pw_or pt_s (pw_or1 pt_s))).pt fun σ G H Q' gs gm k => w σ G H _ gs gm fun d M1 G1 H1 q e1 g1 => by
    cases d with
    | false =>
      rw [if_neg Bool.false_ne_true]
      refine q.2 rfl σ G1 H1 _ (gs.mono e1) g1 fun d2 M2 G2 H2 q2 e2 g2 => ?_
      cases d2 with
      | false => rw [if_neg Bool.false_ne_true]; exact q2.2 rfl σ G2 H2 Q' (gs.mono (e1.trans e2)) g2 (k.mono (e1.trans e2))
      | true => rw [if_pos rfl]; exact (k.mono (e1.trans e2)).go (q2.1 rfl) g2
    | true => rw [if_pos rfl]; exact (k.mono e1).go (q.1 rfl) g1
/-- .. as values -/
theorem de_one {op} (w : DE X L a τ M Q) : DE X L (.BoolOp op [a] pos) τ M Q := de_of (pe_one pe_s) w
theorem de_and (w : DE X L a τ M (BoolQ fun k M1 => (k = true → DE X L (.BoolOp .And (b :: rest) pos) τ M1 Q) ∧ (k = false → Q (.d (.bool false)) M1))) : DE X L (.BoolOp .And (a :: b :: rest) pos) τ M Q :=
  de_of (pe_and pe_s pe_s) fun σ G H Q' gs gm k => w σ G H _ gs gm fun s M1 v G1 H1 ⟨d, e, q⟩ e1 g1 a1 => by
    subst e
    refine ⟨d, sl_bl a1, ?_⟩
    cases d with
    | true => rw [if_pos rfl]; exact q.1 rfl σ G1 H1 Q' (gs.mono e1) g1 (k.mono e1)
    | false => rw [if_neg Bool.false_ne_true]; exact (k.mono e1).go (q.2 rfl) g1 (.d (.bl false))
theorem de_or (w : DE X L a τ M (BoolQ fun k M1 => (k = true → Q (.d (.bool true)) M1) ∧ (k = false → DE X L (.BoolOp .Or (b :: rest) pos) τ M1 Q))) : DE X L (.BoolOp .Or (a :: b :: rest) pos) τ M Q :=
  de_of (pe_or pe_s pe_s) fun σ G H Q' gs gm k => w σ G H _ gs gm fun s M1 v G1 H1 ⟨d, e, q⟩ e1 g1 a1 => by
    subst e
    refine ⟨d, sl_bl a1, ?_⟩
    cases d with
    | false => rw [if_neg Bool.false_ne_true]; exact q.2 rfl σ G1 H1 Q' (gs.mono e1) g1 (k.mono e1)
    | true => rw [if_pos rfl]; exact (k.mono e1).go (q.1 rfl) g1 (.d (.bl true))
theorem de_not (w : DE X L a τ M (BoolQ fun k M1 => Q (.d (.bool (!k))) M1)) : DE X L (.UnaryOp .Not a pos) τ M Q :=
  de_of (pe_not pe_s) fun σ G H Q' gs gm k => w σ G H _ gs gm fun s M1 v G1 H1 ⟨d, e, q⟩ e1 g1 a1 => by
    subst e
    exact ⟨d, sl_bl a1, (k.mono e1).go q g1 (.d (.bl _))⟩
theorem de_if (w : DT X L c τ M fun k M1 => (k = true → DE X L a τ M1 Q) ∧ (k = false → DE X L b τ M1 Q)) : DE X L (.IfExp c a b pos) τ M Q :=
  de_of (pe_ifExp pt_s pe_s pe_s) fun σ G H Q' gs gm k => w σ G H _ gs gm fun d M1 G1 H1 q e1 g1 => by
    cases d with
    | true => rw [if_pos rfl]; exact q.1 rfl σ G1 H1 Q' (gs.mono e1) g1 (k.mono e1)
    | false => rw [if_neg Bool.false_ne_true]; exact q.2 rfl σ G1 H1 Q' (gs.mono e1) g1 (k.mono e1)
/-- negation of an int -/
theorem de_neg (w : DE X L a τ M fun s M1 => ∃ i, s = .d (.int i) ∧ Q (.d (.int (-i))) M1) : DE X L (.UnaryOp .USub a pos) τ M Q :=
  de_of (pe_un un_neg pe_s) fun σ G H Q' gs gm k => w σ G H _ gs gm fun s M1 v G1 H1 ⟨i, e, q⟩ e1 g1 a1 => by
    subst e
    exact ⟨i, sl_int a1, (k.mono e1).go q g1 (.d (.int _))⟩
/-! ### displays -/
theorem de_tup (w : DA X L es τ M fun ss M1 => ss.length ≤ sizeLine ∧ Q (.u ss) M1) {x1} : DE X L (.Tuple es x1 pos) τ M Q :=
  de_of (pe_tup pa_s) fun σ G H Q' gs gm k => w σ G H _ gs gm fun ss M1 vs G1 H1 ⟨hl, q⟩ e1 g1 a1 => ⟨by rw [a1.len]; exact hl, fun p hp =>
    k (.u ss) M1 (.ref p) (upd G1 p (.tup vs)) _ q (e1.trans (Ex.new (g1.free hp).1)) (g1.newD hp) (.u upd_same (a1.mono (Ex.new (g1.free hp).1)))⟩
theorem de_tupD (w : DA X L es τ M fun ss M1 => ∃ ds : List PyData, ss = ds.map Sl.d ∧ ds.length ≤ sizeLine ∧ Q (.d (.tuple ds)) M1) {x1} : DE X L (.Tuple es x1 pos) τ M Q :=
  de_of (pe_tup pa_s) fun σ G H Q' gs gm k => w σ G H _ gs gm fun ss M1 vs G1 H1 ⟨ds, e, hl, q⟩ e1 g1 a1 => by
    subst e
    exact ⟨by rw [a1.len, List.length_map]; exact hl, fun p hp =>
      k (.d (.tuple ds)) M1 (.ref p) (upd G1 p (.tup vs)) _ q (e1.trans (Ex.new (g1.free hp).1)) (g1.newD hp) (.d (.tup upd_same (a1.at.mono (Ex.new (g1.free hp).1))))⟩
theorem de_lstD (w : DA X L es τ M fun ss M1 => ∃ ds : List PyData, ss = ds.map Sl.d ∧ ds.length ≤ sizeLine ∧ Q (.d (.list ds)) M1) : DE X L (.List es pos) τ M Q :=
  de_of (pe_lst pa_s) fun σ G H Q' gs gm k => w σ G H _ gs gm fun ss M1 vs G1 H1 ⟨ds, e, hl, q⟩ e1 g1 a1 => by
    subst e
    exact ⟨by rw [a1.len, List.length_map]; exact hl, fun p hp =>
      k (.d (.list ds)) M1 (.ref p) (upd G1 p (.lst vs)) _ q (e1.trans (Ex.new (g1.free hp).1)) (g1.newD hp) (.d (.lst upd_same (a1.at.mono (Ex.new (g1.free hp).1))))⟩
theorem de_lstC (w : DA X L es τ M fun ss M1 => ss.length ≤ sizeLine ∧ ∀ p, M1 p = none → Q (.c p) (updC M1 p (.l ss))) : DE X L (.List es pos) τ M Q :=
  de_of (pe_lst pa_s) fun σ G H Q' gs gm k => w σ G H _ gs gm fun ss M1 vs G1 H1 ⟨hl, q⟩ e1 g1 a1 => ⟨by rw [a1.len]; exact hl, fun p hp =>
    k (.c p) (updC M1 p (.l ss)) (.ref p) G1 _ (q p (g1.free hp).2) e1 (g1.newC hp ⟨vs, upd_same, a1⟩) (.c p)⟩
theorem de_dictC (q : ∀ p, M p = none → Q (.c p) (updC M p (.k []))) : DE X L (.Dict [] [] pos) τ M Q :=
  de_of pe_dnewK fun σ G H Q' gs gm k p hp => k (.c p) (updC M p (.k [])) (.ref p) G _ (q p (gm.free hp).2) (Ex.refl G) (gm.newC hp ⟨[], upd_same, trivial⟩) (.c p)
/-- a cell of data becomes data -/
theorem de_frz (w : DE X L e τ M fun s M1 => ∃ p ds, s = .c p ∧ M1 p = some (.l (ds.map .d)) ∧ Q (.d (.list ds)) (delC M1 p)) : DE X L e τ M Q := fun σ G H Q' gs gm k =>
  w σ G H _ gs gm fun s M1 v G1 H1 ⟨p, ds, e, hp, q⟩ e1 g1 a1 => by
    subst e
    obtain ⟨G2, e2, g2, a2⟩ := g1.freeze hp
    rw [sl_c a1]
    exact k _ _ _ G2 H1 q (e1.trans e2) g2 (.d a2)
end
end Y

namespace Y
open PySem L2 PyProof.Rows

/-! ### sequences -/
def dI (i : Int) : Sl := .d (.int i)
def seqOf (M : Cs) : Sl → Option (List Sl)
  | .d (.list ds) => some (ds.map .d)
  | .d (.tuple ds) => some (ds.map .d)
  | .u ss => some ss
  | .s ns => some (ns.map dI)
  | .c a => match M a with
    | some (.l ss) => some ss
    | _ => none
  | _ => none
def isTup : Sl → Bool
  | .d (.tuple _) => true
  | .u _ => true
  | _ => false
section
variable {K : PySem.W.Frag} {L : Lk} {M : Cs} {G H : Hp} {v : V} {s : Sl} {ss : List Sl}
theorem ints_sl : ∀ ns : List Int, SlL K G (ns.map V.int) (ns.map dI)
  | [] => .nil
  | n :: r => .cons (.d (.int n)) (ints_sl r)
theorem seq_at (g : GoodM K L M G H) (a : SlAt K G v s) (h : seqOf M s = some ss) : ∃ p xs, v = .ref p ∧ (if isTup s = true then SqT K H p xs else SqL K H p xs) ∧ SlL K G xs ss := by
  cases a with
  | d a =>
    cases a with
    | lst e l =>
      cases h
      exact ⟨_, _, rfl, .inl (g.rd e), l.sl⟩
    | tup e l =>
      cases h
      exact ⟨_, _, rfl, .inl (g.rd e), l.sl⟩
    | non => cases h
    | bl => cases h
    | int => cases h
    | str => cases h
    | dic => cases h
  | c p =>
    cases e : M p with
    | none => simp only [seqOf, e] at h; cases h
    | some c =>
      cases c with
      | k kvs => simp only [seqOf, e] at h; cases h
      | l ts =>
        simp only [seqOf, e] at h
        cases h
        obtain ⟨_, xs, h1, h2⟩ := g.cell p _ e
        exact ⟨p, xs, rfl, SqL.of h1, h2⟩
  | t n => cases h
  | u e l =>
    cases h
    exact ⟨_, _, rfl, .inl (g.rd e), l⟩
  | s e =>
    cases h
    refine ⟨_, _, rfl, ?_, ints_sl _⟩
    show SqL K H _ _
    rcases e with e | e
    · exact .inl (g.rd e)
    · exact .inr e
theorem seq_at' (g : GoodM K L M G H) (a : SlAt K G v s) (h : seqOf M s = some ss) : ∃ p xs, v = .ref p ∧ (SqL K H p xs ∨ SqT K H p xs) ∧ SlL K G xs ss := by
  obtain ⟨p, xs, e, q, l⟩ := seq_at g a h
  refine ⟨p, xs, e, ?_, l⟩
  cases z : isTup s with
  | true => rw [z, if_pos rfl] at q; exact .inr q
  | false => rw [z, if_neg Bool.false_ne_true] at q; exact .inl q
theorem atI_sl {xs : List V} {i : Int} {x : Sl} (l : SlL K G xs ss) (h : atI ss i = some x) : ∃ v, atI xs i = some v ∧ SlAt K G v x := by
  unfold atI at h ⊢
  rw [l.len]
  cases e : ixN ss.length i with
  | none => rw [e] at h; cases h
  | some j =>
    rw [e] at h
    obtain ⟨v, h1, h2⟩ := l.get (i := j) h
    exact ⟨v, h1, h2⟩
def cutG {α : Type} (xs : List α) (lo hi : Option Int) : List α := (xs.drop (HT.sIx xs.length 0 lo)).take (HT.sIx xs.length xs.length hi - HT.sIx xs.length 0 lo)
theorem cut_sl {xs : List V} (l : SlL K G xs ss) (lo hi : Option Int) : SlL K G (cutV xs lo hi) (cutG ss lo hi) := by
  unfold cutV cutG
  rw [l.len]
  exact (l.drop _).take _
end
section
variable {X : Cx} {L : Lk} {τ : List (Option Sl)} {M : Cs} {Q : Sl → Cs → Prop} {QB : Bool → Cs → Prop} {QA : List Sl → Cs → Prop} {e a b c : Expr} {es : List Expr} {pos : Pos} {E : Ks} {st : Stmt} {sts : List Stmt} {p p2 : Pos} {x y : Sl}
/-- what operations ask -/
theorem k_int {K : PySem.W.Frag} {f : Int → Int → Int} {i j : Int} (q : Q (.d (.int (f i j))) M) : R2k K L (rI0 fun i j => .int (f i j)) (.d (.int i)) (.d (.int j)) M Q := fun G H v u Q' g a1 a2 k => ⟨i, j, sl_int a1, sl_int a2, k.go q g (.d (.int _))⟩
theorem k_intC {K : PySem.W.Frag} {C : Int → Int → Prop} {f : Int → Int → Int} {i j : Int} (hc : C i j) (q : Q (.d (.int (f i j))) M) : R2k K L (rI C fun i j => .int (f i j)) (.d (.int i)) (.d (.int j)) M Q := fun G H v u Q' g a1 a2 k => ⟨i, j, sl_int a1, sl_int a2, hc, k.go q g (.d (.int _))⟩
theorem k_bool {K : PySem.W.Frag} {f : Int → Int → Bool} {i j : Int} (q : Q (.d (.bool (f i j))) M) : R2k K L (rI0 fun i j => .bl (f i j)) (.d (.int i)) (.d (.int j)) M Q := fun G H v u Q' g a1 a2 k => ⟨i, j, sl_int a1, sl_int a2, k.go q g (.d (.bl _))⟩
theorem de_add (w : DE X L a τ M fun x M1 => DE X L b τ M1 fun y M2 => ∃ i j, x = .d (.int i) ∧ y = .d (.int j) ∧ Q (.d (.int (i + j))) M2) : DE X L (.BinOp a .Add b pos) τ M Q :=
  de_op op_add (de_imp w fun x M1 q0 => de_imp q0 fun y M2 ⟨i, j, e1, e2, q1⟩ => by subst e1 e2; exact k_int q1)
theorem de_sub (w : DE X L a τ M fun x M1 => DE X L b τ M1 fun y M2 => ∃ i j, x = .d (.int i) ∧ y = .d (.int j) ∧ Q (.d (.int (i - j))) M2) : DE X L (.BinOp a .Sub b pos) τ M Q :=
  de_op op_sub (de_imp w fun x M1 q0 => de_imp q0 fun y M2 ⟨i, j, e1, e2, q1⟩ => by subst e1 e2; exact k_int q1)
theorem de_mul (w : DE X L a τ M fun x M1 => DE X L b τ M1 fun y M2 => ∃ i j, x = .d (.int i) ∧ y = .d (.int j) ∧ CMul i j ∧ Q (.d (.int (i * j))) M2) : DE X L (.BinOp a .Mult b pos) τ M Q :=
  de_op op_mul (de_imp w fun x M1 q0 => de_imp q0 fun y M2 ⟨i, j, e1, e2, c, q1⟩ => by subst e1 e2; exact k_intC c q1)
theorem de_mod (w : DE X L a τ M fun x M1 => DE X L b τ M1 fun y M2 => ∃ i j, x = .d (.int i) ∧ y = .d (.int j) ∧ 0 < j ∧ Q (.d (.int (i % j))) M2) : DE X L (.BinOp a .Mod b pos) τ M Q :=
  de_op op_mod (de_imp w fun x M1 q0 => de_imp q0 fun y M2 ⟨i, j, e1, e2, c, q1⟩ => by subst e1 e2; exact k_intC c q1)
theorem de_div (w : DE X L a τ M fun x M1 => DE X L b τ M1 fun y M2 => ∃ i j, x = .d (.int i) ∧ y = .d (.int j) ∧ CDivW i j ∧ Q (.d (.int (i / j))) M2) : DE X L (.BinOp a .FloorDiv b pos) τ M Q :=
  de_op op_fdivW (de_imp w fun x M1 q0 => de_imp q0 fun y M2 ⟨i, j, e1, e2, c, q1⟩ => by subst e1 e2; exact k_intC c q1)
def CPowW (i j : Int) : Prop := 0 ≤ j ∧ (Builtin.Int.intBits i : Int) * j ≤ 2 ^ 27
theorem op_powW : OpR X (binaryOp .Pow) (rI CPowW fun i j => .int (i ^ j.toNat)) := opI fun _ _ _ _ _ _ _ hc q => PyProof.Rows.pow_int hc.1 hc.2 q
theorem de_pow (w : DE X L a τ M fun x M1 => DE X L b τ M1 fun y M2 => ∃ i j, x = .d (.int i) ∧ y = .d (.int j) ∧ CPowW i j ∧ Q (.d (.int (i ^ j.toNat))) M2) : DE X L (.BinOp a .Pow b pos) τ M Q :=
  de_op op_powW (de_imp w fun x M1 q0 => de_imp q0 fun y M2 ⟨i, j, e1, e2, c, q1⟩ => by subst e1 e2; exact k_intC c q1)
/-- lists joined -/
def lstOf (M : Cs) : Sl → Option (List Sl)
  | .d (.list ds) => some (ds.map .d)
  | .c a => match M a with
    | some (.l ss) => some ss
    | _ => none
  | _ => none
theorem lst_at {K : PySem.W.Frag} {G H : Hp} {v : V} {s : Sl} {ss : List Sl} (g : GoodM K L M G H) (a : SlAt K G v s) (h : lstOf M s = some ss) : ∃ p xs, v = .ref p ∧ Rd H p (.lst xs) ∧ SlL K G xs ss := by
  cases a with
  | d a =>
    cases a with
    | lst e l =>
      cases h
      exact ⟨_, _, rfl, g.rd e, l.sl⟩
    | tup e l => cases h
    | non => cases h
    | bl => cases h
    | int => cases h
    | str => cases h
    | dic => cases h
  | c p =>
    cases e : M p with
    | none => simp only [lstOf, e] at h; cases h
    | some c =>
      cases c with
      | k kvs => simp only [lstOf, e] at h; cases h
      | l ts =>
        simp only [lstOf, e] at h
        cases h
        obtain ⟨_, xs, h1, h2⟩ := g.cell p _ e
        exact ⟨p, xs, rfl, .inl h1, h2⟩
  | t n => cases h
  | u e l => cases h
  | s e => cases h
def rCatR : R2 := fun x y H Q => ∃ l b xs zs, x = .ref l ∧ y = .ref b ∧ Rd H l (.lst xs) ∧ Rd H b (.lst zs) ∧ xs.length + zs.length ≤ sizeLine ∧ ∀ p, H p = none → Q (.ref p) (upd H p (.lst (xs ++ zs)))
theorem op_catR : OpR X (binaryOp .Add) rCatR := by
  intro pins s σ H x y v u Q I rx ry h
  obtain ⟨l, b, xs, zs, rfl, rfl, hH, hB, hz, q⟩ := h
  cases rx
  cases ry
  obtain ⟨z, its, n, r, e⟩ := hH.ok I.hok
  obtain ⟨z2, its2, n2, r2, e2⟩ := hB.ok I.hok
  refine PySem.P.add_list e e2 ?_ (by rw [List.size_toArray, List.size_toArray]; have := r.length; have := r2.length; omega)
  have ea : its.toArray ++ its2.toArray = (its ++ its2).toArray := by simp
  rw [ea]
  exact ⟨.ref _, _, I.lnew (t' := s.toks) (r.append r2) (by rw [List.length_append]; omega), rfl, q _ I.fresh⟩
theorem de_cat (w : DE X L a τ M fun x M1 => DE X L b τ M1 fun y M2 => ∃ ss ts, lstOf M2 x = some ss ∧ lstOf M2 y = some ts ∧ ss.length + ts.length ≤ sizeLine ∧ ∀ p, M2 p = none → Q (.c p) (updC M2 p (.l (ss ++ ts)))) : DE X L (.BinOp a .Add b pos) τ M Q :=
  de_op op_catR (de_imp w fun x M1 q => de_imp q fun y M2 ⟨ss, ts, e1, e2, hl, q⟩ => fun G H v u Q' g a1 a2 k => by
    obtain ⟨p1, xs, rfl, r1, l1⟩ := lst_at g a1 e1
    obtain ⟨p2, zs, rfl, r2, l2⟩ := lst_at g a2 e2
    exact ⟨p1, p2, xs, zs, rfl, rfl, r1, r2, by rw [l1.len, l2.len]; exact hl, fun p hp => k _ _ _ G _ (q p (g.free hp).2) (Ex.refl G) (g.newC hp ⟨_, upd_same, l1.append l2⟩) (.c p)⟩)
/-- subscripts -/
theorem de_ix (w : DE X L a τ M fun x M1 => DE X L b τ M1 fun y M2 => ∃ ss i z, seqOf M2 x = some ss ∧ y = .d (.int i) ∧ atI ss i = some z ∧ Q z M2) (hs : PlainIx b := by exact fun _ _ => rfl) : DE X L (.Subscript a b pos) τ M Q :=
  de_of (pe_ix ix_seq pe_s pe_s hs) (we_op (de_imp w fun x M1 q => de_imp q fun y M2 ⟨ss, i, z, e1, e2, ha, q⟩ => fun G H v u Q' g a1 a2 k => by
    subst e2
    obtain ⟨p, xs, rfl, r, l⟩ := seq_at' g a1 e1
    obtain ⟨w', hw, sw⟩ := atI_sl l ha
    rcases r with r | r
    · exact .inl ⟨p, xs, i, w', rfl, sl_int a2, r, hw, k.go q g sw⟩
    · exact .inr (.inl ⟨p, xs, i, w', rfl, sl_int a2, r, hw, k.go q g sw⟩)))
/-- slices of lists -/
def sO (o : Option Expr) (X : Cx) (L : Lk) (τ : List (Option Sl)) (M : Cs) (Q : Option Int → Cs → Prop) : Prop := match o with
  | none => Q none M
  | some e => DE X L e τ M fun s M1 => ∃ i, s = .d (.int i) ∧ Q (some i) M1
theorem de_sl {lo hi : Option Expr} (w : DE X L a τ M fun x M1 => sO lo X L τ M1 fun l M2 => sO hi X L τ M2 fun h M3 => ∃ ss, isTup x = false ∧ seqOf M3 x = some ss ∧ ∀ p, M3 p = none → Q (.c p) (updC M3 p (.l (cutG ss l h)))) :
    DE X L (.Subscript a (.Slice lo hi none p2) pos) τ M Q := by
  have fin : ∀ {x : Sl} {l h : Option Int} {M3 : Cs} {v : V} {G H : Hp} {Q' : VK}, GoodM X.K L M3 G H → SlAt X.K G v x → Ret X.K L G Q Q' → (∃ ss, isTup x = false ∧ seqOf M3 x = some ss ∧ ∀ p, M3 p = none → Q (.c p) (updC M3 p (.l (cutG ss l h)))) → rSlL X.K v l h H Q' := by
    intro x l h M3 v G H Q' g a1 k ⟨ss, hT, hs, q⟩
    obtain ⟨p, xs, rfl, r, ll⟩ := seq_at g a1 hs
    rw [hT, if_neg Bool.false_ne_true] at r
    exact ⟨p, xs, rfl, r, fun c hc => k _ _ _ G _ (q c (g.free hc).2) (Ex.refl G) (g.newC hc ⟨_, upd_same, cut_sl ll l h⟩) (.c c)⟩
  cases lo with
  | none =>
    cases hi with
    | none =>
      exact de_of (pe_slice sl_list pe_s po_none po_none) fun σ G H Q' gs gm k => w σ G H _ gs gm fun x M1 v G1 H1 q e1 g1 a1 => fin g1 a1 (k.mono e1) q
    | some b =>
      exact de_of (pe_slice sl_list pe_s po_none (po_some pe_s)) fun σ G H Q' gs gm k => w σ G H _ gs gm fun x M1 v G1 H1 q e1 g1 a1 => q σ G1 H1 _ (gs.mono e1) g1 fun y M2 u G2 H2 ⟨i, ei, q2⟩ e2 g2 a2 => by
        subst ei
        exact ⟨i, sl_int a2, fin g2 (a1.mono e2) (k.mono (e1.trans e2)) q2⟩
  | some b =>
    cases hi with
    | none =>
      exact de_of (pe_slice sl_list pe_s (po_some pe_s) po_none) fun σ G H Q' gs gm k => w σ G H _ gs gm fun x M1 v G1 H1 q e1 g1 a1 => q σ G1 H1 _ (gs.mono e1) g1 fun y M2 u G2 H2 ⟨i, ei, q2⟩ e2 g2 a2 => by
        subst ei
        exact ⟨i, sl_int a2, fin g2 (a1.mono e2) (k.mono (e1.trans e2)) q2⟩
    | some c =>
      exact de_of (pe_slice sl_list pe_s (po_some pe_s) (po_some pe_s)) fun σ G H Q' gs gm k => w σ G H _ gs gm fun x M1 v G1 H1 q e1 g1 a1 => q σ G1 H1 _ (gs.mono e1) g1 fun y M2 u G2 H2 ⟨i, ei, q2⟩ e2 g2 a2 => by
        subst ei
        exact ⟨i, sl_int a2, q2 σ G2 H2 _ (gs.mono (e1.trans e2)) g2 fun z M3 t G3 H3 ⟨j, ej, q3⟩ e3 g3 a3 => by
          subst ej
          exact ⟨j, sl_int a3, fin g3 ((a1.mono e2).mono e3) (k.mono ((e1.trans e2).trans e3)) q3⟩⟩
/-! ### calls of built-ins -/
theorem de_callB {id : String} {r : List V → Hp → VK → Prop} {x : Str} (hc : CallR X (.builtin id) r) (hg : Gl X x) (hm : X.mg x = none) (hv : bootBuiltins x = some (.builtin id)) (w : DA X L (e :: es) τ M fun ss M1 => RCk X.K L r ss M1 Q) (hn : x ≠ "__name__" := by decide) (hdb : (x == ("__debug__" : Str)) = false := by decide)
    (he : starEach (e :: es) X.env = (false, eval e X.env) :: starEach es X.env := by rfl) (hpl : (backTo pos (starEach es X.env)).any (·.1) = false := by rfl) : DE X L (.Call (.Name x p) (e :: es) [] pos) τ M Q :=
  de_of (pe_callB hc hg hm hv pa_s hn hdb he hpl) fun σ G H Q' gs gm k => w σ G H _ gs gm fun ss M1 vs G1 H1 q e1 g1 a1 => q G1 H1 vs Q' g1 a1 (k.mono e1)
theorem de_callT {T : String} {r : List V → Hp → VK → Prop} {x : Str} (hc : CallR X (.type T) r) (hg : Gl X x) (hm : X.mg x = none) (hv : bootBuiltins x = some (.type T)) (w : DA X L (e :: es) τ M fun ss M1 => RCk X.K L r ss M1 Q) (hn : x ≠ "__name__" := by decide) (hdb : (x == ("__debug__" : Str)) = false := by decide)
    (he : starEach (e :: es) X.env = (false, eval e X.env) :: starEach es X.env := by rfl) (hpl : (backTo pos (starEach es X.env)).any (·.1) = false := by rfl) : DE X L (.Call (.Name x p) (e :: es) [] pos) τ M Q :=
  de_of (pe_callTy hc hg hm hv pa_s hn hdb he hpl) fun σ G H Q' gs gm k => w σ G H _ gs gm fun ss M1 vs G1 H1 q e1 g1 a1 => q G1 H1 vs Q' g1 a1 (k.mono e1)
theorem sl1 {K : PySem.W.Frag} {G : Hp} {vs : List V} {s : Sl} (a : SlL K G vs [s]) : ∃ v, vs = [v] ∧ SlAt K G v s := by
  cases a with | cons a b => cases b; exact ⟨_, rfl, a⟩
theorem sl2 {K : PySem.W.Frag} {G : Hp} {vs : List V} {s t : Sl} (a : SlL K G vs [s, t]) : ∃ v u, vs = [v, u] ∧ SlAt K G v s ∧ SlAt K G u t := by
  cases a with | cons a b => cases b with | cons b c => cases c; exact ⟨_, _, rfl, a, b⟩
theorem k_len {s : Sl} {ss : List Sl} (h : seqOf M s = some ss) (q : Q (.d (.int ss.length)) M) : RCk X.K L (fun xs H Q => ∃ p ys, xs = [.ref p] ∧ (SqL X.K H p ys ∨ SqT X.K H p ys) ∧ Q (.int ys.length) H) [s] M Q := fun G H vs Q' g a k => by
  obtain ⟨v, rfl, a1⟩ := sl1 a
  obtain ⟨p, xs, rfl, r, l⟩ := seq_at' g a1 h
  exact ⟨p, xs, rfl, r, by rw [l.len]; exact k.go q g (.d (.int _))⟩
theorem k_lenS {x : Str} (hz : x.length ≤ sizeLine) (q : Q (.d (.int x.length)) M) : RCk X.K L (fun xs H Q => ∃ z : Str, xs = [.str z] ∧ z.length ≤ sizeLine ∧ Q (.int z.length) H) [.d (.str x)] M Q := fun G H vs Q' g a k => by
  obtain ⟨v, rfl, a1⟩ := sl1 a
  rw [sl_str a1]
  exact ⟨x, rfl, hz, k.go q g (.d (.int _))⟩
theorem k_min2 {i j : Int} (q : Q (.d (.int (if j < i then j else i))) M) : RCk X.K L (fun xs H Q => ∃ i j, xs = [.int i, .int j] ∧ Q (.int (if j < i then j else i)) H) [.d (.int i), .d (.int j)] M Q := fun G H vs Q' g a k => by
  obtain ⟨v, u, rfl, a1, b1⟩ := sl2 a
  rw [sl_int a1, sl_int b1]
  exact ⟨i, j, rfl, k.go q g (.d (.int _))⟩
/-! ### calls of one's own defs -/
abbrev Rr := Lk → List Sl → Cs → (Sl → Cs → Prop) → Prop
def Spk (K : PySem.W.Frag) (R : Rr) : Sp := fun vs H Q _ => ∃ L M G ss Q0, GoodM K L M G H ∧ SlL K G vs ss ∧ R L ss M Q0 ∧ Ret K L G Q0 Q
theorem de_call {R : Rr} {k : Nat} {f : Addr} {fd : FuncData} {ps : List Str} {x : Str} (F : FnOk X.prog X.w X.K X.mg X.base CX0 k f fd ps (Spk X.K R)) (hr : Room k X.A) (hg : Gl X x) (hm : X.mg x = some (.ref f)) (hk : PySem.W.keepIn X.K (.ref f) = true) (hb : Binds X.K fd ps [])
    (w : DA X L (e :: es) τ M fun ss M1 => R L ss M1 Q) (hdb : (x == ("__debug__" : Str)) = false := by decide) (he : starEach (e :: es) X.env = (false, eval e X.env) :: starEach es X.env := by rfl) (hpl : (backTo pos (starEach es X.env)).any (·.1) = false := by rfl) : DE X L (.Call (.Name x p) (e :: es) [] pos) τ M Q :=
  de_of (pe_call F hr hg hm hk hb .nil pass0 pa_s hdb he hpl) fun σ G H Q' gs gm k => w σ G H _ gs gm fun ss M1 vs G1 H1 q e1 g1 a1 => ⟨L, M1, G1, ss, Q, g1, by rw [List.append_nil]; exact a1, q, k.mono e1⟩
def startK (N : List Str) (ss : List Sl) : List (Option Sl) := ss.map some ++ List.replicate (N.length - ss.length) none
theorem good_start {K : PySem.W.Frag} {G : Hp} {N : List Str} {vs : List V} {ss : List Sl} (a : SlL K G vs ss) : GoodS K G (L2.start N vs) (startK N ss) := by
  refine ⟨by unfold L2.start startK; simp [a.len], fun i s h => ?_⟩
  unfold startK at h
  by_cases hi : i < ss.length
  · rw [List.getElem?_append_left (by simpa using hi), List.getElem?_map] at h
    cases e : ss[i]? with
    | none => rw [e] at h; cases h
    | some t =>
      rw [e] at h
      have h' : some t = some s := Option.some.inj h
      cases h'
      obtain ⟨v, h1, h2⟩ := a.get e
      refine ⟨v, ?_, h2⟩
      unfold L2.start
      rw [List.getElem?_append_left (by rw [List.length_map, a.len]; exact hi), List.getElem?_map, h1]
      rfl
  · rw [List.getElem?_append_right (by simpa using hi), List.getElem?_replicate] at h
    split at h <;> cases h
section
variable {P : Program} {w : World} {K : PySem.W.Frag} {mg : Str → Option Value} {base : Heap}
theorem fn_k {R : Rr} {x qual : Str} {st : Stmt} {f : Addr} {fd : FuncData} {N ps : List Str} {k : Nat} (F : Fun K x qual st f fd) (S : FnScope N ps (defScope st)) (hl : ∀ L ss M Q, R L ss M Q → ss.length = ps.length)
    (hb : ∀ (cdv : Value) (A : Around) (outer : List Env) (s : Shared) (H : Hp) (E : XK) (L : Lk) (ss : List Sl) (M : Cs) (Q : Sl → Cs → Prop), Room k (A.deeper (envOfC qual (defScope st) s.heap.objs.size f cdv)) → R L ss M Q →
      DB ((cxOf CX0 P w K mg base N qual (defScope st) f cdv A outer s H E).nox) L (defBody st) (startK N ss) M { nx := fun _ M' => Q (.d .none) M', rt := Q }) : FnOk P w K mg base CX0 (k + 1) f fd ps (Spk K R) := by
  refine F.ok S (fun vs H Q E h => ?_) (fun cdv A outer s H vs Q E hr h => ?_)
  · obtain ⟨L, M, G, ss, Q0, g, a, r, _⟩ := h
    rw [a.len]
    exact hl L ss M Q0 r
  · obtain ⟨L, M, G, ss, Q0, g, a, r, q⟩ := h
    refine ⟨_, pss_s, ?_⟩
    refine hb cdv A outer s H E L ss M Q0 hr r _ G H _ (good_start a) g ⟨fun τ' M' σ' G' H' h e g' _ => q _ M' _ G' H' h e g' (.d .non), q, fun _ _ _ _ _ h => h.elim, fun _ _ _ _ _ h => h.elim⟩
end
/-! ### statements -/
theorem db_nil (h : E.nx τ M) : DB X L [] τ M E := db_of pss_nil fun σ G H D gs gm k => k.nx.go h gm gs
theorem db_cons (w : DS X L st τ M { E with nx := fun τ' M' => DB X L sts τ' M' E }) : DB X L (st :: sts) τ M E :=
  db_of (pss_cons ps_s pss_s) fun σ G H D gs gm k => w σ G H _ gs gm ⟨fun τ' M' σ' G' H' q e g s => q σ' G' H' D s g (k.mono e), k.rt, k.bk, k.ct⟩
theorem ds_ret (w : DE X L e τ M E.rt) : DS X L (.Return (some e) pos) τ M E := ds_of (ps_ret pe_s) fun σ G H D gs gm k => w σ G H _ gs gm k.rt
theorem ds_expr (w : DE X L e τ M fun _ M1 => E.nx τ M1) (hs : swapsWith e none pos.line X.env = pure false := by rfl) : DS X L (.Expr e pos) τ M E :=
  ds_of (ps_expr pe_s hs) fun σ G H D gs gm k => w σ G H _ gs gm fun s M1 v G1 H1 q e1 g1 a1 => k.nx τ M1 σ G1 H1 q e1 g1 (gs.mono e1)
theorem ds_if (w : DT X L c τ M fun d M1 => (d = true → DB X L sts τ M1 E) ∧ (d = false → DB X L st2 τ M1 E)) : DS X L (.If c sts st2 pos) τ M E :=
  ds_of (ps_if pt_s pss_s pss_s) fun σ G H D gs gm k => w σ G H _ gs gm fun d M1 G1 H1 q e1 g1 => by
    cases d with
    | true => rw [if_pos rfl]; exact q.1 rfl σ G1 H1 D (gs.mono e1) g1 (k.mono e1)
    | false => rw [if_neg Bool.false_ne_true]; exact q.2 rfl σ G1 H1 D (gs.mono e1) g1 (k.mono e1)
theorem ds_brk (h : E.bk τ M) : DS X L (.Break pos) τ M E := ds_of ps_break fun σ G H D gs gm k => k.bk.go h gm gs
theorem ds_cont (h : E.ct τ M) : DS X L (.Continue pos) τ M E := ds_of ps_continue fun σ G H D gs gm k => k.ct.go h gm gs
theorem ds_pass (h : E.nx τ M) : DS X L (.Pass pos) τ M E := ds_of ps_pass fun σ G H D gs gm k => k.nx.go h gm gs
/-! targets -/
variable {QG : List (Option Sl) → Cs → Prop} {s : Sl} {i : Nat} {nm : Str}
theorem dg_of {g : TG} {t : Expr} (h : PG X t g) (w : WG X.K L g s τ M QG) : DG X L t s τ M QG := fun σ G H v Q' gs gm a k => g_of h (w σ G H v Q' gs gm a k)
theorem wg_name (q : QG (τ.set i (some s)) M) : WG X.K L (gName i) s τ M QG := fun σ G H v Q' gs gm a k => k _ M _ G H q (Ex.refl G) gm (gs.set a i)
theorem dg_name (hN : X.N.Nodup) (hi : X.N[i]? = some nm) (hx : Loc X.env.scope nm) (q : QG (τ.set i (some s)) M) (hf : X.fn nm = true ∨ X.env.scope.names.lookup nm = some .local := by first | exact .inl rfl | exact .inr rfl | assumption) : DG X L (.Name nm pos) s τ M QG :=
  dg_of (pg_name hN hi hx hf) (wg_name q)
theorem ds_asg {tg : Expr} (w : DE X L e τ M fun s M1 => DG X L tg s τ M1 E.nx) (hs : swapsWithSole [tg] e pos.line X.env = pure false := by rfl) (hw : swappedStores [tg] e X.env = pure none := by rfl)
    (h1 : (assignEach [tg] X.env).map (·.2) = [assign tg X.env] := by rfl) : DS X L (.Assign [tg] e pos) τ M E :=
  ds_of (ps_asg pe_s pg_s hs hw h1) fun σ G H D gs gm k => w σ G H _ gs gm fun s M1 v G1 H1 q e1 g1 a1 => q σ G1 H1 v _ (gs.mono e1) g1 a1 (k.nx.mono e1)
theorem ds_set (hN : X.N.Nodup) (hi : X.N[i]? = some nm) (hx : Loc X.env.scope nm) (w : DE X L e τ M fun s M1 => E.nx (τ.set i (some s)) M1) (hs : swapsWith e (some (.Name nm p)) pos.line X.env = pure false := by rfl) (hf : X.fn nm = true ∨ X.env.scope.names.lookup nm = some .local := by first | exact .inl rfl | exact .inr rfl | assumption) : DS X L (.Assign [.Name nm p] e pos) τ M E :=
  ds_of (ps_set hN hi hx pe_s hs hf) fun σ G H D gs gm k => w σ G H _ gs gm fun s M1 v G1 H1 q e1 g1 a1 => (k.nx.mono e1).go q g1 ((gs.mono e1).set a1 i)
/-- a, b, .. = a tuple -/
theorem wgs_nil (q : QG τ M) : WGs X.K L gNil [] τ M QG := fun σ G H vs Q' gs gm a k => by
  cases a
  exact ⟨rfl, k.go q gm gs⟩
theorem wgs_cons {t : TG} {u : TGs} {ss : List Sl} (w : WG X.K L t s τ M fun τ1 M1 => WGs X.K L u ss τ1 M1 QG) : WGs X.K L (gCons t u) (s :: ss) τ M QG := fun σ G H vs Q' gs gm a k => by
  cases a with
  | cons a b => exact ⟨_, _, rfl, w σ G H _ _ gs gm a fun τ1 M1 σ1 G1 H1 q e1 g1 s1 => q σ1 G1 H1 _ Q' s1 g1 (b.mono e1) (k.mono e1)⟩
theorem wg_tup {n : Nat} {t : TGs} {ss : List Sl} (hT : isTup s = true) (h : seqOf M s = some ss) (hn : ss.length = n) (w : WGs X.K L t ss τ M QG) : WG X.K L (gTup X.K n t) s τ M QG := fun σ G H v Q' gs gm a k => by
  obtain ⟨p, xs, rfl, r, l⟩ := seq_at gm a h
  rw [hT, if_pos rfl] at r
  exact ⟨p, xs, rfl, r, by rw [l.len]; exact hn, w σ G H xs Q' gs gm l k⟩
/-- a, b = e1, e2 -/
theorem ds_par {j : Nat} {x y : Str} {px py pt : Pos} {kt k2 pt2} (hc : X.calm = true) (hN : X.N.Nodup) (hi : X.N[i]? = some x) (hj : X.N[j]? = some y) (hij : i ≠ j)
    (hx : X.env.scope.names.lookup x = some .local) (hy : X.env.scope.names.lookup y = some .local) (w : DA X L [a, b] τ M fun ss M1 => ∃ s t, ss = [s, t] ∧ E.nx ((τ.set i (some s)).set j (some t)) M1)
    (hw : swappedStores [.Tuple [.Name x px, .Name y py] kt pt] (.Tuple [a, b] k2 pt2) X.env = pure (some [x, y]) := by rfl)
    (hs : swapsWithSole [.Tuple [.Name x px, .Name y py] kt pt] (.Tuple [a, b] k2 pt2) pos.line X.env = pure false := by rfl) : DS X L (.Assign [.Tuple [.Name x px, .Name y py] kt pt] (.Tuple [a, b] k2 pt2) pos) τ M E :=
  ds_of (ps_par hc hN hi hj hij hx hy pa_s hw hs) fun σ G H D gs gm k => w σ G H _ gs gm fun ss M1 vs G1 H1 ⟨s, t, e, q⟩ e1 g1 a1 => by
    subst e
    obtain ⟨v, u, rfl, h1, h2⟩ := sl2 a1
    exact ⟨v, u, rfl, (k.nx.mono e1).go q g1 (((gs.mono e1).set h1 i).set h2 j)⟩
/-- x op= e -/
theorem ds_aug {op : Operator} {ti : TIp} (hN : X.N.Nodup) (hi : X.N[i]? = some nm) (hx : Loc X.env.scope nm) (ho : PIp X op ti) (ht : τ[i]? = some (some s)) (w : DE X L e τ M fun y M1 => R2k X.K L ti s y M1 fun z M2 => E.nx (τ.set i (some z)) M2)
    (hf : X.fn nm = true ∨ X.env.scope.names.lookup nm = some .local := by first | exact .inl rfl | exact .inr rfl | assumption) : DS X L (.AugAssign (.Name nm p) op e pos) τ M E :=
  ds_of (ps_aug hN hi hx pe_s ho hf) fun σ G H D gs gm k => by
    obtain ⟨v, h1, h2⟩ := gs.get i s ht
    exact ⟨v, h1, w σ G H _ gs gm fun y M1 u G1 H1 q e1 g1 a1 => q G1 H1 v u _ g1 (h2.mono e1) a1 fun z M2 t G2 H2 q2 e2 g2 a2 => (k.nx.mono (e1.trans e2)).go q2 g2 ((gs.mono (e1.trans e2)).set a2 i)⟩
end
end Y

namespace Y
open PySem L2 PyProof.Rows PySem.TypeEq

theorem slot_type_ne : Slot "type" (cmpInfo .NotEq).2.1 "object.__ne__" :=
  .of (owner := "object") (n := "__ne__") (by rw [typeLookup_type, builtinLookup_eq_fast]; kernel_rfl) (by decide +kernel) (by decide +kernel) (by decide +kernel)
    (by first | exact .inl (by decide +kernel) | exact .inr (by decide +kernel)) (by rw [isSubtype_type]; kernel_rfl)
theorem slot_type_ne_refl : Slot "type" (cmpInfo .NotEq).2.2 "object.__ne__" :=
  .of (owner := "object") (n := "__ne__") (by rw [typeLookup_type, builtinLookup_eq_fast]; kernel_rfl) (by decide +kernel) (by decide +kernel) (by decide +kernel)
    (by first | exact .inl (by decide +kernel) | exact .inr (by decide +kernel)) (by rw [isSubtype_type]; kernel_rfl)
theorem slot_type_eqN : Slot "type" "__eq__" "object.__eq__" := slot_type_eq
theorem object_ne_same {X : String} (hX : ∀ s' : Shared, s'.TypeIs (.type X) "type") : Gives (Builtin.«object.__ne__» ⟨[.type X, .type X], []⟩) (.val (.bool false)) := fun prog w A R s h => by
  unfold Builtin.«object.__ne__»
  repeat (first | with_reducible refine wpAny_cRoomFor_or (.inl rfl) ?_ | (refine wpAny_bind (m := callSpecialIfBound? (.type X) (Str.ofString "__eq__") [.type X]) (wpAny_callSpecialIfBound?_slot (hX _) slot_type_eqN (call_gives slot_type_eqN (hX _) F.entry_object_eq (F.args_object_eq_2 _ _) (object_eq_same rfl (by simp)) ?_))) | wp_step)
  show wpAny _ _ _ _ _ _
  refine wpAny_bind (wpAny_truthy_bool ?_)
  exact wpAny_pure h
theorem object_ne_other {X Y : String} (hX : ∀ s' : Shared, s'.TypeIs (.type X) "type") (hne : (Value.type X == Value.type Y) = false) : Gives (Builtin.«object.__ne__» ⟨[.type X, .type Y], []⟩) (.val .notImplemented) := fun prog w A R s h => by
  unfold Builtin.«object.__ne__»
  repeat (first | with_reducible refine wpAny_cRoomFor_or (.inl rfl) ?_ | (refine wpAny_bind (m := callSpecialIfBound? (.type X) (Str.ofString "__eq__") [.type Y]) (wpAny_callSpecialIfBound?_slot (hX _) slot_type_eqN (call_gives slot_type_eqN (hX _) F.entry_object_eq (F.args_object_eq_2 _ _) (object_eq_other rfl hne) ?_))) | wp_step)
  show wpAny _ _ _ _ _ _
  exact wpAny_pure h
section
variable {M : Model} {prog : Program} {w : World} {A : Around} {E : Value → Shared → Prop} {s : Shared}
theorem rc_ne_same_decline {a b : Value} {T id : String} {k : Bool} {Q : Value → Shared → Prop} (ha : ∀ s' : Shared, s'.TypeIs a T) (hb : ∀ s' : Shared, s'.TypeIs b T)
    (h1 : Slot T (cmpInfo .NotEq).2.1 id) (h2 : Slot T (cmpInfo .NotEq).2.2 id) (hv : [a, b].any Value.onHeap = false) (hk : isSame a b = pure k)
    (hc : wpAny M A (call (.builtin id) [a, b]) (fun v s₁ => v = .notImplemented ∧ wpAny M A (call (.builtin id) [b, a]) (fun v s₂ => v = .notImplemented ∧ Q (.bool (!k)) s₂) E s₁) E s) :
    wpAny M A (richCompare .NotEq a b) Q E s := by
  rcases hi : cmpInfo CmpOp.NotEq with ⟨sym, f, r⟩
  rw [hi] at h1 h2
  simp only [richCompare, hi, (ha s).oneThing_none]
  try with_reducible refine wpAny_holding ?_
  refine wpAny_bind (wpAny_cRoomFor_or (.inl hv) ?_)
  refine wpAny_bind (wpAny_typeOf (ha s) (wpAny_bind (wpAny_typeOf (hb s) ?_)))
  simp only [bne_self_eq_false, Bool.false_eq_true, if_false, pure_bind, Bool.not_false, if_true]
  refine wpAny_bind (m := tryCompare a _ b) (wpAny_tryCompare_declines (ha s) h1 (wpAny_mono hc (fun v s₁ h₁ => ⟨h₁.1, ?_⟩) fun _ _ x => x))
  refine wpAny_bind (m := tryCompare b _ a) (wpAny_tryCompare_declines (hb s₁) h2 (wpAny_mono h₁.2 (fun v s₂ h₂ => ⟨h₂.1, ?_⟩) fun _ _ x => x))
  refine wpAny_bind (wpAny_rule (wpAny_bind (wpAny_of_eq hk (wpAny_pure h₂.2))))
theorem ne_type_same {X : String} {Q : Value → Shared → Prop} (hX : ∀ s' : Shared, s'.TypeIs (.type X) "type") (h : Q (.bool false) s) : wpAny (model prog w) A (compareOp .NotEq (.type X) (.type X)) Q E s := by
  show wpAny _ A (richCompare .NotEq _ _) Q E s
  exact wpAny_richCompare_same (T := "type") (hX s) (hX s) slot_type_ne (call_gives slot_type_ne (hX s) F.cmpEntry_ne (F.cmpArgs_ne _ _) (object_ne_same hX) ⟨(by intro e; cases e), h⟩)
theorem ne_type_other {X Y : String} {Q : Value → Shared → Prop} (hX : ∀ s' : Shared, s'.TypeIs (.type X) "type") (hY : ∀ s' : Shared, s'.TypeIs (.type Y) "type") (hne : (Value.type X == Value.type Y) = false) (h : Q (.bool true) s) : wpAny (model prog w) A (compareOp .NotEq (.type X) (.type Y)) Q E s := by
  have hne' : (Value.type Y == Value.type X) = false := by
    rw [Bool.eq_false_iff] at hne ⊢
    intro e
    exact hne (by rw [beq_iff_eq] at e ⊢; exact e.symm)
  show wpAny _ A (richCompare .NotEq _ _) Q E s
  exact rc_ne_same_decline (T := "type") (k := false) hX hY slot_type_ne slot_type_ne_refl rfl (by rw [isSame_plain rfl, hne])
    (call_gives slot_type_ne (hX s) F.cmpEntry_ne (F.cmpArgs_ne _ _) (object_ne_other hX hne) ⟨rfl, call_gives slot_type_ne_refl (hY s) F.cmpEntry_ne (F.cmpArgs_ne _ _) (object_ne_other hY hne') ⟨rfl, h⟩⟩)
end
/-- the classes that the programs name -/
def okTy (n : String) : Prop := ∀ s' : Shared, s'.TypeIs (.type n) "type"
section
variable {X : Cx} {L : Lk} {M : Cs} {Q : Sl → Cs → Prop}
def rNeTy : R2 := fun x y H Q => ∃ a b, x = .ty a ∧ y = .ty b ∧ okTy a ∧ okTy b ∧ Q (.bl (!decide (a = b))) H
def rEqTy : R2 := fun x y H Q => ∃ a b, x = .ty a ∧ y = .ty b ∧ okTy a ∧ okTy b ∧ Q (.bl (decide (a = b))) H
theorem ty_ne {a b : String} (h : a ≠ b) : (Value.type a == Value.type b) = false := beq_eq_false_iff_ne.mpr fun z => h (Value.type.inj z)
theorem op_neTy : OpR X (compareOp .NotEq) rNeTy := by
  intro pins s σ H x y v u Q I rx ry h
  obtain ⟨a, b, rfl, rfl, ha, hb, q⟩ := h
  cases (show v = Value.type a from rx)
  cases (show u = Value.type b from ry)
  by_cases e : a = b
  · subst e
    exact ne_type_same ha (fin_bl I q (by simp))
  · exact ne_type_other ha hb (ty_ne e) (fin_bl I q (by simp [e]))
theorem op_eqTy : OpR X (compareOp .Eq) rEqTy := by
  intro pins s σ H x y v u Q I rx ry h
  obtain ⟨a, b, rfl, rfl, ha, hb, q⟩ := h
  cases (show v = Value.type a from rx)
  cases (show u = Value.type b from ry)
  by_cases e : a = b
  · subst e
    exact eq_type_same ha (fin_bl I q (by simp))
  · exact eq_type_other ha hb (ty_ne e) (fin_bl I q (by simp [e]))
theorem eqAt_ty {A : Around} {s : Shared} {a b : String} (ha : okTy a) (hb : okTy b) : SeqAt.EqAt A s (.type a) (.type b) (decide (a = b)) := fun prog w E Q h => by
  unfold eqBool
  refine wpAny_holding ?_
  by_cases e : a = b
  · subst e
    refine wpAny_ite_split (fun _ => ?_) (fun z => absurd (beq_self_eq_true (Value.type a)) z)
    rw [decide_eq_true rfl] at h
    exact wpAny_bind (wpAny_rule (wpAny_pure h))
  · refine wpAny_ite_split (fun z => absurd z (by rw [ty_ne e]; exact Bool.false_ne_true)) (fun _ => ?_)
    rw [decide_eq_false e] at h
    exact wpAny_bind (eq_type_other ha hb (ty_ne e) (wpAny_truthy_bool h))
/-- a class in, not in a tuple of classes -/
def rInTy (neg : Bool) : R2 := fun x y H Q => ∃ (a : String) (p : Addr) (ts : List String), x = .ty a ∧ y = .ref p ∧ Rd H p (.tup (ts.map V.ty)) ∧ okTy a ∧ (∀ t ∈ ts, okTy t) ∧ Q (.bl (if neg then !(ts.any fun t => decide (t = a)) else ts.any fun t => decide (t = a))) H
theorem tys_eq : ∀ {ts : List String} {us : List Value}, Vals (ts.map V.ty) us → us = ts.map Value.type
  | [], _, h => by cases h; rfl
  | t :: r, _, h => by
    cases h with
    | cons a b =>
      have e := tys_eq (ts := r) b
      rw [e]
      cases (show _ = Value.type t from a)
      rfl
def tyIs (a : String) (v : Value) : Bool := match v with
  | .type t => decide (t = a)
  | _ => false
theorem tys_any (a : String) : ∀ ts : List String, (ts.map Value.type).any (tyIs a) = ts.any fun t => decide (t = a)
  | [] => rfl
  | t :: r => by
    rw [List.map_cons, List.any_cons, List.any_cons, tys_any a r]
    rfl
theorem op_niTy : OpR X (compareOp .NotIn) (rInTy true) := by
  intro pins s σ H x y v u Q I rx ry h
  obtain ⟨a, p, ts, rfl, rfl, hq, ha, ht, q⟩ := h
  cases (show v = Value.type a from rx)
  cases ry
  obtain ⟨its, r, pl, hz⟩ := I.tuple (.inl hq)
  have e := tys_eq r
  subst e
  refine SeqAt.notIn_tupleAt (tyIs a) pl (fun w hw => ?_) ⟨.bl _, H, I, rfl, ?_⟩
  · have hw : w ∈ ts.map Value.type := by simpa using hw
    obtain ⟨t, h1, rfl⟩ := List.mem_map.mp hw
    exact eqAt_ty (ht t h1) ha
  · rw [show (ts.map Value.type).toArray.any (tyIs a) = (ts.map Value.type).any (tyIs a) by simp, tys_any]
    exact q
end
end Y

namespace Y
open PySem L2 PyProof.Rows

/-! ### what is walked -/
def sI (X : Cx) (tg iter : Expr) : TI := fun σ H R => ∀ pins s, Inv X pins σ H s → wpAny (model X.prog X.w) X.A (eval iter X.env) (fun v s1 => wpAny (model X.prog X.w) X.A (pyIter v) (PIE X pins σ tg R) X.xe s1) X.xe s
theorem pi_s {X : Cx} {tg iter : Expr} : PI X tg iter (sI X tg iter) := ⟨fun pins s _ _ _ I h => h pins s I⟩
theorem i_of {X : Cx} {tg iter : Expr} {wi : TI} {σ : L2.St} {H : Hp} {R : It → Hp → Prop} (h : PI X tg iter wi) (q : wi σ H R) : sI X tg iter σ H R := fun pins s I => h.run pins s σ H R I q
structure ItOk (K : PySem.W.Frag) (L : Lk) (G1 : Hp) (J : It) (n : Nat) (S : Cs → Prop) (ys : Nat → Sl → Prop) : Prop where
  stop : ∀ M' G' H, S M' → Ex G1 G' → GoodM K L M' G' H → J.stop n H
  go : ∀ i M' G' H, i < n → S M' → Ex G1 G' → GoodM K L M' G' H → J.go i H ∧ ∀ x H', J.yld i H x H' → ∃ y G'', ys i y ∧ Ex G' G'' ∧ GoodM K L M' G'' H' ∧ SlAt K G'' x y
abbrev QI := Nat → (Cs → Prop) → (Nat → Sl → Prop) → Cs → Prop
def DI (X : Cx) (L : Lk) (tg iter : Expr) (τ : List (Option Sl)) (M : Cs) (Q : QI) : Prop := ∀ σ G H R, GoodS X.K G σ τ → GoodM X.K L M G H → (∀ n S ys M1 G1 H1 J, Q n S ys M1 → Ex G G1 → GoodM X.K L M1 G1 H1 → ItOk X.K L G1 J n S ys → R J H1) → sI X tg iter σ H R
def iSeq (K : PySem.W.Frag) (tl : TE) : TI := fun σ H R => tl σ H fun x H1 => ∃ a, x = .ref a ∧ (((∃ xs, SqL K H1 a xs) ∧ R (Itl K a) H1) ∨ ((∃ xs, SqT K H1 a xs) ∧ R (Itt K a) H1))
section
variable {X : Cx} {L : Lk} {τ : List (Option Sl)} {M : Cs} {Q : Sl → Cs → Prop} {QB : Bool → Cs → Prop} {QA : List Sl → Cs → Prop} {e a b c tg iter : Expr} {es : List Expr} {pos : Pos} {E : Ks} {st : Stmt} {sts body : List Stmt} {p p2 : Pos} {x y : Sl} {QJ : QI}
theorem pi_seq {l : Expr} {tl : TE} (hl : PE X l tl) : PI X tg l (iSeq X.K tl) := by
  refine ⟨fun pins s σ H R I h => ?_⟩
  refine thn (hl.run pins s σ H _ I h) fun v s1 ⟨x, H1, I1, r1, q1⟩ => ?_
  obtain ⟨a, e, q⟩ := q1
  subst e
  cases r1
  have fp : ∀ {o : Obj}, ∀ b ∈ [s1.heap.objs.size], FpOk X pins H1 b := fun {o} b hb => by
    have e : b = s1.heap.objs.size := by simpa using hb
    subst e
    exact I1.fpOk (Nat.le_refl _) (I1.hok.fresh (Nat.le_refl _))
  rcases q with ⟨⟨xs, hq⟩, q⟩ | ⟨⟨xs, hq⟩, q⟩
  · obtain ⟨its, rv, p, hz⟩ := I1.list hq
    refine wpAny_pyIter_list p.isList ?_
    exact ⟨s1.heap.objs.size, [s1.heap.objs.size], _, _, H1, rfl, I1.kept (t' := s1.toks) fun b o e => Heap.get?_push_of_some _ e, turn_list a _, ⟨_, Heap.get?_push_size _ rfl, rfl, rfl⟩, fp (o := default), q⟩
  · obtain ⟨its, rv, p, hz⟩ := I1.tuple hq
    refine wpAny_pyIter_tuple (show s1.heap.IsTuple a its.toArray from p) ?_
    exact ⟨s1.heap.objs.size, [s1.heap.objs.size], _, _, H1, rfl, I1.kept (t' := s1.toks) fun b o e => Heap.get?_push_of_some _ e, turn_tuple a _, ⟨_, Heap.get?_push_size _ rfl, rfl, rfl⟩, fp (o := default), q⟩
theorem di_seq (w : DE X L iter τ M fun s M1 => ∃ ss, seqOf M1 s = some ss ∧ QJ ss.length (fun M' => seqOf M' s = some ss) (fun i y => ss[i]? = some y) M1) : DI X L tg iter τ M QJ := fun σ G H R gs gm k => by
    refine i_of (pi_seq pe_s) ?_
    show sE X iter σ H (fun x H1 => ∃ a, x = .ref a ∧ (((∃ xs, SqL X.K H1 a xs) ∧ R (Itl X.K a) H1) ∨ ((∃ xs, SqT X.K H1 a xs) ∧ R (Itt X.K a) H1)))
    refine w σ G H _ gs gm ?_
    rintro s M1 v G1 H1 ⟨ss, hs, q⟩ e1 g1 a1
    obtain ⟨p, xs, rfl, r, l⟩ := seq_at g1 a1 hs
    refine ⟨p, rfl, ?_⟩
    cases hT : isTup s with
    | false =>
      rw [hT, if_neg Bool.false_ne_true] at r
      refine .inl ⟨⟨xs, r⟩, k _ _ _ M1 G1 H1 _ q e1 g1 ⟨fun M' G' H' sM e' g' => ?_, fun i M' G' H' hi sM e' g' => ?_⟩⟩
      · obtain ⟨p', xs', ep, r', l'⟩ := seq_at g' (a1.mono e') sM
        cases ep
        rw [hT, if_neg Bool.false_ne_true] at r'
        exact ⟨xs', r', Nat.le_of_eq l'.len⟩
      · obtain ⟨p', xs', ep, r', l'⟩ := seq_at g' (a1.mono e') sM
        cases ep
        rw [hT, if_neg Bool.false_ne_true] at r'
        obtain ⟨v, hv, av⟩ := l'.get (List.getElem?_eq_getElem hi)
        refine ⟨⟨xs', v, r', hv⟩, fun x H2 hy => ?_⟩
        obtain ⟨rfl, f⟩ := hy
        have ex := Option.some.inj ((f _ r').symm.trans hv)
        subst ex
        exact ⟨_, G', List.getElem?_eq_getElem hi, Ex.refl _, g', av⟩
    | true =>
      rw [hT, if_pos rfl] at r
      refine .inr ⟨⟨xs, r⟩, k _ _ _ M1 G1 H1 _ q e1 g1 ⟨fun M' G' H' sM e' g' => ?_, fun i M' G' H' hi sM e' g' => ?_⟩⟩
      · obtain ⟨p', xs', ep, r', l'⟩ := seq_at g' (a1.mono e') sM
        cases ep
        rw [hT, if_pos rfl] at r'
        exact ⟨xs', r', Nat.le_of_eq l'.len⟩
      · obtain ⟨p', xs', ep, r', l'⟩ := seq_at g' (a1.mono e') sM
        cases ep
        rw [hT, if_pos rfl] at r'
        obtain ⟨v, hv, av⟩ := l'.get (List.getElem?_eq_getElem hi)
        refine ⟨⟨xs', v, r', hv⟩, fun x H2 hy => ?_⟩
        obtain ⟨rfl, f⟩ := hy
        have ex := Option.some.inj ((f _ r').symm.trans hv)
        subst ex
        exact ⟨_, G', List.getElem?_eq_getElem hi, Ex.refl _, g', av⟩
theorem itr_ok {K : PySem.W.Frag} {L : Lk} {G1 : Hp} {lo : Int} {n : Nat} : ItOk K L G1 (Itr lo n) n (fun _ => True) (fun i y => y = dI (lo + i)) :=
  ⟨fun M' G' H _ _ _ => Nat.le_refl _, fun i M' G' H hi _ _ g' => ⟨hi, fun x H' ⟨e1, e2⟩ => by
    subst e1 e2
    exact ⟨_, G', rfl, Ex.refl _, g', .d (.int _)⟩⟩⟩
theorem di_range1 (hg : Gl X "range") (hm : X.mg "range" = none) (w : DE X L a τ M fun s M1 => ∃ j : Int, s = dI j ∧ -(2 ^ 62) ≤ j ∧ j < 2 ^ 62 ∧ QJ j.toNat (fun _ => True) (fun i y => y = dI i) M1)
    (hs : starEach [a] X.env = [(false, eval a X.env)] := by rfl) (hs0 : starEach (a :: []) X.env = (false, eval a X.env) :: starEach [] X.env := by rfl) : DI X L tg (.Call (.Name "range" p) [a] [] pos) τ M QJ := fun σ G H R gs gm k => by
    refine i_of (pi_range1 hg hm (pa_cons pe_s pa_nil hs0) hs) ?_
    show sE X a σ H (fun x H1 => ∃ j : Int, [x] = [V.int j] ∧ -(2 ^ 62) ≤ j ∧ j < 2 ^ 62 ∧ R (Itr 0 j.toNat) H1)
    refine w σ G H _ gs gm ?_
    rintro s M1 v G1 H1 ⟨j, es, h1, h2, q⟩ e1 g1 a1
    subst es
    refine ⟨j, by rw [sl_int a1], h1, h2, k _ _ _ M1 G1 H1 _ q e1 g1 ?_⟩
    have z := itr_ok (K := X.K) (L := L) (G1 := G1) (lo := 0) (n := j.toNat)
    simpa using z
theorem di_range2 (hg : Gl X "range") (hm : X.mg "range" = none) (w : DE X L a τ M fun s M1 => DE X L b τ M1 fun t M2 => ∃ i j : Int, s = dI i ∧ t = dI j ∧ (-(2 ^ 62) ≤ i ∧ i < 2 ^ 62 ∧ -(2 ^ 62) ≤ j ∧ j < 2 ^ 62) ∧ QJ (j - i).toNat (fun _ => True) (fun n y => y = dI (i + n)) M2)
    (hs : starEach [a, b] X.env = [(false, eval a X.env), (false, eval b X.env)] := by rfl) (hs2 : starEach [b] X.env = [(false, eval b X.env)] := by rfl) (hs0 : starEach (a :: [b]) X.env = (false, eval a X.env) :: starEach [b] X.env := by rfl) (hs1 : starEach (b :: []) X.env = (false, eval b X.env) :: starEach [] X.env := by rfl) :
    DI X L tg (.Call (.Name "range" p) [a, b] [] pos) τ M QJ := fun σ G H R gs gm k => by
    refine i_of (pi_range2 hg hm (pa_cons pe_s (pa_cons pe_s pa_nil hs1) hs0) hs hs2) ?_
    show sE X a σ H (fun x H1 => sE X b σ H1 fun y H2 => ∃ i j : Int, [x, y] = [V.int i, V.int j] ∧ (-(2 ^ 62) ≤ i ∧ i < 2 ^ 62 ∧ -(2 ^ 62) ≤ j ∧ j < 2 ^ 62) ∧ R (Itr i (j - i).toNat) H2)
    refine w σ G H _ gs gm fun s M1 v G1 H1 q e1 g1 a1 => q σ G1 H1 _ (gs.mono e1) g1 ?_
    rintro t M2 u G2 H2 ⟨i, j, es, et, hb, q1⟩ e2 g2 a2
    subst es et
    exact ⟨i, j, by rw [sl_int a1, sl_int a2], hb, k _ _ _ M2 G2 H2 _ q1 (e1.trans e2) g2 itr_ok⟩
/-! ### for, while -/
theorem ds_for (hp : PassesOwn (model X.prog X.w) X.A X.env X.xe) (hc : X.calm = true) (w : DI X L tg iter τ M fun n S ys M1 => ∃ Iv : Nat → List (Option Sl) → Cs → Prop, Iv 0 τ M1 ∧ (∀ i τ' M', Iv i τ' M' → S M') ∧
      (∀ i y τ' M', i < n → ys i y → Iv i τ' M' → DG X L tg y τ' M' fun τ2 M2 => DB X L body τ2 M2 { E with nx := Iv (i + 1), ct := Iv (i + 1), bk := E.nx }) ∧ (∀ τ' M', Iv n τ' M' → E.nx τ' M'))
    (hs : ∀ x, foldedSetIterable iter X.env x = pure x := by intro _; rfl) : DS X L (.For tg iter body [] pos) τ M E :=
  ds_of (ps_for hp hc pi_s pg_s pss_s hs) fun σ G H D gs gm k => w σ G H _ gs gm fun n S ys M1 G1 H1 J ⟨Iv, i0, st, turn, fin⟩ e1 g1 ok => by
    refine ⟨fun i m σ' H' => m = n - i ∧ i ≤ n ∧ ∃ τ' M' G', Iv i τ' M' ∧ Ex G1 G' ∧ GoodS X.K G' σ' τ' ∧ GoodM X.K L M' G' H', ⟨n, by simp, Nat.zero_le _, τ, M1, G1, i0, Ex.refl _, gs.mono e1, g1⟩, ?_⟩
    rintro i m σ' H' ⟨rfl, hi, τ', M', G', iv, e', s', g'⟩
    by_cases hlt : i < n
    · obtain ⟨go, yl⟩ := ok.go i M' G' H' hlt (st _ _ _ iv) e' g'
      refine .inr ⟨go, fun σ2 H2 => ∃ τ2 M2 G2, Iv (i + 1) τ2 M2 ∧ Ex G1 G2 ∧ GoodS X.K G2 σ2 τ2 ∧ GoodM X.K L M2 G2 H2, fun σ2 H2 ⟨τ2, M2, G2, h⟩ => ⟨n - (i + 1), by omega, rfl, hlt, τ2, M2, G2, h⟩, fun x H2 hy => ?_⟩
      obtain ⟨y, G2, yy, e2, g2, ay⟩ := yl x H2 hy
      have e12 := e'.trans e2
      refine turn i y τ' M' hlt yy iv σ' G2 H2 x _ (s'.mono e2) g2 ay fun τ3 M3 σ3 G3 H3 q3 e3 g3 s3 => ?_
      have e13 := e12.trans e3
      exact q3 σ3 G3 H3 _ s3 g3 ⟨fun τ4 M4 σ4 G4 H4 q4 e4 g4 s4 => ⟨τ4, M4, G4, q4, e13.trans e4, s4, g4⟩, k.rt.mono (e1.trans e13), k.nx.mono (e1.trans e13), fun τ4 M4 σ4 G4 H4 q4 e4 g4 s4 => ⟨τ4, M4, G4, q4, e13.trans e4, s4, g4⟩⟩
    · have e : i = n := by omega
      subst e
      exact .inl ⟨ok.stop M' G' H' (st _ _ _ iv) e' g', k.nx τ' M' σ' G' H' (fin _ _ iv) (e1.trans e') g' s'⟩
theorem ds_while (hp : PassesOwn (model X.prog X.w) X.A X.env X.xe) (Iv : Nat → List (Option Sl) → Cs → Prop) (n : Nat) (i0 : Iv n τ M)
    (turn : ∀ m τ' M', Iv m τ' M' → DT X L c τ' M' fun d M1 => (d = true → DB X L body τ' M1 { E with nx := fun τ2 M2 => ∃ m', m' < m ∧ Iv m' τ2 M2, ct := fun τ2 M2 => ∃ m', m' < m ∧ Iv m' τ2 M2, bk := E.nx }) ∧ (d = false → E.nx τ' M1)) : DS X L (.While c body [] pos) τ M E :=
  ds_of (ps_while hp pt_s pss_s) fun σ G H D gs gm k => by
    refine ⟨fun m σ' H' => ∃ τ' M' G', Iv m τ' M' ∧ Ex G G' ∧ GoodS X.K G' σ' τ' ∧ GoodM X.K L M' G' H', ⟨n, τ, M, G, i0, Ex.refl _, gs, gm⟩, ?_⟩
    rintro m σ' H' ⟨τ', M', G', iv, e', s', g'⟩
    refine turn m τ' M' iv σ' G' H' _ s' g' fun d M1 G1 H1 q e1 g1 => ?_
    have e01 := e'.trans e1
    cases d with
    | true =>
      rw [if_pos rfl]
      refine ⟨fun σ2 H2 => ∃ m', m' < m ∧ ∃ τ2 M2 G2, Iv m' τ2 M2 ∧ Ex G G2 ∧ GoodS X.K G2 σ2 τ2 ∧ GoodM X.K L M2 G2 H2, fun σ2 H2 ⟨m', hm, h⟩ => ⟨m', hm, h⟩, ?_⟩
      exact q.1 rfl σ' G1 H1 _ (s'.mono e1) g1 ⟨fun τ4 M4 σ4 G4 H4 ⟨m', hm, q4⟩ e4 g4 s4 => ⟨m', hm, τ4, M4, G4, q4, e01.trans e4, s4, g4⟩, k.rt.mono e01, k.nx.mono e01, fun τ4 M4 σ4 G4 H4 ⟨m', hm, q4⟩ e4 g4 s4 => ⟨m', hm, τ4, M4, G4, q4, e01.trans e4, s4, g4⟩⟩
    | false =>
      rw [if_neg Bool.false_ne_true]
      exact k.nx τ' M1 σ' G1 H1 (q.2 rfl) e01 g1 (s'.mono e1)
end
/-! ### comprehensions -/
def wipeK (τ : List (Option Sl)) : List Nat → List (Option Sl)
  | [] => τ
  | v :: vs => (wipeK τ vs).set v none
theorem GoodS.drop {K : PySem.W.Frag} {G : Hp} {σ : L2.St} {τ : List (Option Sl)} (g : GoodS K G σ τ) (i : Nat) : GoodS K G (σ.set i none) (τ.set i none) := ⟨by rw [List.length_set, List.length_set, g.len], fun j t h => by
  by_cases e : i = j
  · subst e
    by_cases hl : i < τ.length
    · rw [List.getElem?_set_self hl] at h
      cases h
    · rw [List.getElem?_eq_none (by rw [List.length_set]; omega)] at h
      cases h
  · rw [List.getElem?_set_ne e] at h
    obtain ⟨w, h1, h2⟩ := g.get j t h
    exact ⟨w, by rw [List.getElem?_set_ne e]; exact h1, h2⟩⟩
theorem GoodS.wipe {K : PySem.W.Frag} {G : Hp} {σ : L2.St} {τ : List (Option Sl)} (g : GoodS K G σ τ) : ∀ vs : List Nat, GoodS K G (L2.wipe σ vs) (wipeK τ vs)
  | [] => g
  | v :: vs => (GoodS.wipe g vs).drop v
theorem wipe_get {σ : L2.St} {i : Nat} : ∀ {vs : List Nat}, (L2.wipe σ vs)[i]? = if i ∈ vs then (σ[i]?.map fun _ => none) else σ[i]?
  | [] => by simp [L2.wipe]
  | v :: vs => by
    unfold L2.wipe
    rw [List.getElem?_set, wipe_get (vs := vs), wipe_length]
    by_cases hv : v = i
    · subst hv
      by_cases hl : v < σ.length
      · simp [hl]
      · simp [hl]
    · have hv' : ¬ i = v := fun z => hv z.symm
      simp [hv, hv']
theorem wipe_set {σ : L2.St} {i : Nat} {o : Option V} {vs : List Nat} (h : i ∈ vs) : L2.wipe (σ.set i o) vs = L2.wipe σ vs := by
  apply List.ext_getElem?
  intro j
  rw [wipe_get, wipe_get]
  by_cases hj : j ∈ vs
  · rw [if_pos hj, if_pos hj, List.getElem?_set]
    by_cases e : i = j
    · subst e
      by_cases hl : i < σ.length <;> simp [hl]
    · simp [e]
  · rw [if_neg hj, if_neg hj, List.getElem?_set_ne (fun e : i = j => hj (by rw [← e]; exact h))]
theorem wipe_wipe {σ : L2.St} {vs : List Nat} : L2.wipe (L2.wipe σ vs) vs = L2.wipe σ vs := by
  apply List.ext_getElem?
  intro j
  rw [wipe_get, wipe_get]
  by_cases hj : j ∈ vs
  · rw [if_pos hj, if_pos hj]
    cases σ[j]? <;> rfl
  · rw [if_neg hj, if_neg hj]
section
variable (K : PySem.W.Frag) (L : Lk) (vs : List Nat)
def WGw (g : TG) (s : Sl) (τ : List (Option Sl)) (M : Cs) (Q : List (Option Sl) → Cs → Prop) : Prop := ∀ σ G H v Q', GoodS K G σ τ → GoodM K L M G H → SlAt K G v s → (∀ τ' M' σ' G' H', Q τ' M' → Ex G G' → GoodM K L M' G' H' → GoodS K G' σ' τ' → L2.wipe σ' vs = L2.wipe σ vs → Q' σ' H') → g v σ H Q'
def WGws (g : TGs) (ss : List Sl) (τ : List (Option Sl)) (M : Cs) (Q : List (Option Sl) → Cs → Prop) : Prop := ∀ σ G H v Q', GoodS K G σ τ → GoodM K L M G H → SlL K G v ss → (∀ τ' M' σ' G' H', Q τ' M' → Ex G G' → GoodM K L M' G' H' → GoodS K G' σ' τ' → L2.wipe σ' vs = L2.wipe σ vs → Q' σ' H') → g v σ H Q'
end
section
variable {K : PySem.W.Frag} {L : Lk} {vs : List Nat} {τ : List (Option Sl)} {M : Cs} {QG : List (Option Sl) → Cs → Prop} {s : Sl} {ss : List Sl} {i : Nat}
theorem wgw_name (hi : i ∈ vs) (q : QG (τ.set i (some s)) M) : WGw K L vs (gName i) s τ M QG := fun σ G H v Q' gs gm a k => k _ M _ G H q (Ex.refl G) gm (gs.set a i) (wipe_set hi)
theorem wgws_nil (q : QG τ M) : WGws K L vs gNil [] τ M QG := fun σ G H v Q' gs gm a k => by
  cases a
  exact ⟨rfl, k τ M σ G H q (Ex.refl G) gm gs rfl⟩
theorem wgws_cons {t : TG} {u : TGs} (w : WGw K L vs t s τ M fun τ1 M1 => WGws K L vs u ss τ1 M1 QG) : WGws K L vs (gCons t u) (s :: ss) τ M QG := fun σ G H v Q' gs gm a k => by
  cases a with
  | cons a b => exact ⟨_, _, rfl, w σ G H _ _ gs gm a fun τ1 M1 σ1 G1 H1 q e1 g1 s1 z1 => q σ1 G1 H1 _ Q' s1 g1 (b.mono e1) fun τ2 M2 σ2 G2 H2 q2 e2 g2 s2 z2 => k τ2 M2 σ2 G2 H2 q2 (e1.trans e2) g2 s2 (z2.trans z1)⟩
theorem wgw_tup {n : Nat} {t : TGs} (hT : isTup s = true) (h : seqOf M s = some ss) (hn : ss.length = n) (w : WGws K L vs t ss τ M QG) : WGw K L vs (gTup K n t) s τ M QG := fun σ G H v Q' gs gm a k => by
  obtain ⟨p, xs, rfl, r, l⟩ := seq_at gm a h
  rw [hT, if_pos rfl] at r
  exact ⟨p, xs, rfl, r, by rw [l.len]; exact hn, w σ G H xs Q' gs gm l k⟩
end
section
variable (X : Cx) (scope : Scope)
/-- in every block of this scope -/
def bE (e : Expr) : TE := fun σ H Q => ∀ (s0 : Shared) (H0 : Hp) (C : Addr) (cl : List (Str × Addr)) (fp : List Addr), sE (X.blk s0 H0 scope (compEnvC scope cl C X.env) fp) e σ H Q
def bT (e : Expr) : TT := fun σ H Q => ∀ (s0 : Shared) (H0 : Hp) (C : Addr) (cl : List (Str × Addr)) (fp : List Addr), sT (X.blk s0 H0 scope (compEnvC scope cl C X.env) fp) e σ H Q
def DEb (L : Lk) (e : Expr) (τ : List (Option Sl)) (M : Cs) (Q : Sl → Cs → Prop) : Prop := ∀ (s0 : Shared) (H0 : Hp) (C : Addr) (cl : List (Str × Addr)) (fp : List Addr), DE (X.blk s0 H0 scope (compEnvC scope cl C X.env) fp) L e τ M Q
def DTb (L : Lk) (e : Expr) (τ : List (Option Sl)) (M : Cs) (Q : Bool → Cs → Prop) : Prop := ∀ (s0 : Shared) (H0 : Hp) (C : Addr) (cl : List (Str × Addr)) (fp : List Addr), DT (X.blk s0 H0 scope (compEnvC scope cl C X.env) fp) L e τ M Q
end
section
variable {X : Cx} {L : Lk} {τ : List (Option Sl)} {M : Cs} {Q : Sl → Cs → Prop} {elt kx vx tg iter c : Expr} {scope : Scope} {own : List (Str × Nat)} {pos : Pos} {g : TG}
theorem web {e : Expr} (h : DEb X scope L e τ M Q) : WE X.K L (bE X scope e) τ M Q := fun σ G H Q' gs gm k s0 H0 C cl fp => h s0 H0 C cl fp σ G H Q' gs gm k
theorem wtb {e : Expr} {QB : Bool → Cs → Prop} (h : DTb X scope L e τ M QB) : WT X.K L (bT X scope e) τ M QB := fun σ G H Q' gs gm k s0 H0 C cl fp => h s0 H0 C cl fp σ G H Q' gs gm k
theorem we_lc {tt : TT} {te : TE} {vs : List Nat} (w : DI X L tg iter τ M fun n S ys M1 => ∀ D, M1 D = none → ∃ Iv : Nat → Cs → Prop, Iv 0 (updC M1 D (.l [])) ∧ (∀ i M', Iv i M' → S M') ∧
      (∀ i y M', i < n → ys i y → Iv i M' → WGw X.K L vs g y (wipeK τ vs) M' fun τ2 M2 => WT X.K L tt τ2 M2 fun d M3 => (d = true → WE X.K L te τ2 M3 fun z M4 => ∃ acc, M4 D = some (.l acc) ∧ acc.length < sizeLine ∧ Iv (i + 1) (updC M4 D (.l (acc ++ [z])))) ∧ (d = false → Iv (i + 1) M3)) ∧ (∀ M', Iv n M' → Q (.c D) M')) :
    WE X.K L (tLc (sI X tg iter) g tt te vs) τ M Q := fun σ G H Q' gs gm k => w σ G H _ gs gm fun n S ys M1 G1 H1 J q e1 g1 ok D hD => by
  obtain ⟨Iv, i0, st, turn, fin⟩ := q D (g1.free hD).2
  refine ⟨fun i m H' => m = n - i ∧ i ≤ n ∧ ∃ M' G', Iv i M' ∧ Ex G1 G' ∧ GoodM X.K L M' G' H', ⟨n, by simp, Nat.zero_le _, _, G1, i0, Ex.refl _, g1.newC hD ⟨[], upd_same, .nil⟩⟩, ?_⟩
  rintro i m H' ⟨rfl, hi, M', G', iv, e', g'⟩
  by_cases hlt : i < n
  · obtain ⟨go, yl⟩ := ok.go i M' G' H' hlt (st _ _ iv) e' g'
    refine .inr ⟨go, fun H2 => ∃ M2 G2, Iv (i + 1) M2 ∧ Ex G1 G2 ∧ GoodM X.K L M2 G2 H2, fun H2 ⟨M2, G2, h⟩ => ⟨n - (i + 1), by omega, rfl, hlt, M2, G2, h⟩, fun x H2 hy => ?_⟩
    obtain ⟨y, G2, yy, e2, g2, ay⟩ := yl x H2 hy
    have e12 := e'.trans e2
    refine turn i y M' hlt yy iv _ G2 H2 x _ ((gs.mono (e1.trans e12)).wipe vs) g2 ay fun τ3 M3 σ3 G3 H3 q3 e3 g3 s3 z3 => ?_
    refine ⟨z3.trans wipe_wipe, ?_⟩
    have e13 := e12.trans e3
    refine q3 σ3 G3 H3 _ s3 g3 fun d M4 G4 H4 q4 e4 g4 => ?_
    cases d with
    | true =>
      rw [if_pos rfl]
      refine q4.1 rfl σ3 G4 H4 _ (s3.mono e4) g4 fun z M5 v G5 H5 ⟨acc, hacc, hl, iv5⟩ e5 g5 a5 => ?_
      obtain ⟨f5, xs, h1, h2⟩ := g5.cell D _ hacc
      refine ⟨xs, h1, by rw [h2.len]; exact hl, _, G5, iv5, (e13.trans e4).trans e5, ?_⟩
      exact g5.write hacc h1 (fun _ _ z => nomatch z) ⟨_, upd_same, h2.append (.cons a5 .nil)⟩
    | false =>
      rw [if_neg Bool.false_ne_true]
      exact ⟨M4, G4, q4.2 rfl, e13.trans e4, g4⟩
  · have e : i = n := by omega
    subst e
    exact .inl ⟨ok.stop M' G' H' (st _ _ iv) e' g', k _ M' _ G' H' (fin _ iv) (e1.trans e') g' (.c D)⟩
/-- [elt for tg in iter] -/
theorem de_lc0 (hc : X.calm = true) (hN : X.N.Nodup) (ok : BlkOk X.N X.env.scope scope own) (hg : ∀ (s : Shared) (H : Hp) (C : Addr) (cl : List (Str × Addr)) (fp : List Addr), PG (X.blk s H scope (compEnvC scope cl C X.env) fp) tg g)
    (w : DI X L tg iter τ M fun n S ys M1 => ∀ D, M1 D = none → ∃ Iv : Nat → Cs → Prop, Iv 0 (updC M1 D (.l [])) ∧ (∀ i M', Iv i M' → S M') ∧
      (∀ i y M', i < n → ys i y → Iv i M' → WGw X.K L (own.map (·.2)) g y (wipeK τ (own.map (·.2))) M' fun τ2 M3 => DEb X scope L elt τ2 M3 fun z M4 => ∃ acc, M4 D = some (.l acc) ∧ acc.length < sizeLine ∧ Iv (i + 1) (updC M4 D (.l (acc ++ [z])))) ∧ (∀ M', Iv n M' → Q (.c D) M'))
    (hs : ∀ x, foldedSetIterable iter X.env x = pure x := by intro _; rfl) : DE X L (.ListComp elt [⟨tg, iter, [], 0⟩] scope pos) τ M Q :=
  de_of (pe_lc (te := bE X scope elt) hc hN pi_s ok hg (fun _ _ _ _ _ => pts_nil) (fun s H C cl fp => ⟨fun pins s' σ H' Q' I h => h s H C cl fp pins s' I⟩) hs) (we_lc fun σ G H R gs gm k => w σ G H R gs gm fun n S ys M1 G1 H1 J q e1 g1 ok => k n S ys M1 G1 H1 J (fun D hD => by
    obtain ⟨Iv, i0, st, turn, fin⟩ := q D hD
    refine ⟨Iv, i0, st, fun i y M' hi yy iv => ?_, fin⟩
    intro σ G H v Q' gs gm a k
    refine turn i y M' hi yy iv σ G H v Q' gs gm a fun τ' M' σ' G' H' h => k τ' M' σ' G' H' ?_
    exact fun σ G H Q' gs gm k => k.go (b := true) ⟨fun _ => web h, fun z => nomatch z⟩ gm) e1 g1 ok)
/-- [elt for tg in iter if c] -/
theorem de_lc1 (hc : X.calm = true) (hN : X.N.Nodup) (ok : BlkOk X.N X.env.scope scope own) (hg : ∀ (s : Shared) (H : Hp) (C : Addr) (cl : List (Str × Addr)) (fp : List Addr), PG (X.blk s H scope (compEnvC scope cl C X.env) fp) tg g)
    (w : DI X L tg iter τ M fun n S ys M1 => ∀ D, M1 D = none → ∃ Iv : Nat → Cs → Prop, Iv 0 (updC M1 D (.l [])) ∧ (∀ i M', Iv i M' → S M') ∧
      (∀ i y M', i < n → ys i y → Iv i M' → WGw X.K L (own.map (·.2)) g y (wipeK τ (own.map (·.2))) M' fun τ2 M3 => DTb X scope L c τ2 M3 fun d M3 => (d = true → DEb X scope L elt τ2 M3 fun z M4 => ∃ acc, M4 D = some (.l acc) ∧ acc.length < sizeLine ∧ Iv (i + 1) (updC M4 D (.l (acc ++ [z])))) ∧ (d = false → Iv (i + 1) M3)) ∧ (∀ M', Iv n M' → Q (.c D) M'))
    (hs : ∀ x, foldedSetIterable iter X.env x = pure x := by intro _; rfl) : DE X L (.ListComp elt [⟨tg, iter, [c], 0⟩] scope pos) τ M Q :=
  de_of (pe_lc (te := bE X scope elt) (tt := bT X scope c) hc hN pi_s ok hg (fun s H C cl fp => pts_one ⟨fun pins s' σ H' Q' I h => h s H C cl fp pins s' I⟩) (fun s H C cl fp => ⟨fun pins s' σ H' Q' I h => h s H C cl fp pins s' I⟩) hs) (we_lc fun σ G H R gs gm k => w σ G H R gs gm fun n S ys M1 G1 H1 J q e1 g1 ok => k n S ys M1 G1 H1 J (fun D hD => by
    obtain ⟨Iv, i0, st, turn, fin⟩ := q D hD
    refine ⟨Iv, i0, st, fun i y M' hi yy iv => ?_, fin⟩
    intro σ G H v Q' gs gm a k
    refine turn i y M' hi yy iv σ G H v Q' gs gm a fun τ' M' σ' G' H' h => k τ' M' σ' G' H' ?_
    intro σ G H Q' gs gm k
    exact wtb h σ G H Q' gs gm fun d M5 G5 H5 q5 => k d M5 G5 H5 ⟨fun z => web (q5.1 z), q5.2⟩) e1 g1 ok)
end
end Y

namespace Y
open PySem L2 PyProof.Rows

/-! ### comparisons -/
def isNone : Sl → Bool
  | .d .none => true
  | _ => false
section
variable {K : PySem.W.Frag} {L : Lk} {M : Cs} {Q : Sl → Cs → Prop} {G H : Hp} {v : V} {s x : Sl}
theorem sl_isN (a : SlAt K G v s) : decide (v = .non) = isNone s := by
  cases a with
  | d a => cases a <;> rfl
  | c p => rfl
  | t n => rfl
  | u h l => rfl
  | s h => rfl
theorem k_isN (q : Q (.d (.bool (isNone x))) M) : R2k K L (fun x y H Q => y = .non ∧ Q (.bl (decide (x = .non))) H) x (.d .none) M Q := fun G H v u Q' g a1 a2 k => ⟨sl_non a2, by rw [sl_isN a1]; exact k.go q g (.d (.bl _))⟩
theorem k_notN (q : Q (.d (.bool (!isNone x))) M) : R2k K L (fun x y H Q => y = .non ∧ Q (.bl (!decide (x = .non))) H) x (.d .none) M Q := fun G H v u Q' g a1 a2 k => ⟨sl_non a2, by rw [sl_isN a1]; exact k.go q g (.d (.bl _))⟩
theorem k_eqI {i j : Int} (q : Q (.d (.bool (decide (i = j)))) M) : R2k K L rEq (.d (.int i)) (.d (.int j)) M Q := fun G H v u Q' g a1 a2 k => by
  rw [sl_int a1, sl_int a2]
  refine ⟨rfl, ?_⟩
  have e : decide (V.int i = V.int j) = decide (i = j) := by simp
  rw [e]
  exact k.go q g (.d (.bl _))
theorem k_neI {i j : Int} (q : Q (.d (.bool (!decide (i = j)))) M) : R2k K L rNe (.d (.int i)) (.d (.int j)) M Q := fun G H v u Q' g a1 a2 k => by
  rw [sl_int a1, sl_int a2]
  refine ⟨rfl, ?_⟩
  have e : decide (V.int i = V.int j) = decide (i = j) := by simp
  rw [e]
  exact k.go q g (.d (.bl _))
theorem k_eqS {i j : Str} (q : Q (.d (.bool (decide (i = j)))) M) : R2k K L rEq (.d (.str i)) (.d (.str j)) M Q := fun G H v u Q' g a1 a2 k => by
  rw [sl_str a1, sl_str a2]
  refine ⟨rfl, ?_⟩
  have e : decide (V.str i = V.str j) = decide (i = j) := by simp
  rw [e]
  exact k.go q g (.d (.bl _))
theorem k_neS {i j : Str} (q : Q (.d (.bool (!decide (i = j)))) M) : R2k K L rNe (.d (.str i)) (.d (.str j)) M Q := fun G H v u Q' g a1 a2 k => by
  rw [sl_str a1, sl_str a2]
  refine ⟨rfl, ?_⟩
  have e : decide (V.str i = V.str j) = decide (i = j) := by simp
  rw [e]
  exact k.go q g (.d (.bl _))
theorem k_eqB {i j : Bool} (q : Q (.d (.bool (decide (i = j)))) M) : R2k K L rEq (.d (.bool i)) (.d (.bool j)) M Q := fun G H v u Q' g a1 a2 k => by
  rw [sl_bl a1, sl_bl a2]
  refine ⟨rfl, ?_⟩
  have e : decide (V.bl i = V.bl j) = decide (i = j) := by simp
  rw [e]
  exact k.go q g (.d (.bl _))
theorem k_neB {i j : Bool} (q : Q (.d (.bool (!decide (i = j)))) M) : R2k K L rNe (.d (.bool i)) (.d (.bool j)) M Q := fun G H v u Q' g a1 a2 k => by
  rw [sl_bl a1, sl_bl a2]
  refine ⟨rfl, ?_⟩
  have e : decide (V.bl i = V.bl j) = decide (i = j) := by simp
  rw [e]
  exact k.go q g (.d (.bl _))
theorem k_isB {i j : Bool} (q : Q (.d (.bool (decide (i = j)))) M) : R2k K L rIsB (.d (.bool i)) (.d (.bool j)) M Q := fun G H v u Q' g a1 a2 k => ⟨i, j, sl_bl a1, sl_bl a2, k.go q g (.d (.bl _))⟩
theorem k_notB {i j : Bool} (q : Q (.d (.bool (!decide (i = j)))) M) : R2k K L rNotB (.d (.bool i)) (.d (.bool j)) M Q := fun G H v u Q' g a1 a2 k => ⟨i, j, sl_bl a1, sl_bl a2, k.go q g (.d (.bl _))⟩
theorem k_neTy {a b : String} (ha : okTy a) (hb : okTy b) (q : Q (.d (.bool (!decide (a = b)))) M) : R2k K L rNeTy (.t a) (.t b) M Q := fun G H v u Q' g a1 a2 k => ⟨a, b, sl_t a1, sl_t a2, ha, hb, k.go q g (.d (.bl _))⟩
theorem tys_sl {xs : List V} : ∀ {ts : List String}, SlL K G xs (ts.map Sl.t) → xs = ts.map V.ty := by
  intro ts
  induction ts generalizing xs with
  | nil => intro h; cases h; rfl
  | cons t r ih =>
    intro h
    cases h with
    | cons a b =>
      rw [ih b, sl_t a]
      rfl
theorem k_niTy {a : String} {ts : List String} (ha : okTy a) (ht : ∀ t ∈ ts, okTy t) (q : Q (.d (.bool (!(ts.any fun t => decide (t = a))))) M) : R2k K L (rInTy true) (.t a) (.u (ts.map .t)) M Q := fun G H v u Q' g a1 a2 k => by
  cases a2 with
  | u e l =>
    have z := tys_sl l
    subst z
    exact ⟨a, _, ts, sl_t a1, rfl, g.rd e, ha, ht, k.go q g (.d (.bl _))⟩
end
/-! ### data, whatever it lies in -/
mutual
inductive IsD (M : Cs) : Sl → PyData → Prop
  | d (x : PyData) : IsD M (.d x) x
  | c {a : Addr} {ss : List Sl} {ds : List PyData} : M a = some (.l ss) → IsDL M ss ds → IsD M (.c a) (.list ds)
  | u {ss : List Sl} {ds : List PyData} : IsDL M ss ds → IsD M (.u ss) (.tuple ds)
inductive IsDL (M : Cs) : List Sl → List PyData → Prop
  | nil : IsDL M [] []
  | cons {s : Sl} {d : PyData} {ss : List Sl} {ds : List PyData} : IsD M s d → IsDL M ss ds → IsDL M (s :: ss) (d :: ds)
end
theorem IsDL.ofD {M : Cs} : ∀ ds : List PyData, IsDL M (ds.map Sl.d) ds
  | [] => .nil
  | d :: r => .cons (.d d) (IsDL.ofD r)
theorem IsD.cell {M : Cs} {a : Addr} {ds : List PyData} (h : M a = some (.l (ds.map .d))) : IsD M (.c a) (.list ds) := .c h (IsDL.ofD ds)
section
variable {K : PySem.W.Frag} {L : Lk} {M : Cs} {G H : Hp}
mutual
theorem At.dp (g : GoodM K L M G H) : ∀ (d : PyData) (v : V), d.canLay0 = true → At K G v d → Dp K H v d
  | .none, _, _, .non => .non
  | .bool _, _, _, .bl b => .bl b
  | .int _, _, _, .int i => .int i
  | .str _, _, _, .str x => .str x
  | .list ds, _, z, .lst e l => .lst (.inl (g.rd e)) (AtL.dp g ds _ z l)
  | .tuple ds, _, z, .tup e l => .tup (.inl (g.rd e)) (AtL.dp g ds _ z l)
  | .dict _, _, z, _ => nomatch z
theorem AtL.dp (g : GoodM K L M G H) : ∀ (ds : List PyData) (vs : List V), PyData.canLayAll0 ds = true → AtL K G vs ds → DpAll K H vs ds
  | [], _, _, .nil => .nil
  | d :: r, _, z, .cons a b => .cons (At.dp g d _ (Bool.and_eq_true_iff.mp z).1 a) (AtL.dp g r _ (Bool.and_eq_true_iff.mp z).2 b)
end
mutual
theorem IsD.dp (g : GoodM K L M G H) : ∀ {s : Sl} {d : PyData} {v : V}, IsD M s d → d.canLay0 = true → SlAt K G v s → Dp K H v d
  | _, _, _, .d x, z, .d a => a.dp g _ _ z
  | _, _, _, .c (a := p) h l, z, b => by
    obtain ⟨_, xs, h1, h2⟩ := g.cell p _ h
    cases b
    exact .lst (SqL.of h1) (IsDL.dp g l z h2)
  | _, _, _, .u l, z, .u e b => .tup (.inl (g.rd e)) (IsDL.dp g l z b)
theorem IsDL.dp (g : GoodM K L M G H) : ∀ {ss : List Sl} {ds : List PyData} {vs : List V}, IsDL M ss ds → PyData.canLayAll0 ds = true → SlL K G vs ss → DpAll K H vs ds
  | _, _, _, .nil, _, .nil => .nil
  | _, _, _, .cons a b, z, .cons p q => .cons (IsD.dp g a (Bool.and_eq_true_iff.mp z).1 p) (IsDL.dp g b (Bool.and_eq_true_iff.mp z).2 q)
end
variable {Q : Sl → Cs → Prop} {x y : Sl} {d e : PyData}
theorem k_eqD (hx : IsD M x d) (hy : IsD M y e) (sx : SeqAt.shaped d = true) (sy : SeqAt.shaped e = true) (q : Q (.d (.bool (PyData.eqv d e))) M) : R2k K L (rEqD K) x y M Q := fun G H v u Q' g a1 a2 k =>
  ⟨d, e, hx.dp g (SeqAt.canLay_of_shaped sx) a1, hy.dp g (SeqAt.canLay_of_shaped sy) a2, sx, sy, k.go q g (.d (.bl _))⟩
theorem k_neD (hx : IsD M x d) (hy : IsD M y e) (sx : SeqAt.shaped d = true) (sy : SeqAt.shaped e = true) (q : Q (.d (.bool (!PyData.eqv d e))) M) : R2k K L (rNeD K) x y M Q := fun G H v u Q' g a1 a2 k =>
  ⟨d, e, hx.dp g (SeqAt.canLay_of_shaped sx) a1, hy.dp g (SeqAt.canLay_of_shaped sy) a2, sx, sy, k.go q g (.d (.bl _))⟩
end
/-! ### truth, classes -/
def truOf (M : Cs) : Sl → Option Bool
  | .d .none => some false
  | .d (.bool b) => some b
  | .d (.int i) => some (i != 0)
  | s => (seqOf M s).map fun ss => !ss.isEmpty
theorem empty_sl {K : PySem.W.Frag} {G : Hp} {xs : List V} {ss : List Sl} (l : SlL K G xs ss) : (!xs.isEmpty) = !ss.isEmpty := by
  cases l <;> rfl
theorem tru_at {K : PySem.W.Frag} {L : Lk} {M : Cs} {G H : Hp} {v : V} {s : Sl} {k : Bool} (g : GoodM K L M G H) (a : SlAt K G v s) (h : truOf M s = some k) : TruV K v H k := by
  have seq : ∀ {s : Sl}, SlAt K G v s → (seqOf M s).map (fun ss => !ss.isEmpty) = some k → TruV K v H k := by
    intro s a h
    cases e : seqOf M s with
    | none => rw [e] at h; cases h
    | some ss =>
      rw [e] at h
      have h' : (!ss.isEmpty) = k := Option.some.inj h
      obtain ⟨p, xs, rfl, r, l⟩ := seq_at' g a e
      rcases r with r | r
      · exact .inl ⟨xs, r, by rw [empty_sl l, h']⟩
      · exact .inr (.inl ⟨xs, r, by rw [empty_sl l, h']⟩)
  cases s with
  | d x =>
    cases x with
    | none => rw [sl_non a]; exact (Option.some.inj h).symm
    | bool b => rw [sl_bl a]; exact (Option.some.inj h).symm
    | int i => rw [sl_int a]; exact (Option.some.inj h).symm
    | str z => exact seq a h
    | list ds => exact seq a h
    | tuple ds => exact seq a h
    | dict ds => exact seq a h
  | c p => exact seq a h
  | t n => exact seq a h
  | u ss => exact seq a h
  | s ns => exact seq a h
def tyName (M : Cs) : Sl → Option String
  | .d .none => some "NoneType"
  | .d (.bool _) => some "bool"
  | .d (.int _) => some "int"
  | .d (.str _) => some "str"
  | .d (.list _) => some "list"
  | .d (.tuple _) => some "tuple"
  | .d (.dict _) => some "dict"
  | .u _ => some "tuple"
  | .c a => match M a with
    | some (.l _) => some "list"
    | some (.k _) => some "dict"
    | none => none
  | _ => none
theorem ty_at {K : PySem.W.Frag} {L : Lk} {M : Cs} {G H : Hp} {v : V} {s : Sl} {n : String} (g : GoodM K L M G H) (a : SlAt K G v s) (h : tyName M s = some n) : TyX K H v (.type n) := by
  cases a with
  | d a =>
    cases a with
    | non => cases h; exact .base .non
    | bl b => cases h; exact .base (.bl b)
    | int i => cases h; exact .base (.int i)
    | str x => cases h; exact .base (.str x)
    | lst e l =>
      cases h
      rcases g.rd e with z | ⟨o, z⟩
      · exact .base (.lst z)
      · exact .base (.frz z)
    | tup e l =>
      cases h
      rcases g.rd e with z | ⟨o, z⟩
      · exact .base (.tup z)
      · exact .fTuple z
    | dic e l =>
      cases h
      rcases g.rd e with z | ⟨o, z⟩
      · exact .base (.dK z)
      · exact .fDict z
  | c p =>
    simp only [tyName] at h
    cases e : M p with
    | none => rw [e] at h; cases h
    | some c =>
      rw [e] at h
      cases c with
      | l ss =>
        cases h
        obtain ⟨_, xs, h1, _⟩ := g.cell p _ e
        exact .base (.lst h1)
      | k ss =>
        cases h
        obtain ⟨_, xs, h1, _⟩ := g.cell p _ e
        exact .base (.dK h1)
  | t n => cases h
  | u e l =>
    cases h
    rcases g.rd e with z | ⟨o, z⟩
    · exact .base (.tup z)
    · exact .fTuple z
  | s e => cases h
/-- type(x): no dict -/
theorem tyB_at {K : PySem.W.Frag} {L : Lk} {M : Cs} {G H : Hp} {v : V} {s : Sl} {n : String} (g : GoodM K L M G H) (a : SlAt K G v s) (h : tyName M s = some n) (hd : ∀ kv, s ≠ .d (.dict kv)) : TyB K H v n := by
  cases a with
  | d a =>
    cases a with
    | non => cases h; exact .non
    | bl b => cases h; exact .bl b
    | int i => cases h; exact .int i
    | str x => cases h; exact .str x
    | lst e l => cases h; exact .lst (.inl (g.rd e))
    | tup e l => cases h; exact .tup (.inl (g.rd e))
    | dic e l => exact absurd rfl (hd _)
  | c p =>
    simp only [tyName] at h
    cases e : M p with
    | none => rw [e] at h; cases h
    | some c =>
      rw [e] at h
      cases c with
      | l ss =>
        cases h
        obtain ⟨_, xs, h1, _⟩ := g.cell p _ e
        exact .lst (SqL.of h1)
      | k ss =>
        cases h
        obtain ⟨_, xs, h1, _⟩ := g.cell p _ e
        exact .dK h1
  | t n => cases h
  | u e l => cases h; exact .tup (.inl (g.rd e))
  | s e => cases h
/-! ### dicts -/
theorem kD_inj {a b : Key} (h : kD a = kD b) : a = b := by
  cases a <;> cases b <;> simp [kD] at h <;> rw [h]
def encK (kd : List (Key × PyData)) : List (PyData × PyData) := kd.map fun p => (kD p.1, p.2)
def slK (kd : List (Key × PyData)) : List (Key × Sl) := kd.map fun p => (p.1, .d p.2)
inductive DictIs (M : Cs) : Sl → List (Key × Sl) → Prop
  | c {a : Addr} {kvs : List (Key × Sl)} : M a = some (.k kvs) → DictIs M (.c a) kvs
  | d (kd : List (Key × PyData)) : DictIs M (.d (.dict (encK kd))) (slK kd)
theorem AtK.kv {K : PySem.W.Frag} {G : Hp} : ∀ (kd : List (Key × PyData)) {xs : List (Key × V)}, AtK K G xs (encK kd) → KvAt K G xs (slK kd)
  | [], [], _ => trivial
  | (k, d) :: r, x :: xs, h => by
    generalize hh : encK ((k, d) :: r) = zs at h
    cases h with
    | cons a b =>
      rw [show encK ((k, d) :: r) = (kD k, d) :: encK r from rfl] at hh
      injection hh with h1 h2
      injection h1 with h3 h4
      subst h2 h4
      exact ⟨kD_inj h3.symm, .d a, AtK.kv r b⟩
theorem KvAt.at {K : PySem.W.Frag} {G : Hp} : ∀ (kd : List (Key × PyData)) {xs : List (Key × V)}, KvAt K G xs (slK kd) → AtK K G xs (encK kd)
  | [], [], _ => .nil
  | (k, d) :: r, (k', v) :: xs, ⟨e, a, b⟩ => by
    have e' : k' = k := e
    subst e'
    cases a with
    | d a => exact .cons a (KvAt.at r b)
def valS (kvs : List (Key × Sl)) (k : Key) : Option Sl := (kvs.find? fun kv => decide (kv.1 = k)).map (·.2)
def putS (kvs : List (Key × Sl)) (k : Key) (v : Sl) : List (Key × Sl) := if (kvs.any fun kv => decide (kv.1 = k)) = true then kvs.map (fun kv => if kv.1 = k then (kv.1, v) else kv) else kvs ++ [(k, v)]
section
variable {K : PySem.W.Frag} {G : Hp}
theorem KvAt.len : ∀ {xs : List (Key × V)} {ys : List (Key × Sl)}, KvAt K G xs ys → xs.length = ys.length
  | [], [], _ => rfl
  | _ :: _, _ :: _, ⟨_, _, h⟩ => by rw [List.length_cons, List.length_cons, KvAt.len h]
  | [], _ :: _, h => h.elim
  | _ :: _, [], h => h.elim
theorem KvAt.keys : ∀ {xs : List (Key × V)} {ys : List (Key × Sl)}, KvAt K G xs ys → xs.map (·.1) = ys.map (·.1)
  | [], [], _ => rfl
  | _ :: _, _ :: _, ⟨e, _, h⟩ => by rw [List.map_cons, List.map_cons, KvAt.keys h, e]
  | [], _ :: _, h => h.elim
  | _ :: _, [], h => h.elim
theorem KvAt.val (k : Key) : ∀ {xs : List (Key × V)} {ys : List (Key × Sl)}, KvAt K G xs ys → match valS ys k with
    | none => valV xs k = none
    | some s => ∃ v, valV xs k = some v ∧ SlAt K G v s
  | [], [], _ => rfl
  | x :: xs, y :: ys, ⟨e, a, h⟩ => by
    have ih := KvAt.val k h
    by_cases hk : y.1 = k
    · have e1 : valS (y :: ys) k = some y.2 := by simp [valS, List.find?_cons, hk]
      rw [e1]
      exact ⟨x.2, valV_pos (e.trans hk), a⟩
    · have e1 : valS (y :: ys) k = valS ys k := by simp [valS, List.find?_cons, hk]
      rw [e1, valV_neg (fun z => hk (e.symm.trans z))]
      exact ih
  | [], _ :: _, h => h.elim
  | _ :: _, [], h => h.elim
theorem KvAt.get : ∀ {xs : List (Key × V)} {ys : List (Key × Sl)} {i : Nat} {k : Key} {s : Sl}, KvAt K G xs ys → ys[i]? = some (k, s) → ∃ v, xs[i]? = some (k, v) ∧ SlAt K G v s
  | [], [], _, _, _, _, h => by simp at h
  | x :: xs, y :: ys, 0, k, s, ⟨e, a, h⟩, z => by
    have z' : y = (k, s) := by simpa using z
    subst z'
    obtain ⟨k', v⟩ := x
    have e' : k' = k := e
    subst e'
    exact ⟨v, rfl, a⟩
  | x :: xs, y :: ys, i + 1, k, s, ⟨e, a, h⟩, z => by
    obtain ⟨v, h1, h2⟩ := KvAt.get (i := i) h (by simpa using z)
    exact ⟨v, by simpa using h1, h2⟩
  | [], _ :: _, _, _, _, h, _ => h.elim
  | _ :: _, [], _, _, _, h, _ => h.elim
theorem KvAt.append {ps : List (Key × V)} {qs : List (Key × Sl)} (b : KvAt K G ps qs) : ∀ {xs : List (Key × V)} {ys : List (Key × Sl)}, KvAt K G xs ys → KvAt K G (xs ++ ps) (ys ++ qs)
  | [], [], _ => b
  | _ :: _, _ :: _, ⟨e, a, h⟩ => ⟨e, a, KvAt.append b h⟩
  | [], _ :: _, h => h.elim
  | _ :: _, [], h => h.elim
theorem KvAt.put {k : Key} {v : V} {s : Sl} (a : SlAt K G v s) {xs : List (Key × V)} {ys : List (Key × Sl)} (h : KvAt K G xs ys) : KvAt K G (putK xs k v) (putS ys k s) := by
  have e1 : (xs.any fun kv => decide (kv.1 = k)) = (ys.any fun kv => decide (kv.1 = k)) := by
    have e := h.keys
    have f : ∀ {α : Type} (l : List (Key × α)), (l.any fun kv => decide (kv.1 = k)) = (l.map (·.1)).any fun z => decide (z = k) := fun l => by
      induction l with
      | nil => rfl
      | cons p r ih => rw [List.any_cons, List.map_cons, List.any_cons, ih]
    rw [f, f, e]
  unfold putK putS
  rw [e1]
  split
  · rename_i hany
    clear e1 hany
    induction xs generalizing ys with
    | nil => cases ys with
      | nil => trivial
      | cons => exact h.elim
    | cons x xs ih => cases ys with
      | nil => exact h.elim
      | cons y ys =>
        obtain ⟨e, b, h'⟩ := h
        rw [List.map_cons, List.map_cons]
        by_cases hk : y.1 = k
        · rw [if_pos hk, if_pos (e.trans hk)]
          exact ⟨e, a, ih h'⟩
        · rw [if_neg hk, if_neg (fun z => hk (e.symm.trans z))]
          exact ⟨e, b, ih h'⟩
  · exact KvAt.append (ps := [(k, v)]) (qs := [(k, s)]) (show k = k ∧ SlAt K G v s ∧ True from ⟨rfl, a, trivial⟩) h
end
theorem dict_at {K : PySem.W.Frag} {L : Lk} {M : Cs} {G H : Hp} {v : V} {s : Sl} {kvs : List (Key × Sl)} (g : GoodM K L M G H) (a : SlAt K G v s) (h : DictIs M s kvs) : ∃ p xs, v = .ref p ∧ Rd H p (.dK xs) ∧ KvAt K G xs kvs := by
  cases h with
  | c e =>
    obtain ⟨_, xs, h1, h2⟩ := g.cell _ _ e
    exact ⟨_, xs, sl_c a, .inl h1, h2⟩
  | d kd =>
    cases a with
    | d a =>
      generalize hh : encK kd = zs at a
      cases a with
      | dic e l =>
        subst hh
        exact ⟨_, _, rfl, g.rd e, AtK.kv kd l⟩
end Y

namespace Y
open PySem L2 PyProof.Rows

section
variable {X : Cx} {L : Lk} {τ : List (Option Sl)} {M : Cs} {Q : Sl → Cs → Prop} {QB : Bool → Cs → Prop} {QG : List (Option Sl) → Cs → Prop} {e a b c o i tg iter : Expr} {es : List Expr} {pos apos cpos pos' : Pos} {E : Ks} {st : Stmt} {sts body : List Stmt} {p p2 : Pos} {x y s : Sl} {QJ : QI} {nm : Str}
theorem dt_tru (w : DE X L e τ M fun s M1 => ∃ k, truOf M1 s = some k ∧ QB k M1) (he : ∀ whole, isTrue e X.env whole = (do let v ← whole; standAt e.pos; holding [v] (truthy v)) := by intro _; rfl) : DT X L e τ M QB :=
  dt_of (pt_truth pe_s he) fun σ G H Q' gs gm k => w σ G H _ gs gm fun s M1 v G1 H1 ⟨d, h, q⟩ e1 g1 a1 => ⟨d, tru_at g1 a1 h, (k.mono e1).go q g1⟩
/-! ### built-ins -/
theorem k_isi {T n : String} {b : Bool} (h : tyName M s = some n) (hb : kitB n T = some b) (q : Q (.d (.bool b)) M) : RCk X.K L (rIsi X.K) [s, .t T] M Q := fun G H vs Q' g a k => by
  obtain ⟨v, u, rfl, a1, a2⟩ := sl2 a
  exact ⟨v, u, .type n, .type T, b, rfl, by rw [sl_t a2]; exact .ty T, ty_at g a1 h, kit_ty hb, k.go q g (.d (.bl _))⟩
theorem k_type {n : String} (h : tyName M s = some n) (hd : ∀ kv, s ≠ .d (.dict kv)) (q : Q (.t n) M) : RCk X.K L (rTyp X.K) [s] M Q := fun G H vs Q' g a k => by
  obtain ⟨v, rfl, a1⟩ := sl1 a
  exact ⟨v, n, rfl, tyB_at g a1 h hd, k.go q g (.t n)⟩
theorem k_intI {i : Int} (q : Q (.d (.int i)) M) : RCk X.K L (fun xs H Q => (∃ i, xs = [.int i] ∧ Q (.int i) H) ∨ ∃ k, xs = [.bl k] ∧ Q (.int (if k then 1 else 0)) H) [.d (.int i)] M Q := fun G H vs Q' g a k => by
  obtain ⟨v, rfl, a1⟩ := sl1 a
  rw [sl_int a1]
  exact .inl ⟨i, rfl, k.go q g (.d (.int _))⟩
theorem k_intB {b : Bool} (q : Q (.d (.int (if b then 1 else 0))) M) : RCk X.K L (fun xs H Q => (∃ i, xs = [.int i] ∧ Q (.int i) H) ∨ ∃ k, xs = [.bl k] ∧ Q (.int (if k then 1 else 0)) H) [.d (.bool b)] M Q := fun G H vs Q' g a k => by
  obtain ⟨v, rfl, a1⟩ := sl1 a
  rw [sl_bl a1]
  exact .inr ⟨b, rfl, k.go q g (.d (.int _))⟩
theorem k_abs {i : Int} (q : Q (.d (.int (if i < 0 then -i else i))) M) : RCk X.K L (fun xs H Q => ∃ i, xs = [.int i] ∧ Q (.int (if i < 0 then -i else i)) H) [.d (.int i)] M Q := fun G H vs Q' g a k => by
  obtain ⟨v, rfl, a1⟩ := sl1 a
  rw [sl_int a1]
  exact ⟨i, rfl, k.go q g (.d (.int _))⟩
theorem ints_at {K : PySem.W.Frag} {G : Hp} {xs : List V} {ns : List Int} (l : SlL K G xs (ns.map dI)) : xs = ns.map V.int := by
  induction ns generalizing xs with
  | nil => cases l; rfl
  | cons n r ih =>
    cases l with
    | cons a b =>
      rw [ih b, sl_int a]
      rfl
theorem bls_at {K : PySem.W.Frag} {G : Hp} {xs : List V} {ns : List Bool} (l : SlL K G xs (ns.map fun b => .d (.bool b))) : xs = ns.map V.bl := by
  induction ns generalizing xs with
  | nil => cases l; rfl
  | cons n r ih =>
    cases l with
    | cons a b =>
      rw [ih b, sl_bl a]
      rfl
theorem k_sum {ns : List Int} (hT : isTup s = false) (h : seqOf M s = some (ns.map dI)) (q : Q (.d (.int ns.sum)) M) : RCk X.K L (rSum X.K) [s] M Q := fun G H vs Q' g a k => by
  obtain ⟨v, rfl, a1⟩ := sl1 a
  obtain ⟨p, xs, rfl, r, l⟩ := seq_at g a1 h
  rw [hT, if_neg Bool.false_ne_true] at r
  rw [ints_at l] at r
  exact ⟨p, ns, rfl, r, k.go q g (.d (.int _))⟩
theorem k_all {ns : List Bool} (hT : isTup s = false) (h : seqOf M s = some (ns.map fun b => .d (.bool b))) (q : Q (.d (.bool (ns.all id))) M) : RCk X.K L (rAll X.K) [s] M Q := fun G H vs Q' g a k => by
  obtain ⟨v, rfl, a1⟩ := sl1 a
  obtain ⟨p, xs, rfl, r, l⟩ := seq_at g a1 h
  rw [hT, if_neg Bool.false_ne_true] at r
  rw [bls_at l] at r
  exact ⟨p, ns, rfl, r, k.go q g (.d (.bl _))⟩
def dS (x : Str) : Sl := .d (.str x)
theorem strs_sl {K : PySem.W.Frag} {G : Hp} : ∀ ys : List Str, SlL K G (ys.map V.str) (ys.map dS)
  | [] => .nil
  | y :: r => .cons (.d (.str y)) (strs_sl r)
/-- sorted(d), the keys texts -/
theorem k_sortedD {kvs : List (Key × Sl)} {ks : List Str} (h : DictIs M s kvs) (hk : kvs.map (·.1) = ks.map Sum.inr) (hl : ks.length < 64) (q : ∀ ys p, ys.Perm ks → sortedS ys = true → M p = none → Q (.c p) (updC M p (.l (ys.map dS)))) :
    RCk X.K L (fun xs H Q => ∃ (a : Addr) (kvs : List (Key × V)) (ks : List Str), xs = [.ref a] ∧ Rd H a (.dK kvs) ∧ kvs.map (·.1) = ks.map Sum.inr ∧ ks.length < 64 ∧ ∀ ys p, ys.Perm ks → sortedS ys = true → H p = none → Q (.ref p) (upd H p (.lst (ys.map V.str)))) [s] M Q := fun G H vs Q' g a k => by
  obtain ⟨v, rfl, a1⟩ := sl1 a
  obtain ⟨p, xs, rfl, r, l⟩ := dict_at g a1 h
  exact ⟨p, xs, ks, rfl, r, l.keys.trans hk, hl, fun ys c h1 h2 hc => k _ _ _ G _ (q ys c h1 h2 (g.free hc).2) (Ex.refl G) (g.newC hc ⟨_, upd_same, strs_sl ys⟩) (.c c)⟩
/-- list(xs) -/
theorem k_list {ss : List Sl} (h : seqOf M s = some ss) (q : ∀ p, M p = none → Q (.c p) (updC M p (.l ss))) : RCk X.K L (fun xs H Q => ∃ p ys, xs = [.ref p] ∧ (SqL X.K H p ys ∨ SqT X.K H p ys) ∧ ∀ l, H l = none → Q (.ref l) (upd H l (.lst ys))) [s] M Q := fun G H vs Q' g a k => by
  obtain ⟨v, rfl, a1⟩ := sl1 a
  obtain ⟨p, xs, rfl, r, l⟩ := seq_at' g a1 h
  exact ⟨p, xs, rfl, r, fun c hc => k _ _ _ G _ (q c (g.free hc).2) (Ex.refl G) (g.newC hc ⟨_, upd_same, l⟩) (.c c)⟩
/-! ### dicts -/
theorem dget_at {K : PySem.W.Frag} {G H : Hp} {v : V} {kvs : List (Key × Sl)} {k : Key} (g : GoodM K L M G H) (a : SlAt K G v s) (h : DictIs M s kvs) : ∃ p o, v = .ref p ∧ L2.IsD H p ∧ DGet H p (kV k) o ∧ match valS kvs k with
    | none => o = none
    | some z => ∃ u, o = some u ∧ SlAt K G u z := by
  obtain ⟨p, xs, rfl, r, l⟩ := dict_at g a h
  refine ⟨p, valV xs k, rfl, .inl ⟨xs, r⟩, .inl ⟨xs, k, r, rfl, rfl⟩, ?_⟩
  exact l.val k
theorem key_at {K : PySem.W.Frag} {G : Hp} {v : V} {k : Key} (a : SlAt K G v (.d (kD k))) : v = kV k := by
  cases k with
  | inl n => exact sl_int a
  | inr z => exact sl_str a
/-- d[k] -/
theorem de_dget (hu : X.A.units + 1 < cLine) (w : DE X L o τ M fun s M1 => DE X L i τ M1 fun t M2 => ∃ kvs k z, DictIs M2 s kvs ∧ t = .d (kD k) ∧ valS kvs k = some z ∧ Q z M2) (hs : NoSl i := by exact fun _ _ => rfl) : DE X L (.Subscript o i pos) τ M Q :=
  de_of (pe_dget hu pe_s pe_s hs) fun σ G H Q' gs gm k => w σ G H _ gs gm fun s M1 v G1 H1 q e1 g1 a1 => q σ G1 H1 _ (gs.mono e1) g1 fun t M2 u G2 H2 ⟨kvs, key, z, hd, ht, hv, q2⟩ e2 g2 a2 => by
    subst ht
    obtain ⟨p, oo, rfl, _, dg, h⟩ := dget_at (k := key) g2 (a1.mono e2) hd
    rw [hv] at h
    obtain ⟨r, rfl, ar⟩ := h
    rw [key_at a2]
    exact ⟨p, r, rfl, dg, (k.mono (e1.trans e2)).go q2 g2 ar⟩
/-- d.get(k, x) -/
theorem de_dget2 {f : Expr} (hu : X.A.units + 1 < cLine) (w : DE X L o τ M fun s M1 => (∃ kvs, DictIs M1 s kvs) ∧ DE X L e τ M1 fun t M2 => DE X L f τ M2 fun z M3 => ∃ kvs k, DictIs M3 s kvs ∧ t = .d (kD k) ∧ Q ((valS kvs k).getD z) M3) (m : M2 X o "get" apos e f cpos := by exact ⟨rfl, rfl, rfl, rfl⟩) : DE X L (.Call (.Attribute o "get" apos) [e, f] [] cpos) τ M Q :=
  de_of (pe_dget2 hu pe_s pe_s pe_s m) fun σ G H Q' gs gm k => w σ G H _ gs gm fun s M1 v G1 H1 ⟨⟨kvs0, hd0⟩, q⟩ e1 g1 a1 => by
    obtain ⟨p, oo, rfl, isd, _, _⟩ := dget_at (k := .inl 0) g1 a1 hd0
    refine ⟨p, rfl, isd, q σ G1 H1 _ (gs.mono e1) g1 fun t M2 u G2 H2 q2 e2 g2 a2 => q2 σ G2 H2 _ (gs.mono (e1.trans e2)) g2 fun z M3 u3 G3 H3 ⟨kvs, key, hd, ht, q3⟩ e3 g3 a3 => ?_⟩
    subst ht
    obtain ⟨p', oo', ep, _, dg, h⟩ := dget_at (k := key) g3 ((a1.mono e2).mono e3) hd
    cases ep
    rw [key_at a2]
    refine ⟨oo', dg, ?_⟩
    cases hv : valS kvs key with
    | none =>
      rw [hv] at h q3
      rw [h]
      exact (k.mono ((e1.trans e2).trans e3)).go q3 g3 a3
    | some r =>
      rw [hv] at h q3
      obtain ⟨u', rfl, ar⟩ := h
      exact (k.mono ((e1.trans e2).trans e3)).go q3 g3 ar
/-- d[k] = v, the dict a cell -/
theorem ds_dput {value : Expr} (hu : X.A.units + 1 < cLine) (w : DE X L value τ M fun z M1 => DE X L o τ M1 fun s M2 => DE X L i τ M2 fun t M3 => ∃ a kvs k, s = .c a ∧ M3 a = some (.k kvs) ∧ t = .d (kD k) ∧ kvs.length < sizeLine ∧ E.nx τ (updC M3 a (.k (putS kvs k z))))
    (hs : swapsWith value (some (.Subscript o i pos')) pos.line X.env = pure false := by rfl) : DS X L (.Assign [.Subscript o i pos'] value pos) τ M E :=
  ds_of (ps_dput hu pe_s pe_s pe_s hs) fun σ G H D gs gm k => w σ G H _ gs gm fun z M1 v G1 H1 q e1 g1 a1 => q σ G1 H1 _ (gs.mono e1) g1 fun s M2 u G2 H2 q2 e2 g2 a2 => q2 σ G2 H2 _ (gs.mono (e1.trans e2)) g2 fun t M3 w' G3 H3 ⟨a, kvs, key, hs, ha, ht, hl, q3⟩ e3 g3 a3 => by
    subst hs ht
    have e13 := (e1.trans e2).trans e3
    obtain ⟨_, xs, h1, h2⟩ := g3.cell a _ ha
    refine ⟨a, _, sl_c a2, ?_, k.nx _ _ σ G3 _ q3 e13 (g3.write ha h1 (fun _ _ z => nomatch z) ⟨_, upd_same, KvAt.put ((a1.mono e2).mono e3) h2⟩) (gs.mono e13)⟩
    rw [key_at a3]
    exact DPut.k h1 (by rw [h2.len]; exact hl)
/-- xs[i] = v, the list a cell -/
theorem dg_subL (w : DE X L o τ M fun t M1 => DE X L i τ M1 fun u M2 => ∃ a ss k j, t = .c a ∧ M2 a = some (.l ss) ∧ u = dI k ∧ ixN ss.length k = some j ∧ QG τ (updC M2 a (.l (ss.set j s))))
    (ha : ∀ v, assign (.Subscript o i pos) X.env v = (do
      let ov ← holding [v] (eval o X.env)
      let iv ← holding [v, ov] (eval i X.env)
      standAt pos
      holding [v, ov, iv] (setItem ov iv v)
      release [v, ov, iv] []) := by intro _; rfl) : DG X L (.Subscript o i pos) s τ M QG :=
  dg_of (pg_sub pe_s pe_s set_list ha) fun σ G H v Q' gs gm av k => w σ G H _ gs gm fun t M1 u G1 H1 q e1 g1 a1 => q σ G1 H1 _ (gs.mono e1) g1 fun z M2 w' G2 H2 ⟨a, ss, n, j, ht, ha, hu, hj, q2⟩ e2 g2 a2 => by
    subst ht hu
    obtain ⟨_, xs, h1, h2⟩ := g2.cell a _ ha
    exact ⟨a, xs, n, j, sl_c a1, sl_int a2, h1, by rw [h2.len]; exact hj, k _ _ σ G2 _ q2 (e1.trans e2) (g2.write ha h1 (fun _ _ z => nomatch z) ⟨_, upd_same, h2.set ((av.mono e1).mono e2) j⟩) (gs.mono (e1.trans e2))⟩
/-! ### methods -/
def RMk (K : PySem.W.Frag) (L : Lk) (r : V → List V → Hp → VK → Prop) (x : Sl) (xs : List Sl) (M : Cs) (Q : Sl → Cs → Prop) : Prop := ∀ G H v vs Q', GoodM K L M G H → SlAt K G v x → SlL K G vs xs → Ret K L G Q Q' → r v vs H Q'
theorem tyL_at {K : PySem.W.Frag} {G H : Hp} {v : V} {ss : List Sl} (g : GoodM K L M G H) (a : SlAt K G v s) (hT : isTup s = false) (h : seqOf M s = some ss) : tyV K "list" v H := by
  obtain ⟨p, xs, rfl, r, l⟩ := seq_at g a h
  rw [hT, if_neg Bool.false_ne_true] at r
  exact .inl ⟨rfl, xs, r⟩
theorem de_mL {name : Str} {id : String} {r : V → List V → Hp → VK → Prop} (slot : Slot "list" name id) (hty : typeOf (.builtin id) = pure (.type "method_descriptor")) (hm : MtR X id r)
    (w : DE X L o τ M fun x M1 => (isTup x = false ∧ ∃ ss, seqOf M1 x = some ss) ∧ DA X L (e :: es) τ M1 fun ss M2 => RMk X.K L r x ss M2 Q) (hbase : attributeBase o name X.env (eval o X.env) = eval o X.env := by rfl)
    (hfew : ((backTo cpos (starEach (e :: es) X.env)).all (fun x => !x.1) && (backToKw cpos (keywordEach [] X.env)).all (fun x => x.1.isSome)
      && decide ((e :: es).length + ([] : List Keyword).length + (if ([] : List Keyword).isEmpty then 0 else 1) < 30)) = true := by rfl)
    (hline : (apos.endLine == cpos.line) = true := by rfl) (hs : starEach (e :: es) X.env = (false, eval e X.env) :: starEach es X.env := by rfl) (hplain : (backTo cpos (starEach es X.env)).any (·.1) = false := by rfl) : DE X L (.Call (.Attribute o name apos) (e :: es) [] cpos) τ M Q :=
  de_of (pe_bm PySem.F.plainAttrs_list slot hty hm pe_s pa_s hbase hfew hline hs hplain) fun σ G H Q' gs gm k => w σ G H _ gs gm fun x M1 v G1 H1 ⟨⟨hT, ss, hss⟩, q⟩ e1 g1 a1 =>
    ⟨tyL_at g1 a1 hT hss, q σ G1 H1 _ (gs.mono e1) g1 fun ts M2 vs G2 H2 q2 e2 g2 a2 => q2 G2 H2 v vs Q' g2 (a1.mono e2) a2 (k.mono (e1.trans e2))⟩
theorem k_append {a : Addr} {ss : List Sl} {z : Sl} (h : M a = some (.l ss)) (hl : ss.length < sizeLine) (q : Q (.d .none) (updC M a (.l (ss ++ [z])))) : RMk X.K L rAppend (.c a) [z] M Q := fun G H v vs Q' g a1 a2 k => by
  obtain ⟨u, rfl, au⟩ := sl1 a2
  obtain ⟨_, xs, h1, h2⟩ := g.cell a _ h
  exact ⟨a, xs, u, sl_c a1, rfl, h1, by rw [h2.len]; exact hl, k _ _ _ G _ q (Ex.refl G) (g.write h h1 (fun _ _ z => nomatch z) ⟨_, upd_same, h2.append (.cons au .nil)⟩) (.d .non)⟩
/-- xs.append(e) as a statement -/
theorem ds_append (w : DE X L o τ M fun x M1 => (isTup x = false ∧ ∃ ss, seqOf M1 x = some ss) ∧ DE X L e τ M1 fun z M2 => ∃ a ss, x = .c a ∧ M2 a = some (.l ss) ∧ ss.length < sizeLine ∧ E.nx τ (updC M2 a (.l (ss ++ [z])))) (hbase : attributeBase o "append" X.env (eval o X.env) = eval o X.env := by rfl)
    (hfew : ((backTo cpos (starEach (e :: []) X.env)).all (fun x => !x.1) && (backToKw cpos (keywordEach [] X.env)).all (fun x => x.1.isSome)
      && decide ((e :: []).length + ([] : List Keyword).length + (if ([] : List Keyword).isEmpty then 0 else 1) < 30)) = true := by rfl)
    (hline : (apos.endLine == cpos.line) = true := by rfl) (hs : starEach (e :: []) X.env = (false, eval e X.env) :: starEach [] X.env := by rfl) (hplain : (backTo cpos (starEach [] X.env)).any (·.1) = false := by rfl) (hsw : swapsWith (.Call (.Attribute o "append" apos) [e] [] cpos) none pos.line X.env = pure false := by rfl) :
    DS X L (.Expr (.Call (.Attribute o "append" apos) [e] [] cpos) pos) τ M E :=
  ds_expr (de_mL PySem.F.slot_list_append PySem.F.type_list_append mt_append (de_imp w fun x M1 ⟨h, q⟩ => ⟨h, da_cons (de_imp q fun z M2 ⟨a, ss, hx, ha, hl, q2⟩ => da_nil (by subst hx; exact k_append ha hl q2)) hs⟩) hbase hfew hline hs hplain) hsw
theorem SlL.erase {K : PySem.W.Frag} {G : Hp} : ∀ {vs : List V} {ss : List Sl} (j : Nat), SlL K G vs ss → SlL K G (vs.eraseIdx j) (ss.eraseIdx j)
  | _, _, _, .nil => .nil
  | _, _, 0, .cons _ b => b
  | _, _, j + 1, .cons a b => .cons a (b.erase j)
theorem k_popAt {a : Addr} {ss : List Sl} {n : Int} {j : Nat} {z : Sl} (h : M a = some (.l ss)) (h1 : -(2 ^ 63) ≤ n) (h2 : n < 2 ^ 63) (hj : seqIndex? n ss.length = some j) (hz : ss[j]? = some z) (q : Q z (updC M a (.l (ss.eraseIdx j)))) : RMk X.K L rPopAt (.c a) [dI n] M Q := fun G H v vs Q' g a1 a2 k => by
  obtain ⟨u, rfl, au⟩ := sl1 a2
  obtain ⟨_, xs, e1, e2⟩ := g.cell a _ h
  obtain ⟨r, hr, ar⟩ := e2.get hz
  exact ⟨a, xs, n, j, r, sl_c a1, by rw [sl_int au], e1, h1, h2, by rw [e2.len]; exact hj, hr, k _ _ _ G _ q (Ex.refl G) (g.write h e1 (fun _ _ z => nomatch z) ⟨_, upd_same, e2.erase j⟩) ar⟩
/-- methods of texts without arguments -/
theorem de_mS0 {name : Str} {id : String} {f : Str → Bool} (slot : Slot "str" name id) (hty : typeOf (.builtin id) = pure (.type "method_descriptor")) (hm : MtR X id (fun x xs H Q => ∃ a, x = .str a ∧ xs = [] ∧ True ∧ Q (.bl (f a)) H))
    (w : DE X L o τ M fun s M1 => ∃ z, s = dS z ∧ Q (.d (.bool (f z))) M1) (hbase : attributeBase o name X.env (eval o X.env) = eval o X.env := by rfl) (hline : (apos.endLine == pos.line) = true := by rfl) : DE X L (.Call (.Attribute o name apos) [] [] pos) τ M Q :=
  de_of (pe_m0 slot hty hm pe_s hbase hline) fun σ G H Q' gs gm k => w σ G H _ gs gm fun s M1 v G1 H1 ⟨z, hs, q⟩ e1 g1 a1 => by
    subst hs
    rw [sl_str a1]
    exact ⟨⟨z, rfl⟩, z, rfl, rfl, trivial, (k.mono e1).go q g1 (.d (.bl _))⟩
/-- sep.join(xs) -/
theorem strs_at {K : PySem.W.Frag} {G : Hp} {xs : List V} {ys : List Str} (l : SlL K G xs (ys.map dS)) : xs = ys.map V.str := by
  induction ys generalizing xs with
  | nil => cases l; rfl
  | cons n r ih =>
    cases l with
    | cons a b =>
      rw [ih b, sl_str a]
      rfl
theorem de_join (w : DE X L o τ M fun s M1 => ∃ z, s = dS z ∧ DE X L e τ M1 fun t M2 => ∃ ys : List Str, seqOf M2 t = some (ys.map dS) ∧ (ys.map (·.length)).sum + ys.length * z.length ≤ 16777216 ∧ Q (dS (Txt.join z ys)) M2)
    (hs : starEach [e] X.env = [(false, eval e X.env)] := by rfl) (hbase : attributeBase o "join" X.env (eval o X.env) = eval o X.env := by rfl) (hline : (apos.endLine == pos.line) = true := by rfl) : DE X L (.Call (.Attribute o "join" apos) [e] [] pos) τ M Q :=
  de_of (pe_join pe_s pe_s hs hbase hline) fun σ G H Q' gs gm k => w σ G H _ gs gm fun s M1 v G1 H1 ⟨z, hs, q⟩ e1 g1 a1 => by
    subst hs
    rw [sl_str a1]
    refine ⟨⟨z, rfl⟩, q σ G1 H1 _ (gs.mono e1) g1 fun t M2 u G2 H2 ⟨ys, ht, hl, q2⟩ e2 g2 a2 => ?_⟩
    obtain ⟨p, xs, rfl, r, l⟩ := seq_at' g2 a2 ht
    rw [strs_at l] at r
    exact ⟨z, p, ys, rfl, rfl, r, hl, (k.mono (e1.trans e2)).go q2 g2 (.d (.str _))⟩
/-! ### more walks -/
theorem di_zip {e2 : Expr} {elts : List Expr} {kk : Nat} {tpos : Pos} (hg : Gl X "zip") (hm : X.mg "zip" = none)
    (w : DA X L [e, e2] τ M fun ss M1 => ∃ s t xs ys, ss = [s, t] ∧ isTup s = isTup t ∧ seqOf M1 s = some xs ∧ seqOf M1 t = some ys ∧ xs.length = ys.length ∧ QJ xs.length (fun M' => seqOf M' s = some xs ∧ seqOf M' t = some ys) (fun i y => ∃ a b, xs[i]? = some a ∧ ys[i]? = some b ∧ y = .u [a, b]) M1)
    (hs : starEach [e, e2] X.env = (false, eval e X.env) :: starEach [e2] X.env := by rfl) (hpl : (backTo pos (starEach [e2] X.env)).any (·.1) = false := by rfl) : DI X L (.Tuple elts kk tpos) (.Call (.Name "zip" p) [e, e2] [] pos) τ M QJ := fun σ G H R gs gm k => by
  refine i_of (RZ.pi_zipA hg hm pa_s hs hpl) ?_
  show sA X [e, e2] σ H (fun vs H1 => ∃ a b xs ys, vs = [.ref a, .ref b] ∧ ((SqL X.K H1 a xs ∧ SqL X.K H1 b ys ∧ R (Itz X.K a b) H1) ∨ (SqT X.K H1 a xs ∧ SqT X.K H1 b ys ∧ R (RZ.ItzT X.K a b) H1)))
  refine w σ G H _ gs gm ?_
  rintro ss M1 vs G1 H1 ⟨s, t, us, ws, e0, hT, h1, h2, hl, q⟩ e1 g1 a1
  subst e0
  obtain ⟨v, u, rfl, av, au⟩ := sl2 a1
  obtain ⟨pa, xs, rfl, ra, la⟩ := seq_at g1 av h1
  obtain ⟨pb, ys, rfl, rb, lb⟩ := seq_at g1 au h2
  refine ⟨pa, pb, xs, ys, rfl, ?_⟩
  rw [← hT] at rb
  cases hS : isTup s with
  | false =>
    rw [hS, if_neg Bool.false_ne_true] at ra rb
    refine .inl ⟨ra, rb, k _ _ _ M1 G1 H1 _ q e1 g1 ⟨fun M' G' H' sM e' g' => ?_, fun i M' G' H' hi sM e' g' => ?_⟩⟩
    · obtain ⟨p1, xs1, ep, r1, l1⟩ := seq_at g' (av.mono e') sM.1
      obtain ⟨p2, ys1, eq, r2, l2⟩ := seq_at g' (au.mono e') sM.2
      cases ep
      cases eq
      rw [← hT] at r2
      rw [hS, if_neg Bool.false_ne_true] at r1 r2
      exact ⟨xs1, ys1, r1, r2, .inl (Nat.le_of_eq l1.len)⟩
    · obtain ⟨p1, xs1, ep, r1, l1⟩ := seq_at g' (av.mono e') sM.1
      obtain ⟨p2, ys1, eq, r2, l2⟩ := seq_at g' (au.mono e') sM.2
      cases ep
      cases eq
      rw [← hT] at r2
      rw [hS, if_neg Bool.false_ne_true] at r1 r2
      have hj : i < ws.length := by omega
      obtain ⟨v1, hv1, av1⟩ := l1.get (List.getElem?_eq_getElem hi)
      obtain ⟨v2, hv2, av2⟩ := l2.get (List.getElem?_eq_getElem hj)
      refine ⟨⟨xs1, ys1, v1, v2, r1, r2, hv1, hv2⟩, fun x H2 hy => ?_⟩
      obtain ⟨T, x1, x2, rfl, nT, rfl, f1, f2⟩ := hy
      have ex1 := Option.some.inj ((f1 _ r1).symm.trans hv1)
      have ex2 := Option.some.inj ((f2 _ r2).symm.trans hv2)
      subst ex1 ex2
      have fr := g'.free nT
      exact ⟨_, _, ⟨_, _, List.getElem?_eq_getElem hi, List.getElem?_eq_getElem hj, rfl⟩, Ex.new fr.1, g'.newD nT, .u upd_same (.cons (av1.mono (Ex.new fr.1)) (.cons (av2.mono (Ex.new fr.1)) .nil))⟩
  | true =>
    rw [hS, if_pos rfl] at ra rb
    refine .inr ⟨ra, rb, k _ _ _ M1 G1 H1 _ q e1 g1 ⟨fun M' G' H' sM e' g' => ?_, fun i M' G' H' hi sM e' g' => ?_⟩⟩
    · obtain ⟨p1, xs1, ep, r1, l1⟩ := seq_at g' (av.mono e') sM.1
      obtain ⟨p2, ys1, eq, r2, l2⟩ := seq_at g' (au.mono e') sM.2
      cases ep
      cases eq
      rw [← hT] at r2
      rw [hS, if_pos rfl] at r1 r2
      exact ⟨xs1, ys1, r1, r2, .inl (Nat.le_of_eq l1.len)⟩
    · obtain ⟨p1, xs1, ep, r1, l1⟩ := seq_at g' (av.mono e') sM.1
      obtain ⟨p2, ys1, eq, r2, l2⟩ := seq_at g' (au.mono e') sM.2
      cases ep
      cases eq
      rw [← hT] at r2
      rw [hS, if_pos rfl] at r1 r2
      have hj : i < ws.length := by omega
      obtain ⟨v1, hv1, av1⟩ := l1.get (List.getElem?_eq_getElem hi)
      obtain ⟨v2, hv2, av2⟩ := l2.get (List.getElem?_eq_getElem hj)
      refine ⟨⟨xs1, ys1, v1, v2, r1, r2, hv1, hv2⟩, fun x H2 hy => ?_⟩
      obtain ⟨T, x1, x2, rfl, nT, rfl, f1, f2⟩ := hy
      have ex1 := Option.some.inj ((f1 _ r1).symm.trans hv1)
      have ex2 := Option.some.inj ((f2 _ r2).symm.trans hv2)
      subst ex1 ex2
      have fr := g'.free nT
      exact ⟨_, _, ⟨_, _, List.getElem?_eq_getElem hi, List.getElem?_eq_getElem hj, rfl⟩, Ex.new fr.1, g'.newD nT, .u upd_same (.cons (av1.mono (Ex.new fr.1)) (.cons (av2.mono (Ex.new fr.1)) .nil))⟩
end
end Y

namespace Y
open PySem L2 PyProof.Rows

/-- no dict is walked at present -/
def NoDK (L : Lk) : Prop := ∀ x ∈ L, ∀ kvs, x.2.2 ≠ .dK kvs
section
variable {K : PySem.W.Frag} {L : Lk} {M : Cs} {G H : Hp} {d : Addr} {kvs : List (Key × V)} {od : Obj}
theorem lock_exact (g : GoodM K L M G H) (hL : NoDK L) (hd : G d = some (.dK kvs)) : H d = some (.dK kvs) := by
  rcases g.vw d _ hd with z | ⟨x, hx, _, w⟩
  · exact z
  · exact absurd w (hL x hx kvs)
theorem lock_ne (g : GoodM K L M G H) (hL : NoDK L) (hd : G d = some (.dK kvs)) : ∀ x ∈ L, x.1 ≠ d := fun x hx e => by
  have h1 := g.lk x hx
  rw [e, lock_exact g hL hd] at h1
  cases h1
theorem GoodM.lock (g : GoodM K L M G H) (hL : NoDK L) (hd : G d = some (.dK kvs)) : GoodM K ((d, od, .dK kvs) :: L) M G (upd H d (.frz od (.dK kvs))) := by
  refine ⟨fun a o e => ?_, fun a c e => ?_, fun x hx => ?_⟩
  · by_cases ha : a = d
    · subst ha
      rw [hd] at e
      cases e
      exact .inr ⟨_, List.mem_cons_self, rfl, rfl⟩
    · rcases g.vw a o e with z | ⟨x, hx, z⟩
      · exact .inl (by rw [upd_ne ha]; exact z)
      · exact .inr ⟨x, List.mem_cons_of_mem _ hx, z⟩
  · obtain ⟨z1, z2⟩ := g.cell a c e
    have ha : a ≠ d := by
      intro z
      rw [z, hd] at z1
      cases z1
    exact ⟨z1, z2.mono (Ex.refl G) fun o q => by rw [upd_ne ha]; exact q⟩
  · rcases List.mem_cons.mp hx with rfl | hx
    · exact upd_same
    · rw [upd_ne (lock_ne g hL hd x hx)]
      exact g.lk x hx
theorem GoodM.unlock (g : GoodM K ((d, od, .dK kvs) :: L) M G H) (hne : ∀ x ∈ L, x.1 ≠ d) (hd : G d = some (.dK kvs)) : GoodM K L M G (upd H d (.dK kvs)) := by
  refine ⟨fun a o e => ?_, fun a c e => ?_, fun x hx => ?_⟩
  · by_cases ha : a = d
    · subst ha
      rw [hd] at e
      cases e
      exact .inl upd_same
    · rcases g.vw a o e with z | ⟨x, hx, z⟩
      · exact .inl (by rw [upd_ne ha]; exact z)
      · rcases List.mem_cons.mp hx with rfl | hx
        · exact absurd z.1.symm ha
        · exact .inr ⟨x, hx, z⟩
  · obtain ⟨z1, z2⟩ := g.cell a c e
    have ha : a ≠ d := by
      intro z
      rw [z, hd] at z1
      cases z1
    exact ⟨z1, z2.mono (Ex.refl G) fun o q => by rw [upd_ne ha]; exact q⟩
  · rw [upd_ne (hne x hx)]
    exact g.lk x (List.mem_cons_of_mem _ hx)
end
section
variable {X : Cx} {L : Lk} {τ : List (Option Sl)} {M : Cs} {Q : Sl → Cs → Prop} {QG : List (Option Sl) → Cs → Prop} {e a b c o tg iter : Expr} {es : List Expr} {pos apos cpos pos' p0 : Pos} {E : Ks} {st : Stmt} {sts body : List Stmt} {QJ : QI} {nm : Str} {i : Nat}
/-- for k, v in d.items(), d a name -/
theorem ds_forItems {elts : List Expr} {kk : Nat} {tpos : Pos} {kd : List (Key × PyData)} (hp : PassesOwn (model X.prog X.w) X.A X.env X.xe) (hc : X.calm = true) (hL : NoDK L) (hN : X.N[i]? = some nm) (hv : Vis X.env.scope nm) (ht : τ[i]? = some (some (.d (.dict (encK kd)))))
    (Iv : Nat → List (Option Sl) → Cs → Prop) (i0 : Iv 0 τ M)
    (turn : ∀ x, (∃ xs, x.2.2 = HO.dK xs) → ∀ n k d τ' M', kd[n]? = some (k, d) → Iv n τ' M' → DG X (x :: L) (.Tuple elts kk tpos) (.u [.d (kD k), .d d]) τ' M' fun τ2 M2 => DB X (x :: L) body τ2 M2 { E with nx := Iv (n + 1), ct := Iv (n + 1), bk := E.nx })
    (fin : ∀ τ' M', Iv kd.length τ' M' → E.nx τ' M')
    (hd : (nm == ("__debug__" : Str)) = false := by decide) (hcd : (nm == ("__classdict__" : Str)) = false := by decide)
    (hbase : attributeBase (.Name nm p0) "items" X.env (eval (.Name nm p0) X.env) = eval (.Name nm p0) X.env := by rfl) (hline : (apos.endLine == cpos.line) = true := by rfl)
    (hs : ∀ x, foldedSetIterable (.Call (.Attribute (.Name nm p0) "items" apos) [] [] cpos) X.env x = pure x := by intro _; rfl) : DS X L (.For (.Tuple elts kk tpos) (.Call (.Attribute (.Name nm p0) "items" apos) [] [] cpos) body [] pos) τ M E :=
  ds_of (ps_lock (ps_for hp hc (pi_items (pe_var hN hv hd hcd) hbase hline) pg_s pss_s hs)) fun σ G H D gs gm k => by
    obtain ⟨v, hσ, av⟩ := gs.get i _ ht
    cases av with
    | d av =>
      generalize hz : encK kd = zs at av
      cases av with
      | dic hG l =>
        rename_i dd xs
        subst hz
        have lx := AtK.kv kd l
        have hx := lock_exact gm hL hG
        have hne := lock_ne gm hL hG
        refine ⟨dd, .dK xs, hx, trivial, fun od => ?_⟩
        have gmL := gm.lock (od := od) hL hG
        have kL : EndsOk X.K ((dd, od, .dK xs) :: L) G E ⟨fun σ' H' => H' dd = some (.frz od (.dK xs)) ∧ D.nx σ' (upd H' dd (.dK xs)), fun v H' => H' dd = some (.frz od (.dK xs)) ∧ D.rt v (upd H' dd (.dK xs)), fun σ' H' => H' dd = some (.frz od (.dK xs)) ∧ D.bk σ' (upd H' dd (.dK xs)), fun σ' H' => H' dd = some (.frz od (.dK xs)) ∧ D.ct σ' (upd H' dd (.dK xs))⟩ :=
          ⟨fun τ' M' σ' G' H' q e g s => ⟨g.lk _ List.mem_cons_self, k.nx _ _ _ G' _ q e (g.unlock hne (e _ _ hG)) s⟩, fun s M' v G' H' q e g a => ⟨g.lk _ List.mem_cons_self, k.rt _ _ _ G' _ q e (g.unlock hne (e _ _ hG)) a⟩,
            fun τ' M' σ' G' H' q e g s => ⟨g.lk _ List.mem_cons_self, k.bk _ _ _ G' _ q e (g.unlock hne (e _ _ hG)) s⟩, fun τ' M' σ' G' H' q e g s => ⟨g.lk _ List.mem_cons_self, k.ct _ _ _ G' _ q e (g.unlock hne (e _ _ hG)) s⟩⟩
        refine ⟨.ref dd, hσ, dd, od, xs, rfl, upd_same, ?_⟩
        refine ⟨fun n m σ' H' => m = kd.length - n ∧ n ≤ kd.length ∧ ∃ τ' M' G', Iv n τ' M' ∧ Ex G G' ∧ GoodS X.K G' σ' τ' ∧ GoodM X.K ((dd, od, .dK xs) :: L) M' G' H', ⟨kd.length, by simp, Nat.zero_le _, τ, M, G, i0, Ex.refl _, gs, gmL⟩, ?_⟩
        rintro n m σ' H' ⟨rfl, hn, τ', M', G', iv, e', s', g'⟩
        have hl : xs.length = kd.length := by rw [lx.len]; simp [slK]
        have hd' : H' dd = some (.frz od (.dK xs)) := g'.lk _ List.mem_cons_self
        by_cases hlt : n < kd.length
        · refine .inr ⟨⟨hd', by rw [hl]; exact hlt⟩, fun σ2 H2 => ∃ τ2 M2 G2, Iv (n + 1) τ2 M2 ∧ Ex G G2 ∧ GoodS X.K G2 σ2 τ2 ∧ GoodM X.K ((dd, od, .dK xs) :: L) M2 G2 H2, fun σ2 H2 ⟨τ2, M2, G2, h⟩ => ⟨kd.length - (n + 1), by omega, rfl, hlt, τ2, M2, G2, h⟩, fun x H2 hy => ?_⟩
          obtain ⟨T, k1, v1, hx1, rfl, nT, rfl⟩ := hy
          obtain ⟨u1, hu1, au1⟩ := (KvAt.mono e' lx).get (i := n) (k := (kd[n]).1) (s := .d (kd[n]).2) (by unfold slK; rw [List.getElem?_map, List.getElem?_eq_getElem hlt]; rfl)
          rw [hx1] at hu1
          have hu2 := Option.some.inj hu1
          have f := g'.free nT
          have ek : k1 = (kd[n]).1 := (Prod.mk.inj hu2).1
          have ev : v1 = u1 := (Prod.mk.inj hu2).2
          subst ev
          have ak : At X.K (upd G' T (.tup [kV k1, v1])) (kV k1) (kD (kd[n]).1) := by
            rw [← ek]
            cases k1 with
            | inl z => exact .int z
            | inr z => exact .str z
          have e2 := Ex.new (G := G') (o := .tup [kV k1, v1]) f.1
          refine turn (dd, od, .dK xs) ⟨xs, rfl⟩ n (kd[n]).1 (kd[n]).2 τ' M' (List.getElem?_eq_getElem hlt) iv σ' _ _ _ _ (s'.mono e2) (g'.newD nT) (.u upd_same (.cons (.d ak) (.cons (au1.mono e2) .nil))) fun τ3 M3 σ3 G3 H3 q3 e3 g3 s3 => ?_
          have e13 := (e'.trans e2).trans e3
          exact q3 σ3 G3 H3 _ s3 g3 ⟨fun τ4 M4 σ4 G4 H4 q4 e4 g4 s4 => ⟨τ4, M4, G4, q4, e13.trans e4, s4, g4⟩, kL.rt.mono e13, kL.nx.mono e13, fun τ4 M4 σ4 G4 H4 q4 e4 g4 s4 => ⟨τ4, M4, G4, q4, e13.trans e4, s4, g4⟩⟩
        · have e : n = kd.length := by omega
          subst e
          exact .inl ⟨⟨hd', by rw [hl]; exact Nat.le_refl _⟩, kL.nx τ' M' σ' G' H' (fin _ _ iv) e' g' s'⟩
/-- {kx: vx for tg in iter} -/
theorem we_dc {kx vx : TE} {g : TG} {tt : TT} {vs : List Nat} (w : DI X L tg iter τ M fun n S ys M1 => ∀ D, M1 D = none → ∃ Iv : Nat → Cs → Prop, Iv 0 (updC M1 D (.k [])) ∧ (∀ i M', Iv i M' → S M') ∧
      (∀ i y M', i < n → ys i y → Iv i M' → WGw X.K L vs g y (wipeK τ vs) M' fun τ2 M2 => WT X.K L tt τ2 M2 fun d M3 => (d = true → WE X.K L kx τ2 M3 fun z M4 => WE X.K L vx τ2 M4 fun z2 M5 => ∃ kvs k, z = .d (kD k) ∧ M5 D = some (.k kvs) ∧ kvs.length < sizeLine ∧ Iv (i + 1) (updC M5 D (.k (putS kvs k z2)))) ∧ (d = false → Iv (i + 1) M3)) ∧ (∀ M', Iv n M' → Q (.c D) M')) :
    WE X.K L (tDc (sI X tg iter) g tt kx vx vs) τ M Q := fun σ G H Q' gs gm k => w σ G H _ gs gm fun n S ys M1 G1 H1 J q e1 g1 ok D hD => by
  obtain ⟨Iv, i0, st, turn, fin⟩ := q D (g1.free hD).2
  refine ⟨fun i m H' => m = n - i ∧ i ≤ n ∧ ∃ M' G', Iv i M' ∧ Ex G1 G' ∧ GoodM X.K L M' G' H', ⟨n, by simp, Nat.zero_le _, _, G1, i0, Ex.refl _, g1.newC hD ⟨[], upd_same, trivial⟩⟩, ?_⟩
  rintro i m H' ⟨rfl, hi, M', G', iv, e', g'⟩
  by_cases hlt : i < n
  · obtain ⟨go, yl⟩ := ok.go i M' G' H' hlt (st _ _ iv) e' g'
    refine .inr ⟨go, fun H2 => ∃ M2 G2, Iv (i + 1) M2 ∧ Ex G1 G2 ∧ GoodM X.K L M2 G2 H2, fun H2 ⟨M2, G2, h⟩ => ⟨n - (i + 1), by omega, rfl, hlt, M2, G2, h⟩, fun x H2 hy => ?_⟩
    obtain ⟨y, G2, yy, e2, g2, ay⟩ := yl x H2 hy
    have e12 := e'.trans e2
    refine turn i y M' hlt yy iv _ G2 H2 x _ ((gs.mono (e1.trans e12)).wipe vs) g2 ay fun τ3 M3 σ3 G3 H3 q3 e3 g3 s3 z3 => ?_
    refine ⟨z3.trans wipe_wipe, ?_⟩
    have e13 := e12.trans e3
    refine q3 σ3 G3 H3 _ s3 g3 fun d M4 G4 H4 q4 e4 g4 => ?_
    cases d with
    | true =>
      rw [if_pos rfl]
      refine q4.1 rfl σ3 G4 H4 _ (s3.mono e4) g4 fun z M5 v G5 H5 q5 e5 g5 a5 => ?_
      refine q5 σ3 G5 H5 _ (s3.mono (e4.trans e5)) g5 fun z2 M6 v2 G6 H6 ⟨kvs, key, hz, hk, hl, iv6⟩ e6 g6 a6 => ?_
      obtain ⟨f6, xs, h1, h2⟩ := g6.cell D _ hk
      subst hz
      refine ⟨xs, key, key_at a5, h1, by rw [h2.len]; exact hl, _, G6, iv6, ((e13.trans e4).trans e5).trans e6, ?_⟩
      exact g6.write hk h1 (fun _ _ z => nomatch z) ⟨_, upd_same, KvAt.put a6 h2⟩
    | false =>
      rw [if_neg Bool.false_ne_true]
      exact ⟨M4, G4, q4.2 rfl, e13.trans e4, g4⟩
  · have e : i = n := by omega
    subst e
    exact .inl ⟨ok.stop M' G' H' (st _ _ iv) e' g', k _ M' _ G' H' (fin _ iv) (e1.trans e') g' (.c D)⟩
theorem de_dc0 {kx vx : Expr} {scope : Scope} {own : List (Str × Nat)} {g : TG} (hc : X.calm = true) (hN : X.N.Nodup) (ok : BlkOk X.N X.env.scope scope own) (hg : ∀ (s : Shared) (H : Hp) (C : Addr) (cl : List (Str × Addr)) (fp : List Addr), PG (X.blk s H scope (compEnvC scope cl C X.env) fp) tg g)
    (w : DI X L tg iter τ M fun n S ys M1 => ∀ D, M1 D = none → ∃ Iv : Nat → Cs → Prop, Iv 0 (updC M1 D (.k [])) ∧ (∀ i M', Iv i M' → S M') ∧
      (∀ i y M', i < n → ys i y → Iv i M' → WGw X.K L (own.map (·.2)) g y (wipeK τ (own.map (·.2))) M' fun τ2 M3 => DEb X scope L kx τ2 M3 fun z M4 => DEb X scope L vx τ2 M4 fun z2 M5 => ∃ kvs k, z = .d (kD k) ∧ M5 D = some (.k kvs) ∧ kvs.length < sizeLine ∧ Iv (i + 1) (updC M5 D (.k (putS kvs k z2)))) ∧ (∀ M', Iv n M' → Q (.c D) M'))
    (hs : ∀ x, foldedSetIterable iter X.env x = pure x := by intro _; rfl) : DE X L (.DictComp kx vx [⟨tg, iter, [], 0⟩] scope pos) τ M Q :=
  de_of (pe_dc (tk := bE X scope kx) (tv := bE X scope vx) (tt := tYes) hc hN pi_s ok hg (fun _ _ _ _ _ => pts_nil) (fun s H C cl fp => ⟨fun pins s' σ H' Q' I h => h s H C cl fp pins s' I⟩) (fun s H C cl fp => ⟨fun pins s' σ H' Q' I h => h s H C cl fp pins s' I⟩) hs) (we_dc fun σ G H R gs gm k => w σ G H R gs gm fun n S ys M1 G1 H1 J q e1 g1 ok => k n S ys M1 G1 H1 J (fun D hD => by
    obtain ⟨Iv, i0, st, turn, fin⟩ := q D hD
    refine ⟨Iv, i0, st, fun i y M' hi yy iv => ?_, fin⟩
    intro σ G H v Q' gs gm a k
    refine turn i y M' hi yy iv σ G H v Q' gs gm a fun τ' M' σ' G' H' h => k τ' M' σ' G' H' ?_
    refine fun σ G H Q' gs gm k => k.go (b := true) ⟨fun _ => ?_, fun z => nomatch z⟩ gm
    refine web (X := X) (scope := scope) fun s0 H0 C cl fp σ2 G2 H2 Q2 gs2 gm2 k2 => h s0 H0 C cl fp σ2 G2 H2 Q2 gs2 gm2 fun z M4 v4 G4 H4 q4 => k2 z M4 v4 G4 H4 (web q4)) e1 g1 ok)
/-- a dict cell of data becomes data -/
theorem GoodM.freezeK {K : PySem.W.Frag} {G H : Hp} {p : Addr} {kd : List (Key × PyData)} (g : GoodM K L M G H) (hc : M p = some (.k (slK kd))) : ∃ G', Ex G G' ∧ GoodM K L (delC M p) G' H ∧ At K G' (.ref p) (.dict (encK kd)) := by
  obtain ⟨f, xs, h1, h2⟩ := g.cell p _ hc
  refine ⟨upd G p (.dK xs), Ex.new f, ⟨fun a u e => ?_, fun a c e => ?_, g.lk⟩, .dic upd_same (AtK.mono (Ex.new f) (KvAt.at kd h2))⟩
  · by_cases ha : a = p
    · subst ha
      rw [upd_same] at e
      cases e
      exact .inl h1
    · rw [upd_ne ha] at e
      exact g.vw a u e
  · by_cases ha : a = p
    · subst ha
      rw [delC_same] at e
      cases e
    · rw [delC_ne ha] at e
      obtain ⟨z1, z2⟩ := g.cell a c e
      exact ⟨by rw [upd_ne ha]; exact z1, z2.mono (Ex.new f) fun o q => q⟩
theorem de_frzK (w : DE X L e τ M fun s M1 => ∃ p kd, s = .c p ∧ M1 p = some (.k (slK kd)) ∧ Q (.d (.dict (encK kd))) (delC M1 p)) : DE X L e τ M Q := fun σ G H Q' gs gm k =>
  w σ G H _ gs gm fun s M1 v G1 H1 ⟨p, ds, e, hp, q⟩ e1 g1 a1 => by
    subst e
    obtain ⟨G2, e2, g2, a2⟩ := g1.freezeK hp
    rw [sl_c a1]
    exact k _ _ _ G2 H1 q (e1.trans e2) g2 (.d a2)
/-- a statement's cell slot becomes data: the slot j holds the cell p -/
theorem db_frz {j : Nat} {p : Addr} {ds : List PyData} (hj : τ[j]? = some (some (.c p))) (hp : M p = some (.l (ds.map .d))) (w : DB X L sts (τ.set j (some (.d (.list ds)))) (delC M p) E) : DB X L sts τ M E := fun σ G H D gs gm k => by
  obtain ⟨G2, e2, g2, a2⟩ := gm.freeze hp
  obtain ⟨v, hv, av⟩ := gs.get j _ hj
  have ev := sl_c av
  subst ev
  have hset : σ.set j (some (.ref p)) = σ := by
    apply List.ext_getElem?
    intro n
    by_cases e : j = n
    · subst e
      obtain ⟨hl, _⟩ := List.getElem?_eq_some_iff.mp hv
      rw [List.getElem?_set_self hl, hv]
    · rw [List.getElem?_set_ne e]
  have gs2 := (gs.mono e2).set (v := .ref p) (SlAt.d a2) j
  rw [hset] at gs2
  exact w σ G2 H D gs2 g2 (k.mono e2)
end
end Y

namespace Y
open PySem L2 PyProof.Rows

theorem bt_isinstance : bootBuiltins "isinstance" = some (.builtin "isinstance") := by decide +kernel
theorem bt_len : bootBuiltins "len" = some (.builtin "len") := by decide +kernel
theorem bt_sum : bootBuiltins "sum" = some (.builtin "sum") := by decide +kernel
theorem bt_all : bootBuiltins "all" = some (.builtin "all") := by decide +kernel
theorem bt_min : bootBuiltins "min" = some (.builtin "min") := by decide +kernel
theorem bt_max : bootBuiltins "max" = some (.builtin "max") := by decide +kernel
theorem bt_abs : bootBuiltins "abs" = some (.builtin "abs") := by decide +kernel
theorem bt_sorted : bootBuiltins "sorted" = some (.builtin "sorted") := by decide +kernel
theorem bt_repr : bootBuiltins "repr" = some (.builtin "repr") := by decide +kernel
theorem bt_any : bootBuiltins "any" = some (.builtin "any") := by decide +kernel
theorem bt_int : bootBuiltins "int" = some (.type "int") := by decide +kernel
theorem bt_bool : bootBuiltins "bool" = some (.type "bool") := by decide +kernel
theorem bt_str : bootBuiltins "str" = some (.type "str") := by decide +kernel
theorem bt_list : bootBuiltins "list" = some (.type "list") := by decide +kernel
theorem bt_tuple : bootBuiltins "tuple" = some (.type "tuple") := by decide +kernel
theorem bt_dict : bootBuiltins "dict" = some (.type "dict") := by decide +kernel
theorem bt_type : bootBuiltins "type" = some (.type "type") := by decide +kernel
theorem bt_set : bootBuiltins "set" = some (.type "set") := by decide +kernel
theorem bt_zip : bootBuiltins "zip" = some (.type "zip") := by decide +kernel
theorem bt_enumerate : bootBuiltins "enumerate" = some (.type "enumerate") := by decide +kernel
theorem bt_range : bootBuiltins "range" = some (.type "range") := by decide +kernel
theorem bt_reversed : bootBuiltins "reversed" = some (.type "reversed") := by decide +kernel
theorem okTy_int : okTy "int" := PySem.TypeEq.meta_int
theorem okTy_str : okTy "str" := PySem.TypeEq.meta_str
theorem okTy_bool : okTy "bool" := PySem.TypeEq.meta_bool
theorem okTy_NoneType : okTy "NoneType" := PySem.TypeEq.meta_NoneType
theorem okTy_list : okTy "list" := PySem.TypeEq.meta_list
theorem okTy_tuple : okTy "tuple" := PySem.TypeEq.meta_tuple
theorem okTy_dict : okTy "dict" := PySem.TypeEq.meta_dict
/-! ### a < b < c < d as a test -/
def tChain3 (r1 r2 r3 : R2) (ta tb tc td : TE) : TT := fun σ H Q => ta σ H fun x H1 => tb σ H1 fun y H2 => r1 x y H2 fun z H3 => ∃ k, z = .bl k ∧ (if k = true then tc σ H3 fun y2 H4 => r2 y y2 H4 fun z2 H5 => ∃ k2, z2 = .bl k2 ∧ (if k2 = true then td σ H5 fun y3 H6 => r3 y2 y3 H6 fun z3 H7 => ∃ k3, z3 = .bl k3 ∧ Q k3 H7 else Q false H5) else Q false H3)
section
variable {X : Cx} {a b c d : Expr} {ta tb tc td : TE} {pos : Pos}
theorem pt_chain3 {op op' op'' : CmpOp} {r r' r'' : R2} (ho : OpR X (compareOp op) r) (ho' : OpR X (compareOp op') r') (ho'' : OpR X (compareOp op'') r'') (ha : PE X a ta) (hb : PE X b tb) (hc : PE X c tc) (hd : PE X d td)
    (hm : lastMarks [op, op', op''] [b, c, d] = false := by with_unfolding_all rfl) : PT X (.Compare a [op, op', op''] [b, c, d] pos) (tChain3 r r' r'' ta tb tc td) := by
  refine ⟨fun pins s σ H Q I h => ?_⟩
  refine isTrue_chain (thn (ha.run pins s σ H _ I h) fun v s1 ⟨x, H1, I1, r1, q1⟩ => test_link (thn (hb.run pins s1 σ H1 _ I1 q1) fun u s2 ⟨y, H2, I2, r2, q2⟩ =>
    thn (ho pins s2 σ H2 x y v u _ I2 r1 r2 q2) fun e s3 ⟨z, H3, I3, r3, k, ek, q3⟩ => ?_)) hm
  subst ek
  cases r3
  refine wpAny_truthy_bool ?_
  cases k with
  | false => exact ite_ff ⟨H3, I3, q3⟩
  | true =>
    refine ite_tt (test_link (thn (hc.run pins s3 σ H3 _ I3 q3) fun u4 s4 ⟨y4, H4, I4, r4, q4⟩ => thn (ho' pins s4 σ H4 y y4 u u4 _ I4 r2 r4 q4) fun e5 s5 ⟨z5, H5, I5, r5, k5, ek5, q5⟩ => ?_))
    subst ek5
    cases r5
    refine wpAny_truthy_bool ?_
    cases k5 with
    | false => exact ite_ff ⟨H5, I5, q5⟩
    | true =>
      refine ite_tt (test_last (thn (hd.run pins s5 σ H5 _ I5 q5) fun u6 s6 ⟨y6, H6, I6, r6, q6⟩ => thn (ho'' pins s6 σ H6 y4 y6 u4 u6 _ I6 r4 r6 q6) fun e7 s7 ⟨z7, H7, I7, r7, k7, ek7, q7⟩ => ?_))
      subst ek7
      cases r7
      exact wpAny_truthy_bool ⟨H7, I7, q7⟩
theorem dt_chain3 {op op' op'' : CmpOp} {r r' r'' : R2} {L : Lk} {τ : List (Option Sl)} {M : Cs} {QB : Bool → Cs → Prop} (ho : OpR X (compareOp op) r) (ho' : OpR X (compareOp op') r') (ho'' : OpR X (compareOp op'') r'')
    (w : DE X L a τ M fun x M1 => DE X L b τ M1 fun y M2 => R2k X.K L r x y M2 (BoolQ fun k M3 => (k = true → DE X L c τ M3 fun z M4 => R2k X.K L r' y z M4 (BoolQ fun k2 M5 => (k2 = true → DE X L d τ M5 fun t M6 => R2k X.K L r'' z t M6 (BoolQ QB)) ∧ (k2 = false → QB false M5))) ∧ (k = false → QB false M3)))
    (hm : lastMarks [op, op', op''] [b, c, d] = false := by with_unfolding_all rfl) : DT X L (.Compare a [op, op', op''] [b, c, d] pos) τ M QB :=
  dt_of (pt_chain3 ho ho' ho'' pe_s pe_s pe_s pe_s hm) fun σ G H Q' gs gm k =>
    w σ G H _ gs gm fun x M1 v G1 H1 q e1 g1 a1 => q σ G1 H1 _ (gs.mono e1) g1 fun y M2 u G2 H2 q2 e2 g2 a2 => q2 G2 H2 v u _ g2 (a1.mono e2) a2 fun s M3 z G3 H3 ⟨k1, e, q3, q4⟩ e3 g3 a3 => by
      subst e
      refine ⟨k1, sl_bl a3, ?_⟩
      have e13 := (e1.trans e2).trans e3
      cases k1 with
      | false =>
        rw [if_neg Bool.false_ne_true]
        exact (k.mono e13).go (q4 rfl) g3
      | true =>
        rw [if_pos rfl]
        refine q3 rfl σ G3 H3 _ (gs.mono e13) g3 fun t M4 w' G4 H4 q5 e4 g4 a4 => q5 G4 H4 u w' _ g4 ((a2.mono e3).mono e4) a4 fun s5 M5 z5 G5 H5 ⟨k5, e5', q6, q7⟩ e5 g5 a5 => ?_
        subst e5'
        refine ⟨k5, sl_bl a5, ?_⟩
        have e15 := (e13.trans e4).trans e5
        cases k5 with
        | false =>
          rw [if_neg Bool.false_ne_true]
          exact (k.mono e15).go (q7 rfl) g5
        | true =>
          rw [if_pos rfl]
          refine q6 rfl σ G5 H5 _ (gs.mono e15) g5 fun t6 M6 w6 G6 H6 q8 e6 g6 a6 => q8 G6 H6 w' w6 _ g6 ((a4.mono e5).mono e6) a6 fun s7 M7 z7 G7 H7 ⟨k7, e7', q9⟩ e7 g7 a7 => ?_
          subst e7'
          exact ⟨k7, sl_bl a7, k k7 M7 G7 H7 q9 ((e15.trans e6).trans e7) g7⟩
end
theorem no1 {P : Prop} (h : false = true) : P := nomatch h
theorem no2 {P : Prop} (h : true = false) : P := nomatch h
section
variable {X : Cx} {L : Lk} {τ : List (Option Sl)} {M : Cs} {QB QB2 : Bool → Cs → Prop} {c : Expr} {sts st2 : List Stmt} {pos : Pos} {E : Ks}
theorem dt_imp (w : DT X L c τ M QB2) (h : ∀ k M', QB2 k M' → QB k M') : DT X L c τ M QB := fun σ G H Q' gs gm k => w σ G H Q' gs gm fun b M' G' H' q => k b M' G' H' (h b M' q)
/-- an if whose test is told first -/
theorem ds_ifB (b : Bool) (h : DT X L c τ M fun k M1 => k = b ∧ M1 = M) (wt : b = true → DB X L sts τ M E) (wf : b = false → DB X L st2 τ M E) : DS X L (.If c sts st2 pos) τ M E := ds_if (dt_imp h fun k M1 ⟨e1, e2⟩ => by subst e1 e2; exact ⟨wt, wf⟩)
theorem ds_ifF (h : DT X L c τ M fun k M1 => k = false ∧ M1 = M) (w : DB X L st2 τ M E) : DS X L (.If c sts st2 pos) τ M E := ds_ifB false h (fun z => nomatch z) fun _ => w
theorem ds_ifT (h : DT X L c τ M fun k M1 => k = true ∧ M1 = M) (w : DB X L sts τ M E) : DS X L (.If c sts st2 pos) τ M E := ds_ifB true h (fun _ => w) fun z => nomatch z
end
/-! ### cells that nobody asks for -/
def Sub (M2 M1 : Cs) : Prop := ∀ a c, M2 a = some c → M1 a = some c
theorem Sub.refl (M : Cs) : Sub M M := fun _ _ h => h
theorem Sub.new {M M1 : Cs} {p : Addr} {c : Cell} (h : Sub M M1) (hp : M1 p = none) : Sub M (updC M1 p c) := fun a d e => by
  have e1 := h a d e
  rw [updC_ne (neC e1 hp)]
  exact e1
theorem Sub.put {M M1 : Cs} {p : Addr} {c : Cell} (h : Sub M M1) (hp : M p = none) : Sub M (updC M1 p c) := fun a d e => by
  rw [updC_ne (neC e hp)]
  exact h a d e
theorem Sub.del {M M1 : Cs} {p : Addr} (h : Sub M M1) (hp : M p = none) : Sub M (delC M1 p) := fun a d e => by
  rw [delC_ne (neC e hp)]
  exact h a d e
theorem Sub.none {M M1 : Cs} {p : Addr} (h : Sub M M1) (hp : M1 p = none) : M p = none := by
  cases e : M p with
  | none => rfl
  | some c => rw [h p c e] at hp; cases hp
theorem Sub.cong {M2 M1 : Cs} {p : Addr} {c : Cell} (h : Sub M2 M1) : Sub (updC M2 p c) (updC M1 p c) := fun a d e => by
  by_cases ha : a = p
  · subst ha
    rw [updC_same] at e ⊢
    exact e
  · rw [updC_ne ha] at e ⊢
    exact h a d e
theorem GoodM.sub {K : PySem.W.Frag} {L : Lk} {M1 M2 : Cs} {G H : Hp} (g : GoodM K L M1 G H) (h : Sub M2 M1) : GoodM K L M2 G H := ⟨g.vw, fun a c e => g.cell a c (h a c e), g.lk⟩
section
variable {X : Cx} {L : Lk} {τ : List (Option Sl)} {M : Cs} {Q : Sl → Cs → Prop} {e : Expr} {s : Sl} {sts : List Stmt} {E : Ks}
theorem de_gc (w : DE X L e τ M fun s M1 => ∃ M2, Sub M2 M1 ∧ Q s M2) : DE X L e τ M Q := fun σ G H Q' gs gm k => w σ G H _ gs gm fun s M1 v G1 H1 ⟨M2, h, q⟩ e1 g1 a1 => k s M2 v G1 H1 q e1 (g1.sub h) a1
theorem db_gc {M2 : Cs} (h : Sub M2 M) (w : DB X L sts τ M2 E) : DB X L sts τ M E := fun σ G H D gs gm k => w σ G H D gs (gm.sub h) k
theorem call_lenR : CallR X (.builtin "len") (fun xs H Q => ∃ a kvs, xs = [V.ref a] ∧ Rd H a (.dK kvs) ∧ Q (.int kvs.length) H) := by
  intro pins s σ H xs us Q I r h
  obtain ⟨a, kvs, rfl, ha, q⟩ := h
  obtain ⟨u, rfl, ru⟩ := vals1 r
  cases ru
  exact d_len I ha fun t s' I' => ⟨.int kvs.length, H, I', ⟨t, rfl⟩, q⟩
theorem k_lenD {kvs : List (Key × Sl)} (h : DictIs M s kvs) (q : Q (.d (.int kvs.length)) M) : RCk X.K L (fun xs H Q => ∃ a kvs, xs = [V.ref a] ∧ Rd H a (.dK kvs) ∧ Q (.int kvs.length) H) [s] M Q := fun G H vs Q' g a k => by
  obtain ⟨v, rfl, a1⟩ := sl1 a
  obtain ⟨p, xs, rfl, r, l⟩ := dict_at g a1 h
  exact ⟨p, xs, rfl, r, by rw [l.len]; exact k.go q g (.d (.int _))⟩
end
section
variable {X : Cx} {L : Lk} {τ : List (Option Sl)} {M : Cs} {st : Stmt} {sts : List Stmt} {E : Ks}
/-- a statement whose ways come together again -/
theorem db_consJ (J : List (Option Sl) → Cs → Prop) (w : DS X L st τ M { E with nx := J }) (h : ∀ τ' M', J τ' M' → DB X L sts τ' M' E) : DB X L (st :: sts) τ M E := db_cons fun σ G H D gs gm k => w σ G H D gs gm ⟨fun τ' M' σ' G' H' q => k.nx τ' M' σ' G' H' (h τ' M' q), k.rt, k.bk, k.ct⟩
end
/-- a def of the top: where it stands -/
def FunAt (K : PySem.W.Frag) (mg : Str → Option Value) (x : Str) (st : Stmt) (ps : List Str) : Prop := ∃ (f : Addr) (fd : FuncData), Fun K x x st f fd ∧ mg x = some (.ref f) ∧ Binds K fd ps []
/-- a def that may be called -/
def Cal (P : Program) (w : World) (K : PySem.W.Frag) (mg : Str → Option Value) (base : Heap) (x : Str) (k : Nat) (ps : List Str) (R : Rr) : Prop :=
  ∃ (f : Addr) (fd : FuncData), FnOk P w K mg base CX0 k f fd ps (Spk K R) ∧ mg x = some (.ref f) ∧ PySem.W.keepIn K (.ref f) = true ∧ Binds K fd ps []
theorem Cal.up {P : Program} {w : World} {K : PySem.W.Frag} {mg : Str → Option Value} {base : Heap} {x : Str} {j k : Nat} {ps : List Str} {R : Rr} (c : Cal P w K mg base x j ps R) (h : j ≤ k) : Cal P w K mg base x k ps R := by
  obtain ⟨f, fd, F, m, kp, b⟩ := c
  exact ⟨f, fd, F.mono h, m, kp, b⟩
section
variable {X : Cx} {L : Lk} {τ : List (Option Sl)} {M : Cs} {Q : Sl → Cs → Prop} {e : Expr} {es : List Expr} {pos p : Pos}
theorem de_callC {R : Rr} {k : Nat} {ps : List Str} {x : Str} (c : Cal X.prog X.w X.K X.mg X.base x k ps R) (hr : Room k X.A) (hg : Gl X x) (w : DA X L (e :: es) τ M fun ss M1 => R L ss M1 Q) (hdb : (x == ("__debug__" : Str)) = false := by decide)
    (he : starEach (e :: es) X.env = (false, eval e X.env) :: starEach es X.env := by rfl) (hpl : (backTo pos (starEach es X.env)).any (·.1) = false := by rfl) : DE X L (.Call (.Name x p) (e :: es) [] pos) τ M Q := by
  obtain ⟨f, fd, F, m, kp, b⟩ := c
  exact de_call F hr hg m kp b w hdb he hpl
end
abbrev cxF (P : Program) (w : World) (K : PySem.W.Frag) (mg : Str → Option Value) (base : Heap) (N : List Str) (x : Str) (st : Stmt) (f : Addr) (cdv : Value) (A : Around) (outer : List Env) (s : Shared) (H : Hp) (E : XK) : Cx := (cxOf CX0 P w K mg base N x (defScope st) f cdv A outer s H E).nox
theorem cal_of {P : Program} {w : World} {K : PySem.W.Frag} {mg : Str → Option Value} {base : Heap} {R : Rr} {x : Str} {st : Stmt} {N ps : List Str} {k : Nat} (F : FunAt K mg x st ps) (S : FnScope N ps (defScope st)) (hl : ∀ L ss M Q, R L ss M Q → ss.length = ps.length)
    (hb : ∀ (f : Addr) (cdv : Value) (A : Around) (outer : List Env) (s : Shared) (H : Hp) (E : XK) (L : Lk) (ss : List Sl) (M : Cs) (Q : Sl → Cs → Prop), Room k (cxF P w K mg base N x st f cdv A outer s H E).A → R L ss M Q →
      DB (cxF P w K mg base N x st f cdv A outer s H E) L (defBody st) (startK N ss) M { nx := fun _ M' => Q (.d .none) M', rt := Q }) : Cal P w K mg base x (k + 1) ps R := by
  obtain ⟨f, fd, F, m, b⟩ := F
  exact ⟨f, fd, fn_k F S hl fun cdv A outer s H E L ss M Q hr r => hb f cdv A outer s H E L ss M Q hr r, m, F.kp, b⟩
end Y

namespace Y
open PySem L2 PyProof.Rows
def tyD : PyData → String
  | .none => "NoneType"
  | .bool _ => "bool"
  | .int _ => "int"
  | .str _ => "str"
  | .list _ => "list"
  | .tuple _ => "tuple"
  | .dict _ => "dict"
def isaInt : PyData → Bool
  | .int _ => true
  | .bool _ => true
  | _ => false
def isaBool : PyData → Bool
  | .bool _ => true
  | _ => false
def isaStr : PyData → Bool
  | .str _ => true
  | _ => false
def isaDict : PyData → Bool
  | .dict _ => true
  | _ => false
def isaList : PyData → Bool
  | .list _ => true
  | _ => false
def isaTup : PyData → Bool
  | .tuple _ => true
  | _ => false
theorem kb_int (x : PyData) : kitB (tyD x) "int" = some (isaInt x) := by cases x <;> (simp only [tyD, isaInt, isaBool, isaStr, isaDict, isaList, isaTup]; decide +kernel)
theorem kb_bool (x : PyData) : kitB (tyD x) "bool" = some (isaBool x) := by cases x <;> (simp only [tyD, isaInt, isaBool, isaStr, isaDict, isaList, isaTup]; decide +kernel)
theorem kb_str (x : PyData) : kitB (tyD x) "str" = some (isaStr x) := by cases x <;> (simp only [tyD, isaInt, isaBool, isaStr, isaDict, isaList, isaTup]; decide +kernel)
theorem kb_dict (x : PyData) : kitB (tyD x) "dict" = some (isaDict x) := by cases x <;> (simp only [tyD, isaInt, isaBool, isaStr, isaDict, isaList, isaTup]; decide +kernel)
theorem kb_list (x : PyData) : kitB (tyD x) "list" = some (isaList x) := by cases x <;> (simp only [tyD, isaInt, isaBool, isaStr, isaDict, isaList, isaTup]; decide +kernel)
theorem kb_tup (x : PyData) : kitB (tyD x) "tuple" = some (isaTup x) := by cases x <;> (simp only [tyD, isaInt, isaBool, isaStr, isaDict, isaList, isaTup]; decide +kernel)
theorem tyName_d (M : Cs) (x : PyData) : tyName M (.d x) = some (tyD x) := by cases x <;> rfl
section
variable {X : Cx} {L : Lk} {M : Cs} {Q : Sl → Cs → Prop} {x : PyData}
theorem k_isaInt (q : Q (.d (.bool (isaInt x))) M) : RCk X.K L (rIsi X.K) [.d x, .t "int"] M Q := k_isi (tyName_d M x) (kb_int x) q
theorem k_isaBool (q : Q (.d (.bool (isaBool x))) M) : RCk X.K L (rIsi X.K) [.d x, .t "bool"] M Q := k_isi (tyName_d M x) (kb_bool x) q
theorem k_isaStr (q : Q (.d (.bool (isaStr x))) M) : RCk X.K L (rIsi X.K) [.d x, .t "str"] M Q := k_isi (tyName_d M x) (kb_str x) q
theorem k_isaDict (q : Q (.d (.bool (isaDict x))) M) : RCk X.K L (rIsi X.K) [.d x, .t "dict"] M Q := k_isi (tyName_d M x) (kb_dict x) q
theorem k_isaList (q : Q (.d (.bool (isaList x))) M) : RCk X.K L (rIsi X.K) [.d x, .t "list"] M Q := k_isi (tyName_d M x) (kb_list x) q
theorem k_isaTup (q : Q (.d (.bool (isaTup x))) M) : RCk X.K L (rIsi X.K) [.d x, .t "tuple"] M Q := k_isi (tyName_d M x) (kb_tup x) q
theorem k_typeD (h : isaDict x = false) (q : Q (.t (tyD x)) M) : RCk X.K L (rTyp X.K) [.d x] M Q := k_type (tyName_d M x) (fun kv e => by cases e; cases h) q
end
theorem okTy_d (x : PyData) : okTy (tyD x) := by
  cases x
  · exact okTy_NoneType
  · exact okTy_bool
  · exact okTy_int
  · exact okTy_str
  · exact okTy_list
  · exact okTy_tuple
  · exact okTy_dict
/-! ### one text joined -/
theorem join_one (z : Str) : Txt.join "" [z] = z := by
  first | rfl | simp [Txt.join]
/-! ### arguments, as data -/
def intOf : PyData → PyData
  | .int i => .int i
  | _ => .none
def short : PyData → Prop
  | .str z => z.length ≤ 16777216
  | _ => True
def strOf : PyData → PyData
  | .str z => .str z
  | _ => .none
def okName (z : Str) : Bool := decide (1 ≤ z.length) && (decide (z.length ≤ 8) && (Txt.isascii z && (Txt.isalpha z && Txt.islower z)))
def writerOf : PyData → PyData
  | .str z => if okName z = true then .str z else .none
  | _ => .none
end Y

namespace Y
open PySem L2 PyProof.Rows
/-! ### line counts, runs, contents -/
abbrev Cnt := List (Str × Int)
def kdC (cs : Cnt) : List (Key × PyData) := cs.map fun p => (.inr p.1, .int p.2)
def eCnt (cs : Cnt) : PyData := .dict (encK (kdC cs))
def eLc : Option Cnt → PyData
  | none => .none
  | some cs => eCnt cs
def getC (cs : Cnt) (z : Str) : Option Int := (cs.find? fun p => decide (p.1 = z)).map (·.2)
def high : Option Cnt → Str → Int
  | none, _ => 10 ^ 30
  | some cs, z => (getC cs z).getD 0
def okCnt (cs : Cnt) : Prop := 1 ≤ cs.length ∧ cs.length ≤ 12 ∧ (cs.map (·.1)).Nodup ∧ ∀ p ∈ cs, okName p.1 = true ∧ 0 ≤ p.2 ∧ p.2 ≤ 10 ^ 30
theorem valS_C (z : Str) : ∀ cs : Cnt, valS (slK (kdC cs)) (.inr z) = (getC cs z).map dI
  | [] => rfl
  | p :: r => by
    have ih := valS_C z r
    by_cases h : p.1 = z
    · simp [valS, slK, kdC, getC, List.find?_cons, h, dI]
    · have h' : ¬ (Sum.inr p.1 : Key) = Sum.inr z := fun e => h (Sum.inr.inj e)
      simp only [valS, slK, kdC, getC, List.map_cons, List.find?_cons, h, h', decide_false] at ih ⊢
      exact ih
abbrev Run := Str × Int × Int
def eRun (r : Run) : PyData := .tuple [.str r.1, .int r.2.1, .int r.2.2]
def sRun (r : Run) : Sl := .d (eRun r)
abbrev Line := Str × Int
def eLine (l : Line) : PyData := .tuple [.str l.1, .int l.2]
def sLine (l : Line) : Sl := .d (eLine l)
def okRun (lc : Option Cnt) (r : Run) : Prop := okName r.1 = true ∧ 1 ≤ r.2.1 ∧ r.2.1 ≤ r.2.2 ∧ r.2.2 ≤ high lc r.1
def okLine (lc : Option Cnt) (l : Line) : Prop := okName l.1 = true ∧ 1 ≤ l.2 ∧ l.2 ≤ high lc l.1
def cont (a b : Run) : Bool := decide (b.1 = a.1) && decide (b.2.1 = a.2.2 + 1)
def okC (lc : Option Cnt) (c : List Run) : Prop := (∀ r ∈ c, okRun lc r) ∧ ∀ (i : Nat) (a b : Run), c[i]? = some a → c[i + 1]? = some b → cont a b = false
/-- what plain_lines answers -/
def mkLines (lc : Option Cnt) (w f l : PyData) : PyData := match writerOf w, intOf f, intOf l with
  | .str z, .int a, .int b => if 1 ≤ a ∧ a ≤ b ∧ b ≤ high lc z then .tuple [.str z, .int a, .int b] else .none
  | _, _, _ => .none
theorem mkLines_n1 {lc : Option Cnt} {x y z : PyData} (h : isNone (.d (writerOf x)) = true) : mkLines lc x y z = .none := by
  unfold mkLines
  cases hx : writerOf x <;> rw [hx] at h <;> first | (cases h; done) | rfl
theorem mkLines_n2 {lc : Option Cnt} {x y z : PyData} (h : isNone (.d (intOf y)) = true) : mkLines lc x y z = .none := by
  unfold mkLines
  cases hy : intOf y <;> rw [hy] at h <;> first | (cases h; done) | (cases writerOf x <;> rfl)
theorem mkLines_n3 {lc : Option Cnt} {x y z : PyData} (h : isNone (.d (intOf z)) = true) : mkLines lc x y z = .none := by
  unfold mkLines
  cases hz : intOf z <;> rw [hz] at h <;> first | (cases h; done) | (cases writerOf x <;> cases intOf y <;> rfl)
theorem short_of_okName {z : Str} (h : okName z = true) : short (.str z) := by
  unfold okName at h
  simp only [Bool.and_eq_true, decide_eq_true_eq] at h
  show z.length ≤ 16777216
  omega
theorem mkLines_ok {lc : Option Cnt} {r : Run} (h : okRun lc r) : mkLines lc (.str r.1) (.int r.2.1) (.int r.2.2) = eRun r := by
  obtain ⟨h1, h2, h3, h4⟩ := h
  simp only [mkLines, writerOf, intOf, h1, if_true]
  rw [if_pos ⟨h2, h3, h4⟩]
  rfl
def withRun (c : List Run) (r : Run) : List Run := match c.getLast? with
  | some l => if cont l r = true then c.dropLast ++ [(r.1, l.2.1, r.2.2)] else c ++ [r]
  | none => c ++ [r]
def nLines (c : List Run) : Int := (c.map fun r => r.2.2 - r.2.1 + 1).sum
def tk (r : Run) (n : Int) : Int := if r.2.2 - r.2.1 + 1 < n then r.2.2 - r.2.1 + 1 else n
def cutF (r : Run) (t : Int) : List Run := if t > 0 then [(r.1, r.2.1, r.2.1 + t - 1)] else []
def cutB (r : Run) (t : Int) : List Run := if r.2.1 + t ≤ r.2.2 then [(r.1, r.2.1 + t, r.2.2)] else []
def cutC : List Run → Int → List Run × List Run
  | [], _ => ([], [])
  | r :: c, n => (cutF r (tk r n) ++ (cutC c (n - tk r n)).1, cutB r (tk r n) ++ (cutC c (n - tk r n)).2)
def cutN : List Run → Int → Nat → Int
  | [], n, _ => n
  | _ :: _, n, 0 => n
  | r :: c, n, i + 1 => cutN c (n - tk r n) i
theorem cutN_zero (c : List Run) (n : Int) : cutN c n 0 = n := by cases c <;> rfl
theorem cutN_succ : ∀ (c : List Run) (n : Int) (i : Nat) (h : i < c.length), cutN c n (i + 1) = cutN c n i - tk c[i] (cutN c n i)
  | [], _, _, h => by simp at h
  | r :: c, n, 0, h => cutN_zero c _
  | r :: c, n, i + 1, h => cutN_succ c (n - tk r n) i (by simpa using h)
theorem cut_take : ∀ (c : List Run) (n : Int) (i : Nat) (h : i < c.length), cutC (c.take (i + 1)) n = ((cutC (c.take i) n).1 ++ cutF c[i] (tk c[i] (cutN c n i)), (cutC (c.take i) n).2 ++ cutB c[i] (tk c[i] (cutN c n i)))
  | [], _, _, h => by simp at h
  | r :: c, n, 0, h => by
    show (cutF r (tk r n) ++ (cutC (c.take 0) (n - tk r n)).1, cutB r (tk r n) ++ (cutC (c.take 0) (n - tk r n)).2) = ([] ++ cutF r (tk r n), [] ++ cutB r (tk r n))
    rw [List.take_zero]
    show (cutF r (tk r n) ++ [], cutB r (tk r n) ++ []) = _
    rw [List.append_nil, List.append_nil, List.nil_append, List.nil_append]
  | r :: c, n, i + 1, h => by
    have h' : i < c.length := by simpa using h
    have := cut_take c (n - tk r n) i h'
    show (cutF r (tk r n) ++ (cutC (c.take (i + 1)) (n - tk r n)).1, cutB r (tk r n) ++ (cutC (c.take (i + 1)) (n - tk r n)).2) = ((cutF r (tk r n) ++ (cutC (c.take i) (n - tk r n)).1) ++ cutF c[i] (tk c[i] (cutN c (n - tk r n) i)), (cutB r (tk r n) ++ (cutC (c.take i) (n - tk r n)).2) ++ cutB c[i] (tk c[i] (cutN c (n - tk r n) i)))
    rw [this, List.append_assoc, List.append_assoc]
theorem cutF_len (r : Run) (t : Int) : (cutF r t).length ≤ 1 := by
  unfold cutF
  split <;> simp
theorem cutB_len (r : Run) (t : Int) : (cutB r t).length ≤ 1 := by
  unfold cutB
  split <;> simp
theorem cut_len1 : ∀ (c : List Run) (n : Int), (cutC c n).1.length ≤ c.length ∧ (cutC c n).2.length ≤ c.length
  | [], _ => ⟨Nat.le_refl _, Nat.le_refl _⟩
  | r :: c, n => by
    obtain ⟨h1, h2⟩ := cut_len1 c (n - tk r n)
    have h3 := cutF_len r (tk r n)
    have h4 := cutB_len r (tk r n)
    constructor
    · show (cutF r (tk r n) ++ (cutC c (n - tk r n)).1).length ≤ c.length + 1
      rw [List.length_append]
      omega
    · show (cutB r (tk r n) ++ (cutC c (n - tk r n)).2).length ≤ c.length + 1
      rw [List.length_append]
      omega
/-- a list or tuple, cell or data -/
def LT (M : Cs) (s : Sl) (ss : List Sl) : Prop := seqOf M s = some ss ∧ (tyName M s = some "list" ∨ tyName M s = some "tuple")
theorem LT.list (M : Cs) (ds : List PyData) : LT M (.d (.list ds)) (ds.map .d) := ⟨rfl, .inl rfl⟩
theorem LT.tup (M : Cs) (ds : List PyData) : LT M (.d (.tuple ds)) (ds.map .d) := ⟨rfl, .inr rfl⟩
theorem LT.cell {M : Cs} {a : Addr} {ss : List Sl} (h : M a = some (.l ss)) : LT M (.c a) ss := ⟨by simp only [seqOf, h], .inl (by simp only [tyName, h])⟩
/-- a cell elsewhere does not matter -/
theorem seqOf_updC {M : Cs} {s : Sl} {ss : List Sl} {p : Addr} {c : Cell} (h : seqOf M s = some ss) (hp : M p = none) : seqOf (updC M p c) s = some ss := by
  cases s with
  | c a =>
    by_cases e : a = p
    · subst e
      simp only [seqOf, hp] at h
      cases h
    · simp only [seqOf, updC_ne e]
      exact h
  | d x => cases x <;> exact h
  | t n => exact h
  | u l => exact h
  | s n => exact h
theorem tyName_updC {M : Cs} {s : Sl} {n : String} {p : Addr} {c : Cell} (h : tyName M s = some n) (hp : M p = none) : tyName (updC M p c) s = some n := by
  cases s with
  | c a =>
    by_cases e : a = p
    · subst e
      simp only [tyName, hp] at h
      cases h
    · simp only [tyName, updC_ne e]
      exact h
  | d x => cases x <;> exact h
  | t n => exact h
  | u l => exact h
  | s n => exact h
theorem LT.upd {M : Cs} {s : Sl} {ss : List Sl} {p : Addr} {c : Cell} (h : LT M s ss) (hp : M p = none) : LT (updC M p c) s ss := ⟨seqOf_updC h.1 hp, h.2.imp (fun z => tyName_updC z hp) (fun z => tyName_updC z hp)⟩
/-- the item at i, by Python's subscript -/
theorem atI_n {α : Type} {xs : List α} {j : Nat} {v : α} (h : xs[j]? = some v) : atI xs ((j : Nat) : Int) = some v := atI_nat h
theorem atI_0 {α : Type} {xs : List α} {v : α} (h : xs[0]? = some v) : atI xs 0 = some v := atI_nat (j := 0) h
theorem atI_1 {α : Type} {xs : List α} {v : α} (h : xs[1]? = some v) : atI xs 1 = some v := atI_nat (j := 1) h
theorem atI_2 {α : Type} {xs : List α} {v : α} (h : xs[2]? = some v) : atI xs 2 = some v := atI_nat (j := 2) h
theorem atI_l {α : Type} {xs : List α} {v : α} (h : xs.getLast? = some v) : atI xs (-1) = some v := by
  obtain ⟨ys, e⟩ := List.getLast?_eq_some_iff.mp h
  rw [e]
  exact atI_last ys v
end Y

namespace PySem.W
open PySem
section
variable {prog : Program} {w : World} {A : Around} {E : Value → Shared → Prop} {s : Shared}
theorem ylt_hint {x : Str} {t : Tok} {Q : Bool → Shared → Prop} (h : Q false s) : wpAny (model prog w) A (Builtin.List.listLengthHint (.str x t)) Q E s := by
  unfold Builtin.List.listLengthHint
  refine wpAny_bind (wpAny_specialOf (typeIs_str s x t) PySem.F.slot_str_len.lookup ?_)
  generalize hid : ("str.__len__" : String) = id0
  wp_delta
  rw [show splitId id0 = some ("str", "__len__") from by subst hid; decide +kernel]
  subst hid
  refine wpAny_bind (wpAny_isInstance (T := "str") (b := true) (typeIs_str s x t) (by rw [isSubtype_type]; kernel_rfl) ?_)
  refine wpAny_ite_split (fun hab => absurd hab (by decide)) (fun _ => ?_)
  refine wpAny_ite_split (fun _ => ?_) (fun hab => absurd (by decide +kernel) hab)
  refine wpAny_bind (wpAny_typeOf (typeIs_str s x t) ?_)
  exact wpAny_pure h
theorem ylt_extend {R : Result → Shared → Prop} {x : Str} {t : Tok} (hh : A.handled = none) (S : Addr) (res : Value) (c₀ : Nat) (hS : s.heap.get? S = some { cls := .type "list", data := .seq #[] c₀ })
    (hR : ∀ h' tk acc' c', (∀ b o, b ≠ S → s.heap.get? b = some o → h'.get? b = some o) → h'.get? S = some { cls := .type "list", dict := none, data := .seq acc' c', slots := #[] } → ItemsOf (SignAt x) acc' x.cps.size → R (.ok (.ret res)) { s with heap := h', toks := tk }) (hn : x.cps.size ≤ sizeLine) :
    wpAny (model prog w) A.in1 (Builtin.List.listExtendWith (.ref S) (.str x t) res)
      (fun fin s' => match fin with | .done f => R (.ok f) s' | .again c' => c'.quiet = true ∧ codeAny (model prog w) A c' R s') (fun e s' => R (.error e) s') s := by
  have hSI : S ≠ s.heap.objs.size := Nat.ne_of_lt (Heap.lt_size hS)
  have hSf : S ∉ [s.heap.objs.size] := by simp only [List.mem_cons, List.not_mem_nil, or_false]; exact hSI
  unfold Builtin.List.listExtendWith
  refine wpAny_bind (wpAny_typeOf (T := "str") (typeIs_str s x t) ?_)
  have h1 : Builtin.List.listSameRef (.ref S) (.str x t) = false := rfl
  simp only [h1, show (Value.type "str" == Value.type "list") = false by decide +kernel, show (Value.type "str" == Value.type "tuple") = false by decide +kernel, Bool.or_false, Bool.false_eq_true, if_false]
  refine wpAny_bind (wpAny_pyIter_str fun oI St hW st => ?_)
  have W := hW A hh
  have key : ∀ (h : Heap) (c₁ tk : Nat), St 0 h → (∀ b o, b ≠ S → s.heap.get? b = some o → h.get? b = some o) →
      h.get? S = some { cls := .type "list", data := .seq #[] c₁ } → codeAny (model prog w) A (.builtin "list.extend.loop" ⟨[.ref S, .ref s.heap.objs.size, res], []⟩) R { s with heap := h, toks := tk } := by
    intro h c₁ tk hst hk hS₁
    refine codeAny_extend_loopS (hW A.in1 hh).toS hn S hSf res x.cps.size 0 _ #[] c₁ rfl (Nat.zero_le _) hst hS₁ (ItemsOf.nil _) fun s' acc' c' hm hS' hacc => ?_
    rw [Moved.eq_with hm]
    refine hR s'.heap s'.toks acc' c' (fun b o hb e => hm.heap b o (fun hmem => ?_) (hk b o hb e)) hS' hacc
    rcases List.mem_cons.mp hmem with e' | hmem
    · exact hb e'
    · exact absurd (Heap.lt_size e) (by rw [List.mem_singleton.mp hmem]; exact Nat.lt_irrefl _)
  have hS₁ := Heap.get?_push_of_some oI hS
  refine wpAny_bind (wpAny_holding (ylt_hint ?_))
  refine wpAny_ite_split (fun _ => ?_) (fun _ => wpAny_pure ⟨plainId_quiet PySem.F.plain_extend_loop _, key _ c₀ _ st (fun b o _ e => Heap.get?_push_of_some _ e) hS₁⟩)
  refine wpAny_bind (wpAny_rule ?_)
  refine wpAny_bind ?_
  show wpAny _ _ (updateSeq S (·.push .none) >>= fun _ => updateSeq S (·.pop)) _ _ _
  refine wpAny_bind (wpAny_updateSeq hS₁ rfl ?_)
  have hS₂ := Heap.get?_update_self (Obj.mapSeq (·.push Value.none)) hS₁ rfl
  refine wpAny_updateSeq (hz := by seq_fits) hS₂ rfl ?_
  have hS₃ := Heap.get?_update_self (Obj.mapSeq (·.pop)) hS₂ rfl
  refine wpAny_pure ⟨plainId_quiet PySem.F.plain_extend_loop _, key _ _ _ ?_ (fun b o hb e => ?_) hS₃⟩
  · refine W.frame 0 _ _ st fun b hb o e => ?_
    have hbS : b ≠ S := fun h => hSf (h ▸ hb)
    exact (Heap.get?_update_other _ _ (Ne.symm hbS)).trans ((Heap.get?_update_other _ _ (Ne.symm hbS)).trans e)
  · exact (Heap.get?_update_other _ _ (Ne.symm hb)).trans ((Heap.get?_update_other _ _ (Ne.symm hb)).trans (Heap.get?_push_of_some _ e))
theorem ylt_init {R : Result → Shared → Prop} {x : Str} {t : Tok} (hh : A.handled = none) (S : Addr) (hS : s.heap.get? S = some { cls := .type "list", data := .seq #[] })
    (hR : ∀ h' tk acc' c', (∀ b o, b ≠ S → s.heap.get? b = some o → h'.get? b = some o) → h'.get? S = some { cls := .type "list", dict := none, data := .seq acc' c', slots := #[] } → ItemsOf (SignAt x) acc' x.cps.size → R (.ok (.ret .none)) { s with heap := h', toks := tk }) (hn : x.cps.size ≤ sizeLine) :
    wpAny (model prog w) A.in1 (Builtin.«list.__init__» ⟨[.ref S, .str x t], []⟩)
      (fun fin s' => match fin with | .done f => R (.ok f) s' | .again c' => c'.quiet = true ∧ codeAny (model prog w) A c' R s') (fun e s' => R (.error e) s') s := by
  show wpAny _ _ (do let old ← Builtin.List.listItems (.ref S); Builtin.List.listUpdate (.ref S) (fun _ => #[]); letGo old.toList.reverse; Builtin.List.listExtendWith (.ref S) (.str x t) .none) _ _ s
  refine wpAny_bind ?_
  unfold Builtin.List.listItems
  refine wpAny_bind (wpAny_seqItems hS rfl (wpAny_pure ?_))
  show wpAny _ _ (updateSeq S (fun _ => #[]) >>= fun _ => letGo (#[] : Array Value).toList.reverse >>= fun _ => Builtin.List.listExtendWith (.ref S) (.str x t) .none) _ _ s
  refine wpAny_bind (wpAny_updateSeq hS rfl ?_)
  have hS₂ := Heap.get?_update_self (Obj.mapSeq (fun _ => (#[] : Array Value))) hS rfl
  have oth : ∀ b o, b ≠ S → s.heap.get? b = some o → (s.heap.update S (Obj.mapSeq (fun _ => (#[] : Array Value)))).get? b = some o :=
    fun b o hb e => (Heap.get?_update_other _ _ (Ne.symm hb)).trans e
  refine wpAny_bind (wpAny_letGo ?_)
  refine ylt_extend hh S .none _ hS₂ (fun h' tk acc' c' hk hS' hacc => ?_) hn
  exact hR h' tk acc' c' (fun b o hb e => hk b o hb (oth b o hb e)) hS' hacc
theorem ylt_call {Q : Value → Shared → Prop} {x : Str} {t : Tok} (hh : A.handled = none) (hn : x.cps.size ≤ sizeLine)
    (hQ : ∀ h' tk acc' c', (∀ b o, s.heap.get? b = some o → h'.get? b = some o) → h'.get? s.heap.objs.size = some { cls := .type "list", dict := none, data := .seq acc' c', slots := #[] } → ItemsOf (SignAt x) acc' x.cps.size → Q (.ref s.heap.objs.size) { s with heap := h', toks := tk }) :
    wpAny (model prog w) A (call (.type "list") [.str x t]) Q E s := by
  refine callType_codes (Q₁ := fun obj s₁ => obj = .ref s.heap.objs.size ∧ s₁ = { s with heap := s.heap.push { cls := .type "list", data := .seq #[] } }) PySem.F.called_list (PySem.F.typeCall_list_1 _) PySem.F.entry_list_init
    (code_list_new _ ⟨rfl, rfl⟩) fun obj s₁ h₁ => ?_
  obtain ⟨rfl, rfl⟩ := h₁
  have hS : (s.heap.push { cls := .type "list", data := .seq #[] }).get? s.heap.objs.size = some { cls := .type "list", data := .seq #[] } := Heap.get?_push_size _ rfl
  refine ⟨⟨_, hS, rfl⟩, PySem.F.args_list_init_2 _ _, ylt_init (A := A.in1) hh _ hS (fun h' tk acc' c' hk hS' hacc => ?_) hn⟩
  exact ⟨rfl, hQ h' tk acc' c' (fun b o e => hk b o (Nat.ne_of_lt (Heap.lt_size e)) (Heap.get?_push_of_some _ e)) hS' hacc⟩
end
end PySem.W
namespace Y
open PySem L2 PyProof.Rows
def signs (x : Str) : List Str := x.cps.toList.map fun c => ⟨#[c]⟩
section
variable {X : Cx} {L : Lk} {M : Cs} {Q : Sl → Cs → Prop}
theorem call_listS (hc : X.calm = true) : CallR X (.type "list") (fun xs H Q => ∃ x : Str, xs = [.str x] ∧ x.cps.size ≤ sizeLine ∧ ∀ l, H l = none → Q (.ref l) (upd H l (.lst ((signs x).map V.str)))) := by
  intro pins s σ H xs us Q I r h
  obtain ⟨x, rfl, hn, q⟩ := h
  obtain ⟨u, rfl, t, rfl⟩ := vals1 r
  refine PySem.W.ylt_call (I.ok.hd hc) hn fun h' tk acc c' hk hD hacc => ?_
  have hv : Vals ((signs x).map V.str) acc.toList := by
    have hl : (signs x).length = acc.toList.length := by
      have e1 : acc.size = x.cps.size := hacc.1
      simp only [signs, List.length_map, Array.length_toList, e1]
    have gen : ∀ (ys : List Str) (vs : List Value), ys.length = vs.length → (∀ (j : Nat) y v, ys[j]? = some y → vs[j]? = some v → RelV (.str y) v) → Vals (ys.map V.str) vs := by
      intro ys
      induction ys with
      | nil => intro vs hl _; cases vs with
        | nil => exact .nil
        | cons a b => simp at hl
      | cons y r ih => intro vs hl f; cases vs with
        | nil => simp at hl
        | cons a b => exact .cons (f 0 y a rfl rfl) (ih b (by simpa using hl) fun j y v h1 h2 => f (j + 1) y v (by simpa using h1) (by simpa using h2))
    refine gen _ _ hl fun j y v h1 h2 => ?_
    obtain ⟨c, u, e1, e2⟩ := hacc.2 j v (by rw [← Array.getElem?_toList]; exact h2)
    subst e2
    have e3 : y = ⟨#[c]⟩ := by
      unfold signs at h1
      rw [List.getElem?_map, Array.getElem?_toList, e1] at h1
      exact (Option.some.inj h1).symm
    subst e3
    exact ⟨u, rfl⟩
  refine ⟨.ref s.heap.objs.size, upd H s.heap.objs.size (.lst ((signs x).map V.str)), I.laid (t' := tk) hk (Nat.le_refl _)
    (show ObjOk X.prog X.w _ _ _ (.lst ((signs x).map V.str)) from ⟨by rw [List.length_map]; simp [signs]; exact hn, acc.toList, c', hv, by rw [Array.toArray_toList]; exact hD⟩), rfl, q _ (I.hok.fresh (Nat.le_refl _))⟩
theorem k_listS {x : Str} (hn : x.cps.size ≤ sizeLine) (q : ∀ p, M p = none → Q (.c p) (updC M p (.l ((signs x).map dS)))) : RCk X.K L (fun xs H Q => ∃ x : Str, xs = [.str x] ∧ x.cps.size ≤ sizeLine ∧ ∀ l, H l = none → Q (.ref l) (upd H l (.lst ((signs x).map V.str)))) [dS x] M Q := fun G H vs Q' g a k => by
  obtain ⟨v, rfl, a1⟩ := sl1 a
  rw [sl_str a1]
  exact ⟨x, rfl, hn, fun c hc => k _ _ _ G _ (q c (g.free hc).2) (Ex.refl G) (g.newC hc ⟨_, upd_same, strs_sl _⟩) (.c c)⟩
/-- isinstance(x, (A, B)) -/
def rIsiR (K : PySem.W.Frag) : List V → Hp → VK → Prop := fun xs H Q => ∃ (x : V) (tp : Addr) (cs : List V) (t : Value) (us : List Value) (b : Bool), xs = [x, .ref tp] ∧ Rd H tp (.tup cs) ∧ Paired ClsV cs us ∧ TyX K H x t ∧ PySem.W.kitAny K t us = some b ∧ Q (.bl b) H
theorem call_isiR : CallR X (.builtin "isinstance") (rIsiR X.K) := by
  intro pins s σ H xs us Q I r h
  obtain ⟨x, tp, cs, t, ws, b, rfl, hT, k, ty, e, q⟩ := h
  obtain ⟨u1, u2, rfl, r1, r2⟩ := vals2 r
  cases (show u2 = Value.ref tp from r2)
  obtain ⟨P, Z, p, hx⟩ := kit_of I r1 ty
  obtain ⟨_, its, rv, o, h1, h2, n, h3⟩ := (show ObjOk X.prog X.w H s.heap tp (.tup cs) from hT.ok I.hok)
  have e3 := ClsV.all k rv
  subst e3
  obtain ⟨oc, od, dt, sl⟩ := o
  simp only at h2 h3
  subst h2 h3
  exact PySem.W.kia_tup Z I.kIn p h1 e hx fun tk => ⟨.bl b, H, I.tok tk, rfl, q⟩
theorem cls_paired : ∀ ts : List String, Paired ClsV (ts.map V.ty) (ts.map Value.type)
  | [] => .nil
  | t :: r => .cons (.ty t) (cls_paired r)
theorem k_isiR {s : Sl} {ts : List String} {n : String} {b : Bool} (h : tyName M s = some n) (hb : ∀ K, PySem.W.kitAny K (.type n) (ts.map Value.type) = some b) (q : Q (.d (.bool b)) M) : RCk X.K L (rIsiR X.K) [s, .u (ts.map .t)] M Q := fun G H vs Q' g a k => by
  obtain ⟨v, u, rfl, a1, a2⟩ := sl2 a
  cases a2 with
  | u e l =>
    have z := tys_sl l
    subst z
    exact ⟨v, _, _, .type n, ts.map Value.type, b, rfl, g.rd e, cls_paired ts, ty_at g a1 h, hb _, k.go q g (.d (.bl _))⟩
theorem kitAny_LT (K : PySem.W.Frag) (x : PyData) : PySem.W.kitAny K (.type (tyD x)) (["list", "tuple"].map Value.type) = some (isaList x || isaTup x) := by
  refine kitAny_cons (kit_ty (kb_list x)) (fun h => ?_) (fun h => by rw [h]; rfl)
  refine kitAny_cons (kit_ty (kb_tup x)) (fun h2 => ?_) (fun h2 => by rw [h, h2]; rfl)
  rw [h, h2]
  exact kitAny_nil
end
/-! name = [..] where the comprehension is a statement's whole value -/
section
variable {X : Cx} {L : Lk} {τ : List (Option Sl)} {M : Cs} {elt tg iter c : Expr} {scope : Scope} {own : List (Str × Nat)} {pos spos py : Pos} {g : TG} {E : Ks} {i : Nat} {y : Str}
theorem ds_setLc1 (hc : X.calm = true) (hN : X.N.Nodup) (hy : X.N[i]? = some y) (hyl : X.env.scope.names.lookup y = some .local)
    (hsw : swapsWith (.ListComp elt [⟨tg, iter, [c], 0⟩] scope pos) (some (.Name y py)) spos.line X.env = pure true) (ok : BlkOk X.N X.env.scope scope own) (hg : ∀ (s : Shared) (H : Hp) (C : Addr) (cl : List (Str × Addr)) (fp : List Addr), PG (X.blk s H scope (compEnvC scope cl C X.env) fp) tg g)
    (w : DI X L tg iter τ M fun n S ys M1 => ∀ D, M1 D = none → ∃ Iv : Nat → Cs → Prop, Iv 0 (updC M1 D (.l [])) ∧ (∀ i M', Iv i M' → S M') ∧
      (∀ i y M', i < n → ys i y → Iv i M' → WGw X.K L (own.map (·.2)) g y (wipeK τ (own.map (·.2))) M' fun τ2 M3 => DTb X scope L c τ2 M3 fun d M3 => (d = true → DEb X scope L elt τ2 M3 fun z M4 => ∃ acc, M4 D = some (.l acc) ∧ acc.length < sizeLine ∧ Iv (i + 1) (updC M4 D (.l (acc ++ [z])))) ∧ (d = false → Iv (i + 1) M3)) ∧ (∀ M', Iv n M' → E.nx (τ.set i (some (.c D))) M'))
    (hs : ∀ x, foldedSetIterable iter X.env x = pure x := by intro _; rfl) : DS X L (.Assign [.Name y py] (.ListComp elt [⟨tg, iter, [c], 0⟩] scope pos) spos) τ M E := by
  refine ds_of (ps_setLc (te := bE X scope elt) (tt := bT X scope c) hc hN hy hyl hsw pi_s ok hg (fun s H C cl fp => pts_one ⟨fun pins s' σ H' Q' I h => h s H C cl fp pins s' I⟩) (fun s H C cl fp => ⟨fun pins s' σ H' Q' I h => h s H C cl fp pins s' I⟩) hs) fun σ G H D gs gm k => ?_
  refine we_lc (L := L) (M := M) (τ := τ) (Q := fun s M' => E.nx (τ.set i (some s)) M') (fun σ G H R gs gm k => w σ G H R gs gm fun n S ys M1 G1 H1 J q e1 g1 ok => k n S ys M1 G1 H1 J (fun D hD => ?_) e1 g1 ok) σ G H _ gs gm (fun s M1 v G1 H1 q e1 g1 a1 => (k.nx.mono e1).go q g1 ((gs.mono e1).set a1 i))
  obtain ⟨Iv, i0, st, turn, fin⟩ := q D hD
  refine ⟨Iv, i0, st, fun i y M' hi yy iv => ?_, fin⟩
  intro σ G H v Q' gs gm a k
  refine turn i y M' hi yy iv σ G H v Q' gs gm a fun τ' M' σ' G' H' h => k τ' M' σ' G' H' ?_
  intro σ G H Q' gs gm k
  exact wtb h σ G H Q' gs gm fun d M5 G5 H5 q5 => k d M5 G5 H5 ⟨fun z => web (q5.1 z), q5.2⟩
end
section
variable {X : Cx} {L : Lk} {τ : List (Option Sl)} {M : Cs} {Q : Sl → Cs → Prop} {a b c : Expr} {p2 pos : Pos}
theorem de_slHi (w : DE X L a τ M fun x M1 => DE X L b τ M1 fun y M2 => ∃ n, y = .d (.int n) ∧ ∃ ss, isTup x = false ∧ seqOf M2 x = some ss ∧ ∀ p, M2 p = none → Q (.c p) (updC M2 p (.l (cutG ss none (some n))))) : DE X L (.Subscript a (.Slice none (some b) none p2) pos) τ M Q := de_sl (lo := none) (hi := some b) w
theorem de_slLo (w : DE X L a τ M fun x M1 => DE X L b τ M1 fun y M2 => ∃ n, y = .d (.int n) ∧ ∃ ss, isTup x = false ∧ seqOf M2 x = some ss ∧ ∀ p, M2 p = none → Q (.c p) (updC M2 p (.l (cutG ss (some n) none)))) : DE X L (.Subscript a (.Slice (some b) none none p2) pos) τ M Q := de_sl (lo := some b) (hi := none) w
theorem de_slLH (w : DE X L a τ M fun x M1 => DE X L b τ M1 fun y M2 => ∃ m, y = .d (.int m) ∧ DE X L c τ M2 fun z M3 => ∃ n, z = .d (.int n) ∧ ∃ ss, isTup x = false ∧ seqOf M3 x = some ss ∧ ∀ p, M3 p = none → Q (.c p) (updC M3 p (.l (cutG ss (some m) (some n))))) : DE X L (.Subscript a (.Slice (some b) (some c) none p2) pos) τ M Q := de_sl (lo := some b) (hi := some c) w
end
/-! ### slices of lists, at places that are told -/
theorem cutG_hi {α : Type} (xs : List α) (n : Nat) : cutG xs none (some (n : Int)) = xs.take n := by
  unfold cutG
  rw [HT.sIx_none, HT.sIx_nat, List.drop_zero, Nat.sub_zero]
  by_cases h : n ≤ xs.length
  · rw [Nat.min_eq_left h]
  · rw [Nat.min_eq_right (by omega), List.take_of_length_le (Nat.le_refl _), List.take_of_length_le (by omega)]
theorem cutG_lohi {α : Type} (xs : List α) (m n : Nat) : cutG xs (some (m : Int)) (some (n : Int)) = (xs.take n).drop m := by
  unfold cutG
  rw [HT.sIx_nat, HT.sIx_nat, List.drop_take]
  by_cases h : m ≤ xs.length
  · rw [Nat.min_eq_left h]
    by_cases h2 : n ≤ xs.length
    · rw [Nat.min_eq_left h2]
    · rw [Nat.min_eq_right (by omega), List.take_of_length_le (by rw [List.length_drop]; omega), List.take_of_length_le (by rw [List.length_drop]; omega)]
  · rw [Nat.min_eq_right (show xs.length ≤ m by omega), List.drop_of_length_le (Nat.le_refl _), List.drop_of_length_le (show xs.length ≤ m by omega)]
    simp
/-! ### equal data -/
theorem eqvAll_map {α : Type} [DecidableEq α] (f : α → PyData) (h : ∀ a b, PyData.eqv (f a) (f b) = decide (a = b)) : ∀ c d : List α, PyData.eqvAll (c.map f) (d.map f) = decide (c = d)
  | [], [] => by simp [PyData.eqvAll]
  | [], _ :: _ => by simp [PyData.eqvAll]
  | _ :: _, [] => by simp [PyData.eqvAll]
  | a :: c, b :: d => by
    show (PyData.eqv (f a) (f b) && PyData.eqvAll (c.map f) (d.map f)) = _
    rw [h, eqvAll_map f h c d]
    by_cases e : a = b <;> by_cases e2 : c = d <;> simp [e, e2]
theorem eqv_list {α : Type} [DecidableEq α] (f : α → PyData) (h : ∀ a b, PyData.eqv (f a) (f b) = decide (a = b)) (c d : List α) : PyData.eqv (.list (c.map f)) (.list (d.map f)) = decide (c = d) := eqvAll_map f h c d
theorem eqv_int (a b : Int) : PyData.eqv (.int a) (.int b) = decide (a = b) := by
  show (a == b) = _
  by_cases e : a = b <;> simp [e]
theorem eqv_str (a b : Str) : PyData.eqv (.str a) (.str b) = decide (a = b) := by
  show (a == b) = _
  by_cases e : a = b <;> simp [e]
theorem eqv_run (a b : Run) : PyData.eqv (eRun a) (eRun b) = decide (a = b) := by
  obtain ⟨w, f, l⟩ := a
  obtain ⟨w', f', l'⟩ := b
  show (PyData.eqv (.str w) (.str w') && (PyData.eqv (.int f) (.int f') && (PyData.eqv (.int l) (.int l') && true))) = _
  rw [eqv_str, eqv_int, eqv_int]
  by_cases e1 : w = w' <;> by_cases e2 : f = f' <;> by_cases e3 : l = l' <;> simp [e1, e2, e3]
theorem eqv_line (a b : Line) : PyData.eqv (eLine a) (eLine b) = decide (a = b) := by
  obtain ⟨w, f⟩ := a
  obtain ⟨w', f'⟩ := b
  show (PyData.eqv (.str w) (.str w') && (PyData.eqv (.int f) (.int f') && true)) = _
  rw [eqv_str, eqv_int]
  by_cases e1 : w = w' <;> by_cases e2 : f = f' <;> simp [e1, e2]
theorem strOk_name {z : Str} (h : okName z = true) : PyData.strOk z = true := by
  unfold okName at h
  simp only [Bool.and_eq_true] at h
  have h3 : Txt.isascii z = true := h.2.2.1
  unfold Txt.isascii at h3
  unfold PyData.strOk
  rw [Array.all_eq_true] at h3 ⊢
  intro i hi
  have := h3 i hi
  simp only [decide_eq_true_eq] at this ⊢
  omega
theorem canLayAll_map {α : Type} (f : α → PyData) : ∀ c : List α, (∀ a ∈ c, (f a).canLay0 = true) → PyData.canLayAll0 (c.map f) = true
  | [], _ => rfl
  | a :: c, h => by
    show ((f a).canLay0 && PyData.canLayAll0 (c.map f)) = true
    rw [h a List.mem_cons_self, canLayAll_map f c fun b hb => h b (List.mem_cons_of_mem _ hb)]
    rfl
theorem depthAll_map {α : Type} (f : α → PyData) (n : Nat) : ∀ c : List α, (∀ a ∈ c, (f a).depth ≤ n) → PyData.depthAll (c.map f) ≤ n
  | [], _ => Nat.zero_le _
  | a :: c, h => by
    show max (f a).depth (PyData.depthAll (c.map f)) ≤ n
    exact Nat.max_le.mpr ⟨h a List.mem_cons_self, depthAll_map f n c fun b hb => h b (List.mem_cons_of_mem _ hb)⟩
theorem shaped_list {α : Type} (f : α → PyData) (c : List α) (n : Nat) (hn : n ≤ 63) (h1 : ∀ a ∈ c, (f a).canLay0 = true) (h2 : ∀ a ∈ c, (f a).depth ≤ n) : SeqAt.shaped (.list (c.map f)) = true := by
  unfold SeqAt.shaped
  rw [Bool.and_eq_true]
  refine ⟨canLayAll_map f c h1, ?_⟩
  have : PyData.depth (.list (c.map f)) = PyData.depthAll (c.map f) + 1 := rfl
  have := depthAll_map f n c h2
  simp only [decide_eq_true_eq]
  omega
theorem can_run {r : Run} (h : okName r.1 = true) : (eRun r).canLay0 = true := by
  show (PyData.strOk r.1 && (true && (true && true))) = true
  rw [strOk_name h]
  rfl
theorem can_line {r : Line} (h : okName r.1 = true) : (eLine r).canLay0 = true := by
  show (PyData.strOk r.1 && (true && true)) = true
  rw [strOk_name h]
  rfl
theorem shaped_runs (c : List Run) (h : ∀ r ∈ c, okName r.1 = true) : SeqAt.shaped (.list (c.map eRun)) = true := shaped_list eRun c 1 (by decide) (fun r hr => can_run (h r hr)) (fun r _ => Nat.le_refl 1)
theorem shaped_lines (c : List Line) (h : ∀ r ∈ c, okName r.1 = true) : SeqAt.shaped (.list (c.map eLine)) = true := shaped_list eLine c 1 (by decide) (fun r hr => can_line (h r hr)) (fun r _ => Nat.le_refl 1)
theorem shaped_ints (ns : List Int) : SeqAt.shaped (.list (ns.map PyData.int)) = true := shaped_list PyData.int ns 0 (by decide) (fun _ _ => rfl) (fun _ _ => Nat.le_refl 0)
theorem isd_runs {M : Cs} {a : Addr} {c : List Run} (h : M a = some (.l (c.map sRun))) : IsD M (.c a) (.list (c.map eRun)) := IsD.cell (by rw [h, List.map_map]; rfl)
theorem isd_lines {M : Cs} {a : Addr} {c : List Line} (h : M a = some (.l (c.map sLine))) : IsD M (.c a) (.list (c.map eLine)) := IsD.cell (by rw [h, List.map_map]; rfl)
theorem isd_ints {M : Cs} {a : Addr} {c : List Int} (h : M a = some (.l (c.map dI))) : IsD M (.c a) (.list (c.map PyData.int)) := IsD.cell (by rw [h, List.map_map]; rfl)
end Y

namespace Y
open PySem L2 PyProof.Rows
/-! the first items of a tuple of data -/
section
variable {X : Cx} {L : Lk} {τ : List (Option Sl)} {M : Cs} {Q : Sl → Cs → Prop} {a b : Expr} {p2 pos : Pos}
theorem de_slTHi (w : DE X L a τ M fun x M1 => DE X L b τ M1 fun y M2 => ∃ (n : Nat) (ds : List PyData), y = .d (.int n) ∧ x = .d (.tuple ds) ∧ n < ds.length ∧ Q (.d (.tuple (ds.take n))) M2) : DE X L (.Subscript a (.Slice none (some b) none p2) pos) τ M Q :=
  de_of (pe_slice sl_tup pe_s po_none (po_some pe_s)) fun σ G H Q' gs gm k => w σ G H _ gs gm fun x M1 v G1 H1 q e1 g1 a1 => q σ G1 H1 _ (gs.mono e1) g1 fun y M2 u G2 H2 ⟨n, ds, ey, ex, hn, q2⟩ e2 g2 a2 => by
    subst ey ex
    have a1' := a1.mono e2
    cases a1' with
    | d z =>
      cases z with
      | @tup p vs _ e l =>
        have hlen : vs.length = ds.length := by rw [l.sl.len, List.length_map]
        refine ⟨(n : Int), sl_int a2, p, vs, rfl, .inl (g2.rd e), ?_, fun c hc => ?_⟩
        · rw [HT.sIx_nat]
          omega
        · have ll : SlL X.K G2 (cutV vs none (some (n : Int))) ((ds.take n).map Sl.d) := by
            have := cut_sl l.sl none (some (n : Int))
            rw [cutG_hi, ← List.map_take] at this
            exact this
          exact k _ _ _ (upd G2 c (.tup (cutV vs none (some (n : Int))))) _ q2 ((e1.trans e2).trans (Ex.new (g2.free hc).1)) (g2.newD hc) (.d (.tup upd_same (ll.at.mono (Ex.new (g2.free hc).1))))
end
/-! dict(d): a copy -/
section
variable {X : Cx} {L : Lk} {M : Cs} {Q : Sl → Cs → Prop} {s : Sl}
theorem k_dictD {kvs : List (Key × Sl)} (h : DictIs M s kvs) (q : ∀ p, M p = none → Q (.c p) (updC M p (.k kvs))) :
    RCk X.K L (fun xs H Q => ∃ (a : Addr) (kvs : List (Key × V)), xs = [.ref a] ∧ Rd H a (.dK kvs) ∧ ∀ p, H p = none → Q (.ref p) (upd H p (.dK kvs))) [s] M Q := fun G H vs Q' g a k => by
  obtain ⟨v, rfl, av⟩ := sl1 a
  obtain ⟨p, xs, rfl, r, l⟩ := dict_at g av h
  exact ⟨p, xs, rfl, r, fun c hc => k _ _ _ G _ (q c (g.free hc).2) (Ex.refl G) (g.newC hc ⟨_, upd_same, l⟩) (.c c)⟩
end
end Y

namespace Y
open PySem L2 PyProof.Rows
/-! ### defs that may be called where no repr is under way -/
/-- the same promise as a def's, asked only where no repr is under way -/
structure Calm (P : Program) (w : World) (K : PySem.W.Frag) (mg : Str → Option Value) (base : Heap) (k : Nat) (f : Addr) (fd : FuncData) (ps : List Str) (sp : Sp) : Prop where
  cnt : ∀ vs H Q E, sp vs H Q E → vs.length = ps.length
  go : ∀ (B : Around) (fr : List Env) (t : Shared) (H : Hp) (ar : Args) (us : List Value) (vs : List V) (Q : VK) (E : XK), Room k B → B.guards = some [] → Env0 P w K mg base B fr t H →
    BindsTo t fd ar (ps.zip us) → Vals vs us → sp vs H Q E → codeAny (model P w) B (.call (.ref f) ar) (CR CX0 fr P w H t Q E) t
section
variable {P : Program} {w : World} {K : PySem.W.Frag} {mg : Str → Option Value} {base : Heap}
theorem calm_of {R : Rr} {x qual : Str} {st : Stmt} {f : Addr} {fd : FuncData} {N ps : List Str} {k : Nat} (F : Fun K x qual st f fd) (S : FnScope N ps (defScope st)) (hl : ∀ L ss M Q, R L ss M Q → ss.length = ps.length)
    (hb : ∀ (cdv : Value) (A : Around) (outer : List Env) (s : Shared) (H : Hp) (E : XK) (L : Lk) (ss : List Sl) (M : Cs) (Q : Sl → Cs → Prop), Room k (A.deeper (envOfC qual (defScope st) s.heap.objs.size f cdv)) → A.guards = some [] → R L ss M Q →
      DB ((cxOf CX0 P w K mg base N qual (defScope st) f cdv A outer s H E).nox) L (defBody st) (startK N ss) M { nx := fun _ M' => Q (.d .none) M', rt := Q }) : Calm P w K mg base (k + 1) f fd ps (Spk K R) := by
  obtain ⟨oc, od, kV, doc, pm, an, cdv, ct, osl, rfl, lk, hcd⟩ := F.ex
  have hn : ∀ vs H Q E, Spk K R vs H Q E → vs.length = ps.length := fun vs H Q E ⟨L, M, G, ss, Q0, g, a, r, _⟩ => by
    rw [a.len]
    exact hl L ss M Q0 r
  refine ⟨hn, fun B fr t H ar us vs Q E room noG e0 bd rel prom => ?_⟩
  have inK : K.In t.heap := e0.mod.kin.keeps fun b o z => (e0.bs b o z).1
  have noL : t.heap.NoLimit := e0.mod.nolimit.keeps fun b o z => (e0.bs b o z).1
  refine codeAny_call_function room.depth (inK _ _ lk) rfl S.co S.gen rfl (PySem.W.codeRec_of inK hcd) (bd _ _ _ _ ?_)
  refine wpAny_newFunctionEnv_cells S.kind (fun z hz => ?_) fun env he s1 inC => ?_
  · obtain ⟨zn, zv⟩ := z
    rcases S.par zn (List.of_mem_zip hz).1 with o | o
    · exact .inl o
    · exact .inr ⟨o, PySem.W.cellsFrom_some _ _ _ (.inl o)⟩
  subst he
  refine ⟨noL.keeps inC.toInCall.keep, codeAny_func ?_⟩
  have I : Inv (cxOf CX0 P w K mg base N qual (defScope st) f cdv B fr t H E) [] (start N vs) H s1 := inv_start S room.hd e0 (hn _ _ _ _ prom) rel inC
  obtain ⟨L, M, G, ss, Q0, g, a, r, q⟩ := prom
  have body := hb cdv B fr t H E L ss M Q0 (room.deeper _) noG r _ G H { nx := fun _ H' => Q .non H', rt := Q, bk := fun _ _ => False, ct := fun _ _ => False } (good_start a) g ⟨fun τ' M' σ' G' H' h e g' _ => q _ M' _ G' H' h e g' (.d .non), q, fun _ _ _ _ _ h => h.elim, fun _ _ _ _ _ h => h.elim⟩
  have run := (pss_s (X := (cxOf CX0 P w K mg base N qual (defScope st) f cdv B fr t H E).nox) (sts := defBody st)).nox.run [] s1 (start N vs) H _ I body
  refine wpAny_mono run (fun fl s' hs => ?_) fun _ _ hs => hs
  cases fl with
  | ret u =>
    obtain ⟨v, σ', H', J, rv, qv⟩ := hs
    exact ⟨v, H', J.os, J.bare, J.base, J.hok, rv, qv⟩
  | next =>
    obtain ⟨σ', H', J, qv⟩ := hs
    exact ⟨V.non, H', J.os, J.bare, J.base, J.hok, rfl, qv⟩
  | brk => exact hs.elim fun _ z => z.elim fun _ z => z.2.elim
  | cont => exact hs.elim fun _ z => z.elim fun _ z => z.2.elim
/-- a def that may be called where no repr is under way: where it stands -/
def CalG (P : Program) (w : World) (K : PySem.W.Frag) (mg : Str → Option Value) (base : Heap) (x : Str) (k : Nat) (ps : List Str) (R : Rr) : Prop :=
  ∃ (f : Addr) (fd : FuncData), Calm P w K mg base k f fd ps (Spk K R) ∧ mg x = some (.ref f) ∧ PySem.W.keepIn K (.ref f) = true ∧ Binds K fd ps []
theorem calG_of {R : Rr} {x : Str} {st : Stmt} {N ps : List Str} {k : Nat} (F : FunAt K mg x st ps) (S : FnScope N ps (defScope st)) (hl : ∀ L ss M Q, R L ss M Q → ss.length = ps.length)
    (hb : ∀ (f : Addr) (cdv : Value) (A : Around) (outer : List Env) (s : Shared) (H : Hp) (E : XK) (L : Lk) (ss : List Sl) (M : Cs) (Q : Sl → Cs → Prop), Room k (cxF P w K mg base N x st f cdv A outer s H E).A → A.guards = some [] → R L ss M Q →
      DB (cxF P w K mg base N x st f cdv A outer s H E) L (defBody st) (startK N ss) M { nx := fun _ M' => Q (.d .none) M', rt := Q }) : CalG P w K mg base x (k + 1) ps R := by
  obtain ⟨f, fd, F, m, b⟩ := F
  exact ⟨f, fd, calm_of F S hl fun cdv A outer s H E L ss M Q hr hg r => hb f cdv A outer s H E L ss M Q hr hg r, m, F.kp, b⟩
end
section
variable {X : Cx} {L : Lk} {τ : List (Option Sl)} {M : Cs} {Q : Sl → Cs → Prop} {e : Expr} {es : List Expr} {pos p : Pos}
theorem de_callG {R : Rr} {k : Nat} {ps : List Str} {x : Str} (c : CalG X.prog X.w X.K X.mg X.base x k ps R) (hr : Room k X.A) (noG : X.A.guards = some []) (hg : Gl X x) (wd : DA X L (e :: es) τ M fun ss M1 => R L ss M1 Q) (hdb : (x == ("__debug__" : Str)) = false := by decide)
    (he : starEach (e :: es) X.env = (false, eval e X.env) :: starEach es X.env := by rfl) (hpl : (backTo pos (starEach es X.env)).any (·.1) = false := by rfl) : DE X L (.Call (.Name x p) (e :: es) [] pos) τ M Q := by
  obtain ⟨f, fd, F, hm, hk, hb⟩ := c
  refine de_of (te := fun σ H Q' => sA X (e :: es) σ H fun vs H1 => Spk X.K R vs H1 Q' fun _ _ _ => False) ⟨fun pins s σ H Q' I h => ?_⟩ fun σ G H Q' gs gm kk => wd σ G H _ gs gm fun ss M1 vs G1 H1 q e1 g1 a1 => ⟨L, M1, G1, ss, Q, g1, a1, q, kk.mono e1⟩
  refine wpAny_Call_Name_kw (ld_glob I hg hm ?_ hdb)
  refine PySem.W.callWith_K (h₀ := X.base) I.ok.mod.kin hk (thn (pa_s.run pos pins s σ H _ I h) fun us s1 ⟨vs, H1, I1, rl, pr⟩ => ⟨I1.kIn, ?_⟩) he hpl
  have hlen : us.length = ps.length := by rw [← rl.length]; exact F.cnt _ _ _ _ pr
  have bd := hb s1 us I1.kIn (by rw [List.append_nil]; exact hlen)
  rw [List.append_nil] at bd
  refine wpAny_call (codeAny_mono (F.go X.A X.stack s1 H1 ⟨us, []⟩ us vs Q' _ hr noG I1.env0 bd rl pr) fun o s' hq => ?_)
  cases o with
  | error e => exact pass0 pins σ H1 s1 e s' I1 hq
  | ok fl =>
    cases fl with
    | ret u => exact I1.after hq
    | next => exact hq.elim
    | brk => exact hq.elim
    | cont => exact hq.elim
/-- repr(x), x of lists, tuples, ints, texts -/
def rShow (K : PySem.W.Frag) : List V → Hp → VK → Prop := fun xs H Q => ∃ (a : Addr) (d : PyData), xs = [.ref a] ∧ Dp K H (.ref a) d ∧ d.showable = true ∧ d.hasDict = false ∧ d.depth ≤ 60 ∧ d.shown.length ≤ sizeLine ∧ Q (.str d.shown) H
theorem call_show (noG : X.A.guards = some []) (hu : X.A.units + 64 < cLine) : CallR X (.builtin "repr") (rShow X.K) := by
  intro pins s σ H xs us Q I r h
  obtain ⟨a, d, rfl, hd, sh, nd, dp, sz, q⟩ := h
  obtain ⟨u, rfl, ru⟩ := vals1 r
  cases ru
  obtain ⟨as, rd⟩ := Dp.reads I d _ _ hd rfl
  exact PySem.repr_of_reads' rd sh (fun z => absurd z (by rw [nd]; decide)) noG (by omega) (fun _ _ z => z) (fun h' u tk hk => ⟨.str d.shown, H, I.kept (t' := tk) hk, ⟨u, rfl⟩, q⟩) sz
end
end Y

namespace Y
open PySem L2 PyProof.Rows
/-- the law's own call, where its promise is asked only with no repr under way -/
theorem calm_law {P : Program} {w : World} {K : PySem.W.Frag} {mg mb : Str → Option Value} {k : Nat} {fa a : Addr} {fd : FuncData} {x : Str} {R : Rr} {t : Shared} {vs : List Value} {ns : List Int}
    (inK : K.In t.heap) (hns : t.heap.Ns mainGlobals mg) (hnb : t.heap.Ns builtinsNs mb) (hbb : ∀ y : Str, y ≠ "__name__" → mb y = bootBuiltins y) (noL : t.heap.NoLimit) (noGen : t.gens = #[])
    (hobj : t.heap.get? a = some { cls := .type "list", data := .seq vs.toArray }) (hin : IntsAre vs ns) (hlen : ns.length ≤ sizeLine) (room : Room k callerA)
    (F : ∀ base : Heap, K.In base → base.Ns mainGlobals mg → Calm P w K mg base k fa fd [x] (Spk K R)) (hbd : ∀ (s : Shared) (u : Value), BindsTo s fd ⟨[u], []⟩ [(x, u)])
    (prom : ∀ H : Hp, Only H → SqL K H a (ns.map V.int) → Spk K R [.ref a] H (fun v _ => v = .bl true) fun _ _ _ => False) :
    codeAny (model P w) callerA (.call (.ref fa) ⟨[.ref a], []⟩) (fun o t' => o = .ok (.ret (.bool true)) ∧ OldK t.heap t'.heap ∧ t'.os = t.os ∧ AllBare t'.gens) t := by
  have rv := vals_ints hin
  have lv := hin.length
  obtain ⟨H, ho, hS, hok, hA, hK⟩ : ∃ H : Hp, Only H ∧ SqL K H a (ns.map V.int) ∧ HOk P w H t.heap ∧ (∀ b, H b ≠ none → b = a) ∧ (H a ≠ none → K.lookup a = none) := by
    cases hk : K.lookup a with
    | some o =>
      have z := (inK a o hk).symm.trans hobj
      cases z
      exact ⟨fun _ => none, fun _ => .inl rfl, .inr ⟨_, vs.toArray, _, hk, rfl, rfl, rfl, by rw [List.size_toArray, lv]; exact hlen, by simpa using rv⟩, fun _ _ z => (nomatch z), fun _ z => absurd rfl z, fun z => absurd rfl z⟩
    | none =>
      have at1 : ∀ {b : Addr} {u : HO}, (if b = a then some (HO.frz { cls := .type "list", data := .seq vs.toArray } (.lst (ns.map V.int))) else none) = some u → b = a ∧ HO.frz { cls := .type "list", data := .seq vs.toArray } (.lst (ns.map V.int)) = u := fun {b u} z => by
        by_cases hb : b = a
        · rw [if_pos hb] at z
          exact ⟨hb, Option.some.inj z⟩
        · rw [if_neg hb] at z
          cases z
      refine ⟨fun b => if b = a then some (.frz { cls := .type "list", data := .seq vs.toArray } (.lst (ns.map V.int))) else none, fun b => ?_, .inl (.inr ⟨_, if_pos rfl⟩), fun b u z => ?_, fun b z => ?_, fun _ => rfl⟩
      · rcases Decidable.em (b = a) with hb | hb
        · exact .inr ⟨_, _, if_pos hb⟩
        · exact .inl (if_neg hb)
      · obtain ⟨rfl, rfl⟩ := at1 z
        exact ⟨hobj, by rw [List.length_map]; exact hlen, vs, _, rv, hobj⟩
      · rcases Decidable.em (b = a) with hb | hb
        · exact hb
        · exact absurd (if_neg hb) z
  have seqNo : ∀ {b : Addr} {o : Obj} {es : Array DictEntry} {ep : Nat}, t.heap.get? b = some o → o.data = .dict es ep → H b = none := fun {b o es ep} z d => by
    cases q : H b with
    | none => rfl
    | some u =>
      have zb : b = a := hA b (by rw [q]; exact fun y => (nomatch y))
      rw [zb, hobj] at z
      cases z
      exact absurd d fun y => (nomatch y)
  have inB : ∀ {b : Addr} {m : Str → Option Value}, t.heap.Ns b m → (hidT t.heap H).Ns b m := fun ⟨o, es, ep, z, d, r⟩ => ⟨o, es, ep, hidT_get z (seqNo z d), d, r⟩
  have kB : K.In (hidT t.heap H) := fun b o z => hidT_get (inK b o z) (by
    cases q : H b with
    | none => rfl
    | some u =>
      have zb : b = a := hA b (by rw [q]; exact fun y => (nomatch y))
      rw [zb, hK (by rw [← zb, q]; exact fun y => (nomatch y))] at z
      cases z)
  have md : Mod K mg (hidT t.heap H) := ⟨kB, inB hns, ⟨mb, inB hnb, hbb⟩, noL.elim fun mc z => ⟨mc, inB z.1, z.2⟩⟩
  have e0 : Env0 P w K mg (hidT t.heap H) callerA [] t H := ⟨rfl, md, fun b o z => of_hidT z, Nat.le_of_eq (hidT_size _ _), trivial, fun b hb => (nomatch hb), hok, .of_eq noGen⟩
  have main := (F _ kB (inB hns)).go callerA [] t H ⟨[.ref a], []⟩ [.ref a] [.ref a] _ _ room rfl e0 (hbd t (.ref a)) (.cons rfl .nil) (prom H ho hS)
  refine codeAny_mono main fun o t' h => ?_
  cases o with
  | error e => exact h.elim
  | ok fl =>
    cases fl with
    | next => exact h.elim
    | brk => exact h.elim
    | cont => exact h.elim
    | ret u =>
      obtain ⟨v, H', os, bare, un, hok', rl, qv⟩ := h
      cases (show v = .bl true from qv)
      cases (show u = Value.bool true from rl)
      refine ⟨rfl, OldK.of_keep fun b o z => ?_, os, bare⟩
      cases q : H b with
      | none => exact un.keep b o z q (fun y => (nomatch y)) (fun y => (nomatch y))
      | some u =>
        rcases ho b with y | ⟨ob, xs, y⟩
        · rw [q] at y
          cases y
        · obtain ⟨z1, _⟩ := hok b _ y
          obtain ⟨z2, _⟩ := hok' b _ (un.frzs b ob _ y)
          rw [z] at z1
          cases z1
          exact z2
theorem walk_calm {l : PySem.W.OpenLaw} {n k : Nat} {q : Program} {loose : List Str} {XP : (Str → Option Value) → Heap → Prop} {YP : World → Heap → Prop} {d : DefRec} {K : Params → PySem.W.Frag} {R : Rr} {x : Str}
    (hmost : l.most = some n) (hle : n ≤ sizeLine) (hdef : d.params.defaults = []) (room : Room k callerA) (hY : ∀ (w : World) (h : Heap), YP w h → (K w.params).In h)
    (F : ∀ (w : World) (mg : Str → Option Value) (fa : Addr) (h : Heap), (K w.params).In h → h.Ns mainGlobals mg → mg d.name = some (.ref fa) →
      ∃ fd : FuncData, (∀ (s : Shared) (u : Value), BindsTo s fd ⟨[u], []⟩ [(x, u)]) ∧ ∀ base : Heap, (K w.params).In base → base.Ns mainGlobals mg → Calm l.prog w (K w.params) mg base k fa fd [x] (Spk (K w.params) R))
    (prom : ∀ (w : World) (H : Hp) (a : Addr) (ns : List Int), ns.length ≤ n → Only H → SqL (K w.params) H a (ns.map V.int) → Spk (K w.params) R [.ref a] H (fun v _ => v = .bl true) fun _ _ _ => False) :
    PySem.W.WalkO q loose XP YP l.row.toRowW d [] (fun f vs => PySem.call f vs) := by
  refine Att.attach_call hmost hdef fun w t0 t mg mb fa o pm cd doc a vs ns G y ho hd hcd hmg hobj hin hlen noGen => ?_
  obtain ⟨fd, hbd, hF⟩ := F w mg fa _ (hY w _ y) G.T.g hmg
  exact calm_law (hY w _ y) G.T.g G.T.b G.T.builtins G.T.nolimit noGen hobj hin (Nat.le_trans hlen hle) room hF hbd fun H ho hS => prom w H a ns hlen ho hS
end Y

namespace Y
open PySem L2 PyProof.Rows
/-! ### how long a repr is -/
theorem listText_le (ts : List Str) : (listText ts).length ≤ 2 + piled ts := by
  cases ts with
  | nil => decide
  | cons t r =>
    have h1 : (listText (t :: r)).length = (textFrom 1 (("[" : Str) ++ (if (0 : Nat) > 0 then ", " else "" : String) ++ t) r).length + 1 := by
      show (textFrom 1 _ r ++ "]").length = _
      rw [strLen_append]
      rfl
    rw [h1, textFrom_length_pos _ _ _ (by decide), strLen_append, strLen_append, piled_cons]
    show 1 + 0 + t.length + piled r + 1 ≤ _
    omega
theorem tupleText_le (ts : List Str) : (tupleText ts).length ≤ 3 + piled ts := by
  have h1 : ∀ s : Str, (s ++ (if ts.length == 1 then ",)" else ")" : String)).length ≤ s.length + 2 := fun s => by
    rw [strLen_append]
    split
    · show s.length + 2 ≤ _; omega
    · show s.length + 1 ≤ _; omega
  have h2 := h1 (("(" : Str) ++ Str.join ", " ts)
  have h3 : (("(" : Str) ++ Str.join ", " ts).length = 1 + (Str.join ", " ts).length := by rw [strLen_append]; rfl
  show (("(" : Str) ++ Str.join ", " ts ++ (if ts.length == 1 then ",)" else ")" : String)).length ≤ _
  rcases Decidable.em (ts = []) with e | e
  · subst e
    decide
  · have := join_length_add ts e
    omega
theorem shownAll_map : ∀ ds : List PyData, PyData.shownAll ds = ds.map PyData.shown
  | [] => by simp only [PyData.shownAll, List.map_nil]
  | d :: r => by simp only [PyData.shownAll, List.map_cons, shownAll_map r]
theorem piled_le {n : Nat} : ∀ {ts : List Str}, (∀ t ∈ ts, t.length ≤ n) → piled ts ≤ (n + 2) * ts.length
  | [], _ => Nat.zero_le _
  | t :: r, h => by
    have h1 := h t List.mem_cons_self
    have h2 := piled_le (ts := r) fun u hu => h u (List.mem_cons_of_mem _ hu)
    rw [piled_cons, List.length_cons, Nat.mul_add, Nat.mul_one]
    omega
theorem shown_int_le {i : Int} (h : i.natAbs < 10 ^ 31) : (PyData.int i).shown.length ≤ 32 := by
  simp only [PyData.shown]
  have := int_text_length_le10 (k := 31) (by decide) h
  show (Str.ofString (toString i)).length ≤ 32
  rw [PySem.ofString_length]
  exact this
theorem shown_name_le {z : Str} (h : okName z = true) : (PyData.str z).shown.length ≤ 82 := by
  simp only [PyData.shown]
  unfold okName at h
  simp only [Bool.and_eq_true, decide_eq_true_eq] at h
  have h3 : Txt.isascii z = true := h.2.2.1
  unfold Txt.isascii at h3
  have := StrLaws.reprText_len z fun c hc => by
    rw [Array.all_eq_true] at h3
    obtain ⟨i, hi, e⟩ := List.getElem_of_mem hc
    have := h3 i (by simpa using hi)
    simp only [decide_eq_true_eq] at this
    have e' : z.cps[i]'(by simpa using hi) = c := by simpa using e
    rw [e'] at this
    exact Nat.lt_of_lt_of_le this (by decide)
  have := h.2.1
  omega
theorem show_int {i : Int} (h : i.natAbs < 10 ^ 31) : (PyData.int i).showable = true := by
  simp only [PyData.showable, decide_eq_true_eq]
  by_cases e : i.natAbs = 0
  · rw [e]; decide
  · exact (Nat.log2_lt e).mpr (Nat.lt_trans h (by decide))
def fitR (r : Run) : Prop := okName r.1 = true ∧ r.2.1.natAbs < 10 ^ 31 ∧ r.2.2.natAbs < 10 ^ 31
theorem shown_run_le {r : Run} (h : fitR r) : (eRun r).shown.length ≤ 160 := by
  show (tupleText (PyData.shownAll _)).length ≤ _
  have h1 := shown_name_le h.1
  have h2 := shown_int_le h.2.1
  have h3 := shown_int_le h.2.2
  refine Nat.le_trans (tupleText_le _) ?_
  rw [shownAll_map]
  show 3 + piled [_, _, _] ≤ _
  rw [piled_cons, piled_cons, piled_cons, piled_nil]
  omega
theorem shown_runs_le {c : List Run} (h : ∀ r ∈ c, fitR r) : (PyData.list (c.map eRun)).shown.length ≤ 3 + 162 * c.length ∧ (PyData.tuple (c.map eRun)).shown.length ≤ 3 + 162 * c.length := by
  have h1 : piled (PyData.shownAll (c.map eRun)) ≤ 162 * c.length := by
    rw [shownAll_map]
    have := piled_le (n := 160) (ts := (c.map eRun).map PyData.shown) fun t ht => by
      rw [List.map_map] at ht
      obtain ⟨r, hr, rfl⟩ := List.mem_map.mp ht
      exact shown_run_le (h r hr)
    rw [List.length_map, List.length_map] at this
    exact this
  constructor
  · show (listText (PyData.shownAll (c.map eRun))).length ≤ _
    have := listText_le (PyData.shownAll (c.map eRun))
    omega
  · show (tupleText (PyData.shownAll (c.map eRun))).length ≤ _
    have := tupleText_le (PyData.shownAll (c.map eRun))
    omega
theorem showableAll_map {α : Type} (f : α → PyData) : ∀ c : List α, (∀ a ∈ c, (f a).showable = true) → PyData.showableAll (c.map f) = true
  | [], _ => by simp only [List.map_nil, PyData.showableAll]
  | a :: c, h => by
    simp only [List.map_cons, PyData.showableAll, h a List.mem_cons_self, showableAll_map f c fun b hb => h b (List.mem_cons_of_mem _ hb), Bool.and_self]
theorem show_run {r : Run} (h : fitR r) : (eRun r).showable = true := by
  show PyData.showableAll [.str r.1, .int r.2.1, .int r.2.2] = true
  simp only [PyData.showableAll, show_int h.2.1, show_int h.2.2, Bool.and_self, Bool.and_true]
  simp only [PyData.showable]
section
variable {X : Cx} {L : Lk} {M : Cs} {Q : Sl → Cs → Prop}
theorem k_show {s : Sl} {d : PyData} {ss : List Sl} (h : IsD M s d) (hs : seqOf M s = some ss) (can : d.canLay0 = true) (sh : d.showable = true) (dp : d.depth ≤ 60) (sz : d.shown.length ≤ sizeLine) (q : Q (.d (.str d.shown)) M) : RCk X.K L (rShow X.K) [s] M Q := fun G H vs Q' g a k => by
  obtain ⟨v, rfl, a1⟩ := sl1 a
  obtain ⟨p, xs, e, _, _⟩ := seq_at g a1 hs
  subst e
  exact ⟨p, d, rfl, h.dp g can a1, sh, PyData.hasDict_of_canLay d can, dp, sz, k.go q g (.d (.str _))⟩
/-- repr of a content, list or tuple -/
theorem k_showR {s : Sl} {c : List Run} {ss : List Sl} {tup : Bool} (h : IsD M s (if tup = true then .tuple (c.map eRun) else .list (c.map eRun))) (hs : seqOf M s = some ss) (ok : ∀ r ∈ c, fitR r) (hl : c.length ≤ 10000) (q : Q (.d (.str (PyData.shown (if tup = true then .tuple (c.map eRun) else .list (c.map eRun))))) M) : RCk X.K L (rShow X.K) [s] M Q := by
  have hc : PyData.canLayAll0 (c.map eRun) = true := canLayAll_map eRun c fun r hr => can_run (ok r hr).1
  have hw : PyData.showableAll (c.map eRun) = true := showableAll_map eRun c fun r hr => show_run (ok r hr)
  have hd : PyData.depthAll (c.map eRun) ≤ 1 := depthAll_map eRun 1 c fun r _ => Nat.le_refl 1
  have hz := shown_runs_le ok
  have sl : (10 ^ 7 : Nat) ≤ sizeLine := by rw [sizeLine_eq]; decide
  cases tup with
  | true => exact k_show (d := .tuple (c.map eRun)) h hs hc hw (by show PyData.depthAll _ + 1 ≤ 60; omega) (by omega) q
  | false => exact k_show (d := .list (c.map eRun)) h hs hc hw (by show PyData.depthAll _ + 1 ≤ 60; omega) (by omega) q
end
end Y

namespace Y
open PySem L2 PyProof.Rows
section
variable {X : Cx} {L : Lk} {τ : List (Option Sl)} {M : Cs} {Q : Sl → Cs → Prop} {o : Expr} {apos cpos pos : Pos} {E : Ks}
/-- tuple(xs) of a list -/
theorem k_tupleL {s : Sl} {ss : List Sl} (hT : isTup s = false) (h : seqOf M s = some ss) (q : Q (.u ss) M) : RCk X.K L (fun xs H Q => ∃ p ys, xs = [.ref p] ∧ ((SqL X.K H p ys ∧ ∀ l, H l = none → Q (.ref l) (upd H l (.tup ys))) ∨ (SqT X.K H p ys ∧ Q (.ref p) H))) [s] M Q := fun G H vs Q' g a k => by
  obtain ⟨v, rfl, a1⟩ := sl1 a
  obtain ⟨p, xs, rfl, r, l⟩ := seq_at g a1 h
  rw [hT, if_neg Bool.false_ne_true] at r
  refine ⟨p, xs, rfl, .inl ⟨r, fun c hc => ?_⟩⟩
  have f := g.free hc
  exact k _ _ _ _ _ q (Ex.new f.1) (g.newD hc) (.u upd_same (l.mono (Ex.new f.1)))
/-- xs.clear() as a statement -/
theorem ds_clear (w : DE X L o τ M fun x M1 => ∃ a ss, x = .c a ∧ M1 a = some (.l ss) ∧ E.nx τ (updC M1 a (.l []))) (hbase : attributeBase o "clear" X.env (eval o X.env) = eval o X.env := by rfl) (hline : (apos.endLine == cpos.line) = true := by rfl)
    (hsw : swapsWith (.Call (.Attribute o "clear" apos) [] [] cpos) none pos.line X.env = pure false := by rfl) : DS X L (.Expr (.Call (.Attribute o "clear" apos) [] [] cpos) pos) τ M E :=
  ds_expr (de_of (pe_bm0 PySem.F.plainAttrs_list PySem.F.slot_list_clear PySem.F.type_list_clear mt_clear pe_s hbase hline) fun σ G H Q' gs gm k => w σ G H _ gs gm fun x M1 v G1 H1 ⟨a, ss, hx, ha, q⟩ e1 g1 a1 => by
    subst hx
    obtain ⟨_, xs, h1, h2⟩ := g1.cell a _ ha
    have ev := sl_c a1
    subst ev
    exact ⟨.inl ⟨rfl, xs, .inl (.inl h1)⟩, a, xs, rfl, rfl, h1, k (.d .none) _ _ G1 _ q e1 (g1.write ha h1 (fun _ _ z => (nomatch z)) ⟨[], upd_same, .nil⟩) (.d .non)⟩) hsw
end
end Y

namespace Y
open PySem L2 PyProof.Rows
/-! ### data with dicts: repr -/
/-- the module table stands -/
def Sys (base : Heap) : Prop := ∃ mm, base.Ns sysModules mm
mutual
inductive DX (K : PySem.W.Frag) (H : Hp) : V → PyData → Prop
  | non : DX K H .non .none
  | bl (b : Bool) : DX K H (.bl b) (.bool b)
  | int (i : Int) : DX K H (.int i) (.int i)
  | str (x : Str) : DX K H (.str x) (.str x)
  | lst {a : Addr} {xs : List V} {ds : List PyData} : SqL K H a xs → DXs K H xs ds → DX K H (.ref a) (.list ds)
  | tup {a : Addr} {xs : List V} {ds : List PyData} : SqT K H a xs → DXs K H xs ds → DX K H (.ref a) (.tuple ds)
  | dic {a : Addr} {kvs : List (Key × V)} {ds : List (PyData × PyData)} : Rd H a (.dK kvs) → DXk K H kvs ds → DX K H (.ref a) (.dict ds)
inductive DXs (K : PySem.W.Frag) (H : Hp) : List V → List PyData → Prop
  | nil : DXs K H [] []
  | cons {v : V} {vs : List V} {d : PyData} {ds : List PyData} : DX K H v d → DXs K H vs ds → DXs K H (v :: vs) (d :: ds)
inductive DXk (K : PySem.W.Frag) (H : Hp) : List (Key × V) → List (PyData × PyData) → Prop
  | nil : DXk K H [] []
  | cons {k : Key} {v : V} {kvs : List (Key × V)} {d : PyData} {ds : List (PyData × PyData)} : DX K H v d → DXk K H kvs ds → DXk K H ((k, v) :: kvs) ((kD k, d) :: ds)
end
section
variable {X : Cx} {pins : List (Addr × Obj)} {σ : L2.St} {H : Hp} {s : Shared}
theorem list_ne (I : Inv X pins σ H s) (S : Sys X.base) {a : Addr} {xs : List V} (hs : SqL X.K H a xs) : a ≠ sysModules := by
  intro e
  subst e
  obtain ⟨mm, o, es, ep, ho, hd, _⟩ := S
  have hb := (I.bs _ _ ho).1
  obtain ⟨its, rv, ⟨o', n, ho', hc, _, hd'⟩, _⟩ := I.list hs
  rw [hb] at ho'
  cases ho'
  rw [hd] at hd'
  cases hd'
mutual
theorem DX.reads (I : Inv X pins σ H s) (S : Sys X.base) : ∀ {v : V} {d : PyData}, DX X.K H v d → ∀ {u : Value}, RelV v u → ∃ as, Reads s.heap u d as ∧ sysModules ∉ as
  | _, _, .non, _, r => by
    cases r
    exact ⟨_, Reads.none, by simp⟩
  | _, _, .bl b, _, r => by
    cases r
    exact ⟨_, Reads.bool b, by simp⟩
  | _, _, .int i, _, r => by
    obtain ⟨t, rfl⟩ := r
    exact ⟨_, Reads.int i t, by simp⟩
  | _, _, .str x, _, r => by
    obtain ⟨t, rfl⟩ := r
    exact ⟨_, Reads.str x t, by simp⟩
  | _, _, .lst hs ha, _, r => by
    cases r
    have ne := list_ne I S hs
    obtain ⟨its, rv, ⟨o, n, ho, hc, _, hd⟩, _⟩ := I.list hs
    obtain ⟨as, hr, hn⟩ := DXs.reads I S ha rv
    exact ⟨_, Reads.list ho hc hd hr, fun z => by
      rcases List.mem_cons.mp z with z | z
      · exact ne z.symm
      · exact hn z⟩
  | _, _, .tup hs ha, _, r => by
    cases r
    obtain ⟨its, rv, ⟨o, ho, hc, n, hd⟩, _⟩ := I.tuple hs
    obtain ⟨as, hr, hn⟩ := DXs.reads I S ha rv
    exact ⟨_, Reads.tuple ho hc hd hr, hn⟩
  | _, _, .dic hs ha, _, r => by
    cases r
    obtain ⟨_, ne, vs, kv, o, es, ep, ho, hx, hd, _, hp, _⟩ := (show ObjOk X.prog X.w H s.heap _ (.dK _) from hs.ok I.hok)
    obtain ⟨as, bs, h1, h2, n1, n2⟩ := DXk.reads I S ha kv hp
    refine ⟨_, Reads.dict ho hx.1 hd h1 h2, fun z => ?_⟩
    rcases List.mem_append.mp z with z | z
    · rcases List.mem_cons.mp z with z | z
      · subst z
        simp at ne
      · exact n1 z
    · exact n2 z
theorem DXs.reads (I : Inv X pins σ H s) (S : Sys X.base) : ∀ {vs : List V} {ds : List PyData}, DXs X.K H vs ds → ∀ {us : List Value}, Vals vs us → ∃ as, ReadsAll s.heap us ds as ∧ sysModules ∉ as
  | _, _, .nil, _, r => by
    cases r
    exact ⟨_, ReadsAll.nil, by simp⟩
  | _, _, .cons h1 h2, _, r => by
    cases r with
    | cons r1 r2 =>
      obtain ⟨as, q1, n1⟩ := DX.reads I S h1 r1
      obtain ⟨bs, q2, n2⟩ := DXs.reads I S h2 r2
      exact ⟨_, ReadsAll.cons q1 q2, fun z => (List.mem_append.mp z).elim n1 n2⟩
theorem DXk.reads (I : Inv X pins σ H s) (S : Sys X.base) : ∀ {kvs : List (Key × V)} {ds : List (PyData × PyData)}, DXk X.K H kvs ds → ∀ {vs : List (Key × Value)} {es : List DictEntry}, KV kvs vs → Pairs (mixKind X.prog X.w) es vs →
    ∃ as bs, ReadsAll s.heap (es.map (·.key)) (ds.map (·.1)) as ∧ ReadsAll s.heap (es.map (·.val)) (ds.map (·.2)) bs ∧ sysModules ∉ as ∧ sysModules ∉ bs
  | _, _, .nil, _, _, kv, hp => by
    cases kv
    cases hp
    exact ⟨_, _, ReadsAll.nil, ReadsAll.nil, by simp, by simp⟩
  | _, _, .cons h1 h2, _, _, kv, hp => by
    cases kv with
    | cons k1 k2 =>
      cases hp with
      | cons hk he hp' =>
        obtain ⟨as, bs, q1, q2, n1, n2⟩ := DXk.reads I S h2 k2 hp'
        obtain ⟨cs, q3, n3⟩ := DX.reads I S h1 k1.2
        rw [← he] at q3
        rw [← k1.1] at hk
        rcases keyIs_shape hk with ⟨i, t, e1, e2⟩ | ⟨x, t, e1, e2⟩
        · refine ⟨_, _, ReadsAll.cons (as := []) ?_ q1, ReadsAll.cons q3 q2, by simpa using n1, fun z => (List.mem_append.mp z).elim n3 n2⟩
          have e3 := congrArg kD e1
          simp only [e2]
          exact e3 ▸ Reads.int i t
        · refine ⟨_, _, ReadsAll.cons (as := []) ?_ q1, ReadsAll.cons q3 q2, by simpa using n1, fun z => (List.mem_append.mp z).elim n3 n2⟩
          have e3 := congrArg kD e1
          simp only [e2]
          exact e3 ▸ Reads.str x t
end
end
/-! data in cells, dicts among them -/
mutual
inductive IsX (M : Cs) : Sl → PyData → Prop
  | d (x : PyData) : IsX M (.d x) x
  | c {a : Addr} {ss : List Sl} {ds : List PyData} : M a = some (.l ss) → IsXL M ss ds → IsX M (.c a) (.list ds)
  | k {a : Addr} {kvs : List (Key × Sl)} {ds : List (PyData × PyData)} : M a = some (.k kvs) → IsXK M kvs ds → IsX M (.c a) (.dict ds)
  | u {ss : List Sl} {ds : List PyData} : IsXL M ss ds → IsX M (.u ss) (.tuple ds)
  | s (ns : List Int) : IsX M (.s ns) (.list (ns.map PyData.int))
inductive IsXL (M : Cs) : List Sl → List PyData → Prop
  | nil : IsXL M [] []
  | cons {s : Sl} {d : PyData} {ss : List Sl} {ds : List PyData} : IsX M s d → IsXL M ss ds → IsXL M (s :: ss) (d :: ds)
inductive IsXK (M : Cs) : List (Key × Sl) → List (PyData × PyData) → Prop
  | nil : IsXK M [] []
  | cons {k : Key} {s : Sl} {kvs : List (Key × Sl)} {d : PyData} {ds : List (PyData × PyData)} : IsX M s d → IsXK M kvs ds → IsXK M ((k, s) :: kvs) ((kD k, d) :: ds)
end
theorem IsXL.ofD {M : Cs} : ∀ ds : List PyData, IsXL M (ds.map Sl.d) ds
  | [] => .nil
  | d :: r => .cons (.d d) (IsXL.ofD r)
theorem IsXK.ofD {M : Cs} : ∀ kd : List (Key × PyData), IsXK M (slK kd) (encK kd)
  | [] => .nil
  | (k, d) :: r => .cons (.d d) (IsXK.ofD r)
theorem IsX.cell {M : Cs} {a : Addr} {ds : List PyData} (h : M a = some (.l (ds.map .d))) : IsX M (.c a) (.list ds) := .c h (IsXL.ofD ds)
theorem IsX.dict {M : Cs} {a : Addr} {kd : List (Key × PyData)} (h : M a = some (.k (slK kd))) : IsX M (.c a) (.dict (encK kd)) := .k h (IsXK.ofD kd)
section
variable {K : PySem.W.Frag} {L : Lk} {M : Cs} {G H : Hp}
mutual
theorem At.dx (g : GoodM K L M G H) : ∀ {v : V} {d : PyData}, At K G v d → DX K H v d
  | _, _, .non => .non
  | _, _, .bl b => .bl b
  | _, _, .int i => .int i
  | _, _, .str x => .str x
  | _, _, .lst e l => .lst (.inl (g.rd e)) (AtL.dx g l)
  | _, _, .tup e l => .tup (.inl (g.rd e)) (AtL.dx g l)
  | _, _, .dic e l => .dic (g.rd e) (AtK.dx g l)
theorem AtL.dx (g : GoodM K L M G H) : ∀ {vs : List V} {ds : List PyData}, AtL K G vs ds → DXs K H vs ds
  | _, _, .nil => .nil
  | _, _, .cons a b => .cons (At.dx g a) (AtL.dx g b)
theorem AtK.dx (g : GoodM K L M G H) : ∀ {vs : List (Key × V)} {ds : List (PyData × PyData)}, AtK K G vs ds → DXk K H vs ds
  | _, _, .nil => .nil
  | _, _, .cons a b => .cons (At.dx g a) (AtK.dx g b)
end
theorem ints_dx : ∀ ns : List Int, DXs K H (ns.map V.int) (ns.map PyData.int)
  | [] => .nil
  | n :: r => .cons (.int n) (ints_dx r)
mutual
theorem IsX.dx (g : GoodM K L M G H) : ∀ {s : Sl} {d : PyData} {v : V}, IsX M s d → SlAt K G v s → DX K H v d
  | _, _, _, .d x, .d a => At.dx g a
  | _, _, _, .c (a := p) h l, b => by
    obtain ⟨_, xs, h1, h2⟩ := g.cell p _ h
    cases b
    exact .lst (SqL.of h1) (IsXL.dx g l h2)
  | _, _, _, .k (a := p) h l, b => by
    obtain ⟨_, xs, h1, h2⟩ := g.cell p _ h
    cases b
    exact .dic (.inl h1) (IsXK.dx g l h2)
  | _, _, _, .u l, .u e b => .tup (.inl (g.rd e)) (IsXL.dx g l b)
  | _, _, _, .s ns, .s e => by
    refine .lst ?_ (ints_dx ns)
    rcases e with e | e
    · exact .inl (g.rd e)
    · exact .inr e
theorem IsXL.dx (g : GoodM K L M G H) : ∀ {ss : List Sl} {ds : List PyData} {vs : List V}, IsXL M ss ds → SlL K G vs ss → DXs K H vs ds
  | _, _, _, .nil, .nil => .nil
  | _, _, _, .cons a b, .cons p q => .cons (IsX.dx g a p) (IsXL.dx g b q)
theorem IsXK.dx (g : GoodM K L M G H) : ∀ {ks : List (Key × Sl)} {ds : List (PyData × PyData)} {vs : List (Key × V)}, IsXK M ks ds → KvAt K G vs ks → DXk K H vs ds
  | _, _, [], .nil, _ => .nil
  | _, _, _ :: _, .nil, h => h.elim
  | _, _, (k, v) :: vs, .cons (k := k2) a b, ⟨e, p, q⟩ => by
    have e' : k = k2 := e
    subst e'
    exact .cons (IsX.dx g a p) (IsXK.dx g b q)
  | _, _, [], .cons a b, h => h.elim
end
end
/-- what has an address -/
def isBox : PyData → Bool
  | .list _ => true
  | .tuple _ => true
  | .dict _ => true
  | _ => false
def rShowX (K : PySem.W.Frag) : List V → Hp → VK → Prop := fun xs H Q => ∃ (a : Addr) (d : PyData), xs = [.ref a] ∧ DX K H (.ref a) d ∧ d.showable = true ∧ d.depth ≤ 60 ∧ d.shown.length ≤ sizeLine ∧ Q (.str d.shown) H
theorem call_showX {X : Cx} (S : Sys X.base) (noG : X.A.guards = some []) (hu : X.A.units + 64 < cLine) : CallR X (.builtin "repr") (rShowX X.K) := by
  intro pins s σ H xs us Q I r h
  obtain ⟨a, d, rfl, hd, sh, dp, sz, q⟩ := h
  obtain ⟨u, rfl, ru⟩ := vals1 r
  cases ru
  obtain ⟨as, rd, nm⟩ := DX.reads I S hd (u := .ref a) rfl
  exact PySem.repr_of_reads' rd sh (fun _ => nm) noG (by omega) (fun _ _ z => z) (fun h' u tk hk => ⟨.str d.shown, H, I.kept (t' := tk) hk, ⟨u, rfl⟩, q⟩) sz
/-! ### how long a repr is -/
def small (z : Str) : Bool := Txt.isascii z && decide (z.length ≤ 30)
mutual
/-- ints below 10 ^ 45, short plain texts -/
def fitX : PyData → Bool
  | .none => true
  | .bool _ => true
  | .int i => decide (i.natAbs < 10 ^ 45)
  | .str z => small z
  | .list ds => fitXs ds
  | .tuple ds => fitXs ds
  | .dict kvs => fitXk kvs
def fitXs : List PyData → Bool
  | [] => true
  | d :: r => fitX d && fitXs r
def fitXk : List (PyData × PyData) → Bool
  | [] => true
  | p :: r => fitX p.1 && fitX p.2 && fitXk r
end
mutual
/-- how many parts -/
def wtX : PyData → Nat
  | .none => 1
  | .bool _ => 1
  | .int _ => 1
  | .str _ => 1
  | .list ds => 1 + wtXs ds
  | .tuple ds => 1 + wtXs ds
  | .dict kvs => 1 + wtXk kvs
def wtXs : List PyData → Nat
  | [] => 0
  | d :: r => wtX d + wtXs r
def wtXk : List (PyData × PyData) → Nat
  | [] => 0
  | p :: r => wtX p.1 + wtX p.2 + wtXk r
end
theorem dictText_le (ts : List Str) : (dictText ts).length ≤ 2 + piled ts := by
  have e : (dictText ts).length = 1 + (Str.join ", " ts).length + 1 := by
    unfold dictText
    rw [strLen_append, strLen_append]; rfl
  by_cases h : ts = []
  · subst h; decide
  · have h2 := join_length_add ts h
    omega
theorem small_len {z : Str} (h : small z = true) : (PyData.str z).shown.length ≤ 302 := by
  simp only [PyData.shown]
  unfold small at h
  simp only [Bool.and_eq_true, decide_eq_true_eq] at h
  have h3 : Txt.isascii z = true := h.1
  unfold Txt.isascii at h3
  have := StrLaws.reprText_len z fun c hc => by
    rw [Array.all_eq_true] at h3
    obtain ⟨i, hi, e⟩ := List.getElem_of_mem hc
    have := h3 i (by simpa using hi)
    simp only [decide_eq_true_eq] at this
    have e' : z.cps[i]'(by simpa using hi) = c := by simpa using e
    rw [e'] at this
    exact Nat.lt_of_lt_of_le this (by decide)
  omega
theorem int_len45 {i : Int} (h : i.natAbs < 10 ^ 45) : (PyData.int i).shown.length ≤ 302 := by
  simp only [PyData.shown]
  have := int_text_length_le10 (k := 45) (by decide) h
  show (Str.ofString (toString i)).length ≤ 302
  rw [PySem.ofString_length]
  omega
mutual
theorem shownX_le : ∀ d : PyData, fitX d = true → d.shown.length + 4 ≤ 320 * wtX d
  | .none, _ => by simp only [PyData.shown, wtX]; decide
  | .bool b, _ => by cases b <;> (simp only [PyData.shown, wtX]; decide)
  | .int i, h => by
    have := int_len45 (i := i) (by simpa [fitX] using h)
    simp only [wtX]
    omega
  | .str z, h => by
    have := small_len (z := z) (by simpa [fitX] using h)
    simp only [wtX]
    omega
  | .list ds, h => by
    have h1 := shownXs_le ds (by simpa [fitX] using h)
    have h2 := listText_le (PyData.shownAll ds)
    simp only [PyData.shown, wtX]
    omega
  | .tuple ds, h => by
    have h1 := shownXs_le ds (by simpa [fitX] using h)
    have h2 := tupleText_le (PyData.shownAll ds)
    simp only [PyData.shown, wtX]
    omega
  | .dict ds, h => by
    have h1 := shownXk_le ds (by simpa [fitX] using h)
    have h2 := dictText_le (PyData.shownKv ds)
    simp only [PyData.shown, wtX]
    omega
theorem shownXs_le : ∀ ds : List PyData, fitXs ds = true → piled (PyData.shownAll ds) ≤ 320 * wtXs ds
  | [], _ => by simp only [PyData.shownAll, piled_nil]; omega
  | d :: r, h => by
    simp only [fitXs, Bool.and_eq_true] at h
    have h1 := shownX_le d h.1
    have h2 := shownXs_le r h.2
    have h3 := wtX_pos d
    simp only [PyData.shownAll, piled_cons, wtXs]
    omega
theorem shownXk_le : ∀ ds : List (PyData × PyData), fitXk ds = true → piled (PyData.shownKv ds) ≤ 320 * wtXk ds
  | [], _ => by simp only [PyData.shownKv, piled_nil]; omega
  | (k, d) :: r, h => by
    simp only [fitXk, Bool.and_eq_true] at h
    have h1 := shownX_le k h.1.1
    have h1' := shownX_le d h.1.2
    have h2 := shownXk_le r h.2
    have h3 := wtX_pos d
    have h4 := wtX_pos k
    have h5 : ((": " : Str)).length = 2 := rfl
    simp only [PyData.shownKv, piled_cons, wtXk, strLen_append, h5]
    omega
theorem wtX_pos : ∀ d : PyData, 1 ≤ wtX d
  | .none => by simp only [wtX]; omega
  | .bool _ => by simp only [wtX]; omega
  | .int _ => by simp only [wtX]; omega
  | .str _ => by simp only [wtX]; omega
  | .list _ => by simp only [wtX]; omega
  | .tuple _ => by simp only [wtX]; omega
  | .dict _ => by simp only [wtX]; omega
end
mutual
theorem showX : ∀ d : PyData, fitX d = true → d.showable = true
  | .none, _ => by simp only [PyData.showable]
  | .bool b, _ => by simp only [PyData.showable]
  | .int i, h => by
    simp only [fitX, decide_eq_true_eq] at h
    simp only [PyData.showable, decide_eq_true_eq]
    by_cases e : i.natAbs = 0
    · rw [e]; decide
    · exact (Nat.log2_lt e).mpr (Nat.lt_trans h (by decide))
  | .str z, h => by simp only [PyData.showable]
  | .list ds, h => by simp only [PyData.showable]; exact showXs ds (by simpa [fitX] using h)
  | .tuple ds, h => by simp only [PyData.showable]; exact showXs ds (by simpa [fitX] using h)
  | .dict ds, h => by simp only [PyData.showable]; exact showXk ds (by simpa [fitX] using h)
theorem showXs : ∀ ds : List PyData, fitXs ds = true → PyData.showableAll ds = true
  | [], _ => by simp only [PyData.showableAll]
  | d :: r, h => by
    simp only [fitXs, Bool.and_eq_true] at h
    simp only [PyData.showableAll, showX d h.1, showXs r h.2, Bool.and_self]
theorem showXk : ∀ ds : List (PyData × PyData), fitXk ds = true → PyData.showableKv ds = true
  | [], _ => by simp only [PyData.showableKv]
  | (k, d) :: r, h => by
    simp only [fitXk, Bool.and_eq_true] at h
    simp only [PyData.showableKv, showX k h.1.1, showX d h.1.2, showXk r h.2, Bool.and_self]
end
section
variable {X : Cx} {L : Lk} {M : Cs} {Q : Sl → Cs → Prop}
/-- repr of a list, a tuple, a dict -/
theorem k_showX {s : Sl} {d : PyData} (h : IsX M s d) (hb : isBox d = true) (fit : fitX d = true) (wt : wtX d ≤ 20000) (dp : d.depth ≤ 60) (q : Q (.d (.str d.shown)) M) : RCk X.K L (rShowX X.K) [s] M Q := fun G H vs Q' g a k => by
  obtain ⟨v, rfl, a1⟩ := sl1 a
  have x := IsX.dx g h a1
  have sz := shownX_le d fit
  have sl : (10 ^ 7 : Nat) ≤ sizeLine := by rw [sizeLine_eq]; decide
  have isr : ∃ p, v = .ref p := by
    cases x with
    | lst => exact ⟨_, rfl⟩
    | tup => exact ⟨_, rfl⟩
    | dic => exact ⟨_, rfl⟩
    | _ => cases hb
  obtain ⟨p, e⟩ := isr
  subst e
  exact ⟨p, d, rfl, x, showX d fit, dp, by omega, k.go q g (.d (.str _))⟩
end
/-- the law's own call, where its promise is asked only with no repr under way -/
theorem calm_lawS {P : Program} {w : World} {K : PySem.W.Frag} {mg mb : Str → Option Value} {k : Nat} {fa a : Addr} {fd : FuncData} {x : Str} {R : Rr} {t : Shared} {vs : List Value} {ns : List Int}
    (inK : K.In t.heap) (hns : t.heap.Ns mainGlobals mg) (hnb : t.heap.Ns builtinsNs mb) (hbb : ∀ y : Str, y ≠ "__name__" → mb y = bootBuiltins y) (noL : t.heap.NoLimit) (noGen : t.gens = #[])
    (hobj : t.heap.get? a = some { cls := .type "list", data := .seq vs.toArray }) (hin : IntsAre vs ns) (hlen : ns.length ≤ sizeLine) (room : Room k callerA)
    (hsys : Sys t.heap) (F : ∀ base : Heap, K.In base → base.Ns mainGlobals mg → Sys base → Calm P w K mg base k fa fd [x] (Spk K R)) (hbd : ∀ (s : Shared) (u : Value), BindsTo s fd ⟨[u], []⟩ [(x, u)])
    (prom : ∀ H : Hp, Only H → SqL K H a (ns.map V.int) → Spk K R [.ref a] H (fun v _ => v = .bl true) fun _ _ _ => False) :
    codeAny (model P w) callerA (.call (.ref fa) ⟨[.ref a], []⟩) (fun o t' => o = .ok (.ret (.bool true)) ∧ OldK t.heap t'.heap ∧ t'.os = t.os ∧ AllBare t'.gens) t := by
  have rv := vals_ints hin
  have lv := hin.length
  obtain ⟨H, ho, hS, hok, hA, hK⟩ : ∃ H : Hp, Only H ∧ SqL K H a (ns.map V.int) ∧ HOk P w H t.heap ∧ (∀ b, H b ≠ none → b = a) ∧ (H a ≠ none → K.lookup a = none) := by
    cases hk : K.lookup a with
    | some o =>
      have z := (inK a o hk).symm.trans hobj
      cases z
      exact ⟨fun _ => none, fun _ => .inl rfl, .inr ⟨_, vs.toArray, _, hk, rfl, rfl, rfl, by rw [List.size_toArray, lv]; exact hlen, by simpa using rv⟩, fun _ _ z => (nomatch z), fun _ z => absurd rfl z, fun z => absurd rfl z⟩
    | none =>
      have at1 : ∀ {b : Addr} {u : HO}, (if b = a then some (HO.frz { cls := .type "list", data := .seq vs.toArray } (.lst (ns.map V.int))) else none) = some u → b = a ∧ HO.frz { cls := .type "list", data := .seq vs.toArray } (.lst (ns.map V.int)) = u := fun {b u} z => by
        by_cases hb : b = a
        · rw [if_pos hb] at z
          exact ⟨hb, Option.some.inj z⟩
        · rw [if_neg hb] at z
          cases z
      refine ⟨fun b => if b = a then some (.frz { cls := .type "list", data := .seq vs.toArray } (.lst (ns.map V.int))) else none, fun b => ?_, .inl (.inr ⟨_, if_pos rfl⟩), fun b u z => ?_, fun b z => ?_, fun _ => rfl⟩
      · rcases Decidable.em (b = a) with hb | hb
        · exact .inr ⟨_, _, if_pos hb⟩
        · exact .inl (if_neg hb)
      · obtain ⟨rfl, rfl⟩ := at1 z
        exact ⟨hobj, by rw [List.length_map]; exact hlen, vs, _, rv, hobj⟩
      · rcases Decidable.em (b = a) with hb | hb
        · exact hb
        · exact absurd (if_neg hb) z
  have seqNo : ∀ {b : Addr} {o : Obj} {es : Array DictEntry} {ep : Nat}, t.heap.get? b = some o → o.data = .dict es ep → H b = none := fun {b o es ep} z d => by
    cases q : H b with
    | none => rfl
    | some u =>
      have zb : b = a := hA b (by rw [q]; exact fun y => (nomatch y))
      rw [zb, hobj] at z
      cases z
      exact absurd d fun y => (nomatch y)
  have inB : ∀ {b : Addr} {m : Str → Option Value}, t.heap.Ns b m → (hidT t.heap H).Ns b m := fun ⟨o, es, ep, z, d, r⟩ => ⟨o, es, ep, hidT_get z (seqNo z d), d, r⟩
  have kB : K.In (hidT t.heap H) := fun b o z => hidT_get (inK b o z) (by
    cases q : H b with
    | none => rfl
    | some u =>
      have zb : b = a := hA b (by rw [q]; exact fun y => (nomatch y))
      rw [zb, hK (by rw [← zb, q]; exact fun y => (nomatch y))] at z
      cases z)
  have md : Mod K mg (hidT t.heap H) := ⟨kB, inB hns, ⟨mb, inB hnb, hbb⟩, noL.elim fun mc z => ⟨mc, inB z.1, z.2⟩⟩
  have e0 : Env0 P w K mg (hidT t.heap H) callerA [] t H := ⟨rfl, md, fun b o z => of_hidT z, Nat.le_of_eq (hidT_size _ _), trivial, fun b hb => (nomatch hb), hok, .of_eq noGen⟩
  have main := (F _ kB (inB hns) (hsys.elim fun mm z => ⟨mm, inB z⟩)).go callerA [] t H ⟨[.ref a], []⟩ [.ref a] [.ref a] _ _ room rfl e0 (hbd t (.ref a)) (.cons rfl .nil) (prom H ho hS)
  refine codeAny_mono main fun o t' h => ?_
  cases o with
  | error e => exact h.elim
  | ok fl =>
    cases fl with
    | next => exact h.elim
    | brk => exact h.elim
    | cont => exact h.elim
    | ret u =>
      obtain ⟨v, H', os, bare, un, hok', rl, qv⟩ := h
      cases (show v = .bl true from qv)
      cases (show u = Value.bool true from rl)
      refine ⟨rfl, OldK.of_keep fun b o z => ?_, os, bare⟩
      cases q : H b with
      | none => exact un.keep b o z q (fun y => (nomatch y)) (fun y => (nomatch y))
      | some u =>
        rcases ho b with y | ⟨ob, xs, y⟩
        · rw [q] at y
          cases y
        · obtain ⟨z1, _⟩ := hok b _ y
          obtain ⟨z2, _⟩ := hok' b _ (un.frzs b ob _ y)
          rw [z] at z1
          cases z1
          exact z2
theorem walk_calmS {l : PySem.W.OpenLaw} {n k : Nat} {q : Program} {loose : List Str} {XP : (Str → Option Value) → Heap → Prop} {YP : World → Heap → Prop} {d : DefRec} {K : Params → PySem.W.Frag} {R : Rr} {x : Str}
    (hmost : l.most = some n) (hle : n ≤ sizeLine) (hdef : d.params.defaults = []) (himp : importsNone q = true) (room : Room k callerA) (hY : ∀ (w : World) (h : Heap), YP w h → (K w.params).In h)
    (F : ∀ (w : World) (mg : Str → Option Value) (fa : Addr) (h : Heap), (K w.params).In h → h.Ns mainGlobals mg → mg d.name = some (.ref fa) →
      ∃ fd : FuncData, (∀ (s : Shared) (u : Value), BindsTo s fd ⟨[u], []⟩ [(x, u)]) ∧ ∀ base : Heap, (K w.params).In base → base.Ns mainGlobals mg → Sys base → Calm l.prog w (K w.params) mg base k fa fd [x] (Spk (K w.params) R))
    (prom : ∀ (w : World) (H : Hp) (a : Addr) (ns : List Int), ns.length ≤ n → Only H → SqL (K w.params) H a (ns.map V.int) → Spk (K w.params) R [.ref a] H (fun v _ => v = .bl true) fun _ _ _ => False) :
    PySem.W.WalkO q loose XP YP l.row.toRowW d [] (fun f vs => PySem.call f vs) := by
  refine Att.attach_call hmost hdef fun w t0 t mg mb fa o pm cd doc a vs ns G y ho hd hcd hmg hobj hin hlen noGen => ?_
  obtain ⟨fd, hbd, hF⟩ := F w mg fa _ (hY w _ y) G.T.g hmg
  exact calm_lawS (hY w _ y) G.T.g G.T.b G.T.builtins G.T.nolimit noGen hobj hin (Nat.le_trans hlen hle) room ((G.T.seer himp).mods.elim fun mm z => ⟨mm, z.1⟩) hF hbd fun H ho hS => prom w H a ns hlen ho hS
end Y

/-! list(range(a, b)) of ints of any size -/
namespace PySem
section
variable {pr : Program} {wd : World} {Ar : Around} {Er : Value → Shared → Prop} {sh : Shared} {ra : Addr} {lo hi st : Int} {ta tb tc : Tok} {m : Nat}
abbrev lriObj (lo hi st : Int) : Obj := { cls := .type "longrange_iterator", data := .fields #[rawInt lo, rawInt (Builtin.Range.rangeSize lo hi st), rawInt st] }
theorem ylr_extend {R : Result → Shared → Prop} (hd : Ar.handled = none) (ir : IsRange sh.heap ra lo hi st ta tb tc) (big : Builtin.Range.small lo hi st = false) (sz : Builtin.Range.rangeSize lo hi st = m) (le : m ≤ 2 ^ 24) (l : Addr) (res : Value) (k0 : Nat)
    (isl : sh.heap.get? l = some { cls := .type "list", data := .seq #[] k0 })
    (done : ∀ h1 tk ac k1, (∀ z o, z ≠ l → sh.heap.get? z = some o → h1.get? z = some o) → h1.get? l = some { cls := .type "list", dict := none, data := .seq ac k1, slots := #[] } → ItemsOf (fun j v => ∃ t, v = .int (lo + j * st) t) ac m → R (.ok (.ret res)) { sh with heap := h1, toks := tk }) :
    wpAny (model pr wd) Ar.in1 (Builtin.List.listExtendWith (.ref l) (.ref ra) res) (fun fin t => match fin with | .done f => R (.ok f) t | .again c' => c'.quiet = true ∧ codeAny (model pr wd) Ar c' R t) (fun e t => R (.error e) t) sh := by
  have n1 : l ≠ ra := by intro e; rw [e, ir] at isl; simp at isl
  have n2 : l ≠ sh.heap.objs.size := Nat.ne_of_lt (Heap.lt_size isl)
  have n3 : l ∉ [sh.heap.objs.size] := by intro z; exact n2 (List.mem_singleton.mp z)
  have loop : ∀ (h : Heap) (k1 tk : Nat), IsLongIter h sh.heap.objs.size (lo + ((0 : Nat) : Int) * st) ((m : Int) - ((0 : Nat) : Int)) st → (∀ z o, z ≠ l → sh.heap.get? z = some o → h.get? z = some o) → h.get? l = some { cls := .type "list", data := .seq #[] k1 } →
      codeAny (model pr wd) Ar (.builtin "list.extend.loop" ⟨[.ref l, .ref sh.heap.objs.size, res], []⟩) R { sh with heap := h, toks := tk } := by
    intro h k1 tk it kp il
    refine codeAny_extend_loopS ((Walks.longrange (prog := pr) (w := wd) (A := Ar.in1) hd sh.heap.objs.size lo st m).toS) (by have := sizeLine_eq; omega) l n3 res m 0 _ #[] k1 rfl (Nat.zero_le _) it il (ItemsOf.nil _) ?_
    intro t ac k2 mv il2 its
    rw [Moved.eq_with mv]
    refine done t.heap t.toks ac k2 ?_ il2 its
    intro z o nz e
    refine mv.heap z o ?_ (kp z o nz e)
    intro hm
    rcases List.mem_cons.mp hm with y | y
    · exact nz y
    · have := Heap.lt_size e
      rw [List.mem_singleton.mp y] at this
      exact Nat.lt_irrefl _ this
  unfold Builtin.List.listExtendWith
  refine wpAny_bind (wpAny_typeOf (T := "range") ⟨_, ir, rfl⟩ ?_)
  have e1 : Builtin.List.listSameRef (.ref l) (.ref ra) = false := by simp [Builtin.List.listSameRef, n1]
  simp only [e1, show (Value.type "range" == Value.type "list") = false from by decide, show (Value.type "range" == Value.type "tuple") = false from by decide, Bool.or_false, Bool.false_eq_true, if_false]
  refine wpAny_bind (wpAny_pyIter_longrange ir big (wpAny_bind (wpAny_holding (wpAny_hint_range (n := m) (Heap.get?_push_of_some _ ir) sz le ?_))))
  have it0 : IsLongIter (sh.heap.push (lriObj lo hi st)) sh.heap.objs.size (lo + ((0 : Nat) : Int) * st) ((m : Int) - ((0 : Nat) : Int)) st := by
    show IsLongIter _ _ _ _ _
    have := Heap.get?_push_size sh.heap (o := lriObj lo hi st) rfl
    simp only [lriObj, sz] at this
    simpa [lriObj, sz] using this
  have il0 := Heap.get?_push_of_some (lriObj lo hi st) isl
  refine wpAny_ite_split (fun _ => ?_) (fun _ => wpAny_pure ⟨plainId_quiet F.plain_extend_loop _, loop _ k0 _ it0 (fun z o _ e => Heap.get?_push_of_some _ e) il0⟩)
  refine wpAny_bind (wpAny_rule (wpAny_bind ?_))
  show wpAny _ _ (updateSeq l (·.push .none) >>= fun _ => updateSeq l (·.pop)) _ _ _
  refine wpAny_bind (wpAny_updateSeq il0 rfl ?_)
  have il1 := Heap.get?_update_self (Obj.mapSeq (·.push Value.none)) il0 rfl
  refine wpAny_updateSeq (hz := by seq_fits) il1 rfl ?_
  have il2 := Heap.get?_update_self (Obj.mapSeq (·.pop)) il1 rfl
  have far : ∀ z o, z ≠ l → (sh.heap.push (lriObj lo hi st)).get? z = some o → (((sh.heap.push (lriObj lo hi st)).update l (Obj.mapSeq (·.push Value.none))).update l (Obj.mapSeq (·.pop))).get? z = some o :=
    fun z o nz e => (Heap.get?_update_other _ _ (Ne.symm nz)).trans ((Heap.get?_update_other _ _ (Ne.symm nz)).trans e)
  exact wpAny_pure ⟨plainId_quiet F.plain_extend_loop _, loop _ _ _ (far _ _ (Ne.symm n2) it0) (fun z o nz e => far z o nz (Heap.get?_push_of_some _ e)) il2⟩
theorem ylr_init {R : Result → Shared → Prop} (hd : Ar.handled = none) (ir : IsRange sh.heap ra lo hi st ta tb tc) (big : Builtin.Range.small lo hi st = false) (sz : Builtin.Range.rangeSize lo hi st = m) (le : m ≤ 2 ^ 24) (l : Addr) (isl : sh.heap.get? l = some { cls := .type "list", data := .seq #[] })
    (done : ∀ h1 tk ac k1, (∀ z o, z ≠ l → sh.heap.get? z = some o → h1.get? z = some o) → h1.get? l = some { cls := .type "list", dict := none, data := .seq ac k1, slots := #[] } → ItemsOf (fun j v => ∃ t, v = .int (lo + j * st) t) ac m → R (.ok (.ret .none)) { sh with heap := h1, toks := tk }) :
    wpAny (model pr wd) Ar.in1 (Builtin.«list.__init__» ⟨[.ref l, .ref ra], []⟩) (fun fin t => match fin with | .done f => R (.ok f) t | .again c' => c'.quiet = true ∧ codeAny (model pr wd) Ar c' R t) (fun e t => R (.error e) t) sh := by
  have n1 : ra ≠ l := by intro e; rw [← e, ir] at isl; simp at isl
  show wpAny _ _ (do let old ← Builtin.List.listItems (.ref l); Builtin.List.listUpdate (.ref l) (fun _ => #[]); letGo old.toList.reverse; Builtin.List.listExtendWith (.ref l) (.ref ra) .none) _ _ sh
  refine wpAny_bind ?_; unfold Builtin.List.listItems; refine wpAny_bind (wpAny_seqItems isl rfl (wpAny_pure ?_))
  show wpAny _ _ (updateSeq l (fun _ => #[]) >>= fun _ => letGo (#[] : Array Value).toList.reverse >>= fun _ => Builtin.List.listExtendWith (.ref l) (.ref ra) .none) _ _ sh
  refine wpAny_bind (wpAny_updateSeq isl rfl (wpAny_bind (wpAny_letGo ?_)))
  have far : ∀ z o, z ≠ l → sh.heap.get? z = some o → (sh.heap.update l (Obj.mapSeq (fun _ => (#[] : Array Value)))).get? z = some o := fun z o nz e => (Heap.get?_update_other _ _ (Ne.symm nz)).trans e
  refine ylr_extend hd (far _ _ n1 ir) big sz le l .none _ (Heap.get?_update_self (Obj.mapSeq (fun _ => (#[] : Array Value))) isl rfl) ?_
  intro h1 tk ac k1 kp il its
  exact done h1 tk ac k1 (fun z o nz e => kp z o nz (far z o nz e)) il its
theorem ylr_call {Q : Value → Shared → Prop} (hd : Ar.handled = none) (ir : IsRange sh.heap ra lo hi st ta tb tc) (big : Builtin.Range.small lo hi st = false) (sz : Builtin.Range.rangeSize lo hi st = m) (le : m ≤ 2 ^ 24)
    (done : ∀ h1 tk ac k1, (∀ z o, sh.heap.get? z = some o → h1.get? z = some o) → h1.get? sh.heap.objs.size = some { cls := .type "list", dict := none, data := .seq ac k1, slots := #[] } → ItemsOf (fun j v => ∃ t, v = .int (lo + j * st) t) ac m → Q (.ref sh.heap.objs.size) { sh with heap := h1, toks := tk }) :
    wpAny (model pr wd) Ar (call (.type "list") [.ref ra]) Q Er sh := by
  refine callType_codes (Q₁ := fun x t => x = .ref sh.heap.objs.size ∧ t = { sh with heap := sh.heap.push { cls := .type "list", data := .seq #[] } }) F.called_list (F.typeCall_list_1 _) F.entry_list_init (code_list_new _ ⟨rfl, rfl⟩) ?_
  rintro x t ⟨rfl, rfl⟩
  have isl := Heap.get?_push_size sh.heap (o := { cls := .type "list", data := .seq #[] }) rfl
  refine ⟨⟨_, isl, rfl⟩, F.args_list_init_2 _ _, ylr_init (Ar := Ar.in1) hd (Heap.get?_push_of_some _ ir) big sz le _ isl ?_⟩
  intro h1 tk ac k1 kp il its
  exact ⟨rfl, done h1 tk ac k1 (fun z o e => kp z o (Nat.ne_of_lt (Heap.lt_size e)) (Heap.get?_push_of_some _ e)) il its⟩
end
end PySem
namespace Y
open PySem L2 PyProof.Rows
section
variable {X : Cx} {L : Lk} {τ : List (Option Sl)} {M : Cs} {Q : Sl → Cs → Prop} {a b : Expr} {p p2 pos pos2 : Pos} {QJ : QI} {tg : Expr}
def rgI (i j : Int) : List Sl := (List.range (j - i).toNat).map fun k => dI (i + (k : Nat))
theorem rg_sl {K : PySem.W.Frag} {G : Hp} (i j : Int) : SlL K G (rgV i j) (rgI i j) := by
  unfold rgV rgI
  have gen : ∀ l : List Nat, SlL K G (l.map fun k => V.int (i + (k : Nat))) (l.map fun k => dI (i + (k : Nat))) := by
    intro l
    induction l with
    | nil => exact .nil
    | cons x r ih => exact .cons (.d (.int _)) ih
  exact gen _
def tLstRgL (te : L2.St → Hp → (Int → Int → Hp → Prop) → Prop) : TE := fun σ H Q => te σ H fun i j H1 => (j - i).toNat ≤ 2 ^ 24 ∧ ∀ q, H1 q = none → Q (.ref q) (upd H1 q (.lst (rgV i j)))
theorem pe_listRgL {e : Expr} {te : L2.St → Hp → (Int → Int → Hp → Prop) → Prop} (hc : X.calm = true) (hg : Gl X "list") (hm : X.mg "list" = none) (he : PRg X e te) (na : starEach [e] X.env = (false, eval e X.env) :: starEach [] X.env := by rfl) : PE X (.Call (.Name "list" p) [e] [] pos) (tLstRgL te) := by
  refine ⟨fun pins s σ H Q I h => ?_⟩
  refine Call_ (ld_blt I hg hm boot_list (PyProof.Rows.callWith_type1 (args_cons (thn (he pins s σ H _ I h) fun x s1 ⟨r, i, j, t, u, v, H1, ex, hr, I1, le, q⟩ => args_nil ?_) na) na))
  subst ex
  have fin : ∀ h1 tk ac k1, (∀ z o, s1.heap.get? z = some o → h1.get? z = some o) → h1.get? s1.heap.objs.size = some { cls := .type "list", dict := none, data := .seq ac k1, slots := #[] } → ItemsOf (fun m v => ∃ t, v = .int (i + m * 1) t) ac (j - i).toNat → EP X pins σ Q (.ref s1.heap.objs.size) { s1 with heap := h1, toks := tk } := by
    intro h1 tk ac k1 kp il its
    refine ⟨.ref s1.heap.objs.size, upd H1 s1.heap.objs.size (.lst (rgV i j)), I1.laid kp (Nat.le_refl _) (show ObjOk X.prog X.w _ _ _ (.lst (rgV i j)) from ⟨by rw [rgV_length, sizeLine_eq]; omega, ac.toList, k1, vals_rg its, by rw [Array.toArray_toList]; exact il⟩), rfl, q _ (I1.hok.fresh (Nat.le_refl _))⟩
  cases sm : Builtin.Range.small i j 1 with
  | true => exact call_list_range (n := (j - i).toNat) (I1.ok.hd hc) hr sm (rangeSize_nat i j) le fin
  | false => exact ylr_call (m := (j - i).toNat) (I1.ok.hd hc) hr sm (rangeSize_nat i j) le fin
/-- list(range(a, b)) -/
theorem de_listRg (hc : X.calm = true) (hg : Gl X "list") (hm : X.mg "list" = none) (hg2 : Gl X "range") (hm2 : X.mg "range" = none) (w : DE X L a τ M fun s M1 => DE X L b τ M1 fun t M2 => ∃ i j : Int, s = dI i ∧ t = dI j ∧ (j - i).toNat ≤ 2 ^ 24 ∧ ∀ q, M2 q = none → Q (.c q) (updC M2 q (.l (rgI i j))))
    (na : starEach [.Call (.Name "range" p2) [a, b] [] pos2] X.env = (false, eval (.Call (.Name "range" p2) [a, b] [] pos2) X.env) :: starEach [] X.env := by rfl) (nb : starEach [a, b] X.env = (false, eval a X.env) :: starEach [b] X.env := by rfl) (nc : starEach [b] X.env = (false, eval b X.env) :: starEach [] X.env := by rfl) (nd : (backTo pos2 (starEach [b] X.env)).any (·.1) = false := by rfl) :
    DE X L (.Call (.Name "list" p) [.Call (.Name "range" p2) [a, b] [] pos2] [] pos) τ M Q := by
  refine de_of (pe_listRgL hc hg hm (prg_2 hg2 hm2 pe_s pe_s nb nc nd) na) fun σ G H Q' gs gm k => ?_
  refine w σ G H _ gs gm fun s M1 v G1 H1 q e1 g1 a1 => q σ G1 H1 _ (gs.mono e1) g1 ?_
  rintro t M2 u G2 H2 ⟨i, j, es, et, le, q2⟩ e2 g2 a2
  subst es et
  refine ⟨i, j, sl_int (a1.mono e2), sl_int a2, le, fun c hc => ?_⟩
  exact k _ _ _ _ _ (q2 c (g2.free hc).2) (e1.trans e2) (g2.newC hc ⟨_, upd_same, rg_sl i j⟩) (.c c)
end
end Y

namespace Y
open PySem L2 PyProof.Rows
section
variable {X : Cx} {L : Lk} {τ : List (Option Sl)} {M : Cs} {Q : Sl → Cs → Prop} {e iter tg : Expr} {p pos : Pos} {QJ : QI}
/-- reversed(xs) -/
theorem di_rev (hg : Gl X "reversed") (hm : X.mg "reversed" = none) (w : DE X L iter τ M fun s M1 => ∃ ss, seqOf M1 s = some ss ∧ QJ ss.length (fun M' => seqOf M' s = some ss) (fun i y => ss[ss.length - 1 - i]? = some y) M1)
    (hs : starEach [iter] X.env = (false, eval iter X.env) :: starEach [] X.env := by rfl) : DI X L tg (.Call (.Name "reversed" p) [iter] [] pos) τ M QJ := fun σ G H R gs gm k => by
  refine i_of (RT.pi_revA hg hm pe_s hs) ?_
  show sE X iter σ H (fun v H1 => ∃ (a : Addr) (xs : List V), v = .ref a ∧ ((SqL X.K H1 a xs ∧ R (Itv X.K a xs.length) H1) ∨ (SqT X.K H1 a xs ∧ R (RT.ItvT X.K a xs.length) H1)))
  refine w σ G H _ gs gm ?_
  rintro s M1 v G1 H1 ⟨ss, hs, q⟩ e1 g1 a1
  obtain ⟨p, xs, rfl, r, l⟩ := seq_at g1 a1 hs
  refine ⟨p, xs, rfl, ?_⟩
  have len0 := l.len
  cases hT : isTup s with
  | false =>
    rw [hT, if_neg Bool.false_ne_true] at r
    refine .inl ⟨r, k _ _ _ M1 G1 H1 _ q e1 g1 ⟨fun M' G' H' sM e' g' => Nat.le_of_eq len0, fun i M' G' H' hi sM e' g' => ?_⟩⟩
    obtain ⟨p', xs', ep, r', l'⟩ := seq_at g' (a1.mono e') sM
    cases ep
    rw [hT, if_neg Bool.false_ne_true] at r'
    have hj : ss.length - 1 - i < ss.length := by omega
    obtain ⟨v, hv, av⟩ := l'.get (List.getElem?_eq_getElem hj)
    rw [len0]
    refine ⟨⟨hi, xs', v, r', hv⟩, fun x H2 hy => ?_⟩
    obtain ⟨rfl, f⟩ := hy
    have ex := Option.some.inj ((f _ r').symm.trans hv)
    subst ex
    exact ⟨_, G', List.getElem?_eq_getElem hj, Ex.refl _, g', av⟩
  | true =>
    rw [hT, if_pos rfl] at r
    refine .inr ⟨r, k _ _ _ M1 G1 H1 _ q e1 g1 ⟨fun M' G' H' sM e' g' => Nat.le_of_eq len0, fun i M' G' H' hi sM e' g' => ?_⟩⟩
    obtain ⟨p', xs', ep, r', l'⟩ := seq_at g' (a1.mono e') sM
    cases ep
    rw [hT, if_pos rfl] at r'
    have hj : ss.length - 1 - i < ss.length := by omega
    obtain ⟨v, hv, av⟩ := l'.get (List.getElem?_eq_getElem hj)
    rw [len0]
    refine ⟨⟨hi, xs', v, r', hv⟩, fun x H2 hy => ?_⟩
    obtain ⟨rfl, f⟩ := hy
    have ex := Option.some.inj ((f _ r').symm.trans hv)
    subst ex
    exact ⟨_, G', List.getElem?_eq_getElem hj, Ex.refl _, g', av⟩
theorem SlL.rev {K : PySem.W.Frag} {G : Hp} : ∀ {vs : List V} {ss : List Sl}, SlL K G vs ss → SlL K G vs.reverse ss.reverse
  | _, _, .nil => .nil
  | _, _, .cons a b => by
    rw [List.reverse_cons, List.reverse_cons]
    exact (SlL.rev b).append (.cons a .nil)
/-- xs[::-1], a list -/
theorem de_rev {k : Nat} {p1 p2 p3 : Pos} (w : DE X L e τ M fun s M1 => ∃ ss, isTup s = false ∧ seqOf M1 s = some ss ∧ ∀ q, M1 q = none → Q (.c q) (updC M1 q (.l ss.reverse))) : DE X L (.Subscript e (.Slice none none (some (.UnaryOp .USub (.Constant (.int 1) k p1) p2)) p3) pos) τ M Q :=
  de_of (pe_revL pe_s) fun σ G H Q' gs gm kk => w σ G H _ gs gm fun s M1 v G1 H1 ⟨ss, hT, h, q⟩ e1 g1 a1 => by
    obtain ⟨p, xs, rfl, r, l⟩ := seq_at g1 a1 h
    rw [hT, if_neg Bool.false_ne_true] at r
    exact ⟨p, xs, rfl, r, fun c hc => kk _ _ _ G1 _ (q c (g1.free hc).2) e1 (g1.newC hc ⟨_, upd_same, l.rev⟩) (.c c)⟩
/-! dict of pairs -/
def mergeS (kvs more : List (Key × Sl)) : List (Key × Sl) := more.foldl (fun acc kv => putS acc kv.1 kv.2) kvs
theorem KvAt.merge {K : PySem.W.Frag} {G : Hp} : ∀ {more : List (Key × V)} {ms : List (Key × Sl)} {xs : List (Key × V)} {ys : List (Key × Sl)}, KvAt K G more ms → KvAt K G xs ys → KvAt K G (mergeK xs more) (mergeS ys ms)
  | [], [], _, _, _, h => h
  | (k, v) :: ps, (k2, s) :: qs, _, _, ⟨e, a, t⟩, h => by
    have e' : k = k2 := e
    subst e'
    exact KvAt.merge (more := ps) (ms := qs) t (KvAt.put a h)
  | [], _ :: _, _, _, h, _ => h.elim
  | _ :: _, [], _, _, h, _ => h.elim
def prD (kv : Key × PyData) : Sl := .d (.tuple [kD kv.1, kv.2])
theorem pairs_at {K : PySem.W.Frag} {L : Lk} {M : Cs} {G H : Hp} (g : GoodM K L M G H) : ∀ {kd : List (Key × PyData)} {xs : List V}, SlL K G xs (kd.map prD) → ∃ (ps : List Addr) (kvs : List (Key × V)), xs = ps.map V.ref ∧ Paired (fun p kv => SqT K H p [kV kv.1, kv.2]) ps kvs ∧ KvAt K G kvs (slK kd)
  | [], xs, h => by
    cases h
    exact ⟨[], [], rfl, .nil, trivial⟩
  | (k, d) :: r, xs, h => by
    rw [List.map_cons] at h
    cases h with
    | cons a b =>
      obtain ⟨ps, kvs, rfl, hp, hk⟩ := pairs_at g b
      cases a with
      | d a =>
        cases a with
        | @tup q _ _ e l =>
          cases l with
          | @cons vk _ _ _ a1 l =>
            cases l with
            | @cons vd _ _ _ a2 l =>
              cases l
              have ek : vk = kV k := by
                cases k with
                | inl i => cases a1; rfl
                | inr x => cases a1; rfl
              subst ek
              exact ⟨q :: ps, (k, vd) :: kvs, rfl, .cons (.inl (g.rd e)) hp, rfl, .d a2, hk⟩
theorem k_dictP {s : Sl} {kd : List (Key × PyData)} (hT : isTup s = false) (h : seqOf M s = some (kd.map prD)) (q : ∀ p, M p = none → Q (.c p) (updC M p (.k (mergeS [] (slK kd))))) :
    RCk X.K L (fun xs H Q => ∃ (a : Addr) (ps : List Addr) (kvs : List (Key × V)), xs = [.ref a] ∧ SqL X.K H a (ps.map V.ref) ∧ Paired (fun p kv => SqT X.K H p [kV kv.1, kv.2]) ps kvs ∧ ∀ p, H p = none → Q (.ref p) (upd H p (.dK (mergeK [] kvs)))) [s] M Q := fun G H vs Q' g a k => by
  obtain ⟨v, rfl, a1⟩ := sl1 a
  obtain ⟨p, xs, rfl, r, l⟩ := seq_at g a1 h
  rw [hT, if_neg Bool.false_ne_true] at r
  obtain ⟨ps, kvs, rfl, hp, hk⟩ := pairs_at g l
  exact ⟨p, ps, kvs, rfl, r, hp, fun c hc => k _ _ _ G _ (q c (g.free hc).2) (Ex.refl G) (g.newC hc ⟨_, upd_same, KvAt.merge hk trivial⟩) (.c c)⟩
theorem putS_new {kvs : List (Key × Sl)} {k : Key} {v : Sl} (h : k ∉ kvs.map (·.1)) : putS kvs k v = kvs ++ [(k, v)] := by
  unfold putS
  rw [if_neg]
  intro z
  obtain ⟨p, hp, e⟩ := List.any_eq_true.mp z
  exact h (List.mem_map.mpr ⟨p, hp, of_decide_eq_true e⟩)
theorem mergeS_nodup : ∀ (more kvs : List (Key × Sl)), ((kvs ++ more).map (·.1)).Nodup → mergeS kvs more = kvs ++ more
  | [], kvs, _ => by rw [List.append_nil]; rfl
  | (k, v) :: r, kvs, h => by
    have h1 : k ∉ kvs.map (·.1) := by
      rw [List.map_append, List.map_cons] at h
      have := (List.nodup_append.mp h).2.2
      intro z
      exact this k z k List.mem_cons_self rfl
    show mergeS (putS kvs k v) r = _
    rw [putS_new h1, mergeS_nodup r _ (by rw [List.append_assoc]; exact h), List.append_assoc]
    rfl
end
end Y

namespace Y
open PySem L2 PyProof.Rows
/-! ### a dict cell, seen as data while a call runs -/
mutual
def ndD : PyData → Bool
  | .list ds => ndDs ds
  | .tuple ds => ndDs ds
  | .dict _ => false
  | _ => true
def ndDs : List PyData → Bool
  | [] => true
  | d :: r => ndD d && ndDs r
end
mutual
def ndS : Sl → Bool
  | .d x => ndD x
  | .u ss => ndSs ss
  | _ => true
def ndSs : List Sl → Bool
  | [] => true
  | s :: r => ndS s && ndSs r
end
def ndK : List (Key × Sl) → Bool
  | [] => true
  | p :: r => ndS p.2 && ndK r
def ndC : Cell → Bool
  | .l ss => ndSs ss
  | .k kvs => ndK kvs
def ndM (M : Cs) : Prop := ∀ a c, M a = some c → ndC c = true
def delG (G : Hp) (a : Addr) : Hp := fun b => if b = a then none else G b
theorem delG_ne {G : Hp} {a b : Addr} (h : b ≠ a) : delG G a b = G b := by unfold delG; rw [if_neg h]
theorem delG_same {G : Hp} {a : Addr} : delG G a a = none := by unfold delG; rw [if_pos rfl]
section
variable {K : PySem.W.Frag} {G : Hp} {a : Addr} {xs : List (Key × V)}
theorem delG_keep {b : Addr} {o : HO} (ha : G a = some (.dK xs)) (h : G b = some o) (ho : ∀ ys, o ≠ .dK ys) : delG G a b = some o := by
  rw [delG_ne]
  · exact h
  · intro e
    subst e
    rw [ha] at h
    cases h
    exact ho _ rfl
mutual
theorem At.less (ha : G a = some (.dK xs)) : ∀ {v : V} {d : PyData}, At K G v d → ndD d = true → At K (delG G a) v d
  | _, _, .non, _ => .non
  | _, _, .bl b, _ => .bl b
  | _, _, .int i, _ => .int i
  | _, _, .str x, _ => .str x
  | _, _, .lst h l, n => .lst (delG_keep ha h fun _ => nofun) (AtL.less ha l (by simpa [ndD] using n))
  | _, _, .tup h l, n => .tup (delG_keep ha h fun _ => nofun) (AtL.less ha l (by simpa [ndD] using n))
  | _, _, .dic h l, n => by simp [ndD] at n
theorem AtL.less (ha : G a = some (.dK xs)) : ∀ {vs : List V} {ds : List PyData}, AtL K G vs ds → ndDs ds = true → AtL K (delG G a) vs ds
  | _, _, .nil, _ => .nil
  | _, _, .cons h l, n => by
    simp only [ndDs, Bool.and_eq_true] at n
    exact .cons (At.less ha h n.1) (AtL.less ha l n.2)
end
mutual
theorem SlAt.less (ha : G a = some (.dK xs)) : ∀ {v : V} {s : Sl}, SlAt K G v s → ndS s = true → SlAt K (delG G a) v s
  | _, _, .d h, n => .d (At.less ha h (by simpa [ndS] using n))
  | _, _, .c p, _ => .c p
  | _, _, .t m, _ => .t m
  | _, _, .u h l, n => .u (delG_keep ha h fun _ => nofun) (SlL.less ha l (by simpa [ndS] using n))
  | _, _, .s h, _ => .s (h.imp (fun z => delG_keep ha z fun _ => nofun) id)
theorem SlL.less (ha : G a = some (.dK xs)) : ∀ {vs : List V} {ss : List Sl}, SlL K G vs ss → ndSs ss = true → SlL K (delG G a) vs ss
  | _, _, .nil, _ => .nil
  | _, _, .cons h l, n => by
    simp only [ndSs, Bool.and_eq_true] at n
    exact .cons (SlAt.less ha h n.1) (SlL.less ha l n.2)
end
theorem KvAt.less (ha : G a = some (.dK xs)) : ∀ {vs : List (Key × V)} {ss : List (Key × Sl)}, KvAt K G vs ss → ndK ss = true → KvAt K (delG G a) vs ss
  | [], [], _, _ => trivial
  | _ :: _, _ :: _, ⟨e, h, l⟩, n => by
    simp only [ndK, Bool.and_eq_true] at n
    exact ⟨e, SlAt.less ha h n.1, KvAt.less ha l n.2⟩
  | [], _ :: _, h, _ => h.elim
  | _ :: _, [], h, _ => h.elim
theorem CellOk.less {H : Hp} {b : Addr} {c : Cell} (ha : G a = some (.dK xs)) (h : CellOk K G H b c) (n : ndC c = true) : CellOk K (delG G a) H b c := by
  cases c with
  | l ss => obtain ⟨ys, h1, h2⟩ := h; exact ⟨ys, h1, SlL.less ha h2 n⟩
  | k ss => obtain ⟨ys, h1, h2⟩ := h; exact ⟨ys, h1, KvAt.less ha h2 n⟩
theorem GoodM.less {L : Lk} {M : Cs} {H : Hp} {kvs : List (Key × Sl)} (g : GoodM K L M G H) (hL : NoDK L) (ha : G a = some (.dK xs)) (hk : KvAt K G xs kvs) (nM : ndM M) (nk : ndK kvs = true) : GoodM K L (updC M a (.k kvs)) (delG G a) H := by
  refine ⟨fun b o h => ?_, fun b c h => ?_, g.lk⟩
  · by_cases e : b = a
    · subst e
      rw [delG_same] at h
      cases h
    · rw [delG_ne e] at h
      exact g.vw b o h
  · by_cases e : b = a
    · subst e
      rw [updC_same] at h
      cases h
      exact ⟨delG_same, xs, lock_exact g hL ha, KvAt.less ha hk nk⟩
    · rw [updC_ne e] at h
      obtain ⟨h1, h2⟩ := g.cell b c h
      exact ⟨by rw [delG_ne e]; exact h1, CellOk.less ha h2 (nM b c h)⟩
end
/-- the arguments with one dict cell seen as data -/
def seeA (a : Addr) (d : PyData) : List Sl → List Sl := List.map fun s => match s with
  | .c b => if b = a then .d d else .c b
  | s => s
theorem SlL.see {K : PySem.W.Frag} {G : Hp} {a : Addr} {d : PyData} (h : At K G (.ref a) d) : ∀ {vs : List V} {ss : List Sl}, SlL K G vs ss → SlL K G vs (seeA a d ss)
  | _, _, .nil => .nil
  | _, _, .cons p l => by
    refine .cons ?_ (SlL.see h l)
    cases p with
    | c b =>
      show SlAt K G (.ref b) (if b = a then .d d else .c b)
      by_cases e : b = a
      · rw [if_pos e, e]; exact .d h
      · rw [if_neg e]; exact .c b
    | d x => exact .d x
    | t n => exact .t n
    | u x y => exact .u x y
    | s x => exact .s x
section
variable {X : Cx} {L : Lk} {τ : List (Option Sl)} {M : Cs} {Q : Sl → Cs → Prop} {e : Expr} {es : List Expr} {pos p : Pos}
/-- what is asked where a contract is used with the dict cell a seen as data -/
def View (L : Lk) (R : Rr) (a : Addr) (kd : List (Key × PyData)) (ss : List Sl) (M1 : Cs) (Q : Sl → Cs → Prop) : Prop :=
  NoDK L ∧ M1 a = some (.k (slK kd)) ∧ ndK (slK kd) = true ∧ R L (seeA a (.dict (encK kd)) ss) (delC M1 a) fun s M2 => M2 a = none → ∃ M3, Sub M3 M2 ∧ ndS s = true ∧ ndM M3 ∧ Q s (updC M3 a (.k (slK kd)))
theorem view_ret {K : PySem.W.Frag} {L : Lk} {R : Rr} {a : Addr} {kd : List (Key × PyData)} {ss : List Sl} {M1 : Cs} {Q : Sl → Cs → Prop} {G H : Hp} {vs : List V} {Q' : VK} (v : View L R a kd ss M1 Q) (g : GoodM K L M1 G H) (al : SlL K G vs ss) (k : Ret K L G Q Q') :
    ∃ (M G1 : _) (ss' : List Sl) (Q0 : Sl → Cs → Prop), GoodM K L M G1 H ∧ SlL K G1 vs ss' ∧ R L ss' M Q0 ∧ Ret K L G1 Q0 Q' := by
  obtain ⟨hL, ha, nk, r⟩ := v
  obtain ⟨f, xs, h1, h2⟩ := g.cell a _ ha
  have ex : Ex G (upd G a (.dK xs)) := Ex.new f
  have gm : GoodM K L (delC M1 a) (upd G a (.dK xs)) H := by
    refine ⟨fun b u e => ?_, fun b c e => ?_, g.lk⟩
    · by_cases hb : b = a
      · subst hb
        rw [upd_same] at e
        cases e
        exact .inl h1
      · rw [upd_ne hb] at e
        exact g.vw b u e
    · by_cases hb : b = a
      · subst hb
        rw [delC_same] at e
        cases e
      · rw [delC_ne hb] at e
        obtain ⟨z1, z2⟩ := g.cell b c e
        exact ⟨by rw [upd_ne hb]; exact z1, z2.mono ex fun o q => q⟩
  have ad : At K (upd G a (.dK xs)) (.ref a) (.dict (encK kd)) := .dic upd_same (AtK.mono ex (KvAt.at kd h2))
  refine ⟨_, _, _, _, gm, SlL.see ad (al.mono ex), r, ?_⟩
  intro s M2 v G2 H2 q0 e2 g2 a2
  have ha2 : G2 a = some (.dK xs) := e2 _ _ upd_same
  have no : M2 a = none := by
    cases z : M2 a with
    | none => rfl
    | some c =>
      have := (g2.cell a c z).1
      rw [ha2] at this
      cases this
  obtain ⟨M3, sb, ns, nm, q⟩ := q0 no
  refine k s _ v (delG G2 a) H2 q ?_ (GoodM.less (g2.sub sb) hL ha2 (KvAt.mono (ex.trans e2) h2) nm nk) (SlAt.less ha2 a2 ns)
  intro b o hb
  have hba : b ≠ a := by
    intro z
    subst z
    rw [f] at hb
    cases hb
  rw [delG_ne hba]
  exact e2 _ _ (ex _ _ hb)
theorem de_callV {R : Rr} {k : Nat} {ps : List Str} {x : Str} (a : Addr) (kd : List (Key × PyData)) (c : Cal X.prog X.w X.K X.mg X.base x k ps R) (hr : Room k X.A) (hg : Gl X x) (w : DA X L (e :: es) τ M fun ss M1 => View L R a kd ss M1 Q) (hdb : (x == ("__debug__" : Str)) = false := by decide)
    (he : starEach (e :: es) X.env = (false, eval e X.env) :: starEach es X.env := by rfl) (hpl : (backTo pos (starEach es X.env)).any (·.1) = false := by rfl) : DE X L (.Call (.Name x p) (e :: es) [] pos) τ M Q := by
  obtain ⟨f, fd, F, m, kp, b⟩ := c
  refine de_call (R := fun L ss M Q => View L R a kd ss M Q) ⟨fun vs H Q E h => ?_, fun B fr t H ar us vs Q E room e0 bd rel h => ?_⟩ hr hg m kp b w hdb he hpl
  · obtain ⟨L, M, G, ss, Q0, g, al, v, r⟩ := h
    obtain ⟨M1, G1, ss1, Q1, g1, a1, r1, q1⟩ := view_ret v g al r
    exact F.len vs H Q E ⟨L, M1, G1, ss1, Q1, g1, a1, r1, q1⟩
  · obtain ⟨L, M, G, ss, Q0, g, al, v, r⟩ := h
    obtain ⟨M1, G1, ss1, Q1, g1, a1, r1, q1⟩ := view_ret v g al r
    exact F.run B fr t H ar us vs Q E room e0 bd rel ⟨L, M1, G1, ss1, Q1, g1, a1, r1, q1⟩
theorem de_callVG {R : Rr} {k : Nat} {ps : List Str} {x : Str} (a : Addr) (kd : List (Key × PyData)) (c : CalG X.prog X.w X.K X.mg X.base x k ps R) (hr : Room k X.A) (noG : X.A.guards = some []) (hg : Gl X x) (w : DA X L (e :: es) τ M fun ss M1 => View L R a kd ss M1 Q) (hdb : (x == ("__debug__" : Str)) = false := by decide)
    (he : starEach (e :: es) X.env = (false, eval e X.env) :: starEach es X.env := by rfl) (hpl : (backTo pos (starEach es X.env)).any (·.1) = false := by rfl) : DE X L (.Call (.Name x p) (e :: es) [] pos) τ M Q := by
  obtain ⟨f, fd, F, m, kp, b⟩ := c
  refine de_callG (R := fun L ss M Q => View L R a kd ss M Q) ⟨f, fd, ⟨fun vs H Q E h => ?_, fun B fr t H ar us vs Q E room ng e0 bd rel h => ?_⟩, m, kp, b⟩ hr noG hg w hdb he hpl
  · obtain ⟨L, M, G, ss, Q0, g, al, v, r⟩ := h
    obtain ⟨M1, G1, ss1, Q1, g1, a1, r1, q1⟩ := view_ret v g al r
    exact F.cnt vs H Q E ⟨L, M1, G1, ss1, Q1, g1, a1, r1, q1⟩
  · obtain ⟨L, M, G, ss, Q0, g, al, v, r⟩ := h
    obtain ⟨M1, G1, ss1, Q1, g1, a1, r1, q1⟩ := view_ret v g al r
    exact F.go B fr t H ar us vs Q E room ng e0 bd rel ⟨L, M1, G1, ss1, Q1, g1, a1, r1, q1⟩
end
/-! which cells are kept -/
def keep (ps : List Addr) (M : Cs) : Cs := fun a => if a ∈ ps then M a else none
theorem keep_sub {ps : List Addr} {M : Cs} : Sub (keep ps M) M := fun a c h => by
  unfold keep at h
  split at h
  · exact h
  · cases h
theorem keep_in {ps : List Addr} {M : Cs} {a : Addr} (h : a ∈ ps) : keep ps M a = M a := by unfold keep; rw [if_pos h]
theorem keep_nd {ps : List Addr} {M : Cs} (h : ∀ a ∈ ps, ∃ c, M a = some c ∧ ndC c = true) : ndM (keep ps M) := fun a c e => by
  unfold keep at e
  split at e
  · next hm =>
    obtain ⟨c', h1, h2⟩ := h a hm
    rw [h1] at e
    cases e
    exact h2
  · cases e
section
variable {X : Cx} {L : Lk} {τ : List (Option Sl)} {M : Cs} {Q : Sl → Cs → Prop} {e1 e2 : Expr} {pos : Pos}
/-- {"x": i} -/
theorem de_dictSI {x : Str} {i : Int} {j1 j2} {p1 p2 : Pos} (q : ∀ p, M p = none → Q (.c p) (updC M p (.k (slK [(.inr x, .int i)])))) : DE X L (.Dict [some (.Constant (.str x) j1 p1)] [.Constant (.int i) j2 p2] pos) τ M Q :=
  de_of (pe_disp (pps_cons pe_str pe_int pps_nil) rfl rfl (by simp) (by simp)) fun σ G H Q' gs gm kk p hp => by
    refine ⟨upd_same, [(.inr x, .int i)], rfl, (by show 1 ≤ 15; decide), ?_⟩
    have e : upd (upd H p (.dK [])) p (.dK (mergeK [] [(.inr x, V.int i)])) = upd H p (.dK [(.inr x, V.int i)]) := by
      funext b
      by_cases hb : b = p
      · subst hb
        rw [upd_same, upd_same]
        rfl
      · rw [upd_ne hb, upd_ne hb, upd_ne hb]
    rw [e]
    have f := gm.free hp
    exact kk _ _ _ G _ (q p f.2) (Ex.refl G) (gm.newC hp ⟨[(.inr x, .int i)], upd_same, rfl, .d (.int i), trivial⟩) (.c p)
end
theorem ndDs_map {α : Type} (f : α → PyData) (h : ∀ x, ndD (f x) = true) : ∀ c : List α, ndDs (c.map f) = true
  | [] => by simp [ndDs]
  | x :: r => by rw [List.map_cons]; simp only [ndDs, h x, ndDs_map f h r, Bool.and_self]
theorem ndSs_map {α : Type} (f : α → Sl) (h : ∀ x, ndS (f x) = true) : ∀ c : List α, ndSs (c.map f) = true
  | [] => by simp [ndSs]
  | x :: r => by rw [List.map_cons]; simp only [ndSs, h x, ndSs_map f h r, Bool.and_self]
theorem nd_run (r : Run) : ndS (sRun r) = true := by simp [ndS, sRun, eRun, ndD, ndDs]
theorem nd_line (r : Line) : ndS (sLine r) = true := by simp [ndS, sLine, eLine, ndD, ndDs]
theorem nd_int (i : Int) : ndS (dI i) = true := by simp [ndS, dI, ndD]
theorem nd_str (x : Str) : ndS (dS x) = true := by simp [ndS, dS, ndD]
theorem nd_runs (c : List Run) : ndC (.l (c.map sRun)) = true := ndSs_map sRun nd_run c
theorem nd_ints (c : List Int) : ndC (.l (c.map dI)) = true := ndSs_map dI nd_int c
theorem nd_cnt : ∀ cs : Cnt, ndK (slK (kdC cs)) = true
  | [] => rfl
  | p :: r => by
    have ih := nd_cnt r
    unfold slK kdC at ih ⊢
    simp only [List.map_cons, ndK, ndS, ndD, ih, Bool.and_self]
end Y

namespace Y
open PySem L2 PyProof.Rows
/-! ### repr of data of any kind but texts; enumerate -/
def noTx : PyData → Bool
  | .str _ => false
  | _ => true
def rShowA (K : PySem.W.Frag) : List V → Hp → VK → Prop := fun xs H Q => ∃ (v : V) (d : PyData), xs = [v] ∧ DX K H v d ∧ noTx d = true ∧ d.showable = true ∧ d.depth ≤ 60 ∧ d.shown.length ≤ sizeLine ∧ Q (.str d.shown) H
theorem call_showA {X : Cx} (S : Sys X.base) (noG : X.A.guards = some []) (hu : X.A.units + 64 < cLine) : CallR X (.builtin "repr") (rShowA X.K) := by
  intro pins s σ H xs us Q I r h
  obtain ⟨v, d, rfl, hd, nt, sh, dp, sz, q⟩ := h
  obtain ⟨u, rfl, ru⟩ := vals1 r
  have box : ∀ a, v = .ref a → wpAny (model X.prog X.w) X.A (call (.builtin "repr") [u]) (EP X pins σ Q) X.xe s := by
    intro a e
    subst e
    cases ru
    obtain ⟨as, rd, nm⟩ := DX.reads I S hd (u := .ref a) rfl
    exact PySem.repr_of_reads' rd sh (fun _ => nm) noG (by omega) (fun _ _ z => z) (fun h' u tk hk => ⟨.str d.shown, H, I.kept (t' := tk) hk, ⟨u, rfl⟩, q⟩) sz
  cases hd with
  | non =>
    cases ru
    exact PySem.P.repr_of_none ⟨.str _, H, I.tok _, ⟨s.toks, by simp only [PyData.shown]⟩, q⟩
  | bl b =>
    cases ru
    exact PySem.P.repr_of_bool ⟨.str _, H, I.tok _, ⟨s.toks, by simp only [PyData.shown]⟩, q⟩
  | int i =>
    obtain ⟨t, rfl⟩ := ru
    have hz : i.natAbs.log2 < 1920 := by simpa [PyData.showable] using sh
    exact PySem.P.repr_of_int hz ⟨.str _, H, I.tok _, ⟨s.toks, by simp only [PyData.shown]⟩, q⟩
  | str x => cases nt
  | lst => exact box _ rfl
  | tup => exact box _ rfl
  | dic => exact box _ rfl
section
variable {X : Cx} {L : Lk} {τ : List (Option Sl)} {M : Cs} {Q : Sl → Cs → Prop} {e : Expr} {p pos : Pos} {QJ : QI}
theorem k_showA {s : Sl} {d : PyData} (h : IsX M s d) (nt : noTx d = true) (fit : fitX d = true) (wt : wtX d ≤ 20000) (dp : d.depth ≤ 60) (q : Q (.d (.str d.shown)) M) : RCk X.K L (rShowA X.K) [s] M Q := fun G H vs Q' g a k => by
  obtain ⟨v, rfl, a1⟩ := sl1 a
  have sz := shownX_le d fit
  have sl : (10 ^ 7 : Nat) ≤ sizeLine := by rw [sizeLine_eq]; decide
  exact ⟨v, d, rfl, IsX.dx g h a1, nt, showX d fit, dp, by omega, k.go q g (.d (.str _))⟩
/-- enumerate(xs), a list -/
theorem di_enum {elts : List Expr} {kk : Nat} {tpos : Pos} (hg : Gl X "enumerate") (hm : X.mg "enumerate" = none)
    (w : DE X L e τ M fun s M1 => ∃ xs, isTup s = false ∧ seqOf M1 s = some xs ∧ QJ xs.length (fun M' => seqOf M' s = some xs) (fun i y => ∃ a, xs[i]? = some a ∧ y = .u [dI (i : Nat), a]) M1)
    (hs : starEach [e] X.env = [(false, eval e X.env)] := by rfl) : DI X L (.Tuple elts kk tpos) (.Call (.Name "enumerate" p) [e] [] pos) τ M QJ := fun σ G H R gs gm k => by
  refine i_of (pi_enum hg hm (pa_cons pe_s pa_nil hs) hs) ?_
  show sE X e σ H (fun v H1 => ∃ a xs, [v] = [V.ref a] ∧ SqL X.K H1 a xs ∧ R (Ite X.K a) H1)
  refine w σ G H _ gs gm ?_
  rintro s M1 v G1 H1 ⟨us, hT, h1, q⟩ e1 g1 a1
  obtain ⟨pa, xs, rfl, ra, la⟩ := seq_at g1 a1 h1
  rw [hT, if_neg Bool.false_ne_true] at ra
  refine ⟨pa, xs, rfl, ra, k _ _ _ M1 G1 H1 _ q e1 g1 ⟨fun M' G' H' sM e' g' => ?_, fun i M' G' H' hi sM e' g' => ?_⟩⟩
  · obtain ⟨p1, xs1, ep, r1, l1⟩ := seq_at g' (a1.mono e') sM
    cases ep
    rw [hT, if_neg Bool.false_ne_true] at r1
    exact ⟨xs1, r1, Nat.le_of_eq l1.len⟩
  · obtain ⟨p1, xs1, ep, r1, l1⟩ := seq_at g' (a1.mono e') sM
    cases ep
    rw [hT, if_neg Bool.false_ne_true] at r1
    obtain ⟨v1, hv1, av1⟩ := l1.get (List.getElem?_eq_getElem hi)
    refine ⟨⟨xs1, v1, r1, hv1⟩, fun x H2 hy => ?_⟩
    obtain ⟨T, x1, rfl, nT, rfl, f1⟩ := hy
    have ex1 := Option.some.inj ((f1 _ r1).symm.trans hv1)
    subst ex1
    have fr := g'.free nT
    exact ⟨_, _, ⟨_, List.getElem?_eq_getElem hi, rfl⟩, Ex.new fr.1, g'.newD nT, .u upd_same (.cons (.d (.int _)) (.cons (av1.mono (Ex.new fr.1)) .nil))⟩
end
/-! ### a dict of counts that grows -/
def putC (cs : Cnt) (z : Str) (v : Int) : Cnt := if (cs.any fun p => decide (p.1 = z)) = true then cs.map (fun p => if p.1 = z then (p.1, v) else p) else cs ++ [(z, v)]
theorem putS_put (cs : Cnt) (z : Str) (v : Int) : putS (slK (kdC cs)) (.inr z) (dI v) = slK (kdC (putC cs z v)) := by
  have e : ((slK (kdC cs)).any fun kv => decide (kv.1 = Sum.inr z)) = cs.any fun p => decide (p.1 = z) := by
    unfold slK kdC
    rw [List.map_map, List.any_map]
    congr 1
    funext p
    show decide ((Sum.inr p.1 : Key) = Sum.inr z) = decide (p.1 = z)
    by_cases h : p.1 = z
    · rw [decide_eq_true h, decide_eq_true (by rw [h])]
    · rw [decide_eq_false h, decide_eq_false (fun q => h (Sum.inr.inj q))]
  unfold putS putC
  rw [e]
  split
  · unfold slK kdC
    rw [List.map_map, List.map_map, List.map_map, List.map_map]
    apply List.map_congr_left
    intro p _
    show (if (Sum.inr p.1 : Key) = .inr z then ((Sum.inr p.1 : Key), dI v) else (.inr p.1, .d (.int p.2))) = (Sum.inr (if p.1 = z then (p.1, v) else p).1, Sl.d (.int (if p.1 = z then (p.1, v) else p).2))
    by_cases e : p.1 = z
    · rw [if_pos (by rw [e]), if_pos e]
      rfl
    · rw [if_neg (fun q => e (Sum.inr.inj q)), if_neg e]
  · unfold slK kdC
    rw [List.map_append, List.map_append]
    rfl
theorem getC_cons (p : Str × Int) (cs : Cnt) (y : Str) : getC (p :: cs) y = if p.1 = y then some p.2 else getC cs y := by
  unfold getC
  rw [List.find?_cons]
  by_cases h : p.1 = y
  · rw [if_pos h, decide_eq_true h]
    rfl
  · rw [if_neg h, decide_eq_false h]
theorem getC_app (cs : Cnt) (z y : Str) (v : Int) : getC (cs ++ [(z, v)]) y = if (getC cs y).isSome = true then getC cs y else if z = y then some v else none := by
  induction cs with
  | nil => rw [List.nil_append, getC_cons]; rfl
  | cons p r ih =>
    rw [List.cons_append, getC_cons, getC_cons, ih]
    by_cases h : p.1 = y
    · rw [if_pos h, if_pos h]; rfl
    · rw [if_neg h, if_neg h]
theorem getC_map (cs : Cnt) (z y : Str) (v : Int) : getC (cs.map fun p => if p.1 = z then (p.1, v) else p) y = if y = z then (getC cs y).map fun _ => v else getC cs y := by
  induction cs with
  | nil => split <;> rfl
  | cons p r ih =>
    rw [List.map_cons, getC_cons, getC_cons, ih]
    by_cases hz : p.1 = z
    · rw [if_pos hz]
      by_cases h : p.1 = y
      · rw [if_pos h, if_pos (by rw [← h, hz]), if_pos h]
        rfl
      · rw [if_neg h, if_neg h]
    · rw [if_neg hz]
      by_cases h : p.1 = y
      · rw [if_pos h, if_neg (by rw [← h]; exact hz), if_pos h]
      · rw [if_neg h, if_neg h]
theorem any_getC (cs : Cnt) (z : Str) : (cs.any fun p => decide (p.1 = z)) = (getC cs z).isSome := by
  induction cs with
  | nil => rfl
  | cons p r ih =>
    rw [List.any_cons, getC_cons, ih]
    by_cases h : p.1 = z
    · rw [if_pos h, decide_eq_true h]; rfl
    · rw [if_neg h, decide_eq_false h]; rfl
theorem getC_put (cs : Cnt) (z y : Str) (v : Int) : getC (putC cs z v) y = if y = z then some v else getC cs y := by
  unfold putC
  rw [any_getC]
  by_cases h : (getC cs z).isSome = true
  · rw [if_pos h, getC_map]
    by_cases e : y = z
    · rw [if_pos e, if_pos e, e]
      obtain ⟨u, hu⟩ := Option.isSome_iff_exists.mp h
      rw [hu]
      rfl
    · rw [if_neg e, if_neg e]
  · rw [if_neg h, getC_app]
    by_cases e : y = z
    · rw [if_pos e, e, if_neg h, if_pos rfl]
    · rw [if_neg e]
      cases g : getC cs y with
      | some u => rfl
      | none => rw [if_neg (by simp), if_neg (fun q => e q.symm)]
theorem putC_len (cs : Cnt) (z : Str) (v : Int) : (putC cs z v).length ≤ cs.length + 1 := by
  unfold putC
  split
  · rw [List.length_map]; omega
  · rw [List.length_append]; exact Nat.le_refl _
end Y

namespace Y
open PySem L2 PyProof.Rows
/-! ### comprehensions over a dict's keys, the dict a name that holds data -/
section
variable {X : Cx} {L : Lk} {τ : List (Option Sl)} {M : Cs} {Q : Sl → Cs → Prop} {elt kx vx tg c : Expr} {scope : Scope} {own : List (Str × Nat)} {pos p0 : Pos} {g : TG} {i : Nat} {nm : Str} {kd : List (Key × PyData)}
/-- the walk over the keys of a locked dict, a dict being made -/
theorem dcK_run {σ : L2.St} {G HL : Hp} {Q2 : VK} {dd : Addr} {od : Obj} {xs : List (Key × V)} {vs : List Nat} (gs : GoodS X.K G σ τ) (gmL : GoodM X.K ((dd, od, .dK xs) :: L) M G HL) (hσ : σ[i]? = some (some (.ref dd))) (lx : KvAt X.K G xs (slK kd))
    (w : ∀ D, M D = none → ∃ Iv : Nat → Cs → Prop, Iv 0 (updC M D (.k [])) ∧ (∀ x, (∃ xs, x.2.2 = HO.dK xs) → ∀ n k d M', kd[n]? = some (k, d) → Iv n M' →
      WGw X.K (x :: L) vs g (.d (kD k)) (wipeK τ vs) M' fun τ2 M3 => DEb X scope (x :: L) kx τ2 M3 fun z M4 => DEb X scope (x :: L) vx τ2 M4 fun z2 M5 => ∃ kvs k, z = .d (kD k) ∧ M5 D = some (.k kvs) ∧ kvs.length < sizeLine ∧ Iv (n + 1) (updC M5 D (.k (putS kvs k z2)))) ∧
      (∀ M' G' H', Iv kd.length M' → Ex G G' → GoodM X.K ((dd, od, .dK xs) :: L) M' G' H' → Q2 (.ref D) H')) : tDc (iKeys (tVar i)) g tYes (bE X scope kx) (bE X scope vx) vs σ HL Q2 := by
        have hx0 : HL dd = some (.frz od (.dK xs)) := gmL.lk _ List.mem_cons_self
        refine ⟨.ref dd, hσ, dd, od, rfl, .inl ⟨xs, hx0, fun D hD => ?_⟩⟩
        obtain ⟨Iv, i0, turn, fin⟩ := w D (gmL.free hD).2
        have hl : xs.length = kd.length := by rw [lx.len]; simp [slK]
        refine ⟨fun n m H' => m = kd.length - n ∧ n ≤ kd.length ∧ ∃ M' G', Iv n M' ∧ Ex G G' ∧ GoodM X.K ((dd, od, .dK xs) :: L) M' G' H', ⟨kd.length, by simp, Nat.zero_le _, _, G, i0, Ex.refl _, gmL.newC hD ⟨[], upd_same, trivial⟩⟩, ?_⟩
        rintro n m H' ⟨rfl, hn, M', G', iv, e', g'⟩
        have hd' : H' dd = some (.frz od (.dK xs)) := g'.lk _ List.mem_cons_self
        by_cases hlt : n < kd.length
        · refine .inr ⟨⟨hd', by rw [hl]; exact hlt⟩, fun H2 => ∃ M2 G2, Iv (n + 1) M2 ∧ Ex G G2 ∧ GoodM X.K ((dd, od, .dK xs) :: L) M2 G2 H2, fun H2 ⟨M2, G2, h⟩ => ⟨kd.length - (n + 1), by omega, rfl, hlt, M2, G2, h⟩, fun x H2 hy => ?_⟩
          obtain ⟨rfl, k1, v1, hx1, rfl⟩ := hy
          obtain ⟨u1, hu1, au1⟩ := (KvAt.mono e' lx).get (i := n) (k := (kd[n]).1) (s := .d (kd[n]).2) (by unfold slK; rw [List.getElem?_map, List.getElem?_eq_getElem hlt]; rfl)
          rw [hx1] at hu1
          have hu2 := Option.some.inj hu1
          have ek : k1 = (kd[n]).1 := (Prod.mk.inj hu2).1
          have ak : At X.K G' (kV k1) (kD (kd[n]).1) := by
            rw [← ek]
            cases k1 with
            | inl z => exact .int z
            | inr z => exact .str z
          refine turn (dd, od, .dK xs) ⟨xs, rfl⟩ n (kd[n]).1 (kd[n]).2 M' (List.getElem?_eq_getElem hlt) iv _ G' H2 _ _ ((gs.mono e').wipe vs) g' (.d ak) fun τ3 M3 σ3 G3 H3 q3 e3 g3 s3 z3 => ?_
          refine ⟨z3.trans wipe_wipe, ?_⟩
          unfold tYes
          dsimp only
          rw [if_pos rfl]
          have e13 := e'.trans e3
          refine web (X := X) (scope := scope) (e := kx) q3 σ3 G3 H3 _ s3 g3 fun z M5 v5 G5 H5 q5 e5 g5 a5 => ?_
          refine web (X := X) (scope := scope) (e := vx) q5 σ3 G5 H5 _ (s3.mono e5) g5 fun z2 M6 v2 G6 H6 ⟨kvs, key, hz, hk, hl6, iv6⟩ e6 g6 a6 => ?_
          obtain ⟨f6, ys, h1, h2⟩ := g6.cell D _ hk
          subst hz
          refine ⟨ys, key, key_at a5, h1, by rw [h2.len]; exact hl6, _, G6, iv6, (e13.trans e5).trans e6, ?_⟩
          exact g6.write hk h1 (fun _ _ z => nomatch z) ⟨_, upd_same, KvAt.put a6 h2⟩
        · have e : n = kd.length := by omega
          subst e
          exact .inl ⟨⟨hd', by rw [hl]; exact Nat.le_refl _⟩, fin M' G' H' iv e' g'⟩
/-- {kx: vx for tg in d} -/
theorem de_dcKeys (hc : X.calm = true) (hN : X.N.Nodup) (ok : BlkOk X.N X.env.scope scope own) (hg : ∀ (s : Shared) (H : Hp) (C : Addr) (cl : List (Str × Addr)) (fp : List Addr), PG (X.blk s H scope (compEnvC scope cl C X.env) fp) tg g)
    (hL : NoDK L) (hi : X.N[i]? = some nm) (hv : Vis X.env.scope nm) (ht : τ[i]? = some (some (.d (.dict (encK kd)))))
    (w : ∀ D, M D = none → ∃ Iv : Nat → Cs → Prop, Iv 0 (updC M D (.k [])) ∧ (∀ x, (∃ xs, x.2.2 = HO.dK xs) → ∀ n k d M', kd[n]? = some (k, d) → Iv n M' →
      WGw X.K (x :: L) (own.map (·.2)) g (.d (kD k)) (wipeK τ (own.map (·.2))) M' fun τ2 M3 => DEb X scope (x :: L) kx τ2 M3 fun z M4 => DEb X scope (x :: L) vx τ2 M4 fun z2 M5 => ∃ kvs k, z = .d (kD k) ∧ M5 D = some (.k kvs) ∧ kvs.length < sizeLine ∧ Iv (n + 1) (updC M5 D (.k (putS kvs k z2)))) ∧ (∀ M', Iv kd.length M' → Q (.c D) M'))
    (hd : (nm == ("__debug__" : Str)) = false := by decide) (hcd : (nm == ("__classdict__" : Str)) = false := by decide) (hs : ∀ x, foldedSetIterable (.Name nm p0) X.env x = pure x := by intro _; rfl) : DE X L (.DictComp kx vx [⟨tg, .Name nm p0, [], 0⟩] scope pos) τ M Q :=
  de_of (pe_lock (pe_dc (tk := bE X scope kx) (tv := bE X scope vx) (tt := tYes) hc hN (pi_keys (pe_var hi hv hd hcd)) ok hg (fun _ _ _ _ _ => pts_nil) (fun s H C cl fp => ⟨fun pins s' σ H' Q' I h => h s H C cl fp pins s' I⟩) (fun s H C cl fp => ⟨fun pins s' σ H' Q' I h => h s H C cl fp pins s' I⟩) hs)) fun σ G H Q' gs gm k => by
    obtain ⟨v, hσ, av⟩ := gs.get i _ ht
    cases av with
    | d av =>
      generalize hz : encK kd = zs at av
      cases av with
      | dic hG l =>
        rename_i dd xs
        subst hz
        have lx := AtK.kv kd l
        have hx := lock_exact gm hL hG
        have hne := lock_ne gm hL hG
        refine ⟨dd, .dK xs, hx, trivial, fun od => ?_⟩
        have gmL := gm.lock (od := od) hL hG
        refine dcK_run (kd := kd) gs gmL hσ lx fun D hD => ?_
        obtain ⟨Iv, i0, turn, fin⟩ := w D hD
        exact ⟨Iv, i0, turn, fun M' G' H' iv e' g' => ⟨g'.lk _ List.mem_cons_self, k _ M' _ G' _ (fin _ iv) e' (g'.unlock hne (e' _ _ hG)) (.c D)⟩⟩
/-- the same, a list being made -/
theorem lcK_run {σ : L2.St} {G HL : Hp} {Q2 : VK} {dd : Addr} {od : Obj} {xs : List (Key × V)} {vs : List Nat} (gs : GoodS X.K G σ τ) (gmL : GoodM X.K ((dd, od, .dK xs) :: L) M G HL) (hσ : σ[i]? = some (some (.ref dd))) (lx : KvAt X.K G xs (slK kd))
    (w : ∀ D, M D = none → ∃ Iv : Nat → Cs → Prop, Iv 0 (updC M D (.l [])) ∧ (∀ x, (∃ xs, x.2.2 = HO.dK xs) → ∀ n k d M', kd[n]? = some (k, d) → Iv n M' →
      WGw X.K (x :: L) vs g (.d (kD k)) (wipeK τ vs) M' fun τ2 M3 => DTb X scope (x :: L) c τ2 M3 fun b M4 => (b = true → DEb X scope (x :: L) elt τ2 M4 fun z M5 => ∃ acc, M5 D = some (.l acc) ∧ acc.length < sizeLine ∧ Iv (n + 1) (updC M5 D (.l (acc ++ [z])))) ∧ (b = false → Iv (n + 1) M4)) ∧
      (∀ M' G' H', Iv kd.length M' → Ex G G' → GoodM X.K ((dd, od, .dK xs) :: L) M' G' H' → Q2 (.ref D) H')) : tLc (iKeys (tVar i)) g (bT X scope c) (bE X scope elt) vs σ HL Q2 := by
        have hx0 : HL dd = some (.frz od (.dK xs)) := gmL.lk _ List.mem_cons_self
        refine ⟨.ref dd, hσ, dd, od, rfl, .inl ⟨xs, hx0, fun D hD => ?_⟩⟩
        obtain ⟨Iv, i0, turn, fin⟩ := w D (gmL.free hD).2
        have hl : xs.length = kd.length := by rw [lx.len]; simp [slK]
        refine ⟨fun n m H' => m = kd.length - n ∧ n ≤ kd.length ∧ ∃ M' G', Iv n M' ∧ Ex G G' ∧ GoodM X.K ((dd, od, .dK xs) :: L) M' G' H', ⟨kd.length, by simp, Nat.zero_le _, _, G, i0, Ex.refl _, gmL.newC hD ⟨[], upd_same, .nil⟩⟩, ?_⟩
        rintro n m H' ⟨rfl, hn, M', G', iv, e', g'⟩
        have hd' : H' dd = some (.frz od (.dK xs)) := g'.lk _ List.mem_cons_self
        by_cases hlt : n < kd.length
        · refine .inr ⟨⟨hd', by rw [hl]; exact hlt⟩, fun H2 => ∃ M2 G2, Iv (n + 1) M2 ∧ Ex G G2 ∧ GoodM X.K ((dd, od, .dK xs) :: L) M2 G2 H2, fun H2 ⟨M2, G2, h⟩ => ⟨kd.length - (n + 1), by omega, rfl, hlt, M2, G2, h⟩, fun x H2 hy => ?_⟩
          obtain ⟨rfl, k1, v1, hx1, rfl⟩ := hy
          obtain ⟨u1, hu1, au1⟩ := (KvAt.mono e' lx).get (i := n) (k := (kd[n]).1) (s := .d (kd[n]).2) (by unfold slK; rw [List.getElem?_map, List.getElem?_eq_getElem hlt]; rfl)
          rw [hx1] at hu1
          have hu2 := Option.some.inj hu1
          have ek : k1 = (kd[n]).1 := (Prod.mk.inj hu2).1
          have ak : At X.K G' (kV k1) (kD (kd[n]).1) := by
            rw [← ek]
            cases k1 with
            | inl z => exact .int z
            | inr z => exact .str z
          refine turn (dd, od, .dK xs) ⟨xs, rfl⟩ n (kd[n]).1 (kd[n]).2 M' (List.getElem?_eq_getElem hlt) iv _ G' H2 _ _ ((gs.mono e').wipe vs) g' (.d ak) fun τ3 M3 σ3 G3 H3 q3 e3 g3 s3 z3 => ?_
          refine ⟨z3.trans wipe_wipe, ?_⟩
          have e13 := e'.trans e3
          refine wtb (X := X) (scope := scope) (e := c) q3 σ3 G3 H3 _ s3 g3 fun b M4 G4 H4 q4 e4 g4 => ?_
          cases b with
          | true =>
            rw [if_pos rfl]
            refine web (X := X) (scope := scope) (e := elt) (q4.1 rfl) σ3 G4 H4 _ (s3.mono e4) g4 fun z M5 v5 G5 H5 ⟨acc, hacc, hl5, iv5⟩ e5 g5 a5 => ?_
            obtain ⟨f5, ys, h1, h2⟩ := g5.cell D _ hacc
            refine ⟨ys, h1, by rw [h2.len]; exact hl5, _, G5, iv5, (e13.trans e4).trans e5, ?_⟩
            exact g5.write hacc h1 (fun _ _ z => nomatch z) ⟨_, upd_same, h2.append (.cons a5 .nil)⟩
          | false =>
            rw [if_neg Bool.false_ne_true]
            exact ⟨M4, G4, q4.2 rfl, e13.trans e4, g4⟩
        · have e : n = kd.length := by omega
          subst e
          exact .inl ⟨⟨hd', by rw [hl]; exact Nat.le_refl _⟩, fin M' G' H' iv e' g'⟩
/-- [elt for tg in d if c] -/
theorem de_lcKeys (hc : X.calm = true) (hN : X.N.Nodup) (ok : BlkOk X.N X.env.scope scope own) (hg : ∀ (s : Shared) (H : Hp) (C : Addr) (cl : List (Str × Addr)) (fp : List Addr), PG (X.blk s H scope (compEnvC scope cl C X.env) fp) tg g)
    (hL : NoDK L) (hi : X.N[i]? = some nm) (hv : Vis X.env.scope nm) (ht : τ[i]? = some (some (.d (.dict (encK kd)))))
    (w : ∀ D, M D = none → ∃ Iv : Nat → Cs → Prop, Iv 0 (updC M D (.l [])) ∧ (∀ x, (∃ xs, x.2.2 = HO.dK xs) → ∀ n k d M', kd[n]? = some (k, d) → Iv n M' →
      WGw X.K (x :: L) (own.map (·.2)) g (.d (kD k)) (wipeK τ (own.map (·.2))) M' fun τ2 M3 => DTb X scope (x :: L) c τ2 M3 fun b M4 => (b = true → DEb X scope (x :: L) elt τ2 M4 fun z M5 => ∃ acc, M5 D = some (.l acc) ∧ acc.length < sizeLine ∧ Iv (n + 1) (updC M5 D (.l (acc ++ [z])))) ∧ (b = false → Iv (n + 1) M4)) ∧ (∀ M', Iv kd.length M' → Q (.c D) M'))
    (hd : (nm == ("__debug__" : Str)) = false := by decide) (hcd : (nm == ("__classdict__" : Str)) = false := by decide) (hs : ∀ x, foldedSetIterable (.Name nm p0) X.env x = pure x := by intro _; rfl) : DE X L (.ListComp elt [⟨tg, .Name nm p0, [c], 0⟩] scope pos) τ M Q :=
  de_of (pe_lock (pe_lc (te := bE X scope elt) (tt := bT X scope c) hc hN (pi_keys (pe_var hi hv hd hcd)) ok hg (fun s H C cl fp => pts_one ⟨fun pins s' σ H' Q' I h => h s H C cl fp pins s' I⟩) (fun s H C cl fp => ⟨fun pins s' σ H' Q' I h => h s H C cl fp pins s' I⟩) hs)) fun σ G H Q' gs gm k => by
    obtain ⟨v, hσ, av⟩ := gs.get i _ ht
    cases av with
    | d av =>
      generalize hz : encK kd = zs at av
      cases av with
      | dic hG l =>
        rename_i dd xs
        subst hz
        have lx := AtK.kv kd l
        have hx := lock_exact gm hL hG
        have hne := lock_ne gm hL hG
        refine ⟨dd, .dK xs, hx, trivial, fun od => ?_⟩
        have gmL := gm.lock (od := od) hL hG
        refine lcK_run (kd := kd) gs gmL hσ lx fun D hD => ?_
        obtain ⟨Iv, i0, turn, fin⟩ := w D hD
        exact ⟨Iv, i0, turn, fun M' G' H' iv e' g' => ⟨g'.lk _ List.mem_cons_self, k _ M' _ G' _ (fin _ iv) e' (g'.unlock hne (e' _ _ hG)) (.c D)⟩⟩
/-- y = {kx: vx for ..}, the comprehension the statement's whole value -/
theorem ps_setDcY {j : Nat} {y : Str} {py spos : Pos} {iter : Expr} {ti : TI} {tt : TT} {tk tv : TE} {gs : List Expr} (calm : X.calm = true) (nd : X.N.Nodup) (at1 : X.N[j]? = some y) (at2 : X.env.scope.names.lookup y = some .local)
    (sw : swapsWith (.DictComp kx vx [⟨tg, iter, gs, 0⟩] scope pos) (some (.Name y py)) spos.line X.env = pure true) (wi : PI X tg iter ti) (ok : BlkOk X.N X.env.scope scope own)
    (wg : ∀ (s : Shared) (H : Hp) (C : Addr) (cl : List (Str × Addr)) (fp : List Addr), PG (X.blk s H scope (compEnvC scope cl C X.env) fp) tg g) (wt : ∀ (s : Shared) (H : Hp) (C : Addr) (cl : List (Str × Addr)) (fp : List Addr), PTs (X.blk s H scope (compEnvC scope cl C X.env) fp) gs tt)
    (wk : ∀ (s : Shared) (H : Hp) (C : Addr) (cl : List (Str × Addr)) (fp : List Addr), PE (X.blk s H scope (compEnvC scope cl C X.env) fp) kx tk) (wv : ∀ (s : Shared) (H : Hp) (C : Addr) (cl : List (Str × Addr)) (fp : List Addr), PE (X.blk s H scope (compEnvC scope cl C X.env) fp) vx tv)
    (fs : ∀ x, foldedSetIterable iter X.env x = pure x := by intro _; rfl) : PS X (.Assign [.Name y py] (.DictComp kx vx [⟨tg, iter, gs, 0⟩] scope pos) spos) (tAsg (tDc ti g tt tk tv (own.map (·.2))) (gName j)) := by
  refine ⟨fun pins s σ H D I q0 => ?_⟩
  rw [exec_Assign_Name_used _ _ _ _ sw]
  refine wpAny_bind (wpAny_standAt (wpAny_bind ?_))
  show wpAny _ X.A (do let _ ← comprehension (.DictComp kx vx [⟨tg, iter, gs, 0⟩] scope pos) scope X.env (firstIterPos [⟨tg, iter, gs, 0⟩] pos) newDict false (eval iter X.env) (some (assign (.Name y py) X.env))) _ _ s
  have q1 : tDc ti g tt tk tv (own.map (·.2)) σ H (fun x H1 => gName j x σ H1 D.nx) := q0
  refine wpAny_bind (thn (dc_core (Qf := fun _ s2 => SP X pins D .next s2) calm nd I wi ok wg wt wk wv fs q1 fun Ld Cc s2 m H2 J qq nn ff => ?_) fun _ s2 z => wpAny_pure (wpAny_pure z))
  show wpAny _ _ (assign (.Name y py) X.env (.ref Ld)) _ _ _
  refine wpAny_assign_Name (store_ok2 (v := V.ref Ld) J nd at1 (.inl at2) rfl (fun s3 I3 ⟨b, sb, hb⟩ => ?_) (.inr at2))
  obtain ⟨f0, f1, f2, f3, f4, f5⟩ := ff
  have ne : Cc ≠ b := by
    rcases hb with z | z
    · rw [z]; exact f1
    · intro e; exact f4 y b z e.symm
  exact ⟨m, nn.sameBut sb ne, fun h3 s4 => ⟨_, H2, I3.turned (t' := s3.toks) (fun b o hb e => (s4.2 b hb).trans e) f0 f1 f3 f4 f5, qq⟩⟩
theorem ds_setDcKeys {j : Nat} {y : Str} {py spos : Pos} {E : Ks} (hc : X.calm = true) (hN : X.N.Nodup) (hy : X.N[j]? = some y) (hyl : X.env.scope.names.lookup y = some .local)
    (hsw : swapsWith (.DictComp kx vx [⟨tg, .Name nm p0, [], 0⟩] scope pos) (some (.Name y py)) spos.line X.env = pure true) (ok : BlkOk X.N X.env.scope scope own) (hg : ∀ (s : Shared) (H : Hp) (C : Addr) (cl : List (Str × Addr)) (fp : List Addr), PG (X.blk s H scope (compEnvC scope cl C X.env) fp) tg g)
    (hL : NoDK L) (hi : X.N[i]? = some nm) (hv : Vis X.env.scope nm) (ht : τ[i]? = some (some (.d (.dict (encK kd)))))
    (w : ∀ D, M D = none → ∃ Iv : Nat → Cs → Prop, Iv 0 (updC M D (.k [])) ∧ (∀ x, (∃ xs, x.2.2 = HO.dK xs) → ∀ n k d M', kd[n]? = some (k, d) → Iv n M' →
      WGw X.K (x :: L) (own.map (·.2)) g (.d (kD k)) (wipeK τ (own.map (·.2))) M' fun τ2 M3 => DEb X scope (x :: L) kx τ2 M3 fun z M4 => DEb X scope (x :: L) vx τ2 M4 fun z2 M5 => ∃ kvs k, z = .d (kD k) ∧ M5 D = some (.k kvs) ∧ kvs.length < sizeLine ∧ Iv (n + 1) (updC M5 D (.k (putS kvs k z2)))) ∧ (∀ M', Iv kd.length M' → E.nx (τ.set j (some (.c D))) M'))
    (hd : (nm == ("__debug__" : Str)) = false := by decide) (hcd : (nm == ("__classdict__" : Str)) = false := by decide) (hs : ∀ x, foldedSetIterable (.Name nm p0) X.env x = pure x := by intro _; rfl) : DS X L (.Assign [.Name y py] (.DictComp kx vx [⟨tg, .Name nm p0, [], 0⟩] scope pos) spos) τ M E :=
  ds_of (ps_lock (ps_setDcY (tk := bE X scope kx) (tv := bE X scope vx) (tt := tYes) hc hN hy hyl hsw (pi_keys (pe_var hi hv hd hcd)) ok hg (fun _ _ _ _ _ => pts_nil) (fun s H C cl fp => ⟨fun pins s' σ H' Q' I h => h s H C cl fp pins s' I⟩) (fun s H C cl fp => ⟨fun pins s' σ H' Q' I h => h s H C cl fp pins s' I⟩) hs)) fun σ G H D0 gs gm k => by
    obtain ⟨v, hσ, av⟩ := gs.get i _ ht
    cases av with
    | d av =>
      generalize hz : encK kd = zs at av
      cases av with
      | dic hG l =>
        rename_i dd xs
        subst hz
        have lx := AtK.kv kd l
        have hx := lock_exact gm hL hG
        have hne := lock_ne gm hL hG
        refine ⟨dd, .dK xs, hx, trivial, fun od => ?_⟩
        have gmL := gm.lock (od := od) hL hG
        refine dcK_run (kd := kd) gs gmL hσ lx fun D hD => ?_
        obtain ⟨Iv, i0, turn, fin⟩ := w D hD
        exact ⟨Iv, i0, turn, fun M' G' H' iv e' g' => ⟨g'.lk _ List.mem_cons_self, k.nx _ M' _ G' _ (fin _ iv) e' (g'.unlock hne (e' _ _ hG)) ((gs.mono e').set (.c D) j)⟩⟩
end
section
variable {X : Cx} {L : Lk} {M : Cs} {Q : Sl → Cs → Prop}
theorem k_max2 {i j : Int} (q : Q (.d (.int (if j > i then j else i))) M) : RCk X.K L (fun xs H Q => ∃ i j, xs = [.int i, .int j] ∧ Q (.int (if j > i then j else i)) H) [.d (.int i), .d (.int j)] M Q := fun G H vs Q' g a k => by
  obtain ⟨v, u, rfl, a1, a2⟩ := sl2 a
  rw [sl_int a1, sl_int a2]
  exact ⟨i, j, rfl, k.go q g (.d (.int _))⟩
end
end Y

namespace Y
open PySem L2 PyProof.Rows
theorem SlL.dropL {K : PySem.W.Frag} {G : Hp} : ∀ {vs : List V} {ss : List Sl}, SlL K G vs ss → SlL K G vs.dropLast ss.dropLast
  | _, _, .nil => .nil
  | _, _, .cons _ .nil => .nil
  | _, _, .cons a (.cons b c) => .cons a (SlL.dropL (.cons b c))
section
variable {X : Cx} {L : Lk} {τ : List (Option Sl)} {M : Cs} {Q : Sl → Cs → Prop} {o : Expr} {apos cpos pos : Pos} {E : Ks}
/-- xs.pop() as a statement -/
theorem ds_pop (w : DE X L o τ M fun x M1 => ∃ a ss, x = .c a ∧ M1 a = some (.l ss) ∧ ss ≠ [] ∧ E.nx τ (updC M1 a (.l ss.dropLast))) (hbase : attributeBase o "pop" X.env (eval o X.env) = eval o X.env := by rfl) (hline : (apos.endLine == cpos.line) = true := by rfl)
    (hsw : swapsWith (.Call (.Attribute o "pop" apos) [] [] cpos) none pos.line X.env = pure false := by rfl) : DS X L (.Expr (.Call (.Attribute o "pop" apos) [] [] cpos) pos) τ M E :=
  ds_expr (de_of (pe_bm0 PySem.F.plainAttrs_list PySem.F.slot_list_pop PySem.F.type_list_pop mt_pop pe_s hbase hline) fun σ G H Q' gs gm k => w σ G H _ gs gm fun x M1 v G1 H1 ⟨a, ss, hx, ha, hne, q⟩ e1 g1 a1 => by
    subst hx
    obtain ⟨_, xs, h1, h2⟩ := g1.cell a _ ha
    have ev := sl_c a1
    subst ev
    obtain ⟨z, hz⟩ : ∃ z, ss[ss.length - 1]? = some z := ⟨_, List.getElem?_eq_getElem (by have := List.length_pos_iff.mpr hne; omega)⟩
    obtain ⟨r, hr, ar⟩ := h2.get hz
    exact ⟨.inl ⟨rfl, xs, .inl (.inl h1)⟩, a, xs, r, rfl, rfl, h1, by rw [h2.len]; exact hr, k z _ _ G1 _ q e1 (g1.write ha h1 (fun _ _ z => (nomatch z)) ⟨_, upd_same, h2.dropL⟩) ar⟩) hsw
end
section
variable {X : Cx} {L : Lk} {τ : List (Option Sl)} {M : Cs} {Q : Sl → Cs → Prop} {e1 e2 : Expr} {pos : Pos}
/-- {"x": i, "y": j} -/
theorem de_dictSI2 {x y : Str} {i j : Int} {j1 j2 j3 j4} {p1 p2 p3 p4 : Pos} (ne : x ≠ y) (q : ∀ p, M p = none → Q (.c p) (updC M p (.k (slK [(.inr x, .int i), (.inr y, .int j)])))) : DE X L (.Dict [some (.Constant (.str x) j1 p1), some (.Constant (.str y) j3 p3)] [.Constant (.int i) j2 p2, .Constant (.int j) j4 p4] pos) τ M Q :=
  de_of (pe_disp (pps_cons pe_str pe_int (pps_cons pe_str pe_int pps_nil)) rfl rfl (by simp) (by simp)) fun σ G H Q' gs gm kk p hp => by
    refine ⟨upd_same, [(.inr x, .int i), (.inr y, .int j)], rfl, (by show 2 ≤ 15; decide), ?_⟩
    have e : upd (upd H p (.dK [])) p (.dK (mergeK [] [(.inr x, V.int i), (.inr y, V.int j)])) = upd H p (.dK [(.inr x, V.int i), (.inr y, V.int j)]) := by
      funext b
      by_cases hb : b = p
      · subst hb
        rw [upd_same, upd_same]
        have : ¬ (Sum.inr x : Key) = Sum.inr y := fun z => ne (Sum.inr.inj z)
        simp [mergeK, putK, this]
      · rw [upd_ne hb, upd_ne hb, upd_ne hb]
    rw [e]
    have f := gm.free hp
    exact kk _ _ _ G _ (q p f.2) (Ex.refl G) (gm.newC hp ⟨[(.inr x, .int i), (.inr y, .int j)], upd_same, rfl, .d (.int i), rfl, .d (.int j), trivial⟩) (.c p)
end
end Y

namespace Pg
open PySem L2 Y PyProof.Rows
def topS (i : Nat) : Stmt := PySem.Challenge.pw_lastcopy_k16_lines_that_may_follow.main.body.getD i (.Pass ⟨0, 0, 0, 0⟩)
abbrev s_plain_integer : Stmt := topS 8
theorem sc_plain_integer : FnScope ["value"] ["value"] (defScope s_plain_integer) := ⟨rfl, rfl, rfl, by decide +kernel, rfl, by decide +kernel, by decide +kernel⟩
abbrev s_plain_text : Stmt := topS 9
theorem sc_plain_text : FnScope ["value"] ["value"] (defScope s_plain_text) := ⟨rfl, rfl, rfl, by decide +kernel, rfl, by decide +kernel, by decide +kernel⟩
abbrev s_plain_writer : Stmt := topS 10
theorem sc_plain_writer : FnScope ["value", "name"] ["value"] (defScope s_plain_writer) := ⟨rfl, rfl, rfl, by decide +kernel, rfl, by decide +kernel, by decide +kernel⟩
abbrev s_plain_line_counts : Stmt := topS 11
theorem sc_plain_line_counts : FnScope ["value", "counts", "key", "number", "writer", "count"] ["value"] (defScope s_plain_line_counts) := ⟨rfl, rfl, rfl, by decide +kernel, rfl, by decide +kernel, by decide +kernel⟩
abbrev s_highest_number : Stmt := topS 12
theorem sc_highest_number : FnScope ["line_counts", "writer"] ["line_counts", "writer"] (defScope s_highest_number) := ⟨rfl, rfl, rfl, by decide +kernel, rfl, by decide +kernel, by decide +kernel⟩
abbrev s_plain_lines : Stmt := topS 13
theorem sc_plain_lines : FnScope ["line_counts", "writer", "first", "last", "name", "low", "high"] ["line_counts", "writer", "first", "last"] (defScope s_plain_lines) := ⟨rfl, rfl, rfl, by decide +kernel, rfl, by decide +kernel, by decide +kernel⟩
abbrev s_plain_run : Stmt := topS 14
theorem sc_plain_run : FnScope ["line_counts", "value"] ["line_counts", "value"] (defScope s_plain_run) := ⟨rfl, rfl, rfl, by decide +kernel, rfl, by decide +kernel, by decide +kernel⟩
abbrev s_continues : Stmt := topS 15
theorem sc_continues : FnScope ["run", "following"] ["run", "following"] (defScope s_continues) := ⟨rfl, rfl, rfl, by decide +kernel, rfl, by decide +kernel, by decide +kernel⟩
abbrev s_plain_content : Stmt := topS 16
theorem sc_plain_content : FnScope ["line_counts", "value", "runs", "item", "run"] ["line_counts", "value"] (defScope s_plain_content) := ⟨rfl, rfl, rfl, by decide +kernel, rfl, by decide +kernel, by decide +kernel⟩
abbrev s_checked_line_counts : Stmt := topS 17
theorem sc_checked_line_counts : FnScope ["value", "counts"] ["value"] (defScope s_checked_line_counts) := ⟨rfl, rfl, rfl, by decide +kernel, rfl, by decide +kernel, by decide +kernel⟩
abbrev s_checked_content : Stmt := topS 18
theorem sc_checked_content : FnScope ["line_counts", "value", "runs"] ["line_counts", "value"] (defScope s_checked_content) := ⟨rfl, rfl, rfl, by decide +kernel, rfl, by decide +kernel, by decide +kernel⟩
abbrev s_appearing_obstruction : Stmt := topS 20
theorem sc_appearing_obstruction : FnScope ["runs", "latest", "index", "writer", "first", "last"] ["runs"] (defScope s_appearing_obstruction) := ⟨rfl, rfl, rfl, by decide +kernel, rfl, by decide +kernel, by decide +kernel⟩
abbrev s_latest_numbers : Stmt := topS 21
theorem sc_latest_numbers : FnScope ["before", "runs", "latest", "writer", "first", "last"] ["before", "runs"] (defScope s_latest_numbers) := ⟨rfl, rfl, rfl, by decide +kernel, rfl, by decide +kernel, by decide +kernel⟩
abbrev s_no_numbers : Stmt := topS 22
theorem sc_no_numbers : FnScope ["counts", "writer"] ["counts"] (defScope s_no_numbers) := ⟨rfl, rfl, rfl, by decide +kernel, rfl, by decide +kernel, by decide +kernel⟩
abbrev s_can_appear : Stmt := topS 23
theorem sc_can_appear : FnScope ["line_counts", "content", "counts", "runs"] ["line_counts", "content"] (defScope s_can_appear) := ⟨rfl, rfl, rfl, by decide +kernel, rfl, by decide +kernel, by decide +kernel⟩
abbrev s_next_lines : Stmt := topS 24
theorem sc_next_lines : FnScope ["line_counts", "content", "counts", "runs", "latest", "found", "writer", "first", "last"] ["line_counts", "content"] (defScope s_next_lines) := ⟨rfl, rfl, rfl, by decide +kernel, rfl, by decide +kernel, by decide +kernel⟩
abbrev s__law_source : Stmt := topS 26
theorem sc__law_source : FnScope ["script", "k", "cell"] ["script", "k"] (defScope s__law_source) := ⟨rfl, rfl, rfl, by decide +kernel, rfl, by decide +kernel, by decide +kernel⟩
abbrev s__law_draw : Stmt := topS 27
theorem sc__law_draw : FnScope ["source", "limit", "result", "mixed"] ["source", "limit"] (defScope s__law_draw) := ⟨rfl, rfl, rfl, by decide +kernel, rfl, by decide +kernel, by decide +kernel⟩
abbrev s__law_line_counts : Stmt := topS 28
theorem sc__law_line_counts : FnScope ["source", "some", "found", "size", "k", "writer", "sizes"] ["source"] (defScope s__law_line_counts) := ⟨rfl, rfl, rfl, by decide +kernel, rfl, by decide +kernel, by decide +kernel⟩
abbrev s__law_content : Stmt := topS 29
theorem sc__law_content : FnScope ["source", "counts", "most", "found", "ends", "turn", "some", "writer", "remaining", "skip", "more", "first"] ["source", "counts", "most"] (defScope s__law_content) := ⟨rfl, rfl, rfl, by decide +kernel, rfl, by decide +kernel, by decide +kernel⟩
abbrev s__law_with_run : Stmt := topS 30
theorem sc__law_with_run : FnScope ["content", "run"] ["content", "run"] (defScope s__law_with_run) := ⟨rfl, rfl, rfl, by decide +kernel, rfl, by decide +kernel, by decide +kernel⟩
abbrev s__law_expected : Stmt := topS 31
theorem sc__law_expected : FnScope ["counts", "content", "ends", "found", "writer", "low", "high", "first", "last"] ["counts", "content"] (defScope s__law_expected) := ⟨rfl, rfl, rfl, by decide +kernel, rfl, by decide +kernel, by decide +kernel⟩
abbrev s__law_holds : Stmt := topS 32
theorem sc__law_holds : FnScope ["source", "counts", "content", "expected", "argument", "before", "result", "writer", "low", "high", "number", "could"] ["source", "counts", "content"] (defScope s__law_holds) := ⟨rfl, rfl, rfl, by decide +kernel, rfl, by decide +kernel, by decide +kernel⟩
abbrev s_law : Stmt := topS 33
theorem sc_law : FnScope ["script", "k", "source", "turn", "counts", "content", "number"] ["script"] (defScope s_law) := ⟨rfl, rfl, rfl, by decide +kernel, rfl, by decide +kernel, by decide +kernel⟩

local macro_rules | `(tactic| walk_at "vis") => `(tactic| first | exact Or.inl rfl | exact Or.inr (Or.inl rfl) | exact Or.inr (Or.inr rfl))
local macro_rules | `(tactic| walk_at "e1") => `(tactic| first | walk_at "nm" | refine de_int ?_ | refine de_add ?_ | refine de_sub ?_ | refine de_str ?_ | refine de_non ?_ | refine de_bl ?_)
local macro_rules | `(tactic| walk_at "go") => `(tactic| repeat (first | ((with_reducible show DE _ _ _ _ _ _); walk_at "e1") | ((with_reducible show DA _ _ _ _ _ _); refine da_cons ?_) | refine ⟨_, _, rfl, rfl, ?_⟩))

section
variable {P : Program} {w : World} {K : PySem.W.Frag} {mg : Str → Option Value} {base : Heap}

local macro_rules | `(tactic| walk_at "nm") => `(tactic| first | ((with_reducible refine de_name (x := "value") (i := 0) (s := ?s) ?hN ?hv ?ht ?q ?hd ?hcd); (case hN => rfl); (case hv => walk_at "vis"); (case ht => rfl); (case hd => decide); (case hcd => decide)))


def R_plain_integer : Rr := fun _ ss M Q => ∃ x, ss = [.d x] ∧ Q (.d (intOf x)) M
theorem ok_plain_integer (F : FunAt K mg "plain_integer" s_plain_integer ["value"]) (b1 : mg "isinstance" = none) (b2 : mg "int" = none) (b3 : mg "bool" = none) : Cal P w K mg base "plain_integer" 1 ["value"] R_plain_integer := by
  refine cal_of F sc_plain_integer (fun _ ss _ _ ⟨x, h, _⟩ => by rw [h]; rfl) (fun f cdv A outer s H E L ss M Q hr h => ?_)
  obtain ⟨x, rfl, q⟩ := h
  refine db_cons (ds_if (dt_and2 (dt_val (de_callB call_isi (by rfl) b1 bt_isinstance (da_cons ?_)))))
  walk_at "nm"
  refine da_cons (de_type (by rfl) b2 bt_int (da_nil (k_isaInt ⟨_, rfl, fun h1 => ?_, fun h1 => ?_⟩)))
  · refine dt_not (dt_val (de_callB call_isi (by rfl) b1 bt_isinstance (da_cons ?_)))
    walk_at "nm"
    refine da_cons (de_type (by rfl) b3 bt_bool (da_nil (k_isaBool ⟨_, rfl, fun h2 => ?_, fun h2 => ?_⟩)))
    · refine db_cons (ds_ret (de_callT call_int1 (by rfl) b2 bt_int (da_cons ?_)))
      walk_at "nm"
      cases x with
      | int i => exact da_nil (k_intI q)
      | bool b => cases h2
      | _ => cases h1
    · refine db_nil (db_cons (ds_ret (de_non ?_)))
      cases x with
      | bool b => exact q
      | int i => cases h2
      | _ => cases h1
  · refine ⟨no1, fun _ => db_nil (db_cons (ds_ret (de_non ?_)))⟩
    cases x with
    | int i => cases h1
    | _ => exact q

local macro_rules | `(tactic| walk_at "nm") => `(tactic| first | ((with_reducible refine de_name (x := "value") (i := 0) (s := ?s) ?hN ?hv ?ht ?q ?hd ?hcd); (case hN => rfl); (case hv => walk_at "vis"); (case ht => rfl); (case hd => decide); (case hcd => decide)))


def R_plain_text : Rr := fun _ ss M Q => ∃ x, ss = [.d x] ∧ short x ∧ Q (.d (strOf x)) M
theorem ok_plain_text (F : FunAt K mg "plain_text" s_plain_text ["value"]) (b1 : mg "isinstance" = none) (b2 : mg "str" = none) : Cal P w K mg base "plain_text" 1 ["value"] R_plain_text := by
  refine cal_of F sc_plain_text (fun _ ss _ _ ⟨x, h, _⟩ => by rw [h]; rfl) (fun f cdv A outer s H E L ss M Q hr h => ?_)
  obtain ⟨x, rfl, hs, q⟩ := h
  refine db_cons (ds_if (dt_val (de_callB call_isi (by rfl) b1 bt_isinstance (da_cons ?_))))
  walk_at "nm"
  refine da_cons (de_type (by rfl) b2 bt_str (da_nil (k_isaStr ⟨_, rfl, fun h1 => ?_, fun h1 => ?_⟩)))
  · refine db_cons (ds_ret (de_join (de_str ⟨_, rfl, de_lstD (da_cons ?_)⟩)))
    walk_at "nm"
    cases x with
    | str z =>
      refine da_nil ⟨[.str z], rfl, (by show 1 ≤ sizeLine; decide), [z], rfl, ?_, ?_⟩
      · have hs : z.length ≤ 16777216 := hs
        show z.length + 0 + 1 * 0 ≤ 16777216
        omega
      · rw [Y.join_one]
        exact q
    | _ => cases h1
  · refine db_nil (db_cons (ds_ret (de_non ?_)))
    cases x with
    | str z => cases h1
    | _ => exact q

local macro_rules | `(tactic| walk_at "nm") => `(tactic| first | ((with_reducible refine de_name (x := "value") (i := 0) (s := ?s) ?hN ?hv ?ht ?q ?hd ?hcd); (case hN => rfl); (case hv => walk_at "vis"); (case ht => rfl); (case hd => decide); (case hcd => decide)) | ((with_reducible refine de_name (x := "name") (i := 1) (s := ?s) ?hN ?hv ?ht ?q ?hd ?hcd); (case hN => rfl); (case hv => walk_at "vis"); (case ht => rfl); (case hd => decide); (case hcd => decide)))


def R_plain_writer : Rr := fun _ ss M Q => ∃ x, ss = [.d x] ∧ short x ∧ Q (.d (writerOf x)) M
theorem ok_plain_writer (F : FunAt K mg "plain_writer" s_plain_writer ["value"]) (c1 : Cal P w K mg base "plain_text" 1 ["value"] R_plain_text) (b1 : mg "len" = none) (g1 : ∃ t, mg "LONGEST_NAME" = some (.int 8 t)) : Cal P w K mg base "plain_writer" 2 ["value"] R_plain_writer := by
  refine cal_of F sc_plain_writer (fun _ ss _ _ ⟨x, h, _⟩ => by rw [h]; rfl) (fun f cdv A outer s H E L ss M Q hr h => ?_)
  obtain ⟨x, rfl, hs, q⟩ := h
  obtain ⟨t8, g1⟩ := g1
  refine db_cons (ds_set (i := 1) sc_plain_writer.nd rfl (.inl rfl) (de_callC c1 hr (by rfl) (da_cons ?_)))
  walk_at "nm"
  refine da_nil ⟨x, rfl, hs, ?_⟩
  refine db_cons (ds_if (dt_or2 (dt_cmp op_isN ?_ (nomark _))))
  walk_at "nm"
  refine de_non (k_isN ⟨_, rfl, fun h1 => ?_, fun h1 => ?_⟩)
  · refine ⟨fun _ => db_cons (ds_ret (de_non ?_)), no2⟩
    cases x with
    | str z => cases h1
    | _ => exact q
  · cases x with
    | str z =>
      have hs : z.length ≤ 16777216 := hs
      refine dt_not (dt_chain op_le op_le (de_int (de_callB call_len_str (by rfl) b1 bt_len (da_cons ?_))))
      walk_at "nm"
      refine da_nil (k_lenS hs (k_bool ⟨_, rfl, fun h2 => de_glob (by rfl) g1 ⟨_, rfl⟩ (k_bool ⟨_, rfl, fun h3 => ?_, fun h3 => ?_⟩), fun h2 => ?_⟩))
      · refine db_cons (ds_ret (de_non ?_))
        have : okName z = false := by
          unfold okName
          have e : ¬ z.length ≤ 8 := by
            have := h3
            simp only [Bool.not_eq_true', decide_eq_false_iff_not] at this
            omega
          simp [e]
        simp only [writerOf, this] at q
        exact q
      · have e1 : 1 ≤ z.length := by
          have := h2
          simp only [decide_eq_true_eq] at this
          omega
        have e2 : z.length ≤ 8 := by
          have := h3
          simp only [Bool.not_eq_false', decide_eq_true_eq] at this
          omega
        refine db_nil (db_cons (ds_if (dt_and3 (dt_val (de_mS0 PySem.F.slot_str_isascii PySem.F.type_str_isascii mt_isascii ?_)))))
        walk_at "nm"
        refine ⟨z, rfl, _, rfl, fun h4 => ?_, fun h4 => ?_⟩
        · refine dt_val (de_mS0 PySem.F.slot_str_isalpha PySem.F.type_str_isalpha mt_isalpha ?_)
          walk_at "nm"
          refine ⟨z, rfl, _, rfl, fun h5 => ?_, fun h5 => ?_⟩
          · refine dt_val (de_mS0 PySem.F.slot_str_islower PySem.F.type_str_islower mt_islower ?_)
            walk_at "nm"
            refine ⟨z, rfl, _, rfl, fun h6 => ?_, fun h6 => ?_⟩
            · refine db_cons (ds_ret ?_)
              walk_at "nm"
              simp only [writerOf, okName, e1, e2, h4, h5, h6] at q
              exact q
            · refine db_nil (db_cons (ds_ret (de_non ?_)))
              simp only [writerOf, okName, h6] at q
              simpa using q
          · refine ⟨no1, fun _ => db_nil (db_cons (ds_ret (de_non ?_)))⟩
            simp only [writerOf, okName, h5] at q
            simpa using q
        · refine ⟨no1, fun _ => db_nil (db_cons (ds_ret (de_non ?_)))⟩
          simp only [writerOf, okName, h4] at q
          simpa using q
      · refine ⟨fun _ => db_cons (ds_ret (de_non ?_)), no2⟩
        have : okName z = false := by
          unfold okName
          have e : ¬ 1 ≤ z.length := by
            have := h2
            simp only [decide_eq_false_iff_not] at this
            omega
          simp [e]
        simp only [writerOf, this] at q
        exact q
    | _ => cases h1

end

end Pg

namespace Pg
open PySem L2 Y PyProof.Rows

local macro_rules | `(tactic| walk_at "vis") => `(tactic| first | exact Or.inl rfl | exact Or.inr (Or.inl rfl) | exact Or.inr (Or.inr rfl))
local macro_rules | `(tactic| walk_at "e1") => `(tactic| first | walk_at "nm" | refine de_int ?_ | refine de_add ?_ | refine de_sub ?_ | refine de_str ?_ | refine de_non ?_ | refine de_bl ?_)
local macro_rules | `(tactic| walk_at "go") => `(tactic| repeat (first | ((with_reducible show DE _ _ _ _ _ _); walk_at "e1") | ((with_reducible show DA _ _ _ _ _ _); refine da_cons ?_) | refine ⟨_, _, rfl, rfl, ?_⟩))

section
variable {P : Program} {w : World} {K : PySem.W.Frag} {mg : Str → Option Value} {base : Heap}

local macro_rules | `(tactic| walk_at "nm") => `(tactic| first | ((with_reducible refine de_name (x := "line_counts") (i := 0) (s := ?s) ?hN ?hv ?ht ?q ?hd ?hcd); (case hN => rfl); (case hv => walk_at "vis"); (case ht => rfl); (case hd => decide); (case hcd => decide)) | ((with_reducible refine de_name (x := "writer") (i := 1) (s := ?s) ?hN ?hv ?ht ?q ?hd ?hcd); (case hN => rfl); (case hv => walk_at "vis"); (case ht => rfl); (case hd => decide); (case hcd => decide)))


def R_highest_number : Rr := fun _ ss M Q => ∃ lc z, ss = [.d (eLc lc), dS z] ∧ Q (dI (high lc z)) M
theorem ok_highest_number (F : FunAt K mg "highest_number" s_highest_number ["line_counts", "writer"]) (g1 : ∃ t, mg "LARGEST_NUMBER" = some (.int (10 ^ 30) t)) : Cal P w K mg base "highest_number" 1 ["line_counts", "writer"] R_highest_number := by
  refine cal_of F sc_highest_number (fun _ ss _ _ ⟨lc, z, h, _⟩ => by rw [h]; rfl) (fun f cdv A outer s H E L ss M Q hr h => ?_)
  obtain ⟨lc, z, rfl, q⟩ := h
  obtain ⟨t, g1⟩ := g1
  refine db_cons (ds_if (dt_cmp op_isN ?_ (nomark _)))
  walk_at "nm"
  cases lc with
  | none =>
    refine de_non (k_isN ⟨_, rfl, fun _ => ?_, no2⟩)
    exact db_cons (ds_ret (de_glob (by rfl) g1 ⟨_, rfl⟩ q))
  | some cs =>
    refine de_non (k_isN ⟨_, rfl, no1, fun _ => ?_⟩)
    refine db_nil (db_cons (ds_ret (de_dget2 (hu_of hr) ?_)))
    walk_at "nm"
    refine ⟨⟨_, .d (kdC cs)⟩, ?_⟩
    walk_at "nm"
    refine de_int ⟨_, .inr z, .d (kdC cs), rfl, ?_⟩
    rw [valS_C]
    have e : ((getC cs z).map dI).getD (.d (.int 0)) = dI (high (some cs) z) := by
      show _ = dI ((getC cs z).getD 0)
      cases getC cs z <;> rfl
    rw [e]
    exact q

local macro_rules | `(tactic| walk_at "nm") => `(tactic| first | ((with_reducible refine de_name (x := "line_counts") (i := 0) (s := ?s) ?hN ?hv ?ht ?q ?hd ?hcd); (case hN => rfl); (case hv => walk_at "vis"); (case ht => rfl); (case hd => decide); (case hcd => decide)) | ((with_reducible refine de_name (x := "writer") (i := 1) (s := ?s) ?hN ?hv ?ht ?q ?hd ?hcd); (case hN => rfl); (case hv => walk_at "vis"); (case ht => rfl); (case hd => decide); (case hcd => decide)) | ((with_reducible refine de_name (x := "first") (i := 2) (s := ?s) ?hN ?hv ?ht ?q ?hd ?hcd); (case hN => rfl); (case hv => walk_at "vis"); (case ht => rfl); (case hd => decide); (case hcd => decide)) | ((with_reducible refine de_name (x := "last") (i := 3) (s := ?s) ?hN ?hv ?ht ?q ?hd ?hcd); (case hN => rfl); (case hv => walk_at "vis"); (case ht => rfl); (case hd => decide); (case hcd => decide)) | ((with_reducible refine de_name (x := "name") (i := 4) (s := ?s) ?hN ?hv ?ht ?q ?hd ?hcd); (case hN => rfl); (case hv => walk_at "vis"); (case ht => rfl); (case hd => decide); (case hcd => decide)) | ((with_reducible refine de_name (x := "low") (i := 5) (s := ?s) ?hN ?hv ?ht ?q ?hd ?hcd); (case hN => rfl); (case hv => walk_at "vis"); (case ht => rfl); (case hd => decide); (case hcd => decide)) | ((with_reducible refine de_name (x := "high") (i := 6) (s := ?s) ?hN ?hv ?ht ?q ?hd ?hcd); (case hN => rfl); (case hv => walk_at "vis"); (case ht => rfl); (case hd => decide); (case hcd => decide)))


def R_plain_lines : Rr := fun _ ss M Q => ∃ lc x y z, ss = [.d (eLc lc), .d x, .d y, .d z] ∧ short x ∧ Q (.d (mkLines lc x y z)) M
theorem ok_plain_lines (F : FunAt K mg "plain_lines" s_plain_lines ["line_counts", "writer", "first", "last"]) (c1 : Cal P w K mg base "plain_writer" 2 ["value"] R_plain_writer) (c2 : Cal P w K mg base "plain_integer" 1 ["value"] R_plain_integer)
    (c3 : Cal P w K mg base "highest_number" 1 ["line_counts", "writer"] R_highest_number) : Cal P w K mg base "plain_lines" 3 ["line_counts", "writer", "first", "last"] R_plain_lines := by
  refine cal_of F sc_plain_lines (fun _ ss _ _ ⟨lc, x, y, z, h, _⟩ => by rw [h]; rfl) (fun f cdv A outer s H E L ss M Q hr h => ?_)
  obtain ⟨lc, x, y, z, rfl, hs, q⟩ := h
  refine db_cons (ds_set (i := 4) sc_plain_lines.nd rfl (.inl rfl) (de_callC c1 hr (by rfl) (da_cons ?_)))
  walk_at "nm"
  refine da_nil ⟨x, rfl, hs, ?_⟩
  refine db_cons (ds_set (i := 5) sc_plain_lines.nd rfl (.inl rfl) (de_callC (c2.up (by decide)) hr (by rfl) (da_cons ?_)))
  walk_at "nm"
  refine da_nil ⟨y, rfl, ?_⟩
  refine db_cons (ds_set (i := 6) sc_plain_lines.nd rfl (.inl rfl) (de_callC (c2.up (by decide)) hr (by rfl) (da_cons ?_)))
  walk_at "nm"
  refine da_nil ⟨z, rfl, ?_⟩
  refine db_cons (ds_if (dt_or3 (dt_cmp op_isN ?_ (nomark _))))
  walk_at "nm"
  refine de_non (k_isN ⟨_, rfl, fun h1 => ?_, fun h1 => ?_⟩)
  · refine ⟨fun _ => db_cons (ds_ret (de_non ?_)), no2⟩
    have e : mkLines lc x y z = .none := mkLines_n1 h1
    rw [e] at q
    exact q
  · refine dt_cmp op_isN ?_ (nomark _)
    walk_at "nm"
    refine de_non (k_isN ⟨_, rfl, fun h2 => ?_, fun h2 => ?_⟩)
    · refine ⟨fun _ => db_cons (ds_ret (de_non ?_)), no2⟩
      have e : mkLines lc x y z = .none := mkLines_n2 h2
      rw [e] at q
      exact q
    · refine dt_cmp op_isN ?_ (nomark _)
      walk_at "nm"
      refine de_non (k_isN ⟨_, rfl, fun h3 => ?_, fun h3 => ?_⟩)
      · refine db_cons (ds_ret (de_non ?_))
        have e : mkLines lc x y z = .none := mkLines_n3 h3
        rw [e] at q
        exact q
      · obtain ⟨n, hn⟩ : ∃ n, writerOf x = .str n := by
          cases x with
          | str n =>
            by_cases hn : okName n = true
            · exact ⟨n, by simp only [writerOf, hn, if_true]⟩
            · exfalso
              simp only [writerOf, hn, if_false] at h1
              cases h1
          | _ => cases h1
        obtain ⟨i, hi⟩ : ∃ i, intOf y = .int i := by
          cases y with
          | int i => exact ⟨i, rfl⟩
          | _ => cases h2
        obtain ⟨j, hj⟩ : ∃ j, intOf z = .int j := by
          cases z with
          | int i => exact ⟨i, rfl⟩
          | _ => cases h3
        rw [hn, hi, hj]
        have el : mkLines lc x y z = if 1 ≤ i ∧ i ≤ j ∧ j ≤ high lc n then .tuple [.str n, .int i, .int j] else .none := by
          simp only [mkLines, hn, hi, hj]
        rw [el] at q
        have no : ¬ (1 ≤ i ∧ i ≤ j ∧ j ≤ high lc n) → Q (.d .none) M := fun h => by
          rw [if_neg h] at q
          exact q
        refine db_nil (db_cons (ds_if (dt_chain3 op_le op_le op_le (de_int ?_))))
        walk_at "nm"
        refine k_bool ⟨_, rfl, fun h4 => ?_, fun h4 => ?_⟩
        · walk_at "nm"
          refine k_bool ⟨_, rfl, fun h5 => ?_, fun h5 => ?_⟩
          · refine de_callC (c3.up (by decide)) hr (by rfl) (da_cons ?_)
            walk_at "nm"
            refine da_cons ?_
            walk_at "nm"
            refine da_nil ⟨lc, n, rfl, k_bool ⟨_, rfl, fun h6 => ?_, fun h6 => ?_⟩⟩
            · refine db_cons (ds_ret (de_tupD (da_cons ?_)))
              walk_at "nm"
              refine da_cons ?_
              walk_at "nm"
              refine da_cons ?_
              walk_at "nm"
              refine da_nil ⟨[.str n, .int i, .int j], rfl, (by show 3 ≤ sizeLine; decide), ?_⟩
              rw [if_pos ⟨of_decide_eq_true h4, of_decide_eq_true h5, of_decide_eq_true h6⟩] at q
              exact q
            · exact db_nil (db_cons (ds_ret (de_non (no fun h => of_decide_eq_false h6 h.2.2))))
          · exact ⟨no1, fun _ => db_nil (db_cons (ds_ret (de_non (no fun h => of_decide_eq_false h5 h.2.1))))⟩
        · refine ⟨no1, fun _ => db_nil (db_cons (ds_ret (de_non (no fun h => of_decide_eq_false h4 h.1))))⟩

end

end Pg

namespace Pg
open PySem L2 Y PyProof.Rows

local macro_rules | `(tactic| walk_at "vis") => `(tactic| first | exact Or.inl rfl | exact Or.inr (Or.inl rfl) | exact Or.inr (Or.inr rfl))
local macro_rules | `(tactic| walk_at "e1") => `(tactic| first | walk_at "nm" | refine de_int ?_ | refine de_add ?_ | refine de_sub ?_ | refine de_str ?_ | refine de_non ?_ | refine de_bl ?_)
local macro_rules | `(tactic| walk_at "go") => `(tactic| repeat (first | ((with_reducible show DE _ _ _ _ _ _); walk_at "e1") | ((with_reducible show DA _ _ _ _ _ _); refine da_cons ?_) | refine ⟨_, _, rfl, rfl, ?_⟩))

section
variable {P : Program} {w : World} {K : PySem.W.Frag} {mg : Str → Option Value} {base : Heap}

local macro_rules | `(tactic| walk_at "nm") => `(tactic| first | ((with_reducible refine de_name (x := "line_counts") (i := 0) (s := ?s) ?hN ?hv ?ht ?q ?hd ?hcd); (case hN => rfl); (case hv => walk_at "vis"); (case ht => rfl); (case hd => decide); (case hcd => decide)) | ((with_reducible refine de_name (x := "value") (i := 1) (s := ?s) ?hN ?hv ?ht ?q ?hd ?hcd); (case hN => rfl); (case hv => walk_at "vis"); (case ht => rfl); (case hd => decide); (case hcd => decide)))


def R_plain_run : Rr := fun _ ss M Q => ∃ lc r, ss = [.d (eLc lc), sRun r] ∧ okRun lc r ∧ Q (sRun r) M
theorem ok_plain_run (F : FunAt K mg "plain_run" s_plain_run ["line_counts", "value"]) (c1 : Cal P w K mg base "plain_lines" 3 ["line_counts", "writer", "first", "last"] R_plain_lines) (b1 : mg "type" = none) (b2 : mg "tuple" = none) (b3 : mg "len" = none) : Cal P w K mg base "plain_run" 4 ["line_counts", "value"] R_plain_run := by
  refine cal_of F sc_plain_run (fun _ ss _ _ ⟨lc, x, h, _⟩ => by rw [h]; rfl) (fun f cdv A outer s H E L ss M Q hr h => ?_)
  obtain ⟨lc, r, rfl, ok, q⟩ := h
  refine db_cons (ds_if (dt_or2 (dt_cmp op_neTy (de_callT call_type1 (by rfl) b1 bt_type (da_cons ?_)) (nomark _))))
  walk_at "nm"
  refine da_nil (k_typeD rfl (de_type (by rfl) b2 bt_tuple (k_neTy okTy_tuple okTy_tuple ⟨_, rfl, fun z => absurd z (by simp [tyD, eLine, eRun, isNone, sRun, sLine]), fun _ => ?_⟩)))
  refine dt_cmp op_ne (de_callB call_len_seq (by rfl) b3 bt_len (da_cons ?_)) (nomark _)
  walk_at "nm"
  refine da_nil (k_len (ss := [.d (.str r.1), .d (.int r.2.1), .d (.int r.2.2)]) rfl (de_int (k_neI ⟨_, rfl, fun z => absurd z (by simp [tyD, eLine, eRun, isNone, sRun, sLine]), fun _ => ?_⟩)))
  refine db_nil (db_cons (ds_ret (de_callC c1 hr (by rfl) (da_cons ?_))))
  walk_at "nm"
  refine da_cons (de_ix ?_)
  walk_at "nm"
  refine de_int ⟨_, _, .d (.str r.1), rfl, rfl, rfl, ?_⟩
  refine da_cons (de_ix ?_)
  walk_at "nm"
  refine de_int ⟨_, _, .d (.int r.2.1), rfl, rfl, rfl, ?_⟩
  refine da_cons (de_ix ?_)
  walk_at "nm"
  refine de_int ⟨_, _, .d (.int r.2.2), rfl, rfl, rfl, ?_⟩
  refine da_nil ⟨lc, _, _, _, rfl, short_of_okName ok.1, ?_⟩
  rw [mkLines_ok ok]
  exact q

local macro_rules | `(tactic| walk_at "nm") => `(tactic| first | ((with_reducible refine de_name (x := "run") (i := 0) (s := ?s) ?hN ?hv ?ht ?q ?hd ?hcd); (case hN => rfl); (case hv => walk_at "vis"); (case ht => rfl); (case hd => decide); (case hcd => decide)) | ((with_reducible refine de_name (x := "following") (i := 1) (s := ?s) ?hN ?hv ?ht ?q ?hd ?hcd); (case hN => rfl); (case hv => walk_at "vis"); (case ht => rfl); (case hd => decide); (case hcd => decide)))


def R_continues : Rr := fun _ ss M Q => ∃ a b, ss = [sRun a, sRun b] ∧ Q (.d (.bool (cont a b))) M
theorem ok_continues (F : FunAt K mg "continues" s_continues ["run", "following"]) : Cal P w K mg base "continues" 1 ["run", "following"] R_continues := by
  refine cal_of F sc_continues (fun _ ss _ _ ⟨a, b, h, _⟩ => by rw [h]; rfl) (fun f cdv A outer s H E L ss M Q hr h => ?_)
  obtain ⟨a, b, rfl, q⟩ := h
  refine db_cons (ds_ret (de_and (de_cmp op_eq (de_ix ?_) (nomark _))))
  walk_at "nm"
  refine de_int ⟨_, _, .d (.str b.1), rfl, rfl, rfl, de_ix ?_⟩
  walk_at "nm"
  refine de_int ⟨_, _, .d (.str a.1), rfl, rfl, rfl, k_eqS ⟨_, rfl, fun h1 => ?_, fun h1 => ?_⟩⟩
  · refine de_one (de_cmp op_eq (de_ix ?_) (nomark _))
    walk_at "nm"
    refine de_int ⟨_, _, .d (.int b.2.1), rfl, rfl, rfl, de_add (de_ix ?_)⟩
    walk_at "nm"
    refine de_int ⟨_, _, .d (.int a.2.2), rfl, rfl, rfl, de_int ⟨_, _, rfl, rfl, k_eqI ?_⟩⟩
    have e : cont a b = decide (b.2.1 = a.2.2 + 1) := by
      unfold cont
      rw [h1, Bool.true_and]
    rw [e] at q
    exact q
  · have e : cont a b = false := by
      unfold cont
      rw [h1, Bool.false_and]
    rw [e] at q
    exact q

local macro_rules | `(tactic| walk_at "nm") => `(tactic| first | ((with_reducible refine de_name (x := "line_counts") (i := 0) (s := ?s) ?hN ?hv ?ht ?q ?hd ?hcd); (case hN => rfl); (case hv => walk_at "vis"); (case ht => rfl); (case hd => decide); (case hcd => decide)) | ((with_reducible refine de_name (x := "value") (i := 1) (s := ?s) ?hN ?hv ?ht ?q ?hd ?hcd); (case hN => rfl); (case hv => walk_at "vis"); (case ht => rfl); (case hd => decide); (case hcd => decide)) | ((with_reducible refine de_name (x := "runs") (i := 2) (s := ?s) ?hN ?hv ?ht ?q ?hd ?hcd); (case hN => rfl); (case hv => walk_at "vis"); (case ht => rfl); (case hd => decide); (case hcd => decide)) | ((with_reducible refine de_name (x := "item") (i := 3) (s := ?s) ?hN ?hv ?ht ?q ?hd ?hcd); (case hN => rfl); (case hv => walk_at "vis"); (case ht => rfl); (case hd => decide); (case hcd => decide)) | ((with_reducible refine de_name (x := "run") (i := 4) (s := ?s) ?hN ?hv ?ht ?q ?hd ?hcd); (case hN => rfl); (case hv => walk_at "vis"); (case ht => rfl); (case hd => decide); (case hcd => decide)))


def R_plain_content : Rr := fun _ ss M Q => ∃ lc s c, ss = [.d (eLc lc), s] ∧ LT M s (c.map sRun) ∧ okC lc c ∧ c.length < 1000000 ∧ ∀ p, M p = none → Q (.c p) (updC M p (.l (c.map sRun)))
theorem ok_plain_content (F : FunAt K mg "plain_content" s_plain_content ["line_counts", "value"]) (c1 : Cal P w K mg base "plain_run" 4 ["line_counts", "value"] R_plain_run) (c2 : Cal P w K mg base "continues" 1 ["run", "following"] R_continues) (b1 : mg "type" = none) (b2 : mg "tuple" = none) (b3 : mg "list" = none) : Cal P w K mg base "plain_content" 5 ["line_counts", "value"] R_plain_content := by
  refine cal_of F sc_plain_content (fun _ ss _ _ ⟨lc, x, c, h, _⟩ => by rw [h]; rfl) (fun f cdv A outer s H E L ss M Q hr h => ?_)
  obtain ⟨lc, x, c, rfl, lt, ok, hlen, q⟩ := h
  have hd : ∀ kv, x ≠ .d (.dict kv) := fun kv e => by rw [e] at lt; cases lt.1
  refine db_cons (ds_if (dt_cmp op_niTy (de_callT call_type1 (by rfl) b1 bt_type (da_cons ?_)) (by with_unfolding_all rfl)))
  walk_at "nm"
  obtain ⟨n, hn, okn, hany⟩ : ∃ n, tyName M x = some n ∧ okTy n ∧ (["list", "tuple"].any fun t => decide (t = n)) = true := by
    rcases lt.2 with z | z
    · exact ⟨_, z, okTy_list, by simp⟩
    · exact ⟨_, z, okTy_tuple, by simp⟩
  refine da_nil (k_type hn hd (de_tup (da_cons (de_type (by rfl) b3 bt_list (da_cons (de_type (by rfl) b2 bt_tuple (da_nil ⟨(by show 2 ≤ sizeLine; decide), k_niTy (ts := ["list", "tuple"]) okn (fun t ht => ?_) ⟨_, rfl, fun z => absurd z (by rw [hany]; simp), fun _ => ?_⟩⟩)))))))
  · rcases List.mem_cons.mp ht with rfl | ht
    · exact okTy_list
    · rcases List.mem_cons.mp ht with rfl | ht
      · exact okTy_tuple
      · cases ht
  refine db_nil (db_cons (ds_set (i := 2) sc_plain_content.nd rfl (.inl rfl) (de_lstC (da_nil ⟨Nat.zero_le _, fun p hp => ?_⟩))))
  refine db_cons (ds_for PassesOwn.never rfl (di_seq ?_))
  walk_at "nm"
  refine ⟨c.map sRun, seqOf_updC lt.1 hp, ?_⟩
  refine ⟨fun i τ' M' => ∃ y3 y4, τ' = [some (.d (eLc lc)), some x, some (.c p), y3, y4] ∧ M' = updC M p (.l ((c.take i).map sRun)), ⟨none, none, rfl, rfl⟩, ?_, ?_, ?_⟩
  · rintro i τ' M' ⟨y3, y4, rfl, rfl⟩
    exact seqOf_updC lt.1 hp
  · rintro i y τ' M' hi hy ⟨y3, y4, rfl, rfl⟩
    rw [List.length_map] at hi
    have hy' : y = sRun c[i] := by
      rw [List.getElem?_map, List.getElem?_eq_getElem hi] at hy
      exact (Option.some.inj hy).symm
    subst hy'
    refine dg_name (i := 3) sc_plain_content.nd rfl (.inl rfl) ?_
    refine db_cons (ds_set (i := 4) sc_plain_content.nd rfl (.inl rfl) (de_callC c1 hr (by rfl) (da_cons ?_)))
    walk_at "nm"
    refine da_cons ?_
    walk_at "nm"
    refine da_nil ⟨lc, c[i], rfl, ok.1 _ (List.getElem_mem hi), ?_⟩
    have hk : (updC M p (.l ((c.take i).map sRun))) p = some (.l ((c.take i).map sRun)) := updC_same
    have htk : (c.take (i + 1)).map sRun = (c.take i).map sRun ++ [sRun c[i]] := by
      rw [List.take_add_one, List.getElem?_eq_getElem hi, List.map_append]
      rfl
    refine db_cons (ds_ifF ?_ (db_nil ?_))
    · refine dt_or2 (dt_cmp op_isN ?_ (nomark _))
      walk_at "nm"
      refine de_non (k_isN ⟨_, rfl, fun z => absurd z (by simp [isNone, sRun, eRun]), fun _ => ?_⟩)
      refine dt_and2 (dt_tru ?_)
      walk_at "nm"
      refine ⟨!((c.take i).map sRun).isEmpty, by simp only [truOf, seqOf, hk]; rfl, fun h1 => ?_, fun h1 => ⟨rfl, rfl⟩⟩
      refine dt_val (de_callC (c2.up (by decide)) hr (by rfl) (da_cons (de_ix ?_)))
      walk_at "nm"
      have hpos : 0 < i := by
        cases i with
        | zero => simp at h1
        | succ n => omega
      have hlast : ((c.take i).map sRun).getLast? = some (sRun c[i - 1]) := by
        rw [List.getLast?_eq_getElem?, List.getElem?_map, List.length_map, List.length_take, Nat.min_eq_left (Nat.le_of_lt hi), List.getElem?_take_of_lt (by omega), List.getElem?_eq_getElem (by omega)]
        rfl
      refine de_neg (de_int ⟨1, rfl, (c.take i).map sRun, _, sRun c[i - 1], by simp only [seqOf, hk], rfl, atI_l hlast, ?_⟩)
      refine da_cons ?_
      walk_at "nm"
      have hcont : cont c[i - 1] c[i] = false := ok.2 (i - 1) _ _ (List.getElem?_eq_getElem (by omega)) (by rw [show i - 1 + 1 = i by omega]; exact List.getElem?_eq_getElem hi)
      refine da_nil ⟨c[i - 1], c[i], rfl, _, rfl, ?_⟩
      exact ⟨hcont, rfl⟩
    refine db_cons (ds_append ?_)
    walk_at "nm"
    refine ⟨⟨rfl, _, (by simp only [seqOf, hk]; rfl)⟩, ?_⟩
    walk_at "nm"
    refine ⟨p, _, rfl, hk, ?_, db_nil ⟨_, _, rfl, ?_⟩⟩
    · rw [List.length_map, List.length_take, sizeLine_eq]
      omega
    · rw [updC_updC, htk]
  · rintro τ' M' ⟨y3, y4, rfl, rfl⟩
    rw [List.length_map, List.take_length]
    refine db_cons (ds_ret ?_)
    walk_at "nm"
    exact q p hp

end

end Pg

namespace Pg
open PySem L2 Y PyProof.Rows

local macro_rules | `(tactic| walk_at "vis") => `(tactic| first | exact Or.inl rfl | exact Or.inr (Or.inl rfl) | exact Or.inr (Or.inr rfl))
local macro_rules | `(tactic| walk_at "e1") => `(tactic| first | walk_at "nm" | refine de_int ?_ | refine de_add ?_ | refine de_sub ?_ | refine de_str ?_ | refine de_non ?_ | refine de_bl ?_)
local macro_rules | `(tactic| walk_at "go") => `(tactic| repeat (first | ((with_reducible show DE _ _ _ _ _ _); walk_at "e1") | ((with_reducible show DA _ _ _ _ _ _); refine da_cons ?_) | refine ⟨_, _, rfl, rfl, ?_⟩))

section
variable {P : Program} {w : World} {K : PySem.W.Frag} {mg : Str → Option Value} {base : Heap}

local macro_rules | `(tactic| walk_at "nm") => `(tactic| first | ((with_reducible refine de_name (x := "line_counts") (i := 0) (s := ?s) ?hN ?hv ?ht ?q ?hd ?hcd); (case hN => rfl); (case hv => walk_at "vis"); (case ht => rfl); (case hd => decide); (case hcd => decide)) | ((with_reducible refine de_name (x := "value") (i := 1) (s := ?s) ?hN ?hv ?ht ?q ?hd ?hcd); (case hN => rfl); (case hv => walk_at "vis"); (case ht => rfl); (case hd => decide); (case hcd => decide)) | ((with_reducible refine de_name (x := "runs") (i := 2) (s := ?s) ?hN ?hv ?ht ?q ?hd ?hcd); (case hN => rfl); (case hv => walk_at "vis"); (case ht => rfl); (case hd => decide); (case hcd => decide)))


theorem ok_checked_content (F : FunAt K mg "checked_content" s_checked_content ["line_counts", "value"]) (c1 : Cal P w K mg base "plain_content" 5 ["line_counts", "value"] R_plain_content) : Cal P w K mg base "checked_content" 6 ["line_counts", "value"] R_plain_content := by
  refine cal_of F sc_checked_content (fun _ ss _ _ ⟨lc, x, c, h, _⟩ => by rw [h]; rfl) (fun f cdv A outer s H E L ss M Q hr h => ?_)
  obtain ⟨lc, x, c, rfl, lt, ok, hl, q⟩ := h
  refine db_cons (ds_set (i := 2) sc_checked_content.nd rfl (.inl rfl) (de_callC c1 hr (by rfl) (da_cons ?_)))
  walk_at "nm"
  refine da_cons ?_
  walk_at "nm"
  refine da_nil ⟨lc, x, c, rfl, lt, ok, hl, fun p hp => ?_⟩
  refine db_cons (ds_ifF (dt_cmp op_isN ?_ (nomark _)) (db_nil (db_cons (ds_ret ?_))))
  · walk_at "nm"
    exact de_non (k_isN ⟨_, rfl, rfl, rfl⟩)
  · walk_at "nm"
    exact q p hp

local macro_rules | `(tactic| walk_at "nm") => `(tactic| first | ((with_reducible refine de_name (x := "value") (i := 0) (s := ?s) ?hN ?hv ?ht ?q ?hd ?hcd); (case hN => rfl); (case hv => walk_at "vis"); (case ht => rfl); (case hd => decide); (case hcd => decide)) | ((with_reducible refine de_name (x := "counts") (i := 1) (s := ?s) ?hN ?hv ?ht ?q ?hd ?hcd); (case hN => rfl); (case hv => walk_at "vis"); (case ht => rfl); (case hd => decide); (case hcd => decide)) | ((with_reducible refine de_name (x := "key") (i := 2) (s := ?s) ?hN ?hv ?ht ?q ?hd ?hcd); (case hN => rfl); (case hv => walk_at "vis"); (case ht => rfl); (case hd => decide); (case hcd => decide)) | ((with_reducible refine de_name (x := "number") (i := 3) (s := ?s) ?hN ?hv ?ht ?q ?hd ?hcd); (case hN => rfl); (case hv => walk_at "vis"); (case ht => rfl); (case hd => decide); (case hcd => decide)) | ((with_reducible refine de_name (x := "writer") (i := 4) (s := ?s) ?hN ?hv ?ht ?q ?hd ?hcd); (case hN => rfl); (case hv => walk_at "vis"); (case ht => rfl); (case hd => decide); (case hcd => decide)) | ((with_reducible refine de_name (x := "count") (i := 5) (s := ?s) ?hN ?hv ?ht ?q ?hd ?hcd); (case hN => rfl); (case hv => walk_at "vis"); (case ht => rfl); (case hd => decide); (case hcd => decide)))


/-- the same counts, in order -/
def Sorted (cs cs' : Cnt) : Prop := cs'.Perm cs ∧ sortedS (cs'.map (·.1)) = true
def R_plain_line_counts : Rr := fun L ss M Q => ∃ cs, NoDK L ∧ ss = [.d (eCnt cs)] ∧ okCnt cs ∧ ∀ cs', Sorted cs cs' → Q (.d (eCnt cs')) M
theorem getC_mem {cs : Cnt} (hn : (cs.map (·.1)).Nodup) {p : Str × Int} (h : p ∈ cs) : getC cs p.1 = some p.2 := by
  induction cs with
  | nil => cases h
  | cons a r ih =>
    rw [List.map_cons, List.nodup_cons] at hn
    rcases List.mem_cons.mp h with rfl | h
    · simp [getC, List.find?_cons]
    · have ne : ¬ a.1 = p.1 := fun e => hn.1 (by rw [e]; exact List.mem_map_of_mem h)
      have := ih hn.2 h
      simp only [getC, List.find?_cons, ne, decide_false] at this ⊢
      exact this
theorem putS_new {kvs : List (Key × Sl)} {k : Key} {v : Sl} (h : k ∉ kvs.map (·.1)) : putS kvs k v = kvs ++ [(k, v)] := by
  unfold putS
  rw [if_neg]
  simp only [List.any_eq_true, decide_eq_true_eq, not_exists, not_and]
  exact fun p hp e => h (e ▸ List.mem_map_of_mem hp)
theorem slK_take (cs : Cnt) (i : Nat) : slK ((kdC cs).take i) = (slK (kdC cs)).take i := by
  unfold slK
  rw [List.map_take]
theorem keys_C (cs : Cnt) : (slK (kdC cs)).map (·.1) = (cs.map (·.1)).map Sum.inr := by
  simp [slK, kdC]
theorem perm_of_keys {cs : Cnt} (hn : (cs.map (·.1)).Nodup) {ys : List Str} (h : ys.Perm (cs.map (·.1))) : (ys.map fun y => (y, (getC cs y).getD 0)).Perm cs := by
  have h2 := h.map (fun y => (y, (getC cs y).getD 0))
  refine h2.trans (List.Perm.of_eq ?_)
  rw [List.map_map]
  conv => rhs; rw [← List.map_id cs]
  apply List.map_congr_left
  intro p hp
  simp only [Function.comp, getC_mem hn hp, Option.getD_some, id]
theorem ok_plain_line_counts (F : FunAt K mg "plain_line_counts" s_plain_line_counts ["value"]) (c1 : Cal P w K mg base "plain_writer" 2 ["value"] R_plain_writer) (c2 : Cal P w K mg base "plain_integer" 1 ["value"] R_plain_integer)
    (b1 : mg "isinstance" = none) (b2 : mg "dict" = none) (b3 : mg "len" = none) (b4 : mg "sorted" = none) (g1 : ∃ t, mg "MOST_WRITERS" = some (.int 12 t)) (g2 : ∃ t, mg "LARGEST_NUMBER" = some (.int (10 ^ 30) t)) : Cal P w K mg base "plain_line_counts" 3 ["value"] R_plain_line_counts := by
  refine cal_of F sc_plain_line_counts (fun _ ss _ _ ⟨cs, _, h, _⟩ => by rw [h]; rfl) (fun f cdv A outer s H E L ss M Q hr h => ?_)
  obtain ⟨cs, hL, rfl, ok, q⟩ := h
  obtain ⟨l1, l2, nd, okp⟩ := ok
  obtain ⟨t1, g1⟩ := g1
  obtain ⟨t2, g2⟩ := g2
  have hlen : (kdC cs).length = cs.length := by simp [kdC]
  refine db_cons (ds_ifF (dt_or2 (dt_not (dt_val (de_callB call_isi (by rfl) b1 bt_isinstance (da_cons ?_))))) (db_nil ?_))
  · walk_at "nm"
    refine da_cons (de_type (by rfl) b2 bt_dict (da_nil (k_isaDict ⟨_, rfl, fun z => absurd z (by simp [isaDict, eCnt]), fun _ => dt_not (dt_chain op_le op_le (de_int (de_callB call_lenR (by rfl) b3 bt_len (da_cons ?_))))⟩)))
    walk_at "nm"
    refine da_nil (k_lenD (.d (kdC cs)) ?_)
    rw [show (slK (kdC cs)).length = cs.length by simp [slK, kdC]]
    refine k_bool ⟨_, rfl, fun _ => de_glob (by rfl) g1 ⟨_, rfl⟩ (k_bool ⟨_, rfl, by simp; omega, rfl⟩), fun z => absurd z (by simp; omega)⟩
  refine db_cons (ds_set (i := 1) sc_plain_line_counts.nd rfl (.inr rfl) (de_dictC fun p hp => ?_))
  refine db_cons (ds_forItems (i := 0) (kd := kdC cs) PassesOwn.never rfl hL rfl (.inl rfl) rfl (fun n τ' M' => ∃ y2 y3 y4 y5, τ' = [some (.d (eCnt cs)), some (.c p), y2, y3, y4, y5] ∧ M' = updC M p (.k (slK ((kdC cs).take n)))) ⟨none, none, none, none, rfl, rfl⟩ ?_ ?_)
  · rintro x ⟨xs, hx⟩ n k d τ' M' hn ⟨y2, y3, y4, y5, rfl, rfl⟩
    have hnl : n < cs.length := by
      have := (List.getElem?_eq_some_iff.mp hn).1
      omega
    have hkd : k = .inr cs[n].1 ∧ d = .int cs[n].2 := by
      rw [show (kdC cs)[n]? = some (.inr cs[n].1, .int cs[n].2) by simp [kdC, List.getElem?_eq_getElem hnl]] at hn
      have := Option.some.inj hn
      exact ⟨(Prod.mk.inj this).1.symm, (Prod.mk.inj this).2.symm⟩
    obtain ⟨rfl, rfl⟩ := hkd
    obtain ⟨o1, o2, o3⟩ := okp _ (List.getElem_mem hnl)
    refine dg_of (pg_tup rfl (pgs_cons (pg_name (i := 2) sc_plain_line_counts.nd rfl (.inl rfl)) (pgs_cons (pg_name (i := 3) sc_plain_line_counts.nd rfl (.inl rfl)) pgs_nil))) (wg_tup rfl rfl rfl (wgs_cons (wg_name (wgs_cons (wg_name (wgs_nil ?_))))))
    refine db_cons (ds_set (i := 4) sc_plain_line_counts.nd rfl (.inl rfl) (de_callC c1 hr (by rfl) (da_cons ?_)))
    walk_at "nm"
    refine da_nil ⟨.str cs[n].1, rfl, short_of_okName o1, ?_⟩
    rw [show writerOf (.str cs[n].1) = .str cs[n].1 by simp only [writerOf, o1, if_true]]
    refine db_cons (ds_set (i := 5) sc_plain_line_counts.nd rfl (.inl rfl) (de_callC (c2.up (by decide)) hr (by rfl) (da_cons ?_)))
    walk_at "nm"
    refine da_nil ⟨.int cs[n].2, rfl, ?_⟩
    refine db_cons (ds_ifF (dt_or3 (dt_cmp op_isN ?_ (nomark _))) (db_nil ?_))
    · walk_at "nm"
      refine de_non (k_isN ⟨_, rfl, fun z => (nomatch z), fun _ => dt_cmp op_isN ?_ (nomark _)⟩)
      walk_at "nm"
      refine de_non (k_isN ⟨_, rfl, fun z => (nomatch z), fun _ => dt_not (dt_chain op_le op_le (de_int ?_))⟩)
      walk_at "nm"
      exact k_bool ⟨_, rfl, fun _ => de_glob (by rfl) g2 ⟨_, rfl⟩ (k_bool ⟨_, rfl, by simpa using o3, rfl⟩), fun z => absurd z (by simp [o2])⟩
    refine db_cons (ds_dput (hu_of hr) ?_)
    walk_at "nm"
    walk_at "nm"
    walk_at "nm"
    refine ⟨p, _, .inr cs[n].1, rfl, updC_same, rfl, ?_, db_nil ⟨_, _, _, _, rfl, ?_⟩⟩
    · rw [sizeLine_eq]
      simp [slK, kdC]
      omega
    · rw [updC_updC, putS_new ?_]
      · have e : (kdC cs).take (n + 1) = (kdC cs).take n ++ [(.inr cs[n].1, .int cs[n].2)] := by
          rw [List.take_add_one, hn]
          rfl
        rw [e]
        simp [slK, dI, intOf]
      · rw [slK_take, List.map_take, keys_C]
        intro hm
        rw [← List.map_take] at hm
        obtain ⟨z, hz, ez⟩ := List.mem_map.mp hm
        have ez' : z = cs[n].1 := Sum.inr.inj ez
        subst ez'
        obtain ⟨j, hj, ej⟩ := List.getElem_of_mem hz
        rw [List.length_take, List.length_map] at hj
        rw [List.getElem_take, List.getElem_map] at ej
        have hj1 : j < cs.length := by omega
        have := (List.getElem_inj (i := j) (j := n) (h₀ := by rw [List.length_map]; exact hj1) (h₁ := by rw [List.length_map]; exact hnl) nd).mp (by rw [List.getElem_map, List.getElem_map]; exact ej)
        omega
  · rintro τ' M' ⟨y2, y3, y4, y5, rfl, rfl⟩
    rw [List.take_of_length_le (Nat.le_refl _)]
    refine db_cons (ds_ret (de_gc (de_frzK (de_dc0 (own := [("writer", 4)]) (g := gName 4) rfl sc_plain_line_counts.nd (blkOk_by (own := [("writer", 4)]) (N := ["value", "counts", "key", "number", "writer", "count"]) (sc := defScope s_plain_line_counts) (by decide +kernel)) (fun _ _ _ _ _ => pg_name (i := 4) sc_plain_line_counts.nd rfl (.inl rfl)) (di_seq (de_callB (call_sortedD rfl) (by rfl) b4 bt_sorted (da_cons ?_)))))))
    walk_at "nm"
    refine da_nil (k_sortedD (DictIs.c updC_same) (keys_C cs) (by rw [List.length_map]; omega) fun ys p2 hperm hsort hp2 => ?_)
    refine ⟨ys.map dS, by simp only [seqOf, updC_same], fun D hD => ?_⟩
    have np2 : p2 ≠ p := fun e => by rw [e, updC_same] at hp2; cases hp2
    have nD2 : D ≠ p2 := fun e => by rw [e, updC_same] at hD; cases hD
    have nDp : D ≠ p := fun e => by
      rw [e, updC_ne np2.symm, updC_same] at hD
      cases hD
    have hlk : ys.length = cs.length := by rw [hperm.length_eq, List.length_map]
    refine ⟨fun i M' => M' = updC (updC (updC M p (.k (slK (kdC cs)))) p2 (.l (ys.map dS))) D (.k (slK (kdC ((ys.take i).map fun y => (y, (getC cs y).getD 0))))), rfl, ?_, ?_, ?_⟩
    · rintro i M' rfl
      simp only [seqOf, updC_ne nD2.symm, updC_same]
    · rintro i y M' hi hy rfl
      rw [List.length_map] at hi
      have hy' : y = dS ys[i] := by
        rw [List.getElem?_map, List.getElem?_eq_getElem hi] at hy
        exact (Option.some.inj hy).symm
      subst hy'
      refine wgw_name (by simp) ?_
      intro s0 H0 C cl fp
      walk_at "nm"
      intro s0 H0 C cl fp
      refine de_dget (hu_of hr) ?_
      walk_at "nm"
      walk_at "nm"
      have hmem : ys[i] ∈ cs.map (·.1) := hperm.mem_iff.mp (List.getElem_mem hi)
      obtain ⟨p0, hp0, e0⟩ := List.mem_map.mp hmem
      have hg : getC cs ys[i] = some p0.2 := by rw [← e0]; exact getC_mem nd hp0
      refine ⟨_, .inr ys[i], dI p0.2, .c (by rw [updC_ne nDp.symm, updC_ne np2.symm, updC_same]), rfl, by rw [valS_C, hg]; rfl, _, .inr ys[i], rfl, updC_same, ?_, ?_⟩
      · rw [sizeLine_eq]
        simp [slK, kdC]
        omega
      · rw [updC_updC, putS_new ?_]
        · show updC _ _ _ = updC _ _ _
          rw [show slK (kdC ((ys.take (i + 1)).map fun y => (y, (getC cs y).getD 0))) = slK (kdC ((ys.take i).map fun y => (y, (getC cs y).getD 0))) ++ [(.inr ys[i], dI p0.2)] from by
            rw [List.take_add_one, List.getElem?_eq_getElem hi]
            simp only [slK, kdC, Option.toList_some, List.map_append, List.map_cons, List.map_nil, hg, Option.getD_some, dI]]
        · rw [keys_C]
          intro hm
          obtain ⟨z, hz, ez⟩ := List.mem_map.mp hm
          have ez' : z = ys[i] := Sum.inr.inj ez
          rw [List.map_map] at hz
          obtain ⟨z2, hz2, ez2⟩ := List.mem_map.mp hz
          have ez2' : z2 = z := ez2
          rw [ez2', ez'] at hz2
          have ndy : ys.Nodup := hperm.nodup_iff.mpr nd
          obtain ⟨j, hj, ej⟩ := List.getElem_of_mem hz2
          rw [List.length_take] at hj
          rw [List.getElem_take] at ej
          have := (List.getElem_inj (i := j) (j := i) (h₀ := by omega) (h₁ := hi) ndy).mp ej
          omega
    · rintro M' rfl
      refine ⟨D, kdC (ys.map fun y => (y, (getC cs y).getD 0)), rfl, ?_, ?_⟩
      · rw [List.length_map, List.take_of_length_le (Nat.le_refl _), updC_same]
      · refine ⟨M, ?_, q _ ⟨perm_of_keys nd hperm, ?_⟩⟩
        · have hD0 : M D = none := by
            rw [updC_ne nD2, updC_ne nDp] at hD
            exact hD
          have hp20 : M p2 = none := by
            rw [updC_ne np2] at hp2
            exact hp2
          exact ((((Sub.refl M).new hp).put hp20).put hD0).del hD0
        · rw [List.map_map, show (ys.map ((fun x => x.1) ∘ fun y => (y, (getC cs y).getD 0))) = ys from by simp [Function.comp_def]]
          exact hsort

local macro_rules | `(tactic| walk_at "nm") => `(tactic| first | ((with_reducible refine de_name (x := "value") (i := 0) (s := ?s) ?hN ?hv ?ht ?q ?hd ?hcd); (case hN => rfl); (case hv => walk_at "vis"); (case ht => rfl); (case hd => decide); (case hcd => decide)) | ((with_reducible refine de_name (x := "counts") (i := 1) (s := ?s) ?hN ?hv ?ht ?q ?hd ?hcd); (case hN => rfl); (case hv => walk_at "vis"); (case ht => rfl); (case hd => decide); (case hcd => decide)))


theorem ok_checked_line_counts (F : FunAt K mg "checked_line_counts" s_checked_line_counts ["value"]) (c1 : Cal P w K mg base "plain_line_counts" 3 ["value"] R_plain_line_counts) : Cal P w K mg base "checked_line_counts" 4 ["value"] R_plain_line_counts := by
  refine cal_of F sc_checked_line_counts (fun _ ss _ _ ⟨cs, _, h, _⟩ => by rw [h]; rfl) (fun f cdv A outer s H E L ss M Q hr h => ?_)
  obtain ⟨cs, hL, rfl, ok, q⟩ := h
  refine db_cons (ds_set (i := 1) sc_checked_line_counts.nd rfl (.inl rfl) (de_callC c1 hr (by rfl) (da_cons ?_)))
  walk_at "nm"
  refine da_nil ⟨cs, hL, rfl, ok, fun cs' hs => ?_⟩
  refine db_cons (ds_ifF (dt_cmp op_isN ?_ (nomark _)) (db_nil (db_cons (ds_ret ?_))))
  · walk_at "nm"
    exact de_non (k_isN ⟨_, rfl, rfl, rfl⟩)
  · walk_at "nm"
    exact q cs' hs

end

end Pg

namespace Pg
open PySem L2 Y PyProof.Rows

local macro_rules | `(tactic| walk_at "vis") => `(tactic| first | exact Or.inl rfl | exact Or.inr (Or.inl rfl) | exact Or.inr (Or.inr rfl))
local macro_rules | `(tactic| walk_at "e1") => `(tactic| first | walk_at "nm" | refine de_int ?_ | refine de_add ?_ | refine de_sub ?_ | refine de_str ?_ | refine de_non ?_ | refine de_bl ?_)
local macro_rules | `(tactic| walk_at "go") => `(tactic| repeat (first | ((with_reducible show DE _ _ _ _ _ _); walk_at "e1") | ((with_reducible show DA _ _ _ _ _ _); refine da_cons ?_) | refine ⟨_, _, rfl, rfl, ?_⟩))

section
variable {P : Program} {w : World} {K : PySem.W.Frag} {mg : Str → Option Value} {base : Heap}

theorem seq_of_lst {M : Cs} {s : Sl} {ss : List Sl} (h : lstOf M s = some ss) : seqOf M s = some ss ∧ isTup s = false := by
  cases s with
  | c a =>
    refine ⟨?_, rfl⟩
    simp only [lstOf, seqOf] at h ⊢
    exact h
  | d x => cases x <;> first | (cases h; done) | exact ⟨h, rfl⟩
  | t n => cases h
  | u l => cases h
  | s n => cases h
theorem lstOf_updC {M : Cs} {s : Sl} {ss : List Sl} {p : Addr} {c : Cell} (h : lstOf M s = some ss) (hp : M p = none) : lstOf (updC M p c) s = some ss := by
  cases s with
  | c a =>
    by_cases e : a = p
    · subst e
      simp only [lstOf, hp] at h
      cases h
    · simp only [lstOf, updC_ne e]
      exact h
  | d x => cases x <;> exact h
  | t n => exact h
  | u l => exact h
  | s n => exact h
theorem dropLast_cut {α : Type} (xs : List α) : cutG xs none (some (-1)) = xs.dropLast := by
  unfold cutG
  rw [HT.sIx_none]
  have e : HT.sIx xs.length xs.length (some (-1)) = xs.length - 1 := by
    show (if (-1 : Int) < 0 then ((-1 : Int) + (xs.length : Int)).toNat else min (-1 : Int).toNat xs.length) = xs.length - 1
    rw [if_pos (by decide)]
    omega
  rw [e, List.drop_zero, Nat.sub_zero, List.dropLast_eq_take]

end

end Pg

namespace Pg
open PySem L2 Y PyProof.Rows

local macro_rules | `(tactic| walk_at "vis") => `(tactic| first | exact Or.inl rfl | exact Or.inr (Or.inl rfl) | exact Or.inr (Or.inr rfl))
local macro_rules | `(tactic| walk_at "e1") => `(tactic| first | walk_at "nm" | refine de_int ?_ | refine de_add ?_ | refine de_sub ?_ | refine de_str ?_ | refine de_non ?_ | refine de_bl ?_)
local macro_rules | `(tactic| walk_at "go") => `(tactic| repeat (first | ((with_reducible show DE _ _ _ _ _ _); walk_at "e1") | ((with_reducible show DA _ _ _ _ _ _); refine da_cons ?_) | refine ⟨_, _, rfl, rfl, ?_⟩))

section
variable {P : Program} {w : World} {K : PySem.W.Frag} {mg : Str → Option Value} {base : Heap}

end

end Pg

namespace Pg
open PySem L2 Y PyProof.Rows

local macro_rules | `(tactic| walk_at "vis") => `(tactic| first | exact Or.inl rfl | exact Or.inr (Or.inl rfl) | exact Or.inr (Or.inr rfl))
local macro_rules | `(tactic| walk_at "e1") => `(tactic| first | walk_at "nm" | refine de_int ?_ | refine de_add ?_ | refine de_sub ?_ | refine de_str ?_ | refine de_non ?_ | refine de_bl ?_)
local macro_rules | `(tactic| walk_at "go") => `(tactic| repeat (first | ((with_reducible show DE _ _ _ _ _ _); walk_at "e1") | ((with_reducible show DA _ _ _ _ _ _); refine da_cons ?_) | refine ⟨_, _, rfl, rfl, ?_⟩))

section
variable {P : Program} {w : World} {K : PySem.W.Frag} {mg : Str → Option Value} {base : Heap}

end

end Pg

namespace Pg
open PySem L2 Y PyProof.Rows

local macro_rules | `(tactic| walk_at "vis") => `(tactic| first | exact Or.inl rfl | exact Or.inr (Or.inl rfl) | exact Or.inr (Or.inr rfl))
local macro_rules | `(tactic| walk_at "e1") => `(tactic| first | walk_at "nm" | refine de_int ?_ | refine de_add ?_ | refine de_sub ?_ | refine de_str ?_ | refine de_non ?_ | refine de_bl ?_)
local macro_rules | `(tactic| walk_at "go") => `(tactic| repeat (first | ((with_reducible show DE _ _ _ _ _ _); walk_at "e1") | ((with_reducible show DA _ _ _ _ _ _); refine da_cons ?_) | refine ⟨_, _, rfl, rfl, ?_⟩))

section
variable {P : Program} {w : World} {K : PySem.W.Frag} {mg : Str → Option Value} {base : Heap}

end

end Pg

namespace Pg
open PySem L2 Y PyProof.Rows

local macro_rules | `(tactic| walk_at "vis") => `(tactic| first | exact Or.inl rfl | exact Or.inr (Or.inl rfl) | exact Or.inr (Or.inr rfl))
local macro_rules | `(tactic| walk_at "e1") => `(tactic| first | walk_at "nm" | refine de_int ?_ | refine de_add ?_ | refine de_sub ?_ | refine de_str ?_ | refine de_non ?_ | refine de_bl ?_)
local macro_rules | `(tactic| walk_at "go") => `(tactic| repeat (first | ((with_reducible show DE _ _ _ _ _ _); walk_at "e1") | ((with_reducible show DA _ _ _ _ _ _); refine da_cons ?_) | refine ⟨_, _, rfl, rfl, ?_⟩))


/-! ### the bowl -/
structure BowlN (M : Cs) (b q : Addr) (ns : List Int) (mix cnt : Int) : Prop where
  hb : M b = some (.l [.c q, dI mix, dI cnt])
  hq : M q = some (.l (ns.map dI))
  ne : b ≠ q
def Bowl (M : Cs) (b q : Addr) (n : Nat) : Prop := ∃ ns mix cnt, BowlN M b q ns mix cnt ∧ 0 ≤ mix ∧ mix ≤ 10 ^ 32 ∧ 0 ≤ cnt ∧ cnt ≤ (n : Int)
def Fr2 (b q : Addr) (M M' : Cs) : Prop := ∀ a, a ≠ b → a ≠ q → M' a = M a
theorem Fr2.refl {b q : Addr} (M : Cs) : Fr2 b q M M := fun _ _ _ => rfl
theorem Fr2.trans {b q : Addr} {M M1 M2 : Cs} (h : Fr2 b q M M1) (k : Fr2 b q M1 M2) : Fr2 b q M M2 := fun a h1 h2 => (k a h1 h2).trans (h a h1 h2)
theorem Fr2.updB {b q : Addr} {M M1 : Cs} {c : Cell} (h : Fr2 b q M M1) : Fr2 b q M (updC M1 b c) := fun a h1 h2 => by rw [updC_ne h1]; exact h a h1 h2
theorem Fr2.updQ {b q : Addr} {M M1 : Cs} {c : Cell} (h : Fr2 b q M M1) : Fr2 b q M (updC M1 q c) := fun a h1 h2 => by rw [updC_ne h2]; exact h a h1 h2
theorem Bowl.mono {M : Cs} {b q : Addr} {m n : Nat} (h : Bowl M b q m) (hl : m ≤ n) : Bowl M b q n := by
  obtain ⟨ns, mix, cnt, hb, h1, h2, h3, h4⟩ := h
  exact ⟨ns, mix, cnt, hb, h1, h2, h3, by omega⟩
theorem Bowl.ne {M : Cs} {b q : Addr} {n : Nat} (h : Bowl M b q n) : b ≠ q := by
  obtain ⟨ns, mix, cnt, hb, _⟩ := h
  exact hb.ne
/-- cells elsewhere do not matter -/
theorem Bowl.upd {M : Cs} {b q p : Addr} {n : Nat} {c : Cell} (h : Bowl M b q n) (h1 : p ≠ b) (h2 : p ≠ q) : Bowl (updC M p c) b q n := by
  obtain ⟨ns, mix, cnt, hb, r⟩ := h
  exact ⟨ns, mix, cnt, ⟨by rw [updC_ne h1.symm]; exact hb.hb, by rw [updC_ne h2.symm]; exact hb.hq, hb.ne⟩, r⟩
theorem Bowl.del {M : Cs} {b q p : Addr} {n : Nat} (h : Bowl M b q n) (h1 : p ≠ b) (h2 : p ≠ q) : Bowl (delC M p) b q n := by
  obtain ⟨ns, mix, cnt, hb, r⟩ := h
  exact ⟨ns, mix, cnt, ⟨by rw [delC_ne h1.symm]; exact hb.hb, by rw [delC_ne h2.symm]; exact hb.hq, hb.ne⟩, r⟩
theorem Bowl.nb {M : Cs} {b q p : Addr} {n : Nat} (h : Bowl M b q n) (hp : M p = none) : p ≠ b ∧ p ≠ q := by
  obtain ⟨ns, mix, cnt, hb, r⟩ := h
  refine ⟨fun e => ?_, fun e => ?_⟩
  · rw [e, hb.hb] at hp; exact nomatch hp
  · rw [e, hb.hq] at hp; exact nomatch hp
theorem powW {i j : Int} {k : Nat} (h : i.natAbs < 2 ^ k) (hj : 0 ≤ j) (hk : (k : Int) * j ≤ 2 ^ 27) : CPowW i j :=
  ⟨hj, Int.le_trans (Int.mul_le_mul_of_nonneg_right (Int.ofNat_le.mpr (intBits_le h)) hj) hk⟩
theorem atI_0 {α : Type} (x : α) (l : List α) : atI (x :: l) 0 = some x := by
  unfold atI ixN
  simp
section
variable {P : Program} {w : World} {K : PySem.W.Frag} {mg : Str → Option Value} {base : Heap}

end

end Pg

namespace Pg
open PySem L2 Y PyProof.Rows

local macro_rules | `(tactic| walk_at "vis") => `(tactic| first | exact Or.inl rfl | exact Or.inr (Or.inl rfl) | exact Or.inr (Or.inr rfl))
local macro_rules | `(tactic| walk_at "e1") => `(tactic| first | walk_at "nm" | refine de_int ?_ | refine de_add ?_ | refine de_sub ?_ | refine de_str ?_ | refine de_non ?_ | refine de_bl ?_)
local macro_rules | `(tactic| walk_at "go") => `(tactic| repeat (first | ((with_reducible show DE _ _ _ _ _ _); walk_at "e1") | ((with_reducible show DA _ _ _ _ _ _); refine da_cons ?_) | refine ⟨_, _, rfl, rfl, ?_⟩))


theorem withRun_len (c : List Y.Run) (r : Y.Run) : (withRun c r).length ≤ c.length + 1 := by
  unfold withRun
  split
  · split
    · rw [List.length_append, List.length_dropLast]; simp
    · rw [List.length_append]; simp
  · rw [List.length_append]; simp
theorem withRun_mem {c : List Y.Run} {r x : Y.Run} (h : x ∈ withRun c r) : x ∈ c ∨ x = r ∨ ∃ l ∈ c, cont l r = true ∧ x = (r.1, l.2.1, r.2.2) := by
  unfold withRun at h
  split at h
  · next l hl =>
    split at h
    · next hc =>
      rcases List.mem_append.mp h with h | h
      · exact .inl (List.dropLast_subset _ h)
      · exact .inr (.inr ⟨l, List.mem_of_getLast? hl, hc, List.mem_singleton.mp h⟩)
    · rcases List.mem_append.mp h with h | h
      · exact .inl h
      · exact .inr (.inl (List.mem_singleton.mp h))
  · rcases List.mem_append.mp h with h | h
    · exact .inl h
    · exact .inr (.inl (List.mem_singleton.mp h))
theorem withRun_names {c : List Y.Run} {r : Y.Run} (h : ∀ x ∈ c, okName x.1 = true) (hr : okName r.1 = true) : ∀ x ∈ withRun c r, okName x.1 = true := fun x hx => by
  rcases withRun_mem hx with z | rfl | ⟨l, _, _, rfl⟩
  · exact h x z
  · exact hr
  · exact hr
def ln (l : Line) : Y.Run := (l.1, l.2, l.2)
def grow (c : List Y.Run) (ls : List Line) : List Y.Run := ls.foldl (fun c l => withRun c (ln l)) c
theorem grow_append (c : List Y.Run) (l m : List Line) : grow c (l ++ m) = grow (grow c l) m := by unfold grow; rw [List.foldl_append]
theorem grow_take {c : List Y.Run} {ls : List Line} {i : Nat} (h : i < ls.length) : grow c (ls.take (i + 1)) = withRun (grow c (ls.take i)) (ln ls[i]) := by
  rw [List.take_add_one, List.getElem?_eq_getElem h, grow_append]
  rfl
theorem grow_len (c : List Y.Run) (ls : List Line) : (grow c ls).length ≤ c.length + ls.length := by
  induction ls generalizing c with
  | nil => exact Nat.le_refl _
  | cons l r ih =>
    have h1 := ih (withRun c (ln l))
    have h2 := withRun_len c (ln l)
    show (grow (withRun c (ln l)) r).length ≤ _
    rw [List.length_cons]
    omega
theorem grow_names {c : List Y.Run} {ls : List Line} (h : ∀ x ∈ c, okName x.1 = true) (hl : ∀ l ∈ ls, okName l.1 = true) : ∀ x ∈ grow c ls, okName x.1 = true := by
  induction ls generalizing c with
  | nil => exact h
  | cons l r ih => exact ih (withRun_names (r := ln l) h (hl l List.mem_cons_self)) fun m hm => hl m (List.mem_cons_of_mem _ hm)
theorem okC_with {lc : Option Cnt} {c : List Y.Run} {l : Line} (h : okC lc c) (hl : okLine lc l) : okC lc (withRun c (ln l)) := by
  obtain ⟨h1, h2⟩ := h
  obtain ⟨o1, o2, o3⟩ := hl
  refine ⟨fun x hx => ?_, ?_⟩
  · rcases withRun_mem hx with z | rfl | ⟨m, hm, hc, rfl⟩
    · exact h1 x z
    · exact ⟨o1, o2, Int.le_refl _, o3⟩
    · obtain ⟨_, q2, q3, _⟩ := h1 m hm
      unfold cont ln at hc
      simp only [Bool.and_eq_true, decide_eq_true_eq] at hc
      refine ⟨o1, q2, ?_, o3⟩
      show m.2.1 ≤ l.2
      omega
  · unfold withRun
    split
    · next m hm =>
      obtain ⟨ys, e⟩ := List.getLast?_eq_some_iff.mp hm
      subst e
      split
      · next hc =>
        rw [List.dropLast_concat]
        intro i a b ha hb
        by_cases hi : i + 1 < ys.length
        · rw [List.getElem?_append_left (by omega)] at ha
          rw [List.getElem?_append_left hi] at hb
          exact h2 i a b (by rw [List.getElem?_append_left (by omega)]; exact ha) (by rw [List.getElem?_append_left hi]; exact hb)
        · have hb2 := List.getElem?_eq_some_iff.mp hb
          obtain ⟨hlt, _⟩ := hb2
          rw [List.length_append, List.length_singleton] at hlt
          have e : i + 1 = ys.length := by omega
          rw [List.getElem?_append_left (by omega)] at ha
          rw [e, List.getElem?_concat_length] at hb
          have := h2 i a m (by rw [List.getElem?_append_left (by omega)]; exact ha) (by rw [e, List.getElem?_concat_length])
          have hb := Option.some.inj hb
          subst hb
          unfold cont ln at hc
          simp only [Bool.and_eq_true, decide_eq_true_eq] at hc
          unfold cont at this ⊢
          simp only [Bool.and_eq_false_iff, decide_eq_false_iff_not] at this ⊢
          show (¬ l.1 = a.1) ∨ ¬ m.2.1 = a.2.2 + 1
          have e2 : l.1 = m.1 := hc.1
          rw [e2]
          exact this
      · next hc =>
        intro i a b ha hb
        by_cases hi : i + 1 < (ys ++ [m]).length
        · rw [List.getElem?_append_left (by omega)] at ha
          rw [List.getElem?_append_left hi] at hb
          exact h2 i a b ha hb
        · obtain ⟨hlt, _⟩ := List.getElem?_eq_some_iff.mp hb
          rw [List.length_append (as := ys ++ [m]), List.length_singleton] at hlt
          have e : i + 1 = (ys ++ [m]).length := by omega
          rw [List.getElem?_append_left (by omega)] at ha
          rw [e, List.getElem?_concat_length] at hb
          have hb := Option.some.inj hb
          subst hb
          have e3 : i = ys.length := by rw [List.length_append, List.length_singleton] at e; omega
          rw [e3, List.getElem?_concat_length] at ha
          have ha := Option.some.inj ha
          subst ha
          exact Bool.eq_false_iff.mpr hc
    · next hm =>
      have e : c = [] := List.getLast?_eq_none_iff.mp hm
      subst e
      intro i a b ha hb
      simp at hb
theorem okC_grow {lc : Option Cnt} {c : List Y.Run} {ls : List Line} (h : okC lc c) (hl : ∀ l ∈ ls, okLine lc l) : okC lc (grow c ls) := by
  induction ls generalizing c with
  | nil => exact h
  | cons l r ih => exact ih (okC_with h (hl l List.mem_cons_self)) fun m hm => hl m (List.mem_cons_of_mem _ hm)
theorem okC_nil (lc : Option Cnt) : okC lc [] := ⟨fun _ h => (nomatch h), fun i a b h _ => by cases i <;> cases h⟩
theorem seqOf_sub {M M' : Cs} {s : Sl} {ss : List Sl} (h : seqOf M s = some ss) (hs : Sub M M') : seqOf M' s = some ss := by
  cases s with
  | c a =>
    cases e : M a with
    | none => simp only [seqOf, e] at h; cases h
    | some c => simp only [seqOf, e] at h; simp only [seqOf, hs a c e]; exact h
  | d x => cases x <;> exact h
  | t n => exact h
  | u l => exact h
  | s n => exact h
theorem tyName_sub {M M' : Cs} {s : Sl} {n : String} (h : tyName M s = some n) (hs : Sub M M') : tyName M' s = some n := by
  cases s with
  | c a =>
    cases e : M a with
    | none => simp only [tyName, e] at h; cases h
    | some c => simp only [tyName, e] at h; simp only [tyName, hs a c e]; exact h
  | d x => cases x <;> exact h
  | t n => exact h
  | u l => exact h
  | s n => exact h
theorem LT.sub {M M' : Cs} {s : Sl} {ss : List Sl} (h : LT M s ss) (hs : Sub M M') : LT M' s ss := ⟨seqOf_sub h.1 hs, h.2.imp (fun z => tyName_sub z hs) (fun z => tyName_sub z hs)⟩
mutual
theorem IsD.sub {M M' : Cs} (hs : Sub M M') : ∀ {s : Sl} {d : PyData}, Y.IsD M s d → Y.IsD M' s d
  | _, _, .d x => .d x
  | _, _, .c h l => .c (hs _ _ h) (IsDL.sub hs l)
  | _, _, .u l => .u (IsDL.sub hs l)
theorem IsDL.sub {M M' : Cs} (hs : Sub M M') : ∀ {ss : List Sl} {ds : List PyData}, Y.IsDL M ss ds → Y.IsDL M' ss ds
  | _, _, .nil => .nil
  | _, _, .cons a b => .cons (IsD.sub hs a) (IsDL.sub hs b)
end
theorem Sub.trans {A B C : Cs} (h : Sub A B) (k : Sub B C) : Sub A C := fun a c e => k a c (h a c e)
section
variable {P : Program} {w : World} {K : PySem.W.Frag} {mg : Str → Option Value} {base : Heap}

end

end Pg

namespace Pg
open PySem L2 Y PyProof.Rows

local macro_rules | `(tactic| walk_at "vis") => `(tactic| first | exact Or.inl rfl | exact Or.inr (Or.inl rfl) | exact Or.inr (Or.inr rfl))
local macro_rules | `(tactic| walk_at "e1") => `(tactic| first | walk_at "nm" | refine de_int ?_ | refine de_add ?_ | refine de_sub ?_ | refine de_str ?_ | refine de_non ?_ | refine de_bl ?_)
local macro_rules | `(tactic| walk_at "go") => `(tactic| repeat (first | ((with_reducible show DE _ _ _ _ _ _); walk_at "e1") | ((with_reducible show DA _ _ _ _ _ _); refine da_cons ?_) | refine ⟨_, _, rfl, rfl, ?_⟩))


theorem getC_some {cs : Cnt} {z : Str} {v : Int} (h : getC cs z = some v) : ∃ p ∈ cs, p.1 = z ∧ p.2 = v := by
  unfold getC at h
  cases e : cs.find? fun p => decide (p.1 = z) with
  | none => rw [e] at h; cases h
  | some p =>
    rw [e] at h
    exact ⟨p, List.mem_of_find?_eq_some e, of_decide_eq_true (p := p.1 = z) (List.find?_some (p := fun p : Str × Int => decide (p.1 = z)) e), Option.some.inj h⟩
/-- a line of these counts, and the count of its writer -/
theorem okLine_get {rows : Cnt} {l : Line} (h : okLine (some rows) l) : ∃ v, getC rows l.1 = some v ∧ l.2 ≤ v := by
  obtain ⟨_, h1, h2⟩ := h
  change l.2 ≤ (getC rows l.1).getD 0 at h2
  cases e : getC rows l.1 with
  | none => rw [e] at h2; simp at h2; omega
  | some v => rw [e] at h2; exact ⟨v, rfl, h2⟩
section
variable {P : Program} {w : World} {K : PySem.W.Frag} {mg : Str → Option Value} {base : Heap}

end

end Pg

namespace Pg
open PySem L2 Y PyProof.Rows

local macro_rules | `(tactic| walk_at "vis") => `(tactic| first | exact Or.inl rfl | exact Or.inr (Or.inl rfl) | exact Or.inr (Or.inr rfl))
local macro_rules | `(tactic| walk_at "e1") => `(tactic| first | walk_at "nm" | refine de_int ?_ | refine de_add ?_ | refine de_sub ?_ | refine de_str ?_ | refine de_non ?_ | refine de_bl ?_)
local macro_rules | `(tactic| walk_at "go") => `(tactic| repeat (first | ((with_reducible show DE _ _ _ _ _ _); walk_at "e1") | ((with_reducible show DA _ _ _ _ _ _); refine da_cons ?_) | refine ⟨_, _, rfl, rfl, ?_⟩))

/-! ### contents, line by line -/
def exR (r : Y.Run) : List Line := (List.range (r.2.2 - r.2.1 + 1).toNat).map fun k : Nat => (r.1, r.2.1 + (k : Int))
def ex (c : List Y.Run) : List Line := c.flatMap exR
def wf (c : List Y.Run) : Prop := ∀ r ∈ c, r.2.1 ≤ r.2.2
def adj : List Y.Run → Prop
  | [] => True
  | r :: c => (∀ b, c.head? = some b → cont r b = false) ∧ adj c
theorem ex_nil : ex [] = [] := rfl
theorem ex_cons (r : Y.Run) (c : List Y.Run) : ex (r :: c) = exR r ++ ex c := by unfold ex; rw [List.flatMap_cons]
theorem ex_append (c d : List Y.Run) : ex (c ++ d) = ex c ++ ex d := by unfold ex; rw [List.flatMap_append]
theorem exR_len (r : Y.Run) : (exR r).length = (r.2.2 - r.2.1 + 1).toNat := by unfold exR; rw [List.length_map, List.length_range]
theorem exR_get (r : Y.Run) (j : Nat) : (exR r)[j]? = if j < (r.2.2 - r.2.1 + 1).toNat then some (r.1, r.2.1 + (j : Int)) else none := by
  unfold exR
  rw [List.getElem?_map]
  by_cases h : j < (r.2.2 - r.2.1 + 1).toNat
  · rw [if_pos h, List.getElem?_range h]
    rfl
  · rw [if_neg h, List.getElem?_eq_none (by rw [List.length_range]; omega)]
    rfl
theorem exR_take (r : Y.Run) (t : Int) (h0 : 0 < t) (h1 : t ≤ r.2.2 - r.2.1 + 1) : exR (r.1, r.2.1, r.2.1 + t - 1) = (exR r).take t.toNat := by
  apply List.ext_getElem?
  intro j
  rw [List.getElem?_take, exR_get, exR_get]
  show (if j < (r.2.1 + t - 1 - r.2.1 + 1).toNat then some (r.1, r.2.1 + (j : Int)) else none) = _
  by_cases h : j < t.toNat
  · rw [if_pos (by omega), if_pos h, if_pos (by omega)]
  · rw [if_neg (by omega), if_neg h]
theorem exR_drop (r : Y.Run) (t : Int) (h0 : 0 ≤ t) : exR (r.1, r.2.1 + t, r.2.2) = (exR r).drop t.toNat := by
  apply List.ext_getElem?
  intro j
  rw [List.getElem?_drop, exR_get, exR_get]
  show (if j < (r.2.2 - (r.2.1 + t) + 1).toNat then some (r.1, r.2.1 + t + (j : Int)) else none) = _
  by_cases h : j < (r.2.2 - (r.2.1 + t) + 1).toNat
  · rw [if_pos h, if_pos (by omega), show r.2.1 + t + (j : Int) = r.2.1 + ((t.toNat + j : Nat) : Int) by omega]
  · rw [if_neg h, if_neg (by omega)]
theorem exR_snoc (w : Str) (f l : Int) (h : f ≤ l + 1) : exR (w, f, l + 1) = exR (w, f, l) ++ [(w, l + 1)] := by
  unfold exR
  show (List.range (l + 1 - f + 1).toNat).map _ = (List.range (l - f + 1).toNat).map _ ++ _
  rw [show (l + 1 - f + 1).toNat = (l - f + 1).toNat + 1 by omega, List.range_succ, List.map_append]
  congr 1
  show [(w, f + (((l - f + 1).toNat : Nat) : Int))] = _
  rw [show f + (((l - f + 1).toNat : Nat) : Int) = l + 1 by omega]
theorem wf_with {c : List Y.Run} {l : Line} (h : wf c) : wf (withRun c (ln l)) := fun x hx => by
  rcases withRun_mem hx with z | rfl | ⟨m, hm, hc, rfl⟩
  · exact h x z
  · exact Int.le_refl _
  · have := h m hm
    unfold cont ln at hc
    simp only [Bool.and_eq_true, decide_eq_true_eq] at hc
    show m.2.1 ≤ l.2
    omega
theorem withRun_snoc (c : List Y.Run) (m r : Y.Run) : withRun (c ++ [m]) r = if cont m r = true then c ++ [(r.1, m.2.1, r.2.2)] else c ++ [m] ++ [r] := by
  unfold withRun
  rw [List.getLast?_concat]
  simp only [List.dropLast_concat]
theorem ex_with {c : List Y.Run} {l : Line} (h : wf c) : ex (withRun c (ln l)) = ex c ++ [l] := by
  have e1 : ex [ln l] = [l] := by
    show exR (l.1, l.2, l.2) ++ [] = _
    unfold exR
    simp
  rcases List.eq_nil_or_concat c with rfl | ⟨c, m, rfl⟩
  · exact e1
  · rw [List.concat_eq_append] at h ⊢
    rw [withRun_snoc]
    split
    · next hc =>
      unfold cont ln at hc
      simp only [Bool.and_eq_true, decide_eq_true_eq] at hc
      have hm := h m (by simp)
      rw [ex_append, ex_append, List.append_assoc]
      congr 1
      show exR (l.1, m.2.1, l.2) ++ [] = (exR m ++ []) ++ [l]
      rw [List.append_nil, List.append_nil]
      obtain ⟨c1, c2⟩ := hc
      have e : l = (m.1, m.2.2 + 1) := Prod.ext c1 c2
      rw [e]
      exact exR_snoc m.1 m.2.1 m.2.2 (by omega)
    · rw [ex_append _ [ln l], e1]
theorem ex_grow {c : List Y.Run} {ls : List Line} (h : wf c) : ex (grow c ls) = ex c ++ ls := by
  induction ls generalizing c with
  | nil => rw [List.append_nil]; rfl
  | cons l r ih =>
    show ex (grow (withRun c (ln l)) r) = _
    rw [ih (wf_with h), ex_with h, List.append_assoc]
    rfl
theorem wf_nil : wf [] := fun _ h => (nomatch h)
theorem ex_grow0 (ls : List Line) : ex (grow [] ls) = ls := by rw [ex_grow wf_nil]; rfl
theorem wf_grow {c : List Y.Run} {ls : List Line} (h : wf c) : wf (grow c ls) := by
  induction ls generalizing c with
  | nil => exact h
  | cons l r ih => exact ih (wf_with h)
theorem nL_cons (r : Y.Run) (c : List Y.Run) : nLines (r :: c) = (r.2.2 - r.2.1 + 1) + nLines c := by unfold nLines; rw [List.map_cons, List.sum_cons]
theorem nL_ex : ∀ {c : List Y.Run}, wf c → nLines c = ((ex c).length : Int)
  | [], _ => rfl
  | r :: c, h => by
    have h1 := h r List.mem_cons_self
    rw [nL_cons, ex_cons, List.length_append, exR_len, nL_ex fun x hx => h x (List.mem_cons_of_mem _ hx)]
    omega
theorem nL_grow0 (ls : List Line) : nLines (grow [] ls) = (ls.length : Int) := by rw [nL_ex (wf_grow wf_nil), ex_grow0]
/-! one content for each list of lines -/
theorem adj_snoc : ∀ {c : List Y.Run} {m : Y.Run}, adj (c ++ [m]) → adj c ∧ ∀ l, c.getLast? = some l → cont l m = false
  | [], m, _ => ⟨trivial, fun l h => (nomatch h)⟩
  | [a], m, h => ⟨⟨fun b z => (nomatch z), trivial⟩, fun l e => by
    cases e
    exact h.1 m rfl⟩
  | a :: b :: c, m, h => by
    obtain ⟨h1, h2⟩ := h
    obtain ⟨h3, h4⟩ := adj_snoc (c := b :: c) h2
    exact ⟨⟨fun x hx => h1 x hx, h3⟩, fun l e => h4 l (by rw [List.getLast?_cons_cons] at e; exact e)⟩
theorem grow_run (c : List Y.Run) (w : Str) (f : Int) (h : ∀ l, c.getLast? = some l → cont l (w, f, f) = false) : ∀ k : Nat, grow c (exR (w, f, f + (k : Int))) = c ++ [(w, f, f + (k : Int))]
  | 0 => by
    have e : exR (w, f, f + ((0 : Nat) : Int)) = [(w, f)] := by
      unfold exR
      simp
    rw [e]
    show withRun c (ln (w, f)) = _
    have e0 : f + ((0 : Nat) : Int) = f := by omega
    rw [e0]
    unfold withRun
    split
    · next l hl =>
      rw [if_neg]
      · rfl
      · show ¬ cont l (w, f, f) = true
        rw [h l hl]
        exact Bool.false_ne_true
    · rfl
  | k + 1 => by
    have e : f + ((k + 1 : Nat) : Int) = f + (k : Int) + 1 := by omega
    rw [e, exR_snoc w f (f + (k : Int)) (by omega), grow_append, grow_run c w f h k]
    show withRun (c ++ [(w, f, f + (k : Int))]) (ln (w, f + (k : Int) + 1)) = _
    rw [withRun_snoc, if_pos]
    · rfl
    · unfold cont ln
      simp
theorem grow_exR {c : List Y.Run} {r : Y.Run} (hr : r.2.1 ≤ r.2.2) (h : ∀ l, c.getLast? = some l → cont l r = false) : grow c (exR r) = c ++ [r] := by
  obtain ⟨w, f, l⟩ := r
  have hr : f ≤ l := hr
  have e : l = f + ((l - f).toNat : Int) := by omega
  have := grow_run c w f h (l - f).toNat
  rw [← e] at this
  exact this
theorem grow_ex (c : List Y.Run) (h : wf c) (ha : adj c) : grow [] (ex c) = c := by
  suffices H : ∀ n (c : List Y.Run), c.length = n → wf c → adj c → grow [] (ex c) = c from H _ c rfl h ha
  intro n
  induction n with
  | zero => intro c hn _ _; rw [List.length_eq_zero_iff.mp hn]; rfl
  | succ n ih =>
    intro c hn h ha
    rcases List.eq_nil_or_concat c with rfl | ⟨c, m, rfl⟩
    · cases hn
    · rw [List.concat_eq_append] at h ha hn ⊢
      rw [List.length_append] at hn
      obtain ⟨h1, h2⟩ := adj_snoc ha
      have e := ih c (by simpa using hn) (fun x hx => h x (List.mem_append_left _ hx)) h1
      rw [ex_append, grow_append, e, ex_cons, ex_nil, List.append_nil]
      exact grow_exR (h m (by simp)) h2
theorem ex_inj {c : List Y.Run} {ls : List Line} (h : wf c) (ha : adj c) (e : ex c = ls) : c = grow [] ls := by rw [← e, grow_ex c h ha]
theorem okC_adj {lc : Option Cnt} : ∀ {c : List Y.Run}, okC lc c → wf c ∧ adj c
  | [], _ => ⟨wf_nil, trivial⟩
  | r :: c, ⟨h1, h2⟩ => by
    have ih := okC_adj (lc := lc) (c := c) ⟨fun x hx => h1 x (List.mem_cons_of_mem _ hx), fun i a b ha hb => h2 (i + 1) a b ha hb⟩
    refine ⟨fun x hx => (h1 x hx).2.2.1, fun b hb => h2 0 r b rfl ?_, ih.2⟩
    rw [List.head?_eq_getElem?] at hb
    exact hb
/-! cut -/
theorem tk_0 {r : Y.Run} {n : Int} (h : r.2.1 ≤ r.2.2) (hn : 0 ≤ n) : 0 ≤ tk r n ∧ tk r n ≤ n ∧ tk r n ≤ r.2.2 - r.2.1 + 1 ∧ (tk r n = n ∨ tk r n = r.2.2 - r.2.1 + 1) := by
  unfold tk
  split <;> omega
theorem ex_cutF (r : Y.Run) (t : Int) (h0 : 0 ≤ t) (h1 : t ≤ r.2.2 - r.2.1 + 1) : ex (cutF r t) = (exR r).take t.toNat := by
  unfold cutF
  split
  · next h =>
    rw [ex_cons, ex_nil, List.append_nil]
    exact exR_take r t h h1
  · have e : t = 0 := by omega
    rw [e]
    rfl
theorem ex_cutB (r : Y.Run) (t : Int) (h0 : 0 ≤ t) : ex (cutB r t) = (exR r).drop t.toNat := by
  unfold cutB
  split
  · rw [ex_cons, ex_nil, List.append_nil]
    exact exR_drop r t h0
  · rw [List.drop_of_length_le (by rw [exR_len]; omega)]
    rfl
theorem cut_ex : ∀ {c : List Y.Run} {n : Int}, wf c → 0 ≤ n → ex (cutC c n).1 = (ex c).take n.toNat ∧ ex (cutC c n).2 = (ex c).drop n.toNat
  | [], n, _, _ => by
    show [] = ([] : List Line).take _ ∧ [] = ([] : List Line).drop _
    rw [List.take_nil, List.drop_nil]
    exact ⟨rfl, rfl⟩
  | r :: c, n, h, hn => by
    have hr := h r List.mem_cons_self
    obtain ⟨t0, t1, t2, t3⟩ := tk_0 hr hn
    obtain ⟨i1, i2⟩ := cut_ex (c := c) (n := n - tk r n) (fun x hx => h x (List.mem_cons_of_mem _ hx)) (by omega)
    show ex (cutF r (tk r n) ++ (cutC c (n - tk r n)).1) = _ ∧ ex (cutB r (tk r n) ++ (cutC c (n - tk r n)).2) = _
    rw [ex_append, ex_append, ex_cons, i1, i2, ex_cutF r _ t0 t2, ex_cutB r _ t0, List.take_append, List.drop_append, exR_len]
    have hl := exR_len r
    rcases t3 with e | e
    · rw [e, show (n - n).toNat = 0 by omega, show n.toNat - (r.2.2 - r.2.1 + 1).toNat = 0 by omega]
      exact ⟨rfl, rfl⟩
    · rw [e, List.take_of_length_le (l := exR r) (by omega), List.take_of_length_le (l := exR r) (by omega), List.drop_of_length_le (l := exR r) (by omega), List.drop_of_length_le (l := exR r) (by omega), show (n - (r.2.2 - r.2.1 + 1)).toNat = n.toNat - (r.2.2 - r.2.1 + 1).toNat by omega]
      exact ⟨rfl, rfl⟩
theorem cut_zero : ∀ {c : List Y.Run}, wf c → cutC c 0 = ([], c)
  | [], _ => rfl
  | r :: c, h => by
    have hr := h r List.mem_cons_self
    have e : tk r 0 = 0 := by unfold tk; split <;> omega
    show (cutF r (tk r 0) ++ (cutC c (0 - tk r 0)).1, cutB r (tk r 0) ++ (cutC c (0 - tk r 0)).2) = _
    rw [e, show (0 : Int) - 0 = 0 by decide, cut_zero fun x hx => h x (List.mem_cons_of_mem _ hx)]
    unfold cutF cutB
    rw [if_neg (by decide), if_pos (by omega)]
    show ([], (r.1, r.2.1 + 0, r.2.2) :: c) = _
    rw [Int.add_zero]
theorem cut_wf : ∀ {c : List Y.Run} {n : Int}, wf c → 0 ≤ n → wf (cutC c n).1 ∧ wf (cutC c n).2
  | [], _, _, _ => ⟨wf_nil, wf_nil⟩
  | r :: c, n, h, hn => by
    obtain ⟨t0, t1, t2, t3⟩ := tk_0 (h r List.mem_cons_self) hn
    obtain ⟨i1, i2⟩ := cut_wf (c := c) (n := n - tk r n) (fun x hx => h x (List.mem_cons_of_mem _ hx)) (by omega)
    constructor
    · intro x hx
      rcases List.mem_append.mp hx with z | z
      · unfold cutF at z
        split at z
        · rw [List.mem_singleton.mp z]
          show r.2.1 ≤ r.2.1 + tk r n - 1
          omega
        · cases z
      · exact i1 x z
    · intro x hx
      rcases List.mem_append.mp hx with z | z
      · unfold cutB at z
        split at z
        · rw [List.mem_singleton.mp z]
          assumption
        · cases z
      · exact i2 x z
theorem cut_adj : ∀ {c : List Y.Run} {n : Int}, wf c → adj c → 0 ≤ n → adj (cutC c n).1 ∧ adj (cutC c n).2 ∧ ∀ b, (cutC c n).1.head? = some b → ∃ b', c.head? = some b' ∧ b.1 = b'.1 ∧ b.2.1 = b'.2.1
  | [], _, _, _, _ => ⟨trivial, trivial, fun b h => (nomatch h)⟩
  | r :: c, n, h, ⟨ha, hc⟩, hn => by
    have hr := h r List.mem_cons_self
    have hw : wf c := fun x hx => h x (List.mem_cons_of_mem _ hx)
    obtain ⟨t0, t1, t2, t3⟩ := tk_0 hr hn
    obtain ⟨i1, i2, i3⟩ := cut_adj (c := c) (n := n - tk r n) hw hc (by omega)
    show adj (cutF r (tk r n) ++ (cutC c (n - tk r n)).1) ∧ adj (cutB r (tk r n) ++ (cutC c (n - tk r n)).2) ∧ ∀ b, (cutF r (tk r n) ++ (cutC c (n - tk r n)).1).head? = some b → _
    by_cases e : tk r n = r.2.2 - r.2.1 + 1
    · have e1 : cutF r (tk r n) = [r] := by
        unfold cutF
        rw [if_pos (by omega), show r.2.1 + tk r n - 1 = r.2.2 by omega]
      have e2 : cutB r (tk r n) = [] := by
        unfold cutB
        rw [if_neg (by omega)]
      rw [e1, e2]
      refine ⟨⟨fun b hb => ?_, i1⟩, i2, fun b hb => ⟨r, rfl, ?_⟩⟩
      · obtain ⟨b', h1, h2, h3⟩ := i3 b hb
        have := ha b' h1
        unfold cont at this ⊢
        rw [h2, h3]
        exact this
      · cases hb
        exact ⟨rfl, rfl⟩
    · have e3 : n - tk r n = 0 := by omega
      rw [e3, cut_zero hw]
      have hlt : r.2.1 + tk r n ≤ r.2.2 := by omega
      have e2 : cutB r (tk r n) = [(r.1, r.2.1 + tk r n, r.2.2)] := by
        unfold cutB
        rw [if_pos hlt]
      rw [e2]
      refine ⟨?_, ⟨fun b hb => ha b hb, hc⟩, fun b hb => ?_⟩
      · show adj (cutF r (tk r n) ++ [])
        rw [List.append_nil]
        unfold cutF
        split
        · exact ⟨fun b z => (nomatch z), trivial⟩
        · trivial
      · rw [show (cutF r (tk r n) ++ ([] : List Y.Run)) = cutF r (tk r n) from List.append_nil _] at hb
        unfold cutF at hb
        split at hb
        · cases hb
          exact ⟨r, rfl, rfl, rfl⟩
        · cases hb
theorem adj_grow (ls : List Line) : adj (grow [] ls) := by
  have H : ∀ (ls : List Line) (c : List Y.Run), wf c → adj c → adj (grow c ls) := by
    intro ls
    induction ls with
    | nil => exact fun c _ h => h
    | cons l r ih =>
      intro c hw h
      refine ih _ (wf_with hw) ?_
      rcases List.eq_nil_or_concat c with rfl | ⟨c, m, rfl⟩
      · exact ⟨fun b z => (nomatch z), trivial⟩
      · rw [List.concat_eq_append] at h ⊢
        show adj (withRun (c ++ [m]) (ln l))
        rw [withRun_snoc]
        have snoc : ∀ (c : List Y.Run) (x : Y.Run), adj c → (∀ l, c.getLast? = some l → cont l x = false) → adj (c ++ [x]) := by
          intro c
          induction c with
          | nil => exact fun x _ _ => ⟨fun b z => (nomatch z), trivial⟩
          | cons a c ihc =>
            intro x h1 h2
            cases c with
            | nil =>
              refine ⟨fun b hb => ?_, ⟨fun b z => (nomatch z), trivial⟩⟩
              cases hb
              exact h2 a rfl
            | cons a2 c => exact ⟨fun b hb => h1.1 b hb, ihc x h1.2 fun l hl => h2 l (by rw [List.getLast?_cons_cons]; exact hl)⟩
        obtain ⟨h1, h2⟩ := adj_snoc h
        split
        · next hc =>
          refine snoc c _ h1 fun l' hl => ?_
          have := h2 l' hl
          unfold cont ln at hc
          unfold cont at this ⊢
          simp only [Bool.and_eq_true, decide_eq_true_eq] at hc
          simp only [Bool.and_eq_false_iff, decide_eq_false_iff_not] at this ⊢
          show ¬ l.1 = l'.1 ∨ _
          rw [hc.1]
          exact this
        · next hc =>
          refine snoc _ _ h fun l hl => ?_
          rw [List.getLast?_concat] at hl
          cases hl
          exact Bool.eq_false_iff.mpr hc
  exact H ls [] wf_nil trivial
theorem cut_grow (ls : List Line) (n : Nat) : cutC (grow [] ls) (n : Int) = (grow [] (ls.take n), grow [] (ls.drop n)) := by
  have hw := wf_grow (c := []) (ls := ls) wf_nil
  obtain ⟨e1, e2⟩ := cut_ex (n := (n : Int)) hw (by omega)
  obtain ⟨w1, w2⟩ := cut_wf (n := (n : Int)) hw (by omega)
  obtain ⟨a1, a2, _⟩ := cut_adj (n := (n : Int)) hw (adj_grow ls) (by omega)
  rw [ex_grow0, Int.toNat_natCast] at e1 e2
  exact Prod.ext (ex_inj w1 a1 e1) (ex_inj w2 a2 e2)
theorem head_grow (ls : List Line) (n : Nat) (h : n < ls.length) : ∃ r, (cutC (grow [] ls) (n : Int)).2.head? = some r ∧ (r.1, r.2.1) = ls[n] := by
  rw [cut_grow]
  show ∃ r, (grow [] (ls.drop n)).head? = some r ∧ _
  have e := ex_grow0 (ls.drop n)
  have hw := wf_grow (c := []) (ls := ls.drop n) wf_nil
  cases hg : grow [] (ls.drop n) with
  | nil =>
    rw [hg, ex_nil] at e
    have := congrArg List.length e
    rw [List.length_drop] at this
    simp at this
    omega
  | cons r c =>
    rw [hg] at e hw
    have hr := hw r List.mem_cons_self
    refine ⟨r, rfl, ?_⟩
    rw [ex_cons] at e
    have e2 := congrArg (fun l : List Line => l[0]?) e
    have h3 : (exR r ++ ex c)[0]? = some (r.1, r.2.1) := by
      rw [List.getElem?_append_left (by rw [exR_len]; omega), exR_get, if_pos (by omega)]
      simp
    have h4 : (ls.drop n)[0]? = some ls[n] := by
      rw [List.getElem?_drop, Nat.add_zero, List.getElem?_eq_getElem h]
    rw [show (exR r ++ ex c)[0]? = (ls.drop n)[0]? from e2] at h3
    exact Option.some.inj (h3.symm.trans h4)

end Pg

namespace Pg
open PySem L2 Y PyProof.Rows

local macro_rules | `(tactic| walk_at "vis") => `(tactic| first | exact Or.inl rfl | exact Or.inr (Or.inl rfl) | exact Or.inr (Or.inr rfl))
local macro_rules | `(tactic| walk_at "e1") => `(tactic| first | walk_at "nm" | refine de_int ?_ | refine de_add ?_ | refine de_sub ?_ | refine de_str ?_ | refine de_non ?_ | refine de_bl ?_)
local macro_rules | `(tactic| walk_at "go") => `(tactic| repeat (first | ((with_reducible show DE _ _ _ _ _ _); walk_at "e1") | ((with_reducible show DA _ _ _ _ _ _); refine da_cons ?_) | refine ⟨_, _, rfl, rfl, ?_⟩))

theorem adj_idx : ∀ {c : List Y.Run}, adj c → ∀ (i : Nat) (a b : Y.Run), c[i]? = some a → c[i + 1]? = some b → cont a b = false
  | [], _, i, a, b, h, _ => by simp at h
  | r :: c, ⟨h1, _⟩, 0, a, b, ha, hb => by
    cases ha
    exact h1 b (by rw [List.head?_eq_getElem?]; exact hb)
  | r :: c, ⟨_, h2⟩, i + 1, a, b, ha, hb => adj_idx h2 i a b ha hb
/-- a content as data, a list or a tuple -/
def txt (tup : Bool) (c : List Y.Run) : PyData := if tup = true then .tuple (c.map eRun) else .list (c.map eRun)
theorem LT_txt (M : Cs) (tup : Bool) (c : List Y.Run) : LT M (.d (txt tup c)) (c.map sRun) := by
  cases tup
  · have := LT.list M (c.map eRun)
    rw [List.map_map] at this
    exact this
  · have := LT.tup M (c.map eRun)
    rw [List.map_map] at this
    exact this
theorem fit_of {c : List Y.Run} (h : okC none c) : ∀ r ∈ c, fitR r := fun r hr => by
  obtain ⟨o1, o2, o3, o4⟩ := h.1 r hr
  have o4 : r.2.2 ≤ 10 ^ 30 := o4
  exact ⟨o1, by omega, by omega⟩
theorem k_tupleD {X : Cx} {L : Lk} {M : Cs} {Q : Sl → Cs → Prop} {s : Sl} {ds : List PyData} (hT : isTup s = false) (h : seqOf M s = some (ds.map .d)) (q : Q (.d (.tuple ds)) M) : RCk X.K L (fun xs H Q => ∃ p ys, xs = [.ref p] ∧ ((SqL X.K H p ys ∧ ∀ l, H l = none → Q (.ref l) (upd H l (.tup ys))) ∨ (SqT X.K H p ys ∧ Q (.ref p) H))) [s] M Q := fun G H vs Q' g a k => by
  obtain ⟨v, rfl, a1⟩ := sl1 a
  obtain ⟨p, xs, rfl, r, l⟩ := seq_at g a1 h
  rw [hT, if_neg Bool.false_ne_true] at r
  refine ⟨p, xs, rfl, .inl ⟨r, fun c hc => ?_⟩⟩
  have f := g.free hc
  exact k _ _ _ _ _ q (Ex.new f.1) (g.newD hc) (.d (.tup upd_same (AtL.mono (Ex.new f.1) l.at)))
theorem okC_none {rows : Cnt} {c : List Y.Run} (hr : okCnt rows) (h : okC (some rows) c) : okC none c := ⟨fun r hx => by
  obtain ⟨o1, o2, o3, o4⟩ := h.1 r hx
  refine ⟨o1, o2, o3, ?_⟩
  show r.2.2 ≤ 10 ^ 30
  have o4 : r.2.2 ≤ (getC rows r.1).getD 0 := o4
  cases e : getC rows r.1 with
  | none => rw [e] at o4; have o4 : r.2.2 ≤ 0 := o4; omega
  | some v =>
    rw [e] at o4
    have o4 : r.2.2 ≤ v := o4
    obtain ⟨p, hp, _, rfl⟩ := getC_some e
    have := (hr.2.2.2 p hp).2.2
    omega, h.2⟩
theorem nL_bound : ∀ {c : List Y.Run}, (∀ r ∈ c, okRun none r) → nLines c ≤ 10 ^ 30 * (c.length : Int)
  | [], _ => by decide
  | r :: c, h => by
    obtain ⟨_, o2, _, o4⟩ := h r List.mem_cons_self
    have o4 : r.2.2 ≤ 10 ^ 30 := o4
    have ih := nL_bound (c := c) fun x hx => h x (List.mem_cons_of_mem _ hx)
    rw [nL_cons, List.length_cons]
    omega
theorem run_in {rows : Cnt} {c : List Y.Run} (h : okC (some rows) c) : ∀ r ∈ c, ∃ p ∈ rows, p.1 = r.1 := fun r hr => by
  obtain ⟨_, o2, o3, o4⟩ := h.1 r hr
  obtain ⟨v, hv, _⟩ := okLine_get (rows := rows) (l := (r.1, r.2.1)) ⟨(h.1 r hr).1, o2, by have o4 : r.2.2 ≤ (getC rows r.1).getD 0 := o4; show r.2.1 ≤ (getC rows r.1).getD 0; omega⟩
  obtain ⟨p, hp, e, _⟩ := getC_some hv
  exact ⟨p, hp, e⟩

end Pg

namespace Pg
open PySem L2 Y PyProof.Rows

local macro_rules | `(tactic| walk_at "vis") => `(tactic| first | exact Or.inl rfl | exact Or.inr (Or.inl rfl) | exact Or.inr (Or.inr rfl))
local macro_rules | `(tactic| walk_at "e1") => `(tactic| first | walk_at "nm" | refine de_int ?_ | refine de_add ?_ | refine de_sub ?_ | refine de_str ?_ | refine de_non ?_ | refine de_bl ?_)
local macro_rules | `(tactic| walk_at "go") => `(tactic| repeat (first | ((with_reducible show DE _ _ _ _ _ _); walk_at "e1") | ((with_reducible show DA _ _ _ _ _ _); refine da_cons ?_) | refine ⟨_, _, rfl, rfl, ?_⟩))


/-- a content read backwards -/
def revR (cs : Cnt) (r : Y.Run) : Y.Run := (r.1, (getC cs r.1).getD 0 + 1 - r.2.2, (getC cs r.1).getD 0 + 1 - r.2.1)
def revC (cs : Cnt) (c : List Y.Run) : List Y.Run := c.reverse.map (revR cs)
theorem getC_perm {cs cs' : Cnt} (h : cs'.Perm cs) (hn : (cs.map (·.1)).Nodup) (z : Str) : getC cs' z = getC cs z := by
  have hn' : (cs'.map (·.1)).Nodup := (h.map _).nodup_iff.mpr hn
  cases e : getC cs z with
  | some v =>
    obtain ⟨p, hp, rfl, rfl⟩ := getC_some e
    exact getC_mem hn' (h.mem_iff.mpr hp)
  | none =>
    cases e' : getC cs' z with
    | none => rfl
    | some v =>
      obtain ⟨p, hp, rfl, rfl⟩ := getC_some e'
      rw [getC_mem hn (h.mem_iff.mp hp)] at e
      cases e
theorem okRun_get {cs : Cnt} {r : Y.Run} (h : okRun (some cs) r) : ∃ v, getC cs r.1 = some v ∧ r.2.2 ≤ v := by
  obtain ⟨_, h1, h2, h3⟩ := h
  cases e : getC cs r.1 with
  | some v =>
    refine ⟨v, rfl, ?_⟩
    have h3 : r.2.2 ≤ (getC cs r.1).getD 0 := h3
    rw [e] at h3
    exact h3
  | none =>
    have h3 : r.2.2 ≤ (getC cs r.1).getD 0 := h3
    rw [e] at h3
    have h3 : r.2.2 ≤ 0 := h3
    omega
section
variable {P : Program} {w : World} {K : PySem.W.Frag} {mg : Str → Option Value} {base : Heap}

end

end Pg

namespace Pg
open PySem L2 Y PyProof.Rows

local macro_rules | `(tactic| walk_at "vis") => `(tactic| first | exact Or.inl rfl | exact Or.inr (Or.inl rfl) | exact Or.inr (Or.inr rfl))
local macro_rules | `(tactic| walk_at "e1") => `(tactic| first | walk_at "nm" | refine de_int ?_ | refine de_add ?_ | refine de_sub ?_ | refine de_str ?_ | refine de_non ?_ | refine de_bl ?_)
local macro_rules | `(tactic| walk_at "go") => `(tactic| repeat (first | ((with_reducible show DE _ _ _ _ _ _); walk_at "e1") | ((with_reducible show DA _ _ _ _ _ _); refine da_cons ?_) | refine ⟨_, _, rfl, rfl, ?_⟩))


/-- the last number of each writer so far -/
def latC (m : Cnt) (c : List Y.Run) : Cnt := c.foldl (fun m r => putC m r.1 r.2.2) m
theorem latC_snoc (m : Cnt) (c : List Y.Run) (r : Y.Run) : latC m (c ++ [r]) = putC (latC m c) r.1 r.2.2 := by unfold latC; rw [List.foldl_append]; rfl
theorem latC_take (m : Cnt) {c : List Y.Run} {i : Nat} (h : i < c.length) : latC m (c.take (i + 1)) = putC (latC m (c.take i)) c[i].1 c[i].2.2 := by
  rw [List.take_add_one, List.getElem?_eq_getElem h]
  exact latC_snoc _ _ _
theorem latC_len (m : Cnt) : ∀ c : List Y.Run, (latC m c).length ≤ m.length + c.length
  | [] => Nat.le_refl _
  | r :: c => by
    have := latC_len (putC m r.1 r.2.2) c
    have := putC_len m r.1 r.2.2
    rw [List.length_cons]
    show (latC (putC m r.1 r.2.2) c).length ≤ _
    omega
/-- the last number of a writer in a content, or 0 -/
def lastN (c : List Y.Run) (z : Str) : Int := (getC (latC [] c) z).getD 0
theorem lastN_nil (z : Str) : lastN [] z = 0 := rfl
theorem lastN_snoc (c : List Y.Run) (r : Y.Run) (z : Str) : lastN (c ++ [r]) z = if z = r.1 then r.2.2 else lastN c z := by
  unfold lastN
  rw [latC_snoc, getC_put]
  split <;> rfl
def badAt (c : List Y.Run) (i : Nat) (r : Y.Run) : Option PyData :=
  if r.2.1 ≤ lastN (c.take i) r.1 then some (.tuple [.str "decreasing", .int (i : Int)])
  else if 0 < i ∧ (c[i - 1]?.map (·.1)) = some r.1 then some (.tuple [.str "split", .int (i : Int)]) else none
def badI (c : List Y.Run) (i : Nat) : Option PyData := c[i]?.bind (badAt c i)
def startBad (c : List Y.Run) : Bool := match c with
  | [] => false
  | r :: _ => !decide (r.2.1 = 1)
/-- the first reason why a content cannot appear, or None -/
def obsA (c : List Y.Run) : PyData := if startBad c = true then .tuple [.str "start"] else ((List.range c.length).findSome? (badI c)).getD .none
/-- a content that can appear -/
def App (c : List Y.Run) : Prop := startBad c = false ∧ ∀ i < c.length, badI c i = none
theorem badAt_some {c : List Y.Run} {i : Nat} {r : Y.Run} {d : PyData} (h : badAt c i r = some d) : isNone (.d d) = false := by
  unfold badAt at h
  split at h
  · cases h; rfl
  · split at h
    · cases h; rfl
    · cases h
theorem badI_some {c : List Y.Run} {i : Nat} {d : PyData} (h : badI c i = some d) : isNone (.d d) = false := by
  unfold badI at h
  obtain ⟨r, _, hr⟩ := Option.bind_eq_some_iff.mp h
  exact badAt_some hr
theorem obsA_app {c : List Y.Run} (h : App c) : obsA c = .none := by
  unfold obsA
  rw [h.1, if_neg Bool.false_ne_true]
  have : (List.range c.length).findSome? (badI c) = none := List.findSome?_eq_none_iff.mpr fun i hi => h.2 i (List.mem_range.mp hi)
  rw [this]
  rfl
theorem obsA_none {c : List Y.Run} (h : isNone (.d (obsA c)) = true) : App c := by
  unfold obsA at h
  by_cases hs : startBad c = true
  · rw [if_pos hs] at h
    cases h
  · rw [if_neg hs] at h
    refine ⟨by simpa using hs, fun i hi => ?_⟩
    cases e : (List.range c.length).findSome? (badI c) with
    | none => exact List.findSome?_eq_none_iff.mp e i (List.mem_range.mpr hi)
    | some d =>
      rw [e] at h
      obtain ⟨j, _, hj⟩ := List.exists_of_findSome?_eq_some e
      have := badI_some hj
      rw [show (some d).getD PyData.none = d from rfl, this] at h
      cases h
theorem obsA_at {c : List Y.Run} {i : Nat} {d : PyData} (hs : startBad c = false) (hi : i < c.length) (hb : ∀ j < i, badI c j = none) (h : badI c i = some d) : obsA c = d := by
  unfold obsA
  rw [hs, if_neg Bool.false_ne_true]
  have e : (List.range c.length).findSome? (badI c) = some d := by
    rw [List.findSome?_eq_some_iff]
    refine ⟨List.range i, i, (List.range (c.length - (i + 1))).map (fun k => i + 1 + k), ?_, h, fun j hj => hb j (List.mem_range.mp hj)⟩
    have e1 : c.length = (i + 1) + (c.length - (i + 1)) := by omega
    rw [show List.range c.length = List.range ((i + 1) + (c.length - (i + 1))) from by rw [← e1], List.range_add, List.range_succ, List.append_assoc]
    rfl
  rw [e]
  rfl
instance (c : List Y.Run) : Decidable (App c) := inferInstanceAs (Decidable (_ ∧ _))
section
variable {P : Program} {w : World} {K : PySem.W.Frag} {mg : Str → Option Value} {base : Heap}

local macro_rules | `(tactic| walk_at "nm") => `(tactic| first | ((with_reducible refine de_name (x := "runs") (i := 0) (s := ?s) ?hN ?hv ?ht ?q ?hd ?hcd); (case hN => rfl); (case hv => walk_at "vis"); (case ht => rfl); (case hd => decide); (case hcd => decide)) | ((with_reducible refine de_name (x := "latest") (i := 1) (s := ?s) ?hN ?hv ?ht ?q ?hd ?hcd); (case hN => rfl); (case hv => walk_at "vis"); (case ht => rfl); (case hd => decide); (case hcd => decide)) | ((with_reducible refine de_name (x := "index") (i := 2) (s := ?s) ?hN ?hv ?ht ?q ?hd ?hcd); (case hN => rfl); (case hv => walk_at "vis"); (case ht => rfl); (case hd => decide); (case hcd => decide)) | ((with_reducible refine de_name (x := "writer") (i := 3) (s := ?s) ?hN ?hv ?ht ?q ?hd ?hcd); (case hN => rfl); (case hv => walk_at "vis"); (case ht => rfl); (case hd => decide); (case hcd => decide)) | ((with_reducible refine de_name (x := "first") (i := 4) (s := ?s) ?hN ?hv ?ht ?q ?hd ?hcd); (case hN => rfl); (case hv => walk_at "vis"); (case ht => rfl); (case hd => decide); (case hcd => decide)) | ((with_reducible refine de_name (x := "last") (i := 5) (s := ?s) ?hN ?hv ?ht ?q ?hd ?hcd); (case hN => rfl); (case hv => walk_at "vis"); (case ht => rfl); (case hd => decide); (case hcd => decide)))


def R_appearing : Rr := fun _ ss M Q => ∃ s c, ss = [s] ∧ isTup s = false ∧ seqOf M s = some (c.map sRun) ∧ c.length < 1000000 ∧ Q (.d (obsA c)) M
theorem ok_appearing_obstruction (F : FunAt K mg "appearing_obstruction" s_appearing_obstruction ["runs"]) (b1 : mg "enumerate" = none) : Cal P w K mg base "appearing_obstruction" 1 ["runs"] R_appearing := by
  refine cal_of F sc_appearing_obstruction (fun _ ss _ _ ⟨s, c, h, _⟩ => by rw [h]; rfl) (fun f cdv A outer s H E L ss M Q hr h => ?_)
  obtain ⟨x, c, rfl, hT, hs, hl, q⟩ := h
  have tru : truOf M x = some (!c.isEmpty) := by
    have e : truOf M x = (seqOf M x).map fun ss => !ss.isEmpty := by
      cases x with
      | d y => cases y <;> first | rfl | (cases hs; done)
      | _ => rfl
    rw [e, hs]
    show some (!(c.map sRun).isEmpty) = _
    cases c <;> rfl
  refine db_cons (ds_ifB (startBad c) (dt_and2 (dt_tru ?_)) (fun h1 => db_cons (ds_ret (de_tupD (da_cons (de_str (da_nil ⟨[.str "start"], rfl, (by show 1 ≤ sizeLine; decide), ?_⟩)))))) fun h1 => db_nil ?_)
  · walk_at "nm"
    refine ⟨_, tru, fun hk => ?_, fun hk => ?_⟩
    · cases c with
      | nil => cases hk
      | cons r c =>
        refine dt_cmp op_ne (de_ix (de_ix ?_)) (by with_unfolding_all rfl)
        walk_at "nm"
        refine de_int ⟨_, ((0 : Nat) : Int), sRun r, hs, rfl, atI_nat rfl, de_int ⟨_, _, dI r.2.1, rfl, rfl, rfl, de_int (k_neI ⟨_, rfl, rfl, rfl⟩)⟩⟩
    · cases c with
      | nil => exact ⟨rfl, rfl⟩
      | cons r c => cases hk
  · have : obsA c = .tuple [.str "start"] := by unfold obsA; rw [h1, if_pos rfl]
    rw [← this]
    exact q
  refine db_cons (ds_set (i := 1) sc_appearing_obstruction.nd rfl (.inl rfl) (de_dictC fun p hp => ?_))
  refine db_cons (ds_for PassesOwn.never rfl (di_enum (by rfl) b1 ?_))
  walk_at "nm"
  refine ⟨c.map sRun, hT, seqOf_updC hs hp, ?_⟩
  refine ⟨fun i τ' M' => ∃ y2 y3 y4 y5, τ' = [some x, some (.c p), y2, y3, y4, y5] ∧ M' = updC M p (.k (slK (kdC (latC [] (c.take i))))) ∧ ∀ j < i, badI c j = none, ⟨none, none, none, none, rfl, rfl, fun j hj => absurd hj (Nat.not_lt_zero j)⟩, ?_, ?_, ?_⟩
  · rintro i τ' M' ⟨y2, y3, y4, y5, rfl, rfl, _⟩
    exact seqOf_updC hs hp
  · rintro i y τ' M' hi ⟨z, hz, rfl⟩ ⟨y2, y3, y4, y5, rfl, rfl, hb⟩
    rw [List.length_map] at hi
    have hz' : z = sRun c[i] := by
      rw [List.getElem?_map, List.getElem?_eq_getElem hi] at hz
      exact (Option.some.inj hz).symm
    subst hz'
    have hbi : badI c i = badAt c i c[i] := by unfold badI; rw [List.getElem?_eq_getElem hi]; rfl
    have hlat : ((valS (slK (kdC (latC [] (c.take i)))) (.inr c[i].1)).getD (.d (.int 0))) = dI (lastN (c.take i) c[i].1) := by
      rw [valS_C]
      unfold lastN
      cases getC (latC [] (c.take i)) c[i].1 <;> rfl
    refine dg_of (pg_tup rfl (pgs_cons (pg_name (i := 2) sc_appearing_obstruction.nd rfl (.inl rfl)) (pgs_cons (pg_tup rfl (pgs_cons (pg_name (i := 3) sc_appearing_obstruction.nd rfl (.inl rfl)) (pgs_cons (pg_name (i := 4) sc_appearing_obstruction.nd rfl (.inl rfl)) (pgs_cons (pg_name (i := 5) sc_appearing_obstruction.nd rfl (.inl rfl)) pgs_nil)))) pgs_nil)))
      (wg_tup rfl rfl rfl (wgs_cons (wg_name (wgs_cons (wg_tup rfl rfl rfl (wgs_cons (wg_name (wgs_cons (wg_name (wgs_cons (wg_name (wgs_nil (wgs_nil ?_)))))))))))))
    refine db_cons (ds_if (dt_cmp op_le ?_ (by with_unfolding_all rfl)))
    walk_at "nm"
    refine de_dget2 (hu_of hr) ?_
    walk_at "nm"
    refine ⟨⟨_, .c updC_same⟩, ?_⟩
    walk_at "nm"
    refine de_int ⟨_, .inr c[i].1, .c updC_same, rfl, ?_⟩
    rw [hlat]
    refine k_bool ⟨_, rfl, fun h2 => ?_, fun h2 => db_nil ?_⟩
    · have h2 := of_decide_eq_true h2
      have hd : badI c i = some (.tuple [.str "decreasing", .int (i : Int)]) := by rw [hbi]; unfold badAt; rw [if_pos h2]
      refine db_cons (ds_ret (de_gc (de_tupD (da_cons (de_str (da_cons ?_))))))
      walk_at "nm"
      refine da_nil ⟨[.str "decreasing", .int (i : Int)], rfl, (by show 2 ≤ sizeLine; decide), M, (Sub.refl M).new hp, ?_⟩
      rw [← obsA_at h1 hi hb hd]
      exact q
    have h2 := of_decide_eq_false h2
    have prev : ∀ h : 0 < i, ∃ r', c[i - 1]? = some r' := fun h => ⟨c[i - 1], List.getElem?_eq_getElem (by omega)⟩
    refine db_cons (ds_if (dt_and2 (dt_cmp op_gt ?_ (by with_unfolding_all rfl))))
    walk_at "nm"
    refine de_int (k_bool ⟨_, rfl, fun h3 => dt_cmp op_eq (de_ix (de_ix ?_)) (by with_unfolding_all rfl), fun h3 => ⟨no1, fun _ => db_nil ?_⟩⟩)
    · have h3 : 0 < i := by have := of_decide_eq_true h3; omega
      obtain ⟨r', hr'⟩ := prev h3
      walk_at "nm"
      refine de_sub ?_
      walk_at "go"
      refine ⟨c.map sRun, ((i - 1 : Nat) : Int), sRun r', seqOf_updC hs hp, (by rw [show ((i : Nat) : Int) - 1 = ((i - 1 : Nat) : Int) by omega]), atI_nat (by rw [List.getElem?_map, hr']; rfl), de_int ⟨_, _, dS r'.1, rfl, rfl, rfl, ?_⟩⟩
      walk_at "nm"
      refine k_eqS ⟨_, rfl, fun h4 => ?_, fun h4 => db_nil ?_⟩
      · have h4 := of_decide_eq_true h4
        have hd : badI c i = some (.tuple [.str "split", .int (i : Int)]) := by
          rw [hbi]
          unfold badAt
          rw [if_neg h2, if_pos ⟨h3, by rw [hr', ← h4]; rfl⟩]
        refine db_cons (ds_ret (de_gc (de_tupD (da_cons (de_str (da_cons ?_))))))
        walk_at "nm"
        refine da_nil ⟨[.str "split", .int (i : Int)], rfl, (by show 2 ≤ sizeLine; decide), M, (Sub.refl M).new hp, ?_⟩
        rw [← obsA_at h1 hi hb hd]
        exact q
      have h4 := of_decide_eq_false h4
      have hn : badI c i = none := by
        rw [hbi]
        unfold badAt
        rw [if_neg h2, if_neg]
        rintro ⟨_, z⟩
        rw [hr'] at z
        exact h4 (Option.some.inj z)
      refine db_cons (ds_dput (hu_of hr) ?_)
      walk_at "nm"
      walk_at "nm"
      walk_at "nm"
      refine ⟨p, _, .inr c[i].1, rfl, updC_same, rfl, ?_, db_nil ⟨_, _, _, _, rfl, ?_, fun j hj => ?_⟩⟩
      · have := latC_len [] (c.take i)
        rw [List.length_take, List.length_nil] at this
        unfold slK kdC
        rw [List.length_map, List.length_map, sizeLine_eq]
        omega
      · rw [show (Sl.d (PyData.int c[i].2.2)) = dI c[i].2.2 from rfl, putS_put, updC_updC, latC_take [] hi]
      · rcases Nat.lt_succ_iff_lt_or_eq.mp hj with z | z
        · exact hb j z
        · rw [z]; exact hn
    · have h3 : ¬ 0 < i := by have := of_decide_eq_false h3; omega
      have hn : badI c i = none := by
        rw [hbi]
        unfold badAt
        rw [if_neg h2, if_neg (fun z => h3 z.1)]
      refine db_cons (ds_dput (hu_of hr) ?_)
      walk_at "nm"
      walk_at "nm"
      walk_at "nm"
      refine ⟨p, _, .inr c[i].1, rfl, updC_same, rfl, ?_, db_nil ⟨_, _, _, _, rfl, ?_, fun j hj => ?_⟩⟩
      · have := latC_len [] (c.take i)
        rw [List.length_take, List.length_nil] at this
        unfold slK kdC
        rw [List.length_map, List.length_map, sizeLine_eq]
        omega
      · rw [show (Sl.d (PyData.int c[i].2.2)) = dI c[i].2.2 from rfl, putS_put, updC_updC, latC_take [] hi]
      · rcases Nat.lt_succ_iff_lt_or_eq.mp hj with z | z
        · exact hb j z
        · rw [z]; exact hn
  · rintro τ' M' ⟨y2, y3, y4, y5, rfl, rfl, hb⟩
    rw [List.length_map] at hb
    have e : obsA c = .none := obsA_app ⟨h1, hb⟩
    refine db_cons (ds_ret (de_gc (de_non ⟨M, (Sub.refl M).new hp, ?_⟩)))
    rw [← e]
    exact q

local macro_rules | `(tactic| walk_at "nm") => `(tactic| first | ((with_reducible refine de_name (x := "line_counts") (i := 0) (s := ?s) ?hN ?hv ?ht ?q ?hd ?hcd); (case hN => rfl); (case hv => walk_at "vis"); (case ht => rfl); (case hd => decide); (case hcd => decide)) | ((with_reducible refine de_name (x := "content") (i := 1) (s := ?s) ?hN ?hv ?ht ?q ?hd ?hcd); (case hN => rfl); (case hv => walk_at "vis"); (case ht => rfl); (case hd => decide); (case hcd => decide)) | ((with_reducible refine de_name (x := "counts") (i := 2) (s := ?s) ?hN ?hv ?ht ?q ?hd ?hcd); (case hN => rfl); (case hv => walk_at "vis"); (case ht => rfl); (case hd => decide); (case hcd => decide)) | ((with_reducible refine de_name (x := "runs") (i := 3) (s := ?s) ?hN ?hv ?ht ?q ?hd ?hcd); (case hN => rfl); (case hv => walk_at "vis"); (case ht => rfl); (case hd => decide); (case hcd => decide)))


def R_can_appear : Rr := fun L ss M Q => ∃ cs s c, NoDK L ∧ ss = [.d (eCnt cs), s] ∧ okCnt cs ∧ LT M s (c.map sRun) ∧ okC (some cs) c ∧ c.length < 1000000 ∧ Q (.d (.bool (isNone (.d (obsA c))))) M
theorem okC_sorted {cs cs' : Cnt} {c : List Y.Run} (okc : okCnt cs) (hs' : Sorted cs cs') (ok : okC (some cs) c) : okC (some cs') c := ⟨fun r hr => by
    obtain ⟨o1, o2, o3, o4⟩ := ok.1 r hr
    exact ⟨o1, o2, o3, by show r.2.2 ≤ (getC cs' r.1).getD 0; rw [getC_perm hs'.1 okc.2.2.1]; exact o4⟩, ok.2⟩
theorem ok_can_appear (F : FunAt K mg "can_appear" s_can_appear ["line_counts", "content"]) (c1 : Cal P w K mg base "checked_line_counts" 4 ["value"] R_plain_line_counts) (c2 : Cal P w K mg base "checked_content" 6 ["line_counts", "value"] R_plain_content) (c3 : Cal P w K mg base "appearing_obstruction" 1 ["runs"] R_appearing) : Cal P w K mg base "can_appear" 7 ["line_counts", "content"] R_can_appear := by
  refine cal_of F sc_can_appear (fun _ ss _ _ ⟨cs, s, c, _, h, _⟩ => by rw [h]; rfl) (fun f cdv A outer s H E L ss M Q hr h => ?_)
  obtain ⟨cs, x, c, hL, rfl, okc, lt, ok, hl, q⟩ := h
  refine db_cons (ds_set (i := 2) sc_can_appear.nd rfl (.inl rfl) (de_callC (c1.up (by decide)) hr (by rfl) ?_))
  walk_at "go"
  refine da_nil ⟨cs, hL, rfl, okc, fun cs' hs' => ?_⟩
  refine db_cons (ds_set (i := 3) sc_can_appear.nd rfl (.inl rfl) (de_callC c2 hr (by rfl) ?_))
  walk_at "go"
  refine da_nil ⟨some cs', x, c, rfl, lt, okC_sorted okc hs' ok, hl, fun p hp => ?_⟩
  refine db_cons (ds_ret (de_gc (de_cmp op_isN (de_callC (c3.up (by decide)) hr (by rfl) ?_) (nomark _))))
  walk_at "go"
  refine da_nil ⟨.c p, c, rfl, rfl, by simp only [seqOf, updC_same], hl, de_non (k_isN ⟨M, (Sub.refl M).new hp, q⟩)⟩

end

end Pg

namespace Pg
open PySem L2 Y PyProof.Rows

local macro_rules | `(tactic| walk_at "vis") => `(tactic| first | exact Or.inl rfl | exact Or.inr (Or.inl rfl) | exact Or.inr (Or.inr rfl))
local macro_rules | `(tactic| walk_at "e1") => `(tactic| first | walk_at "nm" | refine de_int ?_ | refine de_add ?_ | refine de_sub ?_ | refine de_str ?_ | refine de_non ?_ | refine de_bl ?_)
local macro_rules | `(tactic| walk_at "go") => `(tactic| repeat (first | ((with_reducible show DE _ _ _ _ _ _); walk_at "e1") | ((with_reducible show DA _ _ _ _ _ _); refine da_cons ?_) | refine ⟨_, _, rfl, rfl, ?_⟩))


/-- zero for every writer -/
def zeroC (cs : Cnt) : Cnt := cs.map fun p => (p.1, 0)
theorem getC_zero : ∀ (cs : Cnt) (z : Str), getC (zeroC cs) z = (getC cs z).map fun _ => 0
  | [], _ => rfl
  | p :: r, z => by
    have ih := getC_zero r z
    show getC ((p.1, 0) :: zeroC r) z = _
    rw [getC_cons, getC_cons, ih]
    by_cases h : p.1 = z
    · rw [if_pos h, if_pos h]; rfl
    · rw [if_neg h, if_neg h]
theorem getC_lat (z : Str) : ∀ (c : List Y.Run) (m : Cnt), getC (latC m c) z = match getC (latC [] c) z with | some v => some v | none => getC m z := by
  intro c
  induction c with
  | nil => intro m; rfl
  | cons r c ih =>
    intro m
    show getC (latC (putC m r.1 r.2.2) c) z = match getC (latC (putC [] r.1 r.2.2) c) z with | some v => some v | none => getC m z
    rw [ih, ih (putC [] r.1 r.2.2), getC_put, getC_put]
    cases getC (latC [] c) z with
    | some v => rfl
    | none =>
      by_cases h : z = r.1
      · rw [if_pos h, if_pos h]
      · rw [if_neg h, if_neg h]
        rfl
theorem lat_zero {cs : Cnt} {z : Str} {v : Int} (h : getC cs z = some v) (c : List Y.Run) : getC (latC (zeroC cs) c) z = some (lastN c z) := by
  rw [getC_lat, getC_zero, h]
  unfold lastN
  cases getC (latC [] c) z <;> rfl
/-- the lines that may follow -/
def nextOf (cs : Cnt) (c : List Y.Run) (z : Str) : List Y.Run :=
  let f := lastN c z + 1
  let l := (getC cs z).getD 0
  let l' := if c.isEmpty = true ∨ (c.getLast?.map (·.1)) = some z then (if f < l then f else l) else l
  if f ≤ l' then [(z, f, l')] else []
def nextC (cs : Cnt) (zs : List Str) (c : List Y.Run) : List Y.Run := zs.flatMap (nextOf cs c)
section
variable {P : Program} {w : World} {K : PySem.W.Frag} {mg : Str → Option Value} {base : Heap}

local macro_rules | `(tactic| walk_at "nm") => `(tactic| first | ((with_reducible refine de_name (x := "counts") (i := 0) (s := ?s) ?hN ?hv ?ht ?q ?hd ?hcd); (case hN => rfl); (case hv => walk_at "vis"); (case ht => rfl); (case hd => decide); (case hcd => decide)) | ((with_reducible refine de_name (x := "writer") (i := 1) (s := ?s) ?hN ?hv ?ht ?q ?hd ?hcd); (case hN => rfl); (case hv => walk_at "vis"); (case ht => rfl); (case hd => decide); (case hcd => decide)))


def R_noN : Rr := fun L ss M Q => ∃ cs, NoDK L ∧ ss = [.d (eCnt cs)] ∧ cs.length ≤ 12 ∧ (cs.map (·.1)).Nodup ∧ ∀ p, M p = none → Q (.c p) (updC M p (.k (slK (kdC (zeroC cs)))))
theorem ok_no_numbers (F : FunAt K mg "no_numbers" s_no_numbers ["counts"]) : Cal P w K mg base "no_numbers" 1 ["counts"] R_noN := by
  refine cal_of F sc_no_numbers (fun _ ss _ _ ⟨cs, _, h, _⟩ => by rw [h]; rfl) (fun f cdv A outer s H E L ss M Q hr h => ?_)
  obtain ⟨cs, hL, rfl, l12, nd, q⟩ := h
  refine db_cons (ds_ret (de_dcKeys (i := 0) (kd := kdC cs) (own := [("writer", 1)]) (g := gName 1) rfl sc_no_numbers.nd (blkOk_by (own := [("writer", 1)]) (N := ["counts", "writer"]) (sc := defScope s_no_numbers) (by decide +kernel)) (fun _ _ _ _ _ => pg_name (i := 1) sc_no_numbers.nd rfl (.inl rfl)) hL rfl (by walk_at "vis") rfl fun D hD => ?_))
  refine ⟨fun n M' => M' = updC M D (.k (slK (kdC (zeroC (cs.take n))))), rfl, fun x hx n k d M' hn hM => ?_, fun M' hM => ?_⟩
  · subst hM
    unfold kdC at hn
    rw [List.getElem?_map] at hn
    obtain ⟨pz, hpz, epz⟩ := Option.map_eq_some_iff.mp hn
    obtain ⟨hlt, hget⟩ := List.getElem?_eq_some_iff.mp hpz
    cases epz
    refine wgw_name (by simp) ?_
    intro s0 H0 C cl fp
    walk_at "nm"
    intro s0 H0 C cl fp
    refine de_int ⟨_, .inr pz.1, rfl, updC_same, ?_, ?_⟩
    · unfold slK kdC zeroC
      rw [List.length_map, List.length_map, List.length_map, List.length_take, sizeLine_eq]
      omega
    · show updC _ _ _ = updC _ _ _
      rw [updC_updC, show (Sl.d (PyData.int 0)) = dI 0 from rfl, putS_put]
      congr 4
      unfold putC
      rw [if_neg]
      · unfold zeroC
        rw [List.take_add_one, hpz, List.map_append]
        rfl
      · rw [any_getC, getC_zero, Option.isSome_map, ← any_getC]
        intro z
        obtain ⟨y, hy, ey⟩ := List.any_eq_true.mp z
        have ey := of_decide_eq_true ey
        obtain ⟨j, hj, ej⟩ := List.getElem_of_mem hy
        rw [List.getElem_take] at ej
        rw [List.length_take] at hj
        have hjn : j < n := by omega
        have : cs[j].1 = cs[n].1 := by rw [ej, ey, hget]
        have e2 : (cs.map (·.1))[j]'(by rw [List.length_map]; omega) = (cs.map (·.1))[n]'(by rw [List.length_map]; omega) := by rw [List.getElem_map, List.getElem_map, this]
        exact absurd ((List.getElem_inj nd).mp e2) (by omega)
  · subst hM
    have : (kdC cs).length = cs.length := by unfold kdC; rw [List.length_map]
    rw [this, List.take_length]
    exact q D hD

local macro_rules | `(tactic| walk_at "nm") => `(tactic| first | ((with_reducible refine de_name (x := "before") (i := 0) (s := ?s) ?hN ?hv ?ht ?q ?hd ?hcd); (case hN => rfl); (case hv => walk_at "vis"); (case ht => rfl); (case hd => decide); (case hcd => decide)) | ((with_reducible refine de_name (x := "runs") (i := 1) (s := ?s) ?hN ?hv ?ht ?q ?hd ?hcd); (case hN => rfl); (case hv => walk_at "vis"); (case ht => rfl); (case hd => decide); (case hcd => decide)) | ((with_reducible refine de_name (x := "latest") (i := 2) (s := ?s) ?hN ?hv ?ht ?q ?hd ?hcd); (case hN => rfl); (case hv => walk_at "vis"); (case ht => rfl); (case hd => decide); (case hcd => decide)) | ((with_reducible refine de_name (x := "writer") (i := 3) (s := ?s) ?hN ?hv ?ht ?q ?hd ?hcd); (case hN => rfl); (case hv => walk_at "vis"); (case ht => rfl); (case hd => decide); (case hcd => decide)) | ((with_reducible refine de_name (x := "first") (i := 4) (s := ?s) ?hN ?hv ?ht ?q ?hd ?hcd); (case hN => rfl); (case hv => walk_at "vis"); (case ht => rfl); (case hd => decide); (case hcd => decide)) | ((with_reducible refine de_name (x := "last") (i := 5) (s := ?s) ?hN ?hv ?ht ?q ?hd ?hcd); (case hN => rfl); (case hv => walk_at "vis"); (case ht => rfl); (case hd => decide); (case hcd => decide)))


def R_latest : Rr := fun _ ss M Q => ∃ s m x c, ss = [s, x] ∧ DictIs M s (slK (kdC m)) ∧ m.length ≤ 1000 ∧ seqOf M x = some (c.map sRun) ∧ c.length < 1000000 ∧ ∀ p, M p = none → Q (.c p) (updC M p (.k (slK (kdC (latC m c)))))
theorem ok_latest_numbers (F : FunAt K mg "latest_numbers" s_latest_numbers ["before", "runs"]) (b1 : mg "dict" = none) : Cal P w K mg base "latest_numbers" 1 ["before", "runs"] R_latest := by
  refine cal_of F sc_latest_numbers (fun _ ss _ _ ⟨s, m, x, c, h, _⟩ => by rw [h]; rfl) (fun f cdv A outer s H E L ss M Q hr h => ?_)
  obtain ⟨sm, m, x, c, rfl, hd, l12, hs, hl, q⟩ := h
  refine db_cons (ds_set (i := 2) sc_latest_numbers.nd rfl (.inl rfl) (de_callT call_dictD (by rfl) b1 bt_dict (da_cons ?_)))
  walk_at "nm"
  refine da_nil (k_dictD hd fun D hD => ?_)
  refine db_cons (ds_for PassesOwn.never rfl (di_seq ?_))
  walk_at "nm"
  refine ⟨c.map sRun, seqOf_updC hs hD, ?_⟩
  refine ⟨fun i τ' M' => ∃ y3 y4 y5, τ' = [some sm, some x, some (.c D), y3, y4, y5] ∧ M' = updC M D (.k (slK (kdC (latC m (c.take i))))), ⟨none, none, none, rfl, rfl⟩, ?_, ?_, ?_⟩
  · rintro i τ' M' ⟨y3, y4, y5, rfl, rfl⟩
    exact seqOf_updC hs hD
  · rintro i y τ' M' hi hy ⟨y3, y4, y5, rfl, rfl⟩
    rw [List.length_map] at hi
    have hy' : y = sRun c[i] := by
      rw [List.getElem?_map, List.getElem?_eq_getElem hi] at hy
      exact (Option.some.inj hy).symm
    subst hy'
    refine dg_of (pg_tup rfl (pgs_cons (pg_name (i := 3) sc_latest_numbers.nd rfl (.inl rfl)) (pgs_cons (pg_name (i := 4) sc_latest_numbers.nd rfl (.inl rfl)) (pgs_cons (pg_name (i := 5) sc_latest_numbers.nd rfl (.inl rfl)) pgs_nil)))) (wg_tup rfl rfl rfl (wgs_cons (wg_name (wgs_cons (wg_name (wgs_cons (wg_name (wgs_nil ?_))))))))
    refine db_cons (ds_dput (hu_of hr) ?_)
    walk_at "nm"
    walk_at "nm"
    walk_at "nm"
    refine ⟨D, _, .inr c[i].1, rfl, updC_same, rfl, ?_, db_nil ⟨_, _, _, rfl, ?_⟩⟩
    · have := latC_len m (c.take i)
      rw [List.length_take] at this
      unfold slK kdC
      rw [List.length_map, List.length_map, sizeLine_eq]
      omega
    · rw [show (Sl.d (PyData.int c[i].2.2)) = dI c[i].2.2 from rfl, putS_put, updC_updC, latC_take _ hi]
  · rintro τ' M' ⟨y3, y4, y5, rfl, rfl⟩
    rw [List.length_map, List.take_length]
    refine db_cons (ds_ret ?_)
    walk_at "nm"
    exact q D hD

local macro_rules | `(tactic| walk_at "nm") => `(tactic| first | ((with_reducible refine de_name (x := "line_counts") (i := 0) (s := ?s) ?hN ?hv ?ht ?q ?hd ?hcd); (case hN => rfl); (case hv => walk_at "vis"); (case ht => rfl); (case hd => decide); (case hcd => decide)) | ((with_reducible refine de_name (x := "content") (i := 1) (s := ?s) ?hN ?hv ?ht ?q ?hd ?hcd); (case hN => rfl); (case hv => walk_at "vis"); (case ht => rfl); (case hd => decide); (case hcd => decide)) | ((with_reducible refine de_name (x := "counts") (i := 2) (s := ?s) ?hN ?hv ?ht ?q ?hd ?hcd); (case hN => rfl); (case hv => walk_at "vis"); (case ht => rfl); (case hd => decide); (case hcd => decide)) | ((with_reducible refine de_name (x := "runs") (i := 3) (s := ?s) ?hN ?hv ?ht ?q ?hd ?hcd); (case hN => rfl); (case hv => walk_at "vis"); (case ht => rfl); (case hd => decide); (case hcd => decide)) | ((with_reducible refine de_name (x := "latest") (i := 4) (s := ?s) ?hN ?hv ?ht ?q ?hd ?hcd); (case hN => rfl); (case hv => walk_at "vis"); (case ht => rfl); (case hd => decide); (case hcd => decide)) | ((with_reducible refine de_name (x := "found") (i := 5) (s := ?s) ?hN ?hv ?ht ?q ?hd ?hcd); (case hN => rfl); (case hv => walk_at "vis"); (case ht => rfl); (case hd => decide); (case hcd => decide)) | ((with_reducible refine de_name (x := "writer") (i := 6) (s := ?s) ?hN ?hv ?ht ?q ?hd ?hcd); (case hN => rfl); (case hv => walk_at "vis"); (case ht => rfl); (case hd => decide); (case hcd => decide)) | ((with_reducible refine de_name (x := "first") (i := 7) (s := ?s) ?hN ?hv ?ht ?q ?hd ?hcd); (case hN => rfl); (case hv => walk_at "vis"); (case ht => rfl); (case hd => decide); (case hcd => decide)) | ((with_reducible refine de_name (x := "last") (i := 8) (s := ?s) ?hN ?hv ?ht ?q ?hd ?hcd); (case hN => rfl); (case hv => walk_at "vis"); (case ht => rfl); (case hd => decide); (case hcd => decide)))


def R_next : Rr := fun L ss M Q => ∃ cs s c, NoDK L ∧ ss = [.d (eCnt cs), s] ∧ okCnt cs ∧ LT M s (c.map sRun) ∧ okC (some cs) c ∧ c.length < 1000000 ∧
  (App c → ∀ zs, zs.Perm (cs.map (·.1)) → sortedS zs = true → ∀ p, M p = none → Q (.c p) (updC M p (.l ((nextC cs zs c).map sRun)))) ∧ (¬ App c → Q (.d .none) M)
theorem ite_len1 {p : Prop} [Decidable p] {x : Y.Run} : (if p then [x] else []).length ≤ 1 := by
  split
  · exact Nat.le_refl 1
  · exact Nat.zero_le 1
theorem nextC_len (cs : Cnt) (c : List Y.Run) (zs : List Str) : (nextC cs zs c).length ≤ zs.length := by
  unfold nextC
  induction zs with
  | nil => exact Nat.le_refl _
  | cons z r ih =>
    rw [List.flatMap_cons, List.length_append, List.length_cons]
    have : (nextOf cs c z).length ≤ 1 := by unfold nextOf; exact ite_len1
    omega
theorem ok_next_lines (F : FunAt K mg "next_lines" s_next_lines ["line_counts", "content"]) (c1 : Cal P w K mg base "checked_line_counts" 4 ["value"] R_plain_line_counts) (c2 : Cal P w K mg base "checked_content" 6 ["line_counts", "value"] R_plain_content) (c3 : Cal P w K mg base "appearing_obstruction" 1 ["runs"] R_appearing) (c4 : Cal P w K mg base "latest_numbers" 1 ["before", "runs"] R_latest) (c5 : Cal P w K mg base "no_numbers" 1 ["counts"] R_noN) (b1 : mg "sorted" = none) (b2 : mg "min" = none) : Cal P w K mg base "next_lines" 7 ["line_counts", "content"] R_next := by
  refine cal_of F sc_next_lines (fun _ ss _ _ ⟨cs, s, c, _, h, _⟩ => by rw [h]; rfl) (fun f cdv A outer s H E L ss M Q hr h => ?_)
  obtain ⟨cs, x, c, hL, rfl, okc, lt, ok, hl, qa, qn⟩ := h
  refine db_cons (ds_set (i := 2) sc_next_lines.nd rfl (.inl rfl) (de_callC (c1.up (by decide)) hr (by rfl) ?_))
  walk_at "go"
  refine da_nil ⟨cs, hL, rfl, okc, fun cs' hs' => ?_⟩
  have gp := getC_perm hs'.1 okc.2.2.1
  have ok' := okC_sorted okc hs' ok
  refine db_cons (ds_set (i := 3) sc_next_lines.nd rfl (.inl rfl) (de_callC c2 hr (by rfl) ?_))
  walk_at "go"
  refine da_nil ⟨some cs', x, c, rfl, lt, ok', hl, fun pr hpr => ?_⟩
  have sub_M1 : Sub M (updC M pr (.l (c.map sRun))) := (Sub.refl _).new hpr
  have m_pr : updC M pr (.l (c.map sRun)) pr = some (.l (c.map sRun)) := updC_same
  generalize updC M pr (.l (c.map sRun)) = M1 at sub_M1 m_pr
  have s1 : seqOf M1 (.c pr) = some (c.map sRun) := by simp only [seqOf, m_pr]
  refine db_cons (ds_ifB (!isNone (.d (obsA c))) (dt_cmp op_notN (de_callC (c3.up (by decide)) hr (by rfl) ?_) (nomark _)) (fun h1 => ?_) fun h1 => db_nil ?_)
  · walk_at "go"
    exact da_nil ⟨.c pr, c, rfl, rfl, s1, hl, de_non (k_notN ⟨_, rfl, rfl, rfl⟩)⟩
  · refine db_cons (ds_ret (de_gc (de_non ⟨M, sub_M1, qn fun z => ?_⟩)))
    rw [obsA_app z] at h1
    cases h1
  have app : App c := obsA_none (by simpa using h1)
  have nd' : (cs'.map (·.1)).Nodup := (hs'.1.map _).nodup_iff.mpr okc.2.2.1
  have l12 : cs'.length ≤ 12 := by rw [hs'.1.length_eq]; exact okc.2.1
  refine db_cons (ds_set (i := 4) sc_next_lines.nd rfl (.inl rfl) (de_callC (c4.up (by decide)) hr (by rfl) (da_cons (de_callC (c5.up (by decide)) hr (by rfl) (da_cons ?_)))))
  walk_at "nm"
  refine da_nil ⟨cs', hL, rfl, l12, nd', fun po hpo => ?_⟩
  have sub_M1z : Sub M1 (updC M1 po (.k (slK (kdC (zeroC cs'))))) := (Sub.refl _).new hpo
  have m_po : updC M1 po (.k (slK (kdC (zeroC cs')))) po = some (.k (slK (kdC (zeroC cs')))) := updC_same
  generalize updC M1 po (.k (slK (kdC (zeroC cs')))) = M1z at sub_M1z m_po
  refine da_cons ?_
  walk_at "nm"
  refine da_nil ⟨.c po, zeroC cs', .c pr, c, rfl, .c m_po, by unfold zeroC; rw [List.length_map]; omega, by simp only [seqOf, sub_M1z _ _ m_pr], hl, fun pl hpl => ?_⟩
  have sub_M2 : Sub M1z (updC M1z pl (.k (slK (kdC (latC (zeroC cs') c))))) := (Sub.refl _).new hpl
  have m_pl : updC M1z pl (.k (slK (kdC (latC (zeroC cs') c)))) pl = some (.k (slK (kdC (latC (zeroC cs') c)))) := updC_same
  generalize updC M1z pl (.k (slK (kdC (latC (zeroC cs') c)))) = M2 at sub_M2 m_pl
  have sub_M2 := Sub.trans sub_M1z sub_M2
  have s2 : seqOf M2 (.c pr) = some (c.map sRun) := by simp only [seqOf, sub_M2 _ _ m_pr]
  refine db_cons (ds_set (i := 5) sc_next_lines.nd rfl (.inl rfl) (de_lstC (da_nil ⟨Nat.zero_le _, fun pf hpf => ?_⟩)))
  have sub_M3 : Sub M2 (updC M2 pf (.l [])) := (Sub.refl _).new hpf
  have m_pf : updC M2 pf (.l []) pf = some (.l []) := updC_same
  generalize updC M2 pf (.l []) = M3 at sub_M3 m_pf
  have sub3 : Sub M M3 := Sub.trans (Sub.trans sub_M1 sub_M2) sub_M3
  have mr3 := sub_M3 _ _ (sub_M2 _ _ m_pr)
  have ml3 := sub_M3 _ _ m_pl
  have hpfM : M pf = none := (Sub.trans sub_M1 sub_M2).none hpf
  have hprM := hpr
  have nrf : pr ≠ pf := neC (sub_M2 _ _ m_pr) hpf
  have nlf : pl ≠ pf := neC m_pl hpf
  refine db_cons (ds_for PassesOwn.never rfl (di_seq (de_callB (call_sortedD rfl) (by rfl) b1 bt_sorted (da_cons ?_))))
  walk_at "nm"
  refine da_nil (k_sortedD (.d (kdC cs')) (keys_C cs') (by rw [List.length_map]; omega) fun zs pz hperm hsort hpz => ?_)
  have sub_M4 : Sub M3 (updC M3 pz (.l (zs.map dS))) := (Sub.refl _).new hpz
  have m_pz : updC M3 pz (.l (zs.map dS)) pz = some (.l (zs.map dS)) := updC_same
  generalize updC M3 pz (.l (zs.map dS)) = M4 at sub_M4 m_pz
  have nzf : pf ≠ pz := neC m_pf hpz
  have hzl : zs.length ≤ 12 := by rw [hperm.length_eq, List.length_map]; exact l12
  have hpc : zs.Perm (cs.map (·.1)) := hperm.trans (hs'.1.map _)
  refine ⟨zs.map dS, by simp only [seqOf, m_pz], ?_⟩
  refine ⟨fun i τ' M' => ∃ y6 y7 y8, τ' = [some (.d (eCnt cs)), some x, some (.d (eCnt cs')), some (.c pr), some (.c pl), some (.c pf), y6, y7, y8] ∧ M' = updC M4 pf (.l ((nextC cs (zs.take i) c).map sRun)), ⟨none, none, none, rfl, ?_⟩, ?_, ?_, ?_⟩
  · rw [List.take_zero]
    funext z
    unfold updC
    split
    · next e => rw [e]; exact sub_M4 _ _ m_pf
    · rfl
  · rintro i τ' M' ⟨y6, y7, y8, rfl, rfl⟩
    simp only [seqOf, updC_ne nzf.symm, m_pz]
  · rintro i y τ' M' hi hy ⟨y6, y7, y8, rfl, rfl⟩
    rw [List.length_map] at hi
    have hy' : y = dS zs[i] := by
      rw [List.getElem?_map, List.getElem?_eq_getElem hi] at hy
      exact (Option.some.inj hy).symm
    subst hy'
    obtain ⟨x0, hx0, ez⟩ := List.mem_map.mp (hpc.mem_iff.mp (List.getElem_mem hi))
    have hv := getC_mem okc.2.2.1 hx0
    rw [ez] at hv
    have hv' : getC cs' zs[i] = some x0.2 := by rw [gp]; exact hv
    have hnl := nextC_len cs c (zs.take i)
    rw [List.length_take] at hnl
    have hnx : nextC cs (zs.take (i + 1)) c = nextC cs (zs.take i) c ++ nextOf cs c zs[i] := by
      unfold nextC
      rw [List.take_add_one, List.getElem?_eq_getElem hi, List.flatMap_append]
      simp
    generalize zs[i] = z at hv hv' hnx
    have hlz := lat_zero hv' c
    have m4l : ∀ {c' : Cell}, updC M4 pf c' pl = some (.k (slK (kdC (latC (zeroC cs') c)))) := by
      intro c'
      rw [updC_ne nlf]
      exact sub_M4 _ _ ml3
    have m4r : ∀ {c' : Cell}, updC M4 pf c' pr = some (.l (c.map sRun)) := by
      intro c'
      rw [updC_ne nrf]
      exact sub_M4 _ _ mr3
    refine dg_of (pg_name (i := 6) sc_next_lines.nd rfl (.inl rfl)) (wg_name ?_)
    refine db_cons (ds_set (i := 7) sc_next_lines.nd rfl (.inl rfl) (de_add (de_dget (hu_of hr) ?_)))
    walk_at "nm"
    walk_at "nm"
    refine ⟨_, .inr z, dI (lastN c z), .c m4l, rfl, by rw [valS_C, hlz]; rfl, de_int ⟨_, _, rfl, rfl, ?_⟩⟩
    refine db_cons (ds_set (i := 8) sc_next_lines.nd rfl (.inl rfl) (de_dget (hu_of hr) ?_))
    walk_at "nm"
    walk_at "nm"
    refine ⟨_, .inr z, dI x0.2, .d (kdC cs'), rfl, by rw [valS_C, hv']; rfl, ?_⟩
    have tru : ∀ {c' : Cell}, truOf (updC M4 pf c') (.c pr) = some (!c.isEmpty) := by
      intro c'
      show ((seqOf (updC M4 pf c') (.c pr)).map fun ss => !ss.isEmpty) = _
      simp only [seqOf, m4r]
      cases c <;> rfl
    refine db_consJ (fun τ' M' => τ' = [some (.d (eCnt cs)), some x, some (.d (eCnt cs')), some (.c pr), some (.c pl), some (.c pf), some (dS z), some (dI (lastN c z + 1)), some (dI (if c.isEmpty = true ∨ (c.getLast?.map (·.1)) = some z then (if lastN c z + 1 < x0.2 then lastN c z + 1 else x0.2) else x0.2))] ∧ M' = updC M4 pf (.l ((nextC cs (zs.take i) c).map sRun)))
      (ds_ifB (decide (c.isEmpty = true ∨ (c.getLast?.map (·.1)) = some z)) (dt_or2 (dt_not (dt_tru ?_))) (fun h2 => ?_) fun h2 => ?_) ?_
    · walk_at "nm"
      refine ⟨_, tru, fun hk => ⟨?_, rfl⟩, fun hk => ?_⟩
      · have : c.isEmpty = true := by simpa using hk
        rw [decide_eq_true (.inl this)]
      · have hne : c.isEmpty = false := by simpa using hk
        have hne' : c ≠ [] := by
          intro e
          rw [e] at hne
          cases hne
        have hgl : c.getLast? = some (c.getLast hne') := List.getLast?_eq_some_getLast hne'
        generalize c.getLast hne' = r at hgl
        have hlast : (c.map sRun).getLast? = some (sRun r) := by rw [List.getLast?_map, hgl]; rfl
        refine dt_cmp op_eq (de_ix (de_ix ?_)) (by with_unfolding_all rfl)
        walk_at "nm"
        refine de_neg (de_int ⟨1, rfl, c.map sRun, _, sRun r, by simp only [seqOf, m4r], rfl, atI_l hlast, de_int ⟨_, _, dS r.1, rfl, rfl, rfl, ?_⟩⟩)
        walk_at "nm"
        refine k_eqS ⟨_, rfl, ?_, rfl⟩
        rw [hne, hgl]
        by_cases e : r.1 = z
        · rw [decide_eq_true e, decide_eq_true (.inr (by rw [← e]; rfl))]
        · rw [decide_eq_false e, decide_eq_false]
          rintro (q | q)
          · cases q
          · exact e (Option.some.inj q)
    · have h2 := of_decide_eq_true h2
      refine db_cons (ds_set (i := 8) sc_next_lines.nd rfl (.inl rfl) (de_callB (call_min2 rfl) (by rfl) b2 bt_min ?_))
      walk_at "go"
      refine da_nil (k_min2 (db_nil ⟨?_, rfl⟩))
      rw [if_pos h2]
      by_cases e : lastN c z + 1 < x0.2
      · rw [if_pos e, if_neg (by omega)]
        rfl
      · rw [if_neg e]
        by_cases e2 : x0.2 < lastN c z + 1
        · rw [if_pos e2]; rfl
        · rw [if_neg e2, show x0.2 = lastN c z + 1 by omega]; rfl
    · have h2 := of_decide_eq_false h2
      refine db_nil ⟨?_, rfl⟩
      rw [if_neg h2]
      rfl
    rintro τ' M' ⟨rfl, rfl⟩
    have hof : nextOf cs c z = if lastN c z + 1 ≤ (if c.isEmpty = true ∨ (c.getLast?.map (·.1)) = some z then (if lastN c z + 1 < x0.2 then lastN c z + 1 else x0.2) else x0.2) then [(z, lastN c z + 1, (if c.isEmpty = true ∨ (c.getLast?.map (·.1)) = some z then (if lastN c z + 1 < x0.2 then lastN c z + 1 else x0.2) else x0.2))] else [] := by
      unfold nextOf
      rw [hv]
      rfl
    generalize (if c.isEmpty = true ∨ (c.getLast?.map (·.1)) = some z then (if lastN c z + 1 < x0.2 then lastN c z + 1 else x0.2) else x0.2) = u at hof
    refine db_cons (ds_if (dt_cmp op_le ?_ (by with_unfolding_all rfl)))
    walk_at "nm"
    walk_at "nm"
    refine k_bool ⟨_, rfl, fun h3 => ?_, fun h3 => db_nil (db_nil ⟨_, _, _, rfl, ?_⟩)⟩
    · have h3 := of_decide_eq_true h3
      rw [if_pos h3] at hof
      refine db_cons (ds_append ?_)
      walk_at "nm"
      refine ⟨⟨rfl, _, by simp only [seqOf, updC_same]; rfl⟩, de_tupD (da_cons ?_)⟩
      walk_at "go"
      refine da_nil ⟨[.str z, .int (lastN c z + 1), .int u], rfl, (by show 3 ≤ sizeLine; decide), pf, _, rfl, updC_same, ?_, db_nil (db_nil ⟨_, _, _, rfl, ?_⟩)⟩
      · rw [List.length_map, sizeLine_eq]
        omega
      · rw [updC_updC, hnx, hof, List.map_append]
        rfl
    · have h3 := of_decide_eq_false h3
      rw [if_neg h3] at hof
      rw [hnx, hof, List.append_nil]
  · rintro τ' M' ⟨y6, y7, y8, rfl, rfl⟩
    rw [List.length_map, List.take_length]
    refine db_cons (ds_ret (de_gc ?_))
    walk_at "nm"
    refine ⟨updC M pf (.l ((nextC cs zs c).map sRun)), fun z d hz => ?_, qa app zs hpc hsort pf hpfM⟩
    by_cases e : z = pf
    · subst e
      rw [updC_same] at hz ⊢
      exact hz
    · rw [updC_ne e] at hz ⊢
      exact sub_M4 _ _ (sub3 _ _ hz)

end

end Pg

namespace Pg
open PySem L2 Y PyProof.Rows

local macro_rules | `(tactic| walk_at "vis") => `(tactic| first | exact Or.inl rfl | exact Or.inr (Or.inl rfl) | exact Or.inr (Or.inr rfl))
local macro_rules | `(tactic| walk_at "e1") => `(tactic| first | walk_at "nm" | refine de_int ?_ | refine de_add ?_ | refine de_sub ?_ | refine de_str ?_ | refine de_non ?_ | refine de_bl ?_)
local macro_rules | `(tactic| walk_at "go") => `(tactic| repeat (first | ((with_reducible show DE _ _ _ _ _ _); walk_at "e1") | ((with_reducible show DA _ _ _ _ _ _); refine da_cons ?_) | refine ⟨_, _, rfl, rfl, ?_⟩))


/-- a source of draws -/
def Src (M : Cs) (a : Addr) (n : Nat) : Prop := ∃ big mix cnt : Int, M a = some (.l [dI big, dI mix, dI cnt]) ∧ 0 ≤ mix ∧ mix ≤ 10 ^ 40 ∧ 0 ≤ cnt ∧ cnt ≤ (n : Int)
theorem Src.sub {M M' : Cs} {a : Addr} {n : Nat} (h : Src M a n) (s : Sub M M') : Src M' a n := by
  obtain ⟨x, y, z, h1, h2⟩ := h
  exact ⟨x, y, z, s _ _ h1, h2⟩
theorem Src.mono {M : Cs} {a : Addr} {m n : Nat} (h : Src M a m) (l : m ≤ n) : Src M a n := by
  obtain ⟨x, y, z, h1, h2, h3, h4, h5⟩ := h
  exact ⟨x, y, z, h1, h2, h3, h4, by omega⟩
theorem Src.upd {M : Cs} {a p : Addr} {n : Nat} {c : Cell} (h : Src M a n) (ne : p ≠ a) : Src (updC M p c) a n := by
  obtain ⟨x, y, z, h1, h2⟩ := h
  exact ⟨x, y, z, by rw [updC_ne ne.symm]; exact h1, h2⟩
theorem Src.del {M : Cs} {a p : Addr} {n : Nat} (h : Src M a n) (ne : p ≠ a) : Src (delC M p) a n := by
  obtain ⟨x, y, z, h1, h2⟩ := h
  exact ⟨x, y, z, by rw [delC_ne ne.symm]; exact h1, h2⟩
theorem Src.ne {M : Cs} {a p : Addr} {n : Nat} (h : Src M a n) (hp : M p = none) : p ≠ a := by
  obtain ⟨x, y, z, h1, h2⟩ := h
  intro e
  rw [e, h1] at hp
  cases hp
theorem Src.keep {M : Cs} {a : Addr} {n : Nat} {ps : List Addr} (h : Src M a n) (hm : a ∈ ps) : Src (Y.keep ps M) a n := by
  obtain ⟨x, y, z, h1, h2⟩ := h
  exact ⟨x, y, z, by rw [keep_in hm]; exact h1, h2⟩
theorem Src.nd {M : Cs} {a : Addr} {n : Nat} (h : Src M a n) : ∃ c, M a = some c ∧ ndC c = true := by
  obtain ⟨x, y, z, h1, h2⟩ := h
  exact ⟨_, h1, by simp [ndC, ndSs, ndS, dI, ndD]⟩
/-- only the cell a may be another -/
def Fr1 (a : Addr) (M M' : Cs) : Prop := ∀ b, b ≠ a → M' b = M b
theorem Fr1.refl {a : Addr} (M : Cs) : Fr1 a M M := fun _ _ => rfl
theorem Fr1.trans {a : Addr} {M M1 M2 : Cs} (h : Fr1 a M M1) (k : Fr1 a M1 M2) : Fr1 a M M2 := fun b hb => (k b hb).trans (h b hb)
/-- cells may be new, and the cell a another -/
def Gx (a : Addr) (M M' : Cs) : Prop := ∀ b c, b ≠ a → M b = some c → M' b = some c
theorem Gx.refl {a : Addr} (M : Cs) : Gx a M M := fun _ _ _ h => h
theorem Gx.trans {a : Addr} {M M1 M2 : Cs} (h : Gx a M M1) (k : Gx a M1 M2) : Gx a M M2 := fun b c hb e => k b c hb (h b c hb e)
theorem Fr1.gx {a : Addr} {M M' : Cs} (h : Fr1 a M M') : Gx a M M' := fun b c hb e => by rw [h b hb]; exact e
theorem Sub.gx {a : Addr} {M M' : Cs} (h : Sub M M') : Gx a M M' := fun b c _ e => h b c e
theorem Gx.put {a p : Addr} {M M' : Cs} {c : Cell} (h : Gx a M M') (hp : M p = none) : Gx a M (updC M' p c) := fun b d hb e => by
  rw [updC_ne (neC e hp)]
  exact h b d hb e
theorem Gx.none {a p : Addr} {M M' : Cs} (h : Gx a M M') (hp : M' p = none) (ne : p ≠ a) : M p = none := by
  cases e : M p with
  | none => rfl
  | some c =>
    rw [h p c ne e] at hp
    cases hp
section
variable {P : Program} {w : World} {K : PySem.W.Frag} {mg : Str → Option Value} {base : Heap}

local macro_rules | `(tactic| walk_at "nm") => `(tactic| first | ((with_reducible refine de_name (x := "script") (i := 0) (s := ?s) ?hN ?hv ?ht ?q ?hd ?hcd); (case hN => rfl); (case hv => walk_at "vis"); (case ht => rfl); (case hd => decide); (case hcd => decide)) | ((with_reducible refine de_name (x := "k") (i := 1) (s := ?s) ?hN ?hv ?ht ?q ?hd ?hcd); (case hN => rfl); (case hv => walk_at "vis"); (case ht => rfl); (case hd => decide); (case hcd => decide)) | ((with_reducible refine de_name (x := "cell") (i := 2) (s := ?s) ?hN ?hv ?ht ?q ?hd ?hcd); (case hN => rfl); (case hv => walk_at "vis"); (case ht => rfl); (case hd => decide); (case hcd => decide)))


def R_source : Rr := fun _ ss M Q => ∃ (s : Sl) (ns : List Int) (k : Int), ss = [s, dI k] ∧ seqOf M s = some (ns.map dI) ∧ 0 ≤ k ∧ k ≤ 100 ∧ ∀ p M', M p = none → Sub M M' → Src M' p 0 → Q (.c p) M'
theorem ok_law_source (F : FunAt K mg "_law_source" s__law_source ["script", "k"]) (b1 : mg "len" = none) (b2 : mg "max" = none) : Cal P w K mg base "_law_source" 1 ["script", "k"] R_source := by
  refine cal_of F sc__law_source (fun _ ss _ _ ⟨s, ns, k, h, _⟩ => by rw [h]; rfl) (fun f cdv A outer s H E L ss M Q hr h => ?_)
  obtain ⟨x, ns, k, rfl, hs, k0, k1, fin⟩ := h
  refine db_consJ (fun τ' M' => ∃ v : Int, τ' = [some x, some (dI k), some (dI v)] ∧ M' = M) (ds_set (i := 2) sc__law_source.nd rfl (.inl rfl) (de_if (dt_cmp op_lt ?_ (by with_unfolding_all rfl)))) ?_
  · walk_at "nm"
    refine de_callB call_len_seq (by rfl) b1 bt_len (da_cons ?_)
    walk_at "nm"
    refine da_nil (k_len hs (k_bool ⟨_, rfl, fun h => de_ix ?_, fun _ => de_int ⟨0, rfl, rfl⟩⟩))
    walk_at "nm"
    walk_at "nm"
    have h := of_decide_eq_true h
    rw [List.length_map] at h
    have hj : k.toNat < ns.length := by omega
    exact ⟨ns.map dI, ((k.toNat : Nat) : Int), dI ns[k.toNat], hs, (by rw [Int.toNat_of_nonneg k0]; rfl), atI_nat (by rw [List.getElem?_map, List.getElem?_eq_getElem hj]; rfl), ns[k.toNat], rfl, rfl⟩
  rintro τ' M' ⟨v, rfl, rfl⟩
  refine db_cons (ds_ret (de_lstC (da_cons (de_callB (call_max2 rfl) (by rfl) b2 bt_max (da_cons (de_int (da_cons (de_sub ?_))))))))
  walk_at "nm"
  refine de_pow (de_int (de_int ⟨_, _, rfl, rfl, powW (k := 4) (by decide) (by decide) (by decide), _, _, rfl, rfl, da_nil (k_max2 (da_cons (de_add (de_mul (de_add (de_mod ?_))))))⟩))
  walk_at "nm"
  refine de_add (de_pow (de_int (de_int ⟨_, _, rfl, rfl, powW (k := 4) (by decide) (by decide) (by decide), de_int ⟨_, _, rfl, rfl, _, _, rfl, rfl, by decide, de_int ⟨_, _, rfl, rfl, de_int ⟨_, _, rfl, rfl, .inr ⟨by decide, by decide⟩, ?_⟩⟩⟩⟩)))
  have hm : 0 ≤ v % (10 ^ (36 : Int).toNat + 67) ∧ v % (10 ^ (36 : Int).toNat + 67) < 10 ^ 37 := ⟨Int.emod_nonneg _ (by decide), Int.lt_trans (Int.emod_lt_of_pos _ (by decide)) (by decide)⟩
  generalize v % (10 ^ (36 : Int).toNat + 67) = u at hm
  walk_at "nm"
  refine ⟨_, _, rfl, rfl, da_cons (de_int (da_nil ⟨(by show 3 ≤ sizeLine; decide), fun p hp => fin p _ hp ((Sub.refl _).new hp) ⟨_, (u + 1) * 128 + k, 0, updC_same, by omega, by omega, by decide, by decide⟩⟩))⟩

local macro_rules | `(tactic| walk_at "nm") => `(tactic| first | ((with_reducible refine de_name (x := "source") (i := 0) (s := ?s) ?hN ?hv ?ht ?q ?hd ?hcd); (case hN => rfl); (case hv => walk_at "vis"); (case ht => rfl); (case hd => decide); (case hcd => decide)) | ((with_reducible refine de_name (x := "limit") (i := 1) (s := ?s) ?hN ?hv ?ht ?q ?hd ?hcd); (case hN => rfl); (case hv => walk_at "vis"); (case ht => rfl); (case hd => decide); (case hcd => decide)) | ((with_reducible refine de_name (x := "result") (i := 2) (s := ?s) ?hN ?hv ?ht ?q ?hd ?hcd); (case hN => rfl); (case hv => walk_at "vis"); (case ht => rfl); (case hd => decide); (case hcd => decide)) | ((with_reducible refine de_name (x := "mixed") (i := 3) (s := ?s) ?hN ?hv ?ht ?q ?hd ?hcd); (case hN => rfl); (case hv => walk_at "vis"); (case ht => rfl); (case hd => decide); (case hcd => decide)))


def R_draw : Rr := fun _ ss M Q => ∃ (a : Addr) (n : Nat) (lim : Int), ss = [.c a, dI lim] ∧ Src M a n ∧ n < 1000000000 ∧ 0 < lim ∧ lim ≤ 10 ^ 40 ∧ ∀ M' r, Fr1 a M M' → Src M' a (n + 1) → 0 ≤ r → r < lim → Q (dI r) M'
theorem ok_law_draw (F : FunAt K mg "_law_draw" s__law_draw ["source", "limit"]) : Cal P w K mg base "_law_draw" 1 ["source", "limit"] R_draw := by
  refine cal_of F sc__law_draw (fun _ ss _ _ ⟨a, n, lim, h, _⟩ => by rw [h]; rfl) (fun f cdv A outer s H E L ss M Q hr h => ?_)
  obtain ⟨a, n, lim, rfl, ⟨big, mix, cnt, ma, m0, m1, c0, c1⟩, hn, hm0, hm1, fin⟩ := h
  have sa : seqOf M (.c a) = some [dI big, dI mix, dI cnt] := by simp only [seqOf, ma]
  refine db_cons (ds_if (dt_cmp op_gt (de_ix ?_) (nomark _)))
  walk_at "nm"
  refine de_int ⟨_, 0, dI big, sa, rfl, rfl, de_int (k_bool ⟨_, rfl, fun h1 => ?_, fun h1 => db_nil ?_⟩)⟩
  · refine db_cons (ds_set (i := 2) sc__law_draw.nd rfl (.inl rfl) (de_mod (de_ix ?_)))
    walk_at "nm"
    refine de_int ⟨_, 0, dI big, sa, rfl, rfl, ?_⟩
    walk_at "nm"
    refine ⟨_, _, rfl, rfl, hm0, ?_⟩
    refine db_cons (ds_asg (de_div (de_ix ?_)))
    walk_at "nm"
    refine de_int ⟨_, 0, dI big, sa, rfl, rfl, ?_⟩
    walk_at "nm"
    refine ⟨_, _, rfl, rfl, wide_div (b := 200) hm0 (by omega) (by decide) (by decide), dg_subL ?_⟩
    walk_at "nm"
    refine de_int ⟨a, [dI big, dI mix, dI cnt], 0, 0, rfl, ma, rfl, rfl, ?_⟩
    refine db_cons (ds_ret ?_)
    walk_at "nm"
    refine fin _ _ (fun b hb => by rw [updC_ne hb]) ⟨big / lim, mix, cnt, by rw [updC_same]; rfl, m0, m1, c0, by omega⟩ (Int.emod_nonneg _ (by omega)) (Int.emod_lt_of_pos _ hm0)
  refine db_cons (ds_asg (de_add (de_ix ?_)))
  walk_at "nm"
  refine de_int ⟨_, 2, dI cnt, sa, rfl, rfl, de_int ⟨_, _, rfl, rfl, dg_subL ?_⟩⟩
  walk_at "nm"
  refine de_int ⟨a, [dI big, dI mix, dI cnt], 2, 2, rfl, ma, rfl, rfl, ?_⟩
  have ma2 : updC M a (.l ([dI big, dI mix, dI cnt].set 2 (.d (.int (cnt + 1))))) a = some (.l [dI big, dI mix, dI (cnt + 1)]) := updC_same
  have fr2 : Fr1 a M (updC M a (.l ([dI big, dI mix, dI cnt].set 2 (.d (.int (cnt + 1)))))) := fun b hb => by rw [updC_ne hb]
  generalize updC M a (.l ([dI big, dI mix, dI cnt].set 2 (.d (.int (cnt + 1))))) = M2 at ma2 fr2
  have sa2 : seqOf M2 (.c a) = some [dI big, dI mix, dI (cnt + 1)] := by simp only [seqOf, ma2]
  refine db_cons (ds_set (i := 3) sc__law_draw.nd rfl (.inl rfl) (de_mod (de_pow (de_add (de_ix ?_)))))
  walk_at "nm"
  refine de_int ⟨_, 1, dI mix, sa2, rfl, rfl, de_mul (de_int (de_ix ?_))⟩
  walk_at "nm"
  refine de_int ⟨_, 2, dI (cnt + 1), sa2, rfl, rfl, _, _, rfl, rfl, .inl ⟨by decide, by decide⟩, _, _, rfl, rfl, de_int ⟨_, _, rfl, rfl, powW (k := 160) ?_ (by decide) (by decide), ?_⟩⟩
  · omega
  generalize (mix + 67867967 * (cnt + 1)) ^ (2 : Int).toNat = X1
  refine de_add (de_pow (de_int (de_int ⟨_, _, rfl, rfl, powW (k := 4) (by decide) (by decide) (by decide), de_int ⟨_, _, rfl, rfl, _, _, rfl, rfl, by decide, ?_⟩⟩)))
  have hs1 : 0 ≤ X1 % (10 ^ (37 : Int).toNat + 43) ∧ X1 % (10 ^ (37 : Int).toNat + 43) < 10 ^ 42 := ⟨Int.emod_nonneg _ (by decide), Int.lt_trans (Int.emod_lt_of_pos _ (by decide)) (by decide)⟩
  generalize X1 % (10 ^ (37 : Int).toNat + 43) = Y1 at hs1
  refine db_cons (ds_set (i := 3) sc__law_draw.nd rfl (.inl rfl) (de_mod (de_pow (de_add ?_))))
  walk_at "nm"
  refine de_mul (de_int (de_ix ?_))
  walk_at "nm"
  refine de_int ⟨_, 2, dI (cnt + 1), sa2, rfl, rfl, _, _, rfl, rfl, .inl ⟨by decide, by decide⟩, _, _, rfl, rfl, de_int ⟨_, _, rfl, rfl, powW (k := 160) ?_ (by decide) (by decide), ?_⟩⟩
  · omega
  generalize (Y1 + 982451653 * (cnt + 1)) ^ (3 : Int).toNat = X2
  refine de_add (de_pow (de_int (de_int ⟨_, _, rfl, rfl, powW (k := 4) (by decide) (by decide) (by decide), de_int ⟨_, _, rfl, rfl, _, _, rfl, rfl, by decide, ?_⟩⟩)))
  generalize X2 % (10 ^ (39 : Int).toNat + 3) = Y2
  refine db_cons (ds_ret (de_mod (de_div ?_)))
  walk_at "nm"
  refine de_pow (de_int (de_int ⟨_, _, rfl, rfl, powW (k := 4) (by decide) (by decide) (by decide), _, _, rfl, rfl, wide_div (b := 30) (by decide) (by decide) (by decide) (by decide), ?_⟩))
  walk_at "nm"
  refine ⟨_, _, rfl, rfl, hm0, fin _ _ fr2 ⟨big, mix, cnt + 1, ma2, m0, m1, by omega, by omega⟩ (Int.emod_nonneg _ (by omega)) (Int.emod_lt_of_pos _ hm0)⟩

end

end Pg

namespace Pg
open PySem L2 Y PyProof.Rows

local macro_rules | `(tactic| walk_at "vis") => `(tactic| first | exact Or.inl rfl | exact Or.inr (Or.inl rfl) | exact Or.inr (Or.inr rfl))
local macro_rules | `(tactic| walk_at "e1") => `(tactic| first | walk_at "nm" | refine de_int ?_ | refine de_add ?_ | refine de_sub ?_ | refine de_str ?_ | refine de_non ?_ | refine de_bl ?_)
local macro_rules | `(tactic| walk_at "go") => `(tactic| repeat (first | ((with_reducible show DE _ _ _ _ _ _); walk_at "e1") | ((with_reducible show DA _ _ _ _ _ _); refine da_cons ?_) | refine ⟨_, _, rfl, rfl, ?_⟩))

theorem eraseIdx_mapS {α β : Type} (f : α → β) : ∀ (l : List α) (j : Nat), (l.map f).eraseIdx j = (l.eraseIdx j).map f
  | [], _ => rfl
  | _ :: _, 0 => rfl
  | a :: l, j + 1 => by
    show f a :: (l.map f).eraseIdx j = f a :: (l.eraseIdx j).map f
    rw [eraseIdx_mapS f l j]
theorem erase_perm {α : Type} : ∀ (l : List α) (j : Nat) (h : j < l.length), (l[j] :: l.eraseIdx j).Perm l
  | [], _, h => by simp at h
  | _ :: _, 0, _ => List.Perm.refl _
  | a :: l, j + 1, h => by
    have h' : j < l.length := by simpa using h
    exact (List.Perm.swap a l[j] (l.eraseIdx j)).trans ((erase_perm l j h').cons a)
theorem okC_withR {lc : Option Cnt} {c : List Y.Run} {r : Y.Run} (h : okC lc c) (hl : okRun lc r) : okC lc (withRun c r) := by
  obtain ⟨h1, h2⟩ := h
  obtain ⟨o1, o2, o3, o4⟩ := hl
  refine ⟨fun x hx => ?_, ?_⟩
  · rcases withRun_mem hx with z | rfl | ⟨m, hm, hc, rfl⟩
    · exact h1 x z
    · exact ⟨o1, o2, o3, o4⟩
    · obtain ⟨_, q2, q3, _⟩ := h1 m hm
      unfold cont at hc
      simp only [Bool.and_eq_true, decide_eq_true_eq] at hc
      refine ⟨o1, q2, ?_, o4⟩
      show m.2.1 ≤ r.2.2
      omega
  · unfold withRun
    split
    · next m hm =>
      obtain ⟨ys, e⟩ := List.getLast?_eq_some_iff.mp hm
      subst e
      split
      · next hc =>
        rw [List.dropLast_concat]
        intro i a b ha hb
        by_cases hi : i + 1 < ys.length
        · rw [List.getElem?_append_left (by omega)] at ha
          rw [List.getElem?_append_left hi] at hb
          exact h2 i a b (by rw [List.getElem?_append_left (by omega)]; exact ha) (by rw [List.getElem?_append_left hi]; exact hb)
        · have hb2 := List.getElem?_eq_some_iff.mp hb
          obtain ⟨hlt, _⟩ := hb2
          rw [List.length_append, List.length_singleton] at hlt
          have e : i + 1 = ys.length := by omega
          rw [List.getElem?_append_left (by omega)] at ha
          rw [e, List.getElem?_concat_length] at hb
          have := h2 i a m (by rw [List.getElem?_append_left (by omega)]; exact ha) (by rw [e, List.getElem?_concat_length])
          have hb := Option.some.inj hb
          subst hb
          unfold cont at hc
          simp only [Bool.and_eq_true, decide_eq_true_eq] at hc
          unfold cont at this ⊢
          simp only [Bool.and_eq_false_iff, decide_eq_false_iff_not] at this ⊢
          show (¬ r.1 = a.1) ∨ ¬ m.2.1 = a.2.2 + 1
          have e2 : r.1 = m.1 := hc.1
          rw [e2]
          exact this
      · next hc =>
        intro i a b ha hb
        by_cases hi : i + 1 < (ys ++ [m]).length
        · rw [List.getElem?_append_left (by omega)] at ha
          rw [List.getElem?_append_left hi] at hb
          exact h2 i a b ha hb
        · obtain ⟨hlt, _⟩ := List.getElem?_eq_some_iff.mp hb
          rw [List.length_append (as := ys ++ [m]), List.length_singleton] at hlt
          have e : i + 1 = (ys ++ [m]).length := by omega
          rw [List.getElem?_append_left (by omega)] at ha
          rw [e, List.getElem?_concat_length] at hb
          have hb := Option.some.inj hb
          subst hb
          have e3 : i = ys.length := by rw [List.length_append, List.length_singleton] at e; omega
          rw [e3, List.getElem?_concat_length] at ha
          have ha := Option.some.inj ha
          subst ha
          exact Bool.eq_false_iff.mpr hc
    · next hm =>
      have e : c = [] := List.getLast?_eq_none_iff.mp hm
      subst e
      intro i a b ha hb
      simp at hb

def pool12 : List Str := ["a", "an", "b", "bo", "zzzzzzzz", "cy", "d", "da", "k", "kk", "m", "zz"]
theorem pool12_nd : pool12.Nodup := by decide +kernel
theorem pool12_ok : ∀ y ∈ pool12, okName y = true ∧ y ≠ "q" := by decide +kernel
/-- a valid content that can appear -/
def CtOk (rows : Cnt) (c : List Y.Run) : Prop := okC (some rows) c ∧ App c
theorem badI_snoc {c : List Y.Run} {r : Y.Run} {i : Nat} (h : i < c.length) : badI (c ++ [r]) i = badI c i := by
  unfold badI
  rw [List.getElem?_append_left h]
  cases c[i]? with
  | none => rfl
  | some x =>
    show badAt (c ++ [r]) i x = badAt c i x
    unfold badAt
    rw [List.take_append_of_le_length (by omega)]
    by_cases h0 : 0 < i
    · rw [List.getElem?_append_left (by omega)]
    · simp only [h0, false_and, if_false]
theorem app_nil : App [] := ⟨rfl, fun i hi => absurd hi (Nat.not_lt_zero i)⟩
theorem app_snoc {c : List Y.Run} {r : Y.Run} (h : App c) (h1 : c = [] → r.2.1 = 1) (h2 : lastN c r.1 < r.2.1) (h3 : ∀ l, c.getLast? = some l → l.1 ≠ r.1) : App (c ++ [r]) := by
  refine ⟨?_, fun i hi => ?_⟩
  · cases c with
    | nil =>
      show (!decide (r.2.1 = 1)) = false
      rw [decide_eq_true (h1 rfl)]
      rfl
    | cons x c => exact h.1
  · rw [List.length_append, List.length_singleton] at hi
    by_cases hlt : i < c.length
    · rw [badI_snoc hlt]
      exact h.2 i hlt
    · have e : i = c.length := by omega
      subst e
      unfold badI
      rw [List.getElem?_concat_length]
      show badAt (c ++ [r]) c.length r = none
      unfold badAt
      rw [List.take_left, if_neg (by omega), if_neg]
      rintro ⟨z1, z2⟩
      rw [List.getElem?_append_left (by omega)] at z2
      have hne : c ≠ [] := List.length_pos_iff.mp z1
      have hgl : c.getLast? = c[c.length - 1]? := List.getLast?_eq_getElem?
      cases e : c[c.length - 1]? with
      | none => rw [e] at z2; cases z2
      | some l =>
        rw [e] at z2 hgl
        exact h3 l hgl (Option.some.inj z2)
theorem ctOk_nil (rows : Cnt) : CtOk rows [] := ⟨okC_nil _, app_nil⟩
theorem okC_snoc {lc : Option Cnt} {c : List Y.Run} {r : Y.Run} (h : okC lc c) (hr : okRun lc r) (h3 : ∀ l, c.getLast? = some l → cont l r = false) : okC lc (c ++ [r]) := by
  have e : withRun c r = c ++ [r] := by
    unfold withRun
    cases g : c.getLast? with
    | none => rfl
    | some l => simp only [h3 l g]; rw [if_neg Bool.false_ne_true]
  rw [← e]
  exact okC_withR h hr
theorem ctOk_snoc {rows : Cnt} {c : List Y.Run} {r : Y.Run} (h : CtOk rows c) (hr : okRun (some rows) r) (h1 : c = [] → r.2.1 = 1) (h2 : lastN c r.1 < r.2.1) (h3 : ∀ l, c.getLast? = some l → l.1 ≠ r.1) : CtOk rows (c ++ [r]) :=
  ⟨okC_snoc h.1 hr fun l hl => by unfold cont; rw [decide_eq_false (fun z => h3 l hl z.symm)]; rfl, app_snoc h.2 h1 h2 h3⟩
theorem lastN_nonneg {lc : Option Cnt} : ∀ {c : List Y.Run}, okC lc c → ∀ z, 0 ≤ lastN c z := by
  have key : ∀ (n : Nat) (c : List Y.Run), c.length = n → (∀ r ∈ c, 0 ≤ r.2.2) → ∀ z, 0 ≤ lastN c z := by
    intro n
    induction n with
    | zero =>
      intro c hc _ z
      rw [List.length_eq_zero_iff.mp hc]
      exact Int.le_refl 0
    | succ n ih =>
      intro c hc h z
      have hne : c ≠ [] := fun e => by rw [e] at hc; cases hc
      rw [← List.dropLast_concat_getLast hne, lastN_snoc]
      split
      · exact h _ (List.getLast_mem hne)
      · exact ih _ (by rw [List.length_dropLast, hc]; rfl) (fun r hr => h r (List.dropLast_subset c hr)) z
  intro c h z
  exact key c.length c rfl (fun r hr => by obtain ⟨_, o2, o3, _⟩ := h.1 r hr; omega) z
section
variable {P : Program} {w : World} {K : PySem.W.Frag} {mg : Str → Option Value} {base : Heap}

local macro_rules | `(tactic| walk_at "nm") => `(tactic| first | ((with_reducible refine de_name (x := "source") (i := 0) (s := ?s) ?hN ?hv ?ht ?q ?hd ?hcd); (case hN => rfl); (case hv => walk_at "vis"); (case ht => rfl); (case hd => decide); (case hcd => decide)) | ((with_reducible refine de_name (x := "some") (i := 1) (s := ?s) ?hN ?hv ?ht ?q ?hd ?hcd); (case hN => rfl); (case hv => walk_at "vis"); (case ht => rfl); (case hd => decide); (case hcd => decide)) | ((with_reducible refine de_name (x := "found") (i := 2) (s := ?s) ?hN ?hv ?ht ?q ?hd ?hcd); (case hN => rfl); (case hv => walk_at "vis"); (case ht => rfl); (case hd => decide); (case hcd => decide)) | ((with_reducible refine de_name (x := "size") (i := 3) (s := ?s) ?hN ?hv ?ht ?q ?hd ?hcd); (case hN => rfl); (case hv => walk_at "vis"); (case ht => rfl); (case hd => decide); (case hcd => decide)) | ((with_reducible refine de_name (x := "k") (i := 4) (s := ?s) ?hN ?hv ?ht ?q ?hd ?hcd); (case hN => rfl); (case hv => walk_at "vis"); (case ht => rfl); (case hd => decide); (case hcd => decide)) | ((with_reducible refine de_name (x := "writer") (i := 5) (s := ?s) ?hN ?hv ?ht ?q ?hd ?hcd); (case hN => rfl); (case hv => walk_at "vis"); (case ht => rfl); (case hd => decide); (case hcd => decide)) | ((with_reducible refine de_name (x := "sizes") (i := 6) (s := ?s) ?hN ?hv ?ht ?q ?hd ?hcd); (case hN => rfl); (case hv => walk_at "vis"); (case ht => rfl); (case hd => decide); (case hcd => decide)))


def R_counts : Rr := fun _ ss M Q => ∃ (a : Addr) (n : Nat), ss = [.c a] ∧ Src M a n ∧ n < 900000000 ∧ ∀ rows p M', Gx a M M' → p ≠ a → M p = none → M' p = some (.k (slK (kdC rows))) → Src M' a (n + 100) → okCnt rows → (∀ x ∈ rows, x.1 ∈ pool12) → Q (.c p) M'
set_option maxHeartbeats 8000000 in
theorem ok_law_line_counts (F : FunAt K mg "_law_line_counts" s__law_line_counts ["source"]) (c1 : Cal P w K mg base "_law_draw" 1 ["source", "limit"] R_draw) (b1 : mg "range" = none) (b2 : mg "len" = none) : Cal P w K mg base "_law_line_counts" 2 ["source"] R_counts := by
  refine cal_of F sc__law_line_counts (fun _ ss _ _ ⟨a, n, h, _⟩ => by rw [h]; rfl) (fun f cdv A outer s H E L us M Q hr h => ?_)
  obtain ⟨a, n, rfl, sr, hn, fin⟩ := h
  refine db_cons ?_
  refine ds_set (i := 1) (hN := ?hN) ?a ?b ?c
  case hN => exact sc__law_line_counts.nd
  case a => rfl
  case b => exact .inl rfl
  refine de_lstC ?_
  walk_at "go"
  refine da_nil ?_
  refine ⟨(by show 12 ≤ sizeLine; decide), ?_⟩
  intro p1 hp1
  change DB _ _ _ _ (updC M p1 (.l (pool12.map dS))) _
  have sub_M1 : Sub M (updC M p1 (.l (pool12.map dS))) := (Sub.refl _).new hp1
  have m_p1 : updC M p1 (.l (pool12.map dS)) p1 = some (.l (pool12.map dS)) := updC_same
  generalize updC M p1 (.l (pool12.map dS)) = M1 at sub_M1 m_p1
  have p1a := sr.ne hp1
  have sr1 := sr.sub sub_M1
  refine db_cons (ds_set (i := 2) sc__law_line_counts.nd rfl (.inl rfl) (de_dictC fun p2 hp2 => ?_))
  have sub_M2 : Sub M1 (updC M1 p2 (.k [])) := (Sub.refl _).new hp2
  have m_p2 : updC M1 p2 (.k []) p2 = some (.k []) := updC_same
  generalize updC M1 p2 (.k []) = M2 at sub_M2 m_p2
  have np : p1 ≠ p2 := neC m_p1 hp2
  have p2a := sr1.ne hp2
  have hp2M : M p2 = none := sub_M1.none hp2
  have sr2 := sr1.sub sub_M2
  have m2p1 := sub_M2 _ _ m_p1
  have gx2 : Gx a M M2 := Sub.gx (Sub.trans sub_M1 sub_M2)
  refine db_cons (ds_set (i := 3) sc__law_line_counts.nd rfl (.inl rfl) (de_add (de_int (de_ix (de_lstD (da_cons (de_callC c1 hr (by rfl) ?_)))))))
  walk_at "go"
  refine da_nil ⟨a, _, 4, rfl, sr2, by omega, by decide, by decide, fun M3 r3 fr3 sr3 h30 h31 => da_cons (de_callC c1 hr (by rfl) ?_)⟩
  walk_at "go"
  refine da_nil ⟨a, _, 12, rfl, sr3, by omega, by decide, by decide, fun M4 r4 fr4 sr4 h40 h41 => da_nil ⟨[.int r3, .int r4], rfl, (by show 2 ≤ sizeLine; decide), de_callC c1 hr (by rfl) ?_⟩⟩
  walk_at "go"
  refine da_nil ⟨a, _, 2, rfl, sr4, by omega, by decide, by decide, fun M5 r5 fr5 sr5 h50 h51 => ?_⟩
  have e5 : ∃ v : Int, 0 ≤ v ∧ v < 12 ∧ atI ([.int r3, .int r4].map Sl.d) r5 = some (dI v) := by
    have c5 : r5 = 0 ∨ r5 = 1 := by omega
    rcases c5 with rfl | rfl
    · exact ⟨r3, by omega, by omega, rfl⟩
    · exact ⟨r4, by omega, by omega, rfl⟩
  obtain ⟨v, v0, v1, ev⟩ := e5
  refine ⟨_, r5, dI v, rfl, rfl, ev, _, _, rfl, rfl, ?_⟩
  have m5p1 : M5 p1 = some (.l (pool12.map dS)) := by rw [fr5 p1 p1a, fr4 p1 p1a, fr3 p1 p1a]; exact m2p1
  have m5p2 : M5 p2 = some (.k []) := by rw [fr5 p2 p2a, fr4 p2 p2a, fr3 p2 p2a]; exact m_p2
  have gx5 : Gx a M M5 := gx2.trans ((fr3.trans fr4).trans fr5).gx
  refine db_cons (ds_for PassesOwn.never rfl (di_range1 (by rfl) b1 ?_))
  walk_at "nm"
  refine ⟨1 + v, rfl, by omega, by omega, ?_⟩
  have hr1 : (1 + v).toNat ≤ 12 ∧ 1 ≤ (1 + v).toNat := by omega
  generalize (1 + v).toNat = many at hr1
  refine ⟨fun i τ' M' => ∃ ys cs y3 y4 y5 y6, τ' = [some (.c a), some (.c p1), some (.c p2), y3, y4, y5, y6] ∧ Gx a M M' ∧ M' p1 = some (.l (ys.map dS)) ∧ M' p2 = some (.k (slK (kdC cs))) ∧ Src M' a (n + 3 + 7 * i) ∧ cs.length = i ∧ ys.length + i = 12 ∧ (ys ++ cs.map (·.1)).Nodup ∧ (∀ y ∈ ys ++ cs.map (·.1), y ∈ pool12) ∧ (∀ p ∈ cs, 0 ≤ p.2 ∧ p.2 ≤ 10 ^ 30), ⟨pool12, [], _, none, none, none, rfl, gx5, m5p1, m5p2, sr5.mono (by omega), rfl, rfl, by simpa using pool12_nd, by simp, by simp⟩, fun _ _ _ _ => trivial, ?_, ?_⟩
  · rintro i y τ' M6 hi rfl ⟨ys, cs, y3, y4, y5, y6, rfl, gx6, mp1, mp2, sr6, lc, ly, nd, mem, val⟩
    refine dg_of (pg_name (i := 4) sc__law_line_counts.nd rfl (.inl rfl)) (wg_name ?_)
    refine db_cons (ds_set (i := 5) sc__law_line_counts.nd rfl (.inl rfl) (de_mL PySem.F.slot_list_pop PySem.F.type_list_pop mt_popAt ?_))
    walk_at "nm"
    refine ⟨⟨rfl, _, by simp only [seqOf, mp1]; rfl⟩, da_cons (de_callC c1 hr (by rfl) (da_cons ?_))⟩
    walk_at "nm"
    refine da_cons (de_callB call_len_seq (by rfl) b2 bt_len (da_cons ?_))
    walk_at "nm"
    refine da_nil (k_len (by simp only [seqOf, mp1]; rfl) (da_nil ⟨a, _, _, rfl, sr6, by omega, by rw [List.length_map]; omega, by rw [List.length_map]; omega, fun M7 r7 fr7 sr7 h70 h71 => ?_⟩))
    rw [List.length_map] at h71
    have hj : r7.toNat < ys.length := by omega
    have er7 : r7 = (r7.toNat : Int) := by omega
    have m7p1 : M7 p1 = some (.l (ys.map dS)) := by rw [fr7 p1 p1a]; exact mp1
    have m7p2 : M7 p2 = some (.k (slK (kdC cs))) := by rw [fr7 p2 p2a]; exact mp2
    have gx7 := gx6.trans fr7.gx
    generalize hjj : r7.toNat = j at hj er7
    refine da_nil (k_popAt (j := j) (z := dS ys[j]) m7p1 (by omega) (by omega) ?_ (by rw [List.getElem?_map, List.getElem?_eq_getElem hj]; rfl) ?_)
    · rw [List.length_map, er7]
      unfold seqIndex?
      simp
      omega
    have e1 : (ys.map dS).eraseIdx j = (ys.eraseIdx j).map dS := eraseIdx_mapS _ _ _
    rw [e1]
    have sr8 := sr7.upd (c := .l ((ys.eraseIdx j).map dS)) p1a
    have gx8 := gx7.put (c := .l ((ys.eraseIdx j).map dS)) hp1
    have m8p1 : updC M7 p1 (.l ((ys.eraseIdx j).map dS)) p1 = some (.l ((ys.eraseIdx j).map dS)) := updC_same
    have m8p2 : updC M7 p1 (.l ((ys.eraseIdx j).map dS)) p2 = some (.k (slK (kdC cs))) := by rw [updC_ne np.symm]; exact m7p2
    generalize updC M7 p1 (.l ((ys.eraseIdx j).map dS)) = M8 at sr8 gx8 m8p1 m8p2
    refine db_cons (ds_set (i := 6) sc__law_line_counts.nd rfl (.inl rfl) (de_lstD (da_cons (de_add (de_int (de_callC c1 hr (by rfl) ?_))))))
    walk_at "go"
    refine da_nil ⟨a, _, 3, rfl, sr8, by omega, by decide, by decide, fun M9 r9 fr9 sr9 h90 h91 => ⟨_, _, rfl, rfl, da_cons (de_add (de_int (de_callC c1 hr (by rfl) ?_)))⟩⟩
    walk_at "go"
    refine da_nil ⟨a, _, 9, rfl, sr9, by omega, by decide, by decide, fun M10 r10 fr10 sr10 h100 h101 => ⟨_, _, rfl, rfl, da_nil ⟨[.int (1 + r9), .int (1 + r10)], rfl, (by show 2 ≤ sizeLine; decide), ?_⟩⟩⟩
    refine db_cons (ds_set (i := 6) sc__law_line_counts.nd rfl (.inl rfl) (de_frz (de_cat ?_)))
    walk_at "nm"
    refine de_lstD (da_cons (de_sub (de_pow (de_int (de_int ⟨_, _, rfl, rfl, powW (k := 4) (by decide) (by decide) (by decide), de_callC c1 hr (by rfl) ?_⟩)))))
    walk_at "go"
    refine da_nil ⟨a, _, 3, rfl, sr10, by omega, by decide, by decide, fun M11 r11 fr11 sr11 h110 h111 => ⟨_, _, rfl, rfl, da_cons (de_callC c1 hr (by rfl) (da_cons ?_))⟩⟩
    walk_at "nm"
    refine da_cons (de_pow (de_int (de_int ⟨_, _, rfl, rfl, powW (k := 4) (by decide) (by decide) (by decide), da_nil ⟨a, _, 10 ^ (30 : Int).toNat, rfl, sr11, by omega, by decide, by decide, fun M12 r12 fr12 sr12 h120 h121 => da_nil ⟨[.int (10 ^ (30 : Int).toNat - r11), .int r12], rfl, (by show 2 ≤ sizeLine; decide), ?_⟩⟩⟩)))
    refine ⟨[dI (1 + r9), dI (1 + r10)], [dI (10 ^ (30 : Int).toNat - r11), dI r12], rfl, rfl, (by show 2 + 2 ≤ sizeLine; decide), fun p3 hp3 => ⟨p3, [.int (1 + r9), .int (1 + r10), .int (10 ^ (30 : Int).toNat - r11), .int r12], rfl, updC_same, ?_⟩⟩
    rw [delC_updC hp3]
    refine db_cons (ds_dput (hu_of hr) (de_ix (de_frz (de_cat ?_))))
    walk_at "nm"
    refine de_lstD (da_cons (de_callC c1 hr (by rfl) ?_))
    walk_at "go"
    refine da_nil ⟨a, _, 2, rfl, sr12, by omega, by decide, by decide, fun M13 r13 fr13 sr13 h130 h131 => da_nil ⟨[.int r13], rfl, (by show 1 ≤ sizeLine; decide), ?_⟩⟩
    refine ⟨[dI (1 + r9), dI (1 + r10), dI (10 ^ (30 : Int).toNat - r11), dI r12], [dI r13], rfl, rfl, (by show 4 + 1 ≤ sizeLine; decide), fun p4 hp4 => ⟨p4, [.int (1 + r9), .int (1 + r10), .int (10 ^ (30 : Int).toNat - r11), .int r12, .int r13], rfl, updC_same, ?_⟩⟩
    rw [delC_updC hp4]
    refine de_callC c1 hr (by rfl) ?_
    walk_at "go"
    refine da_nil ⟨a, _, 5, rfl, sr13, by omega, by decide, by decide, fun M14 r14 fr14 sr14 h140 h141 => ?_⟩
    have e14 : ∃ v : Int, 0 ≤ v ∧ v ≤ 10 ^ 30 ∧ atI ([.int (1 + r9), .int (1 + r10), .int (10 ^ (30 : Int).toNat - r11), .int r12, .int r13].map Sl.d) r14 = some (dI v) := by
      have e30 : (10 : Int) ^ (30 : Int).toNat = 10 ^ 30 := rfl
      rw [e30] at h121 ⊢
      have c14 : r14 = 0 ∨ r14 = 1 ∨ r14 = 2 ∨ r14 = 3 ∨ r14 = 4 := by omega
      rcases c14 with rfl | rfl | rfl | rfl | rfl
      · exact ⟨1 + r9, by omega, by omega, rfl⟩
      · exact ⟨1 + r10, by omega, by omega, rfl⟩
      · exact ⟨10 ^ 30 - r11, by omega, by omega, rfl⟩
      · exact ⟨r12, by omega, by omega, rfl⟩
      · exact ⟨r13, by omega, by omega, rfl⟩
    obtain ⟨v, v0, v1, ev⟩ := e14
    refine ⟨_, r14, dI v, rfl, rfl, ev, ?_⟩
    walk_at "nm"
    walk_at "nm"
    have frA : Fr1 a M8 M14 := ((((fr9.trans fr10).trans fr11).trans fr12).trans fr13).trans fr14
    have m14p1 : M14 p1 = some (.l ((ys.eraseIdx j).map dS)) := by rw [frA p1 p1a]; exact m8p1
    have m14p2 : M14 p2 = some (.k (slK (kdC cs))) := by rw [frA p2 p2a]; exact m8p2
    have gx14 := gx8.trans frA.gx
    have key : (ys.eraseIdx j ++ (cs ++ [(ys[j], v)]).map (·.1)).Perm (ys ++ cs.map (·.1)) := by
      rw [List.map_append, ← List.append_assoc]
      refine (List.perm_append_comm (l₁ := ys.eraseIdx j ++ cs.map (·.1)) (l₂ := [ys[j]])).trans ?_
      show (ys[j] :: (ys.eraseIdx j ++ cs.map (·.1))).Perm _
      rw [← List.cons_append]
      exact (erase_perm ys j hj).append_right _
    have nin : ys[j] ∉ cs.map (·.1) := fun z => (List.nodup_append.mp nd).2.2 _ (List.getElem_mem hj) _ z rfl
    refine ⟨p2, _, .inr ys[j], rfl, m14p2, rfl, ?_, db_nil ⟨ys.eraseIdx j, cs ++ [(ys[j], v)], _, _, _, _, rfl, gx14.put hp2M, by rw [updC_ne np]; exact m14p1, ?_, ?_, ?_, ?_, ?_, ?_, ?_⟩⟩
    · rw [sizeLine_eq]
      simp [slK, kdC]
      omega
    · rw [updC_same, Y.putS_new ?_]
      · simp [slK, kdC, dI]
      · rw [keys_C]
        intro z
        obtain ⟨y, hy, ey⟩ := List.mem_map.mp z
        exact nin ((Sum.inr.inj ey) ▸ hy)
    · exact (sr14.upd p2a).mono (by omega)
    · rw [List.length_append, lc]
      rfl
    · rw [List.length_eraseIdx, if_pos hj]
      omega
    · exact key.nodup_iff.mpr nd
    · exact fun y hy => mem y (key.mem_iff.mp hy)
    · intro p hp
      rcases List.mem_append.mp hp with hp | hp
      · exact val p hp
      · rw [List.mem_singleton.mp hp]
        exact ⟨v0, v1⟩
  · rintro τ' M' ⟨ys, cs, y3, y4, y5, y6, rfl, gx6, mp1, mp2, sr6, lc, ly, nd, mem, val⟩
    refine db_cons (ds_ret ?_)
    walk_at "nm"
    have nd2 : (cs.map (·.1)).Nodup := (List.nodup_append.mp nd).2.1
    have mem2 : ∀ p ∈ cs, p.1 ∈ pool12 := fun p hp => mem _ (List.mem_append_right _ (List.mem_map_of_mem hp))
    exact fin cs p2 _ gx6 p2a hp2M mp2 (sr6.mono (by omega)) ⟨by omega, by omega, nd2, fun p hp => ⟨(pool12_ok _ (mem2 p hp)).1, val p hp⟩⟩ mem2

local macro_rules | `(tactic| walk_at "nm") => `(tactic| first | ((with_reducible refine de_name (x := "content") (i := 0) (s := ?s) ?hN ?hv ?ht ?q ?hd ?hcd); (case hN => rfl); (case hv => walk_at "vis"); (case ht => rfl); (case hd => decide); (case hcd => decide)) | ((with_reducible refine de_name (x := "run") (i := 1) (s := ?s) ?hN ?hv ?ht ?q ?hd ?hcd); (case hN => rfl); (case hv => walk_at "vis"); (case ht => rfl); (case hd => decide); (case hcd => decide)))


def R_with : Rr := fun _ ss M Q => ∃ p c r, ss = [.c p, sRun r] ∧ M p = some (.l (c.map sRun)) ∧ (∀ x ∈ c, okName x.1 = true) ∧ c.length < 1000000 ∧ ∀ p2, M p2 = none → Q (.c p2) (updC M p2 (.l ((withRun c r).map sRun)))
theorem ok_law_with_run (F : FunAt K mg "_law_with_run" s__law_with_run ["content", "run"]) : Cal P w K mg base "_law_with_run" 1 ["content", "run"] R_with := by
  refine cal_of F sc__law_with_run (fun _ ss _ _ ⟨p, c, r, h, _⟩ => by rw [h]; rfl) (fun f cdv A outer s H E L ss M Q hr h => ?_)
  obtain ⟨p0, c, r, rfl, hp0, hn, hl, q⟩ := h
  have hs : seqOf M (.c p0) = some (c.map sRun) := by simp only [seqOf, hp0]
  have hx : lstOf M (.c p0) = some (c.map sRun) := by simp only [lstOf, hp0]
  have tst : ∀ {p1 p2 : Pos} {QB : Bool → Cs → Prop}, QB (!decide (c = [])) M → R2k (cxF P w K mg base ["content", "run"] "_law_with_run" s__law_with_run f cdv A outer s H E).K L (rNeD K) (.c p0) (.d (.list [])) M (BoolQ QB) := fun q => by
    refine k_neD (isd_runs hp0) (.d (.list [])) (shaped_runs c hn) (by decide +kernel) ?_
    rw [show PyData.eqv (.list (c.map eRun)) (.list []) = decide (c = []) from eqv_list eRun eqv_run c []]
    exact ⟨_, rfl, q⟩
  have other : withRun c r = c ++ [r] → DB (cxF P w K mg base ["content", "run"] "_law_with_run" s__law_with_run f cdv A outer s H E) L ((defBody s__law_with_run).tail) [some (.c p0), some (sRun r)] M { nx := fun _ M' => Q (.d .none) M', rt := Q } := fun e => by
    refine db_cons (ds_ret (de_gc (de_cat ?_)))
    walk_at "nm"
    refine de_lstC (da_cons ?_)
    walk_at "nm"
    refine da_nil ⟨(by show 1 ≤ sizeLine; decide), fun p hp => ⟨c.map sRun, [sRun r], lstOf_updC hx hp, by simp only [lstOf, updC_same], (by rw [List.length_map, sizeLine_eq]; simp; omega), fun p2 hp2 => ?_⟩⟩
    have hs1 : Sub M (updC M p (.l [sRun r])) := (Sub.refl M).new hp
    refine ⟨updC M p2 (.l ((withRun c r).map sRun)), ?_, q p2 (hs1.none hp2)⟩
    rw [e, List.map_append]
    exact hs1.cong
  cases hlast : c.getLast? with
  | none =>
    have hc : c = [] := List.getLast?_eq_none_iff.mp hlast
    refine db_cons (ds_ifF (dt_and3 (dt_cmp (op_neD hr.units) ?_ (nomark _))) (db_nil (other (by unfold withRun; rw [hlast]))))
    walk_at "nm"
    refine de_lstD (da_nil ⟨[], rfl, Nat.zero_le _, tst (p1 := ⟨0,0,0,0⟩) (p2 := ⟨0,0,0,0⟩) ⟨fun z => absurd z (by simp [hc]), fun _ => ⟨rfl, rfl⟩⟩⟩)
  | some l =>
    have hne : c ≠ [] := fun e => by rw [e] at hlast; cases hlast
    have hlastS : (c.map sRun).getLast? = some (sRun l) := by rw [List.getLast?_map, hlast]; rfl
    refine db_cons (ds_ifB (cont l r) (dt_and3 (dt_cmp (op_neD hr.units) ?_ (nomark _))) (fun h1 => ?_) (fun h1 => db_nil (other (by unfold withRun; rw [hlast]; simp only [h1]; rw [if_neg Bool.false_ne_true]))))
    · walk_at "nm"
      refine de_lstD (da_nil ⟨[], rfl, Nat.zero_le _, tst (p1 := ⟨0,0,0,0⟩) (p2 := ⟨0,0,0,0⟩) ⟨fun _ => dt_cmp op_eq (de_ix (de_ix ?_)) (nomark _), fun z => absurd z (by simp [hne])⟩⟩)
      walk_at "nm"
      refine de_neg (de_int ⟨1, rfl, c.map sRun, _, sRun l, hs, rfl, atI_l hlastS, de_int ⟨_, _, .d (.str l.1), rfl, rfl, rfl, de_ix ?_⟩⟩)
      walk_at "nm"
      refine de_int ⟨_, _, .d (.str r.1), rfl, rfl, rfl, k_eqS ⟨_, rfl, fun h2 => dt_cmp op_eq (de_add (de_ix (de_ix ?_))) (nomark _), fun h2 => ⟨?_, rfl⟩⟩⟩
      · walk_at "nm"
        refine de_neg (de_int ⟨1, rfl, c.map sRun, _, sRun l, hs, rfl, atI_l hlastS, de_int ⟨_, _, .d (.int l.2.2), rfl, rfl, rfl, de_int ⟨_, _, rfl, rfl, de_ix ?_⟩⟩⟩)
        walk_at "nm"
        refine de_int ⟨_, _, .d (.int r.2.1), rfl, rfl, rfl, k_eqI ⟨_, rfl, ?_, rfl⟩⟩
        rw [decide_eq_true_eq] at h2
        unfold cont
        rw [decide_eq_true h2.symm, Bool.true_and]
        by_cases e : l.2.2 + 1 = r.2.1
        · rw [decide_eq_true e, decide_eq_true e.symm]
        · rw [decide_eq_false e, decide_eq_false (fun z => e z.symm)]
      · rw [decide_eq_false_iff_not] at h2
        unfold cont
        rw [decide_eq_false (fun z => h2 z.symm), Bool.false_and]
    · refine db_cons (ds_ret (de_gc (de_cat (de_slHi ?_))))
      walk_at "nm"
      refine de_neg (de_int ⟨1, rfl, _, rfl, c.map sRun, rfl, hs, fun p hp => de_lstC (da_cons (de_tupD (da_cons (de_ix ?_))))⟩)
      walk_at "nm"
      refine de_int ⟨_, _, .d (.str r.1), rfl, rfl, rfl, da_cons (de_ix (de_ix ?_))⟩
      walk_at "nm"
      refine de_neg (de_int ⟨1, rfl, c.map sRun, _, sRun l, seqOf_updC hs hp, rfl, atI_l hlastS, de_int ⟨_, _, .d (.int l.2.1), rfl, rfl, rfl, da_cons (de_ix ?_)⟩⟩)
      walk_at "nm"
      refine de_int ⟨_, _, .d (.int r.2.2), rfl, rfl, rfl, da_nil ⟨[.str r.1, .int l.2.1, .int r.2.2], rfl, (by show 3 ≤ sizeLine; decide), da_nil ⟨(by show 1 ≤ sizeLine; decide), fun p2 hp2 => ?_⟩⟩⟩
      have np : p ≠ p2 := fun e => by rw [← e, updC_same] at hp2; cases hp2
      refine ⟨(c.dropLast).map sRun, [sRun (r.1, l.2.1, r.2.2)], ?_, by simp only [lstOf, updC_same]; rfl, ?_, fun p3 hp3 => ?_⟩
      · simp only [lstOf, updC_ne np, updC_same]
        rw [dropLast_cut, List.map_dropLast]
      · rw [List.length_map, List.length_dropLast, sizeLine_eq]
        simp
        omega
      · have hs1 : Sub M (updC (updC M p (.l (cutG (c.map sRun) none (some (-1))))) p2 (.l [sRun (r.1, l.2.1, r.2.2)])) := ((Sub.refl M).new hp).new hp2
        refine ⟨updC M p3 (.l ((withRun c r).map sRun)), ?_, q p3 (hs1.none hp3)⟩
        have e : (withRun c r).map sRun = (c.dropLast).map sRun ++ [sRun (r.1, l.2.1, r.2.2)] := by
          unfold withRun
          rw [hlast]
          simp only [h1, if_true]
          rw [List.map_append]
          rfl
        rw [e]
        exact hs1.cong

end

end Pg

namespace Pg
open PySem L2 Y PyProof.Rows

local macro_rules | `(tactic| walk_at "vis") => `(tactic| first | exact Or.inl rfl | exact Or.inr (Or.inl rfl) | exact Or.inr (Or.inr rfl))
local macro_rules | `(tactic| walk_at "e1") => `(tactic| first | walk_at "nm" | refine de_int ?_ | refine de_add ?_ | refine de_sub ?_ | refine de_str ?_ | refine de_non ?_ | refine de_bl ?_)
local macro_rules | `(tactic| walk_at "go") => `(tactic| repeat (first | ((with_reducible show DE _ _ _ _ _ _); walk_at "e1") | ((with_reducible show DA _ _ _ _ _ _); refine da_cons ?_) | refine ⟨_, _, rfl, rfl, ?_⟩))


theorem getC_some2 {cs : Cnt} {z : Str} {v : Int} (h : getC cs z = some v) : ∃ p ∈ cs, p.1 = z ∧ p.2 = v := by
  unfold getC at h
  cases e : cs.find? fun p => decide (p.1 = z) with
  | none => rw [e] at h; cases h
  | some p =>
    rw [e] at h
    exact ⟨p, List.mem_of_find?_eq_some e, of_decide_eq_true (p := p.1 = z) (List.find?_some (p := fun p : Str × Int => decide (p.1 = z)) e), Option.some.inj h⟩
theorem getD_last (c : List Y.Run) (z : Str) : (((getC (latC [] c) z).map dI).getD (dI 0)) = dI (lastN c z) := by
  unfold lastN
  cases getC (latC [] c) z <;> rfl
/-- the writers of a content are some of these -/
theorem lat_len {rows : Cnt} : ∀ {c : List Y.Run}, (∀ r ∈ c, (getC rows r.1).isSome = true) → True := fun _ => trivial
section
variable {P : Program} {w : World} {K : PySem.W.Frag} {mg : Str → Option Value} {base : Heap}

local macro_rules | `(tactic| walk_at "nm") => `(tactic| first | ((with_reducible refine de_name (x := "source") (i := 0) (s := ?s) ?hN ?hv ?ht ?q ?hd ?hcd); (case hN => rfl); (case hv => walk_at "vis"); (case ht => rfl); (case hd => decide); (case hcd => decide)) | ((with_reducible refine de_name (x := "counts") (i := 1) (s := ?s) ?hN ?hv ?ht ?q ?hd ?hcd); (case hN => rfl); (case hv => walk_at "vis"); (case ht => rfl); (case hd => decide); (case hcd => decide)) | ((with_reducible refine de_name (x := "most") (i := 2) (s := ?s) ?hN ?hv ?ht ?q ?hd ?hcd); (case hN => rfl); (case hv => walk_at "vis"); (case ht => rfl); (case hd => decide); (case hcd => decide)) | ((with_reducible refine de_name (x := "found") (i := 3) (s := ?s) ?hN ?hv ?ht ?q ?hd ?hcd); (case hN => rfl); (case hv => walk_at "vis"); (case ht => rfl); (case hd => decide); (case hcd => decide)) | ((with_reducible refine de_name (x := "ends") (i := 4) (s := ?s) ?hN ?hv ?ht ?q ?hd ?hcd); (case hN => rfl); (case hv => walk_at "vis"); (case ht => rfl); (case hd => decide); (case hcd => decide)) | ((with_reducible refine de_name (x := "turn") (i := 5) (s := ?s) ?hN ?hv ?ht ?q ?hd ?hcd); (case hN => rfl); (case hv => walk_at "vis"); (case ht => rfl); (case hd => decide); (case hcd => decide)) | ((with_reducible refine de_name (x := "some") (i := 6) (s := ?s) ?hN ?hv ?ht ?q ?hd ?hcd); (case hN => rfl); (case hv => walk_at "vis"); (case ht => rfl); (case hd => decide); (case hcd => decide)) | ((with_reducible refine de_name (x := "writer") (i := 7) (s := ?s) ?hN ?hv ?ht ?q ?hd ?hcd); (case hN => rfl); (case hv => walk_at "vis"); (case ht => rfl); (case hd => decide); (case hcd => decide)) | ((with_reducible refine de_name (x := "remaining") (i := 8) (s := ?s) ?hN ?hv ?ht ?q ?hd ?hcd); (case hN => rfl); (case hv => walk_at "vis"); (case ht => rfl); (case hd => decide); (case hcd => decide)) | ((with_reducible refine de_name (x := "skip") (i := 9) (s := ?s) ?hN ?hv ?ht ?q ?hd ?hcd); (case hN => rfl); (case hv => walk_at "vis"); (case ht => rfl); (case hd => decide); (case hcd => decide)) | ((with_reducible refine de_name (x := "more") (i := 10) (s := ?s) ?hN ?hv ?ht ?q ?hd ?hcd); (case hN => rfl); (case hv => walk_at "vis"); (case ht => rfl); (case hd => decide); (case hcd => decide)) | ((with_reducible refine de_name (x := "first") (i := 11) (s := ?s) ?hN ?hv ?ht ?q ?hd ?hcd); (case hN => rfl); (case hv => walk_at "vis"); (case ht => rfl); (case hd => decide); (case hcd => decide)))


def R_content : Rr := fun _ ss M Q => ∃ (a pc : Addr) (n : Nat) (rows : Cnt) (most : Nat), ss = [.c a, .c pc, dI most] ∧ Src M a n ∧ n < 800000000 ∧ pc ≠ a ∧ M pc = some (.k (slK (kdC rows))) ∧ okCnt rows ∧ most ≤ 200 ∧ ∀ c p M', Gx a M M' → p ≠ a → M p = none → M' p = some (.l (c.map sRun)) → Src M' a (n + 2000) → CtOk rows c → c.length ≤ most → Q (.c p) M'
set_option maxHeartbeats 8000000 in
theorem ok_law_content (F : FunAt K mg "_law_content" s__law_content ["source", "counts", "most"]) (c1 : Cal P w K mg base "_law_draw" 1 ["source", "limit"] R_draw) (b1 : mg "range" = none) (b2 : mg "sorted" = none) (b3 : mg "len" = none) (b4 : mg "min" = none) (b5 : mg "int" = none) : Cal P w K mg base "_law_content" 2 ["source", "counts", "most"] R_content := by
  refine cal_of F sc__law_content (fun _ ss _ _ ⟨a, pc, n, rows, most, h, _⟩ => by rw [h]; rfl) (fun f cdv A outer s H E L us M Q hr h => ?_)
  obtain ⟨a, pc, n, rows, most, rfl, sr, hn, pca, mpc, okr, hmost, fin⟩ := h
  have okr' := okr
  obtain ⟨l1, l2, nd, okp⟩ := okr'
  have val : ∀ {z : Str} {v : Int}, getC rows z = some v → okName z = true ∧ 0 ≤ v ∧ v ≤ 10 ^ 30 := fun h => by
    obtain ⟨p, hp, rfl, rfl⟩ := getC_some2 h
    exact okp p hp
  refine db_cons (ds_asg (de_tup (da_cons (de_lstC (da_nil ⟨Nat.zero_le _, fun pf hpf => ?_⟩)))))
  have sub_M1 : Sub M (updC M pf (.l [])) := (Sub.refl _).new hpf
  have m_pf : updC M pf (.l []) pf = some (.l []) := updC_same
  generalize updC M pf (.l []) = M1 at sub_M1 m_pf
  refine da_cons (de_dictC fun pe hpe => ?_)
  have sub_M2 : Sub M1 (updC M1 pe (.k [])) := (Sub.refl _).new hpe
  have m_pe : updC M1 pe (.k []) pe = some (.k []) := updC_same
  generalize updC M1 pe (.k []) = M2 at sub_M2 m_pe
  have sub2 : Sub M M2 := Sub.trans sub_M1 sub_M2
  have pfa := sr.ne hpf
  have pea := (sr.sub sub_M1).ne hpe
  have hpeM : M pe = none := sub_M1.none hpe
  have nfe : pf ≠ pe := neC m_pf hpe
  have m2f := sub_M2 _ _ m_pf
  have sr2 := sr.sub sub2
  have gx2 : Gx a M M2 := Sub.gx sub2
  refine da_nil ⟨(by show 2 ≤ sizeLine; decide), ?_⟩
  refine dg_of (pg_tup rfl (pgs_cons (pg_name (i := 3) sc__law_content.nd rfl (.inr rfl)) (pgs_cons (pg_name (i := 4) sc__law_content.nd rfl (.inr rfl)) pgs_nil))) (wg_tup rfl rfl rfl (wgs_cons (wg_name (wgs_cons (wg_name (wgs_nil ?_))))))
  refine db_cons (ds_for PassesOwn.never rfl (di_range1 (by rfl) b1 (de_callC c1 hr (by rfl) ?_)))
  walk_at "go"
  refine da_nil ⟨a, _, (most : Int) + 1, rfl, sr2, by omega, by omega, by omega, fun M3 r3 fr3 sr3 h30 h31 => ?_⟩
  refine ⟨r3, rfl, by omega, by omega, ?_⟩
  have hr3 : r3.toNat ≤ most := by omega
  generalize r3.toNat = many at hr3
  have m3f : M3 pf = some (.l []) := by rw [fr3 pf pfa]; exact m2f
  have m3e : M3 pe = some (.k []) := by rw [fr3 pe pea]; exact m_pe
  have gx3 : Gx a M M3 := gx2.trans fr3.gx
  refine ⟨fun i τ' M' => ∃ c y5 y6 y7 y8 y9 y10 y11, τ' = [some (.c a), some (.c pc), some (dI most), some (.c pf), some (.c pe), y5, y6, y7, y8, y9, y10, y11] ∧ Gx a M M' ∧ M' pf = some (.l (c.map sRun)) ∧ M' pe = some (.k (slK (kdC (latC [] c)))) ∧ Src M' a (n + 1 + 5 * i) ∧ CtOk rows c ∧ c.length ≤ i, ⟨[], none, none, none, none, none, none, none, rfl, gx3, m3f, m3e, sr3.mono (by omega), ctOk_nil _, Nat.le_refl _⟩, fun _ _ _ _ => trivial, ?_, ?_⟩
  · rintro i y τ' M4 hi rfl ⟨c, y5, y6, y7, y8, y9, y10, y11, rfl, gx4, m4f, m4e, sr4, ok4, hc4⟩
    refine dg_of (pg_name (i := 5) sc__law_content.nd rfl (.inl rfl)) (wg_name ?_)
    have m4c : M4 pc = some (.k (slK (kdC rows))) := gx4 _ _ pca mpc
    have okn : ∀ r ∈ c, okName r.1 = true := fun r h => (ok4.1.1 r h).1
    refine db_cons (ds_setLc1 (i := 6) (own := [("writer", 7)]) (g := gName 7) rfl sc__law_content.nd rfl rfl (by with_unfolding_all rfl) (blkOk_by (own := [("writer", 7)]) (N := ["source", "counts", "most", "found", "ends", "turn", "some", "writer", "remaining", "skip", "more", "first"]) (sc := defScope s__law_content) (by decide +kernel)) (fun _ _ _ _ _ => pg_name (i := 7) sc__law_content.nd rfl (.inl rfl)) (di_seq (de_callB (call_sortedD rfl) (by rfl) b2 bt_sorted (da_cons ?_))))
    walk_at "nm"
    refine da_nil (k_sortedD (.c m4c) (keys_C rows) (by rw [List.length_map]; omega) fun ys p0 hperm hsort hp0 => ?_)
    have hmem : ∀ y ∈ ys, ∃ v, getC rows y = some v := fun y hy => by
      obtain ⟨p, hp, e⟩ := List.mem_map.mp (hperm.mem_iff.mp hy)
      exact ⟨p.2, by rw [← e]; exact getC_mem nd hp⟩
    have hyl : ys.length ≤ 12 := by rw [hperm.length_eq, List.length_map]; exact l2
    have sub_M5 : Sub M4 (updC M4 p0 (.l (ys.map dS))) := (Sub.refl _).new hp0
    have m_p0 : updC M4 p0 (.l (ys.map dS)) p0 = some (.l (ys.map dS)) := updC_same
    generalize updC M4 p0 (.l (ys.map dS)) = M5 at sub_M5 m_p0
    have m5c := sub_M5 _ _ m4c
    have m5e := sub_M5 _ _ m4e
    have m5f := sub_M5 _ _ m4f
    have sr5 := sr4.sub sub_M5
    have gx5 : Gx a M M5 := gx4.trans (Sub.gx sub_M5)
    refine ⟨ys.map dS, by simp only [seqOf, m_p0], fun D hD => ?_⟩
    have hDa := sr5.ne hD
    have hDM : M D = none := gx5.none hD hDa
    have nDc : pc ≠ D := neC m5c hD
    have nDe : pe ≠ D := neC m5e hD
    have nDf : pf ≠ D := neC m5f hD
    have nD0 : p0 ≠ D := neC m_p0 hD
    refine ⟨fun j M' => ∃ ws : List Str, ws.length ≤ j ∧ M' = updC M5 D (.l (ws.map dS)) ∧ ∀ y ∈ ws, ∃ v, getC rows y = some v ∧ lastN c y < v, ⟨[], Nat.le_refl _, rfl, fun _ z => (nomatch z)⟩, ?_, ?_, ?_⟩
    · rintro j M' ⟨ws, _, rfl, _⟩
      simp only [seqOf, updC_ne nD0, m_p0]
    · rintro j y M' hj hy ⟨ws, hw, rfl, hws⟩
      rw [List.length_map] at hj
      have hy' : y = dS ys[j] := by
        rw [List.getElem?_map, List.getElem?_eq_getElem hj] at hy
        exact (Option.some.inj hy).symm
      subst hy'
      obtain ⟨v, hv⟩ := hmem _ (List.getElem_mem hj)
      have m6e : updC M5 D (.l (ws.map dS)) pe = some (.k (slK (kdC (latC [] c)))) := by rw [updC_ne nDe]; exact m5e
      have m6c : updC M5 D (.l (ws.map dS)) pc = some (.k (slK (kdC rows))) := by rw [updC_ne nDc]; exact m5c
      refine wgw_name (by simp) ?_
      intro s0' H0 C cl fp
      refine dt_cmp op_lt (de_dget2 (hu_of hr) ?_) (by with_unfolding_all rfl)
      walk_at "nm"
      refine ⟨⟨_, .c m6e⟩, ?_⟩
      walk_at "nm"
      refine de_int ⟨_, .inr ys[j], .c m6e, rfl, ?_⟩
      rw [valS_C, show (Sl.d (PyData.int 0)) = dI 0 from rfl, getD_last]
      refine de_dget (hu_of hr) ?_
      walk_at "nm"
      walk_at "nm"
      refine ⟨_, .inr ys[j], dI v, .c m6c, rfl, by rw [valS_C, hv]; rfl, k_bool ⟨_, rfl, fun h => ?_, fun _ => ⟨ws, by omega, rfl, hws⟩⟩⟩
      intro s0' H0 C cl fp
      walk_at "nm"
      refine ⟨_, updC_same, ?_, ws ++ [ys[j]], ?_, ?_, ?_⟩
      · rw [List.length_map, sizeLine_eq]
        omega
      · rw [List.length_append]
        simp
        omega
      · rw [updC_updC, List.map_append]
        rfl
      · intro z hz
        rcases List.mem_append.mp hz with hz | hz
        · exact hws z hz
        · rw [List.mem_singleton.mp hz]
          exact ⟨v, hv, of_decide_eq_true h⟩
    rintro M' ⟨ws, hw, rfl, hws⟩
    rw [List.length_map] at hw
    have m7D : updC M5 D (.l (ws.map dS)) D = some (.l (ws.map dS)) := updC_same
    have m7e : updC M5 D (.l (ws.map dS)) pe = some (.k (slK (kdC (latC [] c)))) := by rw [updC_ne nDe]; exact m5e
    have m7f : updC M5 D (.l (ws.map dS)) pf = some (.l (c.map sRun)) := by rw [updC_ne nDf]; exact m5f
    have sr7 := sr5.upd (c := .l (ws.map dS)) hDa
    have gx7 := gx5.put (c := .l (ws.map dS)) hDM
    generalize updC M5 D (.l (ws.map dS)) = M7 at m7D m7e m7f sr7 gx7
    refine db_cons (ds_setLc1 (i := 6) (own := [("writer", 7)]) (g := gName 7) rfl sc__law_content.nd rfl rfl (by with_unfolding_all rfl) (blkOk_by (own := [("writer", 7)]) (N := ["source", "counts", "most", "found", "ends", "turn", "some", "writer", "remaining", "skip", "more", "first"]) (sc := defScope s__law_content) (by decide +kernel)) (fun _ _ _ _ _ => pg_name (i := 7) sc__law_content.nd rfl (.inl rfl)) (di_seq ?_))
    walk_at "nm"
    refine ⟨ws.map dS, by simp only [seqOf, m7D], fun D2 hD2 => ?_⟩
    have hD2a := sr7.ne hD2
    have hD2M : M D2 = none := gx7.none hD2 hD2a
    have nEc : pc ≠ D2 := neC (gx7 _ _ pca mpc) hD2
    have nEe : pe ≠ D2 := neC m7e hD2
    have nEf : pf ≠ D2 := neC m7f hD2
    have nED : D ≠ D2 := neC m7D hD2
    refine ⟨fun j M' => ∃ us : List Str, us.length ≤ j ∧ M' = updC M7 D2 (.l (us.map dS)) ∧ ∀ y ∈ us, (∃ v, getC rows y = some v ∧ lastN c y < v) ∧ ∀ l, c.getLast? = some l → l.1 ≠ y, ⟨[], Nat.le_refl _, rfl, fun _ z => (nomatch z)⟩, ?_, ?_, ?_⟩
    · rintro j M' ⟨us, _, rfl, _⟩
      simp only [seqOf, updC_ne nED, m7D]
    · rintro j y M' hj hy ⟨us, hu, rfl, hus⟩
      rw [List.length_map] at hj
      have hy' : y = dS ws[j] := by
        rw [List.getElem?_map, List.getElem?_eq_getElem hj] at hy
        exact (Option.some.inj hy).symm
      subst hy'
      have hwj := hws _ (List.getElem_mem hj)
      generalize ws[j] = wr at hwj
      have m8f : updC M7 D2 (.l (us.map dS)) pf = some (.l (c.map sRun)) := by rw [updC_ne nEf]; exact m7f
      have s8f : seqOf (updC M7 D2 (.l (us.map dS))) (.c pf) = some (c.map sRun) := by simp only [seqOf, m8f]
      have lus : (us.map dS).length < sizeLine := by
        rw [List.length_map, sizeLine_eq]
        omega
      have lus2 : (us ++ [wr]).length ≤ j + 1 := by
        rw [List.length_append]
        simp
        omega
      have eus : updC (updC M7 D2 (.l (us.map dS))) D2 (.l (us.map dS ++ [dS wr])) = updC M7 D2 (.l ((us ++ [wr]).map dS)) := by
        rw [updC_updC, List.map_append]
        rfl
      have mus : (∀ l, c.getLast? = some l → l.1 ≠ wr) → ∀ y ∈ us ++ [wr], (∃ v, getC rows y = some v ∧ lastN c y < v) ∧ ∀ l, c.getLast? = some l → l.1 ≠ y := fun h z hz => by
        rcases List.mem_append.mp hz with hz | hz
        · exact hus z hz
        · rw [List.mem_singleton.mp hz]
          exact ⟨hwj, h⟩
      refine wgw_name (by simp) ?_
      intro s0' H0 C cl fp
      refine dt_or2 (dt_cmp (op_eqD hr.units) ?_ (by with_unfolding_all rfl))
      walk_at "nm"
      refine de_lstD (da_nil ⟨[], rfl, Nat.zero_le _, k_eqD (isd_runs m8f) (.d (.list [])) (shaped_runs c okn) (by decide +kernel) ?_⟩)
      rw [show PyData.eqv (.list (c.map eRun)) (.list []) = decide (c = []) from eqv_list eRun eqv_run c []]
      refine ⟨_, rfl, fun he => ⟨fun _ => ?_, no2⟩, fun hne => ?_⟩
      · intro s0' H0 C cl fp
        walk_at "nm"
        have he := of_decide_eq_true he
        exact ⟨_, updC_same, lus, us ++ [wr], lus2, eus, mus fun l hl => by rw [he] at hl; cases hl⟩
      · have hne := of_decide_eq_false hne
        obtain ⟨l, hl⟩ : ∃ l, c.getLast? = some l := ⟨_, List.getLast?_eq_some_getLast hne⟩
        have hlS : (c.map sRun).getLast? = some (sRun l) := by rw [List.getLast?_map, hl]; rfl
        refine dt_cmp op_ne (de_ix (de_ix ?_)) (by with_unfolding_all rfl)
        walk_at "nm"
        refine de_neg (de_int ⟨1, rfl, c.map sRun, _, sRun l, s8f, rfl, atI_l hlS, de_int ⟨_, _, dS l.1, rfl, rfl, rfl, ?_⟩⟩)
        walk_at "nm"
        refine k_neS ⟨_, rfl, fun h => ?_, fun _ => ⟨us, by omega, rfl, hus⟩⟩
        intro s0' H0 C cl fp
        walk_at "nm"
        exact ⟨_, updC_same, lus, us ++ [wr], lus2, eus, mus fun l' hl' => by rw [hl] at hl'; cases hl'; simpa using h⟩
    rintro M' ⟨us, hu, rfl, hus⟩
    rw [List.length_map] at hu
    have m8D : updC M7 D2 (.l (us.map dS)) D2 = some (.l (us.map dS)) := updC_same
    have m8e : updC M7 D2 (.l (us.map dS)) pe = some (.k (slK (kdC (latC [] c)))) := by rw [updC_ne nEe]; exact m7e
    have m8f : updC M7 D2 (.l (us.map dS)) pf = some (.l (c.map sRun)) := by rw [updC_ne nEf]; exact m7f
    have sr8 := sr7.upd (c := .l (us.map dS)) hD2a
    have gx8 := gx7.put (c := .l (us.map dS)) hD2M
    generalize updC M7 D2 (.l (us.map dS)) = M8 at m8D m8e m8f sr8 gx8
    have okus : ∀ y ∈ us, okName y = true := fun y hy => by
      obtain ⟨⟨v, hv, _⟩, _⟩ := hus y hy
      exact (val hv).1
    have isw : Y.IsD M8 (.c D2) (.list (us.map PyData.str)) := IsD.cell (by rw [m8D, List.map_map]; rfl)
    refine db_cons (ds_if (dt_cmp (op_neD hr.units) ?_ (by with_unfolding_all rfl)))
    walk_at "nm"
    refine de_lstD (da_nil ⟨[], rfl, Nat.zero_le _, k_neD isw (.d (.list [])) (shaped_list PyData.str us 0 (by decide) (fun y hy => strOk_name (okus y hy)) (fun _ _ => Nat.le_refl 0)) (by decide +kernel) ?_⟩)
    rw [show PyData.eqv (.list (us.map PyData.str)) (.list []) = decide (us = []) from eqv_list PyData.str eqv_str us []]
    refine ⟨_, rfl, fun hne => ?_, fun _ => db_nil (db_nil ⟨c, _, _, _, _, _, _, _, rfl, gx8, m8f, m8e, sr8.mono (by omega), ok4, by omega⟩)⟩
    have hune : us ≠ [] := by simpa using hne
    have hupos : 0 < us.length := List.length_pos_iff.mpr hune
    refine db_cons (ds_set (i := 7) sc__law_content.nd rfl (.inl rfl) (de_ix ?_))
    walk_at "nm"
    refine de_callC c1 hr (by rfl) (da_cons ?_)
    walk_at "nm"
    refine da_cons (de_callB call_len_seq (by rfl) b3 bt_len (da_cons ?_))
    walk_at "nm"
    refine da_nil (k_len (by simp only [seqOf, m8D]; rfl) (da_nil ⟨a, _, _, rfl, sr8, by omega, by rw [List.length_map]; omega, by rw [List.length_map]; omega, fun M9 r9 fr9 sr9 h90 h91 => ?_⟩))
    rw [List.length_map] at h91
    have hj : r9.toNat < us.length := by omega
    have m9D : M9 D2 = some (.l (us.map dS)) := by rw [fr9 D2 hD2a]; exact m8D
    refine ⟨us.map dS, ((r9.toNat : Nat) : Int), dS us[r9.toNat], by simp only [seqOf, m9D], (by rw [Int.toNat_of_nonneg h90]; rfl), atI_nat (by rw [List.getElem?_map, List.getElem?_eq_getElem hj]; rfl), ?_⟩
    obtain ⟨⟨v, hv, hvl⟩, hlast⟩ := hus _ (List.getElem_mem hj)
    obtain ⟨vn, _, v1⟩ := val hv
    generalize us[r9.toNat] = wr at hv vn hvl hlast
    have m9c : M9 pc = some (.k (slK (kdC rows))) := by rw [fr9 pc pca]; exact gx8 _ _ pca mpc
    have m9e : M9 pe = some (.k (slK (kdC (latC [] c)))) := by rw [fr9 pe pea]; exact m8e
    have hL0 : 0 ≤ lastN c wr := lastN_nonneg ok4.1 wr
    generalize hL : lastN c wr = ln at hvl hL0
    refine db_cons (ds_set (i := 8) sc__law_content.nd rfl (.inl rfl) (de_sub (de_dget (hu_of hr) ?_)))
    walk_at "nm"
    walk_at "nm"
    refine ⟨_, .inr wr, dI v, .c m9c, rfl, by rw [valS_C, hv]; rfl, de_dget2 (hu_of hr) ?_⟩
    walk_at "nm"
    refine ⟨⟨_, .c m9e⟩, ?_⟩
    walk_at "nm"
    refine de_int ⟨_, .inr wr, .c m9e, rfl, ?_⟩
    rw [valS_C, show (Sl.d (PyData.int 0)) = dI 0 from rfl, getD_last, hL]
    refine ⟨_, _, rfl, rfl, ?_⟩
    refine db_cons (ds_set (i := 9) sc__law_content.nd rfl (.inl rfl) (de_mul (de_callB (call_min2 rfl) (by rfl) b4 bt_min (da_cons (de_sub ?_)))))
    walk_at "go"
    refine de_ix (de_lstD ?_)
    walk_at "go"
    refine de_callC c1 hr (by rfl) ?_
    walk_at "go"
    refine da_nil ⟨a, _, v - ln, rfl, sr9, by omega, by omega, by omega, fun M10 r10 fr10 sr10 h100 h101 => da_nil ⟨[.int 0, .int 0, .int 1, .int r10], rfl, (by show 4 ≤ sizeLine; decide), de_callC c1 hr (by rfl) ?_⟩⟩
    walk_at "go"
    refine da_nil ⟨a, _, 4, rfl, sr10, by omega, by decide, by decide, fun M11 r11 fr11 sr11 h110 h111 => ?_⟩
    have e11 : ∃ u : Int, 0 ≤ u ∧ atI ([.int 0, .int 0, .int 1, .int r10].map Sl.d) r11 = some (dI u) := by
      have c11 : r11 = 0 ∨ r11 = 1 ∨ r11 = 2 ∨ r11 = 3 := by omega
      rcases c11 with rfl | rfl | rfl | rfl
      · exact ⟨0, by decide, rfl⟩
      · exact ⟨0, by decide, rfl⟩
      · exact ⟨1, by decide, rfl⟩
      · exact ⟨r10, h100, rfl⟩
    obtain ⟨u, u0, eu⟩ := e11
    have frA : Fr1 a M9 M11 := fr10.trans fr11
    have m11f : M11 pf = some (.l (c.map sRun)) := by rw [frA pf pfa, fr9 pf pfa]; exact m8f
    refine ⟨_, r11, dI u, rfl, rfl, eu, da_nil (k_min2 ?_)⟩
    refine de_callT call_int1 (by rfl) b5 bt_int (da_cons (de_cmp (op_neD hr.units) ?_ (by with_unfolding_all rfl)))
    walk_at "nm"
    refine de_lstD (da_nil ⟨[], rfl, Nat.zero_le _, k_neD (isd_runs m11f) (.d (.list [])) (shaped_runs c okn) (by decide +kernel) ?_⟩)
    rw [show PyData.eqv (.list (c.map eRun)) (.list []) = decide (c = []) from eqv_list eRun eqv_run c []]
    have hb : ∃ e : Int, (if (!decide (c = [])) = true then (1 : Int) else 0) = e ∧ 0 ≤ e ∧ e ≤ 1 ∧ (c = [] → e = 0) := by
      by_cases e : c = []
      · exact ⟨0, by simp [e], by decide, by decide, fun _ => rfl⟩
      · exact ⟨1, by simp [e], by decide, by decide, fun h => absurd h e⟩
    obtain ⟨e, ee, e0, e1, e2⟩ := hb
    refine da_nil (k_intB ⟨_, _, rfl, rfl, ?_⟩)
    rw [ee]
    have hs : ∃ sk : Int, (if u < v - ln - 1 then u else v - ln - 1) * e = sk ∧ 0 ≤ sk ∧ sk ≤ v - ln - 1 ∧ (c = [] → sk = 0) := by
      have ce : e = 0 ∨ e = 1 := by omega
      rcases ce with rfl | rfl
      · exact ⟨0, by simp, by omega, by omega, fun _ => rfl⟩
      · refine ⟨_, Int.mul_one _, ?_, ?_, fun h => absurd (e2 h) (by decide)⟩
        · split <;> omega
        · split <;> omega
    obtain ⟨sk, esk, sk0, sk1, sk2⟩ := hs
    refine ⟨.inr ⟨by omega, by omega⟩, ?_⟩
    rw [esk]
    have m11e : M11 pe = some (.k (slK (kdC (latC [] c)))) := by rw [frA pe pea]; exact m9e
    have gx11 : Gx a M M11 := (gx8.trans fr9.gx).trans frA.gx
    refine db_cons (ds_set (i := 10) sc__law_content.nd rfl (.inl rfl) (de_callB (call_min2 rfl) (by rfl) b4 bt_min (da_cons ?_)))
    walk_at "go"
    refine de_ix (de_lstD ?_)
    walk_at "go"
    refine de_callC c1 hr (by rfl) ?_
    walk_at "go"
    refine da_nil ⟨a, _, v - ln, rfl, sr11, by omega, by omega, by omega, fun M12 r12 fr12 sr12 h120 h121 => ?_⟩
    walk_at "go"
    refine da_nil ⟨[.int 0, .int 1, .int r12, .int (v - ln)], rfl, (by show 4 ≤ sizeLine; decide), de_callC c1 hr (by rfl) ?_⟩
    walk_at "go"
    refine da_nil ⟨a, _, 4, rfl, sr12, by omega, by decide, by decide, fun M13 r13 fr13 sr13 h130 h131 => ?_⟩
    have e13 : ∃ u : Int, 0 ≤ u ∧ atI ([.int 0, .int 1, .int r12, .int (v - ln)].map Sl.d) r13 = some (dI u) := by
      have c13 : r13 = 0 ∨ r13 = 1 ∨ r13 = 2 ∨ r13 = 3 := by omega
      rcases c13 with rfl | rfl | rfl | rfl
      · exact ⟨0, by decide, rfl⟩
      · exact ⟨1, by decide, rfl⟩
      · exact ⟨r12, h120, rfl⟩
      · exact ⟨v - ln, by omega, rfl⟩
    obtain ⟨u2, u20, eu2⟩ := e13
    refine ⟨_, r13, dI u2, rfl, rfl, eu2, da_nil (k_min2 ?_)⟩
    have hm : ∃ mo : Int, (if u2 < v - ln - sk - 1 then u2 else v - ln - sk - 1) = mo ∧ 0 ≤ mo ∧ mo ≤ v - ln - sk - 1 := by
      refine ⟨_, rfl, ?_, ?_⟩
      · split <;> omega
      · split <;> omega
    obtain ⟨mo, emo, mo0, mo1⟩ := hm
    rw [emo]
    have frB : Fr1 a M11 M13 := fr12.trans fr13
    have m13e : M13 pe = some (.k (slK (kdC (latC [] c)))) := by rw [frB pe pea]; exact m11e
    have m13f : M13 pf = some (.l (c.map sRun)) := by rw [frB pf pfa]; exact m11f
    have gx13 : Gx a M M13 := gx11.trans frB.gx
    refine db_cons (ds_set (i := 11) sc__law_content.nd rfl (.inl rfl) (de_add (de_add (de_dget2 (hu_of hr) ?_))))
    walk_at "nm"
    refine ⟨⟨_, .c m13e⟩, ?_⟩
    walk_at "nm"
    refine de_int ⟨_, .inr wr, .c m13e, rfl, ?_⟩
    rw [valS_C, show (Sl.d (PyData.int 0)) = dI 0 from rfl, getD_last, hL]
    walk_at "go"
    refine db_cons (ds_dput (hu_of hr) (de_add ?_))
    walk_at "go"
    refine ⟨pe, _, .inr wr, rfl, m13e, rfl, ?_, ?_⟩
    · have := latC_len [] c
      rw [List.length_nil] at this
      unfold slK kdC
      rw [List.length_map, List.length_map, sizeLine_eq]
      omega
    rw [show (Sl.d (PyData.int (ln + 1 + sk + mo))) = dI (ln + 1 + sk + mo) from rfl, putS_put]
    have elat : putC (latC [] c) wr (ln + 1 + sk + mo) = latC [] (c ++ [(wr, ln + 1 + sk, ln + 1 + sk + mo)]) := (latC_snoc [] c (wr, ln + 1 + sk, ln + 1 + sk + mo)).symm
    rw [elat]
    have m14e : updC M13 pe (.k (slK (kdC (latC [] (c ++ [(wr, ln + 1 + sk, ln + 1 + sk + mo)]))))) pe = some (.k (slK (kdC (latC [] (c ++ [(wr, ln + 1 + sk, ln + 1 + sk + mo)]))))) := updC_same
    have m14f : updC M13 pe (.k (slK (kdC (latC [] (c ++ [(wr, ln + 1 + sk, ln + 1 + sk + mo)]))))) pf = some (.l (c.map sRun)) := by rw [updC_ne nfe]; exact m13f
    have sr14 := sr13.upd (c := .k (slK (kdC (latC [] (c ++ [(wr, ln + 1 + sk, ln + 1 + sk + mo)]))))) pea
    have gx14 := gx13.put (c := .k (slK (kdC (latC [] (c ++ [(wr, ln + 1 + sk, ln + 1 + sk + mo)]))))) hpeM
    generalize updC M13 pe (.k (slK (kdC (latC [] (c ++ [(wr, ln + 1 + sk, ln + 1 + sk + mo)]))))) = M14 at m14e m14f sr14 gx14
    refine db_cons (ds_append ?_)
    walk_at "nm"
    refine ⟨⟨rfl, _, by simp only [seqOf, m14f]; rfl⟩, de_tupD (da_cons ?_)⟩
    walk_at "go"
    refine da_nil ⟨[.str wr, .int (ln + 1 + sk), .int (ln + 1 + sk + mo)], rfl, (by show 3 ≤ sizeLine; decide), pf, _, rfl, m14f, ?_, db_nil (db_nil ⟨c ++ [(wr, ln + 1 + sk, ln + 1 + sk + mo)], _, _, _, _, _, _, _, rfl, gx14.put hpf, ?_, ?_, ?_, ?_, ?_⟩)⟩
    · rw [List.length_map, sizeLine_eq]
      omega
    · rw [updC_same, List.map_append]
      rfl
    · rw [updC_ne nfe.symm]
      exact m14e
    · exact (sr14.upd pfa).mono (by omega)
    · refine ctOk_snoc ok4 ⟨vn, ?_, ?_, ?_⟩ (fun h => ?_) ?_ hlast
      · show 1 ≤ ln + 1 + sk
        omega
      · show ln + 1 + sk ≤ ln + 1 + sk + mo
        omega
      · show ln + 1 + sk + mo ≤ (getC rows wr).getD 0
        rw [hv]
        show ln + 1 + sk + mo ≤ v
        omega
      · show ln + 1 + sk = 1
        have hl0 : ln = 0 := by rw [← hL, h]; rfl
        rw [sk2 h, hl0]
        rfl
      · show lastN c wr < ln + 1 + sk
        omega
    · rw [List.length_append]
      show c.length + 1 ≤ i + 1
      omega
  · rintro τ' M' ⟨c, y5, y6, y7, y8, y9, y10, y11, rfl, gx4, m4f, m4e, sr4, ok4, hc4⟩
    refine db_cons (ds_ret ?_)
    walk_at "nm"
    exact fin c pf _ gx4 pfa hpf m4f (sr4.mono (by omega)) ok4 (by omega)

end

end Pg

namespace Pg
open PySem L2 Y PyProof.Rows

local macro_rules | `(tactic| walk_at "vis") => `(tactic| first | exact Or.inl rfl | exact Or.inr (Or.inl rfl) | exact Or.inr (Or.inr rfl))
local macro_rules | `(tactic| walk_at "e1") => `(tactic| first | walk_at "nm" | refine de_int ?_ | refine de_add ?_ | refine de_sub ?_ | refine de_str ?_ | refine de_non ?_ | refine de_bl ?_)
local macro_rules | `(tactic| walk_at "go") => `(tactic| repeat (first | ((with_reducible show DE _ _ _ _ _ _); walk_at "e1") | ((with_reducible show DA _ _ _ _ _ _); refine da_cons ?_) | refine ⟨_, _, rfl, rfl, ?_⟩))


theorem nextOf_eq {cs : Cnt} {c : List Y.Run} {z : Str} {v : Int} (h : getC cs z = some v) : nextOf cs c z = if lastN c z + 1 ≤ v then [(z, lastN c z + 1, if c.isEmpty = true ∨ (c.getLast?.map (·.1)) = some z then lastN c z + 1 else v)] else [] := by
  unfold nextOf
  rw [h]
  generalize lastN c z + 1 = f
  show (if f ≤ (if c.isEmpty = true ∨ (c.getLast?.map (·.1)) = some z then (if f < v then f else v) else v) then [(z, f, (if c.isEmpty = true ∨ (c.getLast?.map (·.1)) = some z then (if f < v then f else v) else v))] else []) = _
  by_cases hc : c.isEmpty = true ∨ (c.getLast?.map (·.1)) = some z
  · rw [if_pos hc, if_pos hc]
    by_cases hl : f < v
    · rw [if_pos hl, if_pos (Int.le_refl _), if_pos (by omega)]
    · rw [if_neg hl]
      by_cases hf : f ≤ v
      · have e : f = v := by omega
        rw [if_pos hf, if_pos hf, e]
      · rw [if_neg hf, if_neg hf]
  · rw [if_neg hc, if_neg hc]
/-- each run's writer and last line -/
def kvC (c : List Y.Run) : List (Key × PyData) := c.map fun r => (.inr r.1, .int r.2.2)
theorem mergeS_lat : ∀ (c : List Y.Run) (m : Cnt), mergeS (slK (kdC m)) (slK (kvC c)) = slK (kdC (latC m c))
  | [], _ => rfl
  | r :: c, m => by
    show mergeS (putS (slK (kdC m)) (.inr r.1) (dI r.2.2)) (slK (kvC c)) = _
    rw [putS_put, mergeS_lat c]
    rfl
section
variable {P : Program} {w : World} {K : PySem.W.Frag} {mg : Str → Option Value} {base : Heap}

local macro_rules | `(tactic| walk_at "nm") => `(tactic| first | ((with_reducible refine de_name (x := "counts") (i := 0) (s := ?s) ?hN ?hv ?ht ?q ?hd ?hcd); (case hN => rfl); (case hv => walk_at "vis"); (case ht => rfl); (case hd => decide); (case hcd => decide)) | ((with_reducible refine de_name (x := "content") (i := 1) (s := ?s) ?hN ?hv ?ht ?q ?hd ?hcd); (case hN => rfl); (case hv => walk_at "vis"); (case ht => rfl); (case hd => decide); (case hcd => decide)) | ((with_reducible refine de_name (x := "ends") (i := 2) (s := ?s) ?hN ?hv ?ht ?q ?hd ?hcd); (case hN => rfl); (case hv => walk_at "vis"); (case ht => rfl); (case hd => decide); (case hcd => decide)) | ((with_reducible refine de_name (x := "found") (i := 3) (s := ?s) ?hN ?hv ?ht ?q ?hd ?hcd); (case hN => rfl); (case hv => walk_at "vis"); (case ht => rfl); (case hd => decide); (case hcd => decide)) | ((with_reducible refine de_name (x := "writer") (i := 4) (s := ?s) ?hN ?hv ?ht ?q ?hd ?hcd); (case hN => rfl); (case hv => walk_at "vis"); (case ht => rfl); (case hd => decide); (case hcd => decide)) | ((with_reducible refine de_name (x := "low") (i := 5) (s := ?s) ?hN ?hv ?ht ?q ?hd ?hcd); (case hN => rfl); (case hv => walk_at "vis"); (case ht => rfl); (case hd => decide); (case hcd => decide)) | ((with_reducible refine de_name (x := "high") (i := 6) (s := ?s) ?hN ?hv ?ht ?q ?hd ?hcd); (case hN => rfl); (case hv => walk_at "vis"); (case ht => rfl); (case hd => decide); (case hcd => decide)) | ((with_reducible refine de_name (x := "first") (i := 7) (s := ?s) ?hN ?hv ?ht ?q ?hd ?hcd); (case hN => rfl); (case hv => walk_at "vis"); (case ht => rfl); (case hd => decide); (case hcd => decide)) | ((with_reducible refine de_name (x := "last") (i := 8) (s := ?s) ?hN ?hv ?ht ?q ?hd ?hcd); (case hN => rfl); (case hv => walk_at "vis"); (case ht => rfl); (case hd => decide); (case hcd => decide)))


def R_expected : Rr := fun _ ss M Q => ∃ (rows : Cnt) (pcc : Addr) (c : List Y.Run), ss = [.d (eCnt rows), .c pcc] ∧ okCnt rows ∧ M pcc = some (.l (c.map sRun)) ∧ okC (some rows) c ∧ c.length < 1000 ∧ ∀ zs p M', zs.Perm (rows.map (·.1)) → sortedS zs = true → Sub M M' → M p = none → M' p = some (.l ((nextC rows zs c).map sRun)) → Q (.c p) M'
set_option maxHeartbeats 8000000 in
theorem ok_law_expected (F : FunAt K mg "_law_expected" s__law_expected ["counts", "content"]) (b1 : mg "dict" = none) (b2 : mg "sorted" = none) : Cal P w K mg base "_law_expected" 2 ["counts", "content"] R_expected := by
  refine cal_of F sc__law_expected (fun _ ss _ _ ⟨rows, pcc, c, h, _⟩ => by rw [h]; rfl) (fun f cdv A outer s H E L us M Q hr h => ?_)
  obtain ⟨rows, pcc, c, rfl, okr, mc, okc, hcl, fin⟩ := h
  obtain ⟨l1, l2, nd, okp⟩ := okr
  have okn : ∀ r ∈ c, okName r.1 = true := fun r h => (okc.1 r h).1
  refine db_cons (ds_set (i := 2) sc__law_expected.nd rfl (.inl rfl) (de_callT (call_dictP rfl) (by rfl) b1 bt_dict (da_cons (de_lc0 (own := [("writer", 4), ("first", 7), ("last", 8)]) (g := gTup K 3 (gCons (gName 4) (gCons (gName 7) (gCons (gName 8) gNil)))) rfl sc__law_expected.nd (blkOk_by (own := [("writer", 4), ("first", 7), ("last", 8)]) (N := ["counts", "content", "ends", "found", "writer", "low", "high", "first", "last"]) (sc := defScope s__law_expected) (by decide +kernel)) (fun _ _ _ _ _ => pg_tup rfl (pgs_cons (pg_name (i := 4) sc__law_expected.nd rfl (.inl rfl)) (pgs_cons (pg_name (i := 7) sc__law_expected.nd rfl (.inl rfl)) (pgs_cons (pg_name (i := 8) sc__law_expected.nd rfl (.inl rfl)) pgs_nil)))) (di_seq ?_)))))
  walk_at "nm"
  refine ⟨c.map sRun, by simp only [seqOf, mc], fun D hD => ?_⟩
  have nDc : pcc ≠ D := neC mc hD
  refine ⟨fun j M' => M' = updC M D (.l ((kvC (c.take j)).map Y.prD)), by show updC M D (.l []) = updC M D (.l ((kvC (c.take 0)).map Y.prD)); rw [List.take_zero]; rfl, ?_, ?_, ?_⟩
  · rintro j M' rfl
    simp only [seqOf, updC_ne nDc, mc]
  · rintro j y M' hj hy rfl
    rw [List.length_map] at hj
    have hy' : y = sRun c[j] := by
      rw [List.getElem?_map, List.getElem?_eq_getElem hj] at hy
      exact (Option.some.inj hy).symm
    subst hy'
    have hlen : ((kvC (c.take j)).map Y.prD).length < sizeLine := by
      unfold kvC
      rw [List.length_map, List.length_map, List.length_take, sizeLine_eq]
      omega
    have hend : (kvC (c.take (j + 1))).map Y.prD = (kvC (c.take j)).map Y.prD ++ [.d (.tuple [.str c[j].1, .int c[j].2.2])] := by
      unfold kvC
      rw [List.take_add_one, List.getElem?_eq_getElem hj, List.map_append, List.map_append]
      rfl
    generalize c[j] = r at hend
    refine wgw_tup rfl rfl rfl (wgws_cons (wgw_name (by simp) (wgws_cons (wgw_name (by simp) (wgws_cons (wgw_name (by simp) (wgws_nil ?_)))))))
    intro s0 H0 C cl fp
    refine de_tupD (da_cons ?_)
    walk_at "nm"
    refine da_cons ?_
    walk_at "nm"
    refine da_nil ⟨[.str r.1, .int r.2.2], rfl, (by show 2 ≤ sizeLine; decide), _, updC_same, hlen, ?_⟩
    show updC _ _ _ = updC _ _ _
    rw [updC_updC, hend]
  rintro M' rfl
  rw [List.length_map, List.take_length]
  have sub_M1 : Sub M (updC M D (.l ((kvC c).map Y.prD))) := (Sub.refl _).new hD
  have m_D : updC M D (.l ((kvC c).map Y.prD)) D = some (.l ((kvC c).map Y.prD)) := updC_same
  generalize updC M D (.l ((kvC c).map Y.prD)) = M1 at sub_M1 m_D
  refine da_nil (k_dictP (kd := kvC c) rfl (by simp only [seqOf, m_D]) fun pd hpd => ?_)
  rw [show mergeS [] (slK (kvC c)) = slK (kdC (latC [] c)) from mergeS_lat c []]
  have sub_M2 : Sub M1 (updC M1 pd (.k (slK (kdC (latC [] c))))) := (Sub.refl _).new hpd
  have m_pd : updC M1 pd (.k (slK (kdC (latC [] c)))) pd = some (.k (slK (kdC (latC [] c)))) := updC_same
  generalize updC M1 pd (.k (slK (kdC (latC [] c)))) = M2 at sub_M2 m_pd
  refine db_cons (ds_set (i := 3) sc__law_expected.nd rfl (.inl rfl) (de_lstC (da_nil ⟨Nat.zero_le _, fun pf hpf => ?_⟩)))
  have sub_M3 : Sub M2 (updC M2 pf (.l [])) := (Sub.refl _).new hpf
  have m_pf : updC M2 pf (.l []) pf = some (.l []) := updC_same
  generalize updC M2 pf (.l []) = M3 at sub_M3 m_pf
  have sub3 : Sub M M3 := Sub.trans (Sub.trans sub_M1 sub_M2) sub_M3
  have hpfM : M pf = none := (Sub.trans sub_M1 sub_M2).none hpf
  have m3c := sub3 _ _ mc
  have m3d := sub_M3 _ _ m_pd
  refine db_cons (ds_for PassesOwn.never rfl (di_seq (de_callB (call_sortedD rfl) (by rfl) b2 bt_sorted (da_cons ?_))))
  walk_at "nm"
  refine da_nil (k_sortedD (.d (kdC rows)) (keys_C rows) (by rw [List.length_map]; omega) fun zs pz hperm hsort hpz => ?_)
  have sub_M4 : Sub M3 (updC M3 pz (.l (zs.map dS))) := (Sub.refl _).new hpz
  have m_pz : updC M3 pz (.l (zs.map dS)) pz = some (.l (zs.map dS)) := updC_same
  generalize updC M3 pz (.l (zs.map dS)) = M4 at sub_M4 m_pz
  have nzf : pf ≠ pz := neC m_pf hpz
  have ncf : pcc ≠ pf := neC mc hpfM
  have ndf : pd ≠ pf := neC m_pd hpf
  have m4c := sub_M4 _ _ m3c
  have m4d := sub_M4 _ _ m3d
  have m4f := sub_M4 _ _ m_pf
  have hzl : zs.length ≤ 12 := by rw [hperm.length_eq, List.length_map]; exact l2
  refine ⟨zs.map dS, by simp only [seqOf, m_pz], ?_⟩
  refine ⟨fun i τ' M' => ∃ y4 y5 y6 y7 y8, τ' = [some (.d (eCnt rows)), some (.c pcc), some (.c pd), some (.c pf), y4, y5, y6, y7, y8] ∧ M' = updC M4 pf (.l ((nextC rows (zs.take i) c).map sRun)), ⟨none, none, none, none, none, rfl, ?_⟩, ?_, ?_, ?_⟩
  · rw [List.take_zero]
    funext z
    unfold updC
    split
    · next e => rw [e]; exact m4f
    · rfl
  · rintro i τ' M' ⟨y4, y5, y6, y7, y8, rfl, rfl⟩
    simp only [seqOf, updC_ne nzf.symm, m_pz]
  · rintro i y τ' M' hi hy ⟨y4, y5, y6, y7, y8, rfl, rfl⟩
    rw [List.length_map] at hi
    have hy' : y = dS zs[i] := by
      rw [List.getElem?_map, List.getElem?_eq_getElem hi] at hy
      exact (Option.some.inj hy).symm
    subst hy'
    obtain ⟨x0, hx0, ez⟩ := List.mem_map.mp (hperm.mem_iff.mp (List.getElem_mem hi))
    have hv := getC_mem nd hx0
    rw [ez] at hv
    have hnl := nextC_len rows c (zs.take i)
    rw [List.length_take] at hnl
    have hnx : nextC rows (zs.take (i + 1)) c = nextC rows (zs.take i) c ++ nextOf rows c zs[i] := by
      unfold nextC
      rw [List.take_add_one, List.getElem?_eq_getElem hi, List.flatMap_append]
      simp
    generalize zs[i] = z at hv hnx
    generalize x0.2 = v at hv
    rw [nextOf_eq hv] at hnx
    have mPd : ∀ {c' : Cell}, updC M4 pf c' pd = some (.k (slK (kdC (latC [] c)))) := by
      intro c'
      rw [updC_ne ndf]
      exact m4d
    have mPc : ∀ {c' : Cell}, updC M4 pf c' pcc = some (.l (c.map sRun)) := by
      intro c'
      rw [updC_ne ncf]
      exact m4c
    refine dg_of (pg_name (i := 4) sc__law_expected.nd rfl (.inl rfl)) (wg_name ?_)
    refine db_cons (ds_set (i := 5) sc__law_expected.nd rfl (.inl rfl) (de_add (de_dget2 (hu_of hr) ?_)))
    walk_at "nm"
    refine ⟨⟨_, .c mPd⟩, ?_⟩
    walk_at "nm"
    refine de_int ⟨_, .inr z, .c mPd, rfl, ?_⟩
    rw [valS_C, show (Sl.d (PyData.int 0)) = dI 0 from rfl, getD_last]
    walk_at "go"
    refine db_consJ (fun τ' M' => τ' = [some (.d (eCnt rows)), some (.c pcc), some (.c pd), some (.c pf), some (dS z), some (dI (lastN c z + 1)), some (dI (if c.isEmpty = true ∨ (c.getLast?.map (·.1)) = some z then lastN c z + 1 else v)), y7, y8] ∧ M' = updC M4 pf (.l ((nextC rows (zs.take i) c).map sRun)))
      (ds_set (i := 6) sc__law_expected.nd rfl (.inl rfl) (de_if (dt_or2 (dt_cmp (op_eqD hr.units) ?_ (by with_unfolding_all rfl))))) ?_
    · walk_at "nm"
      refine de_lstD (da_nil ⟨[], rfl, Nat.zero_le _, k_eqD (isd_runs mPc) (.d (.list [])) (shaped_runs c okn) (by decide +kernel) ?_⟩)
      rw [show PyData.eqv (.list (c.map eRun)) (.list []) = decide (c = []) from eqv_list eRun eqv_run c []]
      refine ⟨_, rfl, fun he => ⟨fun _ => ?_, no2⟩, fun hne => ?_⟩
      · walk_at "nm"
        have he := of_decide_eq_true he
        rw [he]
        exact ⟨rfl, rfl⟩
      · have hne := of_decide_eq_false hne
        obtain ⟨l, hl⟩ : ∃ l, c.getLast? = some l := ⟨_, List.getLast?_eq_some_getLast hne⟩
        have hlS : (c.map sRun).getLast? = some (sRun l) := by rw [List.getLast?_map, hl]; rfl
        have hie : c.isEmpty = false := by
          cases c with
          | nil => exact absurd rfl hne
          | cons _ _ => rfl
        refine dt_cmp op_eq (de_ix (de_ix ?_)) (by with_unfolding_all rfl)
        walk_at "nm"
        refine de_neg (de_int ⟨1, rfl, c.map sRun, _, sRun l, by simp only [seqOf, mPc], rfl, atI_l hlS, de_int ⟨_, _, dS l.1, rfl, rfl, rfl, ?_⟩⟩)
        walk_at "nm"
        refine k_eqS ⟨_, rfl, fun h => ?_, fun h => ?_⟩
        · walk_at "nm"
          rw [if_pos (.inr (by rw [hl]; exact congrArg some (of_decide_eq_true h)))]
          exact ⟨rfl, rfl⟩
        · refine de_dget (hu_of hr) ?_
          walk_at "nm"
          walk_at "nm"
          refine ⟨_, .inr z, dI v, .d (kdC rows), rfl, by rw [valS_C, hv]; rfl, ?_⟩
          rw [if_neg]
          · exact ⟨rfl, rfl⟩
          · rintro (q | q)
            · rw [hie] at q; cases q
            · rw [hl] at q
              exact of_decide_eq_false h (Option.some.inj q)
    rintro τ' M' ⟨rfl, rfl⟩
    generalize (if c.isEmpty = true ∨ (c.getLast?.map (·.1)) = some z then lastN c z + 1 else v) = hi2 at hnx
    refine db_cons (ds_if (dt_cmp op_le ?_ (by with_unfolding_all rfl)))
    walk_at "nm"
    refine de_dget (hu_of hr) ?_
    walk_at "nm"
    walk_at "nm"
    refine ⟨_, .inr z, dI v, .d (kdC rows), rfl, by rw [valS_C, hv]; rfl, k_bool ⟨_, rfl, fun h3 => ?_, fun h3 => db_nil (db_nil ⟨_, _, _, _, _, rfl, ?_⟩)⟩⟩
    · have h3 := of_decide_eq_true h3
      rw [if_pos h3] at hnx
      refine db_cons (ds_append ?_)
      walk_at "nm"
      refine ⟨⟨rfl, _, by simp only [seqOf, updC_same]; rfl⟩, de_tupD (da_cons ?_)⟩
      walk_at "go"
      refine da_nil ⟨[.str z, .int (lastN c z + 1), .int hi2], rfl, (by show 3 ≤ sizeLine; decide), pf, _, rfl, updC_same, ?_, db_nil (db_nil ⟨_, _, _, _, _, rfl, ?_⟩)⟩
      · rw [List.length_map, sizeLine_eq]
        omega
      · rw [updC_updC, hnx, List.map_append]
        rfl
    · have h3 := of_decide_eq_false h3
      rw [if_neg h3] at hnx
      rw [hnx, List.append_nil]
  · rintro τ' M' ⟨y4, y5, y6, y7, y8, rfl, rfl⟩
    rw [List.length_map, List.take_length]
    refine db_cons (ds_ret ?_)
    walk_at "nm"
    refine fin zs pf _ hperm hsort ?_ hpfM updC_same
    intro b cl hb
    rw [updC_ne (neC hb hpfM)]
    exact sub_M4 _ _ (sub3 _ _ hb)

end

end Pg

namespace Pg
open PySem L2 Y PyProof.Rows
theorem app_take {c : List Y.Run} {r : Y.Run} (h : App (c ++ [r])) : badAt (c ++ [r]) c.length r = none := by
  have := h.2 c.length (by rw [List.length_append, List.length_singleton]; omega)
  unfold badI at this
  rw [List.getElem?_concat_length] at this
  exact this
theorem badAt_end {c : List Y.Run} {r : Y.Run} : badAt (c ++ [r]) c.length r = none ↔ lastN c r.1 < r.2.1 ∧ ∀ l, c.getLast? = some l → l.1 ≠ r.1 := by
  unfold badAt
  rw [List.take_left]
  by_cases h1 : r.2.1 ≤ lastN c r.1
  · rw [if_pos h1]
    exact ⟨fun h => (nomatch h), fun h => absurd h.1 (by omega)⟩
  · rw [if_neg h1]
    have key : (0 < c.length ∧ ((c ++ [r])[c.length - 1]?.map (·.1)) = some r.1) ↔ ∃ l, c.getLast? = some l ∧ l.1 = r.1 := by
      rw [List.getLast?_eq_getElem?]
      constructor
      · rintro ⟨z1, z2⟩
        rw [List.getElem?_append_left (by omega)] at z2
        cases e : c[c.length - 1]? with
        | none => rw [e] at z2; cases z2
        | some l =>
          rw [e] at z2
          exact ⟨l, rfl, Option.some.inj z2⟩
      · rintro ⟨l, hl, e⟩
        obtain ⟨hlt, _⟩ := List.getElem?_eq_some_iff.mp hl
        refine ⟨by omega, ?_⟩
        rw [List.getElem?_append_left (by omega), hl]
        exact congrArg some e
    by_cases h2 : 0 < c.length ∧ ((c ++ [r])[c.length - 1]?.map (·.1)) = some r.1
    · rw [if_pos h2]
      obtain ⟨l, hl, e⟩ := key.mp h2
      exact ⟨fun h => (nomatch h), fun h => absurd e (h.2 l hl)⟩
    · rw [if_neg h2]
      exact ⟨fun _ => ⟨by omega, fun l hl e => h2 (key.mpr ⟨l, hl, e⟩)⟩, fun _ => rfl⟩
theorem start_snoc {c : List Y.Run} {r : Y.Run} : startBad (c ++ [r]) = (if c = [] then !decide (r.2.1 = 1) else startBad c) := by
  cases c with
  | nil => rfl
  | cons x c => rfl
theorem app_snoc_iff {c : List Y.Run} {r : Y.Run} (h : App c) : App (c ++ [r]) ↔ (c = [] → r.2.1 = 1) ∧ lastN c r.1 < r.2.1 ∧ ∀ l, c.getLast? = some l → l.1 ≠ r.1 := by
  constructor
  · intro k
    obtain ⟨q1, q2⟩ := badAt_end.mp (app_take k)
    refine ⟨fun e => ?_, q1, q2⟩
    have := k.1
    rw [start_snoc, if_pos e] at this
    simpa using this
  · rintro ⟨q0, q1, q2⟩
    exact app_snoc h q0 q1 q2
/-- App says nothing of the last number of the last run -/
theorem app_last {c : List Y.Run} {l l' : Y.Run} (h1 : l.1 = l'.1) (h2 : l.2.1 = l'.2.1) (h : App (c ++ [l])) : App (c ++ [l']) := by
  refine ⟨?_, fun i hi => ?_⟩
  · have := h.1
    rw [start_snoc] at this ⊢
    rw [← h2]
    exact this
  · rw [List.length_append, List.length_singleton] at hi
    by_cases hlt : i < c.length
    · have := h.2 i (by rw [List.length_append, List.length_singleton]; omega)
      rw [badI_snoc hlt] at this ⊢
      exact this
    · have e : i = c.length := by omega
      subst e
      unfold badI
      rw [List.getElem?_concat_length]
      obtain ⟨q1, q2⟩ := badAt_end.mp (app_take h)
      exact badAt_end.mpr ⟨by rw [← h1, ← h2]; exact q1, by rw [← h1]; exact q2⟩
theorem lastN_last {c : List Y.Run} {l : Y.Run} (h : c.getLast? = some l) : lastN c l.1 = l.2.2 := by
  obtain ⟨ys, e⟩ := List.getLast?_eq_some_iff.mp h
  rw [e, lastN_snoc, if_pos rfl]
/-- one more line may follow exactly if it is one of next_lines -/
theorem app_withRun {c : List Y.Run} {z : Str} {v k : Int} (h : App c) (hk : k ≤ v) : App (withRun c (z, k, k)) ↔ lastN c z + 1 ≤ k ∧ k ≤ (if c.isEmpty = true ∨ (c.getLast?.map (·.1)) = some z then lastN c z + 1 else v) := by
  cases hg : c.getLast? with
  | none =>
    have e : c = [] := List.getLast?_eq_none_iff.mp hg
    subst e
    rw [if_pos (.inl rfl)]
    show App ([] ++ [(z, k, k)]) ↔ _
    rw [app_snoc_iff app_nil, lastN_nil]
    constructor
    · rintro ⟨q, _⟩
      have : k = 1 := q rfl
      omega
    · rintro ⟨q1, q2⟩
      exact ⟨fun _ => by show k = 1; omega, by show (0 : Int) < k; omega, fun l hl => by cases hl⟩
  | some l =>
    have hne : c ≠ [] := fun e => by rw [e] at hg; cases hg
    have hie : c.isEmpty = false := by
      cases c with
      | nil => exact absurd rfl hne
      | cons _ _ => rfl
    unfold withRun
    rw [hg]
    show App (if cont l (z, k, k) = true then c.dropLast ++ [(z, l.2.1, k)] else c ++ [(z, k, k)]) ↔ _
    by_cases hz : l.1 = z
    · rw [if_pos (show c.isEmpty = true ∨ (some l).map (·.1) = some z from .inr (congrArg some hz))]
      have hl : lastN c z = l.2.2 := by rw [← hz]; exact lastN_last hg
      by_cases hc : cont l (z, k, k) = true
      · rw [if_pos hc]
        unfold cont at hc
        simp only [Bool.and_eq_true, decide_eq_true_eq] at hc
        have hk2 : k = l.2.2 + 1 := hc.2
        obtain ⟨ys, e⟩ := List.getLast?_eq_some_iff.mp hg
        refine ⟨fun _ => by omega, fun _ => ?_⟩
        rw [e, List.dropLast_concat]
        rw [e] at h
        exact app_last hz rfl h
      · rw [if_neg hc, app_snoc_iff h]
        constructor
        · rintro ⟨_, _, q⟩
          exact absurd hz (q l hg)
        · rintro ⟨q1, q2⟩
          exfalso
          apply hc
          unfold cont
          simp only [Bool.and_eq_true, decide_eq_true_eq]
          exact ⟨hz.symm, by show k = l.2.2 + 1; omega⟩
    · rw [if_neg (c := c.isEmpty = true ∨ (some l).map (·.1) = some z)]
      · have hc : ¬ cont l (z, k, k) = true := by
          unfold cont
          simp only [Bool.and_eq_true, decide_eq_true_eq]
          rintro ⟨q, _⟩
          exact hz q.symm
        rw [if_neg hc, app_snoc_iff h]
        constructor
        · rintro ⟨_, q, _⟩
          have q : lastN c z < k := q
          omega
        · rintro ⟨q, _⟩
          refine ⟨fun e => absurd e hne, by show lastN c z < k; omega, fun l' hl' => ?_⟩
          rw [hg] at hl'
          cases hl'
          exact hz
      · rintro (q | q)
        · rw [hie] at q; cases q
        · exact hz (Option.some.inj q)
end Pg

namespace Pg
open PySem L2 Y PyProof.Rows PySem.Spec
def leC (a b : Str) : Prop := a.cps.toList ≤ b.cps.toList
theorem leC_of {a b : Str} (h : (!ltCps b.cps.toList a.cps.toList) = true) : leC a b := by
  rw [ltCps_eq] at h
  have h2 : ¬ b.cps.toList < a.cps.toList := by simpa using h
  exact List.not_lt.mp h2
theorem leC_trans {a b c : Str} (h : leC a b) (k : leC b c) : leC a c := List.le_trans h k
theorem leC_anti {a b : Str} (h : leC a b) (k : leC b a) : a = b := by
  have e : a.cps.toList = b.cps.toList := List.le_antisymm h k
  cases a with
  | mk x => cases b with
    | mk y => exact congrArg Str.mk (Array.toList_inj.mp e)
theorem rising_le : ∀ {l : List Str} {p : Str}, risingS p l = true → ∀ x ∈ l, leC p x
  | [], _, _, _, h => nomatch h
  | y :: l, p, h, x, hx => by
    have h : ((!ltCps y.cps.toList p.cps.toList) && risingS y l) = true := h
    obtain ⟨h1, h2⟩ := Bool.and_eq_true_iff.mp h
    rcases List.mem_cons.mp hx with rfl | hx
    · exact leC_of h1
    · exact leC_trans (leC_of h1) (rising_le h2 x hx)
theorem sorted_tail {p : Str} {l : List Str} (h : sortedS (p :: l) = true) : sortedS l = true := by
  cases l with
  | nil => rfl
  | cons y l => exact (Bool.and_eq_true_iff.mp (show ((!ltCps y.cps.toList p.cps.toList) && risingS y l) = true from h)).2
/-- sorted names are one list -/
theorem sorted_one : ∀ {l m : List Str}, l.Perm m → sortedS l = true → sortedS m = true → l = m
  | [], m, h, _, _ => (List.nil_perm.mp h).symm
  | a :: l, [], h, _, _ => nomatch (List.perm_nil.mp h)
  | a :: l, b :: m, h, h1, h2 => by
    have e : a = b := by
      have ha : a ∈ b :: m := h.mem_iff.mp List.mem_cons_self
      have hb : b ∈ a :: l := h.mem_iff.mpr List.mem_cons_self
      rcases List.mem_cons.mp ha with e | ha
      · exact e
      rcases List.mem_cons.mp hb with e | hb
      · exact e.symm
      exact leC_anti (rising_le h1 b hb) (rising_le h2 a ha)
    subst e
    rw [sorted_one (List.perm_cons a |>.mp h) (sorted_tail h1) (sorted_tail h2)]
end Pg

namespace Pg
open PySem L2 Y PyProof.Rows

local macro_rules | `(tactic| walk_at "vis") => `(tactic| first | exact Or.inl rfl | exact Or.inr (Or.inl rfl) | exact Or.inr (Or.inr rfl))
local macro_rules | `(tactic| walk_at "e1") => `(tactic| first | walk_at "nm" | refine de_int ?_ | refine de_add ?_ | refine de_sub ?_ | refine de_str ?_ | refine de_non ?_ | refine de_bl ?_)
local macro_rules | `(tactic| walk_at "go") => `(tactic| repeat (first | ((with_reducible show DE _ _ _ _ _ _); walk_at "e1") | ((with_reducible show DA _ _ _ _ _ _); refine da_cons ?_) | refine ⟨_, _, rfl, rfl, ?_⟩))


theorem fitXs_map {α : Type} (f : α → PyData) : ∀ c : List α, (∀ x ∈ c, fitX (f x) = true) → fitXs (c.map f) = true
  | [], _ => by simp [fitXs]
  | x :: r, h => by rw [List.map_cons]; simp only [fitXs, h x List.mem_cons_self, fitXs_map f r fun y hy => h y (List.mem_cons_of_mem _ hy), Bool.and_self]
theorem small_name {z : Str} (h : okName z = true) : small z = true := by
  unfold okName at h
  simp only [Bool.and_eq_true, decide_eq_true_eq] at h
  have h1 : Txt.isascii z = true := h.2.2.1
  have h2 := h.2.1
  unfold small
  rw [h1, decide_eq_true (by omega)]
  rfl
theorem fit_run {r : Y.Run} (h : okRun none r) : fitX (eRun r) = true := by
  obtain ⟨o1, o2, o3, o4⟩ := h
  have o4 : r.2.2 ≤ 10 ^ 30 := o4
  unfold eRun
  simp only [fitX, fitXs, small_name o1, Bool.true_and, Bool.and_true, Bool.and_eq_true, decide_eq_true_eq]
  omega
theorem wtXs_map {α : Type} (f : α → PyData) (k : Nat) : ∀ c : List α, (∀ x, wtX (f x) = k) → wtXs (c.map f) = k * c.length
  | [], _ => by simp [wtXs]
  | x :: r, h => by rw [List.map_cons]; simp only [wtXs, h x, wtXs_map f k r h, List.length_cons]; rw [Nat.mul_add, Nat.mul_one, Nat.add_comm]
theorem wt_run (r : Y.Run) : wtX (eRun r) = 4 := by unfold eRun; simp [wtX, wtXs]
theorem fit_txt {c : List Y.Run} (tup : Bool) (h : okC none c) : fitX (txt tup c) = true := by
  have := fitXs_map eRun c fun r hr => fit_run (h.1 r hr)
  unfold txt
  split <;> (simp only [fitX]; exact this)
theorem wt_txt (tup : Bool) (c : List Y.Run) : wtX (txt tup c) = 1 + 4 * c.length := by
  have := wtXs_map eRun 4 c wt_run
  unfold txt
  split <;> (simp only [wtX]; rw [this])
theorem depth_txt (tup : Bool) (c : List Y.Run) : (txt tup c).depth ≤ 2 := by
  have := depthAll_map eRun 1 c fun r _ => Nat.le_refl 1
  unfold txt
  split <;> (show PyData.depthAll _ + 1 ≤ 2; omega)
theorem fit_cnt {cs : Cnt} (h : okCnt cs) : fitX (eCnt cs) = true := by
  have : ∀ l : Cnt, (∀ p ∈ l, okName p.1 = true ∧ 0 ≤ p.2 ∧ p.2 ≤ 10 ^ 30) → fitXk (encK (kdC l)) = true := fun l => by
    induction l with
    | nil => intro _; rfl
    | cons p r ih =>
      intro h
      obtain ⟨o1, o2, o3⟩ := h p List.mem_cons_self
      have e : encK (kdC (p :: r)) = (.str p.1, .int p.2) :: encK (kdC r) := rfl
      rw [e]
      simp only [fitXk, fitX, small_name o1, ih fun x hx => h x (List.mem_cons_of_mem _ hx), Bool.true_and, Bool.and_true, decide_eq_true_eq]
      omega
  unfold eCnt
  simp only [fitX]
  exact this cs h.2.2.2
theorem wt_cnt (cs : Cnt) : wtX (eCnt cs) = 1 + 2 * cs.length := by
  have : ∀ l : Cnt, wtXk (encK (kdC l)) = 2 * l.length := fun l => by
    induction l with
    | nil => rfl
    | cons p r ih =>
      have e : encK (kdC (p :: r)) = (.str p.1, .int p.2) :: encK (kdC r) := rfl
      rw [e]
      simp only [wtXk, wtX, ih, List.length_cons]
      omega
  unfold eCnt
  simp only [wtX, this]
theorem depth_cnt (cs : Cnt) : (eCnt cs).depth ≤ 1 := by
  have : ∀ l : Cnt, PyData.depthKv (encK (kdC l)) = 0 := fun l => by
    induction l with
    | nil => rfl
    | cons p r ih =>
      have e : encK (kdC (p :: r)) = (.str p.1, .int p.2) :: encK (kdC r) := rfl
      rw [e]
      simp only [PyData.depthKv, PyData.depth, ih]
      rfl
  unfold eCnt
  simp only [PyData.depth, this]
  omega
/-- [line counts, content] -/
def pairD (rows : Cnt) (tup : Bool) (c : List Y.Run) : PyData := .list [eCnt rows, txt tup c]
theorem fit_pair {rows : Cnt} {tup : Bool} {c : List Y.Run} (h1 : okCnt rows) (h2 : okC none c) : fitX (pairD rows tup c) = true := by
  unfold pairD
  simp only [fitX, fitXs, fit_cnt h1, fit_txt tup h2, Bool.and_self]
theorem wt_pair (rows : Cnt) (tup : Bool) (c : List Y.Run) : wtX (pairD rows tup c) = 3 + 2 * rows.length + 4 * c.length := by
  unfold pairD
  simp only [wtX, wtXs, wt_cnt, wt_txt]
  omega
theorem depth_pair (rows : Cnt) (tup : Bool) (c : List Y.Run) : (pairD rows tup c).depth ≤ 60 := by
  have h1 := depth_cnt rows
  have h2 := depth_txt tup c
  unfold pairD
  simp only [PyData.depth, PyData.depthAll]
  omega

theorem nextC_ok {rows : Cnt} {c : List Y.Run} {zs : List Str} (okr : okCnt rows) (okc : okC (some rows) c) (hz : ∀ z ∈ zs, z ∈ rows.map (·.1)) : ∀ r ∈ nextC rows zs c, ∃ v, getC rows r.1 = some v ∧ okName r.1 = true ∧ 0 ≤ lastN c r.1 ∧ v ≤ 10 ^ 30 ∧ r.2.1 = lastN c r.1 + 1 ∧ r.2.1 ≤ v ∧ r.2.2 = (if c.isEmpty = true ∨ (c.getLast?.map (·.1)) = some r.1 then lastN c r.1 + 1 else v) ∧ okRun none r := by
  intro r hr
  unfold nextC at hr
  obtain ⟨z, hzz, hrz⟩ := List.mem_flatMap.mp hr
  obtain ⟨p, hp, ep⟩ := List.mem_map.mp (hz z hzz)
  have hv := getC_mem okr.2.2.1 hp
  rw [ep] at hv
  obtain ⟨o1, o2, o3⟩ := okr.2.2.2 p hp
  rw [ep] at o1
  have l0 := lastN_nonneg okc z
  rw [nextOf_eq hv] at hrz
  split at hrz
  · next hf =>
    rw [List.mem_singleton.mp hrz]
    refine ⟨p.2, hv, o1, l0, o3, rfl, hf, rfl, o1, ?_, ?_, ?_⟩
    · show 1 ≤ lastN c z + 1
      omega
    · show lastN c z + 1 ≤ (if c.isEmpty = true ∨ (c.getLast?.map (·.1)) = some z then lastN c z + 1 else p.2)
      split <;> omega
    · show (if c.isEmpty = true ∨ (c.getLast?.map (·.1)) = some z then lastN c z + 1 else p.2) ≤ 10 ^ 30
      split <;> omega
  · cases hrz
theorem fit_list {c : List Y.Run} (h : ∀ r ∈ c, okRun none r) : fitX (txt false c) = true := by
  have := fitXs_map eRun c fun r hr => fit_run (h r hr)
  unfold txt
  split <;> (simp only [fitX]; exact this)
theorem obsA_dec {c : List Y.Run} {p : Prop} [Decidable p] (h : App c ↔ p) : isNone (.d (obsA c)) = decide p := by
  by_cases hp : p
  · rw [obsA_app (h.mpr hp), decide_eq_true hp]
    rfl
  · rw [decide_eq_false hp]
    cases e : isNone (.d (obsA c)) with
    | false => rfl
    | true => exact absurd (h.mp (obsA_none e)) hp
section
variable {P : Program} {w : World} {K : PySem.W.Frag} {mg : Str → Option Value} {base : Heap}

local macro_rules | `(tactic| walk_at "nm") => `(tactic| first | ((with_reducible refine de_name (x := "source") (i := 0) (s := ?s) ?hN ?hv ?ht ?q ?hd ?hcd); (case hN => rfl); (case hv => walk_at "vis"); (case ht => rfl); (case hd => decide); (case hcd => decide)) | ((with_reducible refine de_name (x := "counts") (i := 1) (s := ?s) ?hN ?hv ?ht ?q ?hd ?hcd); (case hN => rfl); (case hv => walk_at "vis"); (case ht => rfl); (case hd => decide); (case hcd => decide)) | ((with_reducible refine de_name (x := "content") (i := 2) (s := ?s) ?hN ?hv ?ht ?q ?hd ?hcd); (case hN => rfl); (case hv => walk_at "vis"); (case ht => rfl); (case hd => decide); (case hcd => decide)) | ((with_reducible refine de_name (x := "expected") (i := 3) (s := ?s) ?hN ?hv ?ht ?q ?hd ?hcd); (case hN => rfl); (case hv => walk_at "vis"); (case ht => rfl); (case hd => decide); (case hcd => decide)) | ((with_reducible refine de_name (x := "argument") (i := 4) (s := ?s) ?hN ?hv ?ht ?q ?hd ?hcd); (case hN => rfl); (case hv => walk_at "vis"); (case ht => rfl); (case hd => decide); (case hcd => decide)) | ((with_reducible refine de_name (x := "before") (i := 5) (s := ?s) ?hN ?hv ?ht ?q ?hd ?hcd); (case hN => rfl); (case hv => walk_at "vis"); (case ht => rfl); (case hd => decide); (case hcd => decide)) | ((with_reducible refine de_name (x := "result") (i := 6) (s := ?s) ?hN ?hv ?ht ?q ?hd ?hcd); (case hN => rfl); (case hv => walk_at "vis"); (case ht => rfl); (case hd => decide); (case hcd => decide)) | ((with_reducible refine de_name (x := "writer") (i := 7) (s := ?s) ?hN ?hv ?ht ?q ?hd ?hcd); (case hN => rfl); (case hv => walk_at "vis"); (case ht => rfl); (case hd => decide); (case hcd => decide)) | ((with_reducible refine de_name (x := "low") (i := 8) (s := ?s) ?hN ?hv ?ht ?q ?hd ?hcd); (case hN => rfl); (case hv => walk_at "vis"); (case ht => rfl); (case hd => decide); (case hcd => decide)) | ((with_reducible refine de_name (x := "high") (i := 9) (s := ?s) ?hN ?hv ?ht ?q ?hd ?hcd); (case hN => rfl); (case hv => walk_at "vis"); (case ht => rfl); (case hd => decide); (case hcd => decide)) | ((with_reducible refine de_name (x := "number") (i := 10) (s := ?s) ?hN ?hv ?ht ?q ?hd ?hcd); (case hN => rfl); (case hv => walk_at "vis"); (case ht => rfl); (case hd => decide); (case hcd => decide)) | ((with_reducible refine de_name (x := "could") (i := 11) (s := ?s) ?hN ?hv ?ht ?q ?hd ?hcd); (case hN => rfl); (case hv => walk_at "vis"); (case ht => rfl); (case hd => decide); (case hcd => decide)))


def R_holds : Rr := fun L ss M Q => ∃ (a pcc : Addr) (n : Nat) (rows : Cnt) (c : List Y.Run), NoDK L ∧ ss = [.c a, .d (eCnt rows), .c pcc] ∧ Src M a n ∧ n < 800000000 ∧ pcc ≠ a ∧ M pcc = some (.l (c.map sRun)) ∧ okCnt rows ∧ okC (some rows) c ∧ App c ∧ c.length ≤ 300 ∧ ∀ M', Gx a M M' → Src M' a (n + 1) → Q (.d (.bool true)) M'
set_option maxHeartbeats 8000000 in
theorem ok_law_holds (S : Sys base) (F : FunAt K mg "_law_holds" s__law_holds ["source", "counts", "content"]) (c1 : Cal P w K mg base "_law_draw" 1 ["source", "limit"] R_draw) (c2 : Cal P w K mg base "_law_expected" 2 ["counts", "content"] R_expected) (c3 : Cal P w K mg base "next_lines" 7 ["line_counts", "content"] R_next) (c4 : Cal P w K mg base "can_appear" 7 ["line_counts", "content"] R_can_appear) (c5 : Cal P w K mg base "_law_with_run" 1 ["content", "run"] R_with) (b1 : mg "repr" = none) (b2 : mg "tuple" = none) : CalG P w K mg base "_law_holds" 8 ["source", "counts", "content"] R_holds := by
  refine calG_of F sc__law_holds (fun _ ss _ _ ⟨a, pcc, n, rows, c, _, h, _⟩ => by rw [h]; rfl) (fun f cdv A outer s H E L us M Q hr noG h => ?_)
  obtain ⟨a, pcc, n, rows, c, hL, rfl, sr, hn, pca, mc, okr, okc, app, hcl, fin⟩ := h
  have okc0 := okC_none okr okc
  have okn : ∀ r ∈ c, okName r.1 = true := fun r h => (okc.1 r h).1
  have l12 : rows.length ≤ 12 := okr.2.1
  refine db_cons (ds_set (i := 3) sc__law_holds.nd rfl (.inl rfl) (de_callC (c2.up (by decide)) hr (by rfl) ?_))
  walk_at "go"
  refine da_nil ⟨rows, pcc, c, rfl, okr, mc, okc, by omega, fun zs pe M1 hzs hss sub1 hpe me => ?_⟩
  have pea := sr.ne hpe
  have nce : pcc ≠ pe := neC mc hpe
  have mc1 := sub1 _ _ mc
  have sr1 := sr.sub sub1
  have hnx := nextC_ok okr okc fun z hz => hzs.mem_iff.mp hz
  have hnl : (nextC rows zs c).length ≤ 12 := by
    have := nextC_len rows c zs
    have := hzs.length_eq
    rw [List.length_map] at this
    omega
  refine db_cons (ds_set (i := 4) sc__law_holds.nd rfl (.inl rfl) (de_ix (de_lstC ?_)))
  walk_at "go"
  refine de_callT call_tuple_of (by rfl) b2 bt_tuple (da_cons ?_)
  walk_at "nm"
  refine da_nil (k_tupleD (ds := c.map eRun) rfl (by simp only [seqOf, mc1, List.map_map]; rfl) (da_nil ⟨(by show 2 ≤ sizeLine; decide), fun pl hpl => ?_⟩))
  have sub_M2 : Sub M1 (updC M1 pl (.l [.c pcc, .d (.tuple (c.map eRun))])) := (Sub.refl _).new hpl
  have m_pl : updC M1 pl (.l [.c pcc, .d (.tuple (c.map eRun))]) pl = some (.l [.c pcc, .d (.tuple (c.map eRun))]) := updC_same
  generalize updC M1 pl (.l [.c pcc, .d (.tuple (c.map eRun))]) = M2 at sub_M2 m_pl
  have pla := sr1.ne hpl
  have sr2 := sr1.sub sub_M2
  have mc2 := sub_M2 _ _ mc1
  have me2 := sub_M2 _ _ me
  refine de_callC (c1.up (by decide)) hr (by rfl) ?_
  walk_at "go"
  refine da_nil ⟨a, n, 2, rfl, sr2, by omega, by decide, by decide, fun M3 r3 fr3 sr3 h30 h31 => ?_⟩
  have mc3 : M3 pcc = some (.l (c.map sRun)) := by rw [fr3 pcc pca]; exact mc2
  have me3 : M3 pe = some (.l ((nextC rows zs c).map sRun)) := by rw [fr3 pe pea]; exact me2
  have ml3 : M3 pl = some (.l [.c pcc, .d (.tuple (c.map eRun))]) := by rw [fr3 pl pla]; exact m_pl
  have gx3 : Gx a M M3 := (Sub.gx (Sub.trans sub1 sub_M2)).trans fr3.gx
  have es : ∃ (x : Sl) (tup : Bool), atI [.c pcc, .d (.tuple (c.map eRun))] r3 = some x ∧ ∀ M' : Cs, M' pcc = some (.l (c.map sRun)) → LT M' x (c.map sRun) ∧ IsX M' x (txt tup c) := by
    have c3 : r3 = 0 ∨ r3 = 1 := by omega
    rcases c3 with rfl | rfl
    · exact ⟨.c pcc, false, rfl, fun M' h => ⟨LT.cell h, IsX.cell (by rw [h, List.map_map]; rfl)⟩⟩
    · exact ⟨.d (.tuple (c.map eRun)), true, rfl, fun M' h => ⟨LT_txt M' true c, .d _⟩⟩
  obtain ⟨x, tup, ex, hx⟩ := es
  refine ⟨_, r3, x, by simp only [seqOf, ml3], rfl, ex, ?_⟩
  refine db_cons (ds_set (i := 5) sc__law_holds.nd rfl (.inl rfl) (de_callB (call_showX S noG hr.units) (by rfl) b1 bt_repr (da_cons (de_lstC ?_))))
  walk_at "go"
  refine da_nil ⟨(by show 2 ≤ sizeLine; decide), fun pq hpq => ?_⟩
  have sub_M4 : Sub M3 (updC M3 pq (.l [.d (eCnt rows), x])) := (Sub.refl _).new hpq
  have m_pq : updC M3 pq (.l [.d (eCnt rows), x]) pq = some (.l [.d (eCnt rows), x]) := updC_same
  generalize updC M3 pq (.l [.d (eCnt rows), x]) = M4 at sub_M4 m_pq
  have mc4 := sub_M4 _ _ mc3
  have me4 := sub_M4 _ _ me3
  have sr4 := sr3.sub sub_M4
  have gx4 : Gx a M M4 := gx3.trans (Sub.gx sub_M4)
  refine da_nil (k_showX (d := pairD rows tup c) (.c m_pq (.cons (.d _) (.cons (hx _ mc4).2 .nil))) rfl (fit_pair okr okc0) (by rw [wt_pair]; omega) (depth_pair rows tup c) ?_)
  refine db_cons (ds_set (i := 6) sc__law_holds.nd rfl (.inl rfl) (de_callC (c3.up (by decide)) hr (by rfl) ?_))
  walk_at "go"
  refine da_nil ⟨rows, x, c, hL, rfl, okr, (hx _ mc4).1, okc, by omega, fun _ zs2 hzs2 hss2 pr hpr => ?_, fun z => absurd app z⟩
  rw [sorted_one (hzs2.trans hzs.symm) hss2 hss]
  have sub_M5 : Sub M4 (updC M4 pr (.l ((nextC rows zs c).map sRun))) := (Sub.refl _).new hpr
  have m_pr : updC M4 pr (.l ((nextC rows zs c).map sRun)) pr = some (.l ((nextC rows zs c).map sRun)) := updC_same
  generalize updC M4 pr (.l ((nextC rows zs c).map sRun)) = M5 at sub_M5 m_pr
  have mc5 := sub_M5 _ _ mc4
  have me5 := sub_M5 _ _ me4
  have sr5 := sr4.sub sub_M5
  have gx5 : Gx a M M5 := gx4.trans (Sub.gx sub_M5)
  have pra := sr4.ne hpr
  have nrc : pcc ≠ pr := neC mc4 hpr
  have nre : pe ≠ pr := neC me4 hpr
  have hprM : M pr = none := gx4.none hpr pra
  have fitN : fitX (txt false (nextC rows zs c)) = true := fit_list fun r hr => by
    obtain ⟨_, _, _, _, _, _, _, _, k⟩ := hnx r hr
    exact k
  refine db_cons (ds_if (dt_or2 (dt_cmp op_ne (de_callB (call_showX S noG hr.units) (by rfl) b1 bt_repr (da_cons ?_)) (by with_unfolding_all rfl))))
  walk_at "nm"
  refine da_nil (k_showX (d := txt false (nextC rows zs c)) (IsX.cell (by rw [m_pr, List.map_map]; rfl)) rfl fitN (by rw [wt_txt]; omega) (Nat.le_trans (depth_txt false _) (by decide)) (de_callB (call_showX S noG hr.units) (by rfl) b1 bt_repr (da_cons ?_)))
  walk_at "nm"
  refine da_nil (k_showX (d := txt false (nextC rows zs c)) (IsX.cell (by rw [me5, List.map_map]; rfl)) rfl fitN (by rw [wt_txt]; omega) (Nat.le_trans (depth_txt false _) (by decide)) (k_neS ?_))
  rw [decide_eq_true rfl]
  refine ⟨_, rfl, no1, fun _ => dt_cmp op_ne (de_callB (call_showX S noG hr.units) (by rfl) b1 bt_repr (da_cons (de_lstC ?_))) (by with_unfolding_all rfl)⟩
  walk_at "go"
  refine da_nil ⟨(by show 2 ≤ sizeLine; decide), fun p6 hp6 => ?_⟩
  have sub_M6 : Sub M5 (updC M5 p6 (.l [.d (eCnt rows), x])) := (Sub.refl _).new hp6
  have m_p6 : updC M5 p6 (.l [.d (eCnt rows), x]) p6 = some (.l [.d (eCnt rows), x]) := updC_same
  generalize updC M5 p6 (.l [.d (eCnt rows), x]) = M6 at sub_M6 m_p6
  have mc6 := sub_M6 _ _ mc5
  have me6 := sub_M6 _ _ me5
  have mr6 := sub_M6 _ _ m_pr
  have sr6 := sr5.sub sub_M6
  have gx6 : Gx a M M6 := gx5.trans (Sub.gx sub_M6)
  refine da_nil (k_showX (d := pairD rows tup c) (.c m_p6 (.cons (.d _) (.cons (hx _ mc6).2 .nil))) rfl (fit_pair okr okc0) (by rw [wt_pair]; omega) (depth_pair rows tup c) ?_)
  walk_at "nm"
  refine k_neS ?_
  rw [decide_eq_true rfl]
  refine ⟨_, rfl, no1, fun _ => db_nil ?_⟩
  refine db_cons (ds_append ?_)
  walk_at "nm"
  refine ⟨⟨rfl, _, by simp only [seqOf, mr6]; rfl⟩, de_tupD (da_cons ?_)⟩
  walk_at "go"
  refine da_nil ⟨[.str "nobody", .int 1, .int 1], rfl, (by show 3 ≤ sizeLine; decide), pr, _, rfl, mr6, ?_, ?_⟩
  · rw [List.length_map, sizeLine_eq]
    omega
  have mc7 : updC M6 pr (.l ((nextC rows zs c).map sRun ++ [.d (.tuple [.str "nobody", .int 1, .int 1])])) pcc = some (.l (c.map sRun)) := by rw [updC_ne nrc]; exact mc6
  have me7 : updC M6 pr (.l ((nextC rows zs c).map sRun ++ [.d (.tuple [.str "nobody", .int 1, .int 1])])) pe = some (.l ((nextC rows zs c).map sRun)) := by rw [updC_ne nre]; exact me6
  have sr7 := sr6.upd (c := .l ((nextC rows zs c).map sRun ++ [.d (.tuple [.str "nobody", .int 1, .int 1])])) pra
  have gx7 := gx6.put (c := .l ((nextC rows zs c).map sRun ++ [.d (.tuple [.str "nobody", .int 1, .int 1])])) hprM
  generalize updC M6 pr (.l ((nextC rows zs c).map sRun ++ [.d (.tuple [.str "nobody", .int 1, .int 1])])) = M7 at mc7 me7 sr7 gx7
  refine db_cons (ds_for PassesOwn.never rfl (di_seq ?_))
  walk_at "nm"
  refine ⟨_, by simp only [seqOf, me7]; rfl, ?_⟩
  refine ⟨fun i τ' M' => ∃ y6 y7 y8 y9 y10 y11, τ' = [some (.c a), some (.d (eCnt rows)), some (.c pcc), some (.c pe), some x, some (.d (.str (pairD rows tup c).shown)), y6, y7, y8, y9, y10, y11] ∧ Sub M7 M', ⟨_, none, none, none, none, none, rfl, Sub.refl _⟩, ?_, ?_, ?_⟩
  · rintro i τ' M' ⟨y6, y7, y8, y9, y10, y11, rfl, sb⟩
    simp only [seqOf, sb _ _ me7]
  · rintro i y τ' M8 hi hy ⟨y6, y7, y8, y9, y10, y11, rfl, sb8⟩
    rw [List.length_map] at hi
    have hy' : y = sRun (nextC rows zs c)[i] := by
      rw [List.getElem?_map, List.getElem?_eq_getElem hi] at hy
      exact (Option.some.inj hy).symm
    subst hy'
    obtain ⟨v, hv, zn, l0, v1, hlow, hlv, hhigh, okr0⟩ := hnx _ (List.getElem_mem hi)
    generalize (nextC rows zs c)[i] = r at hv zn l0 hlow hlv hhigh okr0
    refine dg_of (pg_tup rfl (pgs_cons (pg_name (i := 7) sc__law_holds.nd rfl (.inl rfl)) (pgs_cons (pg_name (i := 8) sc__law_holds.nd rfl (.inl rfl)) (pgs_cons (pg_name (i := 9) sc__law_holds.nd rfl (.inl rfl)) pgs_nil)))) (wg_tup rfl rfl rfl (wgs_cons (wg_name (wgs_cons (wg_name (wgs_cons (wg_name (wgs_nil ?_))))))))
    have mc8 := sb8 _ _ mc7
    refine db_cons (ds_for PassesOwn.never rfl (di_seq (de_lstC ?_)))
    walk_at "go"
    refine da_nil ⟨(by show 4 ≤ sizeLine; decide), fun pn hpn => ?_⟩
    have sub_M9 : Sub M8 (updC M8 pn (.l [.d (.int (r.2.1 - 1)), .d (.int r.2.1), .d (.int r.2.2), .d (.int (r.2.2 + 1))])) := (Sub.refl _).new hpn
    have m_pn : updC M8 pn (.l [.d (.int (r.2.1 - 1)), .d (.int r.2.1), .d (.int r.2.2), .d (.int (r.2.2 + 1))]) pn = some (.l [.d (.int (r.2.1 - 1)), .d (.int r.2.1), .d (.int r.2.2), .d (.int (r.2.2 + 1))]) := updC_same
    generalize updC M8 pn (.l [.d (.int (r.2.1 - 1)), .d (.int r.2.1), .d (.int r.2.2), .d (.int (r.2.2 + 1))]) = M9 at sub_M9 m_pn
    have mc9 := sub_M9 _ _ mc8
    have sb9 := Sub.trans sb8 sub_M9
    refine ⟨_, by simp only [seqOf, m_pn]; rfl, ?_⟩
    refine ⟨fun j τ' M' => ∃ y10 y11, τ' = [some (.c a), some (.d (eCnt rows)), some (.c pcc), some (.c pe), some x, some (.d (.str (pairD rows tup c).shown)), y6, some (dS r.1), some (dI r.2.1), some (dI r.2.2), y10, y11] ∧ Sub M9 M', ⟨_, _, rfl, Sub.refl _⟩, ?_, ?_, ?_⟩
    · rintro j τ' M' ⟨z10, z11, rfl, sb⟩
      simp only [seqOf, sb _ _ m_pn]
    · rintro j y τ' M10 hj hy ⟨z10, z11, rfl, sb10⟩
      have hk : ∃ k : Int, y = dI k := by
        have hm := List.mem_of_getElem? hy
        rcases List.mem_cons.mp hm with e | hm
        · exact ⟨_, e⟩
        rcases List.mem_cons.mp hm with e | hm
        · exact ⟨_, e⟩
        rcases List.mem_cons.mp hm with e | hm
        · exact ⟨_, e⟩
        rcases List.mem_cons.mp hm with e | hm
        · exact ⟨_, e⟩
        · cases hm
      obtain ⟨k, rfl⟩ := hk
      refine dg_of (pg_name (i := 10) sc__law_holds.nd rfl (.inl rfl)) (wg_name ?_)
      have mc10 := sb10 _ _ mc9
      refine db_cons (ds_if (dt_chain op_le op_le (de_int ?_)))
      walk_at "nm"
      refine k_bool ⟨_, rfl, fun h1 => de_dget (hu_of hr) ?_, fun _ => ⟨no1, fun _ => db_nil (db_nil ⟨_, _, rfl, sb10⟩)⟩⟩
      walk_at "nm"
      walk_at "nm"
      refine ⟨_, .inr r.1, dI v, .d (kdC rows), rfl, by rw [valS_C, hv]; rfl, k_bool ⟨_, rfl, fun h2 => ?_, fun _ => db_nil (db_nil ⟨_, _, rfl, sb10⟩)⟩⟩
      have h1 := of_decide_eq_true h1
      have h2 := of_decide_eq_true h2
      have okrun : okRun (some rows) (r.1, k, k) := ⟨zn, h1, Int.le_refl _, by show k ≤ (getC rows r.1).getD 0; rw [hv]; exact h2⟩
      have hap : App (withRun c (r.1, k, k)) ↔ r.2.1 ≤ k ∧ k ≤ r.2.2 := by
        rw [hlow, hhigh]
        exact app_withRun app h2
      refine db_cons (ds_set (i := 11) sc__law_holds.nd rfl (.inl rfl) (de_callC (c4.up (by decide)) hr (by rfl) ?_))
      walk_at "go"
      refine de_callC (c5.up (by decide)) hr (by rfl) ?_
      walk_at "go"
      refine de_tupD (da_cons ?_)
      walk_at "go"
      refine da_nil ⟨[.str r.1, .int k, .int k], rfl, (by show 3 ≤ sizeLine; decide), da_nil ⟨pcc, c, (r.1, k, k), rfl, mc10, okn, by omega, fun p11 hp11 => ?_⟩⟩
      have sub_M11 : Sub M10 (updC M10 p11 (.l ((withRun c (r.1, k, k)).map sRun))) := (Sub.refl _).new hp11
      have m_p11 : updC M10 p11 (.l ((withRun c (r.1, k, k)).map sRun)) p11 = some (.l ((withRun c (r.1, k, k)).map sRun)) := updC_same
      generalize updC M10 p11 (.l ((withRun c (r.1, k, k)).map sRun)) = M11 at sub_M11 m_p11
      have wl := withRun_len c (r.1, k, k)
      refine da_nil ⟨rows, .c p11, withRun c (r.1, k, k), hL, rfl, okr, LT.cell m_p11, okC_withR okc okrun, by omega, ?_⟩
      rw [obsA_dec hap]
      refine db_cons (ds_if (dt_cmp op_ne (de_callB (call_showA S noG hr.units) (by rfl) b1 bt_repr (da_cons ?_)) (by with_unfolding_all rfl)))
      walk_at "nm"
      refine da_nil (k_showA (d := .bool (decide (r.2.1 ≤ k ∧ k ≤ r.2.2))) (.d _) rfl rfl (by show 1 ≤ 20000; decide) (Nat.zero_le _) (de_callB (call_showA S noG hr.units) (by rfl) b1 bt_repr (da_cons (de_chain op_le op_le ?_))))
      walk_at "nm"
      walk_at "nm"
      refine k_bool ⟨_, rfl, fun h3 => ?_, fun h3 => ?_⟩
      · have h3 := of_decide_eq_true h3
        walk_at "nm"
        refine k_bool (da_nil (k_showA (d := .bool (decide (k ≤ r.2.2))) (.d _) rfl rfl (by show 1 ≤ 20000; decide) (Nat.zero_le _) (k_neS ?_)))
        rw [show decide (r.2.1 ≤ k ∧ k ≤ r.2.2) = decide (k ≤ r.2.2) from decide_eq_decide.mpr ⟨fun q => q.2, fun q => ⟨h3, q⟩⟩, decide_eq_true rfl]
        exact ⟨_, rfl, no1, fun _ => db_nil (db_nil (db_nil ⟨_, _, rfl, Sub.trans sb10 sub_M11⟩))⟩
      · have h3 := of_decide_eq_false h3
        refine da_nil (k_showA (d := .bool false) (.d _) rfl rfl (by show 1 ≤ 20000; decide) (Nat.zero_le _) (k_neS ?_))
        rw [decide_eq_false (p := r.2.1 ≤ k ∧ k ≤ r.2.2) (fun q => h3 q.1), decide_eq_true rfl]
        exact ⟨_, rfl, no1, fun _ => db_nil (db_nil (db_nil ⟨_, _, rfl, Sub.trans sb10 sub_M11⟩))⟩
    · rintro τ' M10 ⟨z10, z11, rfl, sb10⟩
      exact db_nil ⟨_, _, _, _, _, _, rfl, Sub.trans sb9 sb10⟩
  · rintro τ' M8 ⟨y6, y7, y8, y9, y10, y11, rfl, sb8⟩
    have mc8 := sb8 _ _ mc7
    have me8 := sb8 _ _ me7
    refine db_cons (ds_ret (de_cmp op_eq (de_callB (call_showX S noG hr.units) (by rfl) b1 bt_repr (da_cons (de_callC (c3.up (by decide)) hr (by rfl) ?_))) (by with_unfolding_all rfl)))
    walk_at "go"
    refine da_nil ⟨rows, x, c, hL, rfl, okr, (hx _ mc8).1, okc, by omega, fun _ zs3 hzs3 hss3 p9 hp9 => ?_, fun z => absurd app z⟩
    rw [sorted_one (hzs3.trans hzs.symm) hss3 hss]
    have sub_M9 : Sub M8 (updC M8 p9 (.l ((nextC rows zs c).map sRun))) := (Sub.refl _).new hp9
    have m_p9 : updC M8 p9 (.l ((nextC rows zs c).map sRun)) p9 = some (.l ((nextC rows zs c).map sRun)) := updC_same
    generalize updC M8 p9 (.l ((nextC rows zs c).map sRun)) = M9 at sub_M9 m_p9
    have me9 := sub_M9 _ _ me8
    refine da_nil (k_showX (d := txt false (nextC rows zs c)) (IsX.cell (by rw [m_p9, List.map_map]; rfl)) rfl fitN (by rw [wt_txt]; omega) (Nat.le_trans (depth_txt false _) (by decide)) (de_callB (call_showX S noG hr.units) (by rfl) b1 bt_repr (da_cons ?_)))
    walk_at "nm"
    refine da_nil (k_showX (d := txt false (nextC rows zs c)) (IsX.cell (by rw [me9, List.map_map]; rfl)) rfl fitN (by rw [wt_txt]; omega) (Nat.le_trans (depth_txt false _) (by decide)) (k_eqS ?_))
    rw [decide_eq_true rfl]
    exact fin _ (gx7.trans (Sub.gx (Sub.trans sb8 sub_M9))) (sr7.sub (Sub.trans sb8 sub_M9))

end

end Pg

namespace Pg
open PySem L2 Y PyProof.Rows

local macro_rules | `(tactic| walk_at "vis") => `(tactic| first | exact Or.inl rfl | exact Or.inr (Or.inl rfl) | exact Or.inr (Or.inr rfl))
local macro_rules | `(tactic| walk_at "e1") => `(tactic| first | walk_at "nm" | refine de_int ?_ | refine de_add ?_ | refine de_sub ?_ | refine de_str ?_ | refine de_non ?_ | refine de_bl ?_)
local macro_rules | `(tactic| walk_at "go") => `(tactic| repeat (first | ((with_reducible show DE _ _ _ _ _ _); walk_at "e1") | ((with_reducible show DA _ _ _ _ _ _); refine da_cons ?_) | refine ⟨_, _, rfl, rfl, ?_⟩))


/-- one count set -/
def setC (cs : Cnt) (z : Str) (v : Int) : Cnt := cs.map fun p => if p.1 = z then (p.1, v) else p
theorem setC_keys (cs : Cnt) (z : Str) (v : Int) : (setC cs z v).map (·.1) = cs.map (·.1) := by
  unfold setC
  rw [List.map_map]
  apply List.map_congr_left
  intro p _
  show (if p.1 = z then (p.1, v) else p).1 = p.1
  split <;> rfl
theorem putS_C {cs : Cnt} {z : Str} {v : Int} (h : z ∈ cs.map (·.1)) : putS (slK (kdC cs)) (.inr z) (dI v) = slK (kdC (setC cs z v)) := by
  unfold putS
  rw [if_pos]
  · unfold slK kdC setC
    rw [List.map_map, List.map_map, List.map_map, List.map_map]
    apply List.map_congr_left
    intro p _
    show (if (Sum.inr p.1 : Key) = .inr z then ((Sum.inr p.1 : Key), dI v) else (.inr p.1, .d (.int p.2))) = (Sum.inr (if p.1 = z then (p.1, v) else p).1, Sl.d (.int (if p.1 = z then (p.1, v) else p).2))
    by_cases e : p.1 = z
    · rw [if_pos (by rw [e]), if_pos e]
      rfl
    · rw [if_neg (fun q => e (Sum.inr.inj q)), if_neg e]
  · obtain ⟨p, hp, e⟩ := List.mem_map.mp h
    rw [List.any_eq_true]
    refine ⟨(.inr p.1, .d (.int p.2)), ?_, by simp [e]⟩
    unfold slK kdC
    rw [List.map_map]
    exact List.mem_map.mpr ⟨p, hp, rfl⟩
theorem getC_set {cs : Cnt} {z y : Str} {v : Int} (nd : (cs.map (·.1)).Nodup) (h : z ∈ cs.map (·.1)) : getC (setC cs z v) y = if y = z then some v else getC cs y := by
  have nd' : ((setC cs z v).map (·.1)).Nodup := by rw [setC_keys]; exact nd
  by_cases e : y = z
  · rw [if_pos e, e]
    obtain ⟨p, hp, e2⟩ := List.mem_map.mp h
    have hm : (z, v) ∈ setC cs z v := by
      unfold setC
      refine List.mem_map.mpr ⟨p, hp, ?_⟩
      rw [if_pos e2, e2]
    exact getC_mem nd' hm
  · rw [if_neg e]
    cases g : getC cs y with
    | some u =>
      obtain ⟨p, hp, rfl, rfl⟩ := getC_some g
      have hm : p ∈ setC cs z v := by
        unfold setC
        refine List.mem_map.mpr ⟨p, hp, ?_⟩
        rw [if_neg e]
      exact getC_mem nd' hm
    | none =>
      cases g' : getC (setC cs z v) y with
      | none => rfl
      | some u =>
        obtain ⟨p, hp, e1, _⟩ := getC_some g'
        have hk : y ∈ cs.map (·.1) := by
          rw [← setC_keys cs z v, ← e1]
          exact List.mem_map_of_mem hp
        obtain ⟨p2, hp2, e2⟩ := List.mem_map.mp hk
        rw [← e2, getC_mem nd hp2] at g
        cases g
theorem okCnt_set {cs : Cnt} {z : Str} {v : Int} (h : okCnt cs) (h0 : 0 ≤ v) (h1 : v ≤ 10 ^ 30) : okCnt (setC cs z v) := by
  obtain ⟨a, b, c, d⟩ := h
  refine ⟨by unfold setC; rw [List.length_map]; exact a, by unfold setC; rw [List.length_map]; exact b, by rw [setC_keys]; exact c, fun p hp => ?_⟩
  obtain ⟨x, hx, rfl⟩ := List.mem_map.mp hp
  obtain ⟨d1, d2, d3⟩ := d x hx
  split
  · exact ⟨d1, h0, h1⟩
  · exact ⟨d1, d2, d3⟩
theorem okC_set {cs : Cnt} {z : Str} {v u : Int} {c : List Y.Run} (nd : (cs.map (·.1)).Nodup) (h : z ∈ cs.map (·.1)) (hg : getC cs z = some u) (hv : u ≤ v) (ok : okC (some cs) c) : okC (some (setC cs z v)) c := ⟨fun r hr => by
  obtain ⟨o1, o2, o3, o4⟩ := ok.1 r hr
  refine ⟨o1, o2, o3, ?_⟩
  have o4 : r.2.2 ≤ (getC cs r.1).getD 0 := o4
  show r.2.2 ≤ (getC (setC cs z v) r.1).getD 0
  rw [getC_set nd h]
  by_cases e : r.1 = z
  · rw [if_pos e]
    rw [e, hg] at o4
    exact Int.le_trans o4 hv
  · rw [if_neg e]
    exact o4, ok.2⟩

theorem app_front {c : List Y.Run} {r : Y.Run} (h : App (c ++ [r])) : App c := by
  refine ⟨?_, fun i hi => ?_⟩
  · have := h.1
    rw [start_snoc] at this
    by_cases e : c = []
    · rw [e]; rfl
    · rw [if_neg e] at this; exact this
  · have := h.2 i (by rw [List.length_append]; omega)
    rw [badI_snoc hi] at this
    exact this
theorem okC_front {lc : Option Cnt} {c : List Y.Run} {r : Y.Run} (h : okC lc (c ++ [r])) : okC lc c := ⟨fun x hx => h.1 x (List.mem_append_left _ hx), fun i a b ha hb => by
  obtain ⟨h1, _⟩ := List.getElem?_eq_some_iff.mp ha
  obtain ⟨h2, _⟩ := List.getElem?_eq_some_iff.mp hb
  exact h.2 i a b (by rw [List.getElem?_append_left h1]; exact ha) (by rw [List.getElem?_append_left h2]; exact hb)⟩
theorem ctOk_front {rows : Cnt} {c : List Y.Run} (h : CtOk rows c) : CtOk rows c.dropLast := by
  by_cases e : c = []
  · rw [e]; exact ctOk_nil _
  · rw [← List.dropLast_concat_getLast e] at h
    exact ⟨okC_front h.1, app_front h.2⟩
theorem app_adj {c : List Y.Run} (h : App c) {i : Nat} {a b : Y.Run} (ha : c[i]? = some a) (hb : c[i + 1]? = some b) : a.1 ≠ b.1 := by
  obtain ⟨hlt, _⟩ := List.getElem?_eq_some_iff.mp hb
  have := h.2 (i + 1) hlt
  unfold badI at this
  rw [hb] at this
  have this : badAt c (i + 1) b = none := this
  unfold badAt at this
  split at this
  · cases this
  · split at this
    · cases this
    · next h1 h2 =>
      intro e
      exact h2 ⟨by omega, by rw [show i + 1 - 1 = i from rfl, ha]; exact congrArg some e⟩
theorem okC_back {rows : Cnt} {c : List Y.Run} (h : CtOk rows c) : okC (some rows) c.reverse := ⟨fun r hr => h.1.1 r (List.mem_reverse.mp hr), fun i a b ha hb => by
  obtain ⟨h1, _⟩ := List.getElem?_eq_some_iff.mp hb
  rw [List.length_reverse] at h1
  rw [List.getElem?_reverse (by omega)] at ha
  rw [List.getElem?_reverse h1] at hb
  have e : c.length - 1 - i = (c.length - 1 - (i + 1)) + 1 := by omega
  rw [e] at ha
  have := app_adj h.2 hb ha
  unfold cont
  rw [decide_eq_false this]
  rfl⟩
theorem okC_two {rows : Cnt} {r : Y.Run} {c : List Y.Run} (h : okC (some rows) (r :: c)) (h2 : 2 ≤ r.2.2) : okC (some rows) ((r.1, 2, r.2.2) :: c) := ⟨fun x hx => by
  obtain ⟨o1, _, _, o4⟩ := h.1 r List.mem_cons_self
  rcases List.mem_cons.mp hx with rfl | hx
  · exact ⟨o1, (by show (1 : Int) ≤ 2; decide), h2, o4⟩
  · exact h.1 x (List.mem_cons_of_mem _ hx), fun i a b ha hb => by
  cases i with
  | zero =>
    have ha : some (r.1, 2, r.2.2) = some a := ha
    cases ha
    have := h.2 0 r b rfl hb
    unfold cont at this ⊢
    exact this
  | succ i => exact h.2 (i + 1) a b ha hb⟩
theorem not_app_two {z : Str} {l : Int} {c : List Y.Run} : ¬ App ((z, 2, l) :: c) := fun h => nomatch (show (true : Bool) = false from h.1)
def rnA (n : Nat) : Y.Run := (("a" : Str), 1 + (n : Int), 1 + (n : Int))
def rnB (n : Nat) : Y.Run := (("b" : Str), 1 + (n : Int), 1 + (n : Int))
def rowsB : Cnt := [("a", 150), ("b", 101)]
def big : Nat → List Y.Run
  | 0 => []
  | n + 1 => big n ++ [rnA n] ++ [rnB n]
theorem big_len : ∀ n, (big n).length = 2 * n
  | 0 => rfl
  | n + 1 => by
    show (big n ++ [rnA n] ++ [rnB n]).length = _
    rw [List.length_append, List.length_append, big_len n]
    rfl
theorem okB : okCnt rowsB := ⟨by decide, by decide, by decide +kernel, fun p hp => by
  rcases List.mem_cons.mp hp with rfl | hp
  · exact ⟨by decide +kernel, by decide, by decide⟩
  · rw [List.mem_singleton.mp hp]
    exact ⟨by decide +kernel, by decide, by decide⟩⟩
theorem big_ok : ∀ n, n ≤ 101 → CtOk rowsB (big n) ∧ lastN (big n) ("a" : Str) = (n : Int) ∧ lastN (big n) ("b" : Str) = (n : Int) ∧ (∀ l : Y.Run, (big n).getLast? = some l → l.1 = ("b" : Str)) ∧ (big n = [] → n = 0)
  | 0, _ => ⟨ctOk_nil _, rfl, rfl, (fun l h => nomatch (show (none : Option Y.Run) = some l from h)), fun _ => rfl⟩
  | n + 1, hn => by
    obtain ⟨h1, h2, h3, h4, h5⟩ := big_ok n (by omega)
    have ab : ("a" : Str) ≠ "b" := by decide
    have s1 : CtOk rowsB (big n ++ [rnA n]) := by
      refine ctOk_snoc h1 ⟨(by show okName ("a" : Str) = true; decide +kernel), ?_, Int.le_refl _, ?_⟩ (fun e => ?_) ?_ fun l hl => ?_
      · show 1 ≤ 1 + (n : Int)
        omega
      · show 1 + (n : Int) ≤ 150
        omega
      · show 1 + (n : Int) = 1
        have := h5 e
        omega
      · show lastN (big n) ("a" : Str) < 1 + (n : Int)
        omega
      · show l.1 ≠ ("a" : Str)
        rw [h4 l hl]
        exact ab.symm
    have s2 : CtOk rowsB (big (n + 1)) := by
      refine ctOk_snoc s1 ⟨(by show okName ("b" : Str) = true; decide +kernel), ?_, Int.le_refl _, ?_⟩ (fun e => ?_) ?_ fun l hl => ?_
      · show 1 ≤ 1 + (n : Int)
        omega
      · show 1 + (n : Int) ≤ 101
        omega
      · simp at e
      · show lastN (big n ++ [rnA n]) ("b" : Str) < 1 + (n : Int)
        rw [lastN_snoc, if_neg (show ¬ ("b" : Str) = (rnA n).1 from ab.symm)]
        omega
      · rw [List.getLast?_concat] at hl
        cases hl
        exact ab
    refine ⟨s2, ?_, ?_, fun l hl => ?_, fun e => ?_⟩
    · show lastN (big n ++ [rnA n] ++ [rnB n]) ("a" : Str) = _
      rw [lastN_snoc, if_neg (show ¬ ("a" : Str) = (rnB n).1 from ab), lastN_snoc, if_pos (show ("a" : Str) = (rnA n).1 from rfl)]
      show 1 + (n : Int) = ((n + 1 : Nat) : Int)
      omega
    · show lastN (big n ++ [rnA n] ++ [rnB n]) ("b" : Str) = _
      rw [lastN_snoc, if_pos (show ("b" : Str) = (rnB n).1 from rfl)]
      show 1 + (n : Int) = ((n + 1 : Nat) : Int)
      omega
    · change (big n ++ [rnA n] ++ [rnB n]).getLast? = some l at hl
      rw [List.getLast?_concat] at hl
      cases hl
      rfl
    · have := congrArg List.length e
      rw [big_len] at this
      simp at this
theorem big_199 : CtOk rowsB ((big 100).take 199) := by
  have := ctOk_front (big_ok 100 (by decide)).1
  rw [List.dropLast_eq_take, big_len] at this
  exact this
section
variable {P : Program} {w : World} {K : PySem.W.Frag} {mg : Str → Option Value} {base : Heap}

local macro_rules | `(tactic| walk_at "nm") => `(tactic| first | ((with_reducible refine de_name (x := "script") (i := 0) (s := ?s) ?hN ?hv ?ht ?q ?hd ?hcd); (case hN => rfl); (case hv => walk_at "vis"); (case ht => rfl); (case hd => decide); (case hcd => decide)) | ((with_reducible refine de_name (x := "k") (i := 1) (s := ?s) ?hN ?hv ?ht ?q ?hd ?hcd); (case hN => rfl); (case hv => walk_at "vis"); (case ht => rfl); (case hd => decide); (case hcd => decide)) | ((with_reducible refine de_name (x := "source") (i := 2) (s := ?s) ?hN ?hv ?ht ?q ?hd ?hcd); (case hN => rfl); (case hv => walk_at "vis"); (case ht => rfl); (case hd => decide); (case hcd => decide)) | ((with_reducible refine de_name (x := "turn") (i := 3) (s := ?s) ?hN ?hv ?ht ?q ?hd ?hcd); (case hN => rfl); (case hv => walk_at "vis"); (case ht => rfl); (case hd => decide); (case hcd => decide)) | ((with_reducible refine de_name (x := "counts") (i := 4) (s := ?s) ?hN ?hv ?ht ?q ?hd ?hcd); (case hN => rfl); (case hv => walk_at "vis"); (case ht => rfl); (case hd => decide); (case hcd => decide)) | ((with_reducible refine de_name (x := "content") (i := 5) (s := ?s) ?hN ?hv ?ht ?q ?hd ?hcd); (case hN => rfl); (case hv => walk_at "vis"); (case ht => rfl); (case hd => decide); (case hcd => decide)) | ((with_reducible refine de_name (x := "number") (i := 6) (s := ?s) ?hN ?hv ?ht ?q ?hd ?hcd); (case hN => rfl); (case hv => walk_at "vis"); (case ht => rfl); (case hd => decide); (case hcd => decide)))


def R_law : Rr := fun L ss M Q => ∃ (s : Sl) (ns : List Int), NoDK L ∧ ss = [s] ∧ (∀ M', seqOf M' s = some (ns.map dI)) ∧ ns.length ≤ 63 ∧ ∀ M', Q (.d (.bool true)) M'
set_option maxHeartbeats 8000000 in
theorem ok_law (S : Sys base) {f : Addr} {fd : FuncData} (F : Fun K "law" "law" s_law f fd) (c1 : Cal P w K mg base "_law_source" 1 ["script", "k"] R_source) (c2 : Cal P w K mg base "_law_line_counts" 2 ["source"] R_counts) (c3 : Cal P w K mg base "_law_content" 2 ["source", "counts", "most"] R_content)
    (c4 : CalG P w K mg base "_law_holds" 8 ["source", "counts", "content"] R_holds) (c5 : Cal P w K mg base "next_lines" 7 ["line_counts", "content"] R_next) (c6 : Cal P w K mg base "can_appear" 7 ["line_counts", "content"] R_can_appear) (b1 : mg "range" = none) (b2 : mg "max" = none) (b3 : mg "min" = none) (b4 : mg "len" = none) (b5 : mg "sorted" = none) : Calm P w K mg base 9 f fd ["script"] (Spk K R_law) := by
  refine calm_of F sc_law (fun _ ss _ _ ⟨s, ns, _, h, _⟩ => by rw [h]; rfl) (fun cdv A outer s H E L ss M Q hr noG h => ?_)
  obtain ⟨x, ns, hL, rfl, hs, hl, fin⟩ := h
  refine db_cons (ds_for PassesOwn.never rfl (di_range1 (by rfl) b1 (de_callB (call_max2 rfl) (by rfl) b2 bt_max (da_cons (de_int (da_cons (de_callB (call_min2 rfl) (by rfl) b3 bt_min (da_cons (de_int (da_cons (de_callB call_len_seq (by rfl) b4 bt_len (da_cons ?_)))))))))))) 
  walk_at "nm"
  refine da_nil (k_len (hs M) (da_nil (k_min2 (da_nil (k_max2 ⟨_, rfl, ?_⟩)))))
  have hk : ∃ k : Nat, (if (if ((ns.map dI).length : Int) < 8 then ((ns.map dI).length : Int) else 8) > 1 then (if ((ns.map dI).length : Int) < 8 then ((ns.map dI).length : Int) else 8) else 1) = (k : Int) ∧ k ≤ 8 := by
    by_cases h : ((ns.map dI).length : Int) < 8
    · rw [if_pos h]
      by_cases h2 : ((ns.map dI).length : Int) > 1
      · exact ⟨(ns.map dI).length, by rw [if_pos h2], by omega⟩
      · exact ⟨1, by rw [if_neg h2]; rfl, by decide⟩
    · exact ⟨8, by rw [if_neg h]; rfl, Nat.le_refl _⟩
  obtain ⟨kk, ek, hkk⟩ := hk
  rw [ek]
  refine ⟨by omega, by omega, ?_⟩
  refine ⟨fun i τ' M' => ∃ y1 y2 y3 y4 y5 y6, τ' = [some x, y1, y2, y3, y4, y5, y6], ⟨none, none, none, none, none, none, rfl⟩, fun _ _ _ _ => trivial, ?_, ?_⟩
  · rintro i y τ' M2 hi rfl ⟨y1, y2, y3, y4, y5, y6, rfl⟩
    have hi : i < 8 := by omega
    refine dg_of (pg_name (i := 1) sc_law.nd rfl (.inl rfl)) (wg_name ?_)
    refine db_cons (ds_set (i := 2) sc_law.nd rfl (.inl rfl) (de_callC (c1.up (by decide)) hr (by rfl) ?_))
    walk_at "go"
    refine da_nil ⟨x, ns, i, rfl, hs M2, by omega, by omega, fun ps M3 hps sub3 sr3 => ?_⟩
    refine db_cons (ds_for PassesOwn.never rfl (di_range1 (by rfl) b1 (de_int ⟨4, rfl, by decide, by decide, ?_⟩)))
    refine ⟨fun j τ' M' => ∃ y3 y4 y5 y6, τ' = [some x, some (dI i), some (.c ps), y3, y4, y5, y6] ∧ Src M' ps (2200 * j), ⟨_, _, _, _, rfl, sr3⟩, fun _ _ _ _ => trivial, ?_, ?_⟩
    · rintro j y τ' M4 hj rfl ⟨z3, z4, z5, z6, rfl, sr4⟩
      have hj : j < 4 := hj
      refine dg_of (pg_name (i := 3) sc_law.nd rfl (.inl rfl)) (wg_name ?_)
      refine db_cons (ds_set (i := 4) sc_law.nd rfl (.inl rfl) (de_callC (c2.up (by decide)) hr (by rfl) ?_))
      walk_at "go"
      refine da_nil ⟨ps, _, rfl, sr4, by omega, fun rows pc M5 gx5 pcs pc4 m5c sr5 okr inp => ?_⟩
      refine db_cons (ds_set (i := 5) sc_law.nd rfl (.inl rfl) (de_callC (c3.up (by decide)) hr (by rfl) ?_))
      walk_at "go"
      refine da_nil ⟨ps, pc, _, rows, 8, rfl, sr5, by omega, pcs, m5c, okr, by decide, fun c pr M6 gx6 prs pr5 m6r sr6 ct lc => ?_⟩
      have m6c := gx6 _ _ pcs m5c
      have ncr : pc ≠ pr := neC m5c pr5
      have scp : ps ≠ pc := pcs.symm
      have srp : pr ≠ pc := ncr.symm
      have see : ∀ rs : Cnt, seeA pc (eCnt rs) [.c ps, .c pc, .c pr] = [.c ps, .d (eCnt rs), .c pr] := fun rs => by simp [seeA, scp, srp]
      refine db_cons (ds_if (dt_not (dt_val (de_callVG pc (kdC rows) c4 (hr.mono (by decide)) noG (by rfl) ?_))))
      walk_at "go"
      refine da_nil ⟨hL, m6c, nd_cnt rows, ps, pr, _, rows, c, hL, see rows, sr6.del pcs, by omega, prs, by rw [delC_ne srp]; exact m6r, okr, ct.1, ct.2, by omega, fun M7 gx7 sr7 no7 => ⟨keep [ps, pr] M7, keep_sub, rfl, keep_nd (fun z hz => ?_), true, rfl, no1, fun _ => db_nil ?_⟩⟩
      · rcases List.mem_cons.mp hz with rfl | hz
        · exact sr7.nd
        rw [List.mem_singleton.mp hz]
        exact ⟨_, gx7 _ _ prs (by rw [delC_ne srp]; exact m6r), nd_runs c⟩
      have m7r : M7 pr = some (.l (c.map sRun)) := gx7 _ _ prs (by rw [delC_ne srp]; exact m6r)
      have m8r : updC (keep [ps, pr] M7) pc (.k (slK (kdC rows))) pr = some (.l (c.map sRun)) := by rw [updC_ne srp, keep_in (by simp)]; exact m7r
      have m8c : updC (keep [ps, pr] M7) pc (.k (slK (kdC rows))) pc = some (.k (slK (kdC rows))) := updC_same
      have sr8 := (sr7.keep (ps := [ps, pr]) (by simp)).upd (c := .k (slK (kdC rows))) pcs
      generalize updC (keep [ps, pr] M7) pc (.k (slK (kdC rows))) = M8 at m8r m8c sr8
      have l1 : 1 ≤ rows.length := okr.1
      have l12 : rows.length ≤ 12 := okr.2.1
      have hkl : (slK (kdC rows)).length = rows.length := by unfold slK kdC; rw [List.length_map, List.length_map]
      refine db_cons (ds_dput (hu_of hr) (de_pow (de_int (de_int ⟨_, _, rfl, rfl, powW (k := 4) (by decide) (by decide) (by decide), ?_⟩))))
      walk_at "nm"
      refine de_ix (de_callB (call_sortedD rfl) (by rfl) b5 bt_sorted (da_cons ?_))
      walk_at "nm"
      refine da_nil (k_sortedD (.c m8c) (keys_C rows) (by rw [List.length_map]; omega) fun ys py hperm hsort hpy => ?_)
      have hyl : ys.length = rows.length := by rw [hperm.length_eq, List.length_map]
      have pys := sr8.ne hpy
      have sub_M9 : Sub M8 (updC M8 py (.l (ys.map dS))) := (Sub.refl _).new hpy
      have m_py : updC M8 py (.l (ys.map dS)) py = some (.l (ys.map dS)) := updC_same
      generalize updC M8 py (.l (ys.map dS)) = M9 at sub_M9 m_py
      have m9c := sub_M9 _ _ m8c
      have m9r := sub_M9 _ _ m8r
      have sr9 := sr8.sub sub_M9
      have hj0 : 0 < ys.length := by omega
      refine de_int ⟨ys.map dS, ((0 : Nat) : Int), dS ys[0], by simp only [seqOf, m_py], rfl, atI_nat (by rw [List.getElem?_map, List.getElem?_eq_getElem hj0]; rfl), ?_⟩
      have hin : ys[0] ∈ rows.map (·.1) := hperm.mem_iff.mp (List.getElem_mem hj0)
      generalize ys[0] = z at hin
      obtain ⟨x0, hx0, ez⟩ := List.mem_map.mp hin
      have nd := okr.2.2.1
      have hgz := getC_mem nd hx0
      rw [ez] at hgz
      obtain ⟨_, v0', v1'⟩ := okr.2.2.2 x0 hx0
      refine ⟨pc, _, .inr z, rfl, m9c, rfl, by rw [hkl, sizeLine_eq]; omega, ?_⟩
      rw [show (Sl.d (PyData.int (10 ^ (30 : Int).toNat))) = dI (10 ^ 30) from rfl, putS_C hin]
      have okr2 := okCnt_set (z := z) okr (v := 10 ^ 30) (by decide) (Int.le_refl _)
      have okc2 := okC_set nd hin hgz v1' ct.1
      have m10c : updC M9 pc (.k (slK (kdC (setC rows z (10 ^ 30))))) pc = some (.k (slK (kdC (setC rows z (10 ^ 30))))) := updC_same
      have m10r : updC M9 pc (.k (slK (kdC (setC rows z (10 ^ 30))))) pr = some (.l (c.map sRun)) := by rw [updC_ne srp]; exact m9r
      have sr10 := sr9.upd (c := .k (slK (kdC (setC rows z (10 ^ 30))))) pcs
      generalize updC M9 pc (.k (slK (kdC (setC rows z (10 ^ 30))))) = M10 at m10c m10r sr10
      generalize setC rows z (10 ^ 30) = rows2 at okr2 okc2 m10c
      have ct2 : CtOk rows2 c := ⟨okc2, ct.2⟩
      have okn : ∀ r ∈ c, okName r.1 = true := fun r h => (ct.1.1 r h).1
      refine db_consJ (fun τ' M' => τ' = [some x, some (dI i), some (.c ps), some (dI j), some (.c pc), some (.c pr), z6] ∧ Src M' ps (2200 * j + 2101) ∧ M' pc = some (.k (slK (kdC rows2))) ∧ M' pr = some (.l (c.dropLast.map sRun))) (ds_if (dt_cmp (op_neD hr.units) ?_ (by with_unfolding_all rfl))) ?_
      · walk_at "nm"
        refine de_lstD (da_nil ⟨[], rfl, Nat.zero_le _, k_neD (isd_runs m10r) (.d (.list [])) (shaped_runs c okn) (by decide +kernel) ?_⟩)
        rw [show PyData.eqv (.list (c.map eRun)) (.list []) = decide (c = []) from eqv_list eRun eqv_run c []]
        refine ⟨_, rfl, fun hne => ?_, fun he => db_nil ⟨rfl, sr10.mono (by omega), m10c, ?_⟩⟩
        · refine db_cons (ds_pop ?_)
          walk_at "nm"
          have hne : c ≠ [] := by simpa using hne
          refine ⟨pr, _, rfl, m10r, ?_, db_nil ⟨rfl, (sr10.upd prs).mono (by omega), by rw [updC_ne ncr]; exact m10c, ?_⟩⟩
          · simpa using hne
          · rw [updC_same]
            simp
        · have he : c = [] := by simpa using he
          rw [m10r, he]
          rfl
      rintro τ' M11 ⟨rfl, sr11, m11c, m11r⟩
      have ct3 : CtOk rows2 c.dropLast := ctOk_front ct2
      have hel : c.dropLast.length ≤ 8 := by
        rw [List.length_dropLast]
        omega
      generalize c.dropLast = e at ct3 hel m11r
      have oke : ∀ r ∈ e, okName r.1 = true := fun r h => (ct3.1.1 r h).1
      refine db_cons (ds_if (dt_not (dt_val (de_callVG pc (kdC rows2) c4 (hr.mono (by decide)) noG (by rfl) ?_))))
      walk_at "go"
      refine da_nil ⟨hL, m11c, nd_cnt rows2, ps, pr, _, rows2, e, hL, see rows2, sr11.del pcs, by omega, prs, by rw [delC_ne srp]; exact m11r, okr2, ct3.1, ct3.2, by omega, fun M12 gx12 sr12 no12 => ⟨keep [ps, pr] M12, keep_sub, rfl, keep_nd (fun z hz => ?_), true, rfl, no1, fun _ => db_nil ?_⟩⟩
      · rcases List.mem_cons.mp hz with rfl | hz
        · exact sr12.nd
        rw [List.mem_singleton.mp hz]
        exact ⟨_, gx12 _ _ prs (by rw [delC_ne srp]; exact m11r), nd_runs e⟩
      have m12r : M12 pr = some (.l (e.map sRun)) := gx12 _ _ prs (by rw [delC_ne srp]; exact m11r)
      have m13r : updC (keep [ps, pr] M12) pc (.k (slK (kdC rows2))) pr = some (.l (e.map sRun)) := by rw [updC_ne srp, keep_in (by simp)]; exact m12r
      have m13c : updC (keep [ps, pr] M12) pc (.k (slK (kdC rows2))) pc = some (.k (slK (kdC rows2))) := updC_same
      have sr13 := (sr12.keep (ps := [ps, pr]) (by simp)).upd (c := .k (slK (kdC rows2))) pcs
      generalize updC (keep [ps, pr] M12) pc (.k (slK (kdC rows2))) = M13 at m13r m13c sr13
      have okb := okC_back ct3
      refine db_consJ (fun τ' M' => τ' = [some x, some (dI i), some (.c ps), some (dI j), some (.c pc), some (.c pr), z6] ∧ Src M' ps (2200 * j + 2101 + 1) ∧ M' pc = some (.k (slK (kdC rows2))) ∧ M' pr = some (.l (e.map sRun))) (ds_if (dt_cmp op_eq (de_cmp op_isN (de_callV pc (kdC rows2) (c5.up (by decide)) hr (by rfl) ?_) (nomark _)) (by with_unfolding_all rfl))) ?_
      · walk_at "go"
        refine de_rev ?_
        walk_at "nm"
        refine ⟨e.map sRun, rfl, by simp only [seqOf, m13r], fun p14 hp14 => ?_⟩
        rw [← List.map_reverse]
        have sub_M14 : Sub M13 (updC M13 p14 (.l (e.reverse.map sRun))) := (Sub.refl _).new hp14
        have m_p14 : updC M13 p14 (.l (e.reverse.map sRun)) p14 = some (.l (e.reverse.map sRun)) := updC_same
        generalize updC M13 p14 (.l (e.reverse.map sRun)) = M14 at sub_M14 m_p14
        have np14 : p14 ≠ pc := (neC m13c hp14).symm
        have see14 : seeA pc (eCnt rows2) [.c pc, .c p14] = [.d (eCnt rows2), .c p14] := by simp [seeA, np14]
        have m14r := sub_M14 _ _ m13r
        have m14c := sub_M14 _ _ m13c
        have sr14 := sr13.sub sub_M14
        refine da_nil ⟨hL, m14c, nd_cnt rows2, rows2, .c p14, e.reverse, hL, see14, okr2, LT.cell (by rw [delC_ne np14]; exact m_p14), okb, by rw [List.length_reverse]; omega, fun app zs hzs hss q15 hq15 no => ⟨keep [ps, pr] (delC M14 pc), ?_, rfl, keep_nd (fun z hz => ?_), de_non (k_isN ?_)⟩, fun napp no => ⟨keep [ps, pr] (delC M14 pc), keep_sub, rfl, keep_nd (fun z hz => ?_), de_non (k_isN ?_)⟩⟩
        · exact Sub.trans keep_sub ((Sub.refl _).new hq15)
        · rcases List.mem_cons.mp hz with rfl | hz
          · exact (sr14.del pcs).nd
          rw [List.mem_singleton.mp hz]
          exact ⟨_, by rw [delC_ne srp]; exact m14r, nd_runs e⟩
        · have m15r : updC (keep [ps, pr] (delC M14 pc)) pc (.k (slK (kdC rows2))) pr = some (.l (e.map sRun)) := by rw [updC_ne srp, keep_in (by simp), delC_ne srp]; exact m14r
          have m15c : updC (keep [ps, pr] (delC M14 pc)) pc (.k (slK (kdC rows2))) pc = some (.k (slK (kdC rows2))) := updC_same
          have sr15 := ((sr14.del pcs).keep (ps := [ps, pr]) (by simp)).upd (c := .k (slK (kdC rows2))) pcs
          generalize updC (keep [ps, pr] (delC M14 pc)) pc (.k (slK (kdC rows2))) = M15 at m15r m15c sr15
          refine de_callV pc (kdC rows2) (c6.up (by decide)) hr (by rfl) ?_
          walk_at "go"
          refine de_rev ?_
          walk_at "nm"
          refine ⟨e.map sRun, rfl, by simp only [seqOf, m15r], fun p16 hp16 => ?_⟩
          rw [← List.map_reverse]
          have sub_M16 : Sub M15 (updC M15 p16 (.l (e.reverse.map sRun))) := (Sub.refl _).new hp16
          have m_p16 : updC M15 p16 (.l (e.reverse.map sRun)) p16 = some (.l (e.reverse.map sRun)) := updC_same
          generalize updC M15 p16 (.l (e.reverse.map sRun)) = M16 at sub_M16 m_p16
          have np16 : p16 ≠ pc := (neC m15c hp16).symm
          have see16 : seeA pc (eCnt rows2) [.c pc, .c p16] = [.d (eCnt rows2), .c p16] := by simp [seeA, np16]
          have m16r := sub_M16 _ _ m15r
          have sr16 := sr15.sub sub_M16
          refine da_nil ⟨hL, sub_M16 _ _ m15c, nd_cnt rows2, rows2, .c p16, e.reverse, hL, see16, okr2, LT.cell (by rw [delC_ne np16]; exact m_p16), okb, by rw [List.length_reverse]; omega, fun no => ⟨keep [ps, pr] (delC M16 pc), keep_sub, rfl, keep_nd (fun z hz => ?_), k_eqB ⟨_, rfl, fun hh => ?_, fun _ => db_nil ⟨rfl, ((sr16.del pcs).keep (by simp)).upd pcs, updC_same, by rw [updC_ne srp, keep_in (by simp), delC_ne srp]; exact m16r⟩⟩⟩⟩
          · rcases List.mem_cons.mp hz with rfl | hz
            · exact (sr16.del pcs).nd
            rw [List.mem_singleton.mp hz]
            exact ⟨_, by rw [delC_ne srp]; exact m16r, nd_runs e⟩
          · have hh := of_decide_eq_true hh
            rw [obsA_app app] at hh; cases hh
        · rcases List.mem_cons.mp hz with rfl | hz
          · exact (sr14.del pcs).nd
          rw [List.mem_singleton.mp hz]
          exact ⟨_, by rw [delC_ne srp]; exact m14r, nd_runs e⟩
        · have m15r : updC (keep [ps, pr] (delC M14 pc)) pc (.k (slK (kdC rows2))) pr = some (.l (e.map sRun)) := by rw [updC_ne srp, keep_in (by simp), delC_ne srp]; exact m14r
          have m15c : updC (keep [ps, pr] (delC M14 pc)) pc (.k (slK (kdC rows2))) pc = some (.k (slK (kdC rows2))) := updC_same
          have sr15 := ((sr14.del pcs).keep (ps := [ps, pr]) (by simp)).upd (c := .k (slK (kdC rows2))) pcs
          generalize updC (keep [ps, pr] (delC M14 pc)) pc (.k (slK (kdC rows2))) = M15 at m15r m15c sr15
          refine de_callV pc (kdC rows2) (c6.up (by decide)) hr (by rfl) ?_
          walk_at "go"
          refine de_rev ?_
          walk_at "nm"
          refine ⟨e.map sRun, rfl, by simp only [seqOf, m15r], fun p16 hp16 => ?_⟩
          rw [← List.map_reverse]
          have sub_M16 : Sub M15 (updC M15 p16 (.l (e.reverse.map sRun))) := (Sub.refl _).new hp16
          have m_p16 : updC M15 p16 (.l (e.reverse.map sRun)) p16 = some (.l (e.reverse.map sRun)) := updC_same
          generalize updC M15 p16 (.l (e.reverse.map sRun)) = M16 at sub_M16 m_p16
          have np16 : p16 ≠ pc := (neC m15c hp16).symm
          have see16 : seeA pc (eCnt rows2) [.c pc, .c p16] = [.d (eCnt rows2), .c p16] := by simp [seeA, np16]
          have m16r := sub_M16 _ _ m15r
          have sr16 := sr15.sub sub_M16
          refine da_nil ⟨hL, sub_M16 _ _ m15c, nd_cnt rows2, rows2, .c p16, e.reverse, hL, see16, okr2, LT.cell (by rw [delC_ne np16]; exact m_p16), okb, by rw [List.length_reverse]; omega, fun no => ⟨keep [ps, pr] (delC M16 pc), keep_sub, rfl, keep_nd (fun z hz => ?_), k_eqB ⟨_, rfl, fun hh => ?_, fun _ => db_nil ⟨rfl, ((sr16.del pcs).keep (by simp)).upd pcs, updC_same, by rw [updC_ne srp, keep_in (by simp), delC_ne srp]; exact m16r⟩⟩⟩⟩
          · rcases List.mem_cons.mp hz with rfl | hz
            · exact (sr16.del pcs).nd
            rw [List.mem_singleton.mp hz]
            exact ⟨_, by rw [delC_ne srp]; exact m16r, nd_runs e⟩
          · have hh := of_decide_eq_true hh
            exact absurd (obsA_none hh.symm) napp
      rintro τ' M20 ⟨rfl, sr20, m20c, m20r⟩
      refine db_cons (ds_if (dt_and2 (dt_cmp (op_neD hr.units) ?_ (by with_unfolding_all rfl))))
      walk_at "nm"
      refine de_lstD (da_nil ⟨[], rfl, Nat.zero_le _, k_neD (isd_runs m20r) (.d (.list [])) (shaped_runs e oke) (by decide +kernel) ?_⟩)
      rw [show PyData.eqv (.list (e.map eRun)) (.list []) = decide (e = []) from eqv_list eRun eqv_run e []]
      refine ⟨_, rfl, fun hne => dt_cmp op_gt (de_ix (de_ix ?_)) (by with_unfolding_all rfl), fun _ => ⟨no1, fun _ => db_nil (db_nil ⟨_, _, _, _, rfl, sr20.mono (by omega)⟩)⟩⟩
      cases e with
      | nil => simp at hne
      | cons r t =>
        have s20 : seqOf M20 (.c pr) = some ((r :: t).map sRun) := by simp only [seqOf, m20r]
        walk_at "nm"
        refine de_int ⟨_, ((0 : Nat) : Int), sRun r, s20, rfl, atI_nat rfl, de_int ⟨_, _, dI r.2.2, rfl, rfl, rfl, de_int (k_bool ⟨_, rfl, fun h5 => ?_, fun _ => db_nil (db_nil ⟨_, _, _, _, rfl, sr20.mono (by omega)⟩)⟩)⟩⟩
        have h5 := of_decide_eq_true h5
        refine db_cons (ds_if (dt_cmp op_notN (de_callV pc (kdC rows2) (c5.up (by decide)) hr (by rfl) (da_cons ?_)) (nomark _)))
        walk_at "nm"
        refine da_cons (de_cat ?_)
        refine de_lstD (da_cons ?_)
        refine de_tupD (da_cons ?_)
        refine de_ix (de_ix ?_)
        walk_at "nm"
        refine de_int ⟨_, ((0 : Nat) : Int), sRun r, s20, rfl, atI_nat rfl, de_int ⟨_, _, dS r.1, rfl, rfl, rfl, da_cons (de_int (da_cons (de_ix (de_ix ?_))))⟩⟩
        walk_at "nm"
        refine de_int ⟨_, ((0 : Nat) : Int), sRun r, s20, rfl, atI_nat rfl, de_int ⟨_, _, dI r.2.2, rfl, rfl, rfl, da_nil ⟨[.str r.1, .int 2, .int r.2.2], rfl, (by show 3 ≤ sizeLine; decide), da_nil ⟨[.tuple [.str r.1, .int 2, .int r.2.2]], rfl, (by show 1 ≤ sizeLine; decide), de_slLo ?_⟩⟩⟩⟩
        walk_at "nm"
        refine de_int ⟨1, rfl, (r :: t).map sRun, rfl, s20, fun p21 hp21 => ?_⟩
        have hcut : cutG ((r :: t).map sRun) (some 1) none = t.map sRun := by
          unfold cutG
          rw [show (1 : Int) = ((1 : Nat) : Int) from rfl, HT.sIx_nat, HT.sIx_none]
          simp
          exact List.take_of_length_le (by rw [List.length_map]; exact Nat.le_refl _)
        rw [hcut]
        have sub_M21 : Sub M20 (updC M20 p21 (.l (t.map sRun))) := (Sub.refl _).new hp21
        have m_p21 : updC M20 p21 (.l (t.map sRun)) p21 = some (.l (t.map sRun)) := updC_same
        generalize updC M20 p21 (.l (t.map sRun)) = M21 at sub_M21 m_p21
        have m21r := sub_M21 _ _ m20r
        have m21c := sub_M21 _ _ m20c
        have sr21 := sr20.sub sub_M21
        rw [List.length_cons] at hel
        refine ⟨[.d (.tuple [.str r.1, .int 2, .int r.2.2])], t.map sRun, rfl, by simp only [lstOf, m_p21], by rw [List.length_map, sizeLine_eq]; show 1 + t.length ≤ _; omega, fun p22 hp22 => ?_⟩
        rw [show ([.d (.tuple [.str r.1, .int 2, .int r.2.2])] ++ t.map sRun : List Sl) = (((r.1, 2, r.2.2) : Y.Run) :: t).map sRun from rfl]
        have sub_M22 : Sub M21 (updC M21 p22 (.l ((((r.1, 2, r.2.2) : Y.Run) :: t).map sRun))) := (Sub.refl _).new hp22
        have m_p22 : updC M21 p22 (.l ((((r.1, 2, r.2.2) : Y.Run) :: t).map sRun)) p22 = some (.l ((((r.1, 2, r.2.2) : Y.Run) :: t).map sRun)) := updC_same
        generalize updC M21 p22 (.l ((((r.1, 2, r.2.2) : Y.Run) :: t).map sRun)) = M22 at sub_M22 m_p22
        have np22 : p22 ≠ pc := (neC m21c hp22).symm
        have see22 : seeA pc (eCnt rows2) [.c pc, .c p22] = [.d (eCnt rows2), .c p22] := by simp [seeA, np22]
        have m22r := sub_M22 _ _ m21r
        have sr22 := sr21.sub sub_M22
        refine da_nil ⟨hL, sub_M22 _ _ m21c, nd_cnt rows2, rows2, .c p22, ((r.1, 2, r.2.2) : Y.Run) :: t, hL, see22, okr2, LT.cell (by rw [delC_ne np22]; exact m_p22), okC_two ct3.1 (by omega), by rw [List.length_cons]; omega, fun app => absurd app not_app_two, fun _ no => ⟨keep [ps, pr] (delC M22 pc), keep_sub, rfl, keep_nd (fun z hz => ?_), de_non (k_notN ⟨_, rfl, no1, fun _ => db_nil (db_nil (db_nil ⟨_, _, _, _, rfl, (((sr22.del pcs).keep (by simp)).upd pcs).mono (by omega)⟩))⟩)⟩⟩
        rcases List.mem_cons.mp hz with rfl | hz
        · exact (sr22.del pcs).nd
        rw [List.mem_singleton.mp hz]
        exact ⟨_, by rw [delC_ne srp]; exact m22r, nd_runs (r :: t)⟩
    · rintro τ' M4 ⟨z3, z4, z5, z6, rfl, sr4⟩
      exact db_nil ⟨_, _, _, _, _, _, rfl⟩
  · rintro τ' M2 ⟨y1, y2, y3, y4, y5, y6, rfl⟩
    refine db_cons (ds_set (i := 5) sc_law.nd rfl (.inl rfl) (de_lstC (da_nil ⟨Nat.zero_le _, fun pb hpb => ?_⟩)))
    have m3 : updC M2 pb (.l []) pb = some (.l ((big 0).map sRun)) := updC_same
    generalize updC M2 pb (.l []) = M3 at m3
    refine db_cons (ds_for PassesOwn.never rfl (di_range2 (by rfl) b1 (de_int (de_int ⟨1, 101, rfl, rfl, by decide, ?_⟩))))
    refine ⟨fun i τ' M' => ∃ p y6, τ' = [some x, y1, y2, y3, y4, some (.c p), y6] ∧ M' p = some (.l ((big i).map sRun)), ⟨pb, _, rfl, m3⟩, fun _ _ _ _ => trivial, ?_, ?_⟩
    · rintro i y τ' M4 hi rfl ⟨p, z6, rfl, m4⟩
      have hi : i < 100 := hi
      refine dg_of (pg_name (i := 6) sc_law.nd rfl (.inl rfl)) (wg_name ?_)
      refine db_cons (ds_set (i := 5) sc_law.nd rfl (.inl rfl) (de_cat ?_))
      walk_at "nm"
      refine de_lstD (da_cons (de_tupD ?_))
      walk_at "go"
      refine da_nil ⟨[.str "a", .int (1 + (i : Int)), .int (1 + (i : Int))], rfl, (by show 3 ≤ sizeLine; decide), da_cons (de_tupD ?_)⟩
      walk_at "go"
      refine da_nil ⟨[.str "b", .int (1 + (i : Int)), .int (1 + (i : Int))], rfl, (by show 3 ≤ sizeLine; decide), da_nil ⟨[.tuple [.str "a", .int (1 + (i : Int)), .int (1 + (i : Int))], .tuple [.str "b", .int (1 + (i : Int)), .int (1 + (i : Int))]], rfl, (by show 2 ≤ sizeLine; decide), ?_⟩⟩
      refine ⟨(big i).map sRun, [.d (.tuple [.str "a", .int (1 + (i : Int)), .int (1 + (i : Int))]), .d (.tuple [.str "b", .int (1 + (i : Int)), .int (1 + (i : Int))])], by simp only [lstOf, m4], rfl, ?_, fun p2 hp2 => db_nil ⟨p2, _, rfl, ?_⟩⟩
      · rw [List.length_map, big_len, sizeLine_eq]
        show 2 * i + 2 ≤ _
        omega
      · rw [updC_same]
        show _ = some (Cell.l ((big i ++ [rnA i] ++ [rnB i]).map sRun))
        rw [List.append_assoc, List.map_append]
        rfl
    · rintro τ' M4 ⟨p, z6, rfl, m4⟩
      have m4 : M4 p = some (.l ((big 100).map sRun)) := m4
      refine db_cons (ds_ret (de_callG c4 (hr.mono (by decide)) noG (by rfl) (da_cons (de_callC (c1.up (by decide)) hr (by rfl) ?_))))
      walk_at "go"
      refine da_nil ⟨x, ns, 0, rfl, hs M4, by decide, by decide, fun ps M5 hps sub5 sr5 => da_cons (de_frzK (de_dictSI2 (by decide) fun p6 hp6 => ⟨p6, kdC rowsB, rfl, updC_same, ?_⟩))⟩
      rw [delC_updC hp6]
      refine da_cons (de_slHi ?_)
      walk_at "nm"
      refine de_int ⟨((199 : Nat) : Int), rfl, (big 100).map sRun, rfl, by simp only [seqOf, sub5 _ _ m4], fun p7 hp7 => ?_⟩
      rw [cutG_hi, ← List.map_take]
      have p7s := sr5.ne hp7
      exact da_nil ⟨ps, p7, 0, rowsB, (big 100).take 199, hL, rfl, sr5.upd p7s, by decide, p7s, updC_same, okB, big_199.1, big_199.2, by rw [List.length_take, big_len]; decide, fun M' _ _ => fin M'⟩

end

end Pg

namespace Pg
open PySem L2 Y PyProof.Rows
theorem fa_mk {K : PySem.W.Frag} {h : Heap} {mg : Str → Option Value} {x : Str} {st : Stmt} {ps : List Str} {f : Addr} {oc : Value} {od an : Option Addr} {osl : Array (Option Value)} {kV doc pm cdv ct : Value} (X : K.In h) (G : h.Ns mainGlobals mg) (a : PySem.W.nsIn K mainGlobals x = some (some (.ref f))) (l : K.lookup f = some ⟨oc, od, .func (PySem.W.fnOf x x (defArgs st) (defBody st) (defScope st) .none kV doc pm an cdv ct), osl⟩)
    (c : PySem.W.codeIn K cdv x = true) (k : PySem.W.keepIn K (.ref f) = true) (b : ∀ (kV doc pm : Value) (an : Option Addr) (cdv ct : Value) (us : List Value), us.length = ps.length → bindArgs (PySem.W.fnOf x x (defArgs st) (defBody st) (defScope st) .none kV doc pm an cdv ct) ⟨us, []⟩ = pure (ps.zip us)) : FunAt K mg x st ps :=
  ⟨f, _, PySem.W.mg_of X G a |> fun m => ⟨fun_mk l c k, m, (fun_mk l c k).binds b⟩⟩
theorem sp_law {K : PySem.W.Frag} {H : Hp} {a : Addr} {ns : List Int} (hl : ns.length ≤ 63) (hO : Only H) (hS : SqL K H a (ns.map V.int)) : Spk K R_law [.ref a] H (fun v _ => v = .bl true) fun _ _ _ => False := by
  have ret : ∀ {L : Lk} {G : Hp}, Ret K L G (fun s _ => s = .d (.bool true)) (fun v _ => v = .bl true) := fun s M' v G' H' h _ _ a => by
    subst h
    exact sl_bl a
  rcases hS with (h | ⟨o, h⟩) | h
  · rcases hO a with z | ⟨o, xs, z⟩
    · rw [h] at z; cases z
    · rw [h] at z; cases z
  · refine ⟨[(a, o, .lst (ns.map V.int))], fun _ => none, fun b => if b = a then some (.lst (ns.map V.int)) else none, [.s ns], fun s _ => s = .d (.bool true), ⟨fun b u e => ?_, fun b c e => (nomatch e), fun x hx => ?_⟩, .cons (.s (.inl (if_pos rfl))) .nil, ⟨.s ns, ns, fun x hx kvs e => ?_, rfl, fun _ => rfl, hl, fun _ => rfl⟩, ret⟩
    · by_cases hb : b = a
      · subst hb
        have e' : some (HO.lst (ns.map V.int)) = some u := (if_pos rfl).symm.trans e
        cases e'
        exact .inr ⟨_, List.mem_cons_self, rfl, rfl⟩
      · have e' : none = some u := (if_neg hb).symm.trans e
        cases e'
    · rw [List.mem_singleton.mp hx]
      exact h
    · rw [List.mem_singleton.mp hx] at e
      cases e
  · exact ⟨[], fun _ => none, fun _ => none, [.s ns], fun s _ => s = .d (.bool true), ⟨fun b u e => (nomatch e), fun b c e => (nomatch e), fun x hx => (nomatch hx)⟩, .cons (.s (.inr h)) .nil, ⟨.s ns, ns, fun x hx kvs e => (nomatch hx), rfl, fun _ => rfl, hl, fun _ => rfl⟩, ret⟩

theorem all_mk {l : PySem.W.OpenLaw} {w : World} {K : PySem.W.Frag} {h : Heap} {mg : Str → Option Value} {fa fl : Addr} {oc kV doc pm cd ct : Value} {od an : Option Addr} {osl : Array (Option Value)} (X : K.In h) (G : h.Ns mainGlobals mg) (hfa : mg "law" = some (.ref fa))
    (F_plain_integer : FunAt K mg "plain_integer" s_plain_integer ["value"])
    (F_plain_text : FunAt K mg "plain_text" s_plain_text ["value"])
    (F_plain_writer : FunAt K mg "plain_writer" s_plain_writer ["value"])
    (F_highest_number : FunAt K mg "highest_number" s_highest_number ["line_counts", "writer"])
    (F_plain_lines : FunAt K mg "plain_lines" s_plain_lines ["line_counts", "writer", "first", "last"])
    (F_plain_run : FunAt K mg "plain_run" s_plain_run ["line_counts", "value"])
    (F_continues : FunAt K mg "continues" s_continues ["run", "following"])
    (F_plain_content : FunAt K mg "plain_content" s_plain_content ["line_counts", "value"])
    (F_checked_content : FunAt K mg "checked_content" s_checked_content ["line_counts", "value"])
    (F_plain_line_counts : FunAt K mg "plain_line_counts" s_plain_line_counts ["value"])
    (F_checked_line_counts : FunAt K mg "checked_line_counts" s_checked_line_counts ["value"])
    (F_appearing_obstruction : FunAt K mg "appearing_obstruction" s_appearing_obstruction ["runs"])
    (F_can_appear : FunAt K mg "can_appear" s_can_appear ["line_counts", "content"])
    (F_no_numbers : FunAt K mg "no_numbers" s_no_numbers ["counts"])
    (F_latest_numbers : FunAt K mg "latest_numbers" s_latest_numbers ["before", "runs"])
    (F_next_lines : FunAt K mg "next_lines" s_next_lines ["line_counts", "content"])
    (F__law_source : FunAt K mg "_law_source" s__law_source ["script", "k"])
    (F__law_draw : FunAt K mg "_law_draw" s__law_draw ["source", "limit"])
    (F__law_line_counts : FunAt K mg "_law_line_counts" s__law_line_counts ["source"])
    (F__law_with_run : FunAt K mg "_law_with_run" s__law_with_run ["content", "run"])
    (F__law_content : FunAt K mg "_law_content" s__law_content ["source", "counts", "most"])
    (F__law_expected : FunAt K mg "_law_expected" s__law_expected ["counts", "content"])
    (F__law_holds : FunAt K mg "_law_holds" s__law_holds ["source", "counts", "content"])
    (z0_isinstance : PySem.W.nsIn K mainGlobals "isinstance" = some none)
    (z0_int : PySem.W.nsIn K mainGlobals "int" = some none)
    (z0_bool : PySem.W.nsIn K mainGlobals "bool" = some none)
    (z0_str : PySem.W.nsIn K mainGlobals "str" = some none)
    (z0_len : PySem.W.nsIn K mainGlobals "len" = some none)
    (z0_type : PySem.W.nsIn K mainGlobals "type" = some none)
    (z0_tuple : PySem.W.nsIn K mainGlobals "tuple" = some none)
    (z0_list : PySem.W.nsIn K mainGlobals "list" = some none)
    (z0_dict : PySem.W.nsIn K mainGlobals "dict" = some none)
    (z0_sorted : PySem.W.nsIn K mainGlobals "sorted" = some none)
    (z0_enumerate : PySem.W.nsIn K mainGlobals "enumerate" = some none)
    (z0_min : PySem.W.nsIn K mainGlobals "min" = some none)
    (z0_max : PySem.W.nsIn K mainGlobals "max" = some none)
    (z0_range : PySem.W.nsIn K mainGlobals "range" = some none)
    (z0_repr : PySem.W.nsIn K mainGlobals "repr" = some none)
    {i_LONGEST_NAME : Int} {t_LONGEST_NAME : Tok} (g0_LONGEST_NAME : PySem.W.nsIn K mainGlobals "LONGEST_NAME" = some (some (.int i_LONGEST_NAME t_LONGEST_NAME))) (g1_LONGEST_NAME : i_LONGEST_NAME = 8)
    {i_LARGEST_NUMBER : Int} {t_LARGEST_NUMBER : Tok} (g0_LARGEST_NUMBER : PySem.W.nsIn K mainGlobals "LARGEST_NUMBER" = some (some (.int i_LARGEST_NUMBER t_LARGEST_NUMBER))) (g1_LARGEST_NUMBER : i_LARGEST_NUMBER = (10 ^ 30))
    {i_MOST_WRITERS : Int} {t_MOST_WRITERS : Tok} (g0_MOST_WRITERS : PySem.W.nsIn K mainGlobals "MOST_WRITERS" = some (some (.int i_MOST_WRITERS t_MOST_WRITERS))) (g1_MOST_WRITERS : i_MOST_WRITERS = 12)
    (a0 : PySem.W.nsIn K mainGlobals "law" = some (some (.ref fl))) (l0 : K.lookup fl = some ⟨oc, od, .func (PySem.W.fnOf "law" "law" (defArgs s_law) (defBody s_law) (defScope s_law) .none kV doc pm an cd ct), osl⟩) (c0 : PySem.W.codeIn K cd "law" = true) (k0 : PySem.W.keepIn K (.ref fl) = true) :
    ∃ fd : FuncData, (∀ (s : Shared) (v : Value), BindsTo s fd ⟨[v], []⟩ [("script", v)]) ∧ ∀ base : Heap, K.In base → base.Ns mainGlobals mg → Sys base → Calm l.prog w K mg base 9 fa fd ["script"] (Spk K R_law) := by
  have e := hfa.symm.trans (PySem.W.mg_of X G a0)
  cases e

  have z_isinstance : mg "isinstance" = none := PySem.W.mg_none_of X G z0_isinstance
  have z_int : mg "int" = none := PySem.W.mg_none_of X G z0_int
  have z_bool : mg "bool" = none := PySem.W.mg_none_of X G z0_bool
  have z_str : mg "str" = none := PySem.W.mg_none_of X G z0_str
  have z_len : mg "len" = none := PySem.W.mg_none_of X G z0_len
  have z_type : mg "type" = none := PySem.W.mg_none_of X G z0_type
  have z_tuple : mg "tuple" = none := PySem.W.mg_none_of X G z0_tuple
  have z_list : mg "list" = none := PySem.W.mg_none_of X G z0_list
  have z_dict : mg "dict" = none := PySem.W.mg_none_of X G z0_dict
  have z_sorted : mg "sorted" = none := PySem.W.mg_none_of X G z0_sorted
  have z_enumerate : mg "enumerate" = none := PySem.W.mg_none_of X G z0_enumerate
  have z_min : mg "min" = none := PySem.W.mg_none_of X G z0_min
  have z_max : mg "max" = none := PySem.W.mg_none_of X G z0_max
  have z_range : mg "range" = none := PySem.W.mg_none_of X G z0_range
  have z_repr : mg "repr" = none := PySem.W.mg_none_of X G z0_repr
  have g_LONGEST_NAME : ∃ t, mg "LONGEST_NAME" = some (.int 8 t) := ⟨t_LONGEST_NAME, by rw [← g1_LONGEST_NAME]; exact PySem.W.mg_of X G g0_LONGEST_NAME⟩
  have g_LARGEST_NUMBER : ∃ t, mg "LARGEST_NUMBER" = some (.int (10 ^ 30) t) := ⟨t_LARGEST_NUMBER, by rw [← g1_LARGEST_NUMBER]; exact PySem.W.mg_of X G g0_LARGEST_NUMBER⟩
  have g_MOST_WRITERS : ∃ t, mg "MOST_WRITERS" = some (.int 12 t) := ⟨t_MOST_WRITERS, by rw [← g1_MOST_WRITERS]; exact PySem.W.mg_of X G g0_MOST_WRITERS⟩
  refine ⟨PySem.W.fnOf "law" "law" (defArgs s_law) (defBody s_law) (defScope s_law) .none kV doc pm an cd ct, fun s v => .of_eq rfl, fun base _ _ S0 => ?_⟩
  have c_plain_integer : Cal l.prog w K mg base "plain_integer" 1 ["value"] R_plain_integer := ok_plain_integer F_plain_integer z_isinstance z_int z_bool
  have c_plain_text : Cal l.prog w K mg base "plain_text" 1 ["value"] R_plain_text := ok_plain_text F_plain_text z_isinstance z_str
  have c_plain_writer : Cal l.prog w K mg base "plain_writer" 2 ["value"] R_plain_writer := ok_plain_writer F_plain_writer c_plain_text z_len g_LONGEST_NAME
  have c_highest_number : Cal l.prog w K mg base "highest_number" 1 ["line_counts", "writer"] R_highest_number := ok_highest_number F_highest_number g_LARGEST_NUMBER
  have c_plain_lines : Cal l.prog w K mg base "plain_lines" 3 ["line_counts", "writer", "first", "last"] R_plain_lines := ok_plain_lines F_plain_lines c_plain_writer c_plain_integer c_highest_number
  have c_plain_run : Cal l.prog w K mg base "plain_run" 4 ["line_counts", "value"] R_plain_run := ok_plain_run F_plain_run c_plain_lines z_type z_tuple z_len
  have c_continues : Cal l.prog w K mg base "continues" 1 ["run", "following"] R_continues := ok_continues F_continues
  have c_plain_content : Cal l.prog w K mg base "plain_content" 5 ["line_counts", "value"] R_plain_content := ok_plain_content F_plain_content c_plain_run c_continues z_type z_tuple z_list
  have c_checked_content : Cal l.prog w K mg base "checked_content" 6 ["line_counts", "value"] R_plain_content := ok_checked_content F_checked_content c_plain_content
  have c_plain_line_counts : Cal l.prog w K mg base "plain_line_counts" 3 ["value"] R_plain_line_counts := ok_plain_line_counts F_plain_line_counts c_plain_writer c_plain_integer z_isinstance z_dict z_len z_sorted g_MOST_WRITERS g_LARGEST_NUMBER
  have c_checked_line_counts : Cal l.prog w K mg base "checked_line_counts" 4 ["value"] R_plain_line_counts := ok_checked_line_counts F_checked_line_counts c_plain_line_counts
  have c_appearing_obstruction : Cal l.prog w K mg base "appearing_obstruction" 1 ["runs"] R_appearing := ok_appearing_obstruction F_appearing_obstruction z_enumerate
  have c_can_appear : Cal l.prog w K mg base "can_appear" 7 ["line_counts", "content"] R_can_appear := ok_can_appear F_can_appear c_checked_line_counts c_checked_content c_appearing_obstruction
  have c_no_numbers : Cal l.prog w K mg base "no_numbers" 1 ["counts"] R_noN := ok_no_numbers F_no_numbers
  have c_latest_numbers : Cal l.prog w K mg base "latest_numbers" 1 ["before", "runs"] R_latest := ok_latest_numbers F_latest_numbers z_dict
  have c_next_lines : Cal l.prog w K mg base "next_lines" 7 ["line_counts", "content"] R_next := ok_next_lines F_next_lines c_checked_line_counts c_checked_content c_appearing_obstruction c_latest_numbers c_no_numbers z_sorted z_min
  have c_law_source : Cal l.prog w K mg base "_law_source" 1 ["script", "k"] R_source := ok_law_source F__law_source z_len z_max
  have c_law_draw : Cal l.prog w K mg base "_law_draw" 1 ["source", "limit"] R_draw := ok_law_draw F__law_draw
  have c_law_line_counts : Cal l.prog w K mg base "_law_line_counts" 2 ["source"] R_counts := ok_law_line_counts F__law_line_counts c_law_draw z_range z_len
  have c_law_with_run : Cal l.prog w K mg base "_law_with_run" 1 ["content", "run"] R_with := ok_law_with_run F__law_with_run
  have c_law_content : Cal l.prog w K mg base "_law_content" 2 ["source", "counts", "most"] R_content := ok_law_content F__law_content c_law_draw z_range z_sorted z_len z_min z_int
  have c_law_expected : Cal l.prog w K mg base "_law_expected" 2 ["counts", "content"] R_expected := ok_law_expected F__law_expected z_dict z_sorted
  have c_law_holds : CalG l.prog w K mg base "_law_holds" 8 ["source", "counts", "content"] R_holds := ok_law_holds S0 F__law_holds c_law_draw c_law_expected c_next_lines c_can_appear c_law_with_run z_repr z_tuple
  exact ok_law S0 (fun_mk l0 c0 k0) c_law_source c_law_line_counts c_law_content c_law_holds c_next_lines c_can_appear z_range z_max z_min z_len z_sorted
end Pg
set_option maxHeartbeats 0 in
theorem PySem.Challenge.cw_lastcopy_k16_lines_that_may_follow_holds : PySem.Challenge.rw_lastcopy_k16_lines_that_may_follow.Holds := by
  w_on; o_law; k_head; (case hw => w_witness2)
  k_fill
  refine Y.walk_calmS (l := PySem.Challenge.rw_lastcopy_k16_lines_that_may_follow) (n := 63) (k := 9) (x := "script") (R := Pg.R_law) rfl (by decide) rfl (by decide +kernel) ⟨rfl, by decide, by decide⟩ (fun w h Y => PySem.W.kIn_of Y) ?F (fun _ _ a ns hl hO hS => Pg.sp_law hl hO hS)
  case F =>
    intro w mg fa h KX G hmg
    refine' Pg.all_mk KX G hmg ?F_plain_integer ?F_plain_text ?F_plain_writer ?F_highest_number ?F_plain_lines ?F_plain_run ?F_continues ?F_plain_content ?F_checked_content ?F_plain_line_counts ?F_checked_line_counts ?F_appearing_obstruction ?F_can_appear ?F_no_numbers ?F_latest_numbers ?F_next_lines ?F__law_source ?F__law_draw ?F__law_line_counts ?F__law_with_run ?F__law_content ?F__law_expected ?F__law_holds ?z0_isinstance ?z0_int ?z0_bool ?z0_str ?z0_len ?z0_type ?z0_tuple ?z0_list ?z0_dict ?z0_sorted ?z0_enumerate ?z0_min ?z0_max ?z0_range ?z0_repr ?g0_LONGEST_NAME ?g1_LONGEST_NAME ?g0_LARGEST_NUMBER ?g1_LARGEST_NUMBER ?g0_MOST_WRITERS ?g1_MOST_WRITERS ?a0 ?l0 ?c0 ?k0
    case F_plain_integer =>
      refine' Pg.fa_mk KX G ?a ?l ?c ?k ?b
      (case a => k_is); (case l => k_is); (case c => k_is); (case k => k_is)
      case b => exact fun _ _ _ _ _ _ us hl => match us, hl with | [_], _ => rfl
    case F_plain_text =>
      refine' Pg.fa_mk KX G ?a ?l ?c ?k ?b
      (case a => k_is); (case l => k_is); (case c => k_is); (case k => k_is)
      case b => exact fun _ _ _ _ _ _ us hl => match us, hl with | [_], _ => rfl
    case F_plain_writer =>
      refine' Pg.fa_mk KX G ?a ?l ?c ?k ?b
      (case a => k_is); (case l => k_is); (case c => k_is); (case k => k_is)
      case b => exact fun _ _ _ _ _ _ us hl => match us, hl with | [_], _ => rfl
    case F_highest_number =>
      refine' Pg.fa_mk KX G ?a ?l ?c ?k ?b
      (case a => k_is); (case l => k_is); (case c => k_is); (case k => k_is)
      case b => exact fun _ _ _ _ _ _ us hl => match us, hl with | [_, _], _ => rfl
    case F_plain_lines =>
      refine' Pg.fa_mk KX G ?a ?l ?c ?k ?b
      (case a => k_is); (case l => k_is); (case c => k_is); (case k => k_is)
      case b => exact fun _ _ _ _ _ _ us hl => match us, hl with | [_, _, _, _], _ => rfl
    case F_plain_run =>
      refine' Pg.fa_mk KX G ?a ?l ?c ?k ?b
      (case a => k_is); (case l => k_is); (case c => k_is); (case k => k_is)
      case b => exact fun _ _ _ _ _ _ us hl => match us, hl with | [_, _], _ => rfl
    case F_continues =>
      refine' Pg.fa_mk KX G ?a ?l ?c ?k ?b
      (case a => k_is); (case l => k_is); (case c => k_is); (case k => k_is)
      case b => exact fun _ _ _ _ _ _ us hl => match us, hl with | [_, _], _ => rfl
    case F_plain_content =>
      refine' Pg.fa_mk KX G ?a ?l ?c ?k ?b
      (case a => k_is); (case l => k_is); (case c => k_is); (case k => k_is)
      case b => exact fun _ _ _ _ _ _ us hl => match us, hl with | [_, _], _ => rfl
    case F_checked_content =>
      refine' Pg.fa_mk KX G ?a ?l ?c ?k ?b
      (case a => k_is); (case l => k_is); (case c => k_is); (case k => k_is)
      case b => exact fun _ _ _ _ _ _ us hl => match us, hl with | [_, _], _ => rfl
    case F_plain_line_counts =>
      refine' Pg.fa_mk KX G ?a ?l ?c ?k ?b
      (case a => k_is); (case l => k_is); (case c => k_is); (case k => k_is)
      case b => exact fun _ _ _ _ _ _ us hl => match us, hl with | [_], _ => rfl
    case F_checked_line_counts =>
      refine' Pg.fa_mk KX G ?a ?l ?c ?k ?b
      (case a => k_is); (case l => k_is); (case c => k_is); (case k => k_is)
      case b => exact fun _ _ _ _ _ _ us hl => match us, hl with | [_], _ => rfl
    case F_appearing_obstruction =>
      refine' Pg.fa_mk KX G ?a ?l ?c ?k ?b
      (case a => k_is); (case l => k_is); (case c => k_is); (case k => k_is)
      case b => exact fun _ _ _ _ _ _ us hl => match us, hl with | [_], _ => rfl
    case F_can_appear =>
      refine' Pg.fa_mk KX G ?a ?l ?c ?k ?b
      (case a => k_is); (case l => k_is); (case c => k_is); (case k => k_is)
      case b => exact fun _ _ _ _ _ _ us hl => match us, hl with | [_, _], _ => rfl
    case F_no_numbers =>
      refine' Pg.fa_mk KX G ?a ?l ?c ?k ?b
      (case a => k_is); (case l => k_is); (case c => k_is); (case k => k_is)
      case b => exact fun _ _ _ _ _ _ us hl => match us, hl with | [_], _ => rfl
    case F_latest_numbers =>
      refine' Pg.fa_mk KX G ?a ?l ?c ?k ?b
      (case a => k_is); (case l => k_is); (case c => k_is); (case k => k_is)
      case b => exact fun _ _ _ _ _ _ us hl => match us, hl with | [_, _], _ => rfl
    case F_next_lines =>
      refine' Pg.fa_mk KX G ?a ?l ?c ?k ?b
      (case a => k_is); (case l => k_is); (case c => k_is); (case k => k_is)
      case b => exact fun _ _ _ _ _ _ us hl => match us, hl with | [_, _], _ => rfl
    case F__law_source =>
      refine' Pg.fa_mk KX G ?a ?l ?c ?k ?b
      (case a => k_is); (case l => k_is); (case c => k_is); (case k => k_is)
      case b => exact fun _ _ _ _ _ _ us hl => match us, hl with | [_, _], _ => rfl
    case F__law_draw =>
      refine' Pg.fa_mk KX G ?a ?l ?c ?k ?b
      (case a => k_is); (case l => k_is); (case c => k_is); (case k => k_is)
      case b => exact fun _ _ _ _ _ _ us hl => match us, hl with | [_, _], _ => rfl
    case F__law_line_counts =>
      refine' Pg.fa_mk KX G ?a ?l ?c ?k ?b
      (case a => k_is); (case l => k_is); (case c => k_is); (case k => k_is)
      case b => exact fun _ _ _ _ _ _ us hl => match us, hl with | [_], _ => rfl
    case F__law_with_run =>
      refine' Pg.fa_mk KX G ?a ?l ?c ?k ?b
      (case a => k_is); (case l => k_is); (case c => k_is); (case k => k_is)
      case b => exact fun _ _ _ _ _ _ us hl => match us, hl with | [_, _], _ => rfl
    case F__law_content =>
      refine' Pg.fa_mk KX G ?a ?l ?c ?k ?b
      (case a => k_is); (case l => k_is); (case c => k_is); (case k => k_is)
      case b => exact fun _ _ _ _ _ _ us hl => match us, hl with | [_, _, _], _ => rfl
    case F__law_expected =>
      refine' Pg.fa_mk KX G ?a ?l ?c ?k ?b
      (case a => k_is); (case l => k_is); (case c => k_is); (case k => k_is)
      case b => exact fun _ _ _ _ _ _ us hl => match us, hl with | [_, _], _ => rfl
    case F__law_holds =>
      refine' Pg.fa_mk KX G ?a ?l ?c ?k ?b
      (case a => k_is); (case l => k_is); (case c => k_is); (case k => k_is)
      case b => exact fun _ _ _ _ _ _ us hl => match us, hl with | [_, _, _], _ => rfl
    case z0_isinstance => k_is
    case z0_int => k_is
    case z0_bool => k_is
    case z0_str => k_is
    case z0_len => k_is
    case z0_type => k_is
    case z0_tuple => k_is
    case z0_list => k_is
    case z0_dict => k_is
    case z0_sorted => k_is
    case z0_enumerate => k_is
    case z0_min => k_is
    case z0_max => k_is
    case z0_range => k_is
    case z0_repr => k_is
    case g0_LONGEST_NAME => k_is
    case g1_LONGEST_NAME => rfl
    case g0_LARGEST_NUMBER => k_is
    case g1_LARGEST_NUMBER => rfl
    case g0_MOST_WRITERS => k_is
    case g1_MOST_WRITERS => rfl
    case a0 => k_is
    case l0 => k_is
    case c0 => k_is
    case k0 => k_is

