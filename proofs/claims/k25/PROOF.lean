import PyProof.Rows.All
import Wide.All
import OpenK.AllK
import Wide.FinOn
import PyProof.EqAt
import PyProof.EqKinds
import PyProof.TupleCall
import HandS.ForMost
import HandS.IsInst
import HandS.Zip
import HandS.Deep
import HandS.More
import HandS.Wide
import HandS.StrMore
import HandS.Style
import HandS.DictComp
import HandS.Flow
import PyProof.TypeEq
import PyProof.InstEq
import KE.KDictList
import PyProof.ListRange
import PyProof.LongRange
import HandS.Conv
import HandS.Rev
import HandS.Dict
import PyProof.SumAny
import HandS.Sort
import HandS.ListItems
import HandS.SortKw
import KE.KDictCopyH
import KE.DatumOrd
import HandS.DeepEq
import KE.SortData
import KE.DataEq
import PyProof.Rows.StrMeet
import HandS.Finally
import KE.DataAny
import HandS.WideBits
import HandS.SetKeys
import KE.SortKeyHeap
import KE.KEqDict
import HandS.Strs
import HandS.SetFor
import KE.DataCmp
import HandS.TupLe
import PyProof.Rows.ReprOcc
import HandS.TupAny
import PySem.Challenge.RW_lastcopy_k25_schedules_with_min_overwrit
set_option Elab.async false
set_option linter.all false
set_option maxRecDepth 100000
set_option maxHeartbeats 1000000
namespace Y
open PySem L2

/-! ### canonical readings: what the model itself asks -/
section
variable (X : Cx)
def sE (e : Expr) : TE := fun σ H Q => ∀ pins s, Inv X pins σ H s → wpAny (model X.prog X.w) X.A (eval e X.env) (EP X pins σ Q) X.xe s
def sT (e : Expr) : TT := fun σ H Q => ∀ pins s, Inv X pins σ H s → wpAny (model X.prog X.w) X.A (isTrue e X.env (eval e X.env)) (TP X pins σ Q) X.xe s
def sA (es : List Expr) : TA := fun σ H Q => ∀ pos pins s, Inv X pins σ H s → wpAny (model X.prog X.w) X.A (spliced (backTo pos (starEach es X.env))) (AP X pins σ Q) X.xe s
def sS (st : Stmt) : TS := fun D σ H => ∀ pins s, Inv X pins σ H s → wpAny (model X.prog X.w) X.A (exec st X.env) (SP X pins D) X.xe s
def sB (st : List Stmt) : TS := fun D σ H => ∀ pins s, Inv X pins σ H s → wpAny (model X.prog X.w) X.A (execs st X.env) (SP X pins D) X.xe s
def sG (t : Expr) : TG := fun v σ H Q => ∀ pins s u, Inv X pins σ H s → RelV v u → wpAny (model X.prog X.w) X.A (assign t X.env u) (fun _ s' => ∃ σ' H', Inv X pins σ' H' s' ∧ Q σ' H') X.xe s
end
section
variable {X : Cx} {e : Expr} {es : List Expr} {st : Stmt} {sts : List Stmt}
theorem pe_s : PE X e (sE X e) := ⟨fun pins s _ _ _ I h => h pins s I⟩
theorem pt_s : PT X e (sT X e) := ⟨fun pins s _ _ _ I h => h pins s I⟩
theorem pa_s : PA X es (sA X es) := ⟨fun pos pins s _ _ _ I h => h pos pins s I⟩
theorem ps_s : PS X st (sS X st) := ⟨fun pins s _ _ _ I h => h pins s I⟩
theorem pss_s : PSs X sts (sB X sts) := ⟨fun pins s _ _ _ I h => h pins s I⟩
theorem pg_s : PG X e (sG X e) := ⟨fun pins s _ _ _ u _ I r h => h pins s u I r⟩
theorem e_of {t : TE} {σ : St} {H : Hp} {Q : VK} (h : PE X e t) (q : t σ H Q) : sE X e σ H Q := fun pins s I => h.run pins s σ H Q I q
theorem t_of {t : TT} {σ : St} {H : Hp} {Q : Bool → Hp → Prop} (h : PT X e t) (q : t σ H Q) : sT X e σ H Q := fun pins s I => h.run pins s σ H Q I q
theorem a_of {t : TA} {σ : St} {H : Hp} {Q : List V → Hp → Prop} (h : PA X es t) (q : t σ H Q) : sA X es σ H Q := fun pos pins s I => h.run pos pins s σ H Q I q
theorem s_of {t : TS} {σ : St} {H : Hp} {D : Ends} (h : PS X st t) (q : t D σ H) : sS X st D σ H := fun pins s I => h.run pins s σ H D I q
theorem b_of {t : TS} {σ : St} {H : Hp} {D : Ends} (h : PSs X sts t) (q : t D σ H) : sB X sts D σ H := fun pins s I => h.run pins s σ H D I q
theorem g_of {t : TG} {v : V} {σ : St} {H : Hp} {Q : St → Hp → Prop} (h : PG X e t) (q : t v σ H Q) : sG X e v σ H Q := fun pins s u I r => h.run pins s σ H v u Q I r q
end

/-! ### data, cells -/
def Ex (G G' : Hp) : Prop := ∀ a o, G a = some o → G' a = some o
theorem Ex.refl (G : Hp) : Ex G G := fun _ _ h => h
theorem Ex.trans {A B C : Hp} (a : Ex A B) (b : Ex B C) : Ex A C := fun x o h => b x o (a x o h)
theorem Ex.new {G : Hp} {p : Addr} {o : HO} (h : G p = none) : Ex G (upd G p o) := fun a u e => by
  rw [upd_ne (ne_of_none e h)]
  exact e
def KL (K : PySem.W.Frag) (a : Addr) (xs : List V) : Prop := ∃ (o : Obj) (its : Array Value) (n : Nat), K.lookup a = some o ∧ o.cls = .type "list" ∧ o.dict = none ∧ o.data = .seq its n ∧ its.size ≤ sizeLine ∧ Vals xs its.toList
def kD : Key → PyData
  | .inl i => .int i
  | .inr x => .str x
mutual
inductive At (K : PySem.W.Frag) (G : Hp) : V → PyData → Prop
  | non : At K G .non .none
  | bl (b : Bool) : At K G (.bl b) (.bool b)
  | int (i : Int) : At K G (.int i) (.int i)
  | str (x : Str) : At K G (.str x) (.str x)
  | lst {a : Addr} {xs : List V} {ds : List PyData} : G a = some (.lst xs) → AtL K G xs ds → At K G (.ref a) (.list ds)
  | tup {a : Addr} {xs : List V} {ds : List PyData} : G a = some (.tup xs) → AtL K G xs ds → At K G (.ref a) (.tuple ds)
  | dic {a : Addr} {kvs : List (Key × V)} {ds : List (PyData × PyData)} : G a = some (.dK kvs) → AtK K G kvs ds → At K G (.ref a) (.dict ds)
inductive AtL (K : PySem.W.Frag) (G : Hp) : List V → List PyData → Prop
  | nil : AtL K G [] []
  | cons {v : V} {vs : List V} {d : PyData} {ds : List PyData} : At K G v d → AtL K G vs ds → AtL K G (v :: vs) (d :: ds)
inductive AtK (K : PySem.W.Frag) (G : Hp) : List (Key × V) → List (PyData × PyData) → Prop
  | nil : AtK K G [] []
  | cons {k : Key} {v : V} {kvs : List (Key × V)} {d : PyData} {ds : List (PyData × PyData)} : At K G v d → AtK K G kvs ds → AtK K G ((k, v) :: kvs) ((kD k, d) :: ds)
end
mutual
theorem At.mono {K : PySem.W.Frag} {G G' : Hp} (e : Ex G G') : ∀ {v : V} {d : PyData}, At K G v d → At K G' v d
  | _, _, .non => .non
  | _, _, .bl b => .bl b
  | _, _, .int i => .int i
  | _, _, .str x => .str x
  | _, _, .lst h a => .lst (e _ _ h) (AtL.mono e a)
  | _, _, .tup h a => .tup (e _ _ h) (AtL.mono e a)
  | _, _, .dic h a => .dic (e _ _ h) (AtK.mono e a)
theorem AtL.mono {K : PySem.W.Frag} {G G' : Hp} (e : Ex G G') : ∀ {v : List V} {d : List PyData}, AtL K G v d → AtL K G' v d
  | _, _, .nil => .nil
  | _, _, .cons a b => .cons (At.mono e a) (AtL.mono e b)
theorem AtK.mono {K : PySem.W.Frag} {G G' : Hp} (e : Ex G G') : ∀ {v : List (Key × V)} {d : List (PyData × PyData)}, AtK K G v d → AtK K G' v d
  | _, _, .nil => .nil
  | _, _, .cons a b => .cons (At.mono e a) (AtK.mono e b)
end
/-- a value as a proof sees it: data, a cell, a class, a tuple of such -/
inductive Sl where
  | d (x : PyData) | c (a : Addr) | t (n : String) | u (ss : List Sl) | s (ns : List Int)
inductive Cell where
  | l (ss : List Sl) | k (kvs : List (Key × Sl))
abbrev Cs := Addr → Option Cell
def updC (M : Cs) (a : Addr) (c : Cell) : Cs := fun b => if b = a then some c else M b
def delC (M : Cs) (a : Addr) : Cs := fun b => if b = a then none else M b
theorem updC_same {M : Cs} {a : Addr} {c : Cell} : updC M a c a = some c := by unfold updC; rw [if_pos rfl]
theorem updC_ne {M : Cs} {a b : Addr} {c : Cell} (h : b ≠ a) : updC M a c b = M b := by unfold updC; rw [if_neg h]
theorem updC_updC {M : Cs} {a : Addr} {c c' : Cell} : updC (updC M a c) a c' = updC M a c' := by
  funext b; unfold updC; split <;> rfl
theorem delC_same {M : Cs} {a : Addr} : delC M a a = none := by unfold delC; rw [if_pos rfl]
theorem delC_ne {M : Cs} {a b : Addr} (h : b ≠ a) : delC M a b = M b := by unfold delC; rw [if_neg h]
theorem delC_updC {M : Cs} {a : Addr} {c : Cell} (h : M a = none) : delC (updC M a c) a = M := by
  funext b
  unfold delC updC
  by_cases e : b = a
  · rw [if_pos e, e, h]
  · rw [if_neg e, if_neg e]
theorem neC {M : Cs} {a b : Addr} {c : Cell} (h : M a = some c) (h' : M b = none) : a ≠ b := by
  intro e; subst e; rw [h] at h'; cases h'
mutual
inductive SlAt (K : PySem.W.Frag) (G : Hp) : V → Sl → Prop
  | d {v : V} {x : PyData} : At K G v x → SlAt K G v (.d x)
  | c (a : Addr) : SlAt K G (.ref a) (.c a)
  | t (n : String) : SlAt K G (.ty n) (.t n)
  | u {a : Addr} {xs : List V} {ss : List Sl} : G a = some (.tup xs) → SlL K G xs ss → SlAt K G (.ref a) (.u ss)
  | s {a : Addr} {ns : List Int} : (G a = some (.lst (ns.map V.int)) ∨ KL K a (ns.map V.int)) → SlAt K G (.ref a) (.s ns)
inductive SlL (K : PySem.W.Frag) (G : Hp) : List V → List Sl → Prop
  | nil : SlL K G [] []
  | cons {v : V} {vs : List V} {s : Sl} {ss : List Sl} : SlAt K G v s → SlL K G vs ss → SlL K G (v :: vs) (s :: ss)
end
mutual
theorem SlAt.mono {K : PySem.W.Frag} {G G' : Hp} (e : Ex G G') : ∀ {v : V} {s : Sl}, SlAt K G v s → SlAt K G' v s
  | _, _, .d a => .d (a.mono e)
  | _, _, .c a => .c a
  | _, _, .t n => .t n
  | _, _, .u h a => .u (e _ _ h) (SlL.mono e a)
  | _, _, .s h => .s (h.imp (e _ _) id)
theorem SlL.mono {K : PySem.W.Frag} {G G' : Hp} (e : Ex G G') : ∀ {v : List V} {s : List Sl}, SlL K G v s → SlL K G' v s
  | _, _, .nil => .nil
  | _, _, .cons a b => .cons (SlAt.mono e a) (SlL.mono e b)
end
section
variable {K : PySem.W.Frag} {G : Hp}
theorem SlL.len : ∀ {vs : List V} {ss : List Sl}, SlL K G vs ss → vs.length = ss.length
  | _, _, .nil => rfl
  | _, _, .cons _ b => by rw [List.length_cons, List.length_cons, b.len]
theorem SlL.get : ∀ {vs : List V} {ss : List Sl} {i : Nat} {s : Sl}, SlL K G vs ss → ss[i]? = some s → ∃ v, vs[i]? = some v ∧ SlAt K G v s
  | _, _, _, _, .nil, e => by simp at e
  | _, _, 0, _, .cons a _, e => by simp at e; subst e; exact ⟨_, rfl, a⟩
  | _, _, i + 1, s, .cons _ b, e => by
    obtain ⟨v, h1, h2⟩ := b.get (i := i) (s := s) (by simpa using e)
    exact ⟨v, by simpa using h1, h2⟩
theorem SlL.append : ∀ {vs ws : List V} {ss ts : List Sl}, SlL K G vs ss → SlL K G ws ts → SlL K G (vs ++ ws) (ss ++ ts)
  | _, _, _, _, .nil, b => b
  | _, _, _, _, .cons a t, b => .cons a (t.append b)
theorem SlL.set {v : V} {s : Sl} (a : SlAt K G v s) : ∀ {vs : List V} {ss : List Sl} (i : Nat), SlL K G vs ss → SlL K G (vs.set i v) (ss.set i s)
  | _, _, _, .nil => .nil
  | _, _, 0, .cons _ b => .cons a b
  | _, _, i + 1, .cons h b => .cons h (b.set a i)
theorem SlL.take : ∀ {vs : List V} {ss : List Sl} (n : Nat), SlL K G vs ss → SlL K G (vs.take n) (ss.take n)
  | _, _, 0, _ => .nil
  | _, _, _ + 1, .nil => .nil
  | _, _, n + 1, .cons a b => .cons a (b.take n)
theorem SlL.drop : ∀ {vs : List V} {ss : List Sl} (n : Nat), SlL K G vs ss → SlL K G (vs.drop n) (ss.drop n)
  | _, _, 0, h => h
  | _, _, _ + 1, .nil => .nil
  | _, _, n + 1, .cons _ b => b.drop n
theorem AtL.sl : ∀ {vs : List V} {ds : List PyData}, AtL K G vs ds → SlL K G vs (ds.map Sl.d)
  | _, _, .nil => .nil
  | _, _, .cons a b => .cons (.d a) b.sl
theorem SlL.at : ∀ {vs : List V} {ds : List PyData}, SlL K G vs (ds.map Sl.d) → AtL K G vs ds
  | _, [], .nil => .nil
  | _, _ :: _, .cons (.d a) b => .cons a b.at
theorem AtL.len {vs : List V} {ds : List PyData} (h : AtL K G vs ds) : vs.length = ds.length := by
  have := h.sl.len
  rwa [List.length_map] at this
end
/-- a dict cell's entries -/
def KvAt (K : PySem.W.Frag) (G : Hp) : List (Key × V) → List (Key × Sl) → Prop
  | [], [] => True
  | p :: ps, q :: qs => p.1 = q.1 ∧ SlAt K G p.2 q.2 ∧ KvAt K G ps qs
  | _, _ => False
theorem KvAt.mono {K : PySem.W.Frag} {G G' : Hp} (e : Ex G G') : ∀ {ps : List (Key × V)} {qs : List (Key × Sl)}, KvAt K G ps qs → KvAt K G' ps qs
  | [], [], _ => trivial
  | _ :: _, _ :: _, ⟨a, b, c⟩ => ⟨a, b.mono e, KvAt.mono e c⟩
  | [], _ :: _, h => h.elim
  | _ :: _, [], h => h.elim
def CellOk (K : PySem.W.Frag) (G H : Hp) (a : Addr) : Cell → Prop
  | .l ss => ∃ xs, H a = some (.lst xs) ∧ SlL K G xs ss
  | .k kvs => ∃ xs, H a = some (.dK xs) ∧ KvAt K G xs kvs
abbrev Lk := List (Addr × Obj × HO)
def VwO (L : Lk) (H : Hp) (a : Addr) (o : HO) : Prop := H a = some o ∨ ∃ x ∈ L, x.1 = a ∧ x.2.2 = o
structure GoodM (K : PySem.W.Frag) (L : Lk) (M : Cs) (G H : Hp) : Prop where
  vw : ∀ a o, G a = some o → VwO L H a o
  cell : ∀ a c, M a = some c → G a = none ∧ CellOk K G H a c
  lk : ∀ x ∈ L, H x.1 = some (.frz x.2.1 x.2.2)
structure GoodS (K : PySem.W.Frag) (G : Hp) (σ : St) (τ : List (Option Sl)) : Prop where
  len : σ.length = τ.length
  get : ∀ (i : Nat) (s : Sl), τ[i]? = some (some s) → ∃ v, σ[i]? = some (some v) ∧ SlAt K G v s
section
variable {K : PySem.W.Frag} {L : Lk} {M : Cs} {G G' H : Hp} {σ : St} {τ : List (Option Sl)}
theorem GoodS.mono (g : GoodS K G σ τ) (e : Ex G G') : GoodS K G' σ τ := ⟨g.len, fun i s h => by
  obtain ⟨v, h1, h2⟩ := g.get i s h
  exact ⟨v, h1, h2.mono e⟩⟩
theorem GoodS.set {v : V} {s : Sl} (g : GoodS K G σ τ) (a : SlAt K G v s) (i : Nat) : GoodS K G (σ.set i (some v)) (τ.set i (some s)) := ⟨by rw [List.length_set, List.length_set, g.len], fun j t h => by
  by_cases e : i = j
  · subst e
    by_cases hl : i < τ.length
    · rw [List.getElem?_set_self hl] at h
      cases h
      exact ⟨v, by rw [List.getElem?_set_self (by rw [g.len]; exact hl)], a⟩
    · rw [List.getElem?_eq_none (by rw [List.length_set]; omega)] at h
      cases h
  · rw [List.getElem?_set_ne e] at h
    obtain ⟨w, h1, h2⟩ := g.get j t h
    exact ⟨w, by rw [List.getElem?_set_ne e]; exact h1, h2⟩⟩
/-- a free address: nothing knows it -/
theorem GoodM.free {p : Addr} (g : GoodM K L M G H) (h : H p = none) : G p = none ∧ M p = none := by
  constructor
  · cases e : G p with
    | none => rfl
    | some o =>
      rcases g.vw p o e with z | ⟨x, hx, z, _⟩
      · rw [h] at z; cases z
      · have y := g.lk x hx
        rw [z, h] at y; cases y
  · cases e : M p with
    | none => rfl
    | some c =>
      have z := (g.cell p c e).2
      cases c with
      | l ss => obtain ⟨xs, z, _⟩ := z; rw [h] at z; cases z
      | k ss => obtain ⟨xs, z, _⟩ := z; rw [h] at z; cases z
theorem rd_upd {p a : Addr} {o u : HO} (h : H p = none) (r : VwO L H a o) : VwO L (upd H p u) a o := by
  rcases r with z | z
  · exact .inl (by rw [upd_ne (ne_of_none z h)]; exact z)
  · exact .inr z
theorem GoodM.rd {a : Addr} {o : HO} (g : GoodM K L M G H) (e : G a = some o) : Rd H a o := by
  rcases g.vw a o e with z | ⟨x, hx, z, w⟩
  · exact .inl z
  · have y := g.lk x hx
    rw [z, w] at y
    exact .inr ⟨_, y⟩
theorem CellOk.mono {a : Addr} {c : Cell} {H' : Hp} (x : CellOk K G H a c) (e : Ex G G') (h : ∀ o, H a = some o → H' a = some o) : CellOk K G' H' a c := by
  cases c with
  | l ss => obtain ⟨xs, h1, h2⟩ := x; exact ⟨xs, h _ h1, h2.mono e⟩
  | k ss => obtain ⟨xs, h1, h2⟩ := x; exact ⟨xs, h _ h1, h2.mono e⟩
/-- new data -/
theorem GoodM.newD {p : Addr} {o : HO} (g : GoodM K L M G H) (h : H p = none) : GoodM K L M (upd G p o) (upd H p o) := by
  have f := g.free h
  refine ⟨fun a u e => ?_, fun a c e => ?_, fun x hx => ?_⟩
  · by_cases ha : a = p
    · subst ha
      rw [upd_same] at e
      cases e
      exact .inl upd_same
    · rw [upd_ne ha] at e
      exact rd_upd h (g.vw a u e)
  · have ha : a ≠ p := neC e f.2
    obtain ⟨z1, z2⟩ := g.cell a c e
    exact ⟨by rw [upd_ne ha]; exact z1, z2.mono (Ex.new f.1) fun o q => by rw [upd_ne ha]; exact q⟩
  · rw [upd_ne (ne_of_none (g.lk x hx) h)]
    exact g.lk x hx
/-- the heap of a cell and a new cell -/
def hoC (xs : List V) : HO := .lst xs
theorem GoodM.newC {p : Addr} {o : HO} {c : Cell} (g : GoodM K L M G H) (h : H p = none) (ok : CellOk K G (upd H p o) p c) : GoodM K L (updC M p c) G (upd H p o) := by
  have f := g.free h
  refine ⟨fun a u e => rd_upd h (g.vw a u e), fun a c' e => ?_, fun x hx => ?_⟩
  · by_cases ha : a = p
    · subst ha
      rw [updC_same] at e
      cases e
      exact ⟨f.1, ok⟩
    · rw [updC_ne ha] at e
      obtain ⟨z1, z2⟩ := g.cell a c' e
      exact ⟨z1, z2.mono (Ex.refl G) fun o q => by rw [upd_ne ha]; exact q⟩
  · rw [upd_ne (ne_of_none (g.lk x hx) h)]
    exact g.lk x hx
/-- a cell is written -/
theorem GoodM.write {p : Addr} {o u : HO} {c c' : Cell} (g : GoodM K L M G H) (hc : M p = some c) (hu : H p = some u) (nf : ∀ b z, u ≠ .frz b z) (ok : CellOk K G (upd H p o) p c') : GoodM K L (updC M p c') G (upd H p o) := by
  have f := g.cell p c hc
  refine ⟨fun a u' e => ?_, fun a c'' e => ?_, fun x hx => ?_⟩
  · have ha : a ≠ p := by
      intro z
      subst z
      rw [f.1] at e
      cases e
    rcases g.vw a u' e with z | z
    · exact .inl (by rw [upd_ne ha]; exact z)
    · exact .inr z
  · by_cases ha : a = p
    · subst ha
      rw [updC_same] at e
      cases e
      exact ⟨f.1, ok⟩
    · rw [updC_ne ha] at e
      obtain ⟨z1, z2⟩ := g.cell a c'' e
      exact ⟨z1, z2.mono (Ex.refl G) fun o q => by rw [upd_ne ha]; exact q⟩
  · have hx' := g.lk x hx
    have ha : x.1 ≠ p := by
      intro z
      rw [z, hu] at hx'
      exact nf _ _ (Option.some.inj hx')
    rw [upd_ne ha]
    exact hx'
/-- a cell becomes data -/
theorem GoodM.freeze {p : Addr} {ds : List PyData} (g : GoodM K L M G H) (hc : M p = some (.l (ds.map .d))) : ∃ G', Ex G G' ∧ GoodM K L (delC M p) G' H ∧ At K G' (.ref p) (.list ds) := by
  obtain ⟨f, xs, h1, h2⟩ := g.cell p _ hc
  refine ⟨upd G p (.lst xs), Ex.new f, ⟨fun a u e => ?_, fun a c e => ?_, g.lk⟩, .lst upd_same (h2.at.mono (Ex.new f))⟩
  · by_cases ha : a = p
    · subst ha
      rw [upd_same] at e
      cases e
      exact .inl h1
    · rw [upd_ne ha] at e
      exact g.vw a u e
  · by_cases ha : a = p
    · subst ha
      rw [delC_same] at e
      cases e
    · rw [delC_ne ha] at e
      obtain ⟨z1, z2⟩ := g.cell a c e
      exact ⟨by rw [upd_ne ha]; exact z1, z2.mono (Ex.new f) fun o q => q⟩
end
end Y

namespace Y
open PySem L2

/-! ### judgements over data -/
section
variable (K : PySem.W.Frag) (L : Lk)
def Ret (G : Hp) (Q : Sl → Cs → Prop) (Q' : VK) : Prop := ∀ s M' v G' H', Q s M' → Ex G G' → GoodM K L M' G' H' → SlAt K G' v s → Q' v H'
def RetB (G : Hp) (Q : Bool → Cs → Prop) (Q' : Bool → Hp → Prop) : Prop := ∀ b M' G' H', Q b M' → Ex G G' → GoodM K L M' G' H' → Q' b H'
def RetA (G : Hp) (Q : List Sl → Cs → Prop) (Q' : List V → Hp → Prop) : Prop := ∀ s M' v G' H', Q s M' → Ex G G' → GoodM K L M' G' H' → SlL K G' v s → Q' v H'
def RetG (G : Hp) (Q : List (Option Sl) → Cs → Prop) (Q' : St → Hp → Prop) : Prop := ∀ τ' M' σ' G' H', Q τ' M' → Ex G G' → GoodM K L M' G' H' → GoodS K G' σ' τ' → Q' σ' H'
def WE (te : TE) (τ : List (Option Sl)) (M : Cs) (Q : Sl → Cs → Prop) : Prop := ∀ σ G H Q', GoodS K G σ τ → GoodM K L M G H → Ret K L G Q Q' → te σ H Q'
def WT (tt : TT) (τ : List (Option Sl)) (M : Cs) (Q : Bool → Cs → Prop) : Prop := ∀ σ G H Q', GoodS K G σ τ → GoodM K L M G H → RetB K L G Q Q' → tt σ H Q'
def WA (ta : TA) (τ : List (Option Sl)) (M : Cs) (Q : List Sl → Cs → Prop) : Prop := ∀ σ G H Q', GoodS K G σ τ → GoodM K L M G H → RetA K L G Q Q' → ta σ H Q'
def WG (g : TG) (s : Sl) (τ : List (Option Sl)) (M : Cs) (Q : List (Option Sl) → Cs → Prop) : Prop := ∀ σ G H v Q', GoodS K G σ τ → GoodM K L M G H → SlAt K G v s → RetG K L G Q Q' → g v σ H Q'
def WGs (g : TGs) (ss : List Sl) (τ : List (Option Sl)) (M : Cs) (Q : List (Option Sl) → Cs → Prop) : Prop := ∀ σ G H vs Q', GoodS K G σ τ → GoodM K L M G H → SlL K G vs ss → RetG K L G Q Q' → g vs σ H Q'
/-- operations on values -/
def R2k (r : R2) (x y : Sl) (M : Cs) (Q : Sl → Cs → Prop) : Prop := ∀ G H v u Q', GoodM K L M G H → SlAt K G v x → SlAt K G u y → Ret K L G Q Q' → r v u H Q'
def RCk (r : List V → Hp → VK → Prop) (xs : List Sl) (M : Cs) (Q : Sl → Cs → Prop) : Prop := ∀ G H vs Q', GoodM K L M G H → SlL K G vs xs → Ret K L G Q Q' → r vs H Q'
structure Ks where
  nx : List (Option Sl) → Cs → Prop
  rt : Sl → Cs → Prop
  bk : List (Option Sl) → Cs → Prop := fun _ _ => False
  ct : List (Option Sl) → Cs → Prop := fun _ _ => False
structure EndsOk (G : Hp) (E : Ks) (D : Ends) : Prop where
  nx : RetG K L G E.nx D.nx
  rt : Ret K L G E.rt D.rt
  bk : RetG K L G E.bk D.bk
  ct : RetG K L G E.ct D.ct
def WS (ts : TS) (τ : List (Option Sl)) (M : Cs) (E : Ks) : Prop := ∀ σ G H D, GoodS K G σ τ → GoodM K L M G H → EndsOk K L G E D → ts D σ H
end
section
variable {K : PySem.W.Frag} {L : Lk} {G G' : Hp}
theorem Ret.mono {Q : Sl → Cs → Prop} {Q' : VK} (k : Ret K L G Q Q') (e : Ex G G') : Ret K L G' Q Q' := fun s M v G2 H2 q e2 => k s M v G2 H2 q (e.trans e2)
theorem RetB.mono {Q : Bool → Cs → Prop} {Q' : Bool → Hp → Prop} (k : RetB K L G Q Q') (e : Ex G G') : RetB K L G' Q Q' := fun b M G2 H2 q e2 => k b M G2 H2 q (e.trans e2)
theorem RetA.mono {Q : List Sl → Cs → Prop} {Q' : List V → Hp → Prop} (k : RetA K L G Q Q') (e : Ex G G') : RetA K L G' Q Q' := fun s M v G2 H2 q e2 => k s M v G2 H2 q (e.trans e2)
theorem RetG.mono {Q : List (Option Sl) → Cs → Prop} {Q' : St → Hp → Prop} (k : RetG K L G Q Q') (e : Ex G G') : RetG K L G' Q Q' := fun s M v G2 H2 q e2 => k s M v G2 H2 q (e.trans e2)
theorem EndsOk.mono {E : Ks} {D : Ends} (k : EndsOk K L G E D) (e : Ex G G') : EndsOk K L G' E D := ⟨k.nx.mono e, k.rt.mono e, k.bk.mono e, k.ct.mono e⟩
theorem Ret.go {Q : Sl → Cs → Prop} {Q' : VK} (k : Ret K L G Q Q') {s : Sl} {M : Cs} {v : V} {H : Hp} (q : Q s M) (g : GoodM K L M G H) (a : SlAt K G v s) : Q' v H := k s M v G H q (Ex.refl G) g a
theorem RetB.go {Q : Bool → Cs → Prop} {Q' : Bool → Hp → Prop} (k : RetB K L G Q Q') {b : Bool} {M : Cs} {H : Hp} (q : Q b M) (g : GoodM K L M G H) : Q' b H := k b M G H q (Ex.refl G) g
theorem RetA.go {Q : List Sl → Cs → Prop} {Q' : List V → Hp → Prop} (k : RetA K L G Q Q') {s : List Sl} {M : Cs} {v : List V} {H : Hp} (q : Q s M) (g : GoodM K L M G H) (a : SlL K G v s) : Q' v H := k s M v G H q (Ex.refl G) g a
theorem RetG.go {Q : List (Option Sl) → Cs → Prop} {Q' : St → Hp → Prop} (k : RetG K L G Q Q') {τ : List (Option Sl)} {M : Cs} {σ : St} {H : Hp} (q : Q τ M) (g : GoodM K L M G H) (a : GoodS K G σ τ) : Q' σ H := k τ M σ G H q (Ex.refl G) g a
end
section
variable (X : Cx) (L : Lk)
abbrev DE (e : Expr) := WE X.K L (sE X e)
abbrev DT (e : Expr) := WT X.K L (sT X e)
abbrev DA (es : List Expr) := WA X.K L (sA X es)
abbrev DG (t : Expr) := WG X.K L (sG X t)
abbrev DS (st : Stmt) := WS X.K L (sS X st)
abbrev DB (st : List Stmt) := WS X.K L (sB X st)
end
section
variable {X : Cx} {L : Lk} {τ : List (Option Sl)} {M : Cs} {Q : Sl → Cs → Prop} {QB : Bool → Cs → Prop} {QA : List Sl → Cs → Prop} {e a b c : Expr} {es : List Expr} {pos : Pos} {E : Ks} {st : Stmt} {sts : List Stmt} {p p2 : Pos}
theorem de_of {te : TE} (h : PE X e te) (w : WE X.K L te τ M Q) : DE X L e τ M Q := fun σ G H Q' gs gm k => e_of h (w σ G H Q' gs gm k)
theorem dt_of {tt : TT} (h : PT X e tt) (w : WT X.K L tt τ M QB) : DT X L e τ M QB := fun σ G H Q' gs gm k => t_of h (w σ G H Q' gs gm k)
theorem da_of {ta : TA} (h : PA X es ta) (w : WA X.K L ta τ M QA) : DA X L es τ M QA := fun σ G H Q' gs gm k => a_of h (w σ G H Q' gs gm k)
theorem ds_of {ts : TS} (h : PS X st ts) (w : WS X.K L ts τ M E) : DS X L st τ M E := fun σ G H D gs gm k => s_of h (w σ G H D gs gm k)
theorem db_of {ts : TS} (h : PSs X sts ts) (w : WS X.K L ts τ M E) : DB X L sts τ M E := fun σ G H D gs gm k => b_of h (w σ G H D gs gm k)
theorem de_imp {Q2 : Sl → Cs → Prop} (w : DE X L e τ M Q2) (h : ∀ s M', Q2 s M' → Q s M') : DE X L e τ M Q := fun σ G H Q' gs gm k => w σ G H Q' gs gm fun s M' v G' H' q => k s M' v G' H' (h s M' q)
/-- names, constants -/
theorem de_name {i : Nat} {x : Str} {s : Sl} (hN : X.N[i]? = some x) (hv : Vis X.env.scope x) (ht : τ[i]? = some (some s)) (q : Q s M) (hd : (x == ("__debug__" : Str)) = false := by decide) (hcd : (x == ("__classdict__" : Str)) = false := by decide) : DE X L (.Name x pos) τ M Q :=
  de_of (pe_var hN hv hd hcd) fun σ G H Q' gs gm k => by
    obtain ⟨v, h1, h2⟩ := gs.get i s ht
    exact ⟨v, h1, k.go q gm h2⟩
theorem de_int {k : Int} {j} (q : Q (.d (.int k)) M) : DE X L (.Constant (.int k) j pos) τ M Q := de_of pe_int fun σ G H Q' gs gm k => k.go q gm (.d (.int _))
theorem de_bl {k : Bool} {j} (q : Q (.d (.bool k)) M) : DE X L (.Constant (.bool k) j pos) τ M Q := de_of pe_bl fun σ G H Q' gs gm k => k.go q gm (.d (.bl _))
theorem de_non {j} (q : Q (.d .none) M) : DE X L (.Constant .none j pos) τ M Q := de_of pe_non fun σ G H Q' gs gm k => k.go q gm (.d .non)
theorem de_str {x : Str} {j} (q : Q (.d (.str x)) M) : DE X L (.Constant (.str x) j pos) τ M Q := de_of pe_str fun σ G H Q' gs gm k => k.go q gm (.d (.str _))
theorem de_type {x : Str} {n : String} (hg : Gl X x) (hm : X.mg x = none) (hv : bootBuiltins x = some (.type n)) (q : Q (.t n) M) (hn : x ≠ "__name__" := by decide) (hdb : (x == ("__debug__" : Str)) = false := by decide) : DE X L (.Name x pos) τ M Q :=
  de_of (te := tC (.ty n)) ⟨fun pins s σ H Q I h => ld_blt I hg hm hv ⟨.ty n, H, I, rfl, h⟩ hn hdb⟩ fun σ G H Q' gs gm k => k.go q gm (.t n)
theorem de_glob {x : Str} {i : Int} {v : Value} (hg : Gl X x) (hm : X.mg x = some v) (hr : RelV (.int i) v) (q : Q (.d (.int i)) M) (hdb : (x == ("__debug__" : Str)) = false := by decide) : DE X L (.Name x pos) τ M Q := de_of (pe_glob hg hm hr hdb) fun σ G H Q' gs gm k => k.go q gm (.d (.int _))
/-- argument lists -/
theorem da_nil (q : QA [] M) : DA X L [] τ M QA := da_of pa_nil fun σ G H Q' gs gm k => k.go q gm .nil
theorem da_cons (w : DE X L e τ M fun s M1 => DA X L es τ M1 fun ss M2 => QA (s :: ss) M2) (hs : starEach (e :: es) X.env = (false, eval e X.env) :: starEach es X.env := by rfl) : DA X L (e :: es) τ M QA :=
  da_of (pa_cons pe_s pa_s hs) fun σ G H Q' gs gm k => w σ G H _ gs gm fun s M1 v G1 H1 q e1 g1 a1 =>
    q σ G1 H1 _ (gs.mono e1) g1 fun ss M2 vs G2 H2 q2 e2 g2 a2 => k (s :: ss) M2 (v :: vs) G2 H2 q2 (e1.trans e2) g2 (.cons (a1.mono e2) a2)
/-- two-place operations -/
theorem we_op {r : R2} (w : DE X L a τ M fun x M1 => DE X L b τ M1 fun y M2 => R2k X.K L r x y M2 Q) : WE X.K L (tOp r (sE X a) (sE X b)) τ M Q := fun σ G H Q' gs gm k =>
  w σ G H _ gs gm fun x M1 v G1 H1 q e1 g1 a1 => q σ G1 H1 _ (gs.mono e1) g1 fun y M2 u G2 H2 q2 e2 g2 a2 => q2 G2 H2 v u Q' g2 (a1.mono e2) a2 (k.mono (e1.trans e2))
theorem de_op {op : Operator} {r : R2} (ho : OpR X (binaryOp op) r) (w : DE X L a τ M fun x M1 => DE X L b τ M1 fun y M2 => R2k X.K L r x y M2 Q) : DE X L (.BinOp a op b pos) τ M Q := de_of (pe_op ho pe_s pe_s) (we_op w)
theorem de_cmp {op : CmpOp} {r : R2} (ho : OpR X (compareOp op) r) (w : DE X L a τ M fun x M1 => DE X L b τ M1 fun y M2 => R2k X.K L r x y M2 Q) (hm : behindInMarks op b = false) : DE X L (.Compare a [op] [b] pos) τ M Q := de_of (pe_cmpR ho pe_s pe_s hm) (we_op w)
/-- a value in the place of a test -/
def BoolQ (QB : Bool → Cs → Prop) : Sl → Cs → Prop := fun s M => ∃ k, s = .d (.bool k) ∧ QB k M
theorem sl_bl {K : PySem.W.Frag} {G : Hp} {v : V} {k : Bool} (a : SlAt K G v (.d (.bool k))) : v = .bl k := by
  cases a with | d a => cases a; rfl
theorem sl_int {K : PySem.W.Frag} {G : Hp} {v : V} {k : Int} (a : SlAt K G v (.d (.int k))) : v = .int k := by
  cases a with | d a => cases a; rfl
theorem sl_str {K : PySem.W.Frag} {G : Hp} {v : V} {k : Str} (a : SlAt K G v (.d (.str k))) : v = .str k := by
  cases a with | d a => cases a; rfl
theorem sl_non {K : PySem.W.Frag} {G : Hp} {v : V} (a : SlAt K G v (.d .none)) : v = .non := by
  cases a with | d a => cases a; rfl
theorem sl_t {K : PySem.W.Frag} {G : Hp} {v : V} {n : String} (a : SlAt K G v (.t n)) : v = .ty n := by
  cases a; rfl
theorem sl_c {K : PySem.W.Frag} {G : Hp} {v : V} {n : Addr} (a : SlAt K G v (.c n)) : v = .ref n := by
  cases a; rfl
theorem dt_cmp {op : CmpOp} {r : R2} (ho : OpR X (compareOp op) r) (w : DE X L a τ M fun x M1 => DE X L b τ M1 fun y M2 => R2k X.K L r x y M2 (BoolQ QB)) (hm : behindInMarks op b = false) : DT X L (.Compare a [op] [b] pos) τ M QB :=
  dt_of (pt_cmpR ho pe_s pe_s hm) fun σ G H Q' gs gm k => we_op w σ G H _ gs gm fun s M1 v G1 H1 ⟨d, e, q⟩ e1 g1 a1 => by
    subst e
    exact ⟨d, sl_bl a1, k d M1 G1 H1 q e1 g1⟩
theorem dt_val (w : DE X L e τ M (BoolQ QB)) (he : ∀ whole, isTrue e X.env whole = (do let v ← whole; standAt e.pos; holding [v] (truthy v)) := by intro _; rfl) : DT X L e τ M QB :=
  dt_of (pt_val pe_s he) fun σ G H Q' gs gm k => w σ G H _ gs gm fun s M1 v G1 H1 ⟨d, e, q⟩ e1 g1 a1 => by
    subst e
    exact ⟨d, sl_bl a1, k d M1 G1 H1 q e1 g1⟩
/-- chains -/
theorem we_chain {r r' : R2} (w : DE X L a τ M fun x M1 => DE X L b τ M1 fun y M2 => R2k X.K L r x y M2 (BoolQ fun d M3 => (d = true → DE X L c τ M3 fun z M4 => R2k X.K L r' y z M4 Q) ∧ (d = false → Q (.d (.bool false)) M3))) :
    WE X.K L (tChain r r' (sE X a) (sE X b) (sE X c)) τ M Q := fun σ G H Q' gs gm k =>
  w σ G H _ gs gm fun x M1 v G1 H1 q e1 g1 a1 => q σ G1 H1 _ (gs.mono e1) g1 fun y M2 u G2 H2 q2 e2 g2 a2 => q2 G2 H2 v u _ g2 (a1.mono e2) a2 fun s M3 z G3 H3 ⟨d, e, q3, q4⟩ e3 g3 a3 => by
    subst e
    refine ⟨d, sl_bl a3, ?_⟩
    have e13 := (e1.trans e2).trans e3
    cases d with
    | true =>
      rw [if_pos rfl]
      exact q3 rfl σ G3 H3 _ (gs.mono e13) g3 fun t M4 w' G4 H4 q5 e4 g4 a4 => q5 G4 H4 u w' Q' g4 ((a2.mono e3).mono e4) a4 (k.mono (e13.trans e4))
    | false =>
      rw [if_neg Bool.false_ne_true]
      exact (k.mono e13).go (q4 rfl) g3 (.d (.bl false))
theorem de_chain {op op' : CmpOp} {r r' : R2} (ho : OpR X (compareOp op) r) (ho' : OpR X (compareOp op') r')
    (w : DE X L a τ M fun x M1 => DE X L b τ M1 fun y M2 => R2k X.K L r x y M2 (BoolQ fun d M3 => (d = true → DE X L c τ M3 fun z M4 => R2k X.K L r' y z M4 Q) ∧ (d = false → Q (.d (.bool false)) M3)))
    (hm : lastMarks [op, op'] [b, c] = false := by with_unfolding_all rfl) : DE X L (.Compare a [op, op'] [b, c] pos) τ M Q := de_of (pe_chain ho ho' pe_s pe_s pe_s hm) (we_chain w)
theorem dt_chain {op op' : CmpOp} {r r' : R2} (ho : OpR X (compareOp op) r) (ho' : OpR X (compareOp op') r')
    (w : DE X L a τ M fun x M1 => DE X L b τ M1 fun y M2 => R2k X.K L r x y M2 (BoolQ fun d M3 => (d = true → DE X L c τ M3 fun z M4 => R2k X.K L r' y z M4 (BoolQ QB)) ∧ (d = false → QB false M3)))
    (hm : lastMarks [op, op'] [b, c] = false := by with_unfolding_all rfl) : DT X L (.Compare a [op, op'] [b, c] pos) τ M QB :=
  dt_of (pt_chain ho ho' pe_s pe_s pe_s hm) fun σ G H Q' gs gm k => we_chain (Q := BoolQ QB) (de_imp w fun x M1 q => de_imp q fun y M2 q2 => fun G H v u Q' g a1 a2 k => q2 G H v u Q' g a1 a2 fun s M3 z G3 H3 ⟨d, e, q3, q4⟩ => k s M3 z G3 H3 ⟨d, e, q3, fun z => ⟨false, rfl, q4 z⟩⟩) σ G H _ gs gm fun s M1 v G1 H1 ⟨d, e, q⟩ e1 g1 a1 => by
    subst e
    exact ⟨d, sl_bl a1, k d M1 G1 H1 q e1 g1⟩
/-! and, or, not as tests -/
variable {rest : List Expr}
def DW (X : Cx) (L : Lk) (e : Expr) (τ : List (Option Sl)) (M : Cs) (QB : Bool → Cs → Prop) : Prop := ∃ tt, PW X e tt ∧ WT X.K L tt τ M QB
theorem dt_not (w : DT X L a τ M fun k M1 => QB (!k) M1) : DT X L (.UnaryOp .Not a pos) τ M QB := dt_of (pt_not pt_s) fun σ G H Q' gs gm k => w σ G H _ gs gm fun d M1 G1 H1 q e1 g1 => k _ M1 G1 H1 q e1 g1
theorem dt_and2 (w : DT X L a τ M fun k M1 => (k = true → DT X L b τ M1 QB) ∧ (k = false → QB false M1)) : DT X L (.BoolOp .And [a, b] pos) τ M QB :=
  dt_of (pw_and pt_s (pw_and1 pt_s)).pt fun σ G H Q' gs gm k => w σ G H _ gs gm fun d M1 G1 H1 q e1 g1 => by
    cases d with
    | true => rw [if_pos rfl]; exact q.1 rfl σ G1 H1 Q' (gs.mono e1) g1 (k.mono e1)
    | false => rw [if_neg Bool.false_ne_true]; exact (k.mono e1).go (q.2 rfl) g1
theorem dt_or2 (w : DT X L a τ M fun k M1 => (k = true → QB true M1) ∧ (k = false → DT X L b τ M1 QB)) : DT X L (.BoolOp .Or [a, b] pos) τ M QB :=
  dt_of (pw_or pt_s (pw_or1 pt_s)).pt fun σ G H Q' gs gm k => w σ G H _ gs gm fun d M1 G1 H1 q e1 g1 => by
    cases d with
    | false => rw [if_neg Bool.false_ne_true]; exact q.2 rfl σ G1 H1 Q' (gs.mono e1) g1 (k.mono e1)
    | true => rw [if_pos rfl]; exact (k.mono e1).go (q.1 rfl) g1
theorem dt_and3 (w : DT X L a τ M fun k M1 => (k = true → DT X L b τ M1 fun k2 M2 => (k2 = true → DT X L c τ M2 QB) ∧ (k2 = false → QB false M2)) ∧ (k = false → QB false M1)) : DT X L (.BoolOp .And [a, b, c] pos) τ M QB :=
  dt_of (pw_and pt_s (pw_and pt_s (pw_and1 pt_s))).pt fun σ G H Q' gs gm k => w σ G H _ gs gm fun d M1 G1 H1 q e1 g1 => by
    cases d with
    | true =>
      rw [if_pos rfl]
      refine q.1 rfl σ G1 H1 _ (gs.mono e1) g1 fun d2 M2 G2 H2 q2 e2 g2 => ?_
      cases d2 with
      | true => rw [if_pos rfl]; exact q2.1 rfl σ G2 H2 Q' (gs.mono (e1.trans e2)) g2 (k.mono (e1.trans e2))
      | false => rw [if_neg Bool.false_ne_true]; exact (k.mono (e1.trans e2)).go (q2.2 rfl) g2
    | false => rw [if_neg Bool.false_ne_true]; exact (k.mono e1).go (q.2 rfl) g1
theorem dt_or3 (w : DT X L a τ M fun k M1 => (k = true → QB true M1) ∧ (k = false → DT X L b τ M1 fun k2 M2 => (k2 = true → QB true M2) ∧ (k2 = false → DT X L c τ M2 QB))) : DT X L (.BoolOp .Or [a, b, c] pos) τ M QB :=
  dt_of (pw_or pt_s (pw_or pt_s (pw_or1 pt_s))).pt fun σ G H Q' gs gm k => w σ G H _ gs gm fun d M1 G1 H1 q e1 g1 => by
    cases d with
    | false =>
      rw [if_neg Bool.false_ne_true]
      refine q.2 rfl σ G1 H1 _ (gs.mono e1) g1 fun d2 M2 G2 H2 q2 e2 g2 => ?_
      cases d2 with
      | false => rw [if_neg Bool.false_ne_true]; exact q2.2 rfl σ G2 H2 Q' (gs.mono (e1.trans e2)) g2 (k.mono (e1.trans e2))
      | true => rw [if_pos rfl]; exact (k.mono (e1.trans e2)).go (q2.1 rfl) g2
    | true => rw [if_pos rfl]; exact (k.mono e1).go (q.1 rfl) g1
/-- .. as values -/
theorem de_one {op} (w : DE X L a τ M Q) : DE X L (.BoolOp op [a] pos) τ M Q := de_of (pe_one pe_s) w
theorem de_and (w : DE X L a τ M (BoolQ fun k M1 => (k = true → DE X L (.BoolOp .And (b :: rest) pos) τ M1 Q) ∧ (k = false → Q (.d (.bool false)) M1))) : DE X L (.BoolOp .And (a :: b :: rest) pos) τ M Q :=
  de_of (pe_and pe_s pe_s) fun σ G H Q' gs gm k => w σ G H _ gs gm fun s M1 v G1 H1 ⟨d, e, q⟩ e1 g1 a1 => by
    subst e
    refine ⟨d, sl_bl a1, ?_⟩
    cases d with
    | true => rw [if_pos rfl]; exact q.1 rfl σ G1 H1 Q' (gs.mono e1) g1 (k.mono e1)
    | false => rw [if_neg Bool.false_ne_true]; exact (k.mono e1).go (q.2 rfl) g1 (.d (.bl false))
theorem de_or (w : DE X L a τ M (BoolQ fun k M1 => (k = true → Q (.d (.bool true)) M1) ∧ (k = false → DE X L (.BoolOp .Or (b :: rest) pos) τ M1 Q))) : DE X L (.BoolOp .Or (a :: b :: rest) pos) τ M Q :=
  de_of (pe_or pe_s pe_s) fun σ G H Q' gs gm k => w σ G H _ gs gm fun s M1 v G1 H1 ⟨d, e, q⟩ e1 g1 a1 => by
    subst e
    refine ⟨d, sl_bl a1, ?_⟩
    cases d with
    | false => rw [if_neg Bool.false_ne_true]; exact q.2 rfl σ G1 H1 Q' (gs.mono e1) g1 (k.mono e1)
    | true => rw [if_pos rfl]; exact (k.mono e1).go (q.1 rfl) g1 (.d (.bl true))
theorem de_not (w : DE X L a τ M (BoolQ fun k M1 => Q (.d (.bool (!k))) M1)) : DE X L (.UnaryOp .Not a pos) τ M Q :=
  de_of (pe_not pe_s) fun σ G H Q' gs gm k => w σ G H _ gs gm fun s M1 v G1 H1 ⟨d, e, q⟩ e1 g1 a1 => by
    subst e
    exact ⟨d, sl_bl a1, (k.mono e1).go q g1 (.d (.bl _))⟩
theorem de_if (w : DT X L c τ M fun k M1 => (k = true → DE X L a τ M1 Q) ∧ (k = false → DE X L b τ M1 Q)) : DE X L (.IfExp c a b pos) τ M Q :=
  de_of (pe_ifExp pt_s pe_s pe_s) fun σ G H Q' gs gm k => w σ G H _ gs gm fun d M1 G1 H1 q e1 g1 => by
    cases d with
    | true => rw [if_pos rfl]; exact q.1 rfl σ G1 H1 Q' (gs.mono e1) g1 (k.mono e1)
    | false => rw [if_neg Bool.false_ne_true]; exact q.2 rfl σ G1 H1 Q' (gs.mono e1) g1 (k.mono e1)
/-- negation of an int -/
theorem de_neg (w : DE X L a τ M fun s M1 => ∃ i, s = .d (.int i) ∧ Q (.d (.int (-i))) M1) : DE X L (.UnaryOp .USub a pos) τ M Q :=
  de_of (pe_un un_neg pe_s) fun σ G H Q' gs gm k => w σ G H _ gs gm fun s M1 v G1 H1 ⟨i, e, q⟩ e1 g1 a1 => by
    subst e
    exact ⟨i, sl_int a1, (k.mono e1).go q g1 (.d (.int _))⟩
/-! ### displays -/
theorem de_tup (w : DA X L es τ M fun ss M1 => ss.length ≤ sizeLine ∧ Q (.u ss) M1) {x1} : DE X L (.Tuple es x1 pos) τ M Q :=
  de_of (pe_tup pa_s) fun σ G H Q' gs gm k => w σ G H _ gs gm fun ss M1 vs G1 H1 ⟨hl, q⟩ e1 g1 a1 => ⟨by rw [a1.len]; exact hl, fun p hp =>
    k (.u ss) M1 (.ref p) (upd G1 p (.tup vs)) _ q (e1.trans (Ex.new (g1.free hp).1)) (g1.newD hp) (.u upd_same (a1.mono (Ex.new (g1.free hp).1)))⟩
theorem de_tupD (w : DA X L es τ M fun ss M1 => ∃ ds : List PyData, ss = ds.map Sl.d ∧ ds.length ≤ sizeLine ∧ Q (.d (.tuple ds)) M1) {x1} : DE X L (.Tuple es x1 pos) τ M Q :=
  de_of (pe_tup pa_s) fun σ G H Q' gs gm k => w σ G H _ gs gm fun ss M1 vs G1 H1 ⟨ds, e, hl, q⟩ e1 g1 a1 => by
    subst e
    exact ⟨by rw [a1.len, List.length_map]; exact hl, fun p hp =>
      k (.d (.tuple ds)) M1 (.ref p) (upd G1 p (.tup vs)) _ q (e1.trans (Ex.new (g1.free hp).1)) (g1.newD hp) (.d (.tup upd_same (a1.at.mono (Ex.new (g1.free hp).1))))⟩
theorem de_lstD (w : DA X L es τ M fun ss M1 => ∃ ds : List PyData, ss = ds.map Sl.d ∧ ds.length ≤ sizeLine ∧ Q (.d (.list ds)) M1) : DE X L (.List es pos) τ M Q :=
  de_of (pe_lst pa_s) fun σ G H Q' gs gm k => w σ G H _ gs gm fun ss M1 vs G1 H1 ⟨ds, e, hl, q⟩ e1 g1 a1 => by
    subst e
    exact ⟨by rw [a1.len, List.length_map]; exact hl, fun p hp =>
      k (.d (.list ds)) M1 (.ref p) (upd G1 p (.lst vs)) _ q (e1.trans (Ex.new (g1.free hp).1)) (g1.newD hp) (.d (.lst upd_same (a1.at.mono (Ex.new (g1.free hp).1))))⟩
theorem de_lstC (w : DA X L es τ M fun ss M1 => ss.length ≤ sizeLine ∧ ∀ p, M1 p = none → Q (.c p) (updC M1 p (.l ss))) : DE X L (.List es pos) τ M Q :=
  de_of (pe_lst pa_s) fun σ G H Q' gs gm k => w σ G H _ gs gm fun ss M1 vs G1 H1 ⟨hl, q⟩ e1 g1 a1 => ⟨by rw [a1.len]; exact hl, fun p hp =>
    k (.c p) (updC M1 p (.l ss)) (.ref p) G1 _ (q p (g1.free hp).2) e1 (g1.newC hp ⟨vs, upd_same, a1⟩) (.c p)⟩
theorem de_dictC (q : ∀ p, M p = none → Q (.c p) (updC M p (.k []))) : DE X L (.Dict [] [] pos) τ M Q :=
  de_of pe_dnewK fun σ G H Q' gs gm k p hp => k (.c p) (updC M p (.k [])) (.ref p) G _ (q p (gm.free hp).2) (Ex.refl G) (gm.newC hp ⟨[], upd_same, trivial⟩) (.c p)
/-- a cell of data becomes data -/
theorem de_frz (w : DE X L e τ M fun s M1 => ∃ p ds, s = .c p ∧ M1 p = some (.l (ds.map .d)) ∧ Q (.d (.list ds)) (delC M1 p)) : DE X L e τ M Q := fun σ G H Q' gs gm k =>
  w σ G H _ gs gm fun s M1 v G1 H1 ⟨p, ds, e, hp, q⟩ e1 g1 a1 => by
    subst e
    obtain ⟨G2, e2, g2, a2⟩ := g1.freeze hp
    rw [sl_c a1]
    exact k _ _ _ G2 H1 q (e1.trans e2) g2 (.d a2)
end
end Y

namespace Y
open PySem L2 PyProof.Rows

/-! ### sequences -/
def dI (i : Int) : Sl := .d (.int i)
def seqOf (M : Cs) : Sl → Option (List Sl)
  | .d (.list ds) => some (ds.map .d)
  | .d (.tuple ds) => some (ds.map .d)
  | .u ss => some ss
  | .s ns => some (ns.map dI)
  | .c a => match M a with
    | some (.l ss) => some ss
    | _ => none
  | _ => none
def isTup : Sl → Bool
  | .d (.tuple _) => true
  | .u _ => true
  | _ => false
section
variable {K : PySem.W.Frag} {L : Lk} {M : Cs} {G H : Hp} {v : V} {s : Sl} {ss : List Sl}
theorem ints_sl : ∀ ns : List Int, SlL K G (ns.map V.int) (ns.map dI)
  | [] => .nil
  | n :: r => .cons (.d (.int n)) (ints_sl r)
theorem seq_at (g : GoodM K L M G H) (a : SlAt K G v s) (h : seqOf M s = some ss) : ∃ p xs, v = .ref p ∧ (if isTup s = true then SqT K H p xs else SqL K H p xs) ∧ SlL K G xs ss := by
  cases a with
  | d a =>
    cases a with
    | lst e l =>
      cases h
      exact ⟨_, _, rfl, .inl (g.rd e), l.sl⟩
    | tup e l =>
      cases h
      exact ⟨_, _, rfl, .inl (g.rd e), l.sl⟩
    | non => cases h
    | bl => cases h
    | int => cases h
    | str => cases h
    | dic => cases h
  | c p =>
    cases e : M p with
    | none => simp only [seqOf, e] at h; cases h
    | some c =>
      cases c with
      | k kvs => simp only [seqOf, e] at h; cases h
      | l ts =>
        simp only [seqOf, e] at h
        cases h
        obtain ⟨_, xs, h1, h2⟩ := g.cell p _ e
        exact ⟨p, xs, rfl, SqL.of h1, h2⟩
  | t n => cases h
  | u e l =>
    cases h
    exact ⟨_, _, rfl, .inl (g.rd e), l⟩
  | s e =>
    cases h
    refine ⟨_, _, rfl, ?_, ints_sl _⟩
    show SqL K H _ _
    rcases e with e | e
    · exact .inl (g.rd e)
    · exact .inr e
theorem seq_at' (g : GoodM K L M G H) (a : SlAt K G v s) (h : seqOf M s = some ss) : ∃ p xs, v = .ref p ∧ (SqL K H p xs ∨ SqT K H p xs) ∧ SlL K G xs ss := by
  obtain ⟨p, xs, e, q, l⟩ := seq_at g a h
  refine ⟨p, xs, e, ?_, l⟩
  cases z : isTup s with
  | true => rw [z, if_pos rfl] at q; exact .inr q
  | false => rw [z, if_neg Bool.false_ne_true] at q; exact .inl q
theorem atI_sl {xs : List V} {i : Int} {x : Sl} (l : SlL K G xs ss) (h : atI ss i = some x) : ∃ v, atI xs i = some v ∧ SlAt K G v x := by
  unfold atI at h ⊢
  rw [l.len]
  cases e : ixN ss.length i with
  | none => rw [e] at h; cases h
  | some j =>
    rw [e] at h
    obtain ⟨v, h1, h2⟩ := l.get (i := j) h
    exact ⟨v, h1, h2⟩
def cutG {α : Type} (xs : List α) (lo hi : Option Int) : List α := (xs.drop (HT.sIx xs.length 0 lo)).take (HT.sIx xs.length xs.length hi - HT.sIx xs.length 0 lo)
theorem cut_sl {xs : List V} (l : SlL K G xs ss) (lo hi : Option Int) : SlL K G (cutV xs lo hi) (cutG ss lo hi) := by
  unfold cutV cutG
  rw [l.len]
  exact (l.drop _).take _
end
section
variable {X : Cx} {L : Lk} {τ : List (Option Sl)} {M : Cs} {Q : Sl → Cs → Prop} {QB : Bool → Cs → Prop} {QA : List Sl → Cs → Prop} {e a b c : Expr} {es : List Expr} {pos : Pos} {E : Ks} {st : Stmt} {sts : List Stmt} {p p2 : Pos} {x y : Sl}
/-- what operations ask -/
theorem k_int {K : PySem.W.Frag} {f : Int → Int → Int} {i j : Int} (q : Q (.d (.int (f i j))) M) : R2k K L (rI0 fun i j => .int (f i j)) (.d (.int i)) (.d (.int j)) M Q := fun G H v u Q' g a1 a2 k => ⟨i, j, sl_int a1, sl_int a2, k.go q g (.d (.int _))⟩
theorem k_intC {K : PySem.W.Frag} {C : Int → Int → Prop} {f : Int → Int → Int} {i j : Int} (hc : C i j) (q : Q (.d (.int (f i j))) M) : R2k K L (rI C fun i j => .int (f i j)) (.d (.int i)) (.d (.int j)) M Q := fun G H v u Q' g a1 a2 k => ⟨i, j, sl_int a1, sl_int a2, hc, k.go q g (.d (.int _))⟩
theorem k_bool {K : PySem.W.Frag} {f : Int → Int → Bool} {i j : Int} (q : Q (.d (.bool (f i j))) M) : R2k K L (rI0 fun i j => .bl (f i j)) (.d (.int i)) (.d (.int j)) M Q := fun G H v u Q' g a1 a2 k => ⟨i, j, sl_int a1, sl_int a2, k.go q g (.d (.bl _))⟩
theorem de_add (w : DE X L a τ M fun x M1 => DE X L b τ M1 fun y M2 => ∃ i j, x = .d (.int i) ∧ y = .d (.int j) ∧ Q (.d (.int (i + j))) M2) : DE X L (.BinOp a .Add b pos) τ M Q :=
  de_op op_add (de_imp w fun x M1 q0 => de_imp q0 fun y M2 ⟨i, j, e1, e2, q1⟩ => by subst e1 e2; exact k_int q1)
theorem de_sub (w : DE X L a τ M fun x M1 => DE X L b τ M1 fun y M2 => ∃ i j, x = .d (.int i) ∧ y = .d (.int j) ∧ Q (.d (.int (i - j))) M2) : DE X L (.BinOp a .Sub b pos) τ M Q :=
  de_op op_sub (de_imp w fun x M1 q0 => de_imp q0 fun y M2 ⟨i, j, e1, e2, q1⟩ => by subst e1 e2; exact k_int q1)
theorem de_mul (w : DE X L a τ M fun x M1 => DE X L b τ M1 fun y M2 => ∃ i j, x = .d (.int i) ∧ y = .d (.int j) ∧ CMul i j ∧ Q (.d (.int (i * j))) M2) : DE X L (.BinOp a .Mult b pos) τ M Q :=
  de_op op_mul (de_imp w fun x M1 q0 => de_imp q0 fun y M2 ⟨i, j, e1, e2, c, q1⟩ => by subst e1 e2; exact k_intC c q1)
theorem de_mod (w : DE X L a τ M fun x M1 => DE X L b τ M1 fun y M2 => ∃ i j, x = .d (.int i) ∧ y = .d (.int j) ∧ 0 < j ∧ Q (.d (.int (i % j))) M2) : DE X L (.BinOp a .Mod b pos) τ M Q :=
  de_op op_mod (de_imp w fun x M1 q0 => de_imp q0 fun y M2 ⟨i, j, e1, e2, c, q1⟩ => by subst e1 e2; exact k_intC c q1)
theorem de_div (w : DE X L a τ M fun x M1 => DE X L b τ M1 fun y M2 => ∃ i j, x = .d (.int i) ∧ y = .d (.int j) ∧ CDivW i j ∧ Q (.d (.int (i / j))) M2) : DE X L (.BinOp a .FloorDiv b pos) τ M Q :=
  de_op op_fdivW (de_imp w fun x M1 q0 => de_imp q0 fun y M2 ⟨i, j, e1, e2, c, q1⟩ => by subst e1 e2; exact k_intC c q1)
def CPowW (i j : Int) : Prop := 0 ≤ j ∧ (Builtin.Int.intBits i : Int) * j ≤ 2 ^ 27
theorem op_powW : OpR X (binaryOp .Pow) (rI CPowW fun i j => .int (i ^ j.toNat)) := opI fun _ _ _ _ _ _ _ hc q => PyProof.Rows.pow_int hc.1 hc.2 q
theorem de_pow (w : DE X L a τ M fun x M1 => DE X L b τ M1 fun y M2 => ∃ i j, x = .d (.int i) ∧ y = .d (.int j) ∧ CPowW i j ∧ Q (.d (.int (i ^ j.toNat))) M2) : DE X L (.BinOp a .Pow b pos) τ M Q :=
  de_op op_powW (de_imp w fun x M1 q0 => de_imp q0 fun y M2 ⟨i, j, e1, e2, c, q1⟩ => by subst e1 e2; exact k_intC c q1)
/-- lists joined -/
def lstOf (M : Cs) : Sl → Option (List Sl)
  | .d (.list ds) => some (ds.map .d)
  | .c a => match M a with
    | some (.l ss) => some ss
    | _ => none
  | _ => none
theorem lst_at {K : PySem.W.Frag} {G H : Hp} {v : V} {s : Sl} {ss : List Sl} (g : GoodM K L M G H) (a : SlAt K G v s) (h : lstOf M s = some ss) : ∃ p xs, v = .ref p ∧ Rd H p (.lst xs) ∧ SlL K G xs ss := by
  cases a with
  | d a =>
    cases a with
    | lst e l =>
      cases h
      exact ⟨_, _, rfl, g.rd e, l.sl⟩
    | tup e l => cases h
    | non => cases h
    | bl => cases h
    | int => cases h
    | str => cases h
    | dic => cases h
  | c p =>
    cases e : M p with
    | none => simp only [lstOf, e] at h; cases h
    | some c =>
      cases c with
      | k kvs => simp only [lstOf, e] at h; cases h
      | l ts =>
        simp only [lstOf, e] at h
        cases h
        obtain ⟨_, xs, h1, h2⟩ := g.cell p _ e
        exact ⟨p, xs, rfl, .inl h1, h2⟩
  | t n => cases h
  | u e l => cases h
  | s e => cases h
def rCatR : R2 := fun x y H Q => ∃ l b xs zs, x = .ref l ∧ y = .ref b ∧ Rd H l (.lst xs) ∧ Rd H b (.lst zs) ∧ xs.length + zs.length ≤ sizeLine ∧ ∀ p, H p = none → Q (.ref p) (upd H p (.lst (xs ++ zs)))
theorem op_catR : OpR X (binaryOp .Add) rCatR := by
  intro pins s σ H x y v u Q I rx ry h
  obtain ⟨l, b, xs, zs, rfl, rfl, hH, hB, hz, q⟩ := h
  cases rx
  cases ry
  obtain ⟨z, its, n, r, e⟩ := hH.ok I.hok
  obtain ⟨z2, its2, n2, r2, e2⟩ := hB.ok I.hok
  refine PySem.P.add_list e e2 ?_ (by rw [List.size_toArray, List.size_toArray]; have := r.length; have := r2.length; omega)
  have ea : its.toArray ++ its2.toArray = (its ++ its2).toArray := by simp
  rw [ea]
  exact ⟨.ref _, _, I.lnew (t' := s.toks) (r.append r2) (by rw [List.length_append]; omega), rfl, q _ I.fresh⟩
theorem de_cat (w : DE X L a τ M fun x M1 => DE X L b τ M1 fun y M2 => ∃ ss ts, lstOf M2 x = some ss ∧ lstOf M2 y = some ts ∧ ss.length + ts.length ≤ sizeLine ∧ ∀ p, M2 p = none → Q (.c p) (updC M2 p (.l (ss ++ ts)))) : DE X L (.BinOp a .Add b pos) τ M Q :=
  de_op op_catR (de_imp w fun x M1 q => de_imp q fun y M2 ⟨ss, ts, e1, e2, hl, q⟩ => fun G H v u Q' g a1 a2 k => by
    obtain ⟨p1, xs, rfl, r1, l1⟩ := lst_at g a1 e1
    obtain ⟨p2, zs, rfl, r2, l2⟩ := lst_at g a2 e2
    exact ⟨p1, p2, xs, zs, rfl, rfl, r1, r2, by rw [l1.len, l2.len]; exact hl, fun p hp => k _ _ _ G _ (q p (g.free hp).2) (Ex.refl G) (g.newC hp ⟨_, upd_same, l1.append l2⟩) (.c p)⟩)
/-- subscripts -/
theorem de_ix (w : DE X L a τ M fun x M1 => DE X L b τ M1 fun y M2 => ∃ ss i z, seqOf M2 x = some ss ∧ y = .d (.int i) ∧ atI ss i = some z ∧ Q z M2) (hs : PlainIx b := by exact fun _ _ => rfl) : DE X L (.Subscript a b pos) τ M Q :=
  de_of (pe_ix ix_seq pe_s pe_s hs) (we_op (de_imp w fun x M1 q => de_imp q fun y M2 ⟨ss, i, z, e1, e2, ha, q⟩ => fun G H v u Q' g a1 a2 k => by
    subst e2
    obtain ⟨p, xs, rfl, r, l⟩ := seq_at' g a1 e1
    obtain ⟨w', hw, sw⟩ := atI_sl l ha
    rcases r with r | r
    · exact .inl ⟨p, xs, i, w', rfl, sl_int a2, r, hw, k.go q g sw⟩
    · exact .inr (.inl ⟨p, xs, i, w', rfl, sl_int a2, r, hw, k.go q g sw⟩)))
/-- slices of lists -/
def sO (o : Option Expr) (X : Cx) (L : Lk) (τ : List (Option Sl)) (M : Cs) (Q : Option Int → Cs → Prop) : Prop := match o with
  | none => Q none M
  | some e => DE X L e τ M fun s M1 => ∃ i, s = .d (.int i) ∧ Q (some i) M1
theorem de_sl {lo hi : Option Expr} (w : DE X L a τ M fun x M1 => sO lo X L τ M1 fun l M2 => sO hi X L τ M2 fun h M3 => ∃ ss, isTup x = false ∧ seqOf M3 x = some ss ∧ ∀ p, M3 p = none → Q (.c p) (updC M3 p (.l (cutG ss l h)))) :
    DE X L (.Subscript a (.Slice lo hi none p2) pos) τ M Q := by
  have fin : ∀ {x : Sl} {l h : Option Int} {M3 : Cs} {v : V} {G H : Hp} {Q' : VK}, GoodM X.K L M3 G H → SlAt X.K G v x → Ret X.K L G Q Q' → (∃ ss, isTup x = false ∧ seqOf M3 x = some ss ∧ ∀ p, M3 p = none → Q (.c p) (updC M3 p (.l (cutG ss l h)))) → rSlL X.K v l h H Q' := by
    intro x l h M3 v G H Q' g a1 k ⟨ss, hT, hs, q⟩
    obtain ⟨p, xs, rfl, r, ll⟩ := seq_at g a1 hs
    rw [hT, if_neg Bool.false_ne_true] at r
    exact ⟨p, xs, rfl, r, fun c hc => k _ _ _ G _ (q c (g.free hc).2) (Ex.refl G) (g.newC hc ⟨_, upd_same, cut_sl ll l h⟩) (.c c)⟩
  cases lo with
  | none =>
    cases hi with
    | none =>
      exact de_of (pe_slice sl_list pe_s po_none po_none) fun σ G H Q' gs gm k => w σ G H _ gs gm fun x M1 v G1 H1 q e1 g1 a1 => fin g1 a1 (k.mono e1) q
    | some b =>
      exact de_of (pe_slice sl_list pe_s po_none (po_some pe_s)) fun σ G H Q' gs gm k => w σ G H _ gs gm fun x M1 v G1 H1 q e1 g1 a1 => q σ G1 H1 _ (gs.mono e1) g1 fun y M2 u G2 H2 ⟨i, ei, q2⟩ e2 g2 a2 => by
        subst ei
        exact ⟨i, sl_int a2, fin g2 (a1.mono e2) (k.mono (e1.trans e2)) q2⟩
  | some b =>
    cases hi with
    | none =>
      exact de_of (pe_slice sl_list pe_s (po_some pe_s) po_none) fun σ G H Q' gs gm k => w σ G H _ gs gm fun x M1 v G1 H1 q e1 g1 a1 => q σ G1 H1 _ (gs.mono e1) g1 fun y M2 u G2 H2 ⟨i, ei, q2⟩ e2 g2 a2 => by
        subst ei
        exact ⟨i, sl_int a2, fin g2 (a1.mono e2) (k.mono (e1.trans e2)) q2⟩
    | some c =>
      exact de_of (pe_slice sl_list pe_s (po_some pe_s) (po_some pe_s)) fun σ G H Q' gs gm k => w σ G H _ gs gm fun x M1 v G1 H1 q e1 g1 a1 => q σ G1 H1 _ (gs.mono e1) g1 fun y M2 u G2 H2 ⟨i, ei, q2⟩ e2 g2 a2 => by
        subst ei
        exact ⟨i, sl_int a2, q2 σ G2 H2 _ (gs.mono (e1.trans e2)) g2 fun z M3 t G3 H3 ⟨j, ej, q3⟩ e3 g3 a3 => by
          subst ej
          exact ⟨j, sl_int a3, fin g3 ((a1.mono e2).mono e3) (k.mono ((e1.trans e2).trans e3)) q3⟩⟩
/-! ### calls of built-ins -/
theorem de_callB {id : String} {r : List V → Hp → VK → Prop} {x : Str} (hc : CallR X (.builtin id) r) (hg : Gl X x) (hm : X.mg x = none) (hv : bootBuiltins x = some (.builtin id)) (w : DA X L (e :: es) τ M fun ss M1 => RCk X.K L r ss M1 Q) (hn : x ≠ "__name__" := by decide) (hdb : (x == ("__debug__" : Str)) = false := by decide)
    (he : starEach (e :: es) X.env = (false, eval e X.env) :: starEach es X.env := by rfl) (hpl : (backTo pos (starEach es X.env)).any (·.1) = false := by rfl) : DE X L (.Call (.Name x p) (e :: es) [] pos) τ M Q :=
  de_of (pe_callB hc hg hm hv pa_s hn hdb he hpl) fun σ G H Q' gs gm k => w σ G H _ gs gm fun ss M1 vs G1 H1 q e1 g1 a1 => q G1 H1 vs Q' g1 a1 (k.mono e1)
theorem de_callT {T : String} {r : List V → Hp → VK → Prop} {x : Str} (hc : CallR X (.type T) r) (hg : Gl X x) (hm : X.mg x = none) (hv : bootBuiltins x = some (.type T)) (w : DA X L (e :: es) τ M fun ss M1 => RCk X.K L r ss M1 Q) (hn : x ≠ "__name__" := by decide) (hdb : (x == ("__debug__" : Str)) = false := by decide)
    (he : starEach (e :: es) X.env = (false, eval e X.env) :: starEach es X.env := by rfl) (hpl : (backTo pos (starEach es X.env)).any (·.1) = false := by rfl) : DE X L (.Call (.Name x p) (e :: es) [] pos) τ M Q :=
  de_of (pe_callTy hc hg hm hv pa_s hn hdb he hpl) fun σ G H Q' gs gm k => w σ G H _ gs gm fun ss M1 vs G1 H1 q e1 g1 a1 => q G1 H1 vs Q' g1 a1 (k.mono e1)
theorem sl1 {K : PySem.W.Frag} {G : Hp} {vs : List V} {s : Sl} (a : SlL K G vs [s]) : ∃ v, vs = [v] ∧ SlAt K G v s := by
  cases a with | cons a b => cases b; exact ⟨_, rfl, a⟩
theorem sl2 {K : PySem.W.Frag} {G : Hp} {vs : List V} {s t : Sl} (a : SlL K G vs [s, t]) : ∃ v u, vs = [v, u] ∧ SlAt K G v s ∧ SlAt K G u t := by
  cases a with | cons a b => cases b with | cons b c => cases c; exact ⟨_, _, rfl, a, b⟩
theorem k_len {s : Sl} {ss : List Sl} (h : seqOf M s = some ss) (q : Q (.d (.int ss.length)) M) : RCk X.K L (fun xs H Q => ∃ p ys, xs = [.ref p] ∧ (SqL X.K H p ys ∨ SqT X.K H p ys) ∧ Q (.int ys.length) H) [s] M Q := fun G H vs Q' g a k => by
  obtain ⟨v, rfl, a1⟩ := sl1 a
  obtain ⟨p, xs, rfl, r, l⟩ := seq_at' g a1 h
  exact ⟨p, xs, rfl, r, by rw [l.len]; exact k.go q g (.d (.int _))⟩
theorem k_lenS {x : Str} (hz : x.length ≤ sizeLine) (q : Q (.d (.int x.length)) M) : RCk X.K L (fun xs H Q => ∃ z : Str, xs = [.str z] ∧ z.length ≤ sizeLine ∧ Q (.int z.length) H) [.d (.str x)] M Q := fun G H vs Q' g a k => by
  obtain ⟨v, rfl, a1⟩ := sl1 a
  rw [sl_str a1]
  exact ⟨x, rfl, hz, k.go q g (.d (.int _))⟩
theorem k_min2 {i j : Int} (q : Q (.d (.int (if j < i then j else i))) M) : RCk X.K L (fun xs H Q => ∃ i j, xs = [.int i, .int j] ∧ Q (.int (if j < i then j else i)) H) [.d (.int i), .d (.int j)] M Q := fun G H vs Q' g a k => by
  obtain ⟨v, u, rfl, a1, b1⟩ := sl2 a
  rw [sl_int a1, sl_int b1]
  exact ⟨i, j, rfl, k.go q g (.d (.int _))⟩
/-! ### calls of one's own defs -/
abbrev Rr := Lk → List Sl → Cs → (Sl → Cs → Prop) → Prop
def Spk (K : PySem.W.Frag) (R : Rr) : Sp := fun vs H Q _ => ∃ L M G ss Q0, GoodM K L M G H ∧ SlL K G vs ss ∧ R L ss M Q0 ∧ Ret K L G Q0 Q
theorem de_call {R : Rr} {k : Nat} {f : Addr} {fd : FuncData} {ps : List Str} {x : Str} (F : FnOk X.prog X.w X.K X.mg X.base CX0 k f fd ps (Spk X.K R)) (hr : Room k X.A) (hg : Gl X x) (hm : X.mg x = some (.ref f)) (hk : PySem.W.keepIn X.K (.ref f) = true) (hb : Binds X.K fd ps [])
    (w : DA X L (e :: es) τ M fun ss M1 => R L ss M1 Q) (hdb : (x == ("__debug__" : Str)) = false := by decide) (he : starEach (e :: es) X.env = (false, eval e X.env) :: starEach es X.env := by rfl) (hpl : (backTo pos (starEach es X.env)).any (·.1) = false := by rfl) : DE X L (.Call (.Name x p) (e :: es) [] pos) τ M Q :=
  de_of (pe_call F hr hg hm hk hb .nil pass0 pa_s hdb he hpl) fun σ G H Q' gs gm k => w σ G H _ gs gm fun ss M1 vs G1 H1 q e1 g1 a1 => ⟨L, M1, G1, ss, Q, g1, by rw [List.append_nil]; exact a1, q, k.mono e1⟩
def startK (N : List Str) (ss : List Sl) : List (Option Sl) := ss.map some ++ List.replicate (N.length - ss.length) none
theorem good_start {K : PySem.W.Frag} {G : Hp} {N : List Str} {vs : List V} {ss : List Sl} (a : SlL K G vs ss) : GoodS K G (L2.start N vs) (startK N ss) := by
  refine ⟨by unfold L2.start startK; simp [a.len], fun i s h => ?_⟩
  unfold startK at h
  by_cases hi : i < ss.length
  · rw [List.getElem?_append_left (by simpa using hi), List.getElem?_map] at h
    cases e : ss[i]? with
    | none => rw [e] at h; cases h
    | some t =>
      rw [e] at h
      have h' : some t = some s := Option.some.inj h
      cases h'
      obtain ⟨v, h1, h2⟩ := a.get e
      refine ⟨v, ?_, h2⟩
      unfold L2.start
      rw [List.getElem?_append_left (by rw [List.length_map, a.len]; exact hi), List.getElem?_map, h1]
      rfl
  · rw [List.getElem?_append_right (by simpa using hi), List.getElem?_replicate] at h
    split at h <;> cases h
section
variable {P : Program} {w : World} {K : PySem.W.Frag} {mg : Str → Option Value} {base : Heap}
theorem fn_k {R : Rr} {x qual : Str} {st : Stmt} {f : Addr} {fd : FuncData} {N ps : List Str} {k : Nat} (F : Fun K x qual st f fd) (S : FnScope N ps (defScope st)) (hl : ∀ L ss M Q, R L ss M Q → ss.length = ps.length)
    (hb : ∀ (cdv : Value) (A : Around) (outer : List Env) (s : Shared) (H : Hp) (E : XK) (L : Lk) (ss : List Sl) (M : Cs) (Q : Sl → Cs → Prop), Room k (A.deeper (envOfC qual (defScope st) s.heap.objs.size f cdv)) → R L ss M Q →
      DB ((cxOf CX0 P w K mg base N qual (defScope st) f cdv A outer s H E).nox) L (defBody st) (startK N ss) M { nx := fun _ M' => Q (.d .none) M', rt := Q }) : FnOk P w K mg base CX0 (k + 1) f fd ps (Spk K R) := by
  refine F.ok S (fun vs H Q E h => ?_) (fun cdv A outer s H vs Q E hr h => ?_)
  · obtain ⟨L, M, G, ss, Q0, g, a, r, _⟩ := h
    rw [a.len]
    exact hl L ss M Q0 r
  · obtain ⟨L, M, G, ss, Q0, g, a, r, q⟩ := h
    refine ⟨_, pss_s, ?_⟩
    refine hb cdv A outer s H E L ss M Q0 hr r _ G H _ (good_start a) g ⟨fun τ' M' σ' G' H' h e g' _ => q _ M' _ G' H' h e g' (.d .non), q, fun _ _ _ _ _ h => h.elim, fun _ _ _ _ _ h => h.elim⟩
end
/-! ### statements -/
theorem db_nil (h : E.nx τ M) : DB X L [] τ M E := db_of pss_nil fun σ G H D gs gm k => k.nx.go h gm gs
theorem db_cons (w : DS X L st τ M { E with nx := fun τ' M' => DB X L sts τ' M' E }) : DB X L (st :: sts) τ M E :=
  db_of (pss_cons ps_s pss_s) fun σ G H D gs gm k => w σ G H _ gs gm ⟨fun τ' M' σ' G' H' q e g s => q σ' G' H' D s g (k.mono e), k.rt, k.bk, k.ct⟩
theorem ds_ret (w : DE X L e τ M E.rt) : DS X L (.Return (some e) pos) τ M E := ds_of (ps_ret pe_s) fun σ G H D gs gm k => w σ G H _ gs gm k.rt
theorem ds_expr (w : DE X L e τ M fun _ M1 => E.nx τ M1) (hs : swapsWith e none pos.line X.env = pure false := by rfl) : DS X L (.Expr e pos) τ M E :=
  ds_of (ps_expr pe_s hs) fun σ G H D gs gm k => w σ G H _ gs gm fun s M1 v G1 H1 q e1 g1 a1 => k.nx τ M1 σ G1 H1 q e1 g1 (gs.mono e1)
theorem ds_if (w : DT X L c τ M fun d M1 => (d = true → DB X L sts τ M1 E) ∧ (d = false → DB X L st2 τ M1 E)) : DS X L (.If c sts st2 pos) τ M E :=
  ds_of (ps_if pt_s pss_s pss_s) fun σ G H D gs gm k => w σ G H _ gs gm fun d M1 G1 H1 q e1 g1 => by
    cases d with
    | true => rw [if_pos rfl]; exact q.1 rfl σ G1 H1 D (gs.mono e1) g1 (k.mono e1)
    | false => rw [if_neg Bool.false_ne_true]; exact q.2 rfl σ G1 H1 D (gs.mono e1) g1 (k.mono e1)
theorem ds_brk (h : E.bk τ M) : DS X L (.Break pos) τ M E := ds_of ps_break fun σ G H D gs gm k => k.bk.go h gm gs
theorem ds_cont (h : E.ct τ M) : DS X L (.Continue pos) τ M E := ds_of ps_continue fun σ G H D gs gm k => k.ct.go h gm gs
theorem ds_pass (h : E.nx τ M) : DS X L (.Pass pos) τ M E := ds_of ps_pass fun σ G H D gs gm k => k.nx.go h gm gs
/-! targets -/
variable {QG : List (Option Sl) → Cs → Prop} {s : Sl} {i : Nat} {nm : Str}
theorem dg_of {g : TG} {t : Expr} (h : PG X t g) (w : WG X.K L g s τ M QG) : DG X L t s τ M QG := fun σ G H v Q' gs gm a k => g_of h (w σ G H v Q' gs gm a k)
theorem wg_name (q : QG (τ.set i (some s)) M) : WG X.K L (gName i) s τ M QG := fun σ G H v Q' gs gm a k => k _ M _ G H q (Ex.refl G) gm (gs.set a i)
theorem dg_name (hN : X.N.Nodup) (hi : X.N[i]? = some nm) (hx : Loc X.env.scope nm) (q : QG (τ.set i (some s)) M) (hf : X.fn nm = true ∨ X.env.scope.names.lookup nm = some .local := by first | exact .inl rfl | exact .inr rfl | assumption) : DG X L (.Name nm pos) s τ M QG :=
  dg_of (pg_name hN hi hx hf) (wg_name q)
theorem ds_asg {tg : Expr} (w : DE X L e τ M fun s M1 => DG X L tg s τ M1 E.nx) (hs : swapsWithSole [tg] e pos.line X.env = pure false := by rfl) (hw : swappedStores [tg] e X.env = pure none := by rfl)
    (h1 : (assignEach [tg] X.env).map (·.2) = [assign tg X.env] := by rfl) : DS X L (.Assign [tg] e pos) τ M E :=
  ds_of (ps_asg pe_s pg_s hs hw h1) fun σ G H D gs gm k => w σ G H _ gs gm fun s M1 v G1 H1 q e1 g1 a1 => q σ G1 H1 v _ (gs.mono e1) g1 a1 (k.nx.mono e1)
theorem ds_set (hN : X.N.Nodup) (hi : X.N[i]? = some nm) (hx : Loc X.env.scope nm) (w : DE X L e τ M fun s M1 => E.nx (τ.set i (some s)) M1) (hs : swapsWith e (some (.Name nm p)) pos.line X.env = pure false := by rfl) (hf : X.fn nm = true ∨ X.env.scope.names.lookup nm = some .local := by first | exact .inl rfl | exact .inr rfl | assumption) : DS X L (.Assign [.Name nm p] e pos) τ M E :=
  ds_of (ps_set hN hi hx pe_s hs hf) fun σ G H D gs gm k => w σ G H _ gs gm fun s M1 v G1 H1 q e1 g1 a1 => (k.nx.mono e1).go q g1 ((gs.mono e1).set a1 i)
/-- a, b, .. = a tuple -/
theorem wgs_nil (q : QG τ M) : WGs X.K L gNil [] τ M QG := fun σ G H vs Q' gs gm a k => by
  cases a
  exact ⟨rfl, k.go q gm gs⟩
theorem wgs_cons {t : TG} {u : TGs} {ss : List Sl} (w : WG X.K L t s τ M fun τ1 M1 => WGs X.K L u ss τ1 M1 QG) : WGs X.K L (gCons t u) (s :: ss) τ M QG := fun σ G H vs Q' gs gm a k => by
  cases a with
  | cons a b => exact ⟨_, _, rfl, w σ G H _ _ gs gm a fun τ1 M1 σ1 G1 H1 q e1 g1 s1 => q σ1 G1 H1 _ Q' s1 g1 (b.mono e1) (k.mono e1)⟩
theorem wg_tup {n : Nat} {t : TGs} {ss : List Sl} (hT : isTup s = true) (h : seqOf M s = some ss) (hn : ss.length = n) (w : WGs X.K L t ss τ M QG) : WG X.K L (gTup X.K n t) s τ M QG := fun σ G H v Q' gs gm a k => by
  obtain ⟨p, xs, rfl, r, l⟩ := seq_at gm a h
  rw [hT, if_pos rfl] at r
  exact ⟨p, xs, rfl, r, by rw [l.len]; exact hn, w σ G H xs Q' gs gm l k⟩
/-- a, b = e1, e2 -/
theorem ds_par {j : Nat} {x y : Str} {px py pt : Pos} {kt k2 pt2} (hc : X.calm = true) (hN : X.N.Nodup) (hi : X.N[i]? = some x) (hj : X.N[j]? = some y) (hij : i ≠ j)
    (hx : X.env.scope.names.lookup x = some .local) (hy : X.env.scope.names.lookup y = some .local) (w : DA X L [a, b] τ M fun ss M1 => ∃ s t, ss = [s, t] ∧ E.nx ((τ.set i (some s)).set j (some t)) M1)
    (hw : swappedStores [.Tuple [.Name x px, .Name y py] kt pt] (.Tuple [a, b] k2 pt2) X.env = pure (some [x, y]) := by rfl)
    (hs : swapsWithSole [.Tuple [.Name x px, .Name y py] kt pt] (.Tuple [a, b] k2 pt2) pos.line X.env = pure false := by rfl) : DS X L (.Assign [.Tuple [.Name x px, .Name y py] kt pt] (.Tuple [a, b] k2 pt2) pos) τ M E :=
  ds_of (ps_par hc hN hi hj hij hx hy pa_s hw hs) fun σ G H D gs gm k => w σ G H _ gs gm fun ss M1 vs G1 H1 ⟨s, t, e, q⟩ e1 g1 a1 => by
    subst e
    obtain ⟨v, u, rfl, h1, h2⟩ := sl2 a1
    exact ⟨v, u, rfl, (k.nx.mono e1).go q g1 (((gs.mono e1).set h1 i).set h2 j)⟩
/-- x op= e -/
theorem ds_aug {op : Operator} {ti : TIp} (hN : X.N.Nodup) (hi : X.N[i]? = some nm) (hx : Loc X.env.scope nm) (ho : PIp X op ti) (ht : τ[i]? = some (some s)) (w : DE X L e τ M fun y M1 => R2k X.K L ti s y M1 fun z M2 => E.nx (τ.set i (some z)) M2)
    (hf : X.fn nm = true ∨ X.env.scope.names.lookup nm = some .local := by first | exact .inl rfl | exact .inr rfl | assumption) : DS X L (.AugAssign (.Name nm p) op e pos) τ M E :=
  ds_of (ps_aug hN hi hx pe_s ho hf) fun σ G H D gs gm k => by
    obtain ⟨v, h1, h2⟩ := gs.get i s ht
    exact ⟨v, h1, w σ G H _ gs gm fun y M1 u G1 H1 q e1 g1 a1 => q G1 H1 v u _ g1 (h2.mono e1) a1 fun z M2 t G2 H2 q2 e2 g2 a2 => (k.nx.mono (e1.trans e2)).go q2 g2 ((gs.mono (e1.trans e2)).set a2 i)⟩
end
end Y

namespace Y
open PySem L2 PyProof.Rows PySem.TypeEq

theorem slot_type_ne : Slot "type" (cmpInfo .NotEq).2.1 "object.__ne__" :=
  .of (owner := "object") (n := "__ne__") (by rw [typeLookup_type, builtinLookup_eq_fast]; kernel_rfl) (by decide +kernel) (by decide +kernel) (by decide +kernel)
    (by first | exact .inl (by decide +kernel) | exact .inr (by decide +kernel)) (by rw [isSubtype_type]; kernel_rfl)
theorem slot_type_ne_refl : Slot "type" (cmpInfo .NotEq).2.2 "object.__ne__" :=
  .of (owner := "object") (n := "__ne__") (by rw [typeLookup_type, builtinLookup_eq_fast]; kernel_rfl) (by decide +kernel) (by decide +kernel) (by decide +kernel)
    (by first | exact .inl (by decide +kernel) | exact .inr (by decide +kernel)) (by rw [isSubtype_type]; kernel_rfl)
theorem slot_type_eqN : Slot "type" "__eq__" "object.__eq__" := slot_type_eq
theorem object_ne_same {X : String} (hX : ∀ s' : Shared, s'.TypeIs (.type X) "type") : Gives (Builtin.«object.__ne__» ⟨[.type X, .type X], []⟩) (.val (.bool false)) := fun prog w A R s h => by
  unfold Builtin.«object.__ne__»
  repeat (first | with_reducible refine wpAny_cRoomFor_or (.inl rfl) ?_ | (refine wpAny_bind (m := callSpecialIfBound? (.type X) (Str.ofString "__eq__") [.type X]) (wpAny_callSpecialIfBound?_slot (hX _) slot_type_eqN (call_gives slot_type_eqN (hX _) F.entry_object_eq (F.args_object_eq_2 _ _) (object_eq_same rfl (by simp)) ?_))) | wp_step)
  show wpAny _ _ _ _ _ _
  refine wpAny_bind (wpAny_truthy_bool ?_)
  exact wpAny_pure h
theorem object_ne_other {X Y : String} (hX : ∀ s' : Shared, s'.TypeIs (.type X) "type") (hne : (Value.type X == Value.type Y) = false) : Gives (Builtin.«object.__ne__» ⟨[.type X, .type Y], []⟩) (.val .notImplemented) := fun prog w A R s h => by
  unfold Builtin.«object.__ne__»
  repeat (first | with_reducible refine wpAny_cRoomFor_or (.inl rfl) ?_ | (refine wpAny_bind (m := callSpecialIfBound? (.type X) (Str.ofString "__eq__") [.type Y]) (wpAny_callSpecialIfBound?_slot (hX _) slot_type_eqN (call_gives slot_type_eqN (hX _) F.entry_object_eq (F.args_object_eq_2 _ _) (object_eq_other rfl hne) ?_))) | wp_step)
  show wpAny _ _ _ _ _ _
  exact wpAny_pure h
section
variable {M : Model} {prog : Program} {w : World} {A : Around} {E : Value → Shared → Prop} {s : Shared}
theorem rc_ne_same_decline {a b : Value} {T id : String} {k : Bool} {Q : Value → Shared → Prop} (ha : ∀ s' : Shared, s'.TypeIs a T) (hb : ∀ s' : Shared, s'.TypeIs b T)
    (h1 : Slot T (cmpInfo .NotEq).2.1 id) (h2 : Slot T (cmpInfo .NotEq).2.2 id) (hv : [a, b].any Value.onHeap = false) (hk : isSame a b = pure k)
    (hc : wpAny M A (call (.builtin id) [a, b]) (fun v s₁ => v = .notImplemented ∧ wpAny M A (call (.builtin id) [b, a]) (fun v s₂ => v = .notImplemented ∧ Q (.bool (!k)) s₂) E s₁) E s) :
    wpAny M A (richCompare .NotEq a b) Q E s := by
  rcases hi : cmpInfo CmpOp.NotEq with ⟨sym, f, r⟩
  rw [hi] at h1 h2
  simp only [richCompare, hi, (ha s).oneThing_none]
  try with_reducible refine wpAny_holding ?_
  refine wpAny_bind (wpAny_cRoomFor_or (.inl hv) ?_)
  refine wpAny_bind (wpAny_typeOf (ha s) (wpAny_bind (wpAny_typeOf (hb s) ?_)))
  simp only [bne_self_eq_false, Bool.false_eq_true, if_false, pure_bind, Bool.not_false, if_true]
  refine wpAny_bind (m := tryCompare a _ b) (wpAny_tryCompare_declines (ha s) h1 (wpAny_mono hc (fun v s₁ h₁ => ⟨h₁.1, ?_⟩) fun _ _ x => x))
  refine wpAny_bind (m := tryCompare b _ a) (wpAny_tryCompare_declines (hb s₁) h2 (wpAny_mono h₁.2 (fun v s₂ h₂ => ⟨h₂.1, ?_⟩) fun _ _ x => x))
  refine wpAny_bind (wpAny_rule (wpAny_bind (wpAny_of_eq hk (wpAny_pure h₂.2))))
theorem ne_type_same {X : String} {Q : Value → Shared → Prop} (hX : ∀ s' : Shared, s'.TypeIs (.type X) "type") (h : Q (.bool false) s) : wpAny (model prog w) A (compareOp .NotEq (.type X) (.type X)) Q E s := by
  show wpAny _ A (richCompare .NotEq _ _) Q E s
  exact wpAny_richCompare_same (T := "type") (hX s) (hX s) slot_type_ne (call_gives slot_type_ne (hX s) F.cmpEntry_ne (F.cmpArgs_ne _ _) (object_ne_same hX) ⟨(by intro e; cases e), h⟩)
theorem ne_type_other {X Y : String} {Q : Value → Shared → Prop} (hX : ∀ s' : Shared, s'.TypeIs (.type X) "type") (hY : ∀ s' : Shared, s'.TypeIs (.type Y) "type") (hne : (Value.type X == Value.type Y) = false) (h : Q (.bool true) s) : wpAny (model prog w) A (compareOp .NotEq (.type X) (.type Y)) Q E s := by
  have hne' : (Value.type Y == Value.type X) = false := by
    rw [Bool.eq_false_iff] at hne ⊢
    intro e
    exact hne (by rw [beq_iff_eq] at e ⊢; exact e.symm)
  show wpAny _ A (richCompare .NotEq _ _) Q E s
  exact rc_ne_same_decline (T := "type") (k := false) hX hY slot_type_ne slot_type_ne_refl rfl (by rw [isSame_plain rfl, hne])
    (call_gives slot_type_ne (hX s) F.cmpEntry_ne (F.cmpArgs_ne _ _) (object_ne_other hX hne) ⟨rfl, call_gives slot_type_ne_refl (hY s) F.cmpEntry_ne (F.cmpArgs_ne _ _) (object_ne_other hY hne') ⟨rfl, h⟩⟩)
end
/-- the classes that the programs name -/
def okTy (n : String) : Prop := ∀ s' : Shared, s'.TypeIs (.type n) "type"
section
variable {X : Cx} {L : Lk} {M : Cs} {Q : Sl → Cs → Prop}
def rNeTy : R2 := fun x y H Q => ∃ a b, x = .ty a ∧ y = .ty b ∧ okTy a ∧ okTy b ∧ Q (.bl (!decide (a = b))) H
def rEqTy : R2 := fun x y H Q => ∃ a b, x = .ty a ∧ y = .ty b ∧ okTy a ∧ okTy b ∧ Q (.bl (decide (a = b))) H
theorem ty_ne {a b : String} (h : a ≠ b) : (Value.type a == Value.type b) = false := beq_eq_false_iff_ne.mpr fun z => h (Value.type.inj z)
theorem op_neTy : OpR X (compareOp .NotEq) rNeTy := by
  intro pins s σ H x y v u Q I rx ry h
  obtain ⟨a, b, rfl, rfl, ha, hb, q⟩ := h
  cases (show v = Value.type a from rx)
  cases (show u = Value.type b from ry)
  by_cases e : a = b
  · subst e
    exact ne_type_same ha (fin_bl I q (by simp))
  · exact ne_type_other ha hb (ty_ne e) (fin_bl I q (by simp [e]))
theorem op_eqTy : OpR X (compareOp .Eq) rEqTy := by
  intro pins s σ H x y v u Q I rx ry h
  obtain ⟨a, b, rfl, rfl, ha, hb, q⟩ := h
  cases (show v = Value.type a from rx)
  cases (show u = Value.type b from ry)
  by_cases e : a = b
  · subst e
    exact eq_type_same ha (fin_bl I q (by simp))
  · exact eq_type_other ha hb (ty_ne e) (fin_bl I q (by simp [e]))
theorem eqAt_ty {A : Around} {s : Shared} {a b : String} (ha : okTy a) (hb : okTy b) : SeqAt.EqAt A s (.type a) (.type b) (decide (a = b)) := fun prog w E Q h => by
  unfold eqBool
  refine wpAny_holding ?_
  by_cases e : a = b
  · subst e
    refine wpAny_ite_split (fun _ => ?_) (fun z => absurd (beq_self_eq_true (Value.type a)) z)
    rw [decide_eq_true rfl] at h
    exact wpAny_bind (wpAny_rule (wpAny_pure h))
  · refine wpAny_ite_split (fun z => absurd z (by rw [ty_ne e]; exact Bool.false_ne_true)) (fun _ => ?_)
    rw [decide_eq_false e] at h
    exact wpAny_bind (eq_type_other ha hb (ty_ne e) (wpAny_truthy_bool h))
/-- a class in, not in a tuple of classes -/
def rInTy (neg : Bool) : R2 := fun x y H Q => ∃ (a : String) (p : Addr) (ts : List String), x = .ty a ∧ y = .ref p ∧ Rd H p (.tup (ts.map V.ty)) ∧ okTy a ∧ (∀ t ∈ ts, okTy t) ∧ Q (.bl (if neg then !(ts.any fun t => decide (t = a)) else ts.any fun t => decide (t = a))) H
theorem tys_eq : ∀ {ts : List String} {us : List Value}, Vals (ts.map V.ty) us → us = ts.map Value.type
  | [], _, h => by cases h; rfl
  | t :: r, _, h => by
    cases h with
    | cons a b =>
      have e := tys_eq (ts := r) b
      rw [e]
      cases (show _ = Value.type t from a)
      rfl
def tyIs (a : String) (v : Value) : Bool := match v with
  | .type t => decide (t = a)
  | _ => false
theorem tys_any (a : String) : ∀ ts : List String, (ts.map Value.type).any (tyIs a) = ts.any fun t => decide (t = a)
  | [] => rfl
  | t :: r => by
    rw [List.map_cons, List.any_cons, List.any_cons, tys_any a r]
    rfl
theorem op_niTy : OpR X (compareOp .NotIn) (rInTy true) := by
  intro pins s σ H x y v u Q I rx ry h
  obtain ⟨a, p, ts, rfl, rfl, hq, ha, ht, q⟩ := h
  cases (show v = Value.type a from rx)
  cases ry
  obtain ⟨its, r, pl, hz⟩ := I.tuple (.inl hq)
  have e := tys_eq r
  subst e
  refine SeqAt.notIn_tupleAt (tyIs a) pl (fun w hw => ?_) ⟨.bl _, H, I, rfl, ?_⟩
  · have hw : w ∈ ts.map Value.type := by simpa using hw
    obtain ⟨t, h1, rfl⟩ := List.mem_map.mp hw
    exact eqAt_ty (ht t h1) ha
  · rw [show (ts.map Value.type).toArray.any (tyIs a) = (ts.map Value.type).any (tyIs a) by simp, tys_any]
    exact q
end
end Y

namespace Y
open PySem L2 PyProof.Rows

/-! ### what is walked -/
def sI (X : Cx) (tg iter : Expr) : TI := fun σ H R => ∀ pins s, Inv X pins σ H s → wpAny (model X.prog X.w) X.A (eval iter X.env) (fun v s1 => wpAny (model X.prog X.w) X.A (pyIter v) (PIE X pins σ tg R) X.xe s1) X.xe s
theorem pi_s {X : Cx} {tg iter : Expr} : PI X tg iter (sI X tg iter) := ⟨fun pins s _ _ _ I h => h pins s I⟩
theorem i_of {X : Cx} {tg iter : Expr} {wi : TI} {σ : L2.St} {H : Hp} {R : It → Hp → Prop} (h : PI X tg iter wi) (q : wi σ H R) : sI X tg iter σ H R := fun pins s I => h.run pins s σ H R I q
structure ItOk (K : PySem.W.Frag) (L : Lk) (G1 : Hp) (J : It) (n : Nat) (S : Cs → Prop) (ys : Nat → Sl → Prop) : Prop where
  stop : ∀ M' G' H, S M' → Ex G1 G' → GoodM K L M' G' H → J.stop n H
  go : ∀ i M' G' H, i < n → S M' → Ex G1 G' → GoodM K L M' G' H → J.go i H ∧ ∀ x H', J.yld i H x H' → ∃ y G'', ys i y ∧ Ex G' G'' ∧ GoodM K L M' G'' H' ∧ SlAt K G'' x y
abbrev QI := Nat → (Cs → Prop) → (Nat → Sl → Prop) → Cs → Prop
def DI (X : Cx) (L : Lk) (tg iter : Expr) (τ : List (Option Sl)) (M : Cs) (Q : QI) : Prop := ∀ σ G H R, GoodS X.K G σ τ → GoodM X.K L M G H → (∀ n S ys M1 G1 H1 J, Q n S ys M1 → Ex G G1 → GoodM X.K L M1 G1 H1 → ItOk X.K L G1 J n S ys → R J H1) → sI X tg iter σ H R
def iSeq (K : PySem.W.Frag) (tl : TE) : TI := fun σ H R => tl σ H fun x H1 => ∃ a, x = .ref a ∧ (((∃ xs, SqL K H1 a xs) ∧ R (Itl K a) H1) ∨ ((∃ xs, SqT K H1 a xs) ∧ R (Itt K a) H1))
section
variable {X : Cx} {L : Lk} {τ : List (Option Sl)} {M : Cs} {Q : Sl → Cs → Prop} {QB : Bool → Cs → Prop} {QA : List Sl → Cs → Prop} {e a b c tg iter : Expr} {es : List Expr} {pos : Pos} {E : Ks} {st : Stmt} {sts body : List Stmt} {p p2 : Pos} {x y : Sl} {QJ : QI}
theorem pi_seq {l : Expr} {tl : TE} (hl : PE X l tl) : PI X tg l (iSeq X.K tl) := by
  refine ⟨fun pins s σ H R I h => ?_⟩
  refine thn (hl.run pins s σ H _ I h) fun v s1 ⟨x, H1, I1, r1, q1⟩ => ?_
  obtain ⟨a, e, q⟩ := q1
  subst e
  cases r1
  have fp : ∀ {o : Obj}, ∀ b ∈ [s1.heap.objs.size], FpOk X pins H1 b := fun {o} b hb => by
    have e : b = s1.heap.objs.size := by simpa using hb
    subst e
    exact I1.fpOk (Nat.le_refl _) (I1.hok.fresh (Nat.le_refl _))
  rcases q with ⟨⟨xs, hq⟩, q⟩ | ⟨⟨xs, hq⟩, q⟩
  · obtain ⟨its, rv, p, hz⟩ := I1.list hq
    refine wpAny_pyIter_list p.isList ?_
    exact ⟨s1.heap.objs.size, [s1.heap.objs.size], _, _, H1, rfl, I1.kept (t' := s1.toks) fun b o e => Heap.get?_push_of_some _ e, turn_list a _, ⟨_, Heap.get?_push_size _ rfl, rfl, rfl⟩, fp (o := default), q⟩
  · obtain ⟨its, rv, p, hz⟩ := I1.tuple hq
    refine wpAny_pyIter_tuple (show s1.heap.IsTuple a its.toArray from p) ?_
    exact ⟨s1.heap.objs.size, [s1.heap.objs.size], _, _, H1, rfl, I1.kept (t' := s1.toks) fun b o e => Heap.get?_push_of_some _ e, turn_tuple a _, ⟨_, Heap.get?_push_size _ rfl, rfl, rfl⟩, fp (o := default), q⟩
theorem di_seq (w : DE X L iter τ M fun s M1 => ∃ ss, seqOf M1 s = some ss ∧ QJ ss.length (fun M' => seqOf M' s = some ss) (fun i y => ss[i]? = some y) M1) : DI X L tg iter τ M QJ := fun σ G H R gs gm k => by
    refine i_of (pi_seq pe_s) ?_
    show sE X iter σ H (fun x H1 => ∃ a, x = .ref a ∧ (((∃ xs, SqL X.K H1 a xs) ∧ R (Itl X.K a) H1) ∨ ((∃ xs, SqT X.K H1 a xs) ∧ R (Itt X.K a) H1)))
    refine w σ G H _ gs gm ?_
    rintro s M1 v G1 H1 ⟨ss, hs, q⟩ e1 g1 a1
    obtain ⟨p, xs, rfl, r, l⟩ := seq_at g1 a1 hs
    refine ⟨p, rfl, ?_⟩
    cases hT : isTup s with
    | false =>
      rw [hT, if_neg Bool.false_ne_true] at r
      refine .inl ⟨⟨xs, r⟩, k _ _ _ M1 G1 H1 _ q e1 g1 ⟨fun M' G' H' sM e' g' => ?_, fun i M' G' H' hi sM e' g' => ?_⟩⟩
      · obtain ⟨p', xs', ep, r', l'⟩ := seq_at g' (a1.mono e') sM
        cases ep
        rw [hT, if_neg Bool.false_ne_true] at r'
        exact ⟨xs', r', Nat.le_of_eq l'.len⟩
      · obtain ⟨p', xs', ep, r', l'⟩ := seq_at g' (a1.mono e') sM
        cases ep
        rw [hT, if_neg Bool.false_ne_true] at r'
        obtain ⟨v, hv, av⟩ := l'.get (List.getElem?_eq_getElem hi)
        refine ⟨⟨xs', v, r', hv⟩, fun x H2 hy => ?_⟩
        obtain ⟨rfl, f⟩ := hy
        have ex := Option.some.inj ((f _ r').symm.trans hv)
        subst ex
        exact ⟨_, G', List.getElem?_eq_getElem hi, Ex.refl _, g', av⟩
    | true =>
      rw [hT, if_pos rfl] at r
      refine .inr ⟨⟨xs, r⟩, k _ _ _ M1 G1 H1 _ q e1 g1 ⟨fun M' G' H' sM e' g' => ?_, fun i M' G' H' hi sM e' g' => ?_⟩⟩
      · obtain ⟨p', xs', ep, r', l'⟩ := seq_at g' (a1.mono e') sM
        cases ep
        rw [hT, if_pos rfl] at r'
        exact ⟨xs', r', Nat.le_of_eq l'.len⟩
      · obtain ⟨p', xs', ep, r', l'⟩ := seq_at g' (a1.mono e') sM
        cases ep
        rw [hT, if_pos rfl] at r'
        obtain ⟨v, hv, av⟩ := l'.get (List.getElem?_eq_getElem hi)
        refine ⟨⟨xs', v, r', hv⟩, fun x H2 hy => ?_⟩
        obtain ⟨rfl, f⟩ := hy
        have ex := Option.some.inj ((f _ r').symm.trans hv)
        subst ex
        exact ⟨_, G', List.getElem?_eq_getElem hi, Ex.refl _, g', av⟩
theorem itr_ok {K : PySem.W.Frag} {L : Lk} {G1 : Hp} {lo : Int} {n : Nat} : ItOk K L G1 (Itr lo n) n (fun _ => True) (fun i y => y = dI (lo + i)) :=
  ⟨fun M' G' H _ _ _ => Nat.le_refl _, fun i M' G' H hi _ _ g' => ⟨hi, fun x H' ⟨e1, e2⟩ => by
    subst e1 e2
    exact ⟨_, G', rfl, Ex.refl _, g', .d (.int _)⟩⟩⟩
theorem di_range1 (hg : Gl X "range") (hm : X.mg "range" = none) (w : DE X L a τ M fun s M1 => ∃ j : Int, s = dI j ∧ -(2 ^ 62) ≤ j ∧ j < 2 ^ 62 ∧ QJ j.toNat (fun _ => True) (fun i y => y = dI i) M1)
    (hs : starEach [a] X.env = [(false, eval a X.env)] := by rfl) (hs0 : starEach (a :: []) X.env = (false, eval a X.env) :: starEach [] X.env := by rfl) : DI X L tg (.Call (.Name "range" p) [a] [] pos) τ M QJ := fun σ G H R gs gm k => by
    refine i_of (pi_range1 hg hm (pa_cons pe_s pa_nil hs0) hs) ?_
    show sE X a σ H (fun x H1 => ∃ j : Int, [x] = [V.int j] ∧ -(2 ^ 62) ≤ j ∧ j < 2 ^ 62 ∧ R (Itr 0 j.toNat) H1)
    refine w σ G H _ gs gm ?_
    rintro s M1 v G1 H1 ⟨j, es, h1, h2, q⟩ e1 g1 a1
    subst es
    refine ⟨j, by rw [sl_int a1], h1, h2, k _ _ _ M1 G1 H1 _ q e1 g1 ?_⟩
    have z := itr_ok (K := X.K) (L := L) (G1 := G1) (lo := 0) (n := j.toNat)
    simpa using z
theorem di_range2 (hg : Gl X "range") (hm : X.mg "range" = none) (w : DE X L a τ M fun s M1 => DE X L b τ M1 fun t M2 => ∃ i j : Int, s = dI i ∧ t = dI j ∧ (-(2 ^ 62) ≤ i ∧ i < 2 ^ 62 ∧ -(2 ^ 62) ≤ j ∧ j < 2 ^ 62) ∧ QJ (j - i).toNat (fun _ => True) (fun n y => y = dI (i + n)) M2)
    (hs : starEach [a, b] X.env = [(false, eval a X.env), (false, eval b X.env)] := by rfl) (hs2 : starEach [b] X.env = [(false, eval b X.env)] := by rfl) (hs0 : starEach (a :: [b]) X.env = (false, eval a X.env) :: starEach [b] X.env := by rfl) (hs1 : starEach (b :: []) X.env = (false, eval b X.env) :: starEach [] X.env := by rfl) :
    DI X L tg (.Call (.Name "range" p) [a, b] [] pos) τ M QJ := fun σ G H R gs gm k => by
    refine i_of (pi_range2 hg hm (pa_cons pe_s (pa_cons pe_s pa_nil hs1) hs0) hs hs2) ?_
    show sE X a σ H (fun x H1 => sE X b σ H1 fun y H2 => ∃ i j : Int, [x, y] = [V.int i, V.int j] ∧ (-(2 ^ 62) ≤ i ∧ i < 2 ^ 62 ∧ -(2 ^ 62) ≤ j ∧ j < 2 ^ 62) ∧ R (Itr i (j - i).toNat) H2)
    refine w σ G H _ gs gm fun s M1 v G1 H1 q e1 g1 a1 => q σ G1 H1 _ (gs.mono e1) g1 ?_
    rintro t M2 u G2 H2 ⟨i, j, es, et, hb, q1⟩ e2 g2 a2
    subst es et
    exact ⟨i, j, by rw [sl_int a1, sl_int a2], hb, k _ _ _ M2 G2 H2 _ q1 (e1.trans e2) g2 itr_ok⟩
/-! ### for, while -/
theorem ds_for (hp : PassesOwn (model X.prog X.w) X.A X.env X.xe) (hc : X.calm = true) (w : DI X L tg iter τ M fun n S ys M1 => ∃ Iv : Nat → List (Option Sl) → Cs → Prop, Iv 0 τ M1 ∧ (∀ i τ' M', Iv i τ' M' → S M') ∧
      (∀ i y τ' M', i < n → ys i y → Iv i τ' M' → DG X L tg y τ' M' fun τ2 M2 => DB X L body τ2 M2 { E with nx := Iv (i + 1), ct := Iv (i + 1), bk := E.nx }) ∧ (∀ τ' M', Iv n τ' M' → E.nx τ' M'))
    (hs : ∀ x, foldedSetIterable iter X.env x = pure x := by intro _; rfl) : DS X L (.For tg iter body [] pos) τ M E :=
  ds_of (ps_for hp hc pi_s pg_s pss_s hs) fun σ G H D gs gm k => w σ G H _ gs gm fun n S ys M1 G1 H1 J ⟨Iv, i0, st, turn, fin⟩ e1 g1 ok => by
    refine ⟨fun i m σ' H' => m = n - i ∧ i ≤ n ∧ ∃ τ' M' G', Iv i τ' M' ∧ Ex G1 G' ∧ GoodS X.K G' σ' τ' ∧ GoodM X.K L M' G' H', ⟨n, by simp, Nat.zero_le _, τ, M1, G1, i0, Ex.refl _, gs.mono e1, g1⟩, ?_⟩
    rintro i m σ' H' ⟨rfl, hi, τ', M', G', iv, e', s', g'⟩
    by_cases hlt : i < n
    · obtain ⟨go, yl⟩ := ok.go i M' G' H' hlt (st _ _ _ iv) e' g'
      refine .inr ⟨go, fun σ2 H2 => ∃ τ2 M2 G2, Iv (i + 1) τ2 M2 ∧ Ex G1 G2 ∧ GoodS X.K G2 σ2 τ2 ∧ GoodM X.K L M2 G2 H2, fun σ2 H2 ⟨τ2, M2, G2, h⟩ => ⟨n - (i + 1), by omega, rfl, hlt, τ2, M2, G2, h⟩, fun x H2 hy => ?_⟩
      obtain ⟨y, G2, yy, e2, g2, ay⟩ := yl x H2 hy
      have e12 := e'.trans e2
      refine turn i y τ' M' hlt yy iv σ' G2 H2 x _ (s'.mono e2) g2 ay fun τ3 M3 σ3 G3 H3 q3 e3 g3 s3 => ?_
      have e13 := e12.trans e3
      exact q3 σ3 G3 H3 _ s3 g3 ⟨fun τ4 M4 σ4 G4 H4 q4 e4 g4 s4 => ⟨τ4, M4, G4, q4, e13.trans e4, s4, g4⟩, k.rt.mono (e1.trans e13), k.nx.mono (e1.trans e13), fun τ4 M4 σ4 G4 H4 q4 e4 g4 s4 => ⟨τ4, M4, G4, q4, e13.trans e4, s4, g4⟩⟩
    · have e : i = n := by omega
      subst e
      exact .inl ⟨ok.stop M' G' H' (st _ _ _ iv) e' g', k.nx τ' M' σ' G' H' (fin _ _ iv) (e1.trans e') g' s'⟩
theorem ds_while (hp : PassesOwn (model X.prog X.w) X.A X.env X.xe) (Iv : Nat → List (Option Sl) → Cs → Prop) (n : Nat) (i0 : Iv n τ M)
    (turn : ∀ m τ' M', Iv m τ' M' → DT X L c τ' M' fun d M1 => (d = true → DB X L body τ' M1 { E with nx := fun τ2 M2 => ∃ m', m' < m ∧ Iv m' τ2 M2, ct := fun τ2 M2 => ∃ m', m' < m ∧ Iv m' τ2 M2, bk := E.nx }) ∧ (d = false → E.nx τ' M1)) : DS X L (.While c body [] pos) τ M E :=
  ds_of (ps_while hp pt_s pss_s) fun σ G H D gs gm k => by
    refine ⟨fun m σ' H' => ∃ τ' M' G', Iv m τ' M' ∧ Ex G G' ∧ GoodS X.K G' σ' τ' ∧ GoodM X.K L M' G' H', ⟨n, τ, M, G, i0, Ex.refl _, gs, gm⟩, ?_⟩
    rintro m σ' H' ⟨τ', M', G', iv, e', s', g'⟩
    refine turn m τ' M' iv σ' G' H' _ s' g' fun d M1 G1 H1 q e1 g1 => ?_
    have e01 := e'.trans e1
    cases d with
    | true =>
      rw [if_pos rfl]
      refine ⟨fun σ2 H2 => ∃ m', m' < m ∧ ∃ τ2 M2 G2, Iv m' τ2 M2 ∧ Ex G G2 ∧ GoodS X.K G2 σ2 τ2 ∧ GoodM X.K L M2 G2 H2, fun σ2 H2 ⟨m', hm, h⟩ => ⟨m', hm, h⟩, ?_⟩
      exact q.1 rfl σ' G1 H1 _ (s'.mono e1) g1 ⟨fun τ4 M4 σ4 G4 H4 ⟨m', hm, q4⟩ e4 g4 s4 => ⟨m', hm, τ4, M4, G4, q4, e01.trans e4, s4, g4⟩, k.rt.mono e01, k.nx.mono e01, fun τ4 M4 σ4 G4 H4 ⟨m', hm, q4⟩ e4 g4 s4 => ⟨m', hm, τ4, M4, G4, q4, e01.trans e4, s4, g4⟩⟩
    | false =>
      rw [if_neg Bool.false_ne_true]
      exact k.nx τ' M1 σ' G1 H1 (q.2 rfl) e01 g1 (s'.mono e1)
end
/-! ### comprehensions -/
def wipeK (τ : List (Option Sl)) : List Nat → List (Option Sl)
  | [] => τ
  | v :: vs => (wipeK τ vs).set v none
theorem GoodS.drop {K : PySem.W.Frag} {G : Hp} {σ : L2.St} {τ : List (Option Sl)} (g : GoodS K G σ τ) (i : Nat) : GoodS K G (σ.set i none) (τ.set i none) := ⟨by rw [List.length_set, List.length_set, g.len], fun j t h => by
  by_cases e : i = j
  · subst e
    by_cases hl : i < τ.length
    · rw [List.getElem?_set_self hl] at h
      cases h
    · rw [List.getElem?_eq_none (by rw [List.length_set]; omega)] at h
      cases h
  · rw [List.getElem?_set_ne e] at h
    obtain ⟨w, h1, h2⟩ := g.get j t h
    exact ⟨w, by rw [List.getElem?_set_ne e]; exact h1, h2⟩⟩
theorem GoodS.wipe {K : PySem.W.Frag} {G : Hp} {σ : L2.St} {τ : List (Option Sl)} (g : GoodS K G σ τ) : ∀ vs : List Nat, GoodS K G (L2.wipe σ vs) (wipeK τ vs)
  | [] => g
  | v :: vs => (GoodS.wipe g vs).drop v
theorem wipe_get {σ : L2.St} {i : Nat} : ∀ {vs : List Nat}, (L2.wipe σ vs)[i]? = if i ∈ vs then (σ[i]?.map fun _ => none) else σ[i]?
  | [] => by simp [L2.wipe]
  | v :: vs => by
    unfold L2.wipe
    rw [List.getElem?_set, wipe_get (vs := vs), wipe_length]
    by_cases hv : v = i
    · subst hv
      by_cases hl : v < σ.length
      · simp [hl]
      · simp [hl]
    · have hv' : ¬ i = v := fun z => hv z.symm
      simp [hv, hv']
theorem wipe_set {σ : L2.St} {i : Nat} {o : Option V} {vs : List Nat} (h : i ∈ vs) : L2.wipe (σ.set i o) vs = L2.wipe σ vs := by
  apply List.ext_getElem?
  intro j
  rw [wipe_get, wipe_get]
  by_cases hj : j ∈ vs
  · rw [if_pos hj, if_pos hj, List.getElem?_set]
    by_cases e : i = j
    · subst e
      by_cases hl : i < σ.length <;> simp [hl]
    · simp [e]
  · rw [if_neg hj, if_neg hj, List.getElem?_set_ne (fun e : i = j => hj (by rw [← e]; exact h))]
theorem wipe_wipe {σ : L2.St} {vs : List Nat} : L2.wipe (L2.wipe σ vs) vs = L2.wipe σ vs := by
  apply List.ext_getElem?
  intro j
  rw [wipe_get, wipe_get]
  by_cases hj : j ∈ vs
  · rw [if_pos hj, if_pos hj]
    cases σ[j]? <;> rfl
  · rw [if_neg hj, if_neg hj]
section
variable (K : PySem.W.Frag) (L : Lk) (vs : List Nat)
def WGw (g : TG) (s : Sl) (τ : List (Option Sl)) (M : Cs) (Q : List (Option Sl) → Cs → Prop) : Prop := ∀ σ G H v Q', GoodS K G σ τ → GoodM K L M G H → SlAt K G v s → (∀ τ' M' σ' G' H', Q τ' M' → Ex G G' → GoodM K L M' G' H' → GoodS K G' σ' τ' → L2.wipe σ' vs = L2.wipe σ vs → Q' σ' H') → g v σ H Q'
def WGws (g : TGs) (ss : List Sl) (τ : List (Option Sl)) (M : Cs) (Q : List (Option Sl) → Cs → Prop) : Prop := ∀ σ G H v Q', GoodS K G σ τ → GoodM K L M G H → SlL K G v ss → (∀ τ' M' σ' G' H', Q τ' M' → Ex G G' → GoodM K L M' G' H' → GoodS K G' σ' τ' → L2.wipe σ' vs = L2.wipe σ vs → Q' σ' H') → g v σ H Q'
end
section
variable {K : PySem.W.Frag} {L : Lk} {vs : List Nat} {τ : List (Option Sl)} {M : Cs} {QG : List (Option Sl) → Cs → Prop} {s : Sl} {ss : List Sl} {i : Nat}
theorem wgw_name (hi : i ∈ vs) (q : QG (τ.set i (some s)) M) : WGw K L vs (gName i) s τ M QG := fun σ G H v Q' gs gm a k => k _ M _ G H q (Ex.refl G) gm (gs.set a i) (wipe_set hi)
theorem wgws_nil (q : QG τ M) : WGws K L vs gNil [] τ M QG := fun σ G H v Q' gs gm a k => by
  cases a
  exact ⟨rfl, k τ M σ G H q (Ex.refl G) gm gs rfl⟩
theorem wgws_cons {t : TG} {u : TGs} (w : WGw K L vs t s τ M fun τ1 M1 => WGws K L vs u ss τ1 M1 QG) : WGws K L vs (gCons t u) (s :: ss) τ M QG := fun σ G H v Q' gs gm a k => by
  cases a with
  | cons a b => exact ⟨_, _, rfl, w σ G H _ _ gs gm a fun τ1 M1 σ1 G1 H1 q e1 g1 s1 z1 => q σ1 G1 H1 _ Q' s1 g1 (b.mono e1) fun τ2 M2 σ2 G2 H2 q2 e2 g2 s2 z2 => k τ2 M2 σ2 G2 H2 q2 (e1.trans e2) g2 s2 (z2.trans z1)⟩
theorem wgw_tup {n : Nat} {t : TGs} (hT : isTup s = true) (h : seqOf M s = some ss) (hn : ss.length = n) (w : WGws K L vs t ss τ M QG) : WGw K L vs (gTup K n t) s τ M QG := fun σ G H v Q' gs gm a k => by
  obtain ⟨p, xs, rfl, r, l⟩ := seq_at gm a h
  rw [hT, if_pos rfl] at r
  exact ⟨p, xs, rfl, r, by rw [l.len]; exact hn, w σ G H xs Q' gs gm l k⟩
end
section
variable (X : Cx) (scope : Scope)
/-- in every block of this scope -/
def bE (e : Expr) : TE := fun σ H Q => ∀ (s0 : Shared) (H0 : Hp) (C : Addr) (cl : List (Str × Addr)) (fp : List Addr), sE (X.blk s0 H0 scope (compEnvC scope cl C X.env) fp) e σ H Q
def bT (e : Expr) : TT := fun σ H Q => ∀ (s0 : Shared) (H0 : Hp) (C : Addr) (cl : List (Str × Addr)) (fp : List Addr), sT (X.blk s0 H0 scope (compEnvC scope cl C X.env) fp) e σ H Q
def DEb (L : Lk) (e : Expr) (τ : List (Option Sl)) (M : Cs) (Q : Sl → Cs → Prop) : Prop := ∀ (s0 : Shared) (H0 : Hp) (C : Addr) (cl : List (Str × Addr)) (fp : List Addr), DE (X.blk s0 H0 scope (compEnvC scope cl C X.env) fp) L e τ M Q
def DTb (L : Lk) (e : Expr) (τ : List (Option Sl)) (M : Cs) (Q : Bool → Cs → Prop) : Prop := ∀ (s0 : Shared) (H0 : Hp) (C : Addr) (cl : List (Str × Addr)) (fp : List Addr), DT (X.blk s0 H0 scope (compEnvC scope cl C X.env) fp) L e τ M Q
end
section
variable {X : Cx} {L : Lk} {τ : List (Option Sl)} {M : Cs} {Q : Sl → Cs → Prop} {elt kx vx tg iter c : Expr} {scope : Scope} {own : List (Str × Nat)} {pos : Pos} {g : TG}
theorem web {e : Expr} (h : DEb X scope L e τ M Q) : WE X.K L (bE X scope e) τ M Q := fun σ G H Q' gs gm k s0 H0 C cl fp => h s0 H0 C cl fp σ G H Q' gs gm k
theorem wtb {e : Expr} {QB : Bool → Cs → Prop} (h : DTb X scope L e τ M QB) : WT X.K L (bT X scope e) τ M QB := fun σ G H Q' gs gm k s0 H0 C cl fp => h s0 H0 C cl fp σ G H Q' gs gm k
theorem we_lc {tt : TT} {te : TE} {vs : List Nat} (w : DI X L tg iter τ M fun n S ys M1 => ∀ D, M1 D = none → ∃ Iv : Nat → Cs → Prop, Iv 0 (updC M1 D (.l [])) ∧ (∀ i M', Iv i M' → S M') ∧
      (∀ i y M', i < n → ys i y → Iv i M' → WGw X.K L vs g y (wipeK τ vs) M' fun τ2 M2 => WT X.K L tt τ2 M2 fun d M3 => (d = true → WE X.K L te τ2 M3 fun z M4 => ∃ acc, M4 D = some (.l acc) ∧ acc.length < sizeLine ∧ Iv (i + 1) (updC M4 D (.l (acc ++ [z])))) ∧ (d = false → Iv (i + 1) M3)) ∧ (∀ M', Iv n M' → Q (.c D) M')) :
    WE X.K L (tLc (sI X tg iter) g tt te vs) τ M Q := fun σ G H Q' gs gm k => w σ G H _ gs gm fun n S ys M1 G1 H1 J q e1 g1 ok D hD => by
  obtain ⟨Iv, i0, st, turn, fin⟩ := q D (g1.free hD).2
  refine ⟨fun i m H' => m = n - i ∧ i ≤ n ∧ ∃ M' G', Iv i M' ∧ Ex G1 G' ∧ GoodM X.K L M' G' H', ⟨n, by simp, Nat.zero_le _, _, G1, i0, Ex.refl _, g1.newC hD ⟨[], upd_same, .nil⟩⟩, ?_⟩
  rintro i m H' ⟨rfl, hi, M', G', iv, e', g'⟩
  by_cases hlt : i < n
  · obtain ⟨go, yl⟩ := ok.go i M' G' H' hlt (st _ _ iv) e' g'
    refine .inr ⟨go, fun H2 => ∃ M2 G2, Iv (i + 1) M2 ∧ Ex G1 G2 ∧ GoodM X.K L M2 G2 H2, fun H2 ⟨M2, G2, h⟩ => ⟨n - (i + 1), by omega, rfl, hlt, M2, G2, h⟩, fun x H2 hy => ?_⟩
    obtain ⟨y, G2, yy, e2, g2, ay⟩ := yl x H2 hy
    have e12 := e'.trans e2
    refine turn i y M' hlt yy iv _ G2 H2 x _ ((gs.mono (e1.trans e12)).wipe vs) g2 ay fun τ3 M3 σ3 G3 H3 q3 e3 g3 s3 z3 => ?_
    refine ⟨z3.trans wipe_wipe, ?_⟩
    have e13 := e12.trans e3
    refine q3 σ3 G3 H3 _ s3 g3 fun d M4 G4 H4 q4 e4 g4 => ?_
    cases d with
    | true =>
      rw [if_pos rfl]
      refine q4.1 rfl σ3 G4 H4 _ (s3.mono e4) g4 fun z M5 v G5 H5 ⟨acc, hacc, hl, iv5⟩ e5 g5 a5 => ?_
      obtain ⟨f5, xs, h1, h2⟩ := g5.cell D _ hacc
      refine ⟨xs, h1, by rw [h2.len]; exact hl, _, G5, iv5, (e13.trans e4).trans e5, ?_⟩
      exact g5.write hacc h1 (fun _ _ z => nomatch z) ⟨_, upd_same, h2.append (.cons a5 .nil)⟩
    | false =>
      rw [if_neg Bool.false_ne_true]
      exact ⟨M4, G4, q4.2 rfl, e13.trans e4, g4⟩
  · have e : i = n := by omega
    subst e
    exact .inl ⟨ok.stop M' G' H' (st _ _ iv) e' g', k _ M' _ G' H' (fin _ iv) (e1.trans e') g' (.c D)⟩
/-- [elt for tg in iter] -/
theorem de_lc0 (hc : X.calm = true) (hN : X.N.Nodup) (ok : BlkOk X.N X.env.scope scope own) (hg : ∀ (s : Shared) (H : Hp) (C : Addr) (cl : List (Str × Addr)) (fp : List Addr), PG (X.blk s H scope (compEnvC scope cl C X.env) fp) tg g)
    (w : DI X L tg iter τ M fun n S ys M1 => ∀ D, M1 D = none → ∃ Iv : Nat → Cs → Prop, Iv 0 (updC M1 D (.l [])) ∧ (∀ i M', Iv i M' → S M') ∧
      (∀ i y M', i < n → ys i y → Iv i M' → WGw X.K L (own.map (·.2)) g y (wipeK τ (own.map (·.2))) M' fun τ2 M3 => DEb X scope L elt τ2 M3 fun z M4 => ∃ acc, M4 D = some (.l acc) ∧ acc.length < sizeLine ∧ Iv (i + 1) (updC M4 D (.l (acc ++ [z])))) ∧ (∀ M', Iv n M' → Q (.c D) M'))
    (hs : ∀ x, foldedSetIterable iter X.env x = pure x := by intro _; rfl) : DE X L (.ListComp elt [⟨tg, iter, [], 0⟩] scope pos) τ M Q :=
  de_of (pe_lc (te := bE X scope elt) hc hN pi_s ok hg (fun _ _ _ _ _ => pts_nil) (fun s H C cl fp => ⟨fun pins s' σ H' Q' I h => h s H C cl fp pins s' I⟩) hs) (we_lc fun σ G H R gs gm k => w σ G H R gs gm fun n S ys M1 G1 H1 J q e1 g1 ok => k n S ys M1 G1 H1 J (fun D hD => by
    obtain ⟨Iv, i0, st, turn, fin⟩ := q D hD
    refine ⟨Iv, i0, st, fun i y M' hi yy iv => ?_, fin⟩
    intro σ G H v Q' gs gm a k
    refine turn i y M' hi yy iv σ G H v Q' gs gm a fun τ' M' σ' G' H' h => k τ' M' σ' G' H' ?_
    exact fun σ G H Q' gs gm k => k.go (b := true) ⟨fun _ => web h, fun z => nomatch z⟩ gm) e1 g1 ok)
/-- [elt for tg in iter if c] -/
theorem de_lc1 (hc : X.calm = true) (hN : X.N.Nodup) (ok : BlkOk X.N X.env.scope scope own) (hg : ∀ (s : Shared) (H : Hp) (C : Addr) (cl : List (Str × Addr)) (fp : List Addr), PG (X.blk s H scope (compEnvC scope cl C X.env) fp) tg g)
    (w : DI X L tg iter τ M fun n S ys M1 => ∀ D, M1 D = none → ∃ Iv : Nat → Cs → Prop, Iv 0 (updC M1 D (.l [])) ∧ (∀ i M', Iv i M' → S M') ∧
      (∀ i y M', i < n → ys i y → Iv i M' → WGw X.K L (own.map (·.2)) g y (wipeK τ (own.map (·.2))) M' fun τ2 M3 => DTb X scope L c τ2 M3 fun d M3 => (d = true → DEb X scope L elt τ2 M3 fun z M4 => ∃ acc, M4 D = some (.l acc) ∧ acc.length < sizeLine ∧ Iv (i + 1) (updC M4 D (.l (acc ++ [z])))) ∧ (d = false → Iv (i + 1) M3)) ∧ (∀ M', Iv n M' → Q (.c D) M'))
    (hs : ∀ x, foldedSetIterable iter X.env x = pure x := by intro _; rfl) : DE X L (.ListComp elt [⟨tg, iter, [c], 0⟩] scope pos) τ M Q :=
  de_of (pe_lc (te := bE X scope elt) (tt := bT X scope c) hc hN pi_s ok hg (fun s H C cl fp => pts_one ⟨fun pins s' σ H' Q' I h => h s H C cl fp pins s' I⟩) (fun s H C cl fp => ⟨fun pins s' σ H' Q' I h => h s H C cl fp pins s' I⟩) hs) (we_lc fun σ G H R gs gm k => w σ G H R gs gm fun n S ys M1 G1 H1 J q e1 g1 ok => k n S ys M1 G1 H1 J (fun D hD => by
    obtain ⟨Iv, i0, st, turn, fin⟩ := q D hD
    refine ⟨Iv, i0, st, fun i y M' hi yy iv => ?_, fin⟩
    intro σ G H v Q' gs gm a k
    refine turn i y M' hi yy iv σ G H v Q' gs gm a fun τ' M' σ' G' H' h => k τ' M' σ' G' H' ?_
    intro σ G H Q' gs gm k
    exact wtb h σ G H Q' gs gm fun d M5 G5 H5 q5 => k d M5 G5 H5 ⟨fun z => web (q5.1 z), q5.2⟩) e1 g1 ok)
end
end Y

namespace Y
open PySem L2 PyProof.Rows

/-! ### comparisons -/
def isNone : Sl → Bool
  | .d .none => true
  | _ => false
section
variable {K : PySem.W.Frag} {L : Lk} {M : Cs} {Q : Sl → Cs → Prop} {G H : Hp} {v : V} {s x : Sl}
theorem sl_isN (a : SlAt K G v s) : decide (v = .non) = isNone s := by
  cases a with
  | d a => cases a <;> rfl
  | c p => rfl
  | t n => rfl
  | u h l => rfl
  | s h => rfl
theorem k_isN (q : Q (.d (.bool (isNone x))) M) : R2k K L (fun x y H Q => y = .non ∧ Q (.bl (decide (x = .non))) H) x (.d .none) M Q := fun G H v u Q' g a1 a2 k => ⟨sl_non a2, by rw [sl_isN a1]; exact k.go q g (.d (.bl _))⟩
theorem k_notN (q : Q (.d (.bool (!isNone x))) M) : R2k K L (fun x y H Q => y = .non ∧ Q (.bl (!decide (x = .non))) H) x (.d .none) M Q := fun G H v u Q' g a1 a2 k => ⟨sl_non a2, by rw [sl_isN a1]; exact k.go q g (.d (.bl _))⟩
theorem k_eqI {i j : Int} (q : Q (.d (.bool (decide (i = j)))) M) : R2k K L rEq (.d (.int i)) (.d (.int j)) M Q := fun G H v u Q' g a1 a2 k => by
  rw [sl_int a1, sl_int a2]
  refine ⟨rfl, ?_⟩
  have e : decide (V.int i = V.int j) = decide (i = j) := by simp
  rw [e]
  exact k.go q g (.d (.bl _))
theorem k_neI {i j : Int} (q : Q (.d (.bool (!decide (i = j)))) M) : R2k K L rNe (.d (.int i)) (.d (.int j)) M Q := fun G H v u Q' g a1 a2 k => by
  rw [sl_int a1, sl_int a2]
  refine ⟨rfl, ?_⟩
  have e : decide (V.int i = V.int j) = decide (i = j) := by simp
  rw [e]
  exact k.go q g (.d (.bl _))
theorem k_eqS {i j : Str} (q : Q (.d (.bool (decide (i = j)))) M) : R2k K L rEq (.d (.str i)) (.d (.str j)) M Q := fun G H v u Q' g a1 a2 k => by
  rw [sl_str a1, sl_str a2]
  refine ⟨rfl, ?_⟩
  have e : decide (V.str i = V.str j) = decide (i = j) := by simp
  rw [e]
  exact k.go q g (.d (.bl _))
theorem k_neS {i j : Str} (q : Q (.d (.bool (!decide (i = j)))) M) : R2k K L rNe (.d (.str i)) (.d (.str j)) M Q := fun G H v u Q' g a1 a2 k => by
  rw [sl_str a1, sl_str a2]
  refine ⟨rfl, ?_⟩
  have e : decide (V.str i = V.str j) = decide (i = j) := by simp
  rw [e]
  exact k.go q g (.d (.bl _))
theorem k_eqB {i j : Bool} (q : Q (.d (.bool (decide (i = j)))) M) : R2k K L rEq (.d (.bool i)) (.d (.bool j)) M Q := fun G H v u Q' g a1 a2 k => by
  rw [sl_bl a1, sl_bl a2]
  refine ⟨rfl, ?_⟩
  have e : decide (V.bl i = V.bl j) = decide (i = j) := by simp
  rw [e]
  exact k.go q g (.d (.bl _))
theorem k_neB {i j : Bool} (q : Q (.d (.bool (!decide (i = j)))) M) : R2k K L rNe (.d (.bool i)) (.d (.bool j)) M Q := fun G H v u Q' g a1 a2 k => by
  rw [sl_bl a1, sl_bl a2]
  refine ⟨rfl, ?_⟩
  have e : decide (V.bl i = V.bl j) = decide (i = j) := by simp
  rw [e]
  exact k.go q g (.d (.bl _))
theorem k_isB {i j : Bool} (q : Q (.d (.bool (decide (i = j)))) M) : R2k K L rIsB (.d (.bool i)) (.d (.bool j)) M Q := fun G H v u Q' g a1 a2 k => ⟨i, j, sl_bl a1, sl_bl a2, k.go q g (.d (.bl _))⟩
theorem k_notB {i j : Bool} (q : Q (.d (.bool (!decide (i = j)))) M) : R2k K L rNotB (.d (.bool i)) (.d (.bool j)) M Q := fun G H v u Q' g a1 a2 k => ⟨i, j, sl_bl a1, sl_bl a2, k.go q g (.d (.bl _))⟩
theorem k_neTy {a b : String} (ha : okTy a) (hb : okTy b) (q : Q (.d (.bool (!decide (a = b)))) M) : R2k K L rNeTy (.t a) (.t b) M Q := fun G H v u Q' g a1 a2 k => ⟨a, b, sl_t a1, sl_t a2, ha, hb, k.go q g (.d (.bl _))⟩
theorem tys_sl {xs : List V} : ∀ {ts : List String}, SlL K G xs (ts.map Sl.t) → xs = ts.map V.ty := by
  intro ts
  induction ts generalizing xs with
  | nil => intro h; cases h; rfl
  | cons t r ih =>
    intro h
    cases h with
    | cons a b =>
      rw [ih b, sl_t a]
      rfl
theorem k_niTy {a : String} {ts : List String} (ha : okTy a) (ht : ∀ t ∈ ts, okTy t) (q : Q (.d (.bool (!(ts.any fun t => decide (t = a))))) M) : R2k K L (rInTy true) (.t a) (.u (ts.map .t)) M Q := fun G H v u Q' g a1 a2 k => by
  cases a2 with
  | u e l =>
    have z := tys_sl l
    subst z
    exact ⟨a, _, ts, sl_t a1, rfl, g.rd e, ha, ht, k.go q g (.d (.bl _))⟩
end
/-! ### data, whatever it lies in -/
mutual
inductive IsD (M : Cs) : Sl → PyData → Prop
  | d (x : PyData) : IsD M (.d x) x
  | c {a : Addr} {ss : List Sl} {ds : List PyData} : M a = some (.l ss) → IsDL M ss ds → IsD M (.c a) (.list ds)
  | u {ss : List Sl} {ds : List PyData} : IsDL M ss ds → IsD M (.u ss) (.tuple ds)
inductive IsDL (M : Cs) : List Sl → List PyData → Prop
  | nil : IsDL M [] []
  | cons {s : Sl} {d : PyData} {ss : List Sl} {ds : List PyData} : IsD M s d → IsDL M ss ds → IsDL M (s :: ss) (d :: ds)
end
theorem IsDL.ofD {M : Cs} : ∀ ds : List PyData, IsDL M (ds.map Sl.d) ds
  | [] => .nil
  | d :: r => .cons (.d d) (IsDL.ofD r)
theorem IsD.cell {M : Cs} {a : Addr} {ds : List PyData} (h : M a = some (.l (ds.map .d))) : IsD M (.c a) (.list ds) := .c h (IsDL.ofD ds)
section
variable {K : PySem.W.Frag} {L : Lk} {M : Cs} {G H : Hp}
mutual
theorem At.dp (g : GoodM K L M G H) : ∀ (d : PyData) (v : V), d.canLay0 = true → At K G v d → Dp K H v d
  | .none, _, _, .non => .non
  | .bool _, _, _, .bl b => .bl b
  | .int _, _, _, .int i => .int i
  | .str _, _, _, .str x => .str x
  | .list ds, _, z, .lst e l => .lst (.inl (g.rd e)) (AtL.dp g ds _ z l)
  | .tuple ds, _, z, .tup e l => .tup (.inl (g.rd e)) (AtL.dp g ds _ z l)
  | .dict _, _, z, _ => nomatch z
theorem AtL.dp (g : GoodM K L M G H) : ∀ (ds : List PyData) (vs : List V), PyData.canLayAll0 ds = true → AtL K G vs ds → DpAll K H vs ds
  | [], _, _, .nil => .nil
  | d :: r, _, z, .cons a b => .cons (At.dp g d _ (Bool.and_eq_true_iff.mp z).1 a) (AtL.dp g r _ (Bool.and_eq_true_iff.mp z).2 b)
end
mutual
theorem IsD.dp (g : GoodM K L M G H) : ∀ {s : Sl} {d : PyData} {v : V}, IsD M s d → d.canLay0 = true → SlAt K G v s → Dp K H v d
  | _, _, _, .d x, z, .d a => a.dp g _ _ z
  | _, _, _, .c (a := p) h l, z, b => by
    obtain ⟨_, xs, h1, h2⟩ := g.cell p _ h
    cases b
    exact .lst (SqL.of h1) (IsDL.dp g l z h2)
  | _, _, _, .u l, z, .u e b => .tup (.inl (g.rd e)) (IsDL.dp g l z b)
theorem IsDL.dp (g : GoodM K L M G H) : ∀ {ss : List Sl} {ds : List PyData} {vs : List V}, IsDL M ss ds → PyData.canLayAll0 ds = true → SlL K G vs ss → DpAll K H vs ds
  | _, _, _, .nil, _, .nil => .nil
  | _, _, _, .cons a b, z, .cons p q => .cons (IsD.dp g a (Bool.and_eq_true_iff.mp z).1 p) (IsDL.dp g b (Bool.and_eq_true_iff.mp z).2 q)
end
variable {Q : Sl → Cs → Prop} {x y : Sl} {d e : PyData}
theorem k_eqD (hx : IsD M x d) (hy : IsD M y e) (sx : SeqAt.shaped d = true) (sy : SeqAt.shaped e = true) (q : Q (.d (.bool (PyData.eqv d e))) M) : R2k K L (rEqD K) x y M Q := fun G H v u Q' g a1 a2 k =>
  ⟨d, e, hx.dp g (SeqAt.canLay_of_shaped sx) a1, hy.dp g (SeqAt.canLay_of_shaped sy) a2, sx, sy, k.go q g (.d (.bl _))⟩
theorem k_neD (hx : IsD M x d) (hy : IsD M y e) (sx : SeqAt.shaped d = true) (sy : SeqAt.shaped e = true) (q : Q (.d (.bool (!PyData.eqv d e))) M) : R2k K L (rNeD K) x y M Q := fun G H v u Q' g a1 a2 k =>
  ⟨d, e, hx.dp g (SeqAt.canLay_of_shaped sx) a1, hy.dp g (SeqAt.canLay_of_shaped sy) a2, sx, sy, k.go q g (.d (.bl _))⟩
end
/-! ### truth, classes -/
def truOf (M : Cs) : Sl → Option Bool
  | .d .none => some false
  | .d (.bool b) => some b
  | .d (.int i) => some (i != 0)
  | s => (seqOf M s).map fun ss => !ss.isEmpty
theorem empty_sl {K : PySem.W.Frag} {G : Hp} {xs : List V} {ss : List Sl} (l : SlL K G xs ss) : (!xs.isEmpty) = !ss.isEmpty := by
  cases l <;> rfl
theorem tru_at {K : PySem.W.Frag} {L : Lk} {M : Cs} {G H : Hp} {v : V} {s : Sl} {k : Bool} (g : GoodM K L M G H) (a : SlAt K G v s) (h : truOf M s = some k) : TruV K v H k := by
  have seq : ∀ {s : Sl}, SlAt K G v s → (seqOf M s).map (fun ss => !ss.isEmpty) = some k → TruV K v H k := by
    intro s a h
    cases e : seqOf M s with
    | none => rw [e] at h; cases h
    | some ss =>
      rw [e] at h
      have h' : (!ss.isEmpty) = k := Option.some.inj h
      obtain ⟨p, xs, rfl, r, l⟩ := seq_at' g a e
      rcases r with r | r
      · exact .inl ⟨xs, r, by rw [empty_sl l, h']⟩
      · exact .inr (.inl ⟨xs, r, by rw [empty_sl l, h']⟩)
  cases s with
  | d x =>
    cases x with
    | none => rw [sl_non a]; exact (Option.some.inj h).symm
    | bool b => rw [sl_bl a]; exact (Option.some.inj h).symm
    | int i => rw [sl_int a]; exact (Option.some.inj h).symm
    | str z => exact seq a h
    | list ds => exact seq a h
    | tuple ds => exact seq a h
    | dict ds => exact seq a h
  | c p => exact seq a h
  | t n => exact seq a h
  | u ss => exact seq a h
  | s ns => exact seq a h
def tyName (M : Cs) : Sl → Option String
  | .d .none => some "NoneType"
  | .d (.bool _) => some "bool"
  | .d (.int _) => some "int"
  | .d (.str _) => some "str"
  | .d (.list _) => some "list"
  | .d (.tuple _) => some "tuple"
  | .d (.dict _) => some "dict"
  | .u _ => some "tuple"
  | .c a => match M a with
    | some (.l _) => some "list"
    | some (.k _) => some "dict"
    | none => none
  | _ => none
theorem ty_at {K : PySem.W.Frag} {L : Lk} {M : Cs} {G H : Hp} {v : V} {s : Sl} {n : String} (g : GoodM K L M G H) (a : SlAt K G v s) (h : tyName M s = some n) : TyX K H v (.type n) := by
  cases a with
  | d a =>
    cases a with
    | non => cases h; exact .base .non
    | bl b => cases h; exact .base (.bl b)
    | int i => cases h; exact .base (.int i)
    | str x => cases h; exact .base (.str x)
    | lst e l =>
      cases h
      rcases g.rd e with z | ⟨o, z⟩
      · exact .base (.lst z)
      · exact .base (.frz z)
    | tup e l =>
      cases h
      rcases g.rd e with z | ⟨o, z⟩
      · exact .base (.tup z)
      · exact .fTuple z
    | dic e l =>
      cases h
      rcases g.rd e with z | ⟨o, z⟩
      · exact .base (.dK z)
      · exact .fDict z
  | c p =>
    simp only [tyName] at h
    cases e : M p with
    | none => rw [e] at h; cases h
    | some c =>
      rw [e] at h
      cases c with
      | l ss =>
        cases h
        obtain ⟨_, xs, h1, _⟩ := g.cell p _ e
        exact .base (.lst h1)
      | k ss =>
        cases h
        obtain ⟨_, xs, h1, _⟩ := g.cell p _ e
        exact .base (.dK h1)
  | t n => cases h
  | u e l =>
    cases h
    rcases g.rd e with z | ⟨o, z⟩
    · exact .base (.tup z)
    · exact .fTuple z
  | s e => cases h
/-- type(x): no dict -/
theorem tyB_at {K : PySem.W.Frag} {L : Lk} {M : Cs} {G H : Hp} {v : V} {s : Sl} {n : String} (g : GoodM K L M G H) (a : SlAt K G v s) (h : tyName M s = some n) (hd : ∀ kv, s ≠ .d (.dict kv)) : TyB K H v n := by
  cases a with
  | d a =>
    cases a with
    | non => cases h; exact .non
    | bl b => cases h; exact .bl b
    | int i => cases h; exact .int i
    | str x => cases h; exact .str x
    | lst e l => cases h; exact .lst (.inl (g.rd e))
    | tup e l => cases h; exact .tup (.inl (g.rd e))
    | dic e l => exact absurd rfl (hd _)
  | c p =>
    simp only [tyName] at h
    cases e : M p with
    | none => rw [e] at h; cases h
    | some c =>
      rw [e] at h
      cases c with
      | l ss =>
        cases h
        obtain ⟨_, xs, h1, _⟩ := g.cell p _ e
        exact .lst (SqL.of h1)
      | k ss =>
        cases h
        obtain ⟨_, xs, h1, _⟩ := g.cell p _ e
        exact .dK h1
  | t n => cases h
  | u e l => cases h; exact .tup (.inl (g.rd e))
  | s e => cases h
/-! ### dicts -/
theorem kD_inj {a b : Key} (h : kD a = kD b) : a = b := by
  cases a <;> cases b <;> simp [kD] at h <;> rw [h]
def encK (kd : List (Key × PyData)) : List (PyData × PyData) := kd.map fun p => (kD p.1, p.2)
def slK (kd : List (Key × PyData)) : List (Key × Sl) := kd.map fun p => (p.1, .d p.2)
inductive DictIs (M : Cs) : Sl → List (Key × Sl) → Prop
  | c {a : Addr} {kvs : List (Key × Sl)} : M a = some (.k kvs) → DictIs M (.c a) kvs
  | d (kd : List (Key × PyData)) : DictIs M (.d (.dict (encK kd))) (slK kd)
theorem AtK.kv {K : PySem.W.Frag} {G : Hp} : ∀ (kd : List (Key × PyData)) {xs : List (Key × V)}, AtK K G xs (encK kd) → KvAt K G xs (slK kd)
  | [], [], _ => trivial
  | (k, d) :: r, x :: xs, h => by
    generalize hh : encK ((k, d) :: r) = zs at h
    cases h with
    | cons a b =>
      rw [show encK ((k, d) :: r) = (kD k, d) :: encK r from rfl] at hh
      injection hh with h1 h2
      injection h1 with h3 h4
      subst h2 h4
      exact ⟨kD_inj h3.symm, .d a, AtK.kv r b⟩
theorem KvAt.at {K : PySem.W.Frag} {G : Hp} : ∀ (kd : List (Key × PyData)) {xs : List (Key × V)}, KvAt K G xs (slK kd) → AtK K G xs (encK kd)
  | [], [], _ => .nil
  | (k, d) :: r, (k', v) :: xs, ⟨e, a, b⟩ => by
    have e' : k' = k := e
    subst e'
    cases a with
    | d a => exact .cons a (KvAt.at r b)
def valS (kvs : List (Key × Sl)) (k : Key) : Option Sl := (kvs.find? fun kv => decide (kv.1 = k)).map (·.2)
def putS (kvs : List (Key × Sl)) (k : Key) (v : Sl) : List (Key × Sl) := if (kvs.any fun kv => decide (kv.1 = k)) = true then kvs.map (fun kv => if kv.1 = k then (kv.1, v) else kv) else kvs ++ [(k, v)]
section
variable {K : PySem.W.Frag} {G : Hp}
theorem KvAt.len : ∀ {xs : List (Key × V)} {ys : List (Key × Sl)}, KvAt K G xs ys → xs.length = ys.length
  | [], [], _ => rfl
  | _ :: _, _ :: _, ⟨_, _, h⟩ => by rw [List.length_cons, List.length_cons, KvAt.len h]
  | [], _ :: _, h => h.elim
  | _ :: _, [], h => h.elim
theorem KvAt.keys : ∀ {xs : List (Key × V)} {ys : List (Key × Sl)}, KvAt K G xs ys → xs.map (·.1) = ys.map (·.1)
  | [], [], _ => rfl
  | _ :: _, _ :: _, ⟨e, _, h⟩ => by rw [List.map_cons, List.map_cons, KvAt.keys h, e]
  | [], _ :: _, h => h.elim
  | _ :: _, [], h => h.elim
theorem KvAt.val (k : Key) : ∀ {xs : List (Key × V)} {ys : List (Key × Sl)}, KvAt K G xs ys → match valS ys k with
    | none => valV xs k = none
    | some s => ∃ v, valV xs k = some v ∧ SlAt K G v s
  | [], [], _ => rfl
  | x :: xs, y :: ys, ⟨e, a, h⟩ => by
    have ih := KvAt.val k h
    by_cases hk : y.1 = k
    · have e1 : valS (y :: ys) k = some y.2 := by simp [valS, List.find?_cons, hk]
      rw [e1]
      exact ⟨x.2, valV_pos (e.trans hk), a⟩
    · have e1 : valS (y :: ys) k = valS ys k := by simp [valS, List.find?_cons, hk]
      rw [e1, valV_neg (fun z => hk (e.symm.trans z))]
      exact ih
  | [], _ :: _, h => h.elim
  | _ :: _, [], h => h.elim
theorem KvAt.get : ∀ {xs : List (Key × V)} {ys : List (Key × Sl)} {i : Nat} {k : Key} {s : Sl}, KvAt K G xs ys → ys[i]? = some (k, s) → ∃ v, xs[i]? = some (k, v) ∧ SlAt K G v s
  | [], [], _, _, _, _, h => by simp at h
  | x :: xs, y :: ys, 0, k, s, ⟨e, a, h⟩, z => by
    have z' : y = (k, s) := by simpa using z
    subst z'
    obtain ⟨k', v⟩ := x
    have e' : k' = k := e
    subst e'
    exact ⟨v, rfl, a⟩
  | x :: xs, y :: ys, i + 1, k, s, ⟨e, a, h⟩, z => by
    obtain ⟨v, h1, h2⟩ := KvAt.get (i := i) h (by simpa using z)
    exact ⟨v, by simpa using h1, h2⟩
  | [], _ :: _, _, _, _, h, _ => h.elim
  | _ :: _, [], _, _, _, h, _ => h.elim
theorem KvAt.append {ps : List (Key × V)} {qs : List (Key × Sl)} (b : KvAt K G ps qs) : ∀ {xs : List (Key × V)} {ys : List (Key × Sl)}, KvAt K G xs ys → KvAt K G (xs ++ ps) (ys ++ qs)
  | [], [], _ => b
  | _ :: _, _ :: _, ⟨e, a, h⟩ => ⟨e, a, KvAt.append b h⟩
  | [], _ :: _, h => h.elim
  | _ :: _, [], h => h.elim
theorem KvAt.put {k : Key} {v : V} {s : Sl} (a : SlAt K G v s) {xs : List (Key × V)} {ys : List (Key × Sl)} (h : KvAt K G xs ys) : KvAt K G (putK xs k v) (putS ys k s) := by
  have e1 : (xs.any fun kv => decide (kv.1 = k)) = (ys.any fun kv => decide (kv.1 = k)) := by
    have e := h.keys
    have f : ∀ {α : Type} (l : List (Key × α)), (l.any fun kv => decide (kv.1 = k)) = (l.map (·.1)).any fun z => decide (z = k) := fun l => by
      induction l with
      | nil => rfl
      | cons p r ih => rw [List.any_cons, List.map_cons, List.any_cons, ih]
    rw [f, f, e]
  unfold putK putS
  rw [e1]
  split
  · rename_i hany
    clear e1 hany
    induction xs generalizing ys with
    | nil => cases ys with
      | nil => trivial
      | cons => exact h.elim
    | cons x xs ih => cases ys with
      | nil => exact h.elim
      | cons y ys =>
        obtain ⟨e, b, h'⟩ := h
        rw [List.map_cons, List.map_cons]
        by_cases hk : y.1 = k
        · rw [if_pos hk, if_pos (e.trans hk)]
          exact ⟨e, a, ih h'⟩
        · rw [if_neg hk, if_neg (fun z => hk (e.symm.trans z))]
          exact ⟨e, b, ih h'⟩
  · exact KvAt.append (ps := [(k, v)]) (qs := [(k, s)]) (show k = k ∧ SlAt K G v s ∧ True from ⟨rfl, a, trivial⟩) h
end
theorem dict_at {K : PySem.W.Frag} {L : Lk} {M : Cs} {G H : Hp} {v : V} {s : Sl} {kvs : List (Key × Sl)} (g : GoodM K L M G H) (a : SlAt K G v s) (h : DictIs M s kvs) : ∃ p xs, v = .ref p ∧ Rd H p (.dK xs) ∧ KvAt K G xs kvs := by
  cases h with
  | c e =>
    obtain ⟨_, xs, h1, h2⟩ := g.cell _ _ e
    exact ⟨_, xs, sl_c a, .inl h1, h2⟩
  | d kd =>
    cases a with
    | d a =>
      generalize hh : encK kd = zs at a
      cases a with
      | dic e l =>
        subst hh
        exact ⟨_, _, rfl, g.rd e, AtK.kv kd l⟩
end Y

namespace Y
open PySem L2 PyProof.Rows

section
variable {X : Cx} {L : Lk} {τ : List (Option Sl)} {M : Cs} {Q : Sl → Cs → Prop} {QB : Bool → Cs → Prop} {QG : List (Option Sl) → Cs → Prop} {e a b c o i tg iter : Expr} {es : List Expr} {pos apos cpos pos' : Pos} {E : Ks} {st : Stmt} {sts body : List Stmt} {p p2 : Pos} {x y s : Sl} {QJ : QI} {nm : Str}
theorem dt_tru (w : DE X L e τ M fun s M1 => ∃ k, truOf M1 s = some k ∧ QB k M1) (he : ∀ whole, isTrue e X.env whole = (do let v ← whole; standAt e.pos; holding [v] (truthy v)) := by intro _; rfl) : DT X L e τ M QB :=
  dt_of (pt_truth pe_s he) fun σ G H Q' gs gm k => w σ G H _ gs gm fun s M1 v G1 H1 ⟨d, h, q⟩ e1 g1 a1 => ⟨d, tru_at g1 a1 h, (k.mono e1).go q g1⟩
/-! ### built-ins -/
theorem k_isi {T n : String} {b : Bool} (h : tyName M s = some n) (hb : kitB n T = some b) (q : Q (.d (.bool b)) M) : RCk X.K L (rIsi X.K) [s, .t T] M Q := fun G H vs Q' g a k => by
  obtain ⟨v, u, rfl, a1, a2⟩ := sl2 a
  exact ⟨v, u, .type n, .type T, b, rfl, by rw [sl_t a2]; exact .ty T, ty_at g a1 h, kit_ty hb, k.go q g (.d (.bl _))⟩
theorem k_type {n : String} (h : tyName M s = some n) (hd : ∀ kv, s ≠ .d (.dict kv)) (q : Q (.t n) M) : RCk X.K L (rTyp X.K) [s] M Q := fun G H vs Q' g a k => by
  obtain ⟨v, rfl, a1⟩ := sl1 a
  exact ⟨v, n, rfl, tyB_at g a1 h hd, k.go q g (.t n)⟩
theorem k_intI {i : Int} (q : Q (.d (.int i)) M) : RCk X.K L (fun xs H Q => (∃ i, xs = [.int i] ∧ Q (.int i) H) ∨ ∃ k, xs = [.bl k] ∧ Q (.int (if k then 1 else 0)) H) [.d (.int i)] M Q := fun G H vs Q' g a k => by
  obtain ⟨v, rfl, a1⟩ := sl1 a
  rw [sl_int a1]
  exact .inl ⟨i, rfl, k.go q g (.d (.int _))⟩
theorem k_intB {b : Bool} (q : Q (.d (.int (if b then 1 else 0))) M) : RCk X.K L (fun xs H Q => (∃ i, xs = [.int i] ∧ Q (.int i) H) ∨ ∃ k, xs = [.bl k] ∧ Q (.int (if k then 1 else 0)) H) [.d (.bool b)] M Q := fun G H vs Q' g a k => by
  obtain ⟨v, rfl, a1⟩ := sl1 a
  rw [sl_bl a1]
  exact .inr ⟨b, rfl, k.go q g (.d (.int _))⟩
theorem k_abs {i : Int} (q : Q (.d (.int (if i < 0 then -i else i))) M) : RCk X.K L (fun xs H Q => ∃ i, xs = [.int i] ∧ Q (.int (if i < 0 then -i else i)) H) [.d (.int i)] M Q := fun G H vs Q' g a k => by
  obtain ⟨v, rfl, a1⟩ := sl1 a
  rw [sl_int a1]
  exact ⟨i, rfl, k.go q g (.d (.int _))⟩
theorem ints_at {K : PySem.W.Frag} {G : Hp} {xs : List V} {ns : List Int} (l : SlL K G xs (ns.map dI)) : xs = ns.map V.int := by
  induction ns generalizing xs with
  | nil => cases l; rfl
  | cons n r ih =>
    cases l with
    | cons a b =>
      rw [ih b, sl_int a]
      rfl
theorem bls_at {K : PySem.W.Frag} {G : Hp} {xs : List V} {ns : List Bool} (l : SlL K G xs (ns.map fun b => .d (.bool b))) : xs = ns.map V.bl := by
  induction ns generalizing xs with
  | nil => cases l; rfl
  | cons n r ih =>
    cases l with
    | cons a b =>
      rw [ih b, sl_bl a]
      rfl
theorem k_sum {ns : List Int} (hT : isTup s = false) (h : seqOf M s = some (ns.map dI)) (q : Q (.d (.int ns.sum)) M) : RCk X.K L (rSum X.K) [s] M Q := fun G H vs Q' g a k => by
  obtain ⟨v, rfl, a1⟩ := sl1 a
  obtain ⟨p, xs, rfl, r, l⟩ := seq_at g a1 h
  rw [hT, if_neg Bool.false_ne_true] at r
  rw [ints_at l] at r
  exact ⟨p, ns, rfl, r, k.go q g (.d (.int _))⟩
theorem k_all {ns : List Bool} (hT : isTup s = false) (h : seqOf M s = some (ns.map fun b => .d (.bool b))) (q : Q (.d (.bool (ns.all id))) M) : RCk X.K L (rAll X.K) [s] M Q := fun G H vs Q' g a k => by
  obtain ⟨v, rfl, a1⟩ := sl1 a
  obtain ⟨p, xs, rfl, r, l⟩ := seq_at g a1 h
  rw [hT, if_neg Bool.false_ne_true] at r
  rw [bls_at l] at r
  exact ⟨p, ns, rfl, r, k.go q g (.d (.bl _))⟩
def dS (x : Str) : Sl := .d (.str x)
theorem strs_sl {K : PySem.W.Frag} {G : Hp} : ∀ ys : List Str, SlL K G (ys.map V.str) (ys.map dS)
  | [] => .nil
  | y :: r => .cons (.d (.str y)) (strs_sl r)
/-- sorted(d), the keys texts -/
theorem k_sortedD {kvs : List (Key × Sl)} {ks : List Str} (h : DictIs M s kvs) (hk : kvs.map (·.1) = ks.map Sum.inr) (hl : ks.length < 64) (q : ∀ ys p, ys.Perm ks → sortedS ys = true → M p = none → Q (.c p) (updC M p (.l (ys.map dS)))) :
    RCk X.K L (fun xs H Q => ∃ (a : Addr) (kvs : List (Key × V)) (ks : List Str), xs = [.ref a] ∧ Rd H a (.dK kvs) ∧ kvs.map (·.1) = ks.map Sum.inr ∧ ks.length < 64 ∧ ∀ ys p, ys.Perm ks → sortedS ys = true → H p = none → Q (.ref p) (upd H p (.lst (ys.map V.str)))) [s] M Q := fun G H vs Q' g a k => by
  obtain ⟨v, rfl, a1⟩ := sl1 a
  obtain ⟨p, xs, rfl, r, l⟩ := dict_at g a1 h
  exact ⟨p, xs, ks, rfl, r, l.keys.trans hk, hl, fun ys c h1 h2 hc => k _ _ _ G _ (q ys c h1 h2 (g.free hc).2) (Ex.refl G) (g.newC hc ⟨_, upd_same, strs_sl ys⟩) (.c c)⟩
/-- list(xs) -/
theorem k_list {ss : List Sl} (h : seqOf M s = some ss) (q : ∀ p, M p = none → Q (.c p) (updC M p (.l ss))) : RCk X.K L (fun xs H Q => ∃ p ys, xs = [.ref p] ∧ (SqL X.K H p ys ∨ SqT X.K H p ys) ∧ ∀ l, H l = none → Q (.ref l) (upd H l (.lst ys))) [s] M Q := fun G H vs Q' g a k => by
  obtain ⟨v, rfl, a1⟩ := sl1 a
  obtain ⟨p, xs, rfl, r, l⟩ := seq_at' g a1 h
  exact ⟨p, xs, rfl, r, fun c hc => k _ _ _ G _ (q c (g.free hc).2) (Ex.refl G) (g.newC hc ⟨_, upd_same, l⟩) (.c c)⟩
/-! ### dicts -/
theorem dget_at {K : PySem.W.Frag} {G H : Hp} {v : V} {kvs : List (Key × Sl)} {k : Key} (g : GoodM K L M G H) (a : SlAt K G v s) (h : DictIs M s kvs) : ∃ p o, v = .ref p ∧ L2.IsD H p ∧ DGet H p (kV k) o ∧ match valS kvs k with
    | none => o = none
    | some z => ∃ u, o = some u ∧ SlAt K G u z := by
  obtain ⟨p, xs, rfl, r, l⟩ := dict_at g a h
  refine ⟨p, valV xs k, rfl, .inl ⟨xs, r⟩, .inl ⟨xs, k, r, rfl, rfl⟩, ?_⟩
  exact l.val k
theorem key_at {K : PySem.W.Frag} {G : Hp} {v : V} {k : Key} (a : SlAt K G v (.d (kD k))) : v = kV k := by
  cases k with
  | inl n => exact sl_int a
  | inr z => exact sl_str a
/-- d[k] -/
theorem de_dget (hu : X.A.units + 1 < cLine) (w : DE X L o τ M fun s M1 => DE X L i τ M1 fun t M2 => ∃ kvs k z, DictIs M2 s kvs ∧ t = .d (kD k) ∧ valS kvs k = some z ∧ Q z M2) (hs : NoSl i := by exact fun _ _ => rfl) : DE X L (.Subscript o i pos) τ M Q :=
  de_of (pe_dget hu pe_s pe_s hs) fun σ G H Q' gs gm k => w σ G H _ gs gm fun s M1 v G1 H1 q e1 g1 a1 => q σ G1 H1 _ (gs.mono e1) g1 fun t M2 u G2 H2 ⟨kvs, key, z, hd, ht, hv, q2⟩ e2 g2 a2 => by
    subst ht
    obtain ⟨p, oo, rfl, _, dg, h⟩ := dget_at (k := key) g2 (a1.mono e2) hd
    rw [hv] at h
    obtain ⟨r, rfl, ar⟩ := h
    rw [key_at a2]
    exact ⟨p, r, rfl, dg, (k.mono (e1.trans e2)).go q2 g2 ar⟩
/-- d.get(k, x) -/
theorem de_dget2 {f : Expr} (hu : X.A.units + 1 < cLine) (w : DE X L o τ M fun s M1 => (∃ kvs, DictIs M1 s kvs) ∧ DE X L e τ M1 fun t M2 => DE X L f τ M2 fun z M3 => ∃ kvs k, DictIs M3 s kvs ∧ t = .d (kD k) ∧ Q ((valS kvs k).getD z) M3) (m : M2 X o "get" apos e f cpos := by exact ⟨rfl, rfl, rfl, rfl⟩) : DE X L (.Call (.Attribute o "get" apos) [e, f] [] cpos) τ M Q :=
  de_of (pe_dget2 hu pe_s pe_s pe_s m) fun σ G H Q' gs gm k => w σ G H _ gs gm fun s M1 v G1 H1 ⟨⟨kvs0, hd0⟩, q⟩ e1 g1 a1 => by
    obtain ⟨p, oo, rfl, isd, _, _⟩ := dget_at (k := .inl 0) g1 a1 hd0
    refine ⟨p, rfl, isd, q σ G1 H1 _ (gs.mono e1) g1 fun t M2 u G2 H2 q2 e2 g2 a2 => q2 σ G2 H2 _ (gs.mono (e1.trans e2)) g2 fun z M3 u3 G3 H3 ⟨kvs, key, hd, ht, q3⟩ e3 g3 a3 => ?_⟩
    subst ht
    obtain ⟨p', oo', ep, _, dg, h⟩ := dget_at (k := key) g3 ((a1.mono e2).mono e3) hd
    cases ep
    rw [key_at a2]
    refine ⟨oo', dg, ?_⟩
    cases hv : valS kvs key with
    | none =>
      rw [hv] at h q3
      rw [h]
      exact (k.mono ((e1.trans e2).trans e3)).go q3 g3 a3
    | some r =>
      rw [hv] at h q3
      obtain ⟨u', rfl, ar⟩ := h
      exact (k.mono ((e1.trans e2).trans e3)).go q3 g3 ar
/-- d[k] = v, the dict a cell -/
theorem ds_dput {value : Expr} (hu : X.A.units + 1 < cLine) (w : DE X L value τ M fun z M1 => DE X L o τ M1 fun s M2 => DE X L i τ M2 fun t M3 => ∃ a kvs k, s = .c a ∧ M3 a = some (.k kvs) ∧ t = .d (kD k) ∧ kvs.length < sizeLine ∧ E.nx τ (updC M3 a (.k (putS kvs k z))))
    (hs : swapsWith value (some (.Subscript o i pos')) pos.line X.env = pure false := by rfl) : DS X L (.Assign [.Subscript o i pos'] value pos) τ M E :=
  ds_of (ps_dput hu pe_s pe_s pe_s hs) fun σ G H D gs gm k => w σ G H _ gs gm fun z M1 v G1 H1 q e1 g1 a1 => q σ G1 H1 _ (gs.mono e1) g1 fun s M2 u G2 H2 q2 e2 g2 a2 => q2 σ G2 H2 _ (gs.mono (e1.trans e2)) g2 fun t M3 w' G3 H3 ⟨a, kvs, key, hs, ha, ht, hl, q3⟩ e3 g3 a3 => by
    subst hs ht
    have e13 := (e1.trans e2).trans e3
    obtain ⟨_, xs, h1, h2⟩ := g3.cell a _ ha
    refine ⟨a, _, sl_c a2, ?_, k.nx _ _ σ G3 _ q3 e13 (g3.write ha h1 (fun _ _ z => nomatch z) ⟨_, upd_same, KvAt.put ((a1.mono e2).mono e3) h2⟩) (gs.mono e13)⟩
    rw [key_at a3]
    exact DPut.k h1 (by rw [h2.len]; exact hl)
/-- xs[i] = v, the list a cell -/
theorem dg_subL (w : DE X L o τ M fun t M1 => DE X L i τ M1 fun u M2 => ∃ a ss k j, t = .c a ∧ M2 a = some (.l ss) ∧ u = dI k ∧ ixN ss.length k = some j ∧ QG τ (updC M2 a (.l (ss.set j s))))
    (ha : ∀ v, assign (.Subscript o i pos) X.env v = (do
      let ov ← holding [v] (eval o X.env)
      let iv ← holding [v, ov] (eval i X.env)
      standAt pos
      holding [v, ov, iv] (setItem ov iv v)
      release [v, ov, iv] []) := by intro _; rfl) : DG X L (.Subscript o i pos) s τ M QG :=
  dg_of (pg_sub pe_s pe_s set_list ha) fun σ G H v Q' gs gm av k => w σ G H _ gs gm fun t M1 u G1 H1 q e1 g1 a1 => q σ G1 H1 _ (gs.mono e1) g1 fun z M2 w' G2 H2 ⟨a, ss, n, j, ht, ha, hu, hj, q2⟩ e2 g2 a2 => by
    subst ht hu
    obtain ⟨_, xs, h1, h2⟩ := g2.cell a _ ha
    exact ⟨a, xs, n, j, sl_c a1, sl_int a2, h1, by rw [h2.len]; exact hj, k _ _ σ G2 _ q2 (e1.trans e2) (g2.write ha h1 (fun _ _ z => nomatch z) ⟨_, upd_same, h2.set ((av.mono e1).mono e2) j⟩) (gs.mono (e1.trans e2))⟩
/-! ### methods -/
def RMk (K : PySem.W.Frag) (L : Lk) (r : V → List V → Hp → VK → Prop) (x : Sl) (xs : List Sl) (M : Cs) (Q : Sl → Cs → Prop) : Prop := ∀ G H v vs Q', GoodM K L M G H → SlAt K G v x → SlL K G vs xs → Ret K L G Q Q' → r v vs H Q'
theorem tyL_at {K : PySem.W.Frag} {G H : Hp} {v : V} {ss : List Sl} (g : GoodM K L M G H) (a : SlAt K G v s) (hT : isTup s = false) (h : seqOf M s = some ss) : tyV K "list" v H := by
  obtain ⟨p, xs, rfl, r, l⟩ := seq_at g a h
  rw [hT, if_neg Bool.false_ne_true] at r
  exact .inl ⟨rfl, xs, r⟩
theorem de_mL {name : Str} {id : String} {r : V → List V → Hp → VK → Prop} (slot : Slot "list" name id) (hty : typeOf (.builtin id) = pure (.type "method_descriptor")) (hm : MtR X id r)
    (w : DE X L o τ M fun x M1 => (isTup x = false ∧ ∃ ss, seqOf M1 x = some ss) ∧ DA X L (e :: es) τ M1 fun ss M2 => RMk X.K L r x ss M2 Q) (hbase : attributeBase o name X.env (eval o X.env) = eval o X.env := by rfl)
    (hfew : ((backTo cpos (starEach (e :: es) X.env)).all (fun x => !x.1) && (backToKw cpos (keywordEach [] X.env)).all (fun x => x.1.isSome)
      && decide ((e :: es).length + ([] : List Keyword).length + (if ([] : List Keyword).isEmpty then 0 else 1) < 30)) = true := by rfl)
    (hline : (apos.endLine == cpos.line) = true := by rfl) (hs : starEach (e :: es) X.env = (false, eval e X.env) :: starEach es X.env := by rfl) (hplain : (backTo cpos (starEach es X.env)).any (·.1) = false := by rfl) : DE X L (.Call (.Attribute o name apos) (e :: es) [] cpos) τ M Q :=
  de_of (pe_bm PySem.F.plainAttrs_list slot hty hm pe_s pa_s hbase hfew hline hs hplain) fun σ G H Q' gs gm k => w σ G H _ gs gm fun x M1 v G1 H1 ⟨⟨hT, ss, hss⟩, q⟩ e1 g1 a1 =>
    ⟨tyL_at g1 a1 hT hss, q σ G1 H1 _ (gs.mono e1) g1 fun ts M2 vs G2 H2 q2 e2 g2 a2 => q2 G2 H2 v vs Q' g2 (a1.mono e2) a2 (k.mono (e1.trans e2))⟩
theorem k_append {a : Addr} {ss : List Sl} {z : Sl} (h : M a = some (.l ss)) (hl : ss.length < sizeLine) (q : Q (.d .none) (updC M a (.l (ss ++ [z])))) : RMk X.K L rAppend (.c a) [z] M Q := fun G H v vs Q' g a1 a2 k => by
  obtain ⟨u, rfl, au⟩ := sl1 a2
  obtain ⟨_, xs, h1, h2⟩ := g.cell a _ h
  exact ⟨a, xs, u, sl_c a1, rfl, h1, by rw [h2.len]; exact hl, k _ _ _ G _ q (Ex.refl G) (g.write h h1 (fun _ _ z => nomatch z) ⟨_, upd_same, h2.append (.cons au .nil)⟩) (.d .non)⟩
/-- xs.append(e) as a statement -/
theorem ds_append (w : DE X L o τ M fun x M1 => (isTup x = false ∧ ∃ ss, seqOf M1 x = some ss) ∧ DE X L e τ M1 fun z M2 => ∃ a ss, x = .c a ∧ M2 a = some (.l ss) ∧ ss.length < sizeLine ∧ E.nx τ (updC M2 a (.l (ss ++ [z])))) (hbase : attributeBase o "append" X.env (eval o X.env) = eval o X.env := by rfl)
    (hfew : ((backTo cpos (starEach (e :: []) X.env)).all (fun x => !x.1) && (backToKw cpos (keywordEach [] X.env)).all (fun x => x.1.isSome)
      && decide ((e :: []).length + ([] : List Keyword).length + (if ([] : List Keyword).isEmpty then 0 else 1) < 30)) = true := by rfl)
    (hline : (apos.endLine == cpos.line) = true := by rfl) (hs : starEach (e :: []) X.env = (false, eval e X.env) :: starEach [] X.env := by rfl) (hplain : (backTo cpos (starEach [] X.env)).any (·.1) = false := by rfl) (hsw : swapsWith (.Call (.Attribute o "append" apos) [e] [] cpos) none pos.line X.env = pure false := by rfl) :
    DS X L (.Expr (.Call (.Attribute o "append" apos) [e] [] cpos) pos) τ M E :=
  ds_expr (de_mL PySem.F.slot_list_append PySem.F.type_list_append mt_append (de_imp w fun x M1 ⟨h, q⟩ => ⟨h, da_cons (de_imp q fun z M2 ⟨a, ss, hx, ha, hl, q2⟩ => da_nil (by subst hx; exact k_append ha hl q2)) hs⟩) hbase hfew hline hs hplain) hsw
theorem SlL.erase {K : PySem.W.Frag} {G : Hp} : ∀ {vs : List V} {ss : List Sl} (j : Nat), SlL K G vs ss → SlL K G (vs.eraseIdx j) (ss.eraseIdx j)
  | _, _, _, .nil => .nil
  | _, _, 0, .cons _ b => b
  | _, _, j + 1, .cons a b => .cons a (b.erase j)
theorem k_popAt {a : Addr} {ss : List Sl} {n : Int} {j : Nat} {z : Sl} (h : M a = some (.l ss)) (h1 : -(2 ^ 63) ≤ n) (h2 : n < 2 ^ 63) (hj : seqIndex? n ss.length = some j) (hz : ss[j]? = some z) (q : Q z (updC M a (.l (ss.eraseIdx j)))) : RMk X.K L rPopAt (.c a) [dI n] M Q := fun G H v vs Q' g a1 a2 k => by
  obtain ⟨u, rfl, au⟩ := sl1 a2
  obtain ⟨_, xs, e1, e2⟩ := g.cell a _ h
  obtain ⟨r, hr, ar⟩ := e2.get hz
  exact ⟨a, xs, n, j, r, sl_c a1, by rw [sl_int au], e1, h1, h2, by rw [e2.len]; exact hj, hr, k _ _ _ G _ q (Ex.refl G) (g.write h e1 (fun _ _ z => nomatch z) ⟨_, upd_same, e2.erase j⟩) ar⟩
/-- methods of texts without arguments -/
theorem de_mS0 {name : Str} {id : String} {f : Str → Bool} (slot : Slot "str" name id) (hty : typeOf (.builtin id) = pure (.type "method_descriptor")) (hm : MtR X id (fun x xs H Q => ∃ a, x = .str a ∧ xs = [] ∧ True ∧ Q (.bl (f a)) H))
    (w : DE X L o τ M fun s M1 => ∃ z, s = dS z ∧ Q (.d (.bool (f z))) M1) (hbase : attributeBase o name X.env (eval o X.env) = eval o X.env := by rfl) (hline : (apos.endLine == pos.line) = true := by rfl) : DE X L (.Call (.Attribute o name apos) [] [] pos) τ M Q :=
  de_of (pe_m0 slot hty hm pe_s hbase hline) fun σ G H Q' gs gm k => w σ G H _ gs gm fun s M1 v G1 H1 ⟨z, hs, q⟩ e1 g1 a1 => by
    subst hs
    rw [sl_str a1]
    exact ⟨⟨z, rfl⟩, z, rfl, rfl, trivial, (k.mono e1).go q g1 (.d (.bl _))⟩
/-- sep.join(xs) -/
theorem strs_at {K : PySem.W.Frag} {G : Hp} {xs : List V} {ys : List Str} (l : SlL K G xs (ys.map dS)) : xs = ys.map V.str := by
  induction ys generalizing xs with
  | nil => cases l; rfl
  | cons n r ih =>
    cases l with
    | cons a b =>
      rw [ih b, sl_str a]
      rfl
theorem de_join (w : DE X L o τ M fun s M1 => ∃ z, s = dS z ∧ DE X L e τ M1 fun t M2 => ∃ ys : List Str, seqOf M2 t = some (ys.map dS) ∧ (ys.map (·.length)).sum + ys.length * z.length ≤ 16777216 ∧ Q (dS (Txt.join z ys)) M2)
    (hs : starEach [e] X.env = [(false, eval e X.env)] := by rfl) (hbase : attributeBase o "join" X.env (eval o X.env) = eval o X.env := by rfl) (hline : (apos.endLine == pos.line) = true := by rfl) : DE X L (.Call (.Attribute o "join" apos) [e] [] pos) τ M Q :=
  de_of (pe_join pe_s pe_s hs hbase hline) fun σ G H Q' gs gm k => w σ G H _ gs gm fun s M1 v G1 H1 ⟨z, hs, q⟩ e1 g1 a1 => by
    subst hs
    rw [sl_str a1]
    refine ⟨⟨z, rfl⟩, q σ G1 H1 _ (gs.mono e1) g1 fun t M2 u G2 H2 ⟨ys, ht, hl, q2⟩ e2 g2 a2 => ?_⟩
    obtain ⟨p, xs, rfl, r, l⟩ := seq_at' g2 a2 ht
    rw [strs_at l] at r
    exact ⟨z, p, ys, rfl, rfl, r, hl, (k.mono (e1.trans e2)).go q2 g2 (.d (.str _))⟩
/-! ### more walks -/
theorem di_zip {e2 : Expr} {elts : List Expr} {kk : Nat} {tpos : Pos} (hg : Gl X "zip") (hm : X.mg "zip" = none)
    (w : DA X L [e, e2] τ M fun ss M1 => ∃ s t xs ys, ss = [s, t] ∧ isTup s = isTup t ∧ seqOf M1 s = some xs ∧ seqOf M1 t = some ys ∧ xs.length = ys.length ∧ QJ xs.length (fun M' => seqOf M' s = some xs ∧ seqOf M' t = some ys) (fun i y => ∃ a b, xs[i]? = some a ∧ ys[i]? = some b ∧ y = .u [a, b]) M1)
    (hs : starEach [e, e2] X.env = (false, eval e X.env) :: starEach [e2] X.env := by rfl) (hpl : (backTo pos (starEach [e2] X.env)).any (·.1) = false := by rfl) : DI X L (.Tuple elts kk tpos) (.Call (.Name "zip" p) [e, e2] [] pos) τ M QJ := fun σ G H R gs gm k => by
  refine i_of (RZ.pi_zipA hg hm pa_s hs hpl) ?_
  show sA X [e, e2] σ H (fun vs H1 => ∃ a b xs ys, vs = [.ref a, .ref b] ∧ ((SqL X.K H1 a xs ∧ SqL X.K H1 b ys ∧ R (Itz X.K a b) H1) ∨ (SqT X.K H1 a xs ∧ SqT X.K H1 b ys ∧ R (RZ.ItzT X.K a b) H1)))
  refine w σ G H _ gs gm ?_
  rintro ss M1 vs G1 H1 ⟨s, t, us, ws, e0, hT, h1, h2, hl, q⟩ e1 g1 a1
  subst e0
  obtain ⟨v, u, rfl, av, au⟩ := sl2 a1
  obtain ⟨pa, xs, rfl, ra, la⟩ := seq_at g1 av h1
  obtain ⟨pb, ys, rfl, rb, lb⟩ := seq_at g1 au h2
  refine ⟨pa, pb, xs, ys, rfl, ?_⟩
  rw [← hT] at rb
  cases hS : isTup s with
  | false =>
    rw [hS, if_neg Bool.false_ne_true] at ra rb
    refine .inl ⟨ra, rb, k _ _ _ M1 G1 H1 _ q e1 g1 ⟨fun M' G' H' sM e' g' => ?_, fun i M' G' H' hi sM e' g' => ?_⟩⟩
    · obtain ⟨p1, xs1, ep, r1, l1⟩ := seq_at g' (av.mono e') sM.1
      obtain ⟨p2, ys1, eq, r2, l2⟩ := seq_at g' (au.mono e') sM.2
      cases ep
      cases eq
      rw [← hT] at r2
      rw [hS, if_neg Bool.false_ne_true] at r1 r2
      exact ⟨xs1, ys1, r1, r2, .inl (Nat.le_of_eq l1.len)⟩
    · obtain ⟨p1, xs1, ep, r1, l1⟩ := seq_at g' (av.mono e') sM.1
      obtain ⟨p2, ys1, eq, r2, l2⟩ := seq_at g' (au.mono e') sM.2
      cases ep
      cases eq
      rw [← hT] at r2
      rw [hS, if_neg Bool.false_ne_true] at r1 r2
      have hj : i < ws.length := by omega
      obtain ⟨v1, hv1, av1⟩ := l1.get (List.getElem?_eq_getElem hi)
      obtain ⟨v2, hv2, av2⟩ := l2.get (List.getElem?_eq_getElem hj)
      refine ⟨⟨xs1, ys1, v1, v2, r1, r2, hv1, hv2⟩, fun x H2 hy => ?_⟩
      obtain ⟨T, x1, x2, rfl, nT, rfl, f1, f2⟩ := hy
      have ex1 := Option.some.inj ((f1 _ r1).symm.trans hv1)
      have ex2 := Option.some.inj ((f2 _ r2).symm.trans hv2)
      subst ex1 ex2
      have fr := g'.free nT
      exact ⟨_, _, ⟨_, _, List.getElem?_eq_getElem hi, List.getElem?_eq_getElem hj, rfl⟩, Ex.new fr.1, g'.newD nT, .u upd_same (.cons (av1.mono (Ex.new fr.1)) (.cons (av2.mono (Ex.new fr.1)) .nil))⟩
  | true =>
    rw [hS, if_pos rfl] at ra rb
    refine .inr ⟨ra, rb, k _ _ _ M1 G1 H1 _ q e1 g1 ⟨fun M' G' H' sM e' g' => ?_, fun i M' G' H' hi sM e' g' => ?_⟩⟩
    · obtain ⟨p1, xs1, ep, r1, l1⟩ := seq_at g' (av.mono e') sM.1
      obtain ⟨p2, ys1, eq, r2, l2⟩ := seq_at g' (au.mono e') sM.2
      cases ep
      cases eq
      rw [← hT] at r2
      rw [hS, if_pos rfl] at r1 r2
      exact ⟨xs1, ys1, r1, r2, .inl (Nat.le_of_eq l1.len)⟩
    · obtain ⟨p1, xs1, ep, r1, l1⟩ := seq_at g' (av.mono e') sM.1
      obtain ⟨p2, ys1, eq, r2, l2⟩ := seq_at g' (au.mono e') sM.2
      cases ep
      cases eq
      rw [← hT] at r2
      rw [hS, if_pos rfl] at r1 r2
      have hj : i < ws.length := by omega
      obtain ⟨v1, hv1, av1⟩ := l1.get (List.getElem?_eq_getElem hi)
      obtain ⟨v2, hv2, av2⟩ := l2.get (List.getElem?_eq_getElem hj)
      refine ⟨⟨xs1, ys1, v1, v2, r1, r2, hv1, hv2⟩, fun x H2 hy => ?_⟩
      obtain ⟨T, x1, x2, rfl, nT, rfl, f1, f2⟩ := hy
      have ex1 := Option.some.inj ((f1 _ r1).symm.trans hv1)
      have ex2 := Option.some.inj ((f2 _ r2).symm.trans hv2)
      subst ex1 ex2
      have fr := g'.free nT
      exact ⟨_, _, ⟨_, _, List.getElem?_eq_getElem hi, List.getElem?_eq_getElem hj, rfl⟩, Ex.new fr.1, g'.newD nT, .u upd_same (.cons (av1.mono (Ex.new fr.1)) (.cons (av2.mono (Ex.new fr.1)) .nil))⟩
end
end Y

namespace Y
open PySem L2 PyProof.Rows

/-- no dict is walked at present -/
def NoDK (L : Lk) : Prop := ∀ x ∈ L, ∀ kvs, x.2.2 ≠ .dK kvs
section
variable {K : PySem.W.Frag} {L : Lk} {M : Cs} {G H : Hp} {d : Addr} {kvs : List (Key × V)} {od : Obj}
theorem lock_exact (g : GoodM K L M G H) (hL : NoDK L) (hd : G d = some (.dK kvs)) : H d = some (.dK kvs) := by
  rcases g.vw d _ hd with z | ⟨x, hx, _, w⟩
  · exact z
  · exact absurd w (hL x hx kvs)
theorem lock_ne (g : GoodM K L M G H) (hL : NoDK L) (hd : G d = some (.dK kvs)) : ∀ x ∈ L, x.1 ≠ d := fun x hx e => by
  have h1 := g.lk x hx
  rw [e, lock_exact g hL hd] at h1
  cases h1
theorem GoodM.lock (g : GoodM K L M G H) (hL : NoDK L) (hd : G d = some (.dK kvs)) : GoodM K ((d, od, .dK kvs) :: L) M G (upd H d (.frz od (.dK kvs))) := by
  refine ⟨fun a o e => ?_, fun a c e => ?_, fun x hx => ?_⟩
  · by_cases ha : a = d
    · subst ha
      rw [hd] at e
      cases e
      exact .inr ⟨_, List.mem_cons_self, rfl, rfl⟩
    · rcases g.vw a o e with z | ⟨x, hx, z⟩
      · exact .inl (by rw [upd_ne ha]; exact z)
      · exact .inr ⟨x, List.mem_cons_of_mem _ hx, z⟩
  · obtain ⟨z1, z2⟩ := g.cell a c e
    have ha : a ≠ d := by
      intro z
      rw [z, hd] at z1
      cases z1
    exact ⟨z1, z2.mono (Ex.refl G) fun o q => by rw [upd_ne ha]; exact q⟩
  · rcases List.mem_cons.mp hx with rfl | hx
    · exact upd_same
    · rw [upd_ne (lock_ne g hL hd x hx)]
      exact g.lk x hx
theorem GoodM.unlock (g : GoodM K ((d, od, .dK kvs) :: L) M G H) (hne : ∀ x ∈ L, x.1 ≠ d) (hd : G d = some (.dK kvs)) : GoodM K L M G (upd H d (.dK kvs)) := by
  refine ⟨fun a o e => ?_, fun a c e => ?_, fun x hx => ?_⟩
  · by_cases ha : a = d
    · subst ha
      rw [hd] at e
      cases e
      exact .inl upd_same
    · rcases g.vw a o e with z | ⟨x, hx, z⟩
      · exact .inl (by rw [upd_ne ha]; exact z)
      · rcases List.mem_cons.mp hx with rfl | hx
        · exact absurd z.1.symm ha
        · exact .inr ⟨x, hx, z⟩
  · obtain ⟨z1, z2⟩ := g.cell a c e
    have ha : a ≠ d := by
      intro z
      rw [z, hd] at z1
      cases z1
    exact ⟨z1, z2.mono (Ex.refl G) fun o q => by rw [upd_ne ha]; exact q⟩
  · rw [upd_ne (hne x hx)]
    exact g.lk x (List.mem_cons_of_mem _ hx)
end
section
variable {X : Cx} {L : Lk} {τ : List (Option Sl)} {M : Cs} {Q : Sl → Cs → Prop} {QG : List (Option Sl) → Cs → Prop} {e a b c o tg iter : Expr} {es : List Expr} {pos apos cpos pos' p0 : Pos} {E : Ks} {st : Stmt} {sts body : List Stmt} {QJ : QI} {nm : Str} {i : Nat}
/-- for k, v in d.items(), d a name -/
theorem ds_forItems {elts : List Expr} {kk : Nat} {tpos : Pos} {kd : List (Key × PyData)} (hp : PassesOwn (model X.prog X.w) X.A X.env X.xe) (hc : X.calm = true) (hL : NoDK L) (hN : X.N[i]? = some nm) (hv : Vis X.env.scope nm) (ht : τ[i]? = some (some (.d (.dict (encK kd)))))
    (Iv : Nat → List (Option Sl) → Cs → Prop) (i0 : Iv 0 τ M)
    (turn : ∀ x, (∃ xs, x.2.2 = HO.dK xs) → ∀ n k d τ' M', kd[n]? = some (k, d) → Iv n τ' M' → DG X (x :: L) (.Tuple elts kk tpos) (.u [.d (kD k), .d d]) τ' M' fun τ2 M2 => DB X (x :: L) body τ2 M2 { E with nx := Iv (n + 1), ct := Iv (n + 1), bk := E.nx })
    (fin : ∀ τ' M', Iv kd.length τ' M' → E.nx τ' M')
    (hd : (nm == ("__debug__" : Str)) = false := by decide) (hcd : (nm == ("__classdict__" : Str)) = false := by decide)
    (hbase : attributeBase (.Name nm p0) "items" X.env (eval (.Name nm p0) X.env) = eval (.Name nm p0) X.env := by rfl) (hline : (apos.endLine == cpos.line) = true := by rfl)
    (hs : ∀ x, foldedSetIterable (.Call (.Attribute (.Name nm p0) "items" apos) [] [] cpos) X.env x = pure x := by intro _; rfl) : DS X L (.For (.Tuple elts kk tpos) (.Call (.Attribute (.Name nm p0) "items" apos) [] [] cpos) body [] pos) τ M E :=
  ds_of (ps_lock (ps_for hp hc (pi_items (pe_var hN hv hd hcd) hbase hline) pg_s pss_s hs)) fun σ G H D gs gm k => by
    obtain ⟨v, hσ, av⟩ := gs.get i _ ht
    cases av with
    | d av =>
      generalize hz : encK kd = zs at av
      cases av with
      | dic hG l =>
        rename_i dd xs
        subst hz
        have lx := AtK.kv kd l
        have hx := lock_exact gm hL hG
        have hne := lock_ne gm hL hG
        refine ⟨dd, .dK xs, hx, trivial, fun od => ?_⟩
        have gmL := gm.lock (od := od) hL hG
        have kL : EndsOk X.K ((dd, od, .dK xs) :: L) G E ⟨fun σ' H' => H' dd = some (.frz od (.dK xs)) ∧ D.nx σ' (upd H' dd (.dK xs)), fun v H' => H' dd = some (.frz od (.dK xs)) ∧ D.rt v (upd H' dd (.dK xs)), fun σ' H' => H' dd = some (.frz od (.dK xs)) ∧ D.bk σ' (upd H' dd (.dK xs)), fun σ' H' => H' dd = some (.frz od (.dK xs)) ∧ D.ct σ' (upd H' dd (.dK xs))⟩ :=
          ⟨fun τ' M' σ' G' H' q e g s => ⟨g.lk _ List.mem_cons_self, k.nx _ _ _ G' _ q e (g.unlock hne (e _ _ hG)) s⟩, fun s M' v G' H' q e g a => ⟨g.lk _ List.mem_cons_self, k.rt _ _ _ G' _ q e (g.unlock hne (e _ _ hG)) a⟩,
            fun τ' M' σ' G' H' q e g s => ⟨g.lk _ List.mem_cons_self, k.bk _ _ _ G' _ q e (g.unlock hne (e _ _ hG)) s⟩, fun τ' M' σ' G' H' q e g s => ⟨g.lk _ List.mem_cons_self, k.ct _ _ _ G' _ q e (g.unlock hne (e _ _ hG)) s⟩⟩
        refine ⟨.ref dd, hσ, dd, od, xs, rfl, upd_same, ?_⟩
        refine ⟨fun n m σ' H' => m = kd.length - n ∧ n ≤ kd.length ∧ ∃ τ' M' G', Iv n τ' M' ∧ Ex G G' ∧ GoodS X.K G' σ' τ' ∧ GoodM X.K ((dd, od, .dK xs) :: L) M' G' H', ⟨kd.length, by simp, Nat.zero_le _, τ, M, G, i0, Ex.refl _, gs, gmL⟩, ?_⟩
        rintro n m σ' H' ⟨rfl, hn, τ', M', G', iv, e', s', g'⟩
        have hl : xs.length = kd.length := by rw [lx.len]; simp [slK]
        have hd' : H' dd = some (.frz od (.dK xs)) := g'.lk _ List.mem_cons_self
        by_cases hlt : n < kd.length
        · refine .inr ⟨⟨hd', by rw [hl]; exact hlt⟩, fun σ2 H2 => ∃ τ2 M2 G2, Iv (n + 1) τ2 M2 ∧ Ex G G2 ∧ GoodS X.K G2 σ2 τ2 ∧ GoodM X.K ((dd, od, .dK xs) :: L) M2 G2 H2, fun σ2 H2 ⟨τ2, M2, G2, h⟩ => ⟨kd.length - (n + 1), by omega, rfl, hlt, τ2, M2, G2, h⟩, fun x H2 hy => ?_⟩
          obtain ⟨T, k1, v1, hx1, rfl, nT, rfl⟩ := hy
          obtain ⟨u1, hu1, au1⟩ := (KvAt.mono e' lx).get (i := n) (k := (kd[n]).1) (s := .d (kd[n]).2) (by unfold slK; rw [List.getElem?_map, List.getElem?_eq_getElem hlt]; rfl)
          rw [hx1] at hu1
          have hu2 := Option.some.inj hu1
          have f := g'.free nT
          have ek : k1 = (kd[n]).1 := (Prod.mk.inj hu2).1
          have ev : v1 = u1 := (Prod.mk.inj hu2).2
          subst ev
          have ak : At X.K (upd G' T (.tup [kV k1, v1])) (kV k1) (kD (kd[n]).1) := by
            rw [← ek]
            cases k1 with
            | inl z => exact .int z
            | inr z => exact .str z
          have e2 := Ex.new (G := G') (o := .tup [kV k1, v1]) f.1
          refine turn (dd, od, .dK xs) ⟨xs, rfl⟩ n (kd[n]).1 (kd[n]).2 τ' M' (List.getElem?_eq_getElem hlt) iv σ' _ _ _ _ (s'.mono e2) (g'.newD nT) (.u upd_same (.cons (.d ak) (.cons (au1.mono e2) .nil))) fun τ3 M3 σ3 G3 H3 q3 e3 g3 s3 => ?_
          have e13 := (e'.trans e2).trans e3
          exact q3 σ3 G3 H3 _ s3 g3 ⟨fun τ4 M4 σ4 G4 H4 q4 e4 g4 s4 => ⟨τ4, M4, G4, q4, e13.trans e4, s4, g4⟩, kL.rt.mono e13, kL.nx.mono e13, fun τ4 M4 σ4 G4 H4 q4 e4 g4 s4 => ⟨τ4, M4, G4, q4, e13.trans e4, s4, g4⟩⟩
        · have e : n = kd.length := by omega
          subst e
          exact .inl ⟨⟨hd', by rw [hl]; exact Nat.le_refl _⟩, kL.nx τ' M' σ' G' H' (fin _ _ iv) e' g' s'⟩
/-- {kx: vx for tg in iter} -/
theorem we_dc {kx vx : TE} {g : TG} {tt : TT} {vs : List Nat} (w : DI X L tg iter τ M fun n S ys M1 => ∀ D, M1 D = none → ∃ Iv : Nat → Cs → Prop, Iv 0 (updC M1 D (.k [])) ∧ (∀ i M', Iv i M' → S M') ∧
      (∀ i y M', i < n → ys i y → Iv i M' → WGw X.K L vs g y (wipeK τ vs) M' fun τ2 M2 => WT X.K L tt τ2 M2 fun d M3 => (d = true → WE X.K L kx τ2 M3 fun z M4 => WE X.K L vx τ2 M4 fun z2 M5 => ∃ kvs k, z = .d (kD k) ∧ M5 D = some (.k kvs) ∧ kvs.length < sizeLine ∧ Iv (i + 1) (updC M5 D (.k (putS kvs k z2)))) ∧ (d = false → Iv (i + 1) M3)) ∧ (∀ M', Iv n M' → Q (.c D) M')) :
    WE X.K L (tDc (sI X tg iter) g tt kx vx vs) τ M Q := fun σ G H Q' gs gm k => w σ G H _ gs gm fun n S ys M1 G1 H1 J q e1 g1 ok D hD => by
  obtain ⟨Iv, i0, st, turn, fin⟩ := q D (g1.free hD).2
  refine ⟨fun i m H' => m = n - i ∧ i ≤ n ∧ ∃ M' G', Iv i M' ∧ Ex G1 G' ∧ GoodM X.K L M' G' H', ⟨n, by simp, Nat.zero_le _, _, G1, i0, Ex.refl _, g1.newC hD ⟨[], upd_same, trivial⟩⟩, ?_⟩
  rintro i m H' ⟨rfl, hi, M', G', iv, e', g'⟩
  by_cases hlt : i < n
  · obtain ⟨go, yl⟩ := ok.go i M' G' H' hlt (st _ _ iv) e' g'
    refine .inr ⟨go, fun H2 => ∃ M2 G2, Iv (i + 1) M2 ∧ Ex G1 G2 ∧ GoodM X.K L M2 G2 H2, fun H2 ⟨M2, G2, h⟩ => ⟨n - (i + 1), by omega, rfl, hlt, M2, G2, h⟩, fun x H2 hy => ?_⟩
    obtain ⟨y, G2, yy, e2, g2, ay⟩ := yl x H2 hy
    have e12 := e'.trans e2
    refine turn i y M' hlt yy iv _ G2 H2 x _ ((gs.mono (e1.trans e12)).wipe vs) g2 ay fun τ3 M3 σ3 G3 H3 q3 e3 g3 s3 z3 => ?_
    refine ⟨z3.trans wipe_wipe, ?_⟩
    have e13 := e12.trans e3
    refine q3 σ3 G3 H3 _ s3 g3 fun d M4 G4 H4 q4 e4 g4 => ?_
    cases d with
    | true =>
      rw [if_pos rfl]
      refine q4.1 rfl σ3 G4 H4 _ (s3.mono e4) g4 fun z M5 v G5 H5 q5 e5 g5 a5 => ?_
      refine q5 σ3 G5 H5 _ (s3.mono (e4.trans e5)) g5 fun z2 M6 v2 G6 H6 ⟨kvs, key, hz, hk, hl, iv6⟩ e6 g6 a6 => ?_
      obtain ⟨f6, xs, h1, h2⟩ := g6.cell D _ hk
      subst hz
      refine ⟨xs, key, key_at a5, h1, by rw [h2.len]; exact hl, _, G6, iv6, ((e13.trans e4).trans e5).trans e6, ?_⟩
      exact g6.write hk h1 (fun _ _ z => nomatch z) ⟨_, upd_same, KvAt.put a6 h2⟩
    | false =>
      rw [if_neg Bool.false_ne_true]
      exact ⟨M4, G4, q4.2 rfl, e13.trans e4, g4⟩
  · have e : i = n := by omega
    subst e
    exact .inl ⟨ok.stop M' G' H' (st _ _ iv) e' g', k _ M' _ G' H' (fin _ iv) (e1.trans e') g' (.c D)⟩
theorem de_dc0 {kx vx : Expr} {scope : Scope} {own : List (Str × Nat)} {g : TG} (hc : X.calm = true) (hN : X.N.Nodup) (ok : BlkOk X.N X.env.scope scope own) (hg : ∀ (s : Shared) (H : Hp) (C : Addr) (cl : List (Str × Addr)) (fp : List Addr), PG (X.blk s H scope (compEnvC scope cl C X.env) fp) tg g)
    (w : DI X L tg iter τ M fun n S ys M1 => ∀ D, M1 D = none → ∃ Iv : Nat → Cs → Prop, Iv 0 (updC M1 D (.k [])) ∧ (∀ i M', Iv i M' → S M') ∧
      (∀ i y M', i < n → ys i y → Iv i M' → WGw X.K L (own.map (·.2)) g y (wipeK τ (own.map (·.2))) M' fun τ2 M3 => DEb X scope L kx τ2 M3 fun z M4 => DEb X scope L vx τ2 M4 fun z2 M5 => ∃ kvs k, z = .d (kD k) ∧ M5 D = some (.k kvs) ∧ kvs.length < sizeLine ∧ Iv (i + 1) (updC M5 D (.k (putS kvs k z2)))) ∧ (∀ M', Iv n M' → Q (.c D) M'))
    (hs : ∀ x, foldedSetIterable iter X.env x = pure x := by intro _; rfl) : DE X L (.DictComp kx vx [⟨tg, iter, [], 0⟩] scope pos) τ M Q :=
  de_of (pe_dc (tk := bE X scope kx) (tv := bE X scope vx) (tt := tYes) hc hN pi_s ok hg (fun _ _ _ _ _ => pts_nil) (fun s H C cl fp => ⟨fun pins s' σ H' Q' I h => h s H C cl fp pins s' I⟩) (fun s H C cl fp => ⟨fun pins s' σ H' Q' I h => h s H C cl fp pins s' I⟩) hs) (we_dc fun σ G H R gs gm k => w σ G H R gs gm fun n S ys M1 G1 H1 J q e1 g1 ok => k n S ys M1 G1 H1 J (fun D hD => by
    obtain ⟨Iv, i0, st, turn, fin⟩ := q D hD
    refine ⟨Iv, i0, st, fun i y M' hi yy iv => ?_, fin⟩
    intro σ G H v Q' gs gm a k
    refine turn i y M' hi yy iv σ G H v Q' gs gm a fun τ' M' σ' G' H' h => k τ' M' σ' G' H' ?_
    refine fun σ G H Q' gs gm k => k.go (b := true) ⟨fun _ => ?_, fun z => nomatch z⟩ gm
    refine web (X := X) (scope := scope) fun s0 H0 C cl fp σ2 G2 H2 Q2 gs2 gm2 k2 => h s0 H0 C cl fp σ2 G2 H2 Q2 gs2 gm2 fun z M4 v4 G4 H4 q4 => k2 z M4 v4 G4 H4 (web q4)) e1 g1 ok)
/-- a dict cell of data becomes data -/
theorem GoodM.freezeK {K : PySem.W.Frag} {G H : Hp} {p : Addr} {kd : List (Key × PyData)} (g : GoodM K L M G H) (hc : M p = some (.k (slK kd))) : ∃ G', Ex G G' ∧ GoodM K L (delC M p) G' H ∧ At K G' (.ref p) (.dict (encK kd)) := by
  obtain ⟨f, xs, h1, h2⟩ := g.cell p _ hc
  refine ⟨upd G p (.dK xs), Ex.new f, ⟨fun a u e => ?_, fun a c e => ?_, g.lk⟩, .dic upd_same (AtK.mono (Ex.new f) (KvAt.at kd h2))⟩
  · by_cases ha : a = p
    · subst ha
      rw [upd_same] at e
      cases e
      exact .inl h1
    · rw [upd_ne ha] at e
      exact g.vw a u e
  · by_cases ha : a = p
    · subst ha
      rw [delC_same] at e
      cases e
    · rw [delC_ne ha] at e
      obtain ⟨z1, z2⟩ := g.cell a c e
      exact ⟨by rw [upd_ne ha]; exact z1, z2.mono (Ex.new f) fun o q => q⟩
theorem de_frzK (w : DE X L e τ M fun s M1 => ∃ p kd, s = .c p ∧ M1 p = some (.k (slK kd)) ∧ Q (.d (.dict (encK kd))) (delC M1 p)) : DE X L e τ M Q := fun σ G H Q' gs gm k =>
  w σ G H _ gs gm fun s M1 v G1 H1 ⟨p, ds, e, hp, q⟩ e1 g1 a1 => by
    subst e
    obtain ⟨G2, e2, g2, a2⟩ := g1.freezeK hp
    rw [sl_c a1]
    exact k _ _ _ G2 H1 q (e1.trans e2) g2 (.d a2)
/-- a statement's cell slot becomes data: the slot j holds the cell p -/
theorem db_frz {j : Nat} {p : Addr} {ds : List PyData} (hj : τ[j]? = some (some (.c p))) (hp : M p = some (.l (ds.map .d))) (w : DB X L sts (τ.set j (some (.d (.list ds)))) (delC M p) E) : DB X L sts τ M E := fun σ G H D gs gm k => by
  obtain ⟨G2, e2, g2, a2⟩ := gm.freeze hp
  obtain ⟨v, hv, av⟩ := gs.get j _ hj
  have ev := sl_c av
  subst ev
  have hset : σ.set j (some (.ref p)) = σ := by
    apply List.ext_getElem?
    intro n
    by_cases e : j = n
    · subst e
      obtain ⟨hl, _⟩ := List.getElem?_eq_some_iff.mp hv
      rw [List.getElem?_set_self hl, hv]
    · rw [List.getElem?_set_ne e]
  have gs2 := (gs.mono e2).set (v := .ref p) (SlAt.d a2) j
  rw [hset] at gs2
  exact w σ G2 H D gs2 g2 (k.mono e2)
end
end Y

namespace Y
open PySem L2 PyProof.Rows

theorem bt_isinstance : bootBuiltins "isinstance" = some (.builtin "isinstance") := by decide +kernel
theorem bt_len : bootBuiltins "len" = some (.builtin "len") := by decide +kernel
theorem bt_sum : bootBuiltins "sum" = some (.builtin "sum") := by decide +kernel
theorem bt_all : bootBuiltins "all" = some (.builtin "all") := by decide +kernel
theorem bt_min : bootBuiltins "min" = some (.builtin "min") := by decide +kernel
theorem bt_max : bootBuiltins "max" = some (.builtin "max") := by decide +kernel
theorem bt_abs : bootBuiltins "abs" = some (.builtin "abs") := by decide +kernel
theorem bt_sorted : bootBuiltins "sorted" = some (.builtin "sorted") := by decide +kernel
theorem bt_repr : bootBuiltins "repr" = some (.builtin "repr") := by decide +kernel
theorem bt_any : bootBuiltins "any" = some (.builtin "any") := by decide +kernel
theorem bt_int : bootBuiltins "int" = some (.type "int") := by decide +kernel
theorem bt_bool : bootBuiltins "bool" = some (.type "bool") := by decide +kernel
theorem bt_str : bootBuiltins "str" = some (.type "str") := by decide +kernel
theorem bt_list : bootBuiltins "list" = some (.type "list") := by decide +kernel
theorem bt_tuple : bootBuiltins "tuple" = some (.type "tuple") := by decide +kernel
theorem bt_dict : bootBuiltins "dict" = some (.type "dict") := by decide +kernel
theorem bt_type : bootBuiltins "type" = some (.type "type") := by decide +kernel
theorem bt_set : bootBuiltins "set" = some (.type "set") := by decide +kernel
theorem bt_zip : bootBuiltins "zip" = some (.type "zip") := by decide +kernel
theorem bt_enumerate : bootBuiltins "enumerate" = some (.type "enumerate") := by decide +kernel
theorem bt_range : bootBuiltins "range" = some (.type "range") := by decide +kernel
theorem bt_reversed : bootBuiltins "reversed" = some (.type "reversed") := by decide +kernel
theorem okTy_int : okTy "int" := PySem.TypeEq.meta_int
theorem okTy_str : okTy "str" := PySem.TypeEq.meta_str
theorem okTy_bool : okTy "bool" := PySem.TypeEq.meta_bool
theorem okTy_NoneType : okTy "NoneType" := PySem.TypeEq.meta_NoneType
theorem okTy_list : okTy "list" := PySem.TypeEq.meta_list
theorem okTy_tuple : okTy "tuple" := PySem.TypeEq.meta_tuple
theorem okTy_dict : okTy "dict" := PySem.TypeEq.meta_dict
/-! ### a < b < c < d as a test -/
def tChain3 (r1 r2 r3 : R2) (ta tb tc td : TE) : TT := fun σ H Q => ta σ H fun x H1 => tb σ H1 fun y H2 => r1 x y H2 fun z H3 => ∃ k, z = .bl k ∧ (if k = true then tc σ H3 fun y2 H4 => r2 y y2 H4 fun z2 H5 => ∃ k2, z2 = .bl k2 ∧ (if k2 = true then td σ H5 fun y3 H6 => r3 y2 y3 H6 fun z3 H7 => ∃ k3, z3 = .bl k3 ∧ Q k3 H7 else Q false H5) else Q false H3)
section
variable {X : Cx} {a b c d : Expr} {ta tb tc td : TE} {pos : Pos}
theorem pt_chain3 {op op' op'' : CmpOp} {r r' r'' : R2} (ho : OpR X (compareOp op) r) (ho' : OpR X (compareOp op') r') (ho'' : OpR X (compareOp op'') r'') (ha : PE X a ta) (hb : PE X b tb) (hc : PE X c tc) (hd : PE X d td)
    (hm : lastMarks [op, op', op''] [b, c, d] = false := by with_unfolding_all rfl) : PT X (.Compare a [op, op', op''] [b, c, d] pos) (tChain3 r r' r'' ta tb tc td) := by
  refine ⟨fun pins s σ H Q I h => ?_⟩
  refine isTrue_chain (thn (ha.run pins s σ H _ I h) fun v s1 ⟨x, H1, I1, r1, q1⟩ => test_link (thn (hb.run pins s1 σ H1 _ I1 q1) fun u s2 ⟨y, H2, I2, r2, q2⟩ =>
    thn (ho pins s2 σ H2 x y v u _ I2 r1 r2 q2) fun e s3 ⟨z, H3, I3, r3, k, ek, q3⟩ => ?_)) hm
  subst ek
  cases r3
  refine wpAny_truthy_bool ?_
  cases k with
  | false => exact ite_ff ⟨H3, I3, q3⟩
  | true =>
    refine ite_tt (test_link (thn (hc.run pins s3 σ H3 _ I3 q3) fun u4 s4 ⟨y4, H4, I4, r4, q4⟩ => thn (ho' pins s4 σ H4 y y4 u u4 _ I4 r2 r4 q4) fun e5 s5 ⟨z5, H5, I5, r5, k5, ek5, q5⟩ => ?_))
    subst ek5
    cases r5
    refine wpAny_truthy_bool ?_
    cases k5 with
    | false => exact ite_ff ⟨H5, I5, q5⟩
    | true =>
      refine ite_tt (test_last (thn (hd.run pins s5 σ H5 _ I5 q5) fun u6 s6 ⟨y6, H6, I6, r6, q6⟩ => thn (ho'' pins s6 σ H6 y4 y6 u4 u6 _ I6 r4 r6 q6) fun e7 s7 ⟨z7, H7, I7, r7, k7, ek7, q7⟩ => ?_))
      subst ek7
      cases r7
      exact wpAny_truthy_bool ⟨H7, I7, q7⟩
theorem dt_chain3 {op op' op'' : CmpOp} {r r' r'' : R2} {L : Lk} {τ : List (Option Sl)} {M : Cs} {QB : Bool → Cs → Prop} (ho : OpR X (compareOp op) r) (ho' : OpR X (compareOp op') r') (ho'' : OpR X (compareOp op'') r'')
    (w : DE X L a τ M fun x M1 => DE X L b τ M1 fun y M2 => R2k X.K L r x y M2 (BoolQ fun k M3 => (k = true → DE X L c τ M3 fun z M4 => R2k X.K L r' y z M4 (BoolQ fun k2 M5 => (k2 = true → DE X L d τ M5 fun t M6 => R2k X.K L r'' z t M6 (BoolQ QB)) ∧ (k2 = false → QB false M5))) ∧ (k = false → QB false M3)))
    (hm : lastMarks [op, op', op''] [b, c, d] = false := by with_unfolding_all rfl) : DT X L (.Compare a [op, op', op''] [b, c, d] pos) τ M QB :=
  dt_of (pt_chain3 ho ho' ho'' pe_s pe_s pe_s pe_s hm) fun σ G H Q' gs gm k =>
    w σ G H _ gs gm fun x M1 v G1 H1 q e1 g1 a1 => q σ G1 H1 _ (gs.mono e1) g1 fun y M2 u G2 H2 q2 e2 g2 a2 => q2 G2 H2 v u _ g2 (a1.mono e2) a2 fun s M3 z G3 H3 ⟨k1, e, q3, q4⟩ e3 g3 a3 => by
      subst e
      refine ⟨k1, sl_bl a3, ?_⟩
      have e13 := (e1.trans e2).trans e3
      cases k1 with
      | false =>
        rw [if_neg Bool.false_ne_true]
        exact (k.mono e13).go (q4 rfl) g3
      | true =>
        rw [if_pos rfl]
        refine q3 rfl σ G3 H3 _ (gs.mono e13) g3 fun t M4 w' G4 H4 q5 e4 g4 a4 => q5 G4 H4 u w' _ g4 ((a2.mono e3).mono e4) a4 fun s5 M5 z5 G5 H5 ⟨k5, e5', q6, q7⟩ e5 g5 a5 => ?_
        subst e5'
        refine ⟨k5, sl_bl a5, ?_⟩
        have e15 := (e13.trans e4).trans e5
        cases k5 with
        | false =>
          rw [if_neg Bool.false_ne_true]
          exact (k.mono e15).go (q7 rfl) g5
        | true =>
          rw [if_pos rfl]
          refine q6 rfl σ G5 H5 _ (gs.mono e15) g5 fun t6 M6 w6 G6 H6 q8 e6 g6 a6 => q8 G6 H6 w' w6 _ g6 ((a4.mono e5).mono e6) a6 fun s7 M7 z7 G7 H7 ⟨k7, e7', q9⟩ e7 g7 a7 => ?_
          subst e7'
          exact ⟨k7, sl_bl a7, k k7 M7 G7 H7 q9 ((e15.trans e6).trans e7) g7⟩
end
theorem no1 {P : Prop} (h : false = true) : P := nomatch h
theorem no2 {P : Prop} (h : true = false) : P := nomatch h
section
variable {X : Cx} {L : Lk} {τ : List (Option Sl)} {M : Cs} {QB QB2 : Bool → Cs → Prop} {c : Expr} {sts st2 : List Stmt} {pos : Pos} {E : Ks}
theorem dt_imp (w : DT X L c τ M QB2) (h : ∀ k M', QB2 k M' → QB k M') : DT X L c τ M QB := fun σ G H Q' gs gm k => w σ G H Q' gs gm fun b M' G' H' q => k b M' G' H' (h b M' q)
/-- an if whose test is told first -/
theorem ds_ifB (b : Bool) (h : DT X L c τ M fun k M1 => k = b ∧ M1 = M) (wt : b = true → DB X L sts τ M E) (wf : b = false → DB X L st2 τ M E) : DS X L (.If c sts st2 pos) τ M E := ds_if (dt_imp h fun k M1 ⟨e1, e2⟩ => by subst e1 e2; exact ⟨wt, wf⟩)
theorem ds_ifF (h : DT X L c τ M fun k M1 => k = false ∧ M1 = M) (w : DB X L st2 τ M E) : DS X L (.If c sts st2 pos) τ M E := ds_ifB false h (fun z => nomatch z) fun _ => w
theorem ds_ifT (h : DT X L c τ M fun k M1 => k = true ∧ M1 = M) (w : DB X L sts τ M E) : DS X L (.If c sts st2 pos) τ M E := ds_ifB true h (fun _ => w) fun z => nomatch z
end
/-! ### cells that nobody asks for -/
def Sub (M2 M1 : Cs) : Prop := ∀ a c, M2 a = some c → M1 a = some c
theorem Sub.refl (M : Cs) : Sub M M := fun _ _ h => h
theorem Sub.new {M M1 : Cs} {p : Addr} {c : Cell} (h : Sub M M1) (hp : M1 p = none) : Sub M (updC M1 p c) := fun a d e => by
  have e1 := h a d e
  rw [updC_ne (neC e1 hp)]
  exact e1
theorem Sub.put {M M1 : Cs} {p : Addr} {c : Cell} (h : Sub M M1) (hp : M p = none) : Sub M (updC M1 p c) := fun a d e => by
  rw [updC_ne (neC e hp)]
  exact h a d e
theorem Sub.del {M M1 : Cs} {p : Addr} (h : Sub M M1) (hp : M p = none) : Sub M (delC M1 p) := fun a d e => by
  rw [delC_ne (neC e hp)]
  exact h a d e
theorem Sub.none {M M1 : Cs} {p : Addr} (h : Sub M M1) (hp : M1 p = none) : M p = none := by
  cases e : M p with
  | none => rfl
  | some c => rw [h p c e] at hp; cases hp
theorem Sub.cong {M2 M1 : Cs} {p : Addr} {c : Cell} (h : Sub M2 M1) : Sub (updC M2 p c) (updC M1 p c) := fun a d e => by
  by_cases ha : a = p
  · subst ha
    rw [updC_same] at e ⊢
    exact e
  · rw [updC_ne ha] at e ⊢
    exact h a d e
theorem GoodM.sub {K : PySem.W.Frag} {L : Lk} {M1 M2 : Cs} {G H : Hp} (g : GoodM K L M1 G H) (h : Sub M2 M1) : GoodM K L M2 G H := ⟨g.vw, fun a c e => g.cell a c (h a c e), g.lk⟩
section
variable {X : Cx} {L : Lk} {τ : List (Option Sl)} {M : Cs} {Q : Sl → Cs → Prop} {e : Expr} {s : Sl} {sts : List Stmt} {E : Ks}
theorem de_gc (w : DE X L e τ M fun s M1 => ∃ M2, Sub M2 M1 ∧ Q s M2) : DE X L e τ M Q := fun σ G H Q' gs gm k => w σ G H _ gs gm fun s M1 v G1 H1 ⟨M2, h, q⟩ e1 g1 a1 => k s M2 v G1 H1 q e1 (g1.sub h) a1
theorem db_gc {M2 : Cs} (h : Sub M2 M) (w : DB X L sts τ M2 E) : DB X L sts τ M E := fun σ G H D gs gm k => w σ G H D gs (gm.sub h) k
theorem call_lenR : CallR X (.builtin "len") (fun xs H Q => ∃ a kvs, xs = [V.ref a] ∧ Rd H a (.dK kvs) ∧ Q (.int kvs.length) H) := by
  intro pins s σ H xs us Q I r h
  obtain ⟨a, kvs, rfl, ha, q⟩ := h
  obtain ⟨u, rfl, ru⟩ := vals1 r
  cases ru
  exact d_len I ha fun t s' I' => ⟨.int kvs.length, H, I', ⟨t, rfl⟩, q⟩
theorem k_lenD {kvs : List (Key × Sl)} (h : DictIs M s kvs) (q : Q (.d (.int kvs.length)) M) : RCk X.K L (fun xs H Q => ∃ a kvs, xs = [V.ref a] ∧ Rd H a (.dK kvs) ∧ Q (.int kvs.length) H) [s] M Q := fun G H vs Q' g a k => by
  obtain ⟨v, rfl, a1⟩ := sl1 a
  obtain ⟨p, xs, rfl, r, l⟩ := dict_at g a1 h
  exact ⟨p, xs, rfl, r, by rw [l.len]; exact k.go q g (.d (.int _))⟩
end
section
variable {X : Cx} {L : Lk} {τ : List (Option Sl)} {M : Cs} {st : Stmt} {sts : List Stmt} {E : Ks}
/-- a statement whose ways come together again -/
theorem db_consJ (J : List (Option Sl) → Cs → Prop) (w : DS X L st τ M { E with nx := J }) (h : ∀ τ' M', J τ' M' → DB X L sts τ' M' E) : DB X L (st :: sts) τ M E := db_cons fun σ G H D gs gm k => w σ G H D gs gm ⟨fun τ' M' σ' G' H' q => k.nx τ' M' σ' G' H' (h τ' M' q), k.rt, k.bk, k.ct⟩
end
/-- a def of the top: where it stands -/
def FunAt (K : PySem.W.Frag) (mg : Str → Option Value) (x : Str) (st : Stmt) (ps : List Str) : Prop := ∃ (f : Addr) (fd : FuncData), Fun K x x st f fd ∧ mg x = some (.ref f) ∧ Binds K fd ps []
/-- a def that may be called -/
def Cal (P : Program) (w : World) (K : PySem.W.Frag) (mg : Str → Option Value) (base : Heap) (x : Str) (k : Nat) (ps : List Str) (R : Rr) : Prop :=
  ∃ (f : Addr) (fd : FuncData), FnOk P w K mg base CX0 k f fd ps (Spk K R) ∧ mg x = some (.ref f) ∧ PySem.W.keepIn K (.ref f) = true ∧ Binds K fd ps []
theorem Cal.up {P : Program} {w : World} {K : PySem.W.Frag} {mg : Str → Option Value} {base : Heap} {x : Str} {j k : Nat} {ps : List Str} {R : Rr} (c : Cal P w K mg base x j ps R) (h : j ≤ k) : Cal P w K mg base x k ps R := by
  obtain ⟨f, fd, F, m, kp, b⟩ := c
  exact ⟨f, fd, F.mono h, m, kp, b⟩
section
variable {X : Cx} {L : Lk} {τ : List (Option Sl)} {M : Cs} {Q : Sl → Cs → Prop} {e : Expr} {es : List Expr} {pos p : Pos}
theorem de_callC {R : Rr} {k : Nat} {ps : List Str} {x : Str} (c : Cal X.prog X.w X.K X.mg X.base x k ps R) (hr : Room k X.A) (hg : Gl X x) (w : DA X L (e :: es) τ M fun ss M1 => R L ss M1 Q) (hdb : (x == ("__debug__" : Str)) = false := by decide)
    (he : starEach (e :: es) X.env = (false, eval e X.env) :: starEach es X.env := by rfl) (hpl : (backTo pos (starEach es X.env)).any (·.1) = false := by rfl) : DE X L (.Call (.Name x p) (e :: es) [] pos) τ M Q := by
  obtain ⟨f, fd, F, m, kp, b⟩ := c
  exact de_call F hr hg m kp b w hdb he hpl
end
abbrev cxF (P : Program) (w : World) (K : PySem.W.Frag) (mg : Str → Option Value) (base : Heap) (N : List Str) (x : Str) (st : Stmt) (f : Addr) (cdv : Value) (A : Around) (outer : List Env) (s : Shared) (H : Hp) (E : XK) : Cx := (cxOf CX0 P w K mg base N x (defScope st) f cdv A outer s H E).nox
theorem cal_of {P : Program} {w : World} {K : PySem.W.Frag} {mg : Str → Option Value} {base : Heap} {R : Rr} {x : Str} {st : Stmt} {N ps : List Str} {k : Nat} (F : FunAt K mg x st ps) (S : FnScope N ps (defScope st)) (hl : ∀ L ss M Q, R L ss M Q → ss.length = ps.length)
    (hb : ∀ (f : Addr) (cdv : Value) (A : Around) (outer : List Env) (s : Shared) (H : Hp) (E : XK) (L : Lk) (ss : List Sl) (M : Cs) (Q : Sl → Cs → Prop), Room k (cxF P w K mg base N x st f cdv A outer s H E).A → R L ss M Q →
      DB (cxF P w K mg base N x st f cdv A outer s H E) L (defBody st) (startK N ss) M { nx := fun _ M' => Q (.d .none) M', rt := Q }) : Cal P w K mg base x (k + 1) ps R := by
  obtain ⟨f, fd, F, m, b⟩ := F
  exact ⟨f, fd, fn_k F S hl fun cdv A outer s H E L ss M Q hr r => hb f cdv A outer s H E L ss M Q hr r, m, F.kp, b⟩
end Y

namespace Y
open PySem L2 PyProof.Rows
def tyD : PyData → String
  | .none => "NoneType"
  | .bool _ => "bool"
  | .int _ => "int"
  | .str _ => "str"
  | .list _ => "list"
  | .tuple _ => "tuple"
  | .dict _ => "dict"
def isaInt : PyData → Bool
  | .int _ => true
  | .bool _ => true
  | _ => false
def isaBool : PyData → Bool
  | .bool _ => true
  | _ => false
def isaStr : PyData → Bool
  | .str _ => true
  | _ => false
def isaDict : PyData → Bool
  | .dict _ => true
  | _ => false
def isaList : PyData → Bool
  | .list _ => true
  | _ => false
def isaTup : PyData → Bool
  | .tuple _ => true
  | _ => false
theorem kb_int (x : PyData) : kitB (tyD x) "int" = some (isaInt x) := by cases x <;> (simp only [tyD, isaInt, isaBool, isaStr, isaDict, isaList, isaTup]; decide +kernel)
theorem kb_bool (x : PyData) : kitB (tyD x) "bool" = some (isaBool x) := by cases x <;> (simp only [tyD, isaInt, isaBool, isaStr, isaDict, isaList, isaTup]; decide +kernel)
theorem kb_str (x : PyData) : kitB (tyD x) "str" = some (isaStr x) := by cases x <;> (simp only [tyD, isaInt, isaBool, isaStr, isaDict, isaList, isaTup]; decide +kernel)
theorem kb_dict (x : PyData) : kitB (tyD x) "dict" = some (isaDict x) := by cases x <;> (simp only [tyD, isaInt, isaBool, isaStr, isaDict, isaList, isaTup]; decide +kernel)
theorem kb_list (x : PyData) : kitB (tyD x) "list" = some (isaList x) := by cases x <;> (simp only [tyD, isaInt, isaBool, isaStr, isaDict, isaList, isaTup]; decide +kernel)
theorem kb_tup (x : PyData) : kitB (tyD x) "tuple" = some (isaTup x) := by cases x <;> (simp only [tyD, isaInt, isaBool, isaStr, isaDict, isaList, isaTup]; decide +kernel)
theorem tyName_d (M : Cs) (x : PyData) : tyName M (.d x) = some (tyD x) := by cases x <;> rfl
section
variable {X : Cx} {L : Lk} {M : Cs} {Q : Sl → Cs → Prop} {x : PyData}
theorem k_isaInt (q : Q (.d (.bool (isaInt x))) M) : RCk X.K L (rIsi X.K) [.d x, .t "int"] M Q := k_isi (tyName_d M x) (kb_int x) q
theorem k_isaBool (q : Q (.d (.bool (isaBool x))) M) : RCk X.K L (rIsi X.K) [.d x, .t "bool"] M Q := k_isi (tyName_d M x) (kb_bool x) q
theorem k_isaStr (q : Q (.d (.bool (isaStr x))) M) : RCk X.K L (rIsi X.K) [.d x, .t "str"] M Q := k_isi (tyName_d M x) (kb_str x) q
theorem k_isaDict (q : Q (.d (.bool (isaDict x))) M) : RCk X.K L (rIsi X.K) [.d x, .t "dict"] M Q := k_isi (tyName_d M x) (kb_dict x) q
theorem k_isaList (q : Q (.d (.bool (isaList x))) M) : RCk X.K L (rIsi X.K) [.d x, .t "list"] M Q := k_isi (tyName_d M x) (kb_list x) q
theorem k_isaTup (q : Q (.d (.bool (isaTup x))) M) : RCk X.K L (rIsi X.K) [.d x, .t "tuple"] M Q := k_isi (tyName_d M x) (kb_tup x) q
theorem k_typeD (h : isaDict x = false) (q : Q (.t (tyD x)) M) : RCk X.K L (rTyp X.K) [.d x] M Q := k_type (tyName_d M x) (fun kv e => by cases e; cases h) q
end
theorem okTy_d (x : PyData) : okTy (tyD x) := by
  cases x
  · exact okTy_NoneType
  · exact okTy_bool
  · exact okTy_int
  · exact okTy_str
  · exact okTy_list
  · exact okTy_tuple
  · exact okTy_dict
/-! ### one text joined -/
theorem join_one (z : Str) : Txt.join "" [z] = z := by
  first | rfl | simp [Txt.join]
/-! ### arguments, as data -/
def intOf : PyData → PyData
  | .int i => .int i
  | _ => .none
def short : PyData → Prop
  | .str z => z.length ≤ 16777216
  | _ => True
def strOf : PyData → PyData
  | .str z => .str z
  | _ => .none
def okName (z : Str) : Bool := decide (1 ≤ z.length) && (decide (z.length ≤ 8) && (Txt.isascii z && (Txt.isalpha z && Txt.islower z)))
def writerOf : PyData → PyData
  | .str z => if okName z = true then .str z else .none
  | _ => .none
end Y

namespace Y
open PySem L2 PyProof.Rows
/-! ### line counts, runs, contents -/
abbrev Cnt := List (Str × Int)
def kdC (cs : Cnt) : List (Key × PyData) := cs.map fun p => (.inr p.1, .int p.2)
def eCnt (cs : Cnt) : PyData := .dict (encK (kdC cs))
def eLc : Option Cnt → PyData
  | none => .none
  | some cs => eCnt cs
def getC (cs : Cnt) (z : Str) : Option Int := (cs.find? fun p => decide (p.1 = z)).map (·.2)
def high : Option Cnt → Str → Int
  | none, _ => 10 ^ 30
  | some cs, z => (getC cs z).getD 0
def okCnt (cs : Cnt) : Prop := 1 ≤ cs.length ∧ cs.length ≤ 12 ∧ (cs.map (·.1)).Nodup ∧ ∀ p ∈ cs, okName p.1 = true ∧ 0 ≤ p.2 ∧ p.2 ≤ 10 ^ 30
theorem valS_C (z : Str) : ∀ cs : Cnt, valS (slK (kdC cs)) (.inr z) = (getC cs z).map dI
  | [] => rfl
  | p :: r => by
    have ih := valS_C z r
    by_cases h : p.1 = z
    · simp [valS, slK, kdC, getC, List.find?_cons, h, dI]
    · have h' : ¬ (Sum.inr p.1 : Key) = Sum.inr z := fun e => h (Sum.inr.inj e)
      simp only [valS, slK, kdC, getC, List.map_cons, List.find?_cons, h, h', decide_false] at ih ⊢
      exact ih
abbrev Run := Str × Int × Int
def eRun (r : Run) : PyData := .tuple [.str r.1, .int r.2.1, .int r.2.2]
def sRun (r : Run) : Sl := .d (eRun r)
abbrev Line := Str × Int
def eLine (l : Line) : PyData := .tuple [.str l.1, .int l.2]
def sLine (l : Line) : Sl := .d (eLine l)
def okRun (lc : Option Cnt) (r : Run) : Prop := okName r.1 = true ∧ 1 ≤ r.2.1 ∧ r.2.1 ≤ r.2.2 ∧ r.2.2 ≤ high lc r.1
def okLine (lc : Option Cnt) (l : Line) : Prop := okName l.1 = true ∧ 1 ≤ l.2 ∧ l.2 ≤ high lc l.1
def cont (a b : Run) : Bool := decide (b.1 = a.1) && decide (b.2.1 = a.2.2 + 1)
def okC (lc : Option Cnt) (c : List Run) : Prop := (∀ r ∈ c, okRun lc r) ∧ ∀ (i : Nat) (a b : Run), c[i]? = some a → c[i + 1]? = some b → cont a b = false
/-- what plain_lines answers -/
def mkLines (lc : Option Cnt) (w f l : PyData) : PyData := match writerOf w, intOf f, intOf l with
  | .str z, .int a, .int b => if 1 ≤ a ∧ a ≤ b ∧ b ≤ high lc z then .tuple [.str z, .int a, .int b] else .none
  | _, _, _ => .none
theorem mkLines_n1 {lc : Option Cnt} {x y z : PyData} (h : isNone (.d (writerOf x)) = true) : mkLines lc x y z = .none := by
  unfold mkLines
  cases hx : writerOf x <;> rw [hx] at h <;> first | (cases h; done) | rfl
theorem mkLines_n2 {lc : Option Cnt} {x y z : PyData} (h : isNone (.d (intOf y)) = true) : mkLines lc x y z = .none := by
  unfold mkLines
  cases hy : intOf y <;> rw [hy] at h <;> first | (cases h; done) | (cases writerOf x <;> rfl)
theorem mkLines_n3 {lc : Option Cnt} {x y z : PyData} (h : isNone (.d (intOf z)) = true) : mkLines lc x y z = .none := by
  unfold mkLines
  cases hz : intOf z <;> rw [hz] at h <;> first | (cases h; done) | (cases writerOf x <;> cases intOf y <;> rfl)
theorem short_of_okName {z : Str} (h : okName z = true) : short (.str z) := by
  unfold okName at h
  simp only [Bool.and_eq_true, decide_eq_true_eq] at h
  show z.length ≤ 16777216
  omega
theorem mkLines_ok {lc : Option Cnt} {r : Run} (h : okRun lc r) : mkLines lc (.str r.1) (.int r.2.1) (.int r.2.2) = eRun r := by
  obtain ⟨h1, h2, h3, h4⟩ := h
  simp only [mkLines, writerOf, intOf, h1, if_true]
  rw [if_pos ⟨h2, h3, h4⟩]
  rfl
def withRun (c : List Run) (r : Run) : List Run := match c.getLast? with
  | some l => if cont l r = true then c.dropLast ++ [(r.1, l.2.1, r.2.2)] else c ++ [r]
  | none => c ++ [r]
def nLines (c : List Run) : Int := (c.map fun r => r.2.2 - r.2.1 + 1).sum
def tk (r : Run) (n : Int) : Int := if r.2.2 - r.2.1 + 1 < n then r.2.2 - r.2.1 + 1 else n
def cutF (r : Run) (t : Int) : List Run := if t > 0 then [(r.1, r.2.1, r.2.1 + t - 1)] else []
def cutB (r : Run) (t : Int) : List Run := if r.2.1 + t ≤ r.2.2 then [(r.1, r.2.1 + t, r.2.2)] else []
def cutC : List Run → Int → List Run × List Run
  | [], _ => ([], [])
  | r :: c, n => (cutF r (tk r n) ++ (cutC c (n - tk r n)).1, cutB r (tk r n) ++ (cutC c (n - tk r n)).2)
def cutN : List Run → Int → Nat → Int
  | [], n, _ => n
  | _ :: _, n, 0 => n
  | r :: c, n, i + 1 => cutN c (n - tk r n) i
theorem cutN_zero (c : List Run) (n : Int) : cutN c n 0 = n := by cases c <;> rfl
theorem cutN_succ : ∀ (c : List Run) (n : Int) (i : Nat) (h : i < c.length), cutN c n (i + 1) = cutN c n i - tk c[i] (cutN c n i)
  | [], _, _, h => by simp at h
  | r :: c, n, 0, h => cutN_zero c _
  | r :: c, n, i + 1, h => cutN_succ c (n - tk r n) i (by simpa using h)
theorem cut_take : ∀ (c : List Run) (n : Int) (i : Nat) (h : i < c.length), cutC (c.take (i + 1)) n = ((cutC (c.take i) n).1 ++ cutF c[i] (tk c[i] (cutN c n i)), (cutC (c.take i) n).2 ++ cutB c[i] (tk c[i] (cutN c n i)))
  | [], _, _, h => by simp at h
  | r :: c, n, 0, h => by
    show (cutF r (tk r n) ++ (cutC (c.take 0) (n - tk r n)).1, cutB r (tk r n) ++ (cutC (c.take 0) (n - tk r n)).2) = ([] ++ cutF r (tk r n), [] ++ cutB r (tk r n))
    rw [List.take_zero]
    show (cutF r (tk r n) ++ [], cutB r (tk r n) ++ []) = _
    rw [List.append_nil, List.append_nil, List.nil_append, List.nil_append]
  | r :: c, n, i + 1, h => by
    have h' : i < c.length := by simpa using h
    have := cut_take c (n - tk r n) i h'
    show (cutF r (tk r n) ++ (cutC (c.take (i + 1)) (n - tk r n)).1, cutB r (tk r n) ++ (cutC (c.take (i + 1)) (n - tk r n)).2) = ((cutF r (tk r n) ++ (cutC (c.take i) (n - tk r n)).1) ++ cutF c[i] (tk c[i] (cutN c (n - tk r n) i)), (cutB r (tk r n) ++ (cutC (c.take i) (n - tk r n)).2) ++ cutB c[i] (tk c[i] (cutN c (n - tk r n) i)))
    rw [this, List.append_assoc, List.append_assoc]
theorem cutF_len (r : Run) (t : Int) : (cutF r t).length ≤ 1 := by
  unfold cutF
  split <;> simp
theorem cutB_len (r : Run) (t : Int) : (cutB r t).length ≤ 1 := by
  unfold cutB
  split <;> simp
theorem cut_len1 : ∀ (c : List Run) (n : Int), (cutC c n).1.length ≤ c.length ∧ (cutC c n).2.length ≤ c.length
  | [], _ => ⟨Nat.le_refl _, Nat.le_refl _⟩
  | r :: c, n => by
    obtain ⟨h1, h2⟩ := cut_len1 c (n - tk r n)
    have h3 := cutF_len r (tk r n)
    have h4 := cutB_len r (tk r n)
    constructor
    · show (cutF r (tk r n) ++ (cutC c (n - tk r n)).1).length ≤ c.length + 1
      rw [List.length_append]
      omega
    · show (cutB r (tk r n) ++ (cutC c (n - tk r n)).2).length ≤ c.length + 1
      rw [List.length_append]
      omega
/-- a list or tuple, cell or data -/
def LT (M : Cs) (s : Sl) (ss : List Sl) : Prop := seqOf M s = some ss ∧ (tyName M s = some "list" ∨ tyName M s = some "tuple")
theorem LT.list (M : Cs) (ds : List PyData) : LT M (.d (.list ds)) (ds.map .d) := ⟨rfl, .inl rfl⟩
theorem LT.tup (M : Cs) (ds : List PyData) : LT M (.d (.tuple ds)) (ds.map .d) := ⟨rfl, .inr rfl⟩
theorem LT.cell {M : Cs} {a : Addr} {ss : List Sl} (h : M a = some (.l ss)) : LT M (.c a) ss := ⟨by simp only [seqOf, h], .inl (by simp only [tyName, h])⟩
/-- a cell elsewhere does not matter -/
theorem seqOf_updC {M : Cs} {s : Sl} {ss : List Sl} {p : Addr} {c : Cell} (h : seqOf M s = some ss) (hp : M p = none) : seqOf (updC M p c) s = some ss := by
  cases s with
  | c a =>
    by_cases e : a = p
    · subst e
      simp only [seqOf, hp] at h
      cases h
    · simp only [seqOf, updC_ne e]
      exact h
  | d x => cases x <;> exact h
  | t n => exact h
  | u l => exact h
  | s n => exact h
theorem tyName_updC {M : Cs} {s : Sl} {n : String} {p : Addr} {c : Cell} (h : tyName M s = some n) (hp : M p = none) : tyName (updC M p c) s = some n := by
  cases s with
  | c a =>
    by_cases e : a = p
    · subst e
      simp only [tyName, hp] at h
      cases h
    · simp only [tyName, updC_ne e]
      exact h
  | d x => cases x <;> exact h
  | t n => exact h
  | u l => exact h
  | s n => exact h
theorem LT.upd {M : Cs} {s : Sl} {ss : List Sl} {p : Addr} {c : Cell} (h : LT M s ss) (hp : M p = none) : LT (updC M p c) s ss := ⟨seqOf_updC h.1 hp, h.2.imp (fun z => tyName_updC z hp) (fun z => tyName_updC z hp)⟩
/-- the item at i, by Python's subscript -/
theorem atI_n {α : Type} {xs : List α} {j : Nat} {v : α} (h : xs[j]? = some v) : atI xs ((j : Nat) : Int) = some v := atI_nat h
theorem atI_0 {α : Type} {xs : List α} {v : α} (h : xs[0]? = some v) : atI xs 0 = some v := atI_nat (j := 0) h
theorem atI_1 {α : Type} {xs : List α} {v : α} (h : xs[1]? = some v) : atI xs 1 = some v := atI_nat (j := 1) h
theorem atI_2 {α : Type} {xs : List α} {v : α} (h : xs[2]? = some v) : atI xs 2 = some v := atI_nat (j := 2) h
theorem atI_l {α : Type} {xs : List α} {v : α} (h : xs.getLast? = some v) : atI xs (-1) = some v := by
  obtain ⟨ys, e⟩ := List.getLast?_eq_some_iff.mp h
  rw [e]
  exact atI_last ys v
end Y

namespace PySem.W
open PySem
section
variable {prog : Program} {w : World} {A : Around} {E : Value → Shared → Prop} {s : Shared}
theorem ylt_hint {x : Str} {t : Tok} {Q : Bool → Shared → Prop} (h : Q false s) : wpAny (model prog w) A (Builtin.List.listLengthHint (.str x t)) Q E s := by
  unfold Builtin.List.listLengthHint
  refine wpAny_bind (wpAny_specialOf (typeIs_str s x t) PySem.F.slot_str_len.lookup ?_)
  generalize hid : ("str.__len__" : String) = id0
  wp_delta
  rw [show splitId id0 = some ("str", "__len__") from by subst hid; decide +kernel]
  subst hid
  refine wpAny_bind (wpAny_isInstance (T := "str") (b := true) (typeIs_str s x t) (by rw [isSubtype_type]; kernel_rfl) ?_)
  refine wpAny_ite_split (fun hab => absurd hab (by decide)) (fun _ => ?_)
  refine wpAny_ite_split (fun _ => ?_) (fun hab => absurd (by decide +kernel) hab)
  refine wpAny_bind (wpAny_typeOf (typeIs_str s x t) ?_)
  exact wpAny_pure h
theorem ylt_extend {R : Result → Shared → Prop} {x : Str} {t : Tok} (hh : A.handled = none) (S : Addr) (res : Value) (c₀ : Nat) (hS : s.heap.get? S = some { cls := .type "list", data := .seq #[] c₀ })
    (hR : ∀ h' tk acc' c', (∀ b o, b ≠ S → s.heap.get? b = some o → h'.get? b = some o) → h'.get? S = some { cls := .type "list", dict := none, data := .seq acc' c', slots := #[] } → ItemsOf (SignAt x) acc' x.cps.size → R (.ok (.ret res)) { s with heap := h', toks := tk }) (hn : x.cps.size ≤ sizeLine) :
    wpAny (model prog w) A.in1 (Builtin.List.listExtendWith (.ref S) (.str x t) res)
      (fun fin s' => match fin with | .done f => R (.ok f) s' | .again c' => c'.quiet = true ∧ codeAny (model prog w) A c' R s') (fun e s' => R (.error e) s') s := by
  have hSI : S ≠ s.heap.objs.size := Nat.ne_of_lt (Heap.lt_size hS)
  have hSf : S ∉ [s.heap.objs.size] := by simp only [List.mem_cons, List.not_mem_nil, or_false]; exact hSI
  unfold Builtin.List.listExtendWith
  refine wpAny_bind (wpAny_typeOf (T := "str") (typeIs_str s x t) ?_)
  have h1 : Builtin.List.listSameRef (.ref S) (.str x t) = false := rfl
  simp only [h1, show (Value.type "str" == Value.type "list") = false by decide +kernel, show (Value.type "str" == Value.type "tuple") = false by decide +kernel, Bool.or_false, Bool.false_eq_true, if_false]
  refine wpAny_bind (wpAny_pyIter_str fun oI St hW st => ?_)
  have W := hW A hh
  have key : ∀ (h : Heap) (c₁ tk : Nat), St 0 h → (∀ b o, b ≠ S → s.heap.get? b = some o → h.get? b = some o) →
      h.get? S = some { cls := .type "list", data := .seq #[] c₁ } → codeAny (model prog w) A (.builtin "list.extend.loop" ⟨[.ref S, .ref s.heap.objs.size, res], []⟩) R { s with heap := h, toks := tk } := by
    intro h c₁ tk hst hk hS₁
    refine codeAny_extend_loopS (hW A.in1 hh).toS hn S hSf res x.cps.size 0 _ #[] c₁ rfl (Nat.zero_le _) hst hS₁ (ItemsOf.nil _) fun s' acc' c' hm hS' hacc => ?_
    rw [Moved.eq_with hm]
    refine hR s'.heap s'.toks acc' c' (fun b o hb e => hm.heap b o (fun hmem => ?_) (hk b o hb e)) hS' hacc
    rcases List.mem_cons.mp hmem with e' | hmem
    · exact hb e'
    · exact absurd (Heap.lt_size e) (by rw [List.mem_singleton.mp hmem]; exact Nat.lt_irrefl _)
  have hS₁ := Heap.get?_push_of_some oI hS
  refine wpAny_bind (wpAny_holding (ylt_hint ?_))
  refine wpAny_ite_split (fun _ => ?_) (fun _ => wpAny_pure ⟨plainId_quiet PySem.F.plain_extend_loop _, key _ c₀ _ st (fun b o _ e => Heap.get?_push_of_some _ e) hS₁⟩)
  refine wpAny_bind (wpAny_rule ?_)
  refine wpAny_bind ?_
  show wpAny _ _ (updateSeq S (·.push .none) >>= fun _ => updateSeq S (·.pop)) _ _ _
  refine wpAny_bind (wpAny_updateSeq hS₁ rfl ?_)
  have hS₂ := Heap.get?_update_self (Obj.mapSeq (·.push Value.none)) hS₁ rfl
  refine wpAny_updateSeq (hz := by seq_fits) hS₂ rfl ?_
  have hS₃ := Heap.get?_update_self (Obj.mapSeq (·.pop)) hS₂ rfl
  refine wpAny_pure ⟨plainId_quiet PySem.F.plain_extend_loop _, key _ _ _ ?_ (fun b o hb e => ?_) hS₃⟩
  · refine W.frame 0 _ _ st fun b hb o e => ?_
    have hbS : b ≠ S := fun h => hSf (h ▸ hb)
    exact (Heap.get?_update_other _ _ (Ne.symm hbS)).trans ((Heap.get?_update_other _ _ (Ne.symm hbS)).trans e)
  · exact (Heap.get?_update_other _ _ (Ne.symm hb)).trans ((Heap.get?_update_other _ _ (Ne.symm hb)).trans (Heap.get?_push_of_some _ e))
theorem ylt_init {R : Result → Shared → Prop} {x : Str} {t : Tok} (hh : A.handled = none) (S : Addr) (hS : s.heap.get? S = some { cls := .type "list", data := .seq #[] })
    (hR : ∀ h' tk acc' c', (∀ b o, b ≠ S → s.heap.get? b = some o → h'.get? b = some o) → h'.get? S = some { cls := .type "list", dict := none, data := .seq acc' c', slots := #[] } → ItemsOf (SignAt x) acc' x.cps.size → R (.ok (.ret .none)) { s with heap := h', toks := tk }) (hn : x.cps.size ≤ sizeLine) :
    wpAny (model prog w) A.in1 (Builtin.«list.__init__» ⟨[.ref S, .str x t], []⟩)
      (fun fin s' => match fin with | .done f => R (.ok f) s' | .again c' => c'.quiet = true ∧ codeAny (model prog w) A c' R s') (fun e s' => R (.error e) s') s := by
  show wpAny _ _ (do let old ← Builtin.List.listItems (.ref S); Builtin.List.listUpdate (.ref S) (fun _ => #[]); letGo old.toList.reverse; Builtin.List.listExtendWith (.ref S) (.str x t) .none) _ _ s
  refine wpAny_bind ?_
  unfold Builtin.List.listItems
  refine wpAny_bind (wpAny_seqItems hS rfl (wpAny_pure ?_))
  show wpAny _ _ (updateSeq S (fun _ => #[]) >>= fun _ => letGo (#[] : Array Value).toList.reverse >>= fun _ => Builtin.List.listExtendWith (.ref S) (.str x t) .none) _ _ s
  refine wpAny_bind (wpAny_updateSeq hS rfl ?_)
  have hS₂ := Heap.get?_update_self (Obj.mapSeq (fun _ => (#[] : Array Value))) hS rfl
  have oth : ∀ b o, b ≠ S → s.heap.get? b = some o → (s.heap.update S (Obj.mapSeq (fun _ => (#[] : Array Value)))).get? b = some o :=
    fun b o hb e => (Heap.get?_update_other _ _ (Ne.symm hb)).trans e
  refine wpAny_bind (wpAny_letGo ?_)
  refine ylt_extend hh S .none _ hS₂ (fun h' tk acc' c' hk hS' hacc => ?_) hn
  exact hR h' tk acc' c' (fun b o hb e => hk b o hb (oth b o hb e)) hS' hacc
theorem ylt_call {Q : Value → Shared → Prop} {x : Str} {t : Tok} (hh : A.handled = none) (hn : x.cps.size ≤ sizeLine)
    (hQ : ∀ h' tk acc' c', (∀ b o, s.heap.get? b = some o → h'.get? b = some o) → h'.get? s.heap.objs.size = some { cls := .type "list", dict := none, data := .seq acc' c', slots := #[] } → ItemsOf (SignAt x) acc' x.cps.size → Q (.ref s.heap.objs.size) { s with heap := h', toks := tk }) :
    wpAny (model prog w) A (call (.type "list") [.str x t]) Q E s := by
  refine callType_codes (Q₁ := fun obj s₁ => obj = .ref s.heap.objs.size ∧ s₁ = { s with heap := s.heap.push { cls := .type "list", data := .seq #[] } }) PySem.F.called_list (PySem.F.typeCall_list_1 _) PySem.F.entry_list_init
    (code_list_new _ ⟨rfl, rfl⟩) fun obj s₁ h₁ => ?_
  obtain ⟨rfl, rfl⟩ := h₁
  have hS : (s.heap.push { cls := .type "list", data := .seq #[] }).get? s.heap.objs.size = some { cls := .type "list", data := .seq #[] } := Heap.get?_push_size _ rfl
  refine ⟨⟨_, hS, rfl⟩, PySem.F.args_list_init_2 _ _, ylt_init (A := A.in1) hh _ hS (fun h' tk acc' c' hk hS' hacc => ?_) hn⟩
  exact ⟨rfl, hQ h' tk acc' c' (fun b o e => hk b o (Nat.ne_of_lt (Heap.lt_size e)) (Heap.get?_push_of_some _ e)) hS' hacc⟩
end
end PySem.W
namespace Y
open PySem L2 PyProof.Rows
def signs (x : Str) : List Str := x.cps.toList.map fun c => ⟨#[c]⟩
section
variable {X : Cx} {L : Lk} {M : Cs} {Q : Sl → Cs → Prop}
theorem call_listS (hc : X.calm = true) : CallR X (.type "list") (fun xs H Q => ∃ x : Str, xs = [.str x] ∧ x.cps.size ≤ sizeLine ∧ ∀ l, H l = none → Q (.ref l) (upd H l (.lst ((signs x).map V.str)))) := by
  intro pins s σ H xs us Q I r h
  obtain ⟨x, rfl, hn, q⟩ := h
  obtain ⟨u, rfl, t, rfl⟩ := vals1 r
  refine PySem.W.ylt_call (I.ok.hd hc) hn fun h' tk acc c' hk hD hacc => ?_
  have hv : Vals ((signs x).map V.str) acc.toList := by
    have hl : (signs x).length = acc.toList.length := by
      have e1 : acc.size = x.cps.size := hacc.1
      simp only [signs, List.length_map, Array.length_toList, e1]
    have gen : ∀ (ys : List Str) (vs : List Value), ys.length = vs.length → (∀ (j : Nat) y v, ys[j]? = some y → vs[j]? = some v → RelV (.str y) v) → Vals (ys.map V.str) vs := by
      intro ys
      induction ys with
      | nil => intro vs hl _; cases vs with
        | nil => exact .nil
        | cons a b => simp at hl
      | cons y r ih => intro vs hl f; cases vs with
        | nil => simp at hl
        | cons a b => exact .cons (f 0 y a rfl rfl) (ih b (by simpa using hl) fun j y v h1 h2 => f (j + 1) y v (by simpa using h1) (by simpa using h2))
    refine gen _ _ hl fun j y v h1 h2 => ?_
    obtain ⟨c, u, e1, e2⟩ := hacc.2 j v (by rw [← Array.getElem?_toList]; exact h2)
    subst e2
    have e3 : y = ⟨#[c]⟩ := by
      unfold signs at h1
      rw [List.getElem?_map, Array.getElem?_toList, e1] at h1
      exact (Option.some.inj h1).symm
    subst e3
    exact ⟨u, rfl⟩
  refine ⟨.ref s.heap.objs.size, upd H s.heap.objs.size (.lst ((signs x).map V.str)), I.laid (t' := tk) hk (Nat.le_refl _)
    (show ObjOk X.prog X.w _ _ _ (.lst ((signs x).map V.str)) from ⟨by rw [List.length_map]; simp [signs]; exact hn, acc.toList, c', hv, by rw [Array.toArray_toList]; exact hD⟩), rfl, q _ (I.hok.fresh (Nat.le_refl _))⟩
theorem k_listS {x : Str} (hn : x.cps.size ≤ sizeLine) (q : ∀ p, M p = none → Q (.c p) (updC M p (.l ((signs x).map dS)))) : RCk X.K L (fun xs H Q => ∃ x : Str, xs = [.str x] ∧ x.cps.size ≤ sizeLine ∧ ∀ l, H l = none → Q (.ref l) (upd H l (.lst ((signs x).map V.str)))) [dS x] M Q := fun G H vs Q' g a k => by
  obtain ⟨v, rfl, a1⟩ := sl1 a
  rw [sl_str a1]
  exact ⟨x, rfl, hn, fun c hc => k _ _ _ G _ (q c (g.free hc).2) (Ex.refl G) (g.newC hc ⟨_, upd_same, strs_sl _⟩) (.c c)⟩
/-- isinstance(x, (A, B)) -/
def rIsiR (K : PySem.W.Frag) : List V → Hp → VK → Prop := fun xs H Q => ∃ (x : V) (tp : Addr) (cs : List V) (t : Value) (us : List Value) (b : Bool), xs = [x, .ref tp] ∧ Rd H tp (.tup cs) ∧ Paired ClsV cs us ∧ TyX K H x t ∧ PySem.W.kitAny K t us = some b ∧ Q (.bl b) H
theorem call_isiR : CallR X (.builtin "isinstance") (rIsiR X.K) := by
  intro pins s σ H xs us Q I r h
  obtain ⟨x, tp, cs, t, ws, b, rfl, hT, k, ty, e, q⟩ := h
  obtain ⟨u1, u2, rfl, r1, r2⟩ := vals2 r
  cases (show u2 = Value.ref tp from r2)
  obtain ⟨P, Z, p, hx⟩ := kit_of I r1 ty
  obtain ⟨_, its, rv, o, h1, h2, n, h3⟩ := (show ObjOk X.prog X.w H s.heap tp (.tup cs) from hT.ok I.hok)
  have e3 := ClsV.all k rv
  subst e3
  obtain ⟨oc, od, dt, sl⟩ := o
  simp only at h2 h3
  subst h2 h3
  exact PySem.W.kia_tup Z I.kIn p h1 e hx fun tk => ⟨.bl b, H, I.tok tk, rfl, q⟩
theorem cls_paired : ∀ ts : List String, Paired ClsV (ts.map V.ty) (ts.map Value.type)
  | [] => .nil
  | t :: r => .cons (.ty t) (cls_paired r)
theorem k_isiR {s : Sl} {ts : List String} {n : String} {b : Bool} (h : tyName M s = some n) (hb : ∀ K, PySem.W.kitAny K (.type n) (ts.map Value.type) = some b) (q : Q (.d (.bool b)) M) : RCk X.K L (rIsiR X.K) [s, .u (ts.map .t)] M Q := fun G H vs Q' g a k => by
  obtain ⟨v, u, rfl, a1, a2⟩ := sl2 a
  cases a2 with
  | u e l =>
    have z := tys_sl l
    subst z
    exact ⟨v, _, _, .type n, ts.map Value.type, b, rfl, g.rd e, cls_paired ts, ty_at g a1 h, hb _, k.go q g (.d (.bl _))⟩
theorem kitAny_LT (K : PySem.W.Frag) (x : PyData) : PySem.W.kitAny K (.type (tyD x)) (["list", "tuple"].map Value.type) = some (isaList x || isaTup x) := by
  refine kitAny_cons (kit_ty (kb_list x)) (fun h => ?_) (fun h => by rw [h]; rfl)
  refine kitAny_cons (kit_ty (kb_tup x)) (fun h2 => ?_) (fun h2 => by rw [h, h2]; rfl)
  rw [h, h2]
  exact kitAny_nil
end
/-! name = [..] where the comprehension is a statement's whole value -/
section
variable {X : Cx} {L : Lk} {τ : List (Option Sl)} {M : Cs} {elt tg iter c : Expr} {scope : Scope} {own : List (Str × Nat)} {pos spos py : Pos} {g : TG} {E : Ks} {i : Nat} {y : Str}
theorem ds_setLc1 (hc : X.calm = true) (hN : X.N.Nodup) (hy : X.N[i]? = some y) (hyl : X.env.scope.names.lookup y = some .local)
    (hsw : swapsWith (.ListComp elt [⟨tg, iter, [c], 0⟩] scope pos) (some (.Name y py)) spos.line X.env = pure true) (ok : BlkOk X.N X.env.scope scope own) (hg : ∀ (s : Shared) (H : Hp) (C : Addr) (cl : List (Str × Addr)) (fp : List Addr), PG (X.blk s H scope (compEnvC scope cl C X.env) fp) tg g)
    (w : DI X L tg iter τ M fun n S ys M1 => ∀ D, M1 D = none → ∃ Iv : Nat → Cs → Prop, Iv 0 (updC M1 D (.l [])) ∧ (∀ i M', Iv i M' → S M') ∧
      (∀ i y M', i < n → ys i y → Iv i M' → WGw X.K L (own.map (·.2)) g y (wipeK τ (own.map (·.2))) M' fun τ2 M3 => DTb X scope L c τ2 M3 fun d M3 => (d = true → DEb X scope L elt τ2 M3 fun z M4 => ∃ acc, M4 D = some (.l acc) ∧ acc.length < sizeLine ∧ Iv (i + 1) (updC M4 D (.l (acc ++ [z])))) ∧ (d = false → Iv (i + 1) M3)) ∧ (∀ M', Iv n M' → E.nx (τ.set i (some (.c D))) M'))
    (hs : ∀ x, foldedSetIterable iter X.env x = pure x := by intro _; rfl) : DS X L (.Assign [.Name y py] (.ListComp elt [⟨tg, iter, [c], 0⟩] scope pos) spos) τ M E := by
  refine ds_of (ps_setLc (te := bE X scope elt) (tt := bT X scope c) hc hN hy hyl hsw pi_s ok hg (fun s H C cl fp => pts_one ⟨fun pins s' σ H' Q' I h => h s H C cl fp pins s' I⟩) (fun s H C cl fp => ⟨fun pins s' σ H' Q' I h => h s H C cl fp pins s' I⟩) hs) fun σ G H D gs gm k => ?_
  refine we_lc (L := L) (M := M) (τ := τ) (Q := fun s M' => E.nx (τ.set i (some s)) M') (fun σ G H R gs gm k => w σ G H R gs gm fun n S ys M1 G1 H1 J q e1 g1 ok => k n S ys M1 G1 H1 J (fun D hD => ?_) e1 g1 ok) σ G H _ gs gm (fun s M1 v G1 H1 q e1 g1 a1 => (k.nx.mono e1).go q g1 ((gs.mono e1).set a1 i))
  obtain ⟨Iv, i0, st, turn, fin⟩ := q D hD
  refine ⟨Iv, i0, st, fun i y M' hi yy iv => ?_, fin⟩
  intro σ G H v Q' gs gm a k
  refine turn i y M' hi yy iv σ G H v Q' gs gm a fun τ' M' σ' G' H' h => k τ' M' σ' G' H' ?_
  intro σ G H Q' gs gm k
  exact wtb h σ G H Q' gs gm fun d M5 G5 H5 q5 => k d M5 G5 H5 ⟨fun z => web (q5.1 z), q5.2⟩
end
section
variable {X : Cx} {L : Lk} {τ : List (Option Sl)} {M : Cs} {Q : Sl → Cs → Prop} {a b c : Expr} {p2 pos : Pos}
theorem de_slHi (w : DE X L a τ M fun x M1 => DE X L b τ M1 fun y M2 => ∃ n, y = .d (.int n) ∧ ∃ ss, isTup x = false ∧ seqOf M2 x = some ss ∧ ∀ p, M2 p = none → Q (.c p) (updC M2 p (.l (cutG ss none (some n))))) : DE X L (.Subscript a (.Slice none (some b) none p2) pos) τ M Q := de_sl (lo := none) (hi := some b) w
theorem de_slLo (w : DE X L a τ M fun x M1 => DE X L b τ M1 fun y M2 => ∃ n, y = .d (.int n) ∧ ∃ ss, isTup x = false ∧ seqOf M2 x = some ss ∧ ∀ p, M2 p = none → Q (.c p) (updC M2 p (.l (cutG ss (some n) none)))) : DE X L (.Subscript a (.Slice (some b) none none p2) pos) τ M Q := de_sl (lo := some b) (hi := none) w
theorem de_slLH (w : DE X L a τ M fun x M1 => DE X L b τ M1 fun y M2 => ∃ m, y = .d (.int m) ∧ DE X L c τ M2 fun z M3 => ∃ n, z = .d (.int n) ∧ ∃ ss, isTup x = false ∧ seqOf M3 x = some ss ∧ ∀ p, M3 p = none → Q (.c p) (updC M3 p (.l (cutG ss (some m) (some n))))) : DE X L (.Subscript a (.Slice (some b) (some c) none p2) pos) τ M Q := de_sl (lo := some b) (hi := some c) w
end
/-! ### slices of lists, at places that are told -/
theorem cutG_hi {α : Type} (xs : List α) (n : Nat) : cutG xs none (some (n : Int)) = xs.take n := by
  unfold cutG
  rw [HT.sIx_none, HT.sIx_nat, List.drop_zero, Nat.sub_zero]
  by_cases h : n ≤ xs.length
  · rw [Nat.min_eq_left h]
  · rw [Nat.min_eq_right (by omega), List.take_of_length_le (Nat.le_refl _), List.take_of_length_le (by omega)]
theorem cutG_lohi {α : Type} (xs : List α) (m n : Nat) : cutG xs (some (m : Int)) (some (n : Int)) = (xs.take n).drop m := by
  unfold cutG
  rw [HT.sIx_nat, HT.sIx_nat, List.drop_take]
  by_cases h : m ≤ xs.length
  · rw [Nat.min_eq_left h]
    by_cases h2 : n ≤ xs.length
    · rw [Nat.min_eq_left h2]
    · rw [Nat.min_eq_right (by omega), List.take_of_length_le (by rw [List.length_drop]; omega), List.take_of_length_le (by rw [List.length_drop]; omega)]
  · rw [Nat.min_eq_right (show xs.length ≤ m by omega), List.drop_of_length_le (Nat.le_refl _), List.drop_of_length_le (show xs.length ≤ m by omega)]
    simp
/-! ### equal data -/
theorem eqvAll_map {α : Type} [DecidableEq α] (f : α → PyData) (h : ∀ a b, PyData.eqv (f a) (f b) = decide (a = b)) : ∀ c d : List α, PyData.eqvAll (c.map f) (d.map f) = decide (c = d)
  | [], [] => by simp [PyData.eqvAll]
  | [], _ :: _ => by simp [PyData.eqvAll]
  | _ :: _, [] => by simp [PyData.eqvAll]
  | a :: c, b :: d => by
    show (PyData.eqv (f a) (f b) && PyData.eqvAll (c.map f) (d.map f)) = _
    rw [h, eqvAll_map f h c d]
    by_cases e : a = b <;> by_cases e2 : c = d <;> simp [e, e2]
theorem eqv_list {α : Type} [DecidableEq α] (f : α → PyData) (h : ∀ a b, PyData.eqv (f a) (f b) = decide (a = b)) (c d : List α) : PyData.eqv (.list (c.map f)) (.list (d.map f)) = decide (c = d) := eqvAll_map f h c d
theorem eqv_int (a b : Int) : PyData.eqv (.int a) (.int b) = decide (a = b) := by
  show (a == b) = _
  by_cases e : a = b <;> simp [e]
theorem eqv_str (a b : Str) : PyData.eqv (.str a) (.str b) = decide (a = b) := by
  show (a == b) = _
  by_cases e : a = b <;> simp [e]
theorem eqv_run (a b : Run) : PyData.eqv (eRun a) (eRun b) = decide (a = b) := by
  obtain ⟨w, f, l⟩ := a
  obtain ⟨w', f', l'⟩ := b
  show (PyData.eqv (.str w) (.str w') && (PyData.eqv (.int f) (.int f') && (PyData.eqv (.int l) (.int l') && true))) = _
  rw [eqv_str, eqv_int, eqv_int]
  by_cases e1 : w = w' <;> by_cases e2 : f = f' <;> by_cases e3 : l = l' <;> simp [e1, e2, e3]
theorem eqv_line (a b : Line) : PyData.eqv (eLine a) (eLine b) = decide (a = b) := by
  obtain ⟨w, f⟩ := a
  obtain ⟨w', f'⟩ := b
  show (PyData.eqv (.str w) (.str w') && (PyData.eqv (.int f) (.int f') && true)) = _
  rw [eqv_str, eqv_int]
  by_cases e1 : w = w' <;> by_cases e2 : f = f' <;> simp [e1, e2]
theorem strOk_name {z : Str} (h : okName z = true) : PyData.strOk z = true := by
  unfold okName at h
  simp only [Bool.and_eq_true] at h
  have h3 : Txt.isascii z = true := h.2.2.1
  unfold Txt.isascii at h3
  unfold PyData.strOk
  rw [Array.all_eq_true] at h3 ⊢
  intro i hi
  have := h3 i hi
  simp only [decide_eq_true_eq] at this ⊢
  omega
theorem canLayAll_map {α : Type} (f : α → PyData) : ∀ c : List α, (∀ a ∈ c, (f a).canLay0 = true) → PyData.canLayAll0 (c.map f) = true
  | [], _ => rfl
  | a :: c, h => by
    show ((f a).canLay0 && PyData.canLayAll0 (c.map f)) = true
    rw [h a List.mem_cons_self, canLayAll_map f c fun b hb => h b (List.mem_cons_of_mem _ hb)]
    rfl
theorem depthAll_map {α : Type} (f : α → PyData) (n : Nat) : ∀ c : List α, (∀ a ∈ c, (f a).depth ≤ n) → PyData.depthAll (c.map f) ≤ n
  | [], _ => Nat.zero_le _
  | a :: c, h => by
    show max (f a).depth (PyData.depthAll (c.map f)) ≤ n
    exact Nat.max_le.mpr ⟨h a List.mem_cons_self, depthAll_map f n c fun b hb => h b (List.mem_cons_of_mem _ hb)⟩
theorem shaped_list {α : Type} (f : α → PyData) (c : List α) (n : Nat) (hn : n ≤ 63) (h1 : ∀ a ∈ c, (f a).canLay0 = true) (h2 : ∀ a ∈ c, (f a).depth ≤ n) : SeqAt.shaped (.list (c.map f)) = true := by
  unfold SeqAt.shaped
  rw [Bool.and_eq_true]
  refine ⟨canLayAll_map f c h1, ?_⟩
  have : PyData.depth (.list (c.map f)) = PyData.depthAll (c.map f) + 1 := rfl
  have := depthAll_map f n c h2
  simp only [decide_eq_true_eq]
  omega
theorem can_run {r : Run} (h : okName r.1 = true) : (eRun r).canLay0 = true := by
  show (PyData.strOk r.1 && (true && (true && true))) = true
  rw [strOk_name h]
  rfl
theorem can_line {r : Line} (h : okName r.1 = true) : (eLine r).canLay0 = true := by
  show (PyData.strOk r.1 && (true && true)) = true
  rw [strOk_name h]
  rfl
theorem shaped_runs (c : List Run) (h : ∀ r ∈ c, okName r.1 = true) : SeqAt.shaped (.list (c.map eRun)) = true := shaped_list eRun c 1 (by decide) (fun r hr => can_run (h r hr)) (fun r _ => Nat.le_refl 1)
theorem shaped_lines (c : List Line) (h : ∀ r ∈ c, okName r.1 = true) : SeqAt.shaped (.list (c.map eLine)) = true := shaped_list eLine c 1 (by decide) (fun r hr => can_line (h r hr)) (fun r _ => Nat.le_refl 1)
theorem shaped_ints (ns : List Int) : SeqAt.shaped (.list (ns.map PyData.int)) = true := shaped_list PyData.int ns 0 (by decide) (fun _ _ => rfl) (fun _ _ => Nat.le_refl 0)
theorem isd_runs {M : Cs} {a : Addr} {c : List Run} (h : M a = some (.l (c.map sRun))) : IsD M (.c a) (.list (c.map eRun)) := IsD.cell (by rw [h, List.map_map]; rfl)
theorem isd_lines {M : Cs} {a : Addr} {c : List Line} (h : M a = some (.l (c.map sLine))) : IsD M (.c a) (.list (c.map eLine)) := IsD.cell (by rw [h, List.map_map]; rfl)
theorem isd_ints {M : Cs} {a : Addr} {c : List Int} (h : M a = some (.l (c.map dI))) : IsD M (.c a) (.list (c.map PyData.int)) := IsD.cell (by rw [h, List.map_map]; rfl)
end Y

namespace Y
open PySem L2 PyProof.Rows
/-! ### defs that may be called where no repr is under way -/
/-- the same promise as a def's, asked only where no repr is under way -/
structure Calm (P : Program) (w : World) (K : PySem.W.Frag) (mg : Str → Option Value) (base : Heap) (k : Nat) (f : Addr) (fd : FuncData) (ps : List Str) (sp : Sp) : Prop where
  cnt : ∀ vs H Q E, sp vs H Q E → vs.length = ps.length
  go : ∀ (B : Around) (fr : List Env) (t : Shared) (H : Hp) (ar : Args) (us : List Value) (vs : List V) (Q : VK) (E : XK), Room k B → B.guards = some [] → Env0 P w K mg base B fr t H →
    BindsTo t fd ar (ps.zip us) → Vals vs us → sp vs H Q E → codeAny (model P w) B (.call (.ref f) ar) (CR CX0 fr P w H t Q E) t
section
variable {P : Program} {w : World} {K : PySem.W.Frag} {mg : Str → Option Value} {base : Heap}
theorem calm_of {R : Rr} {x qual : Str} {st : Stmt} {f : Addr} {fd : FuncData} {N ps : List Str} {k : Nat} (F : Fun K x qual st f fd) (S : FnScope N ps (defScope st)) (hl : ∀ L ss M Q, R L ss M Q → ss.length = ps.length)
    (hb : ∀ (cdv : Value) (A : Around) (outer : List Env) (s : Shared) (H : Hp) (E : XK) (L : Lk) (ss : List Sl) (M : Cs) (Q : Sl → Cs → Prop), Room k (A.deeper (envOfC qual (defScope st) s.heap.objs.size f cdv)) → A.guards = some [] → R L ss M Q →
      DB ((cxOf CX0 P w K mg base N qual (defScope st) f cdv A outer s H E).nox) L (defBody st) (startK N ss) M { nx := fun _ M' => Q (.d .none) M', rt := Q }) : Calm P w K mg base (k + 1) f fd ps (Spk K R) := by
  obtain ⟨oc, od, kV, doc, pm, an, cdv, ct, osl, rfl, lk, hcd⟩ := F.ex
  have hn : ∀ vs H Q E, Spk K R vs H Q E → vs.length = ps.length := fun vs H Q E ⟨L, M, G, ss, Q0, g, a, r, _⟩ => by
    rw [a.len]
    exact hl L ss M Q0 r
  refine ⟨hn, fun B fr t H ar us vs Q E room noG e0 bd rel prom => ?_⟩
  have inK : K.In t.heap := e0.mod.kin.keeps fun b o z => (e0.bs b o z).1
  have noL : t.heap.NoLimit := e0.mod.nolimit.keeps fun b o z => (e0.bs b o z).1
  refine codeAny_call_function room.depth (inK _ _ lk) rfl S.co S.gen rfl (PySem.W.codeRec_of inK hcd) (bd _ _ _ _ ?_)
  refine wpAny_newFunctionEnv_cells S.kind (fun z hz => ?_) fun env he s1 inC => ?_
  · obtain ⟨zn, zv⟩ := z
    rcases S.par zn (List.of_mem_zip hz).1 with o | o
    · exact .inl o
    · exact .inr ⟨o, PySem.W.cellsFrom_some _ _ _ (.inl o)⟩
  subst he
  refine ⟨noL.keeps inC.toInCall.keep, codeAny_func ?_⟩
  have I : Inv (cxOf CX0 P w K mg base N qual (defScope st) f cdv B fr t H E) [] (start N vs) H s1 := inv_start S room.hd e0 (hn _ _ _ _ prom) rel inC
  obtain ⟨L, M, G, ss, Q0, g, a, r, q⟩ := prom
  have body := hb cdv B fr t H E L ss M Q0 (room.deeper _) noG r _ G H { nx := fun _ H' => Q .non H', rt := Q, bk := fun _ _ => False, ct := fun _ _ => False } (good_start a) g ⟨fun τ' M' σ' G' H' h e g' _ => q _ M' _ G' H' h e g' (.d .non), q, fun _ _ _ _ _ h => h.elim, fun _ _ _ _ _ h => h.elim⟩
  have run := (pss_s (X := (cxOf CX0 P w K mg base N qual (defScope st) f cdv B fr t H E).nox) (sts := defBody st)).nox.run [] s1 (start N vs) H _ I body
  refine wpAny_mono run (fun fl s' hs => ?_) fun _ _ hs => hs
  cases fl with
  | ret u =>
    obtain ⟨v, σ', H', J, rv, qv⟩ := hs
    exact ⟨v, H', J.os, J.bare, J.base, J.hok, rv, qv⟩
  | next =>
    obtain ⟨σ', H', J, qv⟩ := hs
    exact ⟨V.non, H', J.os, J.bare, J.base, J.hok, rfl, qv⟩
  | brk => exact hs.elim fun _ z => z.elim fun _ z => z.2.elim
  | cont => exact hs.elim fun _ z => z.elim fun _ z => z.2.elim
/-- a def that may be called where no repr is under way: where it stands -/
def CalG (P : Program) (w : World) (K : PySem.W.Frag) (mg : Str → Option Value) (base : Heap) (x : Str) (k : Nat) (ps : List Str) (R : Rr) : Prop :=
  ∃ (f : Addr) (fd : FuncData), Calm P w K mg base k f fd ps (Spk K R) ∧ mg x = some (.ref f) ∧ PySem.W.keepIn K (.ref f) = true ∧ Binds K fd ps []
theorem calG_of {R : Rr} {x : Str} {st : Stmt} {N ps : List Str} {k : Nat} (F : FunAt K mg x st ps) (S : FnScope N ps (defScope st)) (hl : ∀ L ss M Q, R L ss M Q → ss.length = ps.length)
    (hb : ∀ (f : Addr) (cdv : Value) (A : Around) (outer : List Env) (s : Shared) (H : Hp) (E : XK) (L : Lk) (ss : List Sl) (M : Cs) (Q : Sl → Cs → Prop), Room k (cxF P w K mg base N x st f cdv A outer s H E).A → A.guards = some [] → R L ss M Q →
      DB (cxF P w K mg base N x st f cdv A outer s H E) L (defBody st) (startK N ss) M { nx := fun _ M' => Q (.d .none) M', rt := Q }) : CalG P w K mg base x (k + 1) ps R := by
  obtain ⟨f, fd, F, m, b⟩ := F
  exact ⟨f, fd, calm_of F S hl fun cdv A outer s H E L ss M Q hr hg r => hb f cdv A outer s H E L ss M Q hr hg r, m, F.kp, b⟩
end
section
variable {X : Cx} {L : Lk} {τ : List (Option Sl)} {M : Cs} {Q : Sl → Cs → Prop} {e : Expr} {es : List Expr} {pos p : Pos}
theorem de_callG {R : Rr} {k : Nat} {ps : List Str} {x : Str} (c : CalG X.prog X.w X.K X.mg X.base x k ps R) (hr : Room k X.A) (noG : X.A.guards = some []) (hg : Gl X x) (wd : DA X L (e :: es) τ M fun ss M1 => R L ss M1 Q) (hdb : (x == ("__debug__" : Str)) = false := by decide)
    (he : starEach (e :: es) X.env = (false, eval e X.env) :: starEach es X.env := by rfl) (hpl : (backTo pos (starEach es X.env)).any (·.1) = false := by rfl) : DE X L (.Call (.Name x p) (e :: es) [] pos) τ M Q := by
  obtain ⟨f, fd, F, hm, hk, hb⟩ := c
  refine de_of (te := fun σ H Q' => sA X (e :: es) σ H fun vs H1 => Spk X.K R vs H1 Q' fun _ _ _ => False) ⟨fun pins s σ H Q' I h => ?_⟩ fun σ G H Q' gs gm kk => wd σ G H _ gs gm fun ss M1 vs G1 H1 q e1 g1 a1 => ⟨L, M1, G1, ss, Q, g1, a1, q, kk.mono e1⟩
  refine wpAny_Call_Name_kw (ld_glob I hg hm ?_ hdb)
  refine PySem.W.callWith_K (h₀ := X.base) I.ok.mod.kin hk (thn (pa_s.run pos pins s σ H _ I h) fun us s1 ⟨vs, H1, I1, rl, pr⟩ => ⟨I1.kIn, ?_⟩) he hpl
  have hlen : us.length = ps.length := by rw [← rl.length]; exact F.cnt _ _ _ _ pr
  have bd := hb s1 us I1.kIn (by rw [List.append_nil]; exact hlen)
  rw [List.append_nil] at bd
  refine wpAny_call (codeAny_mono (F.go X.A X.stack s1 H1 ⟨us, []⟩ us vs Q' _ hr noG I1.env0 bd rl pr) fun o s' hq => ?_)
  cases o with
  | error e => exact pass0 pins σ H1 s1 e s' I1 hq
  | ok fl =>
    cases fl with
    | ret u => exact I1.after hq
    | next => exact hq.elim
    | brk => exact hq.elim
    | cont => exact hq.elim
/-- repr(x), x of lists, tuples, ints, texts -/
def rShow (K : PySem.W.Frag) : List V → Hp → VK → Prop := fun xs H Q => ∃ (a : Addr) (d : PyData), xs = [.ref a] ∧ Dp K H (.ref a) d ∧ d.showable = true ∧ d.hasDict = false ∧ d.depth ≤ 60 ∧ d.shown.length ≤ sizeLine ∧ Q (.str d.shown) H
theorem call_show (noG : X.A.guards = some []) (hu : X.A.units + 64 < cLine) : CallR X (.builtin "repr") (rShow X.K) := by
  intro pins s σ H xs us Q I r h
  obtain ⟨a, d, rfl, hd, sh, nd, dp, sz, q⟩ := h
  obtain ⟨u, rfl, ru⟩ := vals1 r
  cases ru
  obtain ⟨as, rd⟩ := Dp.reads I d _ _ hd rfl
  exact PySem.repr_of_reads' rd sh (fun z => absurd z (by rw [nd]; decide)) noG (by omega) (fun _ _ z => z) (fun h' u tk hk => ⟨.str d.shown, H, I.kept (t' := tk) hk, ⟨u, rfl⟩, q⟩) sz
end
end Y

namespace Y
open PySem L2 PyProof.Rows
/-- the law's own call, where its promise is asked only with no repr under way -/
theorem calm_law {P : Program} {w : World} {K : PySem.W.Frag} {mg mb : Str → Option Value} {k : Nat} {fa a : Addr} {fd : FuncData} {x : Str} {R : Rr} {t : Shared} {vs : List Value} {ns : List Int}
    (inK : K.In t.heap) (hns : t.heap.Ns mainGlobals mg) (hnb : t.heap.Ns builtinsNs mb) (hbb : ∀ y : Str, y ≠ "__name__" → mb y = bootBuiltins y) (noL : t.heap.NoLimit) (noGen : t.gens = #[])
    (hobj : t.heap.get? a = some { cls := .type "list", data := .seq vs.toArray }) (hin : IntsAre vs ns) (hlen : ns.length ≤ sizeLine) (room : Room k callerA)
    (F : ∀ base : Heap, K.In base → base.Ns mainGlobals mg → Calm P w K mg base k fa fd [x] (Spk K R)) (hbd : ∀ (s : Shared) (u : Value), BindsTo s fd ⟨[u], []⟩ [(x, u)])
    (prom : ∀ H : Hp, Only H → SqL K H a (ns.map V.int) → Spk K R [.ref a] H (fun v _ => v = .bl true) fun _ _ _ => False) :
    codeAny (model P w) callerA (.call (.ref fa) ⟨[.ref a], []⟩) (fun o t' => o = .ok (.ret (.bool true)) ∧ OldK t.heap t'.heap ∧ t'.os = t.os ∧ AllBare t'.gens) t := by
  have rv := vals_ints hin
  have lv := hin.length
  obtain ⟨H, ho, hS, hok, hA, hK⟩ : ∃ H : Hp, Only H ∧ SqL K H a (ns.map V.int) ∧ HOk P w H t.heap ∧ (∀ b, H b ≠ none → b = a) ∧ (H a ≠ none → K.lookup a = none) := by
    cases hk : K.lookup a with
    | some o =>
      have z := (inK a o hk).symm.trans hobj
      cases z
      exact ⟨fun _ => none, fun _ => .inl rfl, .inr ⟨_, vs.toArray, _, hk, rfl, rfl, rfl, by rw [List.size_toArray, lv]; exact hlen, by simpa using rv⟩, fun _ _ z => (nomatch z), fun _ z => absurd rfl z, fun z => absurd rfl z⟩
    | none =>
      have at1 : ∀ {b : Addr} {u : HO}, (if b = a then some (HO.frz { cls := .type "list", data := .seq vs.toArray } (.lst (ns.map V.int))) else none) = some u → b = a ∧ HO.frz { cls := .type "list", data := .seq vs.toArray } (.lst (ns.map V.int)) = u := fun {b u} z => by
        by_cases hb : b = a
        · rw [if_pos hb] at z
          exact ⟨hb, Option.some.inj z⟩
        · rw [if_neg hb] at z
          cases z
      refine ⟨fun b => if b = a then some (.frz { cls := .type "list", data := .seq vs.toArray } (.lst (ns.map V.int))) else none, fun b => ?_, .inl (.inr ⟨_, if_pos rfl⟩), fun b u z => ?_, fun b z => ?_, fun _ => rfl⟩
      · rcases Decidable.em (b = a) with hb | hb
        · exact .inr ⟨_, _, if_pos hb⟩
        · exact .inl (if_neg hb)
      · obtain ⟨rfl, rfl⟩ := at1 z
        exact ⟨hobj, by rw [List.length_map]; exact hlen, vs, _, rv, hobj⟩
      · rcases Decidable.em (b = a) with hb | hb
        · exact hb
        · exact absurd (if_neg hb) z
  have seqNo : ∀ {b : Addr} {o : Obj} {es : Array DictEntry} {ep : Nat}, t.heap.get? b = some o → o.data = .dict es ep → H b = none := fun {b o es ep} z d => by
    cases q : H b with
    | none => rfl
    | some u =>
      have zb : b = a := hA b (by rw [q]; exact fun y => (nomatch y))
      rw [zb, hobj] at z
      cases z
      exact absurd d fun y => (nomatch y)
  have inB : ∀ {b : Addr} {m : Str → Option Value}, t.heap.Ns b m → (hidT t.heap H).Ns b m := fun ⟨o, es, ep, z, d, r⟩ => ⟨o, es, ep, hidT_get z (seqNo z d), d, r⟩
  have kB : K.In (hidT t.heap H) := fun b o z => hidT_get (inK b o z) (by
    cases q : H b with
    | none => rfl
    | some u =>
      have zb : b = a := hA b (by rw [q]; exact fun y => (nomatch y))
      rw [zb, hK (by rw [← zb, q]; exact fun y => (nomatch y))] at z
      cases z)
  have md : Mod K mg (hidT t.heap H) := ⟨kB, inB hns, ⟨mb, inB hnb, hbb⟩, noL.elim fun mc z => ⟨mc, inB z.1, z.2⟩⟩
  have e0 : Env0 P w K mg (hidT t.heap H) callerA [] t H := ⟨rfl, md, fun b o z => of_hidT z, Nat.le_of_eq (hidT_size _ _), trivial, fun b hb => (nomatch hb), hok, .of_eq noGen⟩
  have main := (F _ kB (inB hns)).go callerA [] t H ⟨[.ref a], []⟩ [.ref a] [.ref a] _ _ room rfl e0 (hbd t (.ref a)) (.cons rfl .nil) (prom H ho hS)
  refine codeAny_mono main fun o t' h => ?_
  cases o with
  | error e => exact h.elim
  | ok fl =>
    cases fl with
    | next => exact h.elim
    | brk => exact h.elim
    | cont => exact h.elim
    | ret u =>
      obtain ⟨v, H', os, bare, un, hok', rl, qv⟩ := h
      cases (show v = .bl true from qv)
      cases (show u = Value.bool true from rl)
      refine ⟨rfl, OldK.of_keep fun b o z => ?_, os, bare⟩
      cases q : H b with
      | none => exact un.keep b o z q (fun y => (nomatch y)) (fun y => (nomatch y))
      | some u =>
        rcases ho b with y | ⟨ob, xs, y⟩
        · rw [q] at y
          cases y
        · obtain ⟨z1, _⟩ := hok b _ y
          obtain ⟨z2, _⟩ := hok' b _ (un.frzs b ob _ y)
          rw [z] at z1
          cases z1
          exact z2
theorem walk_calm {l : PySem.W.OpenLaw} {n k : Nat} {q : Program} {loose : List Str} {XP : (Str → Option Value) → Heap → Prop} {YP : World → Heap → Prop} {d : DefRec} {K : Params → PySem.W.Frag} {R : Rr} {x : Str}
    (hmost : l.most = some n) (hle : n ≤ sizeLine) (hdef : d.params.defaults = []) (room : Room k callerA) (hY : ∀ (w : World) (h : Heap), YP w h → (K w.params).In h)
    (F : ∀ (w : World) (mg : Str → Option Value) (fa : Addr) (h : Heap), (K w.params).In h → h.Ns mainGlobals mg → mg d.name = some (.ref fa) →
      ∃ fd : FuncData, (∀ (s : Shared) (u : Value), BindsTo s fd ⟨[u], []⟩ [(x, u)]) ∧ ∀ base : Heap, (K w.params).In base → base.Ns mainGlobals mg → Calm l.prog w (K w.params) mg base k fa fd [x] (Spk (K w.params) R))
    (prom : ∀ (w : World) (H : Hp) (a : Addr) (ns : List Int), ns.length ≤ n → Only H → SqL (K w.params) H a (ns.map V.int) → Spk (K w.params) R [.ref a] H (fun v _ => v = .bl true) fun _ _ _ => False) :
    PySem.W.WalkO q loose XP YP l.row.toRowW d [] (fun f vs => PySem.call f vs) := by
  refine Att.attach_call hmost hdef fun w t0 t mg mb fa o pm cd doc a vs ns G y ho hd hcd hmg hobj hin hlen noGen => ?_
  obtain ⟨fd, hbd, hF⟩ := F w mg fa _ (hY w _ y) G.T.g hmg
  exact calm_law (hY w _ y) G.T.g G.T.b G.T.builtins G.T.nolimit noGen hobj hin (Nat.le_trans hlen hle) room hF hbd fun H ho hS => prom w H a ns hlen ho hS
end Y

namespace Y
open PySem L2 PyProof.Rows
/-! ### how long a repr is -/
theorem listText_le (ts : List Str) : (listText ts).length ≤ 2 + piled ts := by
  cases ts with
  | nil => decide
  | cons t r =>
    have h1 : (listText (t :: r)).length = (textFrom 1 (("[" : Str) ++ (if (0 : Nat) > 0 then ", " else "" : String) ++ t) r).length + 1 := by
      show (textFrom 1 _ r ++ "]").length = _
      rw [strLen_append]
      rfl
    rw [h1, textFrom_length_pos _ _ _ (by decide), strLen_append, strLen_append, piled_cons]
    show 1 + 0 + t.length + piled r + 1 ≤ _
    omega
theorem tupleText_le (ts : List Str) : (tupleText ts).length ≤ 3 + piled ts := by
  have h1 : ∀ s : Str, (s ++ (if ts.length == 1 then ",)" else ")" : String)).length ≤ s.length + 2 := fun s => by
    rw [strLen_append]
    split
    · show s.length + 2 ≤ _; omega
    · show s.length + 1 ≤ _; omega
  have h2 := h1 (("(" : Str) ++ Str.join ", " ts)
  have h3 : (("(" : Str) ++ Str.join ", " ts).length = 1 + (Str.join ", " ts).length := by rw [strLen_append]; rfl
  show (("(" : Str) ++ Str.join ", " ts ++ (if ts.length == 1 then ",)" else ")" : String)).length ≤ _
  rcases Decidable.em (ts = []) with e | e
  · subst e
    decide
  · have := join_length_add ts e
    omega
theorem shownAll_map : ∀ ds : List PyData, PyData.shownAll ds = ds.map PyData.shown
  | [] => by simp only [PyData.shownAll, List.map_nil]
  | d :: r => by simp only [PyData.shownAll, List.map_cons, shownAll_map r]
theorem piled_le {n : Nat} : ∀ {ts : List Str}, (∀ t ∈ ts, t.length ≤ n) → piled ts ≤ (n + 2) * ts.length
  | [], _ => Nat.zero_le _
  | t :: r, h => by
    have h1 := h t List.mem_cons_self
    have h2 := piled_le (ts := r) fun u hu => h u (List.mem_cons_of_mem _ hu)
    rw [piled_cons, List.length_cons, Nat.mul_add, Nat.mul_one]
    omega
theorem shown_int_le {i : Int} (h : i.natAbs < 10 ^ 31) : (PyData.int i).shown.length ≤ 32 := by
  simp only [PyData.shown]
  have := int_text_length_le10 (k := 31) (by decide) h
  show (Str.ofString (toString i)).length ≤ 32
  rw [PySem.ofString_length]
  exact this
theorem shown_name_le {z : Str} (h : okName z = true) : (PyData.str z).shown.length ≤ 82 := by
  simp only [PyData.shown]
  unfold okName at h
  simp only [Bool.and_eq_true, decide_eq_true_eq] at h
  have h3 : Txt.isascii z = true := h.2.2.1
  unfold Txt.isascii at h3
  have := StrLaws.reprText_len z fun c hc => by
    rw [Array.all_eq_true] at h3
    obtain ⟨i, hi, e⟩ := List.getElem_of_mem hc
    have := h3 i (by simpa using hi)
    simp only [decide_eq_true_eq] at this
    have e' : z.cps[i]'(by simpa using hi) = c := by simpa using e
    rw [e'] at this
    exact Nat.lt_of_lt_of_le this (by decide)
  have := h.2.1
  omega
theorem show_int {i : Int} (h : i.natAbs < 10 ^ 31) : (PyData.int i).showable = true := by
  simp only [PyData.showable, decide_eq_true_eq]
  by_cases e : i.natAbs = 0
  · rw [e]; decide
  · exact (Nat.log2_lt e).mpr (Nat.lt_trans h (by decide))
def fitR (r : Run) : Prop := okName r.1 = true ∧ r.2.1.natAbs < 10 ^ 31 ∧ r.2.2.natAbs < 10 ^ 31
theorem shown_run_le {r : Run} (h : fitR r) : (eRun r).shown.length ≤ 160 := by
  show (tupleText (PyData.shownAll _)).length ≤ _
  have h1 := shown_name_le h.1
  have h2 := shown_int_le h.2.1
  have h3 := shown_int_le h.2.2
  refine Nat.le_trans (tupleText_le _) ?_
  rw [shownAll_map]
  show 3 + piled [_, _, _] ≤ _
  rw [piled_cons, piled_cons, piled_cons, piled_nil]
  omega
theorem shown_runs_le {c : List Run} (h : ∀ r ∈ c, fitR r) : (PyData.list (c.map eRun)).shown.length ≤ 3 + 162 * c.length ∧ (PyData.tuple (c.map eRun)).shown.length ≤ 3 + 162 * c.length := by
  have h1 : piled (PyData.shownAll (c.map eRun)) ≤ 162 * c.length := by
    rw [shownAll_map]
    have := piled_le (n := 160) (ts := (c.map eRun).map PyData.shown) fun t ht => by
      rw [List.map_map] at ht
      obtain ⟨r, hr, rfl⟩ := List.mem_map.mp ht
      exact shown_run_le (h r hr)
    rw [List.length_map, List.length_map] at this
    exact this
  constructor
  · show (listText (PyData.shownAll (c.map eRun))).length ≤ _
    have := listText_le (PyData.shownAll (c.map eRun))
    omega
  · show (tupleText (PyData.shownAll (c.map eRun))).length ≤ _
    have := tupleText_le (PyData.shownAll (c.map eRun))
    omega
theorem showableAll_map {α : Type} (f : α → PyData) : ∀ c : List α, (∀ a ∈ c, (f a).showable = true) → PyData.showableAll (c.map f) = true
  | [], _ => by simp only [List.map_nil, PyData.showableAll]
  | a :: c, h => by
    simp only [List.map_cons, PyData.showableAll, h a List.mem_cons_self, showableAll_map f c fun b hb => h b (List.mem_cons_of_mem _ hb), Bool.and_self]
theorem show_run {r : Run} (h : fitR r) : (eRun r).showable = true := by
  show PyData.showableAll [.str r.1, .int r.2.1, .int r.2.2] = true
  simp only [PyData.showableAll, show_int h.2.1, show_int h.2.2, Bool.and_self, Bool.and_true]
  simp only [PyData.showable]
section
variable {X : Cx} {L : Lk} {M : Cs} {Q : Sl → Cs → Prop}
theorem k_show {s : Sl} {d : PyData} {ss : List Sl} (h : IsD M s d) (hs : seqOf M s = some ss) (can : d.canLay0 = true) (sh : d.showable = true) (dp : d.depth ≤ 60) (sz : d.shown.length ≤ sizeLine) (q : Q (.d (.str d.shown)) M) : RCk X.K L (rShow X.K) [s] M Q := fun G H vs Q' g a k => by
  obtain ⟨v, rfl, a1⟩ := sl1 a
  obtain ⟨p, xs, e, _, _⟩ := seq_at g a1 hs
  subst e
  exact ⟨p, d, rfl, h.dp g can a1, sh, PyData.hasDict_of_canLay d can, dp, sz, k.go q g (.d (.str _))⟩
/-- repr of a content, list or tuple -/
theorem k_showR {s : Sl} {c : List Run} {ss : List Sl} {tup : Bool} (h : IsD M s (if tup = true then .tuple (c.map eRun) else .list (c.map eRun))) (hs : seqOf M s = some ss) (ok : ∀ r ∈ c, fitR r) (hl : c.length ≤ 10000) (q : Q (.d (.str (PyData.shown (if tup = true then .tuple (c.map eRun) else .list (c.map eRun))))) M) : RCk X.K L (rShow X.K) [s] M Q := by
  have hc : PyData.canLayAll0 (c.map eRun) = true := canLayAll_map eRun c fun r hr => can_run (ok r hr).1
  have hw : PyData.showableAll (c.map eRun) = true := showableAll_map eRun c fun r hr => show_run (ok r hr)
  have hd : PyData.depthAll (c.map eRun) ≤ 1 := depthAll_map eRun 1 c fun r _ => Nat.le_refl 1
  have hz := shown_runs_le ok
  have sl : (10 ^ 7 : Nat) ≤ sizeLine := by rw [sizeLine_eq]; decide
  cases tup with
  | true => exact k_show (d := .tuple (c.map eRun)) h hs hc hw (by show PyData.depthAll _ + 1 ≤ 60; omega) (by omega) q
  | false => exact k_show (d := .list (c.map eRun)) h hs hc hw (by show PyData.depthAll _ + 1 ≤ 60; omega) (by omega) q
end
end Y

namespace Y
open PySem L2 PyProof.Rows
section
variable {X : Cx} {L : Lk} {τ : List (Option Sl)} {M : Cs} {Q : Sl → Cs → Prop} {o : Expr} {apos cpos pos : Pos} {E : Ks}
/-- tuple(xs) of a list -/
theorem k_tupleL {s : Sl} {ss : List Sl} (hT : isTup s = false) (h : seqOf M s = some ss) (q : Q (.u ss) M) : RCk X.K L (fun xs H Q => ∃ p ys, xs = [.ref p] ∧ ((SqL X.K H p ys ∧ ∀ l, H l = none → Q (.ref l) (upd H l (.tup ys))) ∨ (SqT X.K H p ys ∧ Q (.ref p) H))) [s] M Q := fun G H vs Q' g a k => by
  obtain ⟨v, rfl, a1⟩ := sl1 a
  obtain ⟨p, xs, rfl, r, l⟩ := seq_at g a1 h
  rw [hT, if_neg Bool.false_ne_true] at r
  refine ⟨p, xs, rfl, .inl ⟨r, fun c hc => ?_⟩⟩
  have f := g.free hc
  exact k _ _ _ _ _ q (Ex.new f.1) (g.newD hc) (.u upd_same (l.mono (Ex.new f.1)))
/-- xs.clear() as a statement -/
theorem ds_clear (w : DE X L o τ M fun x M1 => ∃ a ss, x = .c a ∧ M1 a = some (.l ss) ∧ E.nx τ (updC M1 a (.l []))) (hbase : attributeBase o "clear" X.env (eval o X.env) = eval o X.env := by rfl) (hline : (apos.endLine == cpos.line) = true := by rfl)
    (hsw : swapsWith (.Call (.Attribute o "clear" apos) [] [] cpos) none pos.line X.env = pure false := by rfl) : DS X L (.Expr (.Call (.Attribute o "clear" apos) [] [] cpos) pos) τ M E :=
  ds_expr (de_of (pe_bm0 PySem.F.plainAttrs_list PySem.F.slot_list_clear PySem.F.type_list_clear mt_clear pe_s hbase hline) fun σ G H Q' gs gm k => w σ G H _ gs gm fun x M1 v G1 H1 ⟨a, ss, hx, ha, q⟩ e1 g1 a1 => by
    subst hx
    obtain ⟨_, xs, h1, h2⟩ := g1.cell a _ ha
    have ev := sl_c a1
    subst ev
    exact ⟨.inl ⟨rfl, xs, .inl (.inl h1)⟩, a, xs, rfl, rfl, h1, k (.d .none) _ _ G1 _ q e1 (g1.write ha h1 (fun _ _ z => (nomatch z)) ⟨[], upd_same, .nil⟩) (.d .non)⟩) hsw
end
end Y

namespace Y
open PySem L2 PyProof.Rows
/-! ### data with dicts: repr -/
/-- the module table stands -/
def Sys (base : Heap) : Prop := ∃ mm, base.Ns sysModules mm
mutual
inductive DX (K : PySem.W.Frag) (H : Hp) : V → PyData → Prop
  | non : DX K H .non .none
  | bl (b : Bool) : DX K H (.bl b) (.bool b)
  | int (i : Int) : DX K H (.int i) (.int i)
  | str (x : Str) : DX K H (.str x) (.str x)
  | lst {a : Addr} {xs : List V} {ds : List PyData} : SqL K H a xs → DXs K H xs ds → DX K H (.ref a) (.list ds)
  | tup {a : Addr} {xs : List V} {ds : List PyData} : SqT K H a xs → DXs K H xs ds → DX K H (.ref a) (.tuple ds)
  | dic {a : Addr} {kvs : List (Key × V)} {ds : List (PyData × PyData)} : Rd H a (.dK kvs) → DXk K H kvs ds → DX K H (.ref a) (.dict ds)
inductive DXs (K : PySem.W.Frag) (H : Hp) : List V → List PyData → Prop
  | nil : DXs K H [] []
  | cons {v : V} {vs : List V} {d : PyData} {ds : List PyData} : DX K H v d → DXs K H vs ds → DXs K H (v :: vs) (d :: ds)
inductive DXk (K : PySem.W.Frag) (H : Hp) : List (Key × V) → List (PyData × PyData) → Prop
  | nil : DXk K H [] []
  | cons {k : Key} {v : V} {kvs : List (Key × V)} {d : PyData} {ds : List (PyData × PyData)} : DX K H v d → DXk K H kvs ds → DXk K H ((k, v) :: kvs) ((kD k, d) :: ds)
end
section
variable {X : Cx} {pins : List (Addr × Obj)} {σ : L2.St} {H : Hp} {s : Shared}
theorem list_ne (I : Inv X pins σ H s) (S : Sys X.base) {a : Addr} {xs : List V} (hs : SqL X.K H a xs) : a ≠ sysModules := by
  intro e
  subst e
  obtain ⟨mm, o, es, ep, ho, hd, _⟩ := S
  have hb := (I.bs _ _ ho).1
  obtain ⟨its, rv, ⟨o', n, ho', hc, _, hd'⟩, _⟩ := I.list hs
  rw [hb] at ho'
  cases ho'
  rw [hd] at hd'
  cases hd'
mutual
theorem DX.reads (I : Inv X pins σ H s) (S : Sys X.base) : ∀ {v : V} {d : PyData}, DX X.K H v d → ∀ {u : Value}, RelV v u → ∃ as, Reads s.heap u d as ∧ sysModules ∉ as
  | _, _, .non, _, r => by
    cases r
    exact ⟨_, Reads.none, by simp⟩
  | _, _, .bl b, _, r => by
    cases r
    exact ⟨_, Reads.bool b, by simp⟩
  | _, _, .int i, _, r => by
    obtain ⟨t, rfl⟩ := r
    exact ⟨_, Reads.int i t, by simp⟩
  | _, _, .str x, _, r => by
    obtain ⟨t, rfl⟩ := r
    exact ⟨_, Reads.str x t, by simp⟩
  | _, _, .lst hs ha, _, r => by
    cases r
    have ne := list_ne I S hs
    obtain ⟨its, rv, ⟨o, n, ho, hc, _, hd⟩, _⟩ := I.list hs
    obtain ⟨as, hr, hn⟩ := DXs.reads I S ha rv
    exact ⟨_, Reads.list ho hc hd hr, fun z => by
      rcases List.mem_cons.mp z with z | z
      · exact ne z.symm
      · exact hn z⟩
  | _, _, .tup hs ha, _, r => by
    cases r
    obtain ⟨its, rv, ⟨o, ho, hc, n, hd⟩, _⟩ := I.tuple hs
    obtain ⟨as, hr, hn⟩ := DXs.reads I S ha rv
    exact ⟨_, Reads.tuple ho hc hd hr, hn⟩
  | _, _, .dic hs ha, _, r => by
    cases r
    obtain ⟨_, ne, vs, kv, o, es, ep, ho, hx, hd, _, hp, _⟩ := (show ObjOk X.prog X.w H s.heap _ (.dK _) from hs.ok I.hok)
    obtain ⟨as, bs, h1, h2, n1, n2⟩ := DXk.reads I S ha kv hp
    refine ⟨_, Reads.dict ho hx.1 hd h1 h2, fun z => ?_⟩
    rcases List.mem_append.mp z with z | z
    · rcases List.mem_cons.mp z with z | z
      · subst z
        simp at ne
      · exact n1 z
    · exact n2 z
theorem DXs.reads (I : Inv X pins σ H s) (S : Sys X.base) : ∀ {vs : List V} {ds : List PyData}, DXs X.K H vs ds → ∀ {us : List Value}, Vals vs us → ∃ as, ReadsAll s.heap us ds as ∧ sysModules ∉ as
  | _, _, .nil, _, r => by
    cases r
    exact ⟨_, ReadsAll.nil, by simp⟩
  | _, _, .cons h1 h2, _, r => by
    cases r with
    | cons r1 r2 =>
      obtain ⟨as, q1, n1⟩ := DX.reads I S h1 r1
      obtain ⟨bs, q2, n2⟩ := DXs.reads I S h2 r2
      exact ⟨_, ReadsAll.cons q1 q2, fun z => (List.mem_append.mp z).elim n1 n2⟩
theorem DXk.reads (I : Inv X pins σ H s) (S : Sys X.base) : ∀ {kvs : List (Key × V)} {ds : List (PyData × PyData)}, DXk X.K H kvs ds → ∀ {vs : List (Key × Value)} {es : List DictEntry}, KV kvs vs → Pairs (mixKind X.prog X.w) es vs →
    ∃ as bs, ReadsAll s.heap (es.map (·.key)) (ds.map (·.1)) as ∧ ReadsAll s.heap (es.map (·.val)) (ds.map (·.2)) bs ∧ sysModules ∉ as ∧ sysModules ∉ bs
  | _, _, .nil, _, _, kv, hp => by
    cases kv
    cases hp
    exact ⟨_, _, ReadsAll.nil, ReadsAll.nil, by simp, by simp⟩
  | _, _, .cons h1 h2, _, _, kv, hp => by
    cases kv with
    | cons k1 k2 =>
      cases hp with
      | cons hk he hp' =>
        obtain ⟨as, bs, q1, q2, n1, n2⟩ := DXk.reads I S h2 k2 hp'
        obtain ⟨cs, q3, n3⟩ := DX.reads I S h1 k1.2
        rw [← he] at q3
        rw [← k1.1] at hk
        rcases keyIs_shape hk with ⟨i, t, e1, e2⟩ | ⟨x, t, e1, e2⟩
        · refine ⟨_, _, ReadsAll.cons (as := []) ?_ q1, ReadsAll.cons q3 q2, by simpa using n1, fun z => (List.mem_append.mp z).elim n3 n2⟩
          have e3 := congrArg kD e1
          simp only [e2]
          exact e3 ▸ Reads.int i t
        · refine ⟨_, _, ReadsAll.cons (as := []) ?_ q1, ReadsAll.cons q3 q2, by simpa using n1, fun z => (List.mem_append.mp z).elim n3 n2⟩
          have e3 := congrArg kD e1
          simp only [e2]
          exact e3 ▸ Reads.str x t
end
end
/-! data in cells, dicts among them -/
mutual
inductive IsX (M : Cs) : Sl → PyData → Prop
  | d (x : PyData) : IsX M (.d x) x
  | c {a : Addr} {ss : List Sl} {ds : List PyData} : M a = some (.l ss) → IsXL M ss ds → IsX M (.c a) (.list ds)
  | k {a : Addr} {kvs : List (Key × Sl)} {ds : List (PyData × PyData)} : M a = some (.k kvs) → IsXK M kvs ds → IsX M (.c a) (.dict ds)
  | u {ss : List Sl} {ds : List PyData} : IsXL M ss ds → IsX M (.u ss) (.tuple ds)
  | s (ns : List Int) : IsX M (.s ns) (.list (ns.map PyData.int))
inductive IsXL (M : Cs) : List Sl → List PyData → Prop
  | nil : IsXL M [] []
  | cons {s : Sl} {d : PyData} {ss : List Sl} {ds : List PyData} : IsX M s d → IsXL M ss ds → IsXL M (s :: ss) (d :: ds)
inductive IsXK (M : Cs) : List (Key × Sl) → List (PyData × PyData) → Prop
  | nil : IsXK M [] []
  | cons {k : Key} {s : Sl} {kvs : List (Key × Sl)} {d : PyData} {ds : List (PyData × PyData)} : IsX M s d → IsXK M kvs ds → IsXK M ((k, s) :: kvs) ((kD k, d) :: ds)
end
theorem IsXL.ofD {M : Cs} : ∀ ds : List PyData, IsXL M (ds.map Sl.d) ds
  | [] => .nil
  | d :: r => .cons (.d d) (IsXL.ofD r)
theorem IsXK.ofD {M : Cs} : ∀ kd : List (Key × PyData), IsXK M (slK kd) (encK kd)
  | [] => .nil
  | (k, d) :: r => .cons (.d d) (IsXK.ofD r)
theorem IsX.cell {M : Cs} {a : Addr} {ds : List PyData} (h : M a = some (.l (ds.map .d))) : IsX M (.c a) (.list ds) := .c h (IsXL.ofD ds)
theorem IsX.dict {M : Cs} {a : Addr} {kd : List (Key × PyData)} (h : M a = some (.k (slK kd))) : IsX M (.c a) (.dict (encK kd)) := .k h (IsXK.ofD kd)
section
variable {K : PySem.W.Frag} {L : Lk} {M : Cs} {G H : Hp}
mutual
theorem At.dx (g : GoodM K L M G H) : ∀ {v : V} {d : PyData}, At K G v d → DX K H v d
  | _, _, .non => .non
  | _, _, .bl b => .bl b
  | _, _, .int i => .int i
  | _, _, .str x => .str x
  | _, _, .lst e l => .lst (.inl (g.rd e)) (AtL.dx g l)
  | _, _, .tup e l => .tup (.inl (g.rd e)) (AtL.dx g l)
  | _, _, .dic e l => .dic (g.rd e) (AtK.dx g l)
theorem AtL.dx (g : GoodM K L M G H) : ∀ {vs : List V} {ds : List PyData}, AtL K G vs ds → DXs K H vs ds
  | _, _, .nil => .nil
  | _, _, .cons a b => .cons (At.dx g a) (AtL.dx g b)
theorem AtK.dx (g : GoodM K L M G H) : ∀ {vs : List (Key × V)} {ds : List (PyData × PyData)}, AtK K G vs ds → DXk K H vs ds
  | _, _, .nil => .nil
  | _, _, .cons a b => .cons (At.dx g a) (AtK.dx g b)
end
theorem ints_dx : ∀ ns : List Int, DXs K H (ns.map V.int) (ns.map PyData.int)
  | [] => .nil
  | n :: r => .cons (.int n) (ints_dx r)
mutual
theorem IsX.dx (g : GoodM K L M G H) : ∀ {s : Sl} {d : PyData} {v : V}, IsX M s d → SlAt K G v s → DX K H v d
  | _, _, _, .d x, .d a => At.dx g a
  | _, _, _, .c (a := p) h l, b => by
    obtain ⟨_, xs, h1, h2⟩ := g.cell p _ h
    cases b
    exact .lst (SqL.of h1) (IsXL.dx g l h2)
  | _, _, _, .k (a := p) h l, b => by
    obtain ⟨_, xs, h1, h2⟩ := g.cell p _ h
    cases b
    exact .dic (.inl h1) (IsXK.dx g l h2)
  | _, _, _, .u l, .u e b => .tup (.inl (g.rd e)) (IsXL.dx g l b)
  | _, _, _, .s ns, .s e => by
    refine .lst ?_ (ints_dx ns)
    rcases e with e | e
    · exact .inl (g.rd e)
    · exact .inr e
theorem IsXL.dx (g : GoodM K L M G H) : ∀ {ss : List Sl} {ds : List PyData} {vs : List V}, IsXL M ss ds → SlL K G vs ss → DXs K H vs ds
  | _, _, _, .nil, .nil => .nil
  | _, _, _, .cons a b, .cons p q => .cons (IsX.dx g a p) (IsXL.dx g b q)
theorem IsXK.dx (g : GoodM K L M G H) : ∀ {ks : List (Key × Sl)} {ds : List (PyData × PyData)} {vs : List (Key × V)}, IsXK M ks ds → KvAt K G vs ks → DXk K H vs ds
  | _, _, [], .nil, _ => .nil
  | _, _, _ :: _, .nil, h => h.elim
  | _, _, (k, v) :: vs, .cons (k := k2) a b, ⟨e, p, q⟩ => by
    have e' : k = k2 := e
    subst e'
    exact .cons (IsX.dx g a p) (IsXK.dx g b q)
  | _, _, [], .cons a b, h => h.elim
end
end
/-- what has an address -/
def isBox : PyData → Bool
  | .list _ => true
  | .tuple _ => true
  | .dict _ => true
  | _ => false
def rShowX (K : PySem.W.Frag) : List V → Hp → VK → Prop := fun xs H Q => ∃ (a : Addr) (d : PyData), xs = [.ref a] ∧ DX K H (.ref a) d ∧ d.showable = true ∧ d.depth ≤ 60 ∧ d.shown.length ≤ sizeLine ∧ Q (.str d.shown) H
theorem call_showX {X : Cx} (S : Sys X.base) (noG : X.A.guards = some []) (hu : X.A.units + 64 < cLine) : CallR X (.builtin "repr") (rShowX X.K) := by
  intro pins s σ H xs us Q I r h
  obtain ⟨a, d, rfl, hd, sh, dp, sz, q⟩ := h
  obtain ⟨u, rfl, ru⟩ := vals1 r
  cases ru
  obtain ⟨as, rd, nm⟩ := DX.reads I S hd (u := .ref a) rfl
  exact PySem.repr_of_reads' rd sh (fun _ => nm) noG (by omega) (fun _ _ z => z) (fun h' u tk hk => ⟨.str d.shown, H, I.kept (t' := tk) hk, ⟨u, rfl⟩, q⟩) sz
/-! ### how long a repr is -/
def small (z : Str) : Bool := Txt.isascii z && decide (z.length ≤ 30)
mutual
/-- ints below 10 ^ 45, short plain texts -/
def fitX : PyData → Bool
  | .none => true
  | .bool _ => true
  | .int i => decide (i.natAbs < 10 ^ 45)
  | .str z => small z
  | .list ds => fitXs ds
  | .tuple ds => fitXs ds
  | .dict kvs => fitXk kvs
def fitXs : List PyData → Bool
  | [] => true
  | d :: r => fitX d && fitXs r
def fitXk : List (PyData × PyData) → Bool
  | [] => true
  | p :: r => fitX p.1 && fitX p.2 && fitXk r
end
mutual
/-- how many parts -/
def wtX : PyData → Nat
  | .none => 1
  | .bool _ => 1
  | .int _ => 1
  | .str _ => 1
  | .list ds => 1 + wtXs ds
  | .tuple ds => 1 + wtXs ds
  | .dict kvs => 1 + wtXk kvs
def wtXs : List PyData → Nat
  | [] => 0
  | d :: r => wtX d + wtXs r
def wtXk : List (PyData × PyData) → Nat
  | [] => 0
  | p :: r => wtX p.1 + wtX p.2 + wtXk r
end
theorem dictText_le (ts : List Str) : (dictText ts).length ≤ 2 + piled ts := by
  have e : (dictText ts).length = 1 + (Str.join ", " ts).length + 1 := by
    unfold dictText
    rw [strLen_append, strLen_append]; rfl
  by_cases h : ts = []
  · subst h; decide
  · have h2 := join_length_add ts h
    omega
theorem small_len {z : Str} (h : small z = true) : (PyData.str z).shown.length ≤ 302 := by
  simp only [PyData.shown]
  unfold small at h
  simp only [Bool.and_eq_true, decide_eq_true_eq] at h
  have h3 : Txt.isascii z = true := h.1
  unfold Txt.isascii at h3
  have := StrLaws.reprText_len z fun c hc => by
    rw [Array.all_eq_true] at h3
    obtain ⟨i, hi, e⟩ := List.getElem_of_mem hc
    have := h3 i (by simpa using hi)
    simp only [decide_eq_true_eq] at this
    have e' : z.cps[i]'(by simpa using hi) = c := by simpa using e
    rw [e'] at this
    exact Nat.lt_of_lt_of_le this (by decide)
  omega
theorem int_len45 {i : Int} (h : i.natAbs < 10 ^ 45) : (PyData.int i).shown.length ≤ 302 := by
  simp only [PyData.shown]
  have := int_text_length_le10 (k := 45) (by decide) h
  show (Str.ofString (toString i)).length ≤ 302
  rw [PySem.ofString_length]
  omega
mutual
theorem shownX_le : ∀ d : PyData, fitX d = true → d.shown.length + 4 ≤ 320 * wtX d
  | .none, _ => by simp only [PyData.shown, wtX]; decide
  | .bool b, _ => by cases b <;> (simp only [PyData.shown, wtX]; decide)
  | .int i, h => by
    have := int_len45 (i := i) (by simpa [fitX] using h)
    simp only [wtX]
    omega
  | .str z, h => by
    have := small_len (z := z) (by simpa [fitX] using h)
    simp only [wtX]
    omega
  | .list ds, h => by
    have h1 := shownXs_le ds (by simpa [fitX] using h)
    have h2 := listText_le (PyData.shownAll ds)
    simp only [PyData.shown, wtX]
    omega
  | .tuple ds, h => by
    have h1 := shownXs_le ds (by simpa [fitX] using h)
    have h2 := tupleText_le (PyData.shownAll ds)
    simp only [PyData.shown, wtX]
    omega
  | .dict ds, h => by
    have h1 := shownXk_le ds (by simpa [fitX] using h)
    have h2 := dictText_le (PyData.shownKv ds)
    simp only [PyData.shown, wtX]
    omega
theorem shownXs_le : ∀ ds : List PyData, fitXs ds = true → piled (PyData.shownAll ds) ≤ 320 * wtXs ds
  | [], _ => by simp only [PyData.shownAll, piled_nil]; omega
  | d :: r, h => by
    simp only [fitXs, Bool.and_eq_true] at h
    have h1 := shownX_le d h.1
    have h2 := shownXs_le r h.2
    have h3 := wtX_pos d
    simp only [PyData.shownAll, piled_cons, wtXs]
    omega
theorem shownXk_le : ∀ ds : List (PyData × PyData), fitXk ds = true → piled (PyData.shownKv ds) ≤ 320 * wtXk ds
  | [], _ => by simp only [PyData.shownKv, piled_nil]; omega
  | (k, d) :: r, h => by
    simp only [fitXk, Bool.and_eq_true] at h
    have h1 := shownX_le k h.1.1
    have h1' := shownX_le d h.1.2
    have h2 := shownXk_le r h.2
    have h3 := wtX_pos d
    have h4 := wtX_pos k
    have h5 : ((": " : Str)).length = 2 := rfl
    simp only [PyData.shownKv, piled_cons, wtXk, strLen_append, h5]
    omega
theorem wtX_pos : ∀ d : PyData, 1 ≤ wtX d
  | .none => by simp only [wtX]; omega
  | .bool _ => by simp only [wtX]; omega
  | .int _ => by simp only [wtX]; omega
  | .str _ => by simp only [wtX]; omega
  | .list _ => by simp only [wtX]; omega
  | .tuple _ => by simp only [wtX]; omega
  | .dict _ => by simp only [wtX]; omega
end
mutual
theorem showX : ∀ d : PyData, fitX d = true → d.showable = true
  | .none, _ => by simp only [PyData.showable]
  | .bool b, _ => by simp only [PyData.showable]
  | .int i, h => by
    simp only [fitX, decide_eq_true_eq] at h
    simp only [PyData.showable, decide_eq_true_eq]
    by_cases e : i.natAbs = 0
    · rw [e]; decide
    · exact (Nat.log2_lt e).mpr (Nat.lt_trans h (by decide))
  | .str z, h => by simp only [PyData.showable]
  | .list ds, h => by simp only [PyData.showable]; exact showXs ds (by simpa [fitX] using h)
  | .tuple ds, h => by simp only [PyData.showable]; exact showXs ds (by simpa [fitX] using h)
  | .dict ds, h => by simp only [PyData.showable]; exact showXk ds (by simpa [fitX] using h)
theorem showXs : ∀ ds : List PyData, fitXs ds = true → PyData.showableAll ds = true
  | [], _ => by simp only [PyData.showableAll]
  | d :: r, h => by
    simp only [fitXs, Bool.and_eq_true] at h
    simp only [PyData.showableAll, showX d h.1, showXs r h.2, Bool.and_self]
theorem showXk : ∀ ds : List (PyData × PyData), fitXk ds = true → PyData.showableKv ds = true
  | [], _ => by simp only [PyData.showableKv]
  | (k, d) :: r, h => by
    simp only [fitXk, Bool.and_eq_true] at h
    simp only [PyData.showableKv, showX k h.1.1, showX d h.1.2, showXk r h.2, Bool.and_self]
end
section
variable {X : Cx} {L : Lk} {M : Cs} {Q : Sl → Cs → Prop}
/-- repr of a list, a tuple, a dict -/
theorem k_showX {s : Sl} {d : PyData} (h : IsX M s d) (hb : isBox d = true) (fit : fitX d = true) (wt : wtX d ≤ 20000) (dp : d.depth ≤ 60) (q : Q (.d (.str d.shown)) M) : RCk X.K L (rShowX X.K) [s] M Q := fun G H vs Q' g a k => by
  obtain ⟨v, rfl, a1⟩ := sl1 a
  have x := IsX.dx g h a1
  have sz := shownX_le d fit
  have sl : (10 ^ 7 : Nat) ≤ sizeLine := by rw [sizeLine_eq]; decide
  have isr : ∃ p, v = .ref p := by
    cases x with
    | lst => exact ⟨_, rfl⟩
    | tup => exact ⟨_, rfl⟩
    | dic => exact ⟨_, rfl⟩
    | _ => cases hb
  obtain ⟨p, e⟩ := isr
  subst e
  exact ⟨p, d, rfl, x, showX d fit, dp, by omega, k.go q g (.d (.str _))⟩
end
/-- the law's own call, where its promise is asked only with no repr under way -/
theorem calm_lawS {P : Program} {w : World} {K : PySem.W.Frag} {mg mb : Str → Option Value} {k : Nat} {fa a : Addr} {fd : FuncData} {x : Str} {R : Rr} {t : Shared} {vs : List Value} {ns : List Int}
    (inK : K.In t.heap) (hns : t.heap.Ns mainGlobals mg) (hnb : t.heap.Ns builtinsNs mb) (hbb : ∀ y : Str, y ≠ "__name__" → mb y = bootBuiltins y) (noL : t.heap.NoLimit) (noGen : t.gens = #[])
    (hobj : t.heap.get? a = some { cls := .type "list", data := .seq vs.toArray }) (hin : IntsAre vs ns) (hlen : ns.length ≤ sizeLine) (room : Room k callerA)
    (hsys : Sys t.heap) (F : ∀ base : Heap, K.In base → base.Ns mainGlobals mg → Sys base → Calm P w K mg base k fa fd [x] (Spk K R)) (hbd : ∀ (s : Shared) (u : Value), BindsTo s fd ⟨[u], []⟩ [(x, u)])
    (prom : ∀ H : Hp, Only H → SqL K H a (ns.map V.int) → Spk K R [.ref a] H (fun v _ => v = .bl true) fun _ _ _ => False) :
    codeAny (model P w) callerA (.call (.ref fa) ⟨[.ref a], []⟩) (fun o t' => o = .ok (.ret (.bool true)) ∧ OldK t.heap t'.heap ∧ t'.os = t.os ∧ AllBare t'.gens) t := by
  have rv := vals_ints hin
  have lv := hin.length
  obtain ⟨H, ho, hS, hok, hA, hK⟩ : ∃ H : Hp, Only H ∧ SqL K H a (ns.map V.int) ∧ HOk P w H t.heap ∧ (∀ b, H b ≠ none → b = a) ∧ (H a ≠ none → K.lookup a = none) := by
    cases hk : K.lookup a with
    | some o =>
      have z := (inK a o hk).symm.trans hobj
      cases z
      exact ⟨fun _ => none, fun _ => .inl rfl, .inr ⟨_, vs.toArray, _, hk, rfl, rfl, rfl, by rw [List.size_toArray, lv]; exact hlen, by simpa using rv⟩, fun _ _ z => (nomatch z), fun _ z => absurd rfl z, fun z => absurd rfl z⟩
    | none =>
      have at1 : ∀ {b : Addr} {u : HO}, (if b = a then some (HO.frz { cls := .type "list", data := .seq vs.toArray } (.lst (ns.map V.int))) else none) = some u → b = a ∧ HO.frz { cls := .type "list", data := .seq vs.toArray } (.lst (ns.map V.int)) = u := fun {b u} z => by
        by_cases hb : b = a
        · rw [if_pos hb] at z
          exact ⟨hb, Option.some.inj z⟩
        · rw [if_neg hb] at z
          cases z
      refine ⟨fun b => if b = a then some (.frz { cls := .type "list", data := .seq vs.toArray } (.lst (ns.map V.int))) else none, fun b => ?_, .inl (.inr ⟨_, if_pos rfl⟩), fun b u z => ?_, fun b z => ?_, fun _ => rfl⟩
      · rcases Decidable.em (b = a) with hb | hb
        · exact .inr ⟨_, _, if_pos hb⟩
        · exact .inl (if_neg hb)
      · obtain ⟨rfl, rfl⟩ := at1 z
        exact ⟨hobj, by rw [List.length_map]; exact hlen, vs, _, rv, hobj⟩
      · rcases Decidable.em (b = a) with hb | hb
        · exact hb
        · exact absurd (if_neg hb) z
  have seqNo : ∀ {b : Addr} {o : Obj} {es : Array DictEntry} {ep : Nat}, t.heap.get? b = some o → o.data = .dict es ep → H b = none := fun {b o es ep} z d => by
    cases q : H b with
    | none => rfl
    | some u =>
      have zb : b = a := hA b (by rw [q]; exact fun y => (nomatch y))
      rw [zb, hobj] at z
      cases z
      exact absurd d fun y => (nomatch y)
  have inB : ∀ {b : Addr} {m : Str → Option Value}, t.heap.Ns b m → (hidT t.heap H).Ns b m := fun ⟨o, es, ep, z, d, r⟩ => ⟨o, es, ep, hidT_get z (seqNo z d), d, r⟩
  have kB : K.In (hidT t.heap H) := fun b o z => hidT_get (inK b o z) (by
    cases q : H b with
    | none => rfl
    | some u =>
      have zb : b = a := hA b (by rw [q]; exact fun y => (nomatch y))
      rw [zb, hK (by rw [← zb, q]; exact fun y => (nomatch y))] at z
      cases z)
  have md : Mod K mg (hidT t.heap H) := ⟨kB, inB hns, ⟨mb, inB hnb, hbb⟩, noL.elim fun mc z => ⟨mc, inB z.1, z.2⟩⟩
  have e0 : Env0 P w K mg (hidT t.heap H) callerA [] t H := ⟨rfl, md, fun b o z => of_hidT z, Nat.le_of_eq (hidT_size _ _), trivial, fun b hb => (nomatch hb), hok, .of_eq noGen⟩
  have main := (F _ kB (inB hns) (hsys.elim fun mm z => ⟨mm, inB z⟩)).go callerA [] t H ⟨[.ref a], []⟩ [.ref a] [.ref a] _ _ room rfl e0 (hbd t (.ref a)) (.cons rfl .nil) (prom H ho hS)
  refine codeAny_mono main fun o t' h => ?_
  cases o with
  | error e => exact h.elim
  | ok fl =>
    cases fl with
    | next => exact h.elim
    | brk => exact h.elim
    | cont => exact h.elim
    | ret u =>
      obtain ⟨v, H', os, bare, un, hok', rl, qv⟩ := h
      cases (show v = .bl true from qv)
      cases (show u = Value.bool true from rl)
      refine ⟨rfl, OldK.of_keep fun b o z => ?_, os, bare⟩
      cases q : H b with
      | none => exact un.keep b o z q (fun y => (nomatch y)) (fun y => (nomatch y))
      | some u =>
        rcases ho b with y | ⟨ob, xs, y⟩
        · rw [q] at y
          cases y
        · obtain ⟨z1, _⟩ := hok b _ y
          obtain ⟨z2, _⟩ := hok' b _ (un.frzs b ob _ y)
          rw [z] at z1
          cases z1
          exact z2
theorem walk_calmS {l : PySem.W.OpenLaw} {n k : Nat} {q : Program} {loose : List Str} {XP : (Str → Option Value) → Heap → Prop} {YP : World → Heap → Prop} {d : DefRec} {K : Params → PySem.W.Frag} {R : Rr} {x : Str}
    (hmost : l.most = some n) (hle : n ≤ sizeLine) (hdef : d.params.defaults = []) (himp : importsNone q = true) (room : Room k callerA) (hY : ∀ (w : World) (h : Heap), YP w h → (K w.params).In h)
    (F : ∀ (w : World) (mg : Str → Option Value) (fa : Addr) (h : Heap), (K w.params).In h → h.Ns mainGlobals mg → mg d.name = some (.ref fa) →
      ∃ fd : FuncData, (∀ (s : Shared) (u : Value), BindsTo s fd ⟨[u], []⟩ [(x, u)]) ∧ ∀ base : Heap, (K w.params).In base → base.Ns mainGlobals mg → Sys base → Calm l.prog w (K w.params) mg base k fa fd [x] (Spk (K w.params) R))
    (prom : ∀ (w : World) (H : Hp) (a : Addr) (ns : List Int), ns.length ≤ n → Only H → SqL (K w.params) H a (ns.map V.int) → Spk (K w.params) R [.ref a] H (fun v _ => v = .bl true) fun _ _ _ => False) :
    PySem.W.WalkO q loose XP YP l.row.toRowW d [] (fun f vs => PySem.call f vs) := by
  refine Att.attach_call hmost hdef fun w t0 t mg mb fa o pm cd doc a vs ns G y ho hd hcd hmg hobj hin hlen noGen => ?_
  obtain ⟨fd, hbd, hF⟩ := F w mg fa _ (hY w _ y) G.T.g hmg
  exact calm_lawS (hY w _ y) G.T.g G.T.b G.T.builtins G.T.nolimit noGen hobj hin (Nat.le_trans hlen hle) room ((G.T.seer himp).mods.elim fun mm z => ⟨mm, z.1⟩) hF hbd fun H ho hS => prom w H a ns hlen ho hS
end Y

/-! list(range(a, b)) of ints of any size -/
namespace PySem
section
variable {pr : Program} {wd : World} {Ar : Around} {Er : Value → Shared → Prop} {sh : Shared} {ra : Addr} {lo hi st : Int} {ta tb tc : Tok} {m : Nat}
abbrev lriObj (lo hi st : Int) : Obj := { cls := .type "longrange_iterator", data := .fields #[rawInt lo, rawInt (Builtin.Range.rangeSize lo hi st), rawInt st] }
theorem ylr_extend {R : Result → Shared → Prop} (hd : Ar.handled = none) (ir : IsRange sh.heap ra lo hi st ta tb tc) (big : Builtin.Range.small lo hi st = false) (sz : Builtin.Range.rangeSize lo hi st = m) (le : m ≤ 2 ^ 24) (l : Addr) (res : Value) (k0 : Nat)
    (isl : sh.heap.get? l = some { cls := .type "list", data := .seq #[] k0 })
    (done : ∀ h1 tk ac k1, (∀ z o, z ≠ l → sh.heap.get? z = some o → h1.get? z = some o) → h1.get? l = some { cls := .type "list", dict := none, data := .seq ac k1, slots := #[] } → ItemsOf (fun j v => ∃ t, v = .int (lo + j * st) t) ac m → R (.ok (.ret res)) { sh with heap := h1, toks := tk }) :
    wpAny (model pr wd) Ar.in1 (Builtin.List.listExtendWith (.ref l) (.ref ra) res) (fun fin t => match fin with | .done f => R (.ok f) t | .again c' => c'.quiet = true ∧ codeAny (model pr wd) Ar c' R t) (fun e t => R (.error e) t) sh := by
  have n1 : l ≠ ra := by intro e; rw [e, ir] at isl; simp at isl
  have n2 : l ≠ sh.heap.objs.size := Nat.ne_of_lt (Heap.lt_size isl)
  have n3 : l ∉ [sh.heap.objs.size] := by intro z; exact n2 (List.mem_singleton.mp z)
  have loop : ∀ (h : Heap) (k1 tk : Nat), IsLongIter h sh.heap.objs.size (lo + ((0 : Nat) : Int) * st) ((m : Int) - ((0 : Nat) : Int)) st → (∀ z o, z ≠ l → sh.heap.get? z = some o → h.get? z = some o) → h.get? l = some { cls := .type "list", data := .seq #[] k1 } →
      codeAny (model pr wd) Ar (.builtin "list.extend.loop" ⟨[.ref l, .ref sh.heap.objs.size, res], []⟩) R { sh with heap := h, toks := tk } := by
    intro h k1 tk it kp il
    refine codeAny_extend_loopS ((Walks.longrange (prog := pr) (w := wd) (A := Ar.in1) hd sh.heap.objs.size lo st m).toS) (by have := sizeLine_eq; omega) l n3 res m 0 _ #[] k1 rfl (Nat.zero_le _) it il (ItemsOf.nil _) ?_
    intro t ac k2 mv il2 its
    rw [Moved.eq_with mv]
    refine done t.heap t.toks ac k2 ?_ il2 its
    intro z o nz e
    refine mv.heap z o ?_ (kp z o nz e)
    intro hm
    rcases List.mem_cons.mp hm with y | y
    · exact nz y
    · have := Heap.lt_size e
      rw [List.mem_singleton.mp y] at this
      exact Nat.lt_irrefl _ this
  unfold Builtin.List.listExtendWith
  refine wpAny_bind (wpAny_typeOf (T := "range") ⟨_, ir, rfl⟩ ?_)
  have e1 : Builtin.List.listSameRef (.ref l) (.ref ra) = false := by simp [Builtin.List.listSameRef, n1]
  simp only [e1, show (Value.type "range" == Value.type "list") = false from by decide, show (Value.type "range" == Value.type "tuple") = false from by decide, Bool.or_false, Bool.false_eq_true, if_false]
  refine wpAny_bind (wpAny_pyIter_longrange ir big (wpAny_bind (wpAny_holding (wpAny_hint_range (n := m) (Heap.get?_push_of_some _ ir) sz le ?_))))
  have it0 : IsLongIter (sh.heap.push (lriObj lo hi st)) sh.heap.objs.size (lo + ((0 : Nat) : Int) * st) ((m : Int) - ((0 : Nat) : Int)) st := by
    show IsLongIter _ _ _ _ _
    have := Heap.get?_push_size sh.heap (o := lriObj lo hi st) rfl
    simp only [lriObj, sz] at this
    simpa [lriObj, sz] using this
  have il0 := Heap.get?_push_of_some (lriObj lo hi st) isl
  refine wpAny_ite_split (fun _ => ?_) (fun _ => wpAny_pure ⟨plainId_quiet F.plain_extend_loop _, loop _ k0 _ it0 (fun z o _ e => Heap.get?_push_of_some _ e) il0⟩)
  refine wpAny_bind (wpAny_rule (wpAny_bind ?_))
  show wpAny _ _ (updateSeq l (·.push .none) >>= fun _ => updateSeq l (·.pop)) _ _ _
  refine wpAny_bind (wpAny_updateSeq il0 rfl ?_)
  have il1 := Heap.get?_update_self (Obj.mapSeq (·.push Value.none)) il0 rfl
  refine wpAny_updateSeq (hz := by seq_fits) il1 rfl ?_
  have il2 := Heap.get?_update_self (Obj.mapSeq (·.pop)) il1 rfl
  have far : ∀ z o, z ≠ l → (sh.heap.push (lriObj lo hi st)).get? z = some o → (((sh.heap.push (lriObj lo hi st)).update l (Obj.mapSeq (·.push Value.none))).update l (Obj.mapSeq (·.pop))).get? z = some o :=
    fun z o nz e => (Heap.get?_update_other _ _ (Ne.symm nz)).trans ((Heap.get?_update_other _ _ (Ne.symm nz)).trans e)
  exact wpAny_pure ⟨plainId_quiet F.plain_extend_loop _, loop _ _ _ (far _ _ (Ne.symm n2) it0) (fun z o nz e => far z o nz (Heap.get?_push_of_some _ e)) il2⟩
theorem ylr_init {R : Result → Shared → Prop} (hd : Ar.handled = none) (ir : IsRange sh.heap ra lo hi st ta tb tc) (big : Builtin.Range.small lo hi st = false) (sz : Builtin.Range.rangeSize lo hi st = m) (le : m ≤ 2 ^ 24) (l : Addr) (isl : sh.heap.get? l = some { cls := .type "list", data := .seq #[] })
    (done : ∀ h1 tk ac k1, (∀ z o, z ≠ l → sh.heap.get? z = some o → h1.get? z = some o) → h1.get? l = some { cls := .type "list", dict := none, data := .seq ac k1, slots := #[] } → ItemsOf (fun j v => ∃ t, v = .int (lo + j * st) t) ac m → R (.ok (.ret .none)) { sh with heap := h1, toks := tk }) :
    wpAny (model pr wd) Ar.in1 (Builtin.«list.__init__» ⟨[.ref l, .ref ra], []⟩) (fun fin t => match fin with | .done f => R (.ok f) t | .again c' => c'.quiet = true ∧ codeAny (model pr wd) Ar c' R t) (fun e t => R (.error e) t) sh := by
  have n1 : ra ≠ l := by intro e; rw [← e, ir] at isl; simp at isl
  show wpAny _ _ (do let old ← Builtin.List.listItems (.ref l); Builtin.List.listUpdate (.ref l) (fun _ => #[]); letGo old.toList.reverse; Builtin.List.listExtendWith (.ref l) (.ref ra) .none) _ _ sh
  refine wpAny_bind ?_; unfold Builtin.List.listItems; refine wpAny_bind (wpAny_seqItems isl rfl (wpAny_pure ?_))
  show wpAny _ _ (updateSeq l (fun _ => #[]) >>= fun _ => letGo (#[] : Array Value).toList.reverse >>= fun _ => Builtin.List.listExtendWith (.ref l) (.ref ra) .none) _ _ sh
  refine wpAny_bind (wpAny_updateSeq isl rfl (wpAny_bind (wpAny_letGo ?_)))
  have far : ∀ z o, z ≠ l → sh.heap.get? z = some o → (sh.heap.update l (Obj.mapSeq (fun _ => (#[] : Array Value)))).get? z = some o := fun z o nz e => (Heap.get?_update_other _ _ (Ne.symm nz)).trans e
  refine ylr_extend hd (far _ _ n1 ir) big sz le l .none _ (Heap.get?_update_self (Obj.mapSeq (fun _ => (#[] : Array Value))) isl rfl) ?_
  intro h1 tk ac k1 kp il its
  exact done h1 tk ac k1 (fun z o nz e => kp z o nz (far z o nz e)) il its
theorem ylr_call {Q : Value → Shared → Prop} (hd : Ar.handled = none) (ir : IsRange sh.heap ra lo hi st ta tb tc) (big : Builtin.Range.small lo hi st = false) (sz : Builtin.Range.rangeSize lo hi st = m) (le : m ≤ 2 ^ 24)
    (done : ∀ h1 tk ac k1, (∀ z o, sh.heap.get? z = some o → h1.get? z = some o) → h1.get? sh.heap.objs.size = some { cls := .type "list", dict := none, data := .seq ac k1, slots := #[] } → ItemsOf (fun j v => ∃ t, v = .int (lo + j * st) t) ac m → Q (.ref sh.heap.objs.size) { sh with heap := h1, toks := tk }) :
    wpAny (model pr wd) Ar (call (.type "list") [.ref ra]) Q Er sh := by
  refine callType_codes (Q₁ := fun x t => x = .ref sh.heap.objs.size ∧ t = { sh with heap := sh.heap.push { cls := .type "list", data := .seq #[] } }) F.called_list (F.typeCall_list_1 _) F.entry_list_init (code_list_new _ ⟨rfl, rfl⟩) ?_
  rintro x t ⟨rfl, rfl⟩
  have isl := Heap.get?_push_size sh.heap (o := { cls := .type "list", data := .seq #[] }) rfl
  refine ⟨⟨_, isl, rfl⟩, F.args_list_init_2 _ _, ylr_init (Ar := Ar.in1) hd (Heap.get?_push_of_some _ ir) big sz le _ isl ?_⟩
  intro h1 tk ac k1 kp il its
  exact ⟨rfl, done h1 tk ac k1 (fun z o e => kp z o (Nat.ne_of_lt (Heap.lt_size e)) (Heap.get?_push_of_some _ e)) il its⟩
end
end PySem
namespace Y
open PySem L2 PyProof.Rows
section
variable {X : Cx} {L : Lk} {τ : List (Option Sl)} {M : Cs} {Q : Sl → Cs → Prop} {a b : Expr} {p p2 pos pos2 : Pos} {QJ : QI} {tg : Expr}
def rgI (i j : Int) : List Sl := (List.range (j - i).toNat).map fun k => dI (i + (k : Nat))
theorem rg_sl {K : PySem.W.Frag} {G : Hp} (i j : Int) : SlL K G (rgV i j) (rgI i j) := by
  unfold rgV rgI
  have gen : ∀ l : List Nat, SlL K G (l.map fun k => V.int (i + (k : Nat))) (l.map fun k => dI (i + (k : Nat))) := by
    intro l
    induction l with
    | nil => exact .nil
    | cons x r ih => exact .cons (.d (.int _)) ih
  exact gen _
def tLstRgL (te : L2.St → Hp → (Int → Int → Hp → Prop) → Prop) : TE := fun σ H Q => te σ H fun i j H1 => (j - i).toNat ≤ 2 ^ 24 ∧ ∀ q, H1 q = none → Q (.ref q) (upd H1 q (.lst (rgV i j)))
theorem pe_listRgL {e : Expr} {te : L2.St → Hp → (Int → Int → Hp → Prop) → Prop} (hc : X.calm = true) (hg : Gl X "list") (hm : X.mg "list" = none) (he : PRg X e te) (na : starEach [e] X.env = (false, eval e X.env) :: starEach [] X.env := by rfl) : PE X (.Call (.Name "list" p) [e] [] pos) (tLstRgL te) := by
  refine ⟨fun pins s σ H Q I h => ?_⟩
  refine Call_ (ld_blt I hg hm boot_list (PyProof.Rows.callWith_type1 (args_cons (thn (he pins s σ H _ I h) fun x s1 ⟨r, i, j, t, u, v, H1, ex, hr, I1, le, q⟩ => args_nil ?_) na) na))
  subst ex
  have fin : ∀ h1 tk ac k1, (∀ z o, s1.heap.get? z = some o → h1.get? z = some o) → h1.get? s1.heap.objs.size = some { cls := .type "list", dict := none, data := .seq ac k1, slots := #[] } → ItemsOf (fun m v => ∃ t, v = .int (i + m * 1) t) ac (j - i).toNat → EP X pins σ Q (.ref s1.heap.objs.size) { s1 with heap := h1, toks := tk } := by
    intro h1 tk ac k1 kp il its
    refine ⟨.ref s1.heap.objs.size, upd H1 s1.heap.objs.size (.lst (rgV i j)), I1.laid kp (Nat.le_refl _) (show ObjOk X.prog X.w _ _ _ (.lst (rgV i j)) from ⟨by rw [rgV_length, sizeLine_eq]; omega, ac.toList, k1, vals_rg its, by rw [Array.toArray_toList]; exact il⟩), rfl, q _ (I1.hok.fresh (Nat.le_refl _))⟩
  cases sm : Builtin.Range.small i j 1 with
  | true => exact call_list_range (n := (j - i).toNat) (I1.ok.hd hc) hr sm (rangeSize_nat i j) le fin
  | false => exact ylr_call (m := (j - i).toNat) (I1.ok.hd hc) hr sm (rangeSize_nat i j) le fin
/-- list(range(a, b)) -/
theorem de_listRg (hc : X.calm = true) (hg : Gl X "list") (hm : X.mg "list" = none) (hg2 : Gl X "range") (hm2 : X.mg "range" = none) (w : DE X L a τ M fun s M1 => DE X L b τ M1 fun t M2 => ∃ i j : Int, s = dI i ∧ t = dI j ∧ (j - i).toNat ≤ 2 ^ 24 ∧ ∀ q, M2 q = none → Q (.c q) (updC M2 q (.l (rgI i j))))
    (na : starEach [.Call (.Name "range" p2) [a, b] [] pos2] X.env = (false, eval (.Call (.Name "range" p2) [a, b] [] pos2) X.env) :: starEach [] X.env := by rfl) (nb : starEach [a, b] X.env = (false, eval a X.env) :: starEach [b] X.env := by rfl) (nc : starEach [b] X.env = (false, eval b X.env) :: starEach [] X.env := by rfl) (nd : (backTo pos2 (starEach [b] X.env)).any (·.1) = false := by rfl) :
    DE X L (.Call (.Name "list" p) [.Call (.Name "range" p2) [a, b] [] pos2] [] pos) τ M Q := by
  refine de_of (pe_listRgL hc hg hm (prg_2 hg2 hm2 pe_s pe_s nb nc nd) na) fun σ G H Q' gs gm k => ?_
  refine w σ G H _ gs gm fun s M1 v G1 H1 q e1 g1 a1 => q σ G1 H1 _ (gs.mono e1) g1 ?_
  rintro t M2 u G2 H2 ⟨i, j, es, et, le, q2⟩ e2 g2 a2
  subst es et
  refine ⟨i, j, sl_int (a1.mono e2), sl_int a2, le, fun c hc => ?_⟩
  exact k _ _ _ _ _ (q2 c (g2.free hc).2) (e1.trans e2) (g2.newC hc ⟨_, upd_same, rg_sl i j⟩) (.c c)
end
end Y

namespace Y
open PySem L2 PyProof.Rows
section
variable {X : Cx} {L : Lk} {τ : List (Option Sl)} {M : Cs} {Q : Sl → Cs → Prop} {e iter tg : Expr} {p pos : Pos} {QJ : QI}
/-- reversed(xs) -/
theorem di_rev (hg : Gl X "reversed") (hm : X.mg "reversed" = none) (w : DE X L iter τ M fun s M1 => ∃ ss, seqOf M1 s = some ss ∧ QJ ss.length (fun M' => seqOf M' s = some ss) (fun i y => ss[ss.length - 1 - i]? = some y) M1)
    (hs : starEach [iter] X.env = (false, eval iter X.env) :: starEach [] X.env := by rfl) : DI X L tg (.Call (.Name "reversed" p) [iter] [] pos) τ M QJ := fun σ G H R gs gm k => by
  refine i_of (RT.pi_revA hg hm pe_s hs) ?_
  show sE X iter σ H (fun v H1 => ∃ (a : Addr) (xs : List V), v = .ref a ∧ ((SqL X.K H1 a xs ∧ R (Itv X.K a xs.length) H1) ∨ (SqT X.K H1 a xs ∧ R (RT.ItvT X.K a xs.length) H1)))
  refine w σ G H _ gs gm ?_
  rintro s M1 v G1 H1 ⟨ss, hs, q⟩ e1 g1 a1
  obtain ⟨p, xs, rfl, r, l⟩ := seq_at g1 a1 hs
  refine ⟨p, xs, rfl, ?_⟩
  have len0 := l.len
  cases hT : isTup s with
  | false =>
    rw [hT, if_neg Bool.false_ne_true] at r
    refine .inl ⟨r, k _ _ _ M1 G1 H1 _ q e1 g1 ⟨fun M' G' H' sM e' g' => Nat.le_of_eq len0, fun i M' G' H' hi sM e' g' => ?_⟩⟩
    obtain ⟨p', xs', ep, r', l'⟩ := seq_at g' (a1.mono e') sM
    cases ep
    rw [hT, if_neg Bool.false_ne_true] at r'
    have hj : ss.length - 1 - i < ss.length := by omega
    obtain ⟨v, hv, av⟩ := l'.get (List.getElem?_eq_getElem hj)
    rw [len0]
    refine ⟨⟨hi, xs', v, r', hv⟩, fun x H2 hy => ?_⟩
    obtain ⟨rfl, f⟩ := hy
    have ex := Option.some.inj ((f _ r').symm.trans hv)
    subst ex
    exact ⟨_, G', List.getElem?_eq_getElem hj, Ex.refl _, g', av⟩
  | true =>
    rw [hT, if_pos rfl] at r
    refine .inr ⟨r, k _ _ _ M1 G1 H1 _ q e1 g1 ⟨fun M' G' H' sM e' g' => Nat.le_of_eq len0, fun i M' G' H' hi sM e' g' => ?_⟩⟩
    obtain ⟨p', xs', ep, r', l'⟩ := seq_at g' (a1.mono e') sM
    cases ep
    rw [hT, if_pos rfl] at r'
    have hj : ss.length - 1 - i < ss.length := by omega
    obtain ⟨v, hv, av⟩ := l'.get (List.getElem?_eq_getElem hj)
    rw [len0]
    refine ⟨⟨hi, xs', v, r', hv⟩, fun x H2 hy => ?_⟩
    obtain ⟨rfl, f⟩ := hy
    have ex := Option.some.inj ((f _ r').symm.trans hv)
    subst ex
    exact ⟨_, G', List.getElem?_eq_getElem hj, Ex.refl _, g', av⟩
theorem SlL.rev {K : PySem.W.Frag} {G : Hp} : ∀ {vs : List V} {ss : List Sl}, SlL K G vs ss → SlL K G vs.reverse ss.reverse
  | _, _, .nil => .nil
  | _, _, .cons a b => by
    rw [List.reverse_cons, List.reverse_cons]
    exact (SlL.rev b).append (.cons a .nil)
/-- xs[::-1], a list -/
theorem de_rev {k : Nat} {p1 p2 p3 : Pos} (w : DE X L e τ M fun s M1 => ∃ ss, isTup s = false ∧ seqOf M1 s = some ss ∧ ∀ q, M1 q = none → Q (.c q) (updC M1 q (.l ss.reverse))) : DE X L (.Subscript e (.Slice none none (some (.UnaryOp .USub (.Constant (.int 1) k p1) p2)) p3) pos) τ M Q :=
  de_of (pe_revL pe_s) fun σ G H Q' gs gm kk => w σ G H _ gs gm fun s M1 v G1 H1 ⟨ss, hT, h, q⟩ e1 g1 a1 => by
    obtain ⟨p, xs, rfl, r, l⟩ := seq_at g1 a1 h
    rw [hT, if_neg Bool.false_ne_true] at r
    exact ⟨p, xs, rfl, r, fun c hc => kk _ _ _ G1 _ (q c (g1.free hc).2) e1 (g1.newC hc ⟨_, upd_same, l.rev⟩) (.c c)⟩
/-! dict of pairs -/
def mergeS (kvs more : List (Key × Sl)) : List (Key × Sl) := more.foldl (fun acc kv => putS acc kv.1 kv.2) kvs
theorem KvAt.merge {K : PySem.W.Frag} {G : Hp} : ∀ {more : List (Key × V)} {ms : List (Key × Sl)} {xs : List (Key × V)} {ys : List (Key × Sl)}, KvAt K G more ms → KvAt K G xs ys → KvAt K G (mergeK xs more) (mergeS ys ms)
  | [], [], _, _, _, h => h
  | (k, v) :: ps, (k2, s) :: qs, _, _, ⟨e, a, t⟩, h => by
    have e' : k = k2 := e
    subst e'
    exact KvAt.merge (more := ps) (ms := qs) t (KvAt.put a h)
  | [], _ :: _, _, _, h, _ => h.elim
  | _ :: _, [], _, _, h, _ => h.elim
def prD (kv : Key × PyData) : Sl := .d (.tuple [kD kv.1, kv.2])
theorem pairs_at {K : PySem.W.Frag} {L : Lk} {M : Cs} {G H : Hp} (g : GoodM K L M G H) : ∀ {kd : List (Key × PyData)} {xs : List V}, SlL K G xs (kd.map prD) → ∃ (ps : List Addr) (kvs : List (Key × V)), xs = ps.map V.ref ∧ Paired (fun p kv => SqT K H p [kV kv.1, kv.2]) ps kvs ∧ KvAt K G kvs (slK kd)
  | [], xs, h => by
    cases h
    exact ⟨[], [], rfl, .nil, trivial⟩
  | (k, d) :: r, xs, h => by
    rw [List.map_cons] at h
    cases h with
    | cons a b =>
      obtain ⟨ps, kvs, rfl, hp, hk⟩ := pairs_at g b
      cases a with
      | d a =>
        cases a with
        | @tup q _ _ e l =>
          cases l with
          | @cons vk _ _ _ a1 l =>
            cases l with
            | @cons vd _ _ _ a2 l =>
              cases l
              have ek : vk = kV k := by
                cases k with
                | inl i => cases a1; rfl
                | inr x => cases a1; rfl
              subst ek
              exact ⟨q :: ps, (k, vd) :: kvs, rfl, .cons (.inl (g.rd e)) hp, rfl, .d a2, hk⟩
theorem k_dictP {s : Sl} {kd : List (Key × PyData)} (hT : isTup s = false) (h : seqOf M s = some (kd.map prD)) (q : ∀ p, M p = none → Q (.c p) (updC M p (.k (mergeS [] (slK kd))))) :
    RCk X.K L (fun xs H Q => ∃ (a : Addr) (ps : List Addr) (kvs : List (Key × V)), xs = [.ref a] ∧ SqL X.K H a (ps.map V.ref) ∧ Paired (fun p kv => SqT X.K H p [kV kv.1, kv.2]) ps kvs ∧ ∀ p, H p = none → Q (.ref p) (upd H p (.dK (mergeK [] kvs)))) [s] M Q := fun G H vs Q' g a k => by
  obtain ⟨v, rfl, a1⟩ := sl1 a
  obtain ⟨p, xs, rfl, r, l⟩ := seq_at g a1 h
  rw [hT, if_neg Bool.false_ne_true] at r
  obtain ⟨ps, kvs, rfl, hp, hk⟩ := pairs_at g l
  exact ⟨p, ps, kvs, rfl, r, hp, fun c hc => k _ _ _ G _ (q c (g.free hc).2) (Ex.refl G) (g.newC hc ⟨_, upd_same, KvAt.merge hk trivial⟩) (.c c)⟩
theorem putS_new {kvs : List (Key × Sl)} {k : Key} {v : Sl} (h : k ∉ kvs.map (·.1)) : putS kvs k v = kvs ++ [(k, v)] := by
  unfold putS
  rw [if_neg]
  intro z
  obtain ⟨p, hp, e⟩ := List.any_eq_true.mp z
  exact h (List.mem_map.mpr ⟨p, hp, of_decide_eq_true e⟩)
theorem mergeS_nodup : ∀ (more kvs : List (Key × Sl)), ((kvs ++ more).map (·.1)).Nodup → mergeS kvs more = kvs ++ more
  | [], kvs, _ => by rw [List.append_nil]; rfl
  | (k, v) :: r, kvs, h => by
    have h1 : k ∉ kvs.map (·.1) := by
      rw [List.map_append, List.map_cons] at h
      have := (List.nodup_append.mp h).2.2
      intro z
      exact this k z k List.mem_cons_self rfl
    show mergeS (putS kvs k v) r = _
    rw [putS_new h1, mergeS_nodup r _ (by rw [List.append_assoc]; exact h), List.append_assoc]
    rfl
end
end Y

namespace Y
open PySem L2 PyProof.Rows
/-! ### a dict cell, seen as data while a call runs -/
mutual
def ndD : PyData → Bool
  | .list ds => ndDs ds
  | .tuple ds => ndDs ds
  | .dict _ => false
  | _ => true
def ndDs : List PyData → Bool
  | [] => true
  | d :: r => ndD d && ndDs r
end
mutual
def ndS : Sl → Bool
  | .d x => ndD x
  | .u ss => ndSs ss
  | _ => true
def ndSs : List Sl → Bool
  | [] => true
  | s :: r => ndS s && ndSs r
end
def ndK : List (Key × Sl) → Bool
  | [] => true
  | p :: r => ndS p.2 && ndK r
def ndC : Cell → Bool
  | .l ss => ndSs ss
  | .k kvs => ndK kvs
def ndM (M : Cs) : Prop := ∀ a c, M a = some c → ndC c = true
def delG (G : Hp) (a : Addr) : Hp := fun b => if b = a then none else G b
theorem delG_ne {G : Hp} {a b : Addr} (h : b ≠ a) : delG G a b = G b := by unfold delG; rw [if_neg h]
theorem delG_same {G : Hp} {a : Addr} : delG G a a = none := by unfold delG; rw [if_pos rfl]
section
variable {K : PySem.W.Frag} {G : Hp} {a : Addr} {xs : List (Key × V)}
theorem delG_keep {b : Addr} {o : HO} (ha : G a = some (.dK xs)) (h : G b = some o) (ho : ∀ ys, o ≠ .dK ys) : delG G a b = some o := by
  rw [delG_ne]
  · exact h
  · intro e
    subst e
    rw [ha] at h
    cases h
    exact ho _ rfl
mutual
theorem At.less (ha : G a = some (.dK xs)) : ∀ {v : V} {d : PyData}, At K G v d → ndD d = true → At K (delG G a) v d
  | _, _, .non, _ => .non
  | _, _, .bl b, _ => .bl b
  | _, _, .int i, _ => .int i
  | _, _, .str x, _ => .str x
  | _, _, .lst h l, n => .lst (delG_keep ha h fun _ => nofun) (AtL.less ha l (by simpa [ndD] using n))
  | _, _, .tup h l, n => .tup (delG_keep ha h fun _ => nofun) (AtL.less ha l (by simpa [ndD] using n))
  | _, _, .dic h l, n => by simp [ndD] at n
theorem AtL.less (ha : G a = some (.dK xs)) : ∀ {vs : List V} {ds : List PyData}, AtL K G vs ds → ndDs ds = true → AtL K (delG G a) vs ds
  | _, _, .nil, _ => .nil
  | _, _, .cons h l, n => by
    simp only [ndDs, Bool.and_eq_true] at n
    exact .cons (At.less ha h n.1) (AtL.less ha l n.2)
end
mutual
theorem SlAt.less (ha : G a = some (.dK xs)) : ∀ {v : V} {s : Sl}, SlAt K G v s → ndS s = true → SlAt K (delG G a) v s
  | _, _, .d h, n => .d (At.less ha h (by simpa [ndS] using n))
  | _, _, .c p, _ => .c p
  | _, _, .t m, _ => .t m
  | _, _, .u h l, n => .u (delG_keep ha h fun _ => nofun) (SlL.less ha l (by simpa [ndS] using n))
  | _, _, .s h, _ => .s (h.imp (fun z => delG_keep ha z fun _ => nofun) id)
theorem SlL.less (ha : G a = some (.dK xs)) : ∀ {vs : List V} {ss : List Sl}, SlL K G vs ss → ndSs ss = true → SlL K (delG G a) vs ss
  | _, _, .nil, _ => .nil
  | _, _, .cons h l, n => by
    simp only [ndSs, Bool.and_eq_true] at n
    exact .cons (SlAt.less ha h n.1) (SlL.less ha l n.2)
end
theorem KvAt.less (ha : G a = some (.dK xs)) : ∀ {vs : List (Key × V)} {ss : List (Key × Sl)}, KvAt K G vs ss → ndK ss = true → KvAt K (delG G a) vs ss
  | [], [], _, _ => trivial
  | _ :: _, _ :: _, ⟨e, h, l⟩, n => by
    simp only [ndK, Bool.and_eq_true] at n
    exact ⟨e, SlAt.less ha h n.1, KvAt.less ha l n.2⟩
  | [], _ :: _, h, _ => h.elim
  | _ :: _, [], h, _ => h.elim
theorem CellOk.less {H : Hp} {b : Addr} {c : Cell} (ha : G a = some (.dK xs)) (h : CellOk K G H b c) (n : ndC c = true) : CellOk K (delG G a) H b c := by
  cases c with
  | l ss => obtain ⟨ys, h1, h2⟩ := h; exact ⟨ys, h1, SlL.less ha h2 n⟩
  | k ss => obtain ⟨ys, h1, h2⟩ := h; exact ⟨ys, h1, KvAt.less ha h2 n⟩
theorem GoodM.less {L : Lk} {M : Cs} {H : Hp} {kvs : List (Key × Sl)} (g : GoodM K L M G H) (hL : NoDK L) (ha : G a = some (.dK xs)) (hk : KvAt K G xs kvs) (nM : ndM M) (nk : ndK kvs = true) : GoodM K L (updC M a (.k kvs)) (delG G a) H := by
  refine ⟨fun b o h => ?_, fun b c h => ?_, g.lk⟩
  · by_cases e : b = a
    · subst e
      rw [delG_same] at h
      cases h
    · rw [delG_ne e] at h
      exact g.vw b o h
  · by_cases e : b = a
    · subst e
      rw [updC_same] at h
      cases h
      exact ⟨delG_same, xs, lock_exact g hL ha, KvAt.less ha hk nk⟩
    · rw [updC_ne e] at h
      obtain ⟨h1, h2⟩ := g.cell b c h
      exact ⟨by rw [delG_ne e]; exact h1, CellOk.less ha h2 (nM b c h)⟩
end
/-- the arguments with one dict cell seen as data -/
def seeA (a : Addr) (d : PyData) : List Sl → List Sl := List.map fun s => match s with
  | .c b => if b = a then .d d else .c b
  | s => s
theorem SlL.see {K : PySem.W.Frag} {G : Hp} {a : Addr} {d : PyData} (h : At K G (.ref a) d) : ∀ {vs : List V} {ss : List Sl}, SlL K G vs ss → SlL K G vs (seeA a d ss)
  | _, _, .nil => .nil
  | _, _, .cons p l => by
    refine .cons ?_ (SlL.see h l)
    cases p with
    | c b =>
      show SlAt K G (.ref b) (if b = a then .d d else .c b)
      by_cases e : b = a
      · rw [if_pos e, e]; exact .d h
      · rw [if_neg e]; exact .c b
    | d x => exact .d x
    | t n => exact .t n
    | u x y => exact .u x y
    | s x => exact .s x
section
variable {X : Cx} {L : Lk} {τ : List (Option Sl)} {M : Cs} {Q : Sl → Cs → Prop} {e : Expr} {es : List Expr} {pos p : Pos}
/-- what is asked where a contract is used with the dict cell a seen as data -/
def View (L : Lk) (R : Rr) (a : Addr) (kd : List (Key × PyData)) (ss : List Sl) (M1 : Cs) (Q : Sl → Cs → Prop) : Prop :=
  NoDK L ∧ M1 a = some (.k (slK kd)) ∧ ndK (slK kd) = true ∧ R L (seeA a (.dict (encK kd)) ss) (delC M1 a) fun s M2 => M2 a = none → ∃ M3, Sub M3 M2 ∧ ndS s = true ∧ ndM M3 ∧ Q s (updC M3 a (.k (slK kd)))
theorem view_ret {K : PySem.W.Frag} {L : Lk} {R : Rr} {a : Addr} {kd : List (Key × PyData)} {ss : List Sl} {M1 : Cs} {Q : Sl → Cs → Prop} {G H : Hp} {vs : List V} {Q' : VK} (v : View L R a kd ss M1 Q) (g : GoodM K L M1 G H) (al : SlL K G vs ss) (k : Ret K L G Q Q') :
    ∃ (M G1 : _) (ss' : List Sl) (Q0 : Sl → Cs → Prop), GoodM K L M G1 H ∧ SlL K G1 vs ss' ∧ R L ss' M Q0 ∧ Ret K L G1 Q0 Q' := by
  obtain ⟨hL, ha, nk, r⟩ := v
  obtain ⟨f, xs, h1, h2⟩ := g.cell a _ ha
  have ex : Ex G (upd G a (.dK xs)) := Ex.new f
  have gm : GoodM K L (delC M1 a) (upd G a (.dK xs)) H := by
    refine ⟨fun b u e => ?_, fun b c e => ?_, g.lk⟩
    · by_cases hb : b = a
      · subst hb
        rw [upd_same] at e
        cases e
        exact .inl h1
      · rw [upd_ne hb] at e
        exact g.vw b u e
    · by_cases hb : b = a
      · subst hb
        rw [delC_same] at e
        cases e
      · rw [delC_ne hb] at e
        obtain ⟨z1, z2⟩ := g.cell b c e
        exact ⟨by rw [upd_ne hb]; exact z1, z2.mono ex fun o q => q⟩
  have ad : At K (upd G a (.dK xs)) (.ref a) (.dict (encK kd)) := .dic upd_same (AtK.mono ex (KvAt.at kd h2))
  refine ⟨_, _, _, _, gm, SlL.see ad (al.mono ex), r, ?_⟩
  intro s M2 v G2 H2 q0 e2 g2 a2
  have ha2 : G2 a = some (.dK xs) := e2 _ _ upd_same
  have no : M2 a = none := by
    cases z : M2 a with
    | none => rfl
    | some c =>
      have := (g2.cell a c z).1
      rw [ha2] at this
      cases this
  obtain ⟨M3, sb, ns, nm, q⟩ := q0 no
  refine k s _ v (delG G2 a) H2 q ?_ (GoodM.less (g2.sub sb) hL ha2 (KvAt.mono (ex.trans e2) h2) nm nk) (SlAt.less ha2 a2 ns)
  intro b o hb
  have hba : b ≠ a := by
    intro z
    subst z
    rw [f] at hb
    cases hb
  rw [delG_ne hba]
  exact e2 _ _ (ex _ _ hb)
theorem de_callV {R : Rr} {k : Nat} {ps : List Str} {x : Str} (a : Addr) (kd : List (Key × PyData)) (c : Cal X.prog X.w X.K X.mg X.base x k ps R) (hr : Room k X.A) (hg : Gl X x) (w : DA X L (e :: es) τ M fun ss M1 => View L R a kd ss M1 Q) (hdb : (x == ("__debug__" : Str)) = false := by decide)
    (he : starEach (e :: es) X.env = (false, eval e X.env) :: starEach es X.env := by rfl) (hpl : (backTo pos (starEach es X.env)).any (·.1) = false := by rfl) : DE X L (.Call (.Name x p) (e :: es) [] pos) τ M Q := by
  obtain ⟨f, fd, F, m, kp, b⟩ := c
  refine de_call (R := fun L ss M Q => View L R a kd ss M Q) ⟨fun vs H Q E h => ?_, fun B fr t H ar us vs Q E room e0 bd rel h => ?_⟩ hr hg m kp b w hdb he hpl
  · obtain ⟨L, M, G, ss, Q0, g, al, v, r⟩ := h
    obtain ⟨M1, G1, ss1, Q1, g1, a1, r1, q1⟩ := view_ret v g al r
    exact F.len vs H Q E ⟨L, M1, G1, ss1, Q1, g1, a1, r1, q1⟩
  · obtain ⟨L, M, G, ss, Q0, g, al, v, r⟩ := h
    obtain ⟨M1, G1, ss1, Q1, g1, a1, r1, q1⟩ := view_ret v g al r
    exact F.run B fr t H ar us vs Q E room e0 bd rel ⟨L, M1, G1, ss1, Q1, g1, a1, r1, q1⟩
theorem de_callVG {R : Rr} {k : Nat} {ps : List Str} {x : Str} (a : Addr) (kd : List (Key × PyData)) (c : CalG X.prog X.w X.K X.mg X.base x k ps R) (hr : Room k X.A) (noG : X.A.guards = some []) (hg : Gl X x) (w : DA X L (e :: es) τ M fun ss M1 => View L R a kd ss M1 Q) (hdb : (x == ("__debug__" : Str)) = false := by decide)
    (he : starEach (e :: es) X.env = (false, eval e X.env) :: starEach es X.env := by rfl) (hpl : (backTo pos (starEach es X.env)).any (·.1) = false := by rfl) : DE X L (.Call (.Name x p) (e :: es) [] pos) τ M Q := by
  obtain ⟨f, fd, F, m, kp, b⟩ := c
  refine de_callG (R := fun L ss M Q => View L R a kd ss M Q) ⟨f, fd, ⟨fun vs H Q E h => ?_, fun B fr t H ar us vs Q E room ng e0 bd rel h => ?_⟩, m, kp, b⟩ hr noG hg w hdb he hpl
  · obtain ⟨L, M, G, ss, Q0, g, al, v, r⟩ := h
    obtain ⟨M1, G1, ss1, Q1, g1, a1, r1, q1⟩ := view_ret v g al r
    exact F.cnt vs H Q E ⟨L, M1, G1, ss1, Q1, g1, a1, r1, q1⟩
  · obtain ⟨L, M, G, ss, Q0, g, al, v, r⟩ := h
    obtain ⟨M1, G1, ss1, Q1, g1, a1, r1, q1⟩ := view_ret v g al r
    exact F.go B fr t H ar us vs Q E room ng e0 bd rel ⟨L, M1, G1, ss1, Q1, g1, a1, r1, q1⟩
end
/-! which cells are kept -/
def keep (ps : List Addr) (M : Cs) : Cs := fun a => if a ∈ ps then M a else none
theorem keep_sub {ps : List Addr} {M : Cs} : Sub (keep ps M) M := fun a c h => by
  unfold keep at h
  split at h
  · exact h
  · cases h
theorem keep_in {ps : List Addr} {M : Cs} {a : Addr} (h : a ∈ ps) : keep ps M a = M a := by unfold keep; rw [if_pos h]
theorem keep_nd {ps : List Addr} {M : Cs} (h : ∀ a ∈ ps, ∃ c, M a = some c ∧ ndC c = true) : ndM (keep ps M) := fun a c e => by
  unfold keep at e
  split at e
  · next hm =>
    obtain ⟨c', h1, h2⟩ := h a hm
    rw [h1] at e
    cases e
    exact h2
  · cases e
section
variable {X : Cx} {L : Lk} {τ : List (Option Sl)} {M : Cs} {Q : Sl → Cs → Prop} {e1 e2 : Expr} {pos : Pos}
/-- {"x": i} -/
theorem de_dictSI {x : Str} {i : Int} {j1 j2} {p1 p2 : Pos} (q : ∀ p, M p = none → Q (.c p) (updC M p (.k (slK [(.inr x, .int i)])))) : DE X L (.Dict [some (.Constant (.str x) j1 p1)] [.Constant (.int i) j2 p2] pos) τ M Q :=
  de_of (pe_disp (pps_cons pe_str pe_int pps_nil) rfl rfl (by simp) (by simp)) fun σ G H Q' gs gm kk p hp => by
    refine ⟨upd_same, [(.inr x, .int i)], rfl, (by show 1 ≤ 15; decide), ?_⟩
    have e : upd (upd H p (.dK [])) p (.dK (mergeK [] [(.inr x, V.int i)])) = upd H p (.dK [(.inr x, V.int i)]) := by
      funext b
      by_cases hb : b = p
      · subst hb
        rw [upd_same, upd_same]
        rfl
      · rw [upd_ne hb, upd_ne hb, upd_ne hb]
    rw [e]
    have f := gm.free hp
    exact kk _ _ _ G _ (q p f.2) (Ex.refl G) (gm.newC hp ⟨[(.inr x, .int i)], upd_same, rfl, .d (.int i), trivial⟩) (.c p)
end
theorem ndDs_map {α : Type} (f : α → PyData) (h : ∀ x, ndD (f x) = true) : ∀ c : List α, ndDs (c.map f) = true
  | [] => by simp [ndDs]
  | x :: r => by rw [List.map_cons]; simp only [ndDs, h x, ndDs_map f h r, Bool.and_self]
theorem ndSs_map {α : Type} (f : α → Sl) (h : ∀ x, ndS (f x) = true) : ∀ c : List α, ndSs (c.map f) = true
  | [] => by simp [ndSs]
  | x :: r => by rw [List.map_cons]; simp only [ndSs, h x, ndSs_map f h r, Bool.and_self]
theorem nd_run (r : Run) : ndS (sRun r) = true := by simp [ndS, sRun, eRun, ndD, ndDs]
theorem nd_line (r : Line) : ndS (sLine r) = true := by simp [ndS, sLine, eLine, ndD, ndDs]
theorem nd_int (i : Int) : ndS (dI i) = true := by simp [ndS, dI, ndD]
theorem nd_str (x : Str) : ndS (dS x) = true := by simp [ndS, dS, ndD]
theorem nd_runs (c : List Run) : ndC (.l (c.map sRun)) = true := ndSs_map sRun nd_run c
theorem nd_ints (c : List Int) : ndC (.l (c.map dI)) = true := ndSs_map dI nd_int c
theorem nd_cnt : ∀ cs : Cnt, ndK (slK (kdC cs)) = true
  | [] => rfl
  | p :: r => by
    have ih := nd_cnt r
    unfold slK kdC at ih ⊢
    simp only [List.map_cons, ndK, ndS, ndD, ih, Bool.and_self]
end Y

namespace Y
open PySem L2 PyProof.Rows
/-! ### repr of data of any kind but texts; enumerate -/
def noTx : PyData → Bool
  | .str _ => false
  | _ => true
def rShowA (K : PySem.W.Frag) : List V → Hp → VK → Prop := fun xs H Q => ∃ (v : V) (d : PyData), xs = [v] ∧ DX K H v d ∧ noTx d = true ∧ d.showable = true ∧ d.depth ≤ 60 ∧ d.shown.length ≤ sizeLine ∧ Q (.str d.shown) H
theorem call_showA {X : Cx} (S : Sys X.base) (noG : X.A.guards = some []) (hu : X.A.units + 64 < cLine) : CallR X (.builtin "repr") (rShowA X.K) := by
  intro pins s σ H xs us Q I r h
  obtain ⟨v, d, rfl, hd, nt, sh, dp, sz, q⟩ := h
  obtain ⟨u, rfl, ru⟩ := vals1 r
  have box : ∀ a, v = .ref a → wpAny (model X.prog X.w) X.A (call (.builtin "repr") [u]) (EP X pins σ Q) X.xe s := by
    intro a e
    subst e
    cases ru
    obtain ⟨as, rd, nm⟩ := DX.reads I S hd (u := .ref a) rfl
    exact PySem.repr_of_reads' rd sh (fun _ => nm) noG (by omega) (fun _ _ z => z) (fun h' u tk hk => ⟨.str d.shown, H, I.kept (t' := tk) hk, ⟨u, rfl⟩, q⟩) sz
  cases hd with
  | non =>
    cases ru
    exact PySem.P.repr_of_none ⟨.str _, H, I.tok _, ⟨s.toks, by simp only [PyData.shown]⟩, q⟩
  | bl b =>
    cases ru
    exact PySem.P.repr_of_bool ⟨.str _, H, I.tok _, ⟨s.toks, by simp only [PyData.shown]⟩, q⟩
  | int i =>
    obtain ⟨t, rfl⟩ := ru
    have hz : i.natAbs.log2 < 1920 := by simpa [PyData.showable] using sh
    exact PySem.P.repr_of_int hz ⟨.str _, H, I.tok _, ⟨s.toks, by simp only [PyData.shown]⟩, q⟩
  | str x => cases nt
  | lst => exact box _ rfl
  | tup => exact box _ rfl
  | dic => exact box _ rfl
section
variable {X : Cx} {L : Lk} {τ : List (Option Sl)} {M : Cs} {Q : Sl → Cs → Prop} {e : Expr} {p pos : Pos} {QJ : QI}
theorem k_showA {s : Sl} {d : PyData} (h : IsX M s d) (nt : noTx d = true) (fit : fitX d = true) (wt : wtX d ≤ 20000) (dp : d.depth ≤ 60) (q : Q (.d (.str d.shown)) M) : RCk X.K L (rShowA X.K) [s] M Q := fun G H vs Q' g a k => by
  obtain ⟨v, rfl, a1⟩ := sl1 a
  have sz := shownX_le d fit
  have sl : (10 ^ 7 : Nat) ≤ sizeLine := by rw [sizeLine_eq]; decide
  exact ⟨v, d, rfl, IsX.dx g h a1, nt, showX d fit, dp, by omega, k.go q g (.d (.str _))⟩
/-- enumerate(xs), a list -/
theorem di_enum {elts : List Expr} {kk : Nat} {tpos : Pos} (hg : Gl X "enumerate") (hm : X.mg "enumerate" = none)
    (w : DE X L e τ M fun s M1 => ∃ xs, isTup s = false ∧ seqOf M1 s = some xs ∧ QJ xs.length (fun M' => seqOf M' s = some xs) (fun i y => ∃ a, xs[i]? = some a ∧ y = .u [dI (i : Nat), a]) M1)
    (hs : starEach [e] X.env = [(false, eval e X.env)] := by rfl) : DI X L (.Tuple elts kk tpos) (.Call (.Name "enumerate" p) [e] [] pos) τ M QJ := fun σ G H R gs gm k => by
  refine i_of (pi_enum hg hm (pa_cons pe_s pa_nil hs) hs) ?_
  show sE X e σ H (fun v H1 => ∃ a xs, [v] = [V.ref a] ∧ SqL X.K H1 a xs ∧ R (Ite X.K a) H1)
  refine w σ G H _ gs gm ?_
  rintro s M1 v G1 H1 ⟨us, hT, h1, q⟩ e1 g1 a1
  obtain ⟨pa, xs, rfl, ra, la⟩ := seq_at g1 a1 h1
  rw [hT, if_neg Bool.false_ne_true] at ra
  refine ⟨pa, xs, rfl, ra, k _ _ _ M1 G1 H1 _ q e1 g1 ⟨fun M' G' H' sM e' g' => ?_, fun i M' G' H' hi sM e' g' => ?_⟩⟩
  · obtain ⟨p1, xs1, ep, r1, l1⟩ := seq_at g' (a1.mono e') sM
    cases ep
    rw [hT, if_neg Bool.false_ne_true] at r1
    exact ⟨xs1, r1, Nat.le_of_eq l1.len⟩
  · obtain ⟨p1, xs1, ep, r1, l1⟩ := seq_at g' (a1.mono e') sM
    cases ep
    rw [hT, if_neg Bool.false_ne_true] at r1
    obtain ⟨v1, hv1, av1⟩ := l1.get (List.getElem?_eq_getElem hi)
    refine ⟨⟨xs1, v1, r1, hv1⟩, fun x H2 hy => ?_⟩
    obtain ⟨T, x1, rfl, nT, rfl, f1⟩ := hy
    have ex1 := Option.some.inj ((f1 _ r1).symm.trans hv1)
    subst ex1
    have fr := g'.free nT
    exact ⟨_, _, ⟨_, List.getElem?_eq_getElem hi, rfl⟩, Ex.new fr.1, g'.newD nT, .u upd_same (.cons (.d (.int _)) (.cons (av1.mono (Ex.new fr.1)) .nil))⟩
end
/-! ### a dict of counts that grows -/
def putC (cs : Cnt) (z : Str) (v : Int) : Cnt := if (cs.any fun p => decide (p.1 = z)) = true then cs.map (fun p => if p.1 = z then (p.1, v) else p) else cs ++ [(z, v)]
theorem putS_put (cs : Cnt) (z : Str) (v : Int) : putS (slK (kdC cs)) (.inr z) (dI v) = slK (kdC (putC cs z v)) := by
  have e : ((slK (kdC cs)).any fun kv => decide (kv.1 = Sum.inr z)) = cs.any fun p => decide (p.1 = z) := by
    unfold slK kdC
    rw [List.map_map, List.any_map]
    congr 1
    funext p
    show decide ((Sum.inr p.1 : Key) = Sum.inr z) = decide (p.1 = z)
    by_cases h : p.1 = z
    · rw [decide_eq_true h, decide_eq_true (by rw [h])]
    · rw [decide_eq_false h, decide_eq_false (fun q => h (Sum.inr.inj q))]
  unfold putS putC
  rw [e]
  split
  · unfold slK kdC
    rw [List.map_map, List.map_map, List.map_map, List.map_map]
    apply List.map_congr_left
    intro p _
    show (if (Sum.inr p.1 : Key) = .inr z then ((Sum.inr p.1 : Key), dI v) else (.inr p.1, .d (.int p.2))) = (Sum.inr (if p.1 = z then (p.1, v) else p).1, Sl.d (.int (if p.1 = z then (p.1, v) else p).2))
    by_cases e : p.1 = z
    · rw [if_pos (by rw [e]), if_pos e]
      rfl
    · rw [if_neg (fun q => e (Sum.inr.inj q)), if_neg e]
  · unfold slK kdC
    rw [List.map_append, List.map_append]
    rfl
theorem getC_cons (p : Str × Int) (cs : Cnt) (y : Str) : getC (p :: cs) y = if p.1 = y then some p.2 else getC cs y := by
  unfold getC
  rw [List.find?_cons]
  by_cases h : p.1 = y
  · rw [if_pos h, decide_eq_true h]
    rfl
  · rw [if_neg h, decide_eq_false h]
theorem getC_app (cs : Cnt) (z y : Str) (v : Int) : getC (cs ++ [(z, v)]) y = if (getC cs y).isSome = true then getC cs y else if z = y then some v else none := by
  induction cs with
  | nil => rw [List.nil_append, getC_cons]; rfl
  | cons p r ih =>
    rw [List.cons_append, getC_cons, getC_cons, ih]
    by_cases h : p.1 = y
    · rw [if_pos h, if_pos h]; rfl
    · rw [if_neg h, if_neg h]
theorem getC_map (cs : Cnt) (z y : Str) (v : Int) : getC (cs.map fun p => if p.1 = z then (p.1, v) else p) y = if y = z then (getC cs y).map fun _ => v else getC cs y := by
  induction cs with
  | nil => split <;> rfl
  | cons p r ih =>
    rw [List.map_cons, getC_cons, getC_cons, ih]
    by_cases hz : p.1 = z
    · rw [if_pos hz]
      by_cases h : p.1 = y
      · rw [if_pos h, if_pos (by rw [← h, hz]), if_pos h]
        rfl
      · rw [if_neg h, if_neg h]
    · rw [if_neg hz]
      by_cases h : p.1 = y
      · rw [if_pos h, if_neg (by rw [← h]; exact hz), if_pos h]
      · rw [if_neg h, if_neg h]
theorem any_getC (cs : Cnt) (z : Str) : (cs.any fun p => decide (p.1 = z)) = (getC cs z).isSome := by
  induction cs with
  | nil => rfl
  | cons p r ih =>
    rw [List.any_cons, getC_cons, ih]
    by_cases h : p.1 = z
    · rw [if_pos h, decide_eq_true h]; rfl
    · rw [if_neg h, decide_eq_false h]; rfl
theorem getC_put (cs : Cnt) (z y : Str) (v : Int) : getC (putC cs z v) y = if y = z then some v else getC cs y := by
  unfold putC
  rw [any_getC]
  by_cases h : (getC cs z).isSome = true
  · rw [if_pos h, getC_map]
    by_cases e : y = z
    · rw [if_pos e, if_pos e, e]
      obtain ⟨u, hu⟩ := Option.isSome_iff_exists.mp h
      rw [hu]
      rfl
    · rw [if_neg e, if_neg e]
  · rw [if_neg h, getC_app]
    by_cases e : y = z
    · rw [if_pos e, e, if_neg h, if_pos rfl]
    · rw [if_neg e]
      cases g : getC cs y with
      | some u => rfl
      | none => rw [if_neg (by simp), if_neg (fun q => e q.symm)]
theorem putC_len (cs : Cnt) (z : Str) (v : Int) : (putC cs z v).length ≤ cs.length + 1 := by
  unfold putC
  split
  · rw [List.length_map]; omega
  · rw [List.length_append]; exact Nat.le_refl _
end Y

namespace Y
open PySem L2 PyProof.Rows
/-! ### comprehensions over a dict's keys, the dict a name that holds data -/
section
variable {X : Cx} {L : Lk} {τ : List (Option Sl)} {M : Cs} {Q : Sl → Cs → Prop} {elt kx vx tg c : Expr} {scope : Scope} {own : List (Str × Nat)} {pos p0 : Pos} {g : TG} {i : Nat} {nm : Str} {kd : List (Key × PyData)}
/-- the walk over the keys of a locked dict, a dict being made -/
theorem dcK_run {σ : L2.St} {G HL : Hp} {Q2 : VK} {dd : Addr} {od : Obj} {xs : List (Key × V)} {vs : List Nat} (gs : GoodS X.K G σ τ) (gmL : GoodM X.K ((dd, od, .dK xs) :: L) M G HL) (hσ : σ[i]? = some (some (.ref dd))) (lx : KvAt X.K G xs (slK kd))
    (w : ∀ D, M D = none → ∃ Iv : Nat → Cs → Prop, Iv 0 (updC M D (.k [])) ∧ (∀ x, (∃ xs, x.2.2 = HO.dK xs) → ∀ n k d M', kd[n]? = some (k, d) → Iv n M' →
      WGw X.K (x :: L) vs g (.d (kD k)) (wipeK τ vs) M' fun τ2 M3 => DEb X scope (x :: L) kx τ2 M3 fun z M4 => DEb X scope (x :: L) vx τ2 M4 fun z2 M5 => ∃ kvs k, z = .d (kD k) ∧ M5 D = some (.k kvs) ∧ kvs.length < sizeLine ∧ Iv (n + 1) (updC M5 D (.k (putS kvs k z2)))) ∧
      (∀ M' G' H', Iv kd.length M' → Ex G G' → GoodM X.K ((dd, od, .dK xs) :: L) M' G' H' → Q2 (.ref D) H')) : tDc (iKeys (tVar i)) g tYes (bE X scope kx) (bE X scope vx) vs σ HL Q2 := by
        have hx0 : HL dd = some (.frz od (.dK xs)) := gmL.lk _ List.mem_cons_self
        refine ⟨.ref dd, hσ, dd, od, rfl, .inl ⟨xs, hx0, fun D hD => ?_⟩⟩
        obtain ⟨Iv, i0, turn, fin⟩ := w D (gmL.free hD).2
        have hl : xs.length = kd.length := by rw [lx.len]; simp [slK]
        refine ⟨fun n m H' => m = kd.length - n ∧ n ≤ kd.length ∧ ∃ M' G', Iv n M' ∧ Ex G G' ∧ GoodM X.K ((dd, od, .dK xs) :: L) M' G' H', ⟨kd.length, by simp, Nat.zero_le _, _, G, i0, Ex.refl _, gmL.newC hD ⟨[], upd_same, trivial⟩⟩, ?_⟩
        rintro n m H' ⟨rfl, hn, M', G', iv, e', g'⟩
        have hd' : H' dd = some (.frz od (.dK xs)) := g'.lk _ List.mem_cons_self
        by_cases hlt : n < kd.length
        · refine .inr ⟨⟨hd', by rw [hl]; exact hlt⟩, fun H2 => ∃ M2 G2, Iv (n + 1) M2 ∧ Ex G G2 ∧ GoodM X.K ((dd, od, .dK xs) :: L) M2 G2 H2, fun H2 ⟨M2, G2, h⟩ => ⟨kd.length - (n + 1), by omega, rfl, hlt, M2, G2, h⟩, fun x H2 hy => ?_⟩
          obtain ⟨rfl, k1, v1, hx1, rfl⟩ := hy
          obtain ⟨u1, hu1, au1⟩ := (KvAt.mono e' lx).get (i := n) (k := (kd[n]).1) (s := .d (kd[n]).2) (by unfold slK; rw [List.getElem?_map, List.getElem?_eq_getElem hlt]; rfl)
          rw [hx1] at hu1
          have hu2 := Option.some.inj hu1
          have ek : k1 = (kd[n]).1 := (Prod.mk.inj hu2).1
          have ak : At X.K G' (kV k1) (kD (kd[n]).1) := by
            rw [← ek]
            cases k1 with
            | inl z => exact .int z
            | inr z => exact .str z
          refine turn (dd, od, .dK xs) ⟨xs, rfl⟩ n (kd[n]).1 (kd[n]).2 M' (List.getElem?_eq_getElem hlt) iv _ G' H2 _ _ ((gs.mono e').wipe vs) g' (.d ak) fun τ3 M3 σ3 G3 H3 q3 e3 g3 s3 z3 => ?_
          refine ⟨z3.trans wipe_wipe, ?_⟩
          unfold tYes
          dsimp only
          rw [if_pos rfl]
          have e13 := e'.trans e3
          refine web (X := X) (scope := scope) (e := kx) q3 σ3 G3 H3 _ s3 g3 fun z M5 v5 G5 H5 q5 e5 g5 a5 => ?_
          refine web (X := X) (scope := scope) (e := vx) q5 σ3 G5 H5 _ (s3.mono e5) g5 fun z2 M6 v2 G6 H6 ⟨kvs, key, hz, hk, hl6, iv6⟩ e6 g6 a6 => ?_
          obtain ⟨f6, ys, h1, h2⟩ := g6.cell D _ hk
          subst hz
          refine ⟨ys, key, key_at a5, h1, by rw [h2.len]; exact hl6, _, G6, iv6, (e13.trans e5).trans e6, ?_⟩
          exact g6.write hk h1 (fun _ _ z => nomatch z) ⟨_, upd_same, KvAt.put a6 h2⟩
        · have e : n = kd.length := by omega
          subst e
          exact .inl ⟨⟨hd', by rw [hl]; exact Nat.le_refl _⟩, fin M' G' H' iv e' g'⟩
/-- {kx: vx for tg in d} -/
theorem de_dcKeys (hc : X.calm = true) (hN : X.N.Nodup) (ok : BlkOk X.N X.env.scope scope own) (hg : ∀ (s : Shared) (H : Hp) (C : Addr) (cl : List (Str × Addr)) (fp : List Addr), PG (X.blk s H scope (compEnvC scope cl C X.env) fp) tg g)
    (hL : NoDK L) (hi : X.N[i]? = some nm) (hv : Vis X.env.scope nm) (ht : τ[i]? = some (some (.d (.dict (encK kd)))))
    (w : ∀ D, M D = none → ∃ Iv : Nat → Cs → Prop, Iv 0 (updC M D (.k [])) ∧ (∀ x, (∃ xs, x.2.2 = HO.dK xs) → ∀ n k d M', kd[n]? = some (k, d) → Iv n M' →
      WGw X.K (x :: L) (own.map (·.2)) g (.d (kD k)) (wipeK τ (own.map (·.2))) M' fun τ2 M3 => DEb X scope (x :: L) kx τ2 M3 fun z M4 => DEb X scope (x :: L) vx τ2 M4 fun z2 M5 => ∃ kvs k, z = .d (kD k) ∧ M5 D = some (.k kvs) ∧ kvs.length < sizeLine ∧ Iv (n + 1) (updC M5 D (.k (putS kvs k z2)))) ∧ (∀ M', Iv kd.length M' → Q (.c D) M'))
    (hd : (nm == ("__debug__" : Str)) = false := by decide) (hcd : (nm == ("__classdict__" : Str)) = false := by decide) (hs : ∀ x, foldedSetIterable (.Name nm p0) X.env x = pure x := by intro _; rfl) : DE X L (.DictComp kx vx [⟨tg, .Name nm p0, [], 0⟩] scope pos) τ M Q :=
  de_of (pe_lock (pe_dc (tk := bE X scope kx) (tv := bE X scope vx) (tt := tYes) hc hN (pi_keys (pe_var hi hv hd hcd)) ok hg (fun _ _ _ _ _ => pts_nil) (fun s H C cl fp => ⟨fun pins s' σ H' Q' I h => h s H C cl fp pins s' I⟩) (fun s H C cl fp => ⟨fun pins s' σ H' Q' I h => h s H C cl fp pins s' I⟩) hs)) fun σ G H Q' gs gm k => by
    obtain ⟨v, hσ, av⟩ := gs.get i _ ht
    cases av with
    | d av =>
      generalize hz : encK kd = zs at av
      cases av with
      | dic hG l =>
        rename_i dd xs
        subst hz
        have lx := AtK.kv kd l
        have hx := lock_exact gm hL hG
        have hne := lock_ne gm hL hG
        refine ⟨dd, .dK xs, hx, trivial, fun od => ?_⟩
        have gmL := gm.lock (od := od) hL hG
        refine dcK_run (kd := kd) gs gmL hσ lx fun D hD => ?_
        obtain ⟨Iv, i0, turn, fin⟩ := w D hD
        exact ⟨Iv, i0, turn, fun M' G' H' iv e' g' => ⟨g'.lk _ List.mem_cons_self, k _ M' _ G' _ (fin _ iv) e' (g'.unlock hne (e' _ _ hG)) (.c D)⟩⟩
/-- the same, a list being made -/
theorem lcK_run {σ : L2.St} {G HL : Hp} {Q2 : VK} {dd : Addr} {od : Obj} {xs : List (Key × V)} {vs : List Nat} (gs : GoodS X.K G σ τ) (gmL : GoodM X.K ((dd, od, .dK xs) :: L) M G HL) (hσ : σ[i]? = some (some (.ref dd))) (lx : KvAt X.K G xs (slK kd))
    (w : ∀ D, M D = none → ∃ Iv : Nat → Cs → Prop, Iv 0 (updC M D (.l [])) ∧ (∀ x, (∃ xs, x.2.2 = HO.dK xs) → ∀ n k d M', kd[n]? = some (k, d) → Iv n M' →
      WGw X.K (x :: L) vs g (.d (kD k)) (wipeK τ vs) M' fun τ2 M3 => DTb X scope (x :: L) c τ2 M3 fun b M4 => (b = true → DEb X scope (x :: L) elt τ2 M4 fun z M5 => ∃ acc, M5 D = some (.l acc) ∧ acc.length < sizeLine ∧ Iv (n + 1) (updC M5 D (.l (acc ++ [z])))) ∧ (b = false → Iv (n + 1) M4)) ∧
      (∀ M' G' H', Iv kd.length M' → Ex G G' → GoodM X.K ((dd, od, .dK xs) :: L) M' G' H' → Q2 (.ref D) H')) : tLc (iKeys (tVar i)) g (bT X scope c) (bE X scope elt) vs σ HL Q2 := by
        have hx0 : HL dd = some (.frz od (.dK xs)) := gmL.lk _ List.mem_cons_self
        refine ⟨.ref dd, hσ, dd, od, rfl, .inl ⟨xs, hx0, fun D hD => ?_⟩⟩
        obtain ⟨Iv, i0, turn, fin⟩ := w D (gmL.free hD).2
        have hl : xs.length = kd.length := by rw [lx.len]; simp [slK]
        refine ⟨fun n m H' => m = kd.length - n ∧ n ≤ kd.length ∧ ∃ M' G', Iv n M' ∧ Ex G G' ∧ GoodM X.K ((dd, od, .dK xs) :: L) M' G' H', ⟨kd.length, by simp, Nat.zero_le _, _, G, i0, Ex.refl _, gmL.newC hD ⟨[], upd_same, .nil⟩⟩, ?_⟩
        rintro n m H' ⟨rfl, hn, M', G', iv, e', g'⟩
        have hd' : H' dd = some (.frz od (.dK xs)) := g'.lk _ List.mem_cons_self
        by_cases hlt : n < kd.length
        · refine .inr ⟨⟨hd', by rw [hl]; exact hlt⟩, fun H2 => ∃ M2 G2, Iv (n + 1) M2 ∧ Ex G G2 ∧ GoodM X.K ((dd, od, .dK xs) :: L) M2 G2 H2, fun H2 ⟨M2, G2, h⟩ => ⟨kd.length - (n + 1), by omega, rfl, hlt, M2, G2, h⟩, fun x H2 hy => ?_⟩
          obtain ⟨rfl, k1, v1, hx1, rfl⟩ := hy
          obtain ⟨u1, hu1, au1⟩ := (KvAt.mono e' lx).get (i := n) (k := (kd[n]).1) (s := .d (kd[n]).2) (by unfold slK; rw [List.getElem?_map, List.getElem?_eq_getElem hlt]; rfl)
          rw [hx1] at hu1
          have hu2 := Option.some.inj hu1
          have ek : k1 = (kd[n]).1 := (Prod.mk.inj hu2).1
          have ak : At X.K G' (kV k1) (kD (kd[n]).1) := by
            rw [← ek]
            cases k1 with
            | inl z => exact .int z
            | inr z => exact .str z
          refine turn (dd, od, .dK xs) ⟨xs, rfl⟩ n (kd[n]).1 (kd[n]).2 M' (List.getElem?_eq_getElem hlt) iv _ G' H2 _ _ ((gs.mono e').wipe vs) g' (.d ak) fun τ3 M3 σ3 G3 H3 q3 e3 g3 s3 z3 => ?_
          refine ⟨z3.trans wipe_wipe, ?_⟩
          have e13 := e'.trans e3
          refine wtb (X := X) (scope := scope) (e := c) q3 σ3 G3 H3 _ s3 g3 fun b M4 G4 H4 q4 e4 g4 => ?_
          cases b with
          | true =>
            rw [if_pos rfl]
            refine web (X := X) (scope := scope) (e := elt) (q4.1 rfl) σ3 G4 H4 _ (s3.mono e4) g4 fun z M5 v5 G5 H5 ⟨acc, hacc, hl5, iv5⟩ e5 g5 a5 => ?_
            obtain ⟨f5, ys, h1, h2⟩ := g5.cell D _ hacc
            refine ⟨ys, h1, by rw [h2.len]; exact hl5, _, G5, iv5, (e13.trans e4).trans e5, ?_⟩
            exact g5.write hacc h1 (fun _ _ z => nomatch z) ⟨_, upd_same, h2.append (.cons a5 .nil)⟩
          | false =>
            rw [if_neg Bool.false_ne_true]
            exact ⟨M4, G4, q4.2 rfl, e13.trans e4, g4⟩
        · have e : n = kd.length := by omega
          subst e
          exact .inl ⟨⟨hd', by rw [hl]; exact Nat.le_refl _⟩, fin M' G' H' iv e' g'⟩
/-- [elt for tg in d if c] -/
theorem de_lcKeys (hc : X.calm = true) (hN : X.N.Nodup) (ok : BlkOk X.N X.env.scope scope own) (hg : ∀ (s : Shared) (H : Hp) (C : Addr) (cl : List (Str × Addr)) (fp : List Addr), PG (X.blk s H scope (compEnvC scope cl C X.env) fp) tg g)
    (hL : NoDK L) (hi : X.N[i]? = some nm) (hv : Vis X.env.scope nm) (ht : τ[i]? = some (some (.d (.dict (encK kd)))))
    (w : ∀ D, M D = none → ∃ Iv : Nat → Cs → Prop, Iv 0 (updC M D (.l [])) ∧ (∀ x, (∃ xs, x.2.2 = HO.dK xs) → ∀ n k d M', kd[n]? = some (k, d) → Iv n M' →
      WGw X.K (x :: L) (own.map (·.2)) g (.d (kD k)) (wipeK τ (own.map (·.2))) M' fun τ2 M3 => DTb X scope (x :: L) c τ2 M3 fun b M4 => (b = true → DEb X scope (x :: L) elt τ2 M4 fun z M5 => ∃ acc, M5 D = some (.l acc) ∧ acc.length < sizeLine ∧ Iv (n + 1) (updC M5 D (.l (acc ++ [z])))) ∧ (b = false → Iv (n + 1) M4)) ∧ (∀ M', Iv kd.length M' → Q (.c D) M'))
    (hd : (nm == ("__debug__" : Str)) = false := by decide) (hcd : (nm == ("__classdict__" : Str)) = false := by decide) (hs : ∀ x, foldedSetIterable (.Name nm p0) X.env x = pure x := by intro _; rfl) : DE X L (.ListComp elt [⟨tg, .Name nm p0, [c], 0⟩] scope pos) τ M Q :=
  de_of (pe_lock (pe_lc (te := bE X scope elt) (tt := bT X scope c) hc hN (pi_keys (pe_var hi hv hd hcd)) ok hg (fun s H C cl fp => pts_one ⟨fun pins s' σ H' Q' I h => h s H C cl fp pins s' I⟩) (fun s H C cl fp => ⟨fun pins s' σ H' Q' I h => h s H C cl fp pins s' I⟩) hs)) fun σ G H Q' gs gm k => by
    obtain ⟨v, hσ, av⟩ := gs.get i _ ht
    cases av with
    | d av =>
      generalize hz : encK kd = zs at av
      cases av with
      | dic hG l =>
        rename_i dd xs
        subst hz
        have lx := AtK.kv kd l
        have hx := lock_exact gm hL hG
        have hne := lock_ne gm hL hG
        refine ⟨dd, .dK xs, hx, trivial, fun od => ?_⟩
        have gmL := gm.lock (od := od) hL hG
        refine lcK_run (kd := kd) gs gmL hσ lx fun D hD => ?_
        obtain ⟨Iv, i0, turn, fin⟩ := w D hD
        exact ⟨Iv, i0, turn, fun M' G' H' iv e' g' => ⟨g'.lk _ List.mem_cons_self, k _ M' _ G' _ (fin _ iv) e' (g'.unlock hne (e' _ _ hG)) (.c D)⟩⟩
/-- y = {kx: vx for ..}, the comprehension the statement's whole value -/
theorem ps_setDcY {j : Nat} {y : Str} {py spos : Pos} {iter : Expr} {ti : TI} {tt : TT} {tk tv : TE} {gs : List Expr} (calm : X.calm = true) (nd : X.N.Nodup) (at1 : X.N[j]? = some y) (at2 : X.env.scope.names.lookup y = some .local)
    (sw : swapsWith (.DictComp kx vx [⟨tg, iter, gs, 0⟩] scope pos) (some (.Name y py)) spos.line X.env = pure true) (wi : PI X tg iter ti) (ok : BlkOk X.N X.env.scope scope own)
    (wg : ∀ (s : Shared) (H : Hp) (C : Addr) (cl : List (Str × Addr)) (fp : List Addr), PG (X.blk s H scope (compEnvC scope cl C X.env) fp) tg g) (wt : ∀ (s : Shared) (H : Hp) (C : Addr) (cl : List (Str × Addr)) (fp : List Addr), PTs (X.blk s H scope (compEnvC scope cl C X.env) fp) gs tt)
    (wk : ∀ (s : Shared) (H : Hp) (C : Addr) (cl : List (Str × Addr)) (fp : List Addr), PE (X.blk s H scope (compEnvC scope cl C X.env) fp) kx tk) (wv : ∀ (s : Shared) (H : Hp) (C : Addr) (cl : List (Str × Addr)) (fp : List Addr), PE (X.blk s H scope (compEnvC scope cl C X.env) fp) vx tv)
    (fs : ∀ x, foldedSetIterable iter X.env x = pure x := by intro _; rfl) : PS X (.Assign [.Name y py] (.DictComp kx vx [⟨tg, iter, gs, 0⟩] scope pos) spos) (tAsg (tDc ti g tt tk tv (own.map (·.2))) (gName j)) := by
  refine ⟨fun pins s σ H D I q0 => ?_⟩
  rw [exec_Assign_Name_used _ _ _ _ sw]
  refine wpAny_bind (wpAny_standAt (wpAny_bind ?_))
  show wpAny _ X.A (do let _ ← comprehension (.DictComp kx vx [⟨tg, iter, gs, 0⟩] scope pos) scope X.env (firstIterPos [⟨tg, iter, gs, 0⟩] pos) newDict false (eval iter X.env) (some (assign (.Name y py) X.env))) _ _ s
  have q1 : tDc ti g tt tk tv (own.map (·.2)) σ H (fun x H1 => gName j x σ H1 D.nx) := q0
  refine wpAny_bind (thn (dc_core (Qf := fun _ s2 => SP X pins D .next s2) calm nd I wi ok wg wt wk wv fs q1 fun Ld Cc s2 m H2 J qq nn ff => ?_) fun _ s2 z => wpAny_pure (wpAny_pure z))
  show wpAny _ _ (assign (.Name y py) X.env (.ref Ld)) _ _ _
  refine wpAny_assign_Name (store_ok2 (v := V.ref Ld) J nd at1 (.inl at2) rfl (fun s3 I3 ⟨b, sb, hb⟩ => ?_) (.inr at2))
  obtain ⟨f0, f1, f2, f3, f4, f5⟩ := ff
  have ne : Cc ≠ b := by
    rcases hb with z | z
    · rw [z]; exact f1
    · intro e; exact f4 y b z e.symm
  exact ⟨m, nn.sameBut sb ne, fun h3 s4 => ⟨_, H2, I3.turned (t' := s3.toks) (fun b o hb e => (s4.2 b hb).trans e) f0 f1 f3 f4 f5, qq⟩⟩
theorem ds_setDcKeys {j : Nat} {y : Str} {py spos : Pos} {E : Ks} (hc : X.calm = true) (hN : X.N.Nodup) (hy : X.N[j]? = some y) (hyl : X.env.scope.names.lookup y = some .local)
    (hsw : swapsWith (.DictComp kx vx [⟨tg, .Name nm p0, [], 0⟩] scope pos) (some (.Name y py)) spos.line X.env = pure true) (ok : BlkOk X.N X.env.scope scope own) (hg : ∀ (s : Shared) (H : Hp) (C : Addr) (cl : List (Str × Addr)) (fp : List Addr), PG (X.blk s H scope (compEnvC scope cl C X.env) fp) tg g)
    (hL : NoDK L) (hi : X.N[i]? = some nm) (hv : Vis X.env.scope nm) (ht : τ[i]? = some (some (.d (.dict (encK kd)))))
    (w : ∀ D, M D = none → ∃ Iv : Nat → Cs → Prop, Iv 0 (updC M D (.k [])) ∧ (∀ x, (∃ xs, x.2.2 = HO.dK xs) → ∀ n k d M', kd[n]? = some (k, d) → Iv n M' →
      WGw X.K (x :: L) (own.map (·.2)) g (.d (kD k)) (wipeK τ (own.map (·.2))) M' fun τ2 M3 => DEb X scope (x :: L) kx τ2 M3 fun z M4 => DEb X scope (x :: L) vx τ2 M4 fun z2 M5 => ∃ kvs k, z = .d (kD k) ∧ M5 D = some (.k kvs) ∧ kvs.length < sizeLine ∧ Iv (n + 1) (updC M5 D (.k (putS kvs k z2)))) ∧ (∀ M', Iv kd.length M' → E.nx (τ.set j (some (.c D))) M'))
    (hd : (nm == ("__debug__" : Str)) = false := by decide) (hcd : (nm == ("__classdict__" : Str)) = false := by decide) (hs : ∀ x, foldedSetIterable (.Name nm p0) X.env x = pure x := by intro _; rfl) : DS X L (.Assign [.Name y py] (.DictComp kx vx [⟨tg, .Name nm p0, [], 0⟩] scope pos) spos) τ M E :=
  ds_of (ps_lock (ps_setDcY (tk := bE X scope kx) (tv := bE X scope vx) (tt := tYes) hc hN hy hyl hsw (pi_keys (pe_var hi hv hd hcd)) ok hg (fun _ _ _ _ _ => pts_nil) (fun s H C cl fp => ⟨fun pins s' σ H' Q' I h => h s H C cl fp pins s' I⟩) (fun s H C cl fp => ⟨fun pins s' σ H' Q' I h => h s H C cl fp pins s' I⟩) hs)) fun σ G H D0 gs gm k => by
    obtain ⟨v, hσ, av⟩ := gs.get i _ ht
    cases av with
    | d av =>
      generalize hz : encK kd = zs at av
      cases av with
      | dic hG l =>
        rename_i dd xs
        subst hz
        have lx := AtK.kv kd l
        have hx := lock_exact gm hL hG
        have hne := lock_ne gm hL hG
        refine ⟨dd, .dK xs, hx, trivial, fun od => ?_⟩
        have gmL := gm.lock (od := od) hL hG
        refine dcK_run (kd := kd) gs gmL hσ lx fun D hD => ?_
        obtain ⟨Iv, i0, turn, fin⟩ := w D hD
        exact ⟨Iv, i0, turn, fun M' G' H' iv e' g' => ⟨g'.lk _ List.mem_cons_self, k.nx _ M' _ G' _ (fin _ iv) e' (g'.unlock hne (e' _ _ hG)) ((gs.mono e').set (.c D) j)⟩⟩
end
section
variable {X : Cx} {L : Lk} {M : Cs} {Q : Sl → Cs → Prop}
theorem k_max2 {i j : Int} (q : Q (.d (.int (if j > i then j else i))) M) : RCk X.K L (fun xs H Q => ∃ i j, xs = [.int i, .int j] ∧ Q (.int (if j > i then j else i)) H) [.d (.int i), .d (.int j)] M Q := fun G H vs Q' g a k => by
  obtain ⟨v, u, rfl, a1, a2⟩ := sl2 a
  rw [sl_int a1, sl_int a2]
  exact ⟨i, j, rfl, k.go q g (.d (.int _))⟩
end
end Y

namespace Y
open PySem L2 PyProof.Rows
theorem SlL.dropL {K : PySem.W.Frag} {G : Hp} : ∀ {vs : List V} {ss : List Sl}, SlL K G vs ss → SlL K G vs.dropLast ss.dropLast
  | _, _, .nil => .nil
  | _, _, .cons _ .nil => .nil
  | _, _, .cons a (.cons b c) => .cons a (SlL.dropL (.cons b c))
section
variable {X : Cx} {L : Lk} {τ : List (Option Sl)} {M : Cs} {Q : Sl → Cs → Prop} {o : Expr} {apos cpos pos : Pos} {E : Ks}
/-- xs.pop() as a statement -/
theorem ds_pop (w : DE X L o τ M fun x M1 => ∃ a ss, x = .c a ∧ M1 a = some (.l ss) ∧ ss ≠ [] ∧ E.nx τ (updC M1 a (.l ss.dropLast))) (hbase : attributeBase o "pop" X.env (eval o X.env) = eval o X.env := by rfl) (hline : (apos.endLine == cpos.line) = true := by rfl)
    (hsw : swapsWith (.Call (.Attribute o "pop" apos) [] [] cpos) none pos.line X.env = pure false := by rfl) : DS X L (.Expr (.Call (.Attribute o "pop" apos) [] [] cpos) pos) τ M E :=
  ds_expr (de_of (pe_bm0 PySem.F.plainAttrs_list PySem.F.slot_list_pop PySem.F.type_list_pop mt_pop pe_s hbase hline) fun σ G H Q' gs gm k => w σ G H _ gs gm fun x M1 v G1 H1 ⟨a, ss, hx, ha, hne, q⟩ e1 g1 a1 => by
    subst hx
    obtain ⟨_, xs, h1, h2⟩ := g1.cell a _ ha
    have ev := sl_c a1
    subst ev
    obtain ⟨z, hz⟩ : ∃ z, ss[ss.length - 1]? = some z := ⟨_, List.getElem?_eq_getElem (by have := List.length_pos_iff.mpr hne; omega)⟩
    obtain ⟨r, hr, ar⟩ := h2.get hz
    exact ⟨.inl ⟨rfl, xs, .inl (.inl h1)⟩, a, xs, r, rfl, rfl, h1, by rw [h2.len]; exact hr, k z _ _ G1 _ q e1 (g1.write ha h1 (fun _ _ z => (nomatch z)) ⟨_, upd_same, h2.dropL⟩) ar⟩) hsw
end
section
variable {X : Cx} {L : Lk} {τ : List (Option Sl)} {M : Cs} {Q : Sl → Cs → Prop} {e1 e2 : Expr} {pos : Pos}
/-- {"x": i, "y": j} -/
theorem de_dictSI2 {x y : Str} {i j : Int} {j1 j2 j3 j4} {p1 p2 p3 p4 : Pos} (ne : x ≠ y) (q : ∀ p, M p = none → Q (.c p) (updC M p (.k (slK [(.inr x, .int i), (.inr y, .int j)])))) : DE X L (.Dict [some (.Constant (.str x) j1 p1), some (.Constant (.str y) j3 p3)] [.Constant (.int i) j2 p2, .Constant (.int j) j4 p4] pos) τ M Q :=
  de_of (pe_disp (pps_cons pe_str pe_int (pps_cons pe_str pe_int pps_nil)) rfl rfl (by simp) (by simp)) fun σ G H Q' gs gm kk p hp => by
    refine ⟨upd_same, [(.inr x, .int i), (.inr y, .int j)], rfl, (by show 2 ≤ 15; decide), ?_⟩
    have e : upd (upd H p (.dK [])) p (.dK (mergeK [] [(.inr x, V.int i), (.inr y, V.int j)])) = upd H p (.dK [(.inr x, V.int i), (.inr y, V.int j)]) := by
      funext b
      by_cases hb : b = p
      · subst hb
        rw [upd_same, upd_same]
        have : ¬ (Sum.inr x : Key) = Sum.inr y := fun z => ne (Sum.inr.inj z)
        simp [mergeK, putK, this]
      · rw [upd_ne hb, upd_ne hb, upd_ne hb]
    rw [e]
    have f := gm.free hp
    exact kk _ _ _ G _ (q p f.2) (Ex.refl G) (gm.newC hp ⟨[(.inr x, .int i), (.inr y, .int j)], upd_same, rfl, .d (.int i), rfl, .d (.int j), trivial⟩) (.c p)
end
end Y

namespace Y
open PySem L2 PyProof.Rows
section
variable {X : Cx} {o : Expr} {p pos apos mpos : Pos} {td : TE}
/-- sum(o.values()), a dict with int values -/
def tSumV (td : TE) : TE := fun σ H Q => td σ H fun x H1 => ∃ (a : Addr) (kvs : List (Key × V)) (is : List Int), x = V.ref a ∧ Rd H1 a (.dK kvs) ∧ kvs.map (·.2) = is.map V.int ∧ Q (.int is.sum) H1
theorem preSum_getD : ∀ is : List Int, preSum (fun i => is.getD i 0) is.length = is.sum := by
  have key : ∀ (f : Nat → Int) (n : Nat), preSum f (n + 1) = f 0 + preSum (fun i => f (i + 1)) n := fun f n => by
    induction n with
    | zero => simp [preSum]
    | succ n ih =>
      show preSum f (n + 1) + f (n + 1) = f 0 + (preSum (fun i => f (i + 1)) n + f (n + 1))
      rw [ih, Int.add_assoc]
  intro is
  induction is with
  | nil => rfl
  | cons x r ih =>
    show preSum _ (r.length + 1) = _
    rw [key, List.sum_cons, ← ih]
    rfl
/-- the place where the view of the values is laid -/
def vw (a : Addr) : Obj := { cls := .type "dict_values", data := .fields #[.ref a] }
theorem vw_keep {h : Heap} {a b : Addr} {u : Obj} (e : h.get? b = some u) : (h.push (vw a)).get? b = some u := Heap.get?_push_of_some _ e
theorem vw_size (h : Heap) (a : Addr) : (h.push (vw a)).objs.size = h.objs.size + 1 := Heap.size_push _ _
theorem len_vals {kvs : List (Key × V)} {us : List (Key × Value)} {is : List Int} (r : KV kvs us) (hv : kvs.map (·.2) = is.map V.int) : us.length = is.length := by
  rw [← KV.length r, ← List.length_map (f := fun kv : Key × V => kv.2), hv, List.length_map]
theorem int_vals {kvs : List (Key × V)} {us : List (Key × Value)} {is : List Int} (r : KV kvs us) (hv : kvs.map (·.2) = is.map V.int) (i : Nat) (v : Value) (h : ∃ k, us[i]? = some (k, v)) : ∃ t, v = Value.int (is.getD i 0) t := by
  obtain ⟨k, hk⟩ := h
  obtain ⟨y, hy, ry⟩ := KV.at' r hk
  have m1 : (is.map V.int)[i]? = some y := by
    rw [← hv, List.getElem?_map, hy]
    rfl
  rw [List.getElem?_map] at m1
  obtain ⟨n, hn, rfl⟩ := Option.map_eq_some_iff.mp m1
  obtain ⟨t, rfl⟩ := ry
  exact ⟨t, by rw [List.getD_eq_getElem?_getD, hn]; rfl⟩
theorem pe_sumV (hc : X.calm = true) (hg : Gl X "sum") (hm : X.mg "sum" = none) (hd : PE X o td)
    (hb : attributeBase o "values" X.env (eval o X.env) = eval o X.env := by rfl) (hl : (apos.endLine == mpos.line) = true := by rfl)
    (hs : starEach [Expr.Call (.Attribute o "values" apos) [] [] mpos] X.env = [(false, eval (Expr.Call (.Attribute o "values" apos) [] [] mpos) X.env)] := by rfl) : PE X (.Call (.Name "sum" p) [.Call (.Attribute o "values" apos) [] [] mpos] [] pos) (tSumV td) := .mk fun pins z σ H Q I h => by
  have fits := fun (v : Value) (z1 : Shared) (w1 : ∃ x H1, Inv X pins σ H1 z1 ∧ RelV x v ∧ ∃ (a : Addr) (kvs : List (Key × V)) (is : List Int), x = V.ref a ∧ Rd H1 a (.dK kvs) ∧ kvs.map (·.2) = is.map V.int ∧ Q (.int is.sum) H1) => w1
  refine wpAny_Call_Name_kw (ld_blt I hg hm (u := .builtin "sum") (by decide +kernel) ?_ (by decide) (by decide))
  rw [hs]
  refine PySem.callWith_builtin1 (wpAny_Call_method0_late hb hl (thn (hd.run pins z σ H _ I h) fun v z1 y => ?_))
  obtain ⟨x, H1, I1, rx, a, kvs, is, hx, hr, hi, q⟩ := fits v z1 y
  rw [hx] at rx
  rw [show v = Value.ref a from rx]
  obtain ⟨_, ns, us, ru, dof⟩ := dk_rd I1.hok hr
  obtain ⟨ep, da⟩ := dof.dictAt
  have da2 := da
  obtain ⟨ob, _, ho, oc, _⟩ := da2
  have below : a < z1.heap.objs.size := Heap.lt_size ho
  have da3 : (z1.heap.push (vw a)).DictAt (mixKind X.prog X.w) a us ep := da.keep fun _ _ => vw_keep
  refine ⟨"dict", "dict.values", F.plainAttrs_dict, F.slot_dict_values, F.type_dict_values, ⟨ob, ho, oc.1⟩, fun b e => ⟨ob, by cases e; exact ho, oc.2.1⟩, Calls.callWith_builtin rfl (PySem.evalArgs_none ?_)⟩
  refine call_meetsIn F.slot_dict_values ⟨ob, ho, oc.1⟩ F.entry_dict_values (F.args_dict_values_1 _) (meets_dict_values (mixKind X.prog X.w) a ns) ⟨⟨us, dof⟩, ?_⟩
  refine call_sum_walkAnyS (wpAny_pyIter_values (v := z1.heap.objs.size) (d := a) ⟨_, Heap.get?_push_size _ rfl, rfl, rfl⟩ da3 ?_)
  have apart : a ≠ (z1.heap.push (vw a)).objs.size := by
    rw [vw_size]
    exact Nat.ne_of_lt (Nat.lt_succ_of_lt below)
  have W := Walks.dictValues (knd := mixKind X.prog X.w) (A := X.A.in1) (I.ok.hd hc) (z1.heap.push (vw a)).objs.size a apart us ep
  refine ⟨_, _, _, _, _, _, _, fun i => is.getD i 0, rfl, W.toS, ⟨⟨_, Heap.get?_push_size _ rfl, rfl, rfl⟩, da3.keep fun _ _ => Heap.get?_push_of_some _⟩, fun b hb => ?_, int_vals ru hi, fun z2 t mv => ?_⟩
  · have top : ∀ u : Obj, ((z1.heap.push (vw a)).push u).objs.size = z1.heap.objs.size + 2 := fun u => by rw [Heap.size_push, vw_size]
    refine Nat.lt_of_lt_of_eq ?_ (top _).symm
    rcases List.mem_cons.mp hb with e | hb
    · rw [e, vw_size]
      exact Nat.lt_succ_self _
    · rw [List.mem_singleton.mp hb]
      exact Nat.lt_succ_of_lt (Nat.lt_succ_of_lt below)
  · rw [Moved.eq_with mv, len_vals ru hi, preSum_getD]
    refine ⟨.int _, H1, I1.kept fun b u e => mv.heap b u (fun m => ?_) (Heap.get?_push_of_some _ (vw_keep e)), ⟨t, rfl⟩, q⟩
    have lo := Heap.lt_size e
    rw [List.mem_singleton.mp m, vw_size] at lo
    exact Nat.not_succ_le_self _ (Nat.le_of_succ_le lo)
end
theorem KvAt.ints {K : PySem.W.Frag} {G : Hp} : ∀ {xs : List (Key × V)} {kvs : List (Key × Sl)} {is : List Int}, KvAt K G xs kvs → kvs.map (·.2) = is.map dI → xs.map (·.2) = is.map V.int
  | [], [], is, _, h => by
    cases is with
    | nil => rfl
    | cons _ _ => cases h
  | (k, v) :: ps, (k2, s) :: qs, is, h, e => by
    obtain ⟨_, a, t⟩ := h
    cases is with
    | nil => cases e
    | cons i is =>
      have e1 : s = dI i := (List.cons.inj e).1
      subst e1
      show v :: ps.map (·.2) = V.int i :: is.map V.int
      rw [show v = V.int i from sl_int (show SlAt K G v (dI i) from a), KvAt.ints t (List.cons.inj e).2]
section
variable {X : Cx} {L : Lk} {τ : List (Option Sl)} {M : Cs} {Q : Sl → Cs → Prop} {o : Expr} {p pos apos mpos : Pos}
/-- sum(d.values()) -/
theorem de_sumV (hc : X.calm = true) (hg : Gl X "sum") (hm : X.mg "sum" = none) (w : DE X L o τ M fun s M1 => ∃ (kvs : List (Key × Sl)) (is : List Int), DictIs M1 s kvs ∧ kvs.map (·.2) = is.map dI ∧ Q (dI is.sum) M1) (hbase : attributeBase o "values" X.env (eval o X.env) = eval o X.env := by rfl) (hline : (apos.endLine == mpos.line) = true := by rfl)
    (hse : starEach [Expr.Call (.Attribute o "values" apos) [] [] mpos] X.env = [(false, eval (Expr.Call (.Attribute o "values" apos) [] [] mpos) X.env)] := by rfl) : DE X L (.Call (.Name "sum" p) [.Call (.Attribute o "values" apos) [] [] mpos] [] pos) τ M Q :=
  de_of (pe_sumV hc hg hm pe_s hbase hline hse) fun σ G H Q' gs gm k => w σ G H _ gs gm fun s M1 v G1 H1 ⟨kvs, is, hd, hi, q⟩ e1 g1 a1 => by
    obtain ⟨a, xs, rfl, r, l⟩ := dict_at g1 a1 hd
    exact ⟨a, xs, is, rfl, r, KvAt.ints l hi, (k.mono e1).go q g1 (.d (.int _))⟩
end
end Y

namespace Y
open PySem L2 PyProof.Rows
/-! the first items of a tuple of data -/
section
variable {X : Cx} {L : Lk} {τ : List (Option Sl)} {M : Cs} {Q : Sl → Cs → Prop} {a b : Expr} {p2 pos : Pos}
theorem de_slTHi (w : DE X L a τ M fun x M1 => DE X L b τ M1 fun y M2 => ∃ (n : Nat) (ds : List PyData), y = .d (.int n) ∧ x = .d (.tuple ds) ∧ n < ds.length ∧ Q (.d (.tuple (ds.take n))) M2) : DE X L (.Subscript a (.Slice none (some b) none p2) pos) τ M Q :=
  de_of (pe_slice sl_tup pe_s po_none (po_some pe_s)) fun σ G H Q' gs gm k => w σ G H _ gs gm fun x M1 v G1 H1 q e1 g1 a1 => q σ G1 H1 _ (gs.mono e1) g1 fun y M2 u G2 H2 ⟨n, ds, ey, ex, hn, q2⟩ e2 g2 a2 => by
    subst ey ex
    have a1' := a1.mono e2
    cases a1' with
    | d z =>
      cases z with
      | @tup p vs _ e l =>
        have hlen : vs.length = ds.length := by rw [l.sl.len, List.length_map]
        refine ⟨(n : Int), sl_int a2, p, vs, rfl, .inl (g2.rd e), ?_, fun c hc => ?_⟩
        · rw [HT.sIx_nat]
          omega
        · have ll : SlL X.K G2 (cutV vs none (some (n : Int))) ((ds.take n).map Sl.d) := by
            have := cut_sl l.sl none (some (n : Int))
            rw [cutG_hi, ← List.map_take] at this
            exact this
          exact k _ _ _ (upd G2 c (.tup (cutV vs none (some (n : Int))))) _ q2 ((e1.trans e2).trans (Ex.new (g2.free hc).1)) (g2.newD hc) (.d (.tup upd_same (ll.at.mono (Ex.new (g2.free hc).1))))
end
/-! dict(d): a copy -/
section
variable {X : Cx} {L : Lk} {M : Cs} {Q : Sl → Cs → Prop} {s : Sl}
theorem k_dictD {kvs : List (Key × Sl)} (h : DictIs M s kvs) (q : ∀ p, M p = none → Q (.c p) (updC M p (.k kvs))) :
    RCk X.K L (fun xs H Q => ∃ (a : Addr) (kvs : List (Key × V)), xs = [.ref a] ∧ Rd H a (.dK kvs) ∧ ∀ p, H p = none → Q (.ref p) (upd H p (.dK kvs))) [s] M Q := fun G H vs Q' g a k => by
  obtain ⟨v, rfl, av⟩ := sl1 a
  obtain ⟨p, xs, rfl, r, l⟩ := dict_at g av h
  exact ⟨p, xs, rfl, r, fun c hc => k _ _ _ G _ (q c (g.free hc).2) (Ex.refl G) (g.newC hc ⟨_, upd_same, l⟩) (.c c)⟩
end
end Y

namespace Y
open PySem L2 PyProof.Rows
section
variable {X : Cx} {L : Lk} {τ : List (Option Sl)} {M : Cs} {Q : Sl → Cs → Prop} {a b e o : Expr} {p2 pos apos cpos mpos : Pos} {E : Ks}
/-- a sign of a text -/
theorem de_ixS (w : DE X L a τ M fun x M1 => DE X L b τ M1 fun y M2 => ∃ (z : Str) (i : Int) (c : Nat), x = dS z ∧ y = dI i ∧ z.length ≤ sizeLine ∧ atI z.cps.toList i = some c ∧ Q (dS ⟨#[c]⟩) M2) (hs : PlainIx b := by exact fun _ _ => rfl) : DE X L (.Subscript a b pos) τ M Q :=
  de_of (pe_ix ix_str pe_s pe_s hs) fun σ G H Q' gs gm k => w σ G H _ gs gm fun x M1 v G1 H1 q e1 g1 a1 => q σ G1 H1 _ (gs.mono e1) g1 fun y M2 u G2 H2 ⟨z, i, c, ex, ey, hl, ha, q2⟩ e2 g2 a2 => by
    subst ex ey
    exact ⟨z, i, c, sl_str (a1.mono e2), sl_int a2, hl, ha, (k.mono (e1.trans e2)).go q2 g2 (.d (.str _))⟩
/-- texts joined by + -/
theorem de_addS (w : DE X L a τ M fun x M1 => DE X L b τ M1 fun y M2 => ∃ i j : Str, x = dS i ∧ y = dS j ∧ i.length + j.length ≤ sizeLine ∧ Q (dS (i ++ j)) M2) : DE X L (.BinOp a .Add b pos) τ M Q :=
  de_op op_add_str (de_imp w fun x M1 q => de_imp q fun y M2 ⟨i, j, e1, e2, hl, q2⟩ => fun G H v u Q' g a1 a2 k => by
    subst e1 e2
    exact ⟨i, j, sl_str a1, sl_str a2, hl, k.go q2 g (.d (.str _))⟩)
/-- xs.pop() as a value -/
theorem de_popV (w : DE X L o τ M fun x M1 => ∃ a ss z, x = .c a ∧ M1 a = some (.l ss) ∧ ss[ss.length - 1]? = some z ∧ Q z (updC M1 a (.l ss.dropLast))) (hbase : attributeBase o "pop" X.env (eval o X.env) = eval o X.env := by rfl) (hline : (apos.endLine == cpos.line) = true := by rfl) :
    DE X L (.Call (.Attribute o "pop" apos) [] [] cpos) τ M Q :=
  de_of (pe_bm0 PySem.F.plainAttrs_list PySem.F.slot_list_pop PySem.F.type_list_pop mt_pop pe_s hbase hline) fun σ G H Q' gs gm k => w σ G H _ gs gm fun x M1 v G1 H1 ⟨a, ss, z, hx, ha, hz, q⟩ e1 g1 a1 => by
    subst hx
    obtain ⟨_, xs, h1, h2⟩ := g1.cell a _ ha
    have ev := sl_c a1
    subst ev
    obtain ⟨r, hr, ar⟩ := h2.get hz
    exact ⟨.inl ⟨rfl, xs, .inl (.inl h1)⟩, a, xs, r, rfl, rfl, h1, by rw [h2.len]; exact hr, k z _ _ G1 _ q e1 (g1.write ha h1 (fun _ _ z => (nomatch z)) ⟨_, upd_same, h2.dropL⟩) ar⟩
/-- xs.extend(ys), both lists of one's own -/
theorem k_extend {a b : Addr} {ss ts : List Sl} (h : M a = some (.l ss)) (h' : M b = some (.l ts)) (hl : ss.length + ts.length ≤ sizeLine) (q : Q (.d .none) (updC M a (.l (ss ++ ts)))) : RMk X.K L rExtend (.c a) [.c b] M Q := fun G H v vs Q' g a1 a2 k => by
  obtain ⟨u, rfl, au⟩ := sl1 a2
  obtain ⟨_, xs, h1, h2⟩ := g.cell a _ h
  obtain ⟨_, zs, h3, h4⟩ := g.cell b _ h'
  exact ⟨a, b, xs, zs, sl_c a1, by rw [sl_c au], h1, h3, by rw [h2.len, h4.len]; exact hl, k _ _ _ G _ q (Ex.refl G) (g.write h h1 (fun _ _ z => nomatch z) ⟨_, upd_same, h2.append h4⟩) (.d .non)⟩
theorem ds_extend (w : DE X L o τ M fun x M1 => (isTup x = false ∧ ∃ ss, seqOf M1 x = some ss) ∧ DE X L e τ M1 fun z M2 => ∃ a b ss ts, x = .c a ∧ z = .c b ∧ M2 a = some (.l ss) ∧ M2 b = some (.l ts) ∧ ss.length + ts.length ≤ sizeLine ∧ E.nx τ (updC M2 a (.l (ss ++ ts)))) (hbase : attributeBase o "extend" X.env (eval o X.env) = eval o X.env := by rfl)
    (hfew : ((backTo cpos (starEach (e :: []) X.env)).all (fun x => !x.1) && (backToKw cpos (keywordEach [] X.env)).all (fun x => x.1.isSome)
      && decide ((e :: []).length + ([] : List Keyword).length + (if ([] : List Keyword).isEmpty then 0 else 1) < 30)) = true := by rfl)
    (hline : (apos.endLine == cpos.line) = true := by rfl) (hs : starEach (e :: []) X.env = (false, eval e X.env) :: starEach [] X.env := by rfl) (hplain : (backTo cpos (starEach [] X.env)).any (·.1) = false := by rfl) (hsw : swapsWith (.Call (.Attribute o "extend" apos) [e] [] cpos) none pos.line X.env = pure false := by rfl) :
    DS X L (.Expr (.Call (.Attribute o "extend" apos) [e] [] cpos) pos) τ M E :=
  ds_expr (de_mL PySem.F.slot_list_extend PySem.F.type_list_extend (fun pins s σ H x vs v us Q I rx rv h => mt_extend pins s σ H x vs v us Q I rx rv h) (de_imp w fun x M1 ⟨h, q⟩ => ⟨h, da_cons (de_imp q fun z M2 ⟨a, b, ss, ts, hx, hz, ha, hb, hl, q2⟩ => da_nil (by subst hx hz; exact k_extend ha hb hl q2)) hs⟩) hbase hfew hline hs hplain) hsw
end
section
variable {X : Cx} {L : Lk} {M : Cs} {Q : Sl → Cs → Prop} {s : Sl}
/-- max(xs), min(xs), sorted(xs) of whole numbers -/
theorem k_maxL {ns : List Int} (hT : isTup s = false) (h : seqOf M s = some (ns.map dI)) (h0 : 0 < ns.length) (q : ∀ m, m ∈ ns → (∀ y, y ∈ ns → y ≤ m) → Q (dI m) M) : RCk X.K L (rMax X.K) [s] M Q := fun G H vs Q' g a k => by
  obtain ⟨v, rfl, a1⟩ := sl1 a
  obtain ⟨p, xs, rfl, r, l⟩ := seq_at g a1 h
  rw [hT, if_neg Bool.false_ne_true] at r
  rw [ints_at l] at r
  exact ⟨p, ns, rfl, r, h0, fun m hm hy => k.go (q m hm hy) g (.d (.int _))⟩
theorem k_minL {ns : List Int} (hT : isTup s = false) (h : seqOf M s = some (ns.map dI)) (h0 : 0 < ns.length) (q : ∀ m, m ∈ ns → (∀ y, y ∈ ns → m ≤ y) → Q (dI m) M) : RCk X.K L (rMin X.K) [s] M Q := fun G H vs Q' g a k => by
  obtain ⟨v, rfl, a1⟩ := sl1 a
  obtain ⟨p, xs, rfl, r, l⟩ := seq_at g a1 h
  rw [hT, if_neg Bool.false_ne_true] at r
  rw [ints_at l] at r
  exact ⟨p, ns, rfl, r, h0, fun m hm hy => k.go (q m hm hy) g (.d (.int _))⟩
end
end Y

namespace Y
open PySem L2 PyProof.Rows
section
variable {X : Cx} {L : Lk} {M : Cs} {Q : Sl → Cs → Prop} {s : Sl}
theorem k_sortedI {ns : List Int} (hT : isTup s = false) (h : seqOf M s = some (ns.map dI)) (h0 : ns.length < 64) (q : ∀ (ns' : List Int) (p : Addr), ns'.Perm ns → ns'.Pairwise (· ≤ ·) → M p = none → Q (.c p) (updC M p (.l (ns'.map dI)))) : RCk X.K L (rSorted X.K) [s] M Q := fun G H vs Q' g a k => by
  obtain ⟨v, rfl, a1⟩ := sl1 a
  obtain ⟨p, xs, rfl, r, l⟩ := seq_at g a1 h
  rw [hT, if_neg Bool.false_ne_true] at r
  rw [ints_at l] at r
  exact ⟨p, ns, rfl, r, h0, fun ns' c hp hs hc => k _ _ _ G _ (q ns' c hp hs (g.free hc).2) (Ex.refl G) (g.newC hc ⟨_, upd_same, ints_sl _⟩) (.c c)⟩
/-- i not in a list of whole numbers -/
theorem k_niL {i : Int} {t : Sl} {ns : List Int} (h : seqOf M t = some (ns.map dI)) (q : Q (.d (.bool (!decide (i ∈ ns)))) M) : R2k X.K L (rIn X.K true) (dI i) t M Q := fun G H v u Q' g a1 a2 k => by
  obtain ⟨p, xs, rfl, r, l⟩ := seq_at' g a2 h
  rw [ints_at l] at r
  rw [sl_int a1]
  refine ⟨p, ns.map V.int, rfl, r, rfl, ?_, ?_⟩
  · rw [List.all_map]
    exact List.all_eq_true.mpr fun _ _ => rfl
  · have e : inV (V.int i) (ns.map V.int) = decide (i ∈ ns) := by
      unfold inV
      rw [List.any_map]
      by_cases hi : i ∈ ns
      · rw [decide_eq_true hi]
        exact List.any_eq_true.mpr ⟨i, hi, by simp [eqV]⟩
      · rw [decide_eq_false hi]
        refine List.any_eq_false.mpr fun j hj => ?_
        have : j ≠ i := fun e => hi (e ▸ hj)
        simp [eqV, this]
    rw [e, if_pos rfl]
    exact k.go q g (.d (.bl _))
end
/-! ### list(d.values()) -/
section
variable {X : Cx} {o : Expr} {p pos apos mpos : Pos} {td : TE}
def tListV (td : TE) : TE := fun σ H Q => td σ H fun x H1 => ∃ (a : Addr) (kvs : List (Key × V)) (is : List Int), x = V.ref a ∧ Rd H1 a (.dK kvs) ∧ kvs.map (·.2) = is.map V.int ∧ ∀ p, H1 p = none → Q (.ref p) (upd H1 p (.lst (is.map V.int)))
theorem pe_listV (hc : X.calm = true) (hg : Gl X "list") (hm : X.mg "list" = none) (hv : bootBuiltins "list" = some (.type "list")) (hd : PE X o td)
    (hb : attributeBase o "values" X.env (eval o X.env) = eval o X.env := by rfl) (hl : (apos.endLine == mpos.line) = true := by rfl)
    (hs : starEach [Expr.Call (.Attribute o "values" apos) [] [] mpos] X.env = (false, eval (Expr.Call (.Attribute o "values" apos) [] [] mpos) X.env) :: starEach [] X.env := by rfl) : PE X (.Call (.Name "list" p) [.Call (.Attribute o "values" apos) [] [] mpos] [] pos) (tListV td) := by
  refine ⟨fun pins s σ H Q I hq => ?_⟩
  refine wpAny_Call_Name_kw (ld_blt I hg hm hv ?_)
  refine PyProof.Rows.callWith_type1 ?_ hs rfl
  rw [hs]
  show wpAny _ _ (spliced ((false, eval (.Call (.Attribute o "values" apos) [] [] mpos) X.env) :: backTo pos (starEach [] X.env))) _ _ s
  refine Calls.spliced_cons ?_
  refine wpAny_Call_method (T := "dict") (id := "dict.values") hb rfl hl F.plainAttrs_dict F.slot_dict_values F.type_dict_values (thn (hd.run pins s σ H _ I hq) fun u s1 ⟨x, H1, I1, rx, a, kvs, is, ex, hr, hi, q⟩ => ?_)
  subst ex
  obtain rfl : u = Value.ref a := rx
  obtain ⟨hz, hs0, vs, kv, hdo⟩ := dk_rd I1.hok hr
  obtain ⟨ep, hat⟩ := hdo.dictAt
  have lk : kvs.length = vs.length := KV.length kv
  refine ⟨hdo.typeIs, hdo.mapOf.noDict, ?_⟩
  show wpAny _ _ (callWith mpos (.builtin "dict.values") [.ref a] [] []) _ X.xe s1
  refine method_meetsIn F.slot_dict_values F.entry_dict_values rfl (PySem.evalArgs_none ⟨rfl, hdo.typeIs, F.args_dict_values_1 _, _, meets_dict_values (mixKind X.prog X.w) a hs0, ⟨vs, hdo⟩, ?_⟩)
  refine Calls.spliced_nil ?_
  have I2 : Inv X pins σ H1 { s1 with heap := s1.heap.push (vw a) } := I1.kept (t' := s1.toks) fun b ob q => Heap.get?_push_of_some _ q
  have lo := hdo.dictAt
  refine PySem.W.kdl_call (PySem.W.kdl_values (knd := mixKind X.prog X.w) (kvs := vs) (ep := ep)) (I1.ok.hd hc) ⟨⟨_, Heap.get?_push_size _ rfl, rfl, rfl⟩, hat.keep fun _ _ => vw_keep⟩ (by omega) fun h' tk acc c hk hS hacc => ?_
  refine ⟨.ref _, upd H1 (s1.heap.push (vw a)).objs.size (.lst (is.map V.int)), I2.laid (t' := tk) hk (Nat.le_refl _) (show ObjOk X.prog X.w _ _ _ (.lst (is.map V.int)) from ⟨?_, acc.toList, c, ?_, ?_⟩), rfl, q _ (I2.hok.fresh (Nat.le_refl _))⟩
  · rw [List.length_map, ← len_vals kv hi, ← lk]
    exact hz
  · have el : acc.toList.length = acc.size := by simp
    refine vals_of_at (by rw [List.length_map, el, hacc.1, len_vals kv hi]) fun j x w h1 h2 => ?_
    obtain ⟨t, et⟩ := int_vals kv hi j w (hacc.2 j w (by rw [← Array.getElem?_toList]; exact h2))
    rw [List.getElem?_map] at h1
    obtain ⟨n, hn, rfl⟩ := Option.map_eq_some_iff.mp h1
    rw [et, List.getD_eq_getElem?_getD, hn]
    exact ⟨t, rfl⟩
  · rw [Array.toArray_toList]
    exact hS
end
section
variable {X : Cx} {L : Lk} {τ : List (Option Sl)} {M : Cs} {Q : Sl → Cs → Prop} {o : Expr} {p pos apos mpos : Pos}
theorem de_listV (hc : X.calm = true) (hg : Gl X "list") (hm : X.mg "list" = none) (w : DE X L o τ M fun s M1 => ∃ (kvs : List (Key × Sl)) (is : List Int), DictIs M1 s kvs ∧ kvs.map (·.2) = is.map dI ∧ ∀ p, M1 p = none → Q (.c p) (updC M1 p (.l (is.map dI)))) (hv : bootBuiltins "list" = some (.type "list") := by decide +kernel) (hbase : attributeBase o "values" X.env (eval o X.env) = eval o X.env := by rfl) (hline : (apos.endLine == mpos.line) = true := by rfl)
    (hse : starEach [Expr.Call (.Attribute o "values" apos) [] [] mpos] X.env = (false, eval (Expr.Call (.Attribute o "values" apos) [] [] mpos) X.env) :: starEach [] X.env := by rfl) : DE X L (.Call (.Name "list" p) [.Call (.Attribute o "values" apos) [] [] mpos] [] pos) τ M Q :=
  de_of (pe_listV hc hg hm hv pe_s hbase hline hse) fun σ G H Q' gs gm k => w σ G H _ gs gm fun s M1 v G1 H1 ⟨kvs, is, hd, hi, q⟩ e1 g1 a1 => by
    obtain ⟨a, xs, rfl, r, l⟩ := dict_at g1 a1 hd
    exact ⟨a, xs, is, rfl, r, KvAt.ints l hi, fun c hc => k _ _ _ G1 _ (q c (g1.free hc).2) e1 (g1.newC hc ⟨_, upd_same, ints_sl _⟩) (.c c)⟩
end
end Y

namespace Y
open PySem L2 PyProof.Rows
section
variable {X : Cx} {L : Lk} {τ : List (Option Sl)} {M : Cs} {Q : Sl → Cs → Prop} {e a b c o tg iter : Expr} {es : List Expr} {pos apos cpos pos' p0 : Pos} {E : Ks} {st : Stmt} {sts body : List Stmt} {nm : Str} {i : Nat}
/-- for k in d, d a name that holds data -/
theorem ds_forKeys {kd : List (Key × PyData)} (hp : PassesOwn (model X.prog X.w) X.A X.env X.xe) (hc : X.calm = true) (hL : NoDK L) (hN : X.N[i]? = some nm) (hv : Vis X.env.scope nm) (ht : τ[i]? = some (some (.d (.dict (encK kd)))))
    (Iv : Nat → List (Option Sl) → Cs → Prop) (i0 : Iv 0 τ M)
    (turn : ∀ x, (∃ xs, x.2.2 = HO.dK xs) → ∀ n k d τ' M', kd[n]? = some (k, d) → Iv n τ' M' → DG X (x :: L) tg (.d (kD k)) τ' M' fun τ2 M2 => DB X (x :: L) body τ2 M2 { E with nx := Iv (n + 1), ct := Iv (n + 1), bk := E.nx })
    (fin : ∀ τ' M', Iv kd.length τ' M' → E.nx τ' M')
    (hd : (nm == ("__debug__" : Str)) = false := by decide) (hcd : (nm == ("__classdict__" : Str)) = false := by decide)
    (hs : ∀ x, foldedSetIterable (.Name nm p0) X.env x = pure x := by intro _; rfl) : DS X L (.For tg (.Name nm p0) body [] pos) τ M E :=
  ds_of (ps_lock (ps_for hp hc (pi_keys (pe_var hN hv hd hcd)) pg_s pss_s hs)) fun σ G H D gs gm k => by
    obtain ⟨v, hσ, av⟩ := gs.get i _ ht
    cases av with
    | d av =>
      generalize hz : encK kd = zs at av
      cases av with
      | dic hG l =>
        rename_i dd xs
        subst hz
        have lx := AtK.kv kd l
        have hx := lock_exact gm hL hG
        have hne := lock_ne gm hL hG
        refine ⟨dd, .dK xs, hx, trivial, fun od => ?_⟩
        have gmL := gm.lock (od := od) hL hG
        have kL : EndsOk X.K ((dd, od, .dK xs) :: L) G E ⟨fun σ' H' => H' dd = some (.frz od (.dK xs)) ∧ D.nx σ' (upd H' dd (.dK xs)), fun v H' => H' dd = some (.frz od (.dK xs)) ∧ D.rt v (upd H' dd (.dK xs)), fun σ' H' => H' dd = some (.frz od (.dK xs)) ∧ D.bk σ' (upd H' dd (.dK xs)), fun σ' H' => H' dd = some (.frz od (.dK xs)) ∧ D.ct σ' (upd H' dd (.dK xs))⟩ :=
          ⟨fun τ' M' σ' G' H' q e g s => ⟨g.lk _ List.mem_cons_self, k.nx _ _ _ G' _ q e (g.unlock hne (e _ _ hG)) s⟩, fun s M' v G' H' q e g a => ⟨g.lk _ List.mem_cons_self, k.rt _ _ _ G' _ q e (g.unlock hne (e _ _ hG)) a⟩,
            fun τ' M' σ' G' H' q e g s => ⟨g.lk _ List.mem_cons_self, k.bk _ _ _ G' _ q e (g.unlock hne (e _ _ hG)) s⟩, fun τ' M' σ' G' H' q e g s => ⟨g.lk _ List.mem_cons_self, k.ct _ _ _ G' _ q e (g.unlock hne (e _ _ hG)) s⟩⟩
        refine ⟨.ref dd, hσ, dd, od, rfl, .inl ⟨xs, upd_same, ?_⟩⟩
        refine ⟨fun n m σ' H' => m = kd.length - n ∧ n ≤ kd.length ∧ ∃ τ' M' G', Iv n τ' M' ∧ Ex G G' ∧ GoodS X.K G' σ' τ' ∧ GoodM X.K ((dd, od, .dK xs) :: L) M' G' H', ⟨kd.length, by simp, Nat.zero_le _, τ, M, G, i0, Ex.refl _, gs, gmL⟩, ?_⟩
        rintro n m σ' H' ⟨rfl, hn, τ', M', G', iv, e', s', g'⟩
        have hl : xs.length = kd.length := by rw [lx.len]; simp [slK]
        have hd' : H' dd = some (.frz od (.dK xs)) := g'.lk _ List.mem_cons_self
        by_cases hlt : n < kd.length
        · refine .inr ⟨⟨hd', by rw [hl]; exact hlt⟩, fun σ2 H2 => ∃ τ2 M2 G2, Iv (n + 1) τ2 M2 ∧ Ex G G2 ∧ GoodS X.K G2 σ2 τ2 ∧ GoodM X.K ((dd, od, .dK xs) :: L) M2 G2 H2, fun σ2 H2 ⟨τ2, M2, G2, h⟩ => ⟨kd.length - (n + 1), by omega, rfl, hlt, τ2, M2, G2, h⟩, fun x H2 hy => ?_⟩
          obtain ⟨rfl, k1, v1, hx1, rfl⟩ := hy
          obtain ⟨u1, hu1, au1⟩ := (KvAt.mono e' lx).get (i := n) (k := (kd[n]).1) (s := .d (kd[n]).2) (by unfold slK; rw [List.getElem?_map, List.getElem?_eq_getElem hlt]; rfl)
          rw [hx1] at hu1
          have hu2 := Option.some.inj hu1
          have ek : k1 = (kd[n]).1 := (Prod.mk.inj hu2).1
          have ak : At X.K G' (kV k1) (kD (kd[n]).1) := by
            rw [← ek]
            cases k1 with
            | inl z => exact .int z
            | inr z => exact .str z
          refine turn (dd, od, .dK xs) ⟨xs, rfl⟩ n (kd[n]).1 (kd[n]).2 τ' M' (List.getElem?_eq_getElem hlt) iv σ' _ _ _ _ s' g' (.d ak) fun τ3 M3 σ3 G3 H3 q3 e3 g3 s3 => ?_
          have e13 := e'.trans e3
          exact q3 σ3 G3 H3 _ s3 g3 ⟨fun τ4 M4 σ4 G4 H4 q4 e4 g4 s4 => ⟨τ4, M4, G4, q4, e13.trans e4, s4, g4⟩, kL.rt.mono e13, kL.nx.mono e13, fun τ4 M4 σ4 G4 H4 q4 e4 g4 s4 => ⟨τ4, M4, G4, q4, e13.trans e4, s4, g4⟩⟩
        · have e : n = kd.length := by omega
          subst e
          exact .inl ⟨⟨hd', by rw [hl]; exact Nat.le_refl _⟩, kL.nx τ' M' σ' G' H' (fin _ _ iv) e' g' s'⟩
end
/-! comprehensions over a dict's values -/
section
variable {X : Cx} {L : Lk} {τ : List (Option Sl)} {M : Cs} {Q : Sl → Cs → Prop} {elt kx vx tg c : Expr} {scope : Scope} {own : List (Str × Nat)} {pos p0 apos mpos : Pos} {g : TG} {i : Nat} {nm : Str} {kd : List (Key × PyData)}
theorem lcV_run {σ : L2.St} {G HL : Hp} {Q2 : VK} {dd : Addr} {od : Obj} {xs : List (Key × V)} {vs : List Nat} (gs : GoodS X.K G σ τ) (gmL : GoodM X.K ((dd, od, .dK xs) :: L) M G HL) (hσ : σ[i]? = some (some (.ref dd))) (lx : KvAt X.K G xs (slK kd))
    (w : ∀ D, M D = none → ∃ Iv : Nat → Cs → Prop, Iv 0 (updC M D (.l [])) ∧ (∀ x, (∃ xs, x.2.2 = HO.dK xs) → ∀ n k d M', kd[n]? = some (k, d) → Iv n M' →
      WGw X.K (x :: L) vs g (.d d) (wipeK τ vs) M' fun τ2 M3 => DTb X scope (x :: L) c τ2 M3 fun b M4 => (b = true → DEb X scope (x :: L) elt τ2 M4 fun z M5 => ∃ acc, M5 D = some (.l acc) ∧ acc.length < sizeLine ∧ Iv (n + 1) (updC M5 D (.l (acc ++ [z])))) ∧ (b = false → Iv (n + 1) M4)) ∧
      (∀ M' G' H', Iv kd.length M' → Ex G G' → GoodM X.K ((dd, od, .dK xs) :: L) M' G' H' → Q2 (.ref D) H')) : tLc (iVals (tVar i)) g (bT X scope c) (bE X scope elt) vs σ HL Q2 := by
        have hx0 : HL dd = some (.frz od (.dK xs)) := gmL.lk _ List.mem_cons_self
        refine ⟨.ref dd, hσ, dd, od, xs, rfl, hx0, fun D hD => ?_⟩
        obtain ⟨Iv, i0, turn, fin⟩ := w D (gmL.free hD).2
        have hl : xs.length = kd.length := by rw [lx.len]; simp [slK]
        refine ⟨fun n m H' => m = kd.length - n ∧ n ≤ kd.length ∧ ∃ M' G', Iv n M' ∧ Ex G G' ∧ GoodM X.K ((dd, od, .dK xs) :: L) M' G' H', ⟨kd.length, by simp, Nat.zero_le _, _, G, i0, Ex.refl _, gmL.newC hD ⟨[], upd_same, .nil⟩⟩, ?_⟩
        rintro n m H' ⟨rfl, hn, M', G', iv, e', g'⟩
        have hd' : H' dd = some (.frz od (.dK xs)) := g'.lk _ List.mem_cons_self
        by_cases hlt : n < kd.length
        · refine .inr ⟨⟨hd', by rw [hl]; exact hlt⟩, fun H2 => ∃ M2 G2, Iv (n + 1) M2 ∧ Ex G G2 ∧ GoodM X.K ((dd, od, .dK xs) :: L) M2 G2 H2, fun H2 ⟨M2, G2, h⟩ => ⟨kd.length - (n + 1), by omega, rfl, hlt, M2, G2, h⟩, fun x H2 hy => ?_⟩
          obtain ⟨rfl, k1, hx1⟩ := hy
          obtain ⟨u1, hu1, au1⟩ := (KvAt.mono e' lx).get (i := n) (k := (kd[n]).1) (s := .d (kd[n]).2) (by unfold slK; rw [List.getElem?_map, List.getElem?_eq_getElem hlt]; rfl)
          rw [hx1] at hu1
          have hu2 := Option.some.inj hu1
          have ev : x = u1 := (Prod.mk.inj hu2).2
          subst ev
          refine turn (dd, od, .dK xs) ⟨xs, rfl⟩ n (kd[n]).1 (kd[n]).2 M' (List.getElem?_eq_getElem hlt) iv _ G' H2 _ _ ((gs.mono e').wipe vs) g' au1 fun τ3 M3 σ3 G3 H3 q3 e3 g3 s3 z3 => ?_
          refine ⟨z3.trans wipe_wipe, ?_⟩
          have e13 := e'.trans e3
          refine wtb (X := X) (scope := scope) (e := c) q3 σ3 G3 H3 _ s3 g3 fun b M4 G4 H4 q4 e4 g4 => ?_
          cases b with
          | true =>
            rw [if_pos rfl]
            refine web (X := X) (scope := scope) (e := elt) (q4.1 rfl) σ3 G4 H4 _ (s3.mono e4) g4 fun z M5 v5 G5 H5 ⟨acc, hacc, hl5, iv5⟩ e5 g5 a5 => ?_
            obtain ⟨f5, ys, h1, h2⟩ := g5.cell D _ hacc
            refine ⟨ys, h1, by rw [h2.len]; exact hl5, _, G5, iv5, (e13.trans e4).trans e5, ?_⟩
            exact g5.write hacc h1 (fun _ _ z => nomatch z) ⟨_, upd_same, h2.append (.cons a5 .nil)⟩
          | false =>
            rw [if_neg Bool.false_ne_true]
            exact ⟨M4, G4, q4.2 rfl, e13.trans e4, g4⟩
        · have e : n = kd.length := by omega
          subst e
          exact .inl ⟨⟨hd', by rw [hl]; exact Nat.le_refl _⟩, fin M' G' H' iv e' g'⟩
/-- [elt for tg in d.values() if c] -/
theorem de_lcVals (hc : X.calm = true) (hN : X.N.Nodup) (ok : BlkOk X.N X.env.scope scope own) (hg : ∀ (s : Shared) (H : Hp) (C : Addr) (cl : List (Str × Addr)) (fp : List Addr), PG (X.blk s H scope (compEnvC scope cl C X.env) fp) tg g)
    (hL : NoDK L) (hi : X.N[i]? = some nm) (hv : Vis X.env.scope nm) (ht : τ[i]? = some (some (.d (.dict (encK kd)))))
    (w : ∀ D, M D = none → ∃ Iv : Nat → Cs → Prop, Iv 0 (updC M D (.l [])) ∧ (∀ x, (∃ xs, x.2.2 = HO.dK xs) → ∀ n k d M', kd[n]? = some (k, d) → Iv n M' →
      WGw X.K (x :: L) (own.map (·.2)) g (.d d) (wipeK τ (own.map (·.2))) M' fun τ2 M3 => DTb X scope (x :: L) c τ2 M3 fun b M4 => (b = true → DEb X scope (x :: L) elt τ2 M4 fun z M5 => ∃ acc, M5 D = some (.l acc) ∧ acc.length < sizeLine ∧ Iv (n + 1) (updC M5 D (.l (acc ++ [z])))) ∧ (b = false → Iv (n + 1) M4)) ∧ (∀ M', Iv kd.length M' → Q (.c D) M'))
    (hd : (nm == ("__debug__" : Str)) = false := by decide) (hcd : (nm == ("__classdict__" : Str)) = false := by decide)
    (hbase : attributeBase (.Name nm p0) "values" X.env (eval (.Name nm p0) X.env) = eval (.Name nm p0) X.env := by rfl) (hline : (apos.endLine == mpos.line) = true := by rfl)
    (hs : ∀ x, foldedSetIterable (.Call (.Attribute (.Name nm p0) "values" apos) [] [] mpos) X.env x = pure x := by intro _; rfl) : DE X L (.ListComp elt [⟨tg, .Call (.Attribute (.Name nm p0) "values" apos) [] [] mpos, [c], 0⟩] scope pos) τ M Q :=
  de_of (pe_lock (pe_lc (te := bE X scope elt) (tt := bT X scope c) hc hN (pi_values (pe_var hi hv hd hcd) hbase hline) ok hg (fun s H C cl fp => pts_one ⟨fun pins s' σ H' Q' I h => h s H C cl fp pins s' I⟩) (fun s H C cl fp => ⟨fun pins s' σ H' Q' I h => h s H C cl fp pins s' I⟩) hs)) fun σ G H Q' gs gm k => by
    obtain ⟨v, hσ, av⟩ := gs.get i _ ht
    cases av with
    | d av =>
      generalize hz : encK kd = zs at av
      cases av with
      | dic hG l =>
        rename_i dd xs
        subst hz
        have lx := AtK.kv kd l
        have hx := lock_exact gm hL hG
        have hne := lock_ne gm hL hG
        refine ⟨dd, .dK xs, hx, trivial, fun od => ?_⟩
        have gmL := gm.lock (od := od) hL hG
        refine lcV_run (kd := kd) gs gmL hσ lx fun D hD => ?_
        obtain ⟨Iv, i0, turn, fin⟩ := w D hD
        exact ⟨Iv, i0, turn, fun M' G' H' iv e' g' => ⟨g'.lk _ List.mem_cons_self, k _ M' _ G' _ (fin _ iv) e' (g'.unlock hne (e' _ _ hG)) (.c D)⟩⟩
/-- y = [elt for tg in d.values() if c] -/
theorem ds_setLcVals {j : Nat} {y : Str} {py spos : Pos} {E : Ks} (hc : X.calm = true) (hN : X.N.Nodup) (hy : X.N[j]? = some y) (hyl : X.env.scope.names.lookup y = some .local)
    (hsw : swapsWith (.ListComp elt [⟨tg, .Call (.Attribute (.Name nm p0) "values" apos) [] [] mpos, [c], 0⟩] scope pos) (some (.Name y py)) spos.line X.env = pure true) (ok : BlkOk X.N X.env.scope scope own) (hg : ∀ (s : Shared) (H : Hp) (C : Addr) (cl : List (Str × Addr)) (fp : List Addr), PG (X.blk s H scope (compEnvC scope cl C X.env) fp) tg g)
    (hL : NoDK L) (hi : X.N[i]? = some nm) (hv : Vis X.env.scope nm) (ht : τ[i]? = some (some (.d (.dict (encK kd)))))
    (w : ∀ D, M D = none → ∃ Iv : Nat → Cs → Prop, Iv 0 (updC M D (.l [])) ∧ (∀ x, (∃ xs, x.2.2 = HO.dK xs) → ∀ n k d M', kd[n]? = some (k, d) → Iv n M' →
      WGw X.K (x :: L) (own.map (·.2)) g (.d d) (wipeK τ (own.map (·.2))) M' fun τ2 M3 => DTb X scope (x :: L) c τ2 M3 fun b M4 => (b = true → DEb X scope (x :: L) elt τ2 M4 fun z M5 => ∃ acc, M5 D = some (.l acc) ∧ acc.length < sizeLine ∧ Iv (n + 1) (updC M5 D (.l (acc ++ [z])))) ∧ (b = false → Iv (n + 1) M4)) ∧ (∀ M', Iv kd.length M' → E.nx (τ.set j (some (.c D))) M'))
    (hd : (nm == ("__debug__" : Str)) = false := by decide) (hcd : (nm == ("__classdict__" : Str)) = false := by decide)
    (hbase : attributeBase (.Name nm p0) "values" X.env (eval (.Name nm p0) X.env) = eval (.Name nm p0) X.env := by rfl) (hline : (apos.endLine == mpos.line) = true := by rfl)
    (hs : ∀ x, foldedSetIterable (.Call (.Attribute (.Name nm p0) "values" apos) [] [] mpos) X.env x = pure x := by intro _; rfl) : DS X L (.Assign [.Name y py] (.ListComp elt [⟨tg, .Call (.Attribute (.Name nm p0) "values" apos) [] [] mpos, [c], 0⟩] scope pos) spos) τ M E :=
  ds_of (ps_lock (ps_setLc (te := bE X scope elt) (tt := bT X scope c) hc hN hy hyl hsw (pi_values (pe_var hi hv hd hcd) hbase hline) ok hg (fun s H C cl fp => pts_one ⟨fun pins s' σ H' Q' I h => h s H C cl fp pins s' I⟩) (fun s H C cl fp => ⟨fun pins s' σ H' Q' I h => h s H C cl fp pins s' I⟩) hs)) fun σ G H D0 gs gm k => by
    obtain ⟨v, hσ, av⟩ := gs.get i _ ht
    cases av with
    | d av =>
      generalize hz : encK kd = zs at av
      cases av with
      | dic hG l =>
        rename_i dd xs
        subst hz
        have lx := AtK.kv kd l
        have hx := lock_exact gm hL hG
        have hne := lock_ne gm hL hG
        refine ⟨dd, .dK xs, hx, trivial, fun od => ?_⟩
        have gmL := gm.lock (od := od) hL hG
        refine lcV_run (kd := kd) gs gmL hσ lx fun D hD => ?_
        obtain ⟨Iv, i0, turn, fin⟩ := w D hD
        exact ⟨Iv, i0, turn, fun M' G' H' iv e' g' => ⟨g'.lk _ List.mem_cons_self, k.nx _ M' _ G' _ (fin _ iv) e' (g'.unlock hne (e' _ _ hG)) ((gs.mono e').set (.c D) j)⟩⟩
end
end Y

namespace Y
open PySem L2 PyProof.Rows
theorem minOf_spec : ∀ (xs : List Int) (x : Int), (PySem.W.minOf x xs ∈ x :: xs) ∧ ∀ y ∈ x :: xs, PySem.W.minOf x xs ≤ y
  | [], x => ⟨List.mem_cons_self, fun y hy => by rw [List.mem_singleton.mp hy]; exact Int.le_refl _⟩
  | z :: xs, x => by
    have e : PySem.W.minOf x (z :: xs) = PySem.W.minOf (if z < x then z else x) xs := by
      show List.foldl _ _ _ = _
      rw [List.foldl_cons]
      by_cases h : z < x
      · rw [if_pos h, if_pos (show PySem.W.DatumOrd.lt z x = true from decide_eq_true h)]
        rfl
      · rw [if_neg h, if_neg (show ¬ PySem.W.DatumOrd.lt z x = true from fun q => h (of_decide_eq_true q))]
        rfl
    obtain ⟨h1, h2⟩ := minOf_spec xs (if z < x then z else x)
    rw [e]
    refine ⟨?_, fun y hy => ?_⟩
    · rcases List.mem_cons.mp h1 with q | q
      · rw [q]
        by_cases h : z < x
        · rw [if_pos h]; exact List.mem_cons_of_mem _ List.mem_cons_self
        · rw [if_neg h]; exact List.mem_cons_self
      · exact List.mem_cons_of_mem _ (List.mem_cons_of_mem _ q)
    · have h0 := h2 _ List.mem_cons_self
      rcases List.mem_cons.mp hy with q | q
      · rw [q]
        by_cases h : z < x
        · rw [if_pos h] at h0 ⊢; omega
        · rw [if_neg h] at h0 ⊢; exact h0
      · rcases List.mem_cons.mp q with q | q
        · rw [q]
          by_cases h : z < x
          · rw [if_pos h] at h0 ⊢; exact h0
          · rw [if_neg h] at h0 ⊢; omega
        · exact h2 y (List.mem_cons_of_mem _ q)
section
variable {X : Cx}
/-- min(xs, default=d) -/
def rMinD (K : PySem.W.Frag) : List V → List V → Hp → VK → Prop := fun vs zs H Q => ∃ (a : Addr) (ns : List Int) (d : Int), vs = [V.ref a] ∧ zs = [V.int d] ∧ SqL K H a (ns.map V.int) ∧ (ns = [] → Q (.int d) H) ∧ ∀ m, m ∈ ns → (∀ y, y ∈ ns → m ≤ y) → Q (.int m) H
theorem cr_minD (hc : X.calm = true) (hu : X.A.units + 1 < cLine) : CallRK X (.builtin "min") [Str.ofString "default"] (rMinD X.K) := by
  intro pins s σ H vs zs us ws Q I r rz h
  obtain ⟨a, ns, d, rfl, rfl, hs, q0, q1⟩ := h
  obtain rfl := Vals.ref1 r
  obtain ⟨w1, rfl, e1⟩ := vals1 rz
  obtain ⟨t, rfl⟩ : ∃ t, w1 = Value.int d t := e1
  obtain ⟨its, rv, hl, _⟩ := I.list hs
  refine PySem.W.min_list_datum_default (α := Int) (xs := ns) (I.ok.hd hc) hl.isList (PySem.W.HoldAll.of_ints rv.ints) hu (fun e h' tk hk => ⟨.int d, H, I.kept hk, ⟨t, rfl⟩, q0 e⟩) fun y ys i v h' tk e hi hv hk => ?_
  obtain ⟨as, rr⟩ := hv
  obtain ⟨m1, m2⟩ := minOf_spec ys y
  rw [← e] at m1 m2
  have hvi : ∃ t, v = Value.int (PySem.W.minOf y ys) t := by
    cases rr
    exact ⟨_, rfl⟩
  exact ⟨.int _, H, I.kept hk, hvi, q1 _ m1 m2⟩
end
section
variable {X : Cx} {L : Lk} {τ : List (Option Sl)} {M : Cs} {Q : Sl → Cs → Prop} {e : Expr} {p pos kpos dp : Pos} {j : Nat} {d : Int}
theorem de_minD {k0} (hc : X.calm = true) (hu : X.A.units + 1 < cLine) (hg : Gl X "min") (hm : X.mg "min" = none) (w : DE X L e τ M fun s M1 => ∃ ns : List Int, isTup s = false ∧ seqOf M1 s = some (ns.map dI) ∧ (ns = [] → Q (dI d) M1) ∧ ∀ m, m ∈ ns → (∀ y, y ∈ ns → m ≤ y) → Q (dI m) M1)
    (hv : bootBuiltins "min" = some (.builtin "min") := by decide +kernel) (hse : starEach [e] X.env = (false, eval e X.env) :: starEach [] X.env := by rfl)
    (he : backTo pos (starEach [e] X.env) = (false, eval e X.env) :: backTo pos (starEach [] X.env) := by rfl) (hpl : (backTo pos (starEach [e] X.env)).any (·.1) = false := by rfl)
    (hall : (backToKw pos (keywordEach [⟨some "default", .Constant (.int d) k0 dp, kpos⟩] X.env)).all (·.1.isSome) = true := by rfl) (hnone : (backToKw pos (keywordEach [⟨some "default", .Constant (.int d) k0 dp, kpos⟩] X.env)).any (·.1.isNone) = false := by rfl) (hks : (backToKw pos (keywordEach [⟨some "default", .Constant (.int d) k0 dp, kpos⟩] X.env)).filterMap (·.1) = [Str.ofString "default"] := by rfl) :
    DE X L (.Call (.Name "min" p) [e] [⟨some "default", .Constant (.int d) k0 dp, kpos⟩] pos) τ M Q :=
  de_of (pe_callBK (cr_minD hc hu) hg hm hv (pa_cons pe_s pa_nil hse) (pk_cons pe_int pk_nil) (by decide) (by decide) he hpl hall hnone hks) fun σ G H Q' gs gm k => w σ G H _ gs gm fun s M1 v G1 H1 ⟨ns, hT, hs, q0, q1⟩ e1 g1 a1 => by
    obtain ⟨b, xs, rfl, r, l⟩ := seq_at g1 a1 hs
    rw [hT, if_neg Bool.false_ne_true] at r
    rw [ints_at l] at r
    exact ⟨b, ns, d, rfl, rfl, r, fun e => (k.mono e1).go (q0 e) g1 (.d (.int _)), fun m hm hy => (k.mono e1).go (q1 m hm hy) g1 (.d (.int _))⟩
end

/-! ### list(d.items()) -/
section
variable {X : Cx} {L : Lk} {τ : List (Option Sl)} {M : Cs} {Q : Sl → Cs → Prop} {e : Expr} {p pos apos cpos : Pos}
def itD (q : Key × PyData) : Sl := .d (.tuple [kD q.1, q.2])
theorem paired_tup {K : PySem.W.Frag} {G G2 H' : Hp} : ∀ {as : List Addr} {xs : List (Key × V)} {kd : List (Key × PyData)}, Paired (fun (t : Addr) (q : Key × V) => H' t = some (.tup [kV q.1, q.2])) as xs → KvAt K G xs (slK kd) → Ex G G2 → (∀ t ∈ as, G2 t = H' t) → SlL K G2 (as.map V.ref) (kd.map itD)
  | [], [], [], _, _, _, _ => .nil
  | a :: as, (k, v) :: xs, (k2, d) :: kd, h, l, e, ag => by
    cases h with
    | cons h1 h2 =>
      obtain ⟨ek, a1, l2⟩ := l
      refine .cons (.d (.tup ((ag a List.mem_cons_self).trans h1) (.cons ?_ (.cons (At.mono e ?_) .nil)))) (paired_tup h2 l2 e fun t ht => ag t (List.mem_cons_of_mem _ ht))
      · rw [ek]
        cases k2 with
        | inl z => exact .int z
        | inr z => exact .str z
      · cases a1 with
        | d z => exact z
  | [], [], _ :: _, _, l, _, _ => by cases l
  | [], _ :: _, _, h, _, _, _ => by cases h
  | _ :: _, [], _, h, _, _, _ => by cases h
  | _ :: _, _ :: _, [], _, l, _, _ => by cases l
theorem de_listItems (hc : X.calm = true) (hg : Gl X "list") (hm : X.mg "list" = none) (hL : NoDK L) (w : DE X L e τ M fun s M1 => ∃ kd : List (Key × PyData), s = .d (.dict (encK kd)) ∧ ∀ p, M1 p = none → Q (.c p) (updC M1 p (.l (kd.map itD))))
    (hv : bootBuiltins "list" = some (.type "list") := by decide +kernel) (hbase : attributeBase e "items" X.env (eval e X.env) = eval e X.env := by rfl) (hline : (apos.endLine == cpos.line) = true := by rfl)
    (hs : starEach [.Call (.Attribute e "items" apos) [] [] cpos] X.env = (false, eval (.Call (.Attribute e "items" apos) [] [] cpos) X.env) :: starEach [] X.env := by rfl) :
    DE X L (.Call (.Name "list" p) [.Call (.Attribute e "items" apos) [] [] cpos] [] pos) τ M Q :=
  de_of (LiI.pe_listItems hc pe_s hg hm hv hbase hline hs) fun σ G H Q' gs gm k => w σ G H _ gs gm fun s M1 v G1 H1 ⟨kd, es, q⟩ e1 g1 a1 => by
    subst es
    cases a1 with
    | d av =>
      generalize hz : encK kd = zs at av
      cases av with
      | dic hG l =>
        rename_i dd xs
        subst hz
        have lx := AtK.kv kd l
        have hx := lock_exact g1 hL hG
        refine ⟨dd, xs, rfl, hx, fun H' p ts keep hp hts hpn hl pr => ?_⟩
        have off : ∀ b o, G1 b = some o → b ∉ ts := fun b o h hb => by
          rw [(g1.free (hts b hb)).1] at h
          cases h
        have eG : Ex G1 (fun b => if b ∈ ts then H' b else G1 b) := fun b o h => by
          show (if b ∈ ts then _ else _) = _
          rw [if_neg (off b o h)]
          exact h
        have g2 : GoodM X.K L (updC M1 p (.l (kd.map itD))) (fun b => if b ∈ ts then H' b else G1 b) H' := by
          refine ⟨fun a o h => ?_, fun a c h => ?_, fun x hx => keep _ _ (g1.lk x hx)⟩
          · by_cases ha : a ∈ ts
            · have h : (if a ∈ ts then H' a else G1 a) = some o := h
              rw [if_pos ha] at h
              exact .inl h
            · have h : (if a ∈ ts then H' a else G1 a) = some o := h
              rw [if_neg ha] at h
              rcases g1.vw a o h with z | z
              · exact .inl (keep _ _ z)
              · exact .inr z
          · by_cases ha : a = p
            · subst ha
              rw [updC_same] at h
              cases h
              refine ⟨?_, ts.map V.ref, hl, paired_tup pr lx eG fun t ht => ?_⟩
              · show (if a ∈ ts then _ else _) = _
                rw [if_neg hpn]
                exact (g1.free hp).1
              · show (if t ∈ ts then _ else _) = _
                rw [if_pos ht]
            · rw [updC_ne ha] at h
              obtain ⟨z1, z2⟩ := g1.cell a c h
              have hn : a ∉ ts := fun ht => by
                rw [(g1.free (hts a ht)).2] at h
                cases h
              refine ⟨?_, z2.mono eG fun o q => keep _ _ q⟩
              show (if a ∈ ts then _ else _) = _
              rw [if_neg hn]
              exact z1
        exact k _ _ _ _ _ (q p (g1.free hp).2) (e1.trans eG) g2 (.c p)
end
end Y

namespace Y
open PySem L2 PyProof.Rows
section
variable {X : Cx} {L : Lk} {τ : List (Option Sl)} {M : Cs} {Q : Sl → Cs → Prop} {e1 : Expr} {pos : Pos}
/-- {"x": e, "y": j} -/
theorem de_dictSE2 {x y : Str} {j : Int} {j1 j3 j4} {p1 p3 p4 : Pos} (ne : x ≠ y) (w : ∀ p, M p = none → DE X L e1 τ (updC M p (.k [])) fun s M1 => ∃ i, s = dI i ∧ M1 p = some (.k []) ∧ Q (.c p) (updC M1 p (.k (slK [(.inr x, .int i), (.inr y, .int j)])))) : DE X L (.Dict [some (.Constant (.str x) j1 p1), some (.Constant (.str y) j3 p3)] [e1, .Constant (.int j) j4 p4] pos) τ M Q :=
  de_of (pe_disp (pps_cons pe_str pe_s (pps_cons pe_str pe_int pps_nil)) rfl rfl (by simp) (by simp)) fun σ G H Q' gs gm kk p hp => by
    refine w p (gm.free hp).2 σ G (upd H p (.dK [])) _ gs (gm.newC hp ⟨[], upd_same, trivial⟩) fun s M1 v G1 H1 ⟨i, es, hm, q⟩ e1 g1 a1 => ?_
    subst es
    have ev := sl_int a1
    subst ev
    obtain ⟨f1, xs, h1, h2⟩ := g1.cell p _ hm
    have hx : xs = [] := by
      cases xs with
      | nil => rfl
      | cons _ _ => cases h2
    subst hx
    refine ⟨h1, [(.inr x, .int i), (.inr y, .int j)], rfl, (by show 2 ≤ 15; decide), ?_⟩
    have e : mergeK [] [((Sum.inr x : Key), V.int i), (.inr y, .int j)] = [(.inr x, V.int i), (.inr y, V.int j)] := by
      have : ¬ (Sum.inr x : Key) = Sum.inr y := fun z => ne (Sum.inr.inj z)
      simp [mergeK, putK, this]
    rw [e]
    exact kk _ _ _ G1 _ q e1 (g1.write hm h1 (fun _ _ z => nomatch z) ⟨[(.inr x, .int i), (.inr y, .int j)], upd_same, rfl, .d (.int i), rfl, .d (.int j), trivial⟩) (.c p)
end
end Y

/-! x in xs, where what is equal may be told by this model's own words (dicts) -/
namespace PySem.SeqAt
open AutoSeq1 (wpAny_loadPart')
open MeetsSeq MeetsSeq2 MeetsSeq3 SeqRoads2
section
variable {P : Program} {w : World}
theorem member_loop (a : Addr) (its : Array Value) (m : Nat) (od : Option Addr) (ws : Array (Option Value)) (u : Value) (t : Value → Bool) (f : Nat) : ∀ j : Nat, its.size - j = f → MeetsIn P w (Builtin.«list.__contains__.loop» ⟨[.ref a, u, rawInt j], []⟩)
    (fun A R s => s.heap.get? a = some { cls := .type "list", dict := od, data := .seq its m, slots := ws } ∧ (∀ z, z ∈ its → EqP P w A.in1 s z u (t z)) ∧ R (.ok (.ret (.bool ((its.toList.drop j).any t)))) s) := by
  induction f with
  | zero =>
    intro j hj A R s ⟨hob, hz, hq⟩
    cases s
    wp_walk using wpAny_loadPart' hob
    have out : its[((j : Nat) : Int).toNat]? = none := by simp; omega
    rw [show its.toList.drop j = [] from by simp; omega] at hq
    rw [out]
    wp_walk
    exact hq
  | succ f ih =>
    intro j hj A R s ⟨hob, hz, hq⟩
    cases s
    wp_walk using wpAny_loadPart' hob
    have lt : j < its.size := by omega
    have there : its[((j : Nat) : Int).toNat]? = some its[j] := by simp [lt]
    rw [show its.toList.drop j = its[j] :: its.toList.drop (j + 1) from by simp [List.drop_eq_getElem_cons, lt], List.any_cons] at hq
    rw [there]
    refine wpAny_bind (hz _ (Array.getElem_mem lt) _ _ ?_)
    cases k : t its[j] with
    | true =>
      rw [k] at hq
      wp_walk
      exact hq
    | false =>
      rw [k] at hq
      wp_walk
      rw [show ((j : Int) + 1) = ((j + 1 : Nat) : Int) from by push_cast; rfl]
      refine ⟨plainId_quiet plain_contains_loop _, codeAny_builtin entry_contains_loop ?_⟩
      rw [Around.under_plainId plain_contains_loop _]
      exact ih (j + 1) (by omega) A R _ ⟨hob, hz, by simpa using hq⟩
theorem member_list (a : Addr) (its : Array Value) (m : Nat) (od : Option Addr) (ws : Array (Option Value)) (u : Value) (t : Value → Bool) : MeetsIn P w (Builtin.«list.__contains__» ⟨[.ref a, u], []⟩)
    (fun A R s => s.heap.get? a = some { cls := .type "list", dict := od, data := .seq its m, slots := ws } ∧ (∀ z, z ∈ its → EqP P w A.in1 s z u (t z)) ∧ R (.ok (.ret (.bool (its.any t)))) s) := by
  intro A R s ⟨hob, hz, hq⟩
  cases s
  wp_walk using wpAny_loadPart' hob
  refine ⟨plainId_quiet plain_contains_loop _, codeAny_builtin entry_contains_loop ?_⟩
  rw [Around.under_plainId plain_contains_loop _]
  exact member_loop a its m od ws u t _ 0 rfl A R _ ⟨hob, hz, by simpa using hq⟩
theorem member_op {A : Around} {E Q : Value → Shared → Prop} {s : Shared} {a : Addr} {its : Array Value} {u : Value} (t : Value → Bool) (hob : s.heap.IsList a its) (hz : ∀ z, z ∈ its → EqP P w A.in1 s z u (t z)) (hq : Q (.bool (its.any t)) s) : wpAny (model P w) A (compareOp .In u (.ref a)) Q E s := by
  obtain ⟨⟨c, od, da, ws⟩, h0, h1, m, h2⟩ := id hob
  simp only at h1 h2
  subst h1 h2
  show wpAny _ A (do return .bool (← contains (.ref a) u)) Q E s
  refine wpAny_bind (wpAny_contains_slot (T := "list") ⟨_, h0, rfl⟩ F.slot_list_contains (wpAny_mono (call_meetsIn (Q := fun v s' => ∃ b : Bool, v = .bool b ∧ Q (.bool b) s') F.slot_list_contains ⟨_, h0, rfl⟩ F.entry_list_contains (F.args_list_contains_2 _ _) (member_list a its m od ws u t) ⟨h0, hz, ⟨_, rfl, hq⟩⟩) (fun v s' hv => ?_) fun _ _ e => e))
  obtain ⟨b, rfl, q⟩ := (show ∃ b, v = .bool b ∧ Q (.bool b) s' from hv)
  exact wpAny_truthy_bool (wpAny_pure q)
end
end PySem.SeqAt
namespace Y
open PySem L2 PyProof.Rows
def encV (c : Cnt) : List (Key × V) := c.map fun p => (.inr p.1, .int p.2)
theorem valV_enc (z : Str) : ∀ c : Cnt, valV (encV c) (.inr z) = (getC c z).map V.int
  | [] => rfl
  | p :: r => by
    have ih := valV_enc z r
    unfold valV encV getC at ih ⊢
    rw [List.map_cons, List.find?_cons, List.find?_cons]
    by_cases e : p.1 = z
    · rw [show decide ((Sum.inr p.1 : Key) = Sum.inr z) = true from decide_eq_true (by rw [e]), show decide (p.1 = z) = true from decide_eq_true e]
      rfl
    · rw [show decide ((Sum.inr p.1 : Key) = Sum.inr z) = false from decide_eq_false (fun q => e (Sum.inr.inj q)), show decide (p.1 = z) = false from decide_eq_false e]
      exact ih
theorem rd_one {H : Hp} {a : Addr} {x y : List (Key × V)} (h1 : Rd H a (.dK x)) (h2 : Rd H a (.dK y)) : x = y := by
  rcases h1 with h1 | ⟨o, h1⟩ <;> rcases h2 with h2 | ⟨o', h2⟩ <;> (rw [h1] at h2; first | (cases h2; done) | (cases h2; rfl))
/-- the same numbers -/
def eqC (c d : Cnt) : Bool := (c.length == d.length) && c.all fun p => decide (getC d p.1 = some p.2)
theorem hits_C {P : Program} {w : World} {A : Around} {s : Shared} {d : Cnt} {vb : List (Key × Value)} (rb : KV (encV d) vb) : ∀ {c : Cnt} {va : List (Key × Value)}, KV (encV c) va → PySem.W.KeqHitsP P w A s vb va (c.all fun p => decide (getC d p.1 = some p.2))
  | [], va, h => by
    cases h
    exact .nil
  | p :: r, va, h => by
    unfold KV encV at h
    rw [List.map_cons] at h
    cases h with
    | @cons _ q _ qs h t =>
      obtain ⟨h1, h2⟩ := h
      obtain ⟨key, v⟩ := q
      have h1 : (Sum.inr p.1 : Key) = key := h1
      subst h1
      obtain ⟨tk, rfl⟩ : ∃ tk, v = Value.int p.2 tk := h2
      have ih := hits_C (P := P) (w := w) (A := A) (s := s) rb (c := r) (va := qs) t
      have rr := rb.val (.inr p.1)
      rw [valV_enc] at rr
      rw [List.all_cons]
      cases g : getC d p.1 with
      | none =>
        rw [g] at rr
        have : valueAt vb (.inr p.1) = none := by
          cases e : valueAt vb (Sum.inr p.1) with
          | none => rfl
          | some y => rw [e] at rr; exact absurd rr (by intro q; cases q)
        exact .miss this
      | some j =>
        rw [g] at rr
        obtain ⟨y, hy, ry⟩ := RelO.some_of rr
        obtain ⟨tj, rfl⟩ : ∃ tj, y = Value.int j tj := ry
        have e : decide (some j = some p.2) = (p.2 == j) := by
          by_cases q : p.2 = j
          · subst q; simp
          · have : ¬ j = p.2 := fun h => q h.symm
            simp [q, this]
        rw [e]
        exact .hit hy (SeqAt.EqAt.int_int _ _ _ _).eqP ih
theorem encV_inj {c d : Cnt} (h : encV c = encV d) : c = d := by
  induction c generalizing d with
  | nil => cases d with
    | nil => rfl
    | cons _ _ => cases h
  | cons p r ih => cases d with
    | nil => cases h
    | cons q t =>
      unfold encV at h
      rw [List.map_cons, List.map_cons] at h
      injection h with h1 h2
      obtain ⟨p1, p2⟩ := p
      obtain ⟨q1, q2⟩ := q
      have e1 : p1 = q1 := Sum.inr.inj (Prod.mk.inj h1).1
      have e2 : p2 = q2 := by have := (Prod.mk.inj h1).2; injection this
      rw [e1, e2, ih h2]
theorem eqC_self {c : Cnt} (nd : (c.map (·.1)).Nodup) : eqC c c = true := by
  unfold eqC
  rw [Bool.and_eq_true]
  refine ⟨by simp, List.all_eq_true.mpr fun p hp => decide_eq_true ?_⟩
  have key : ∀ c : Cnt, (c.map (·.1)).Nodup → p ∈ c → getC c p.1 = some p.2 := fun c => by
    induction c with
    | nil => intro _ h; cases h
    | cons a r ih =>
      intro nd h
      obtain ⟨n1, n2⟩ := List.nodup_cons.mp nd
      unfold getC at ih ⊢
      rw [List.find?_cons]
      rcases List.mem_cons.mp h with rfl | h
      · rw [show decide (p.1 = p.1) = true from decide_eq_true rfl]; rfl
      · have : ¬ a.1 = p.1 := fun e => n1 (List.mem_map.mpr ⟨p, h, e.symm⟩)
        rw [show decide (a.1 = p.1) = false from decide_eq_false this]
        exact ih n2 h
  exact key c nd hp
section
variable {X : Cx}
def rInM (K : PySem.W.Frag) : R2 := fun x y H Q => ∃ (a l : Addr) (c : Cnt) (ds : List Cnt) (bs : List Addr), x = .ref a ∧ y = .ref l ∧ Rd H a (.dK (encV c)) ∧ (c.map (·.1)).Nodup ∧ SqL K H l (bs.map V.ref) ∧ Paired (fun b d => Rd H b (.dK (encV d))) bs ds ∧ Q (.bl (ds.any fun d => eqC d c)) H
theorem eqP_C {pins : List (Addr × Obj)} {σ : L2.St} {H : Hp} {s : Shared} (I : Inv X pins σ H s) {A : Around} (hu : A.units < cLine) {a b : Addr} {c d : Cnt} (nd : (c.map (·.1)).Nodup) (ha : Rd H a (.dK (encV c))) (hb : Rd H b (.dK (encV d))) : SeqAt.EqP X.prog X.w A s (.ref b) (.ref a) (eqC d c) := by
  obtain ⟨_, ya, va, ra, da⟩ := dk_rd I.hok ha
  obtain ⟨_, yb, vb, rb, db⟩ := dk_rd I.hok hb
  by_cases e : b = a
  · subst e
    have hcd : encV c = encV d := rd_one ha hb
    have hcd := encV_inj hcd
    subst hcd
    rw [eqC_self nd]
    exact (SeqAt.EqAt.same _).eqP
  · refine SeqAt.eqP_refs e fun E Q q => PySem.W.rcP_dicts (knd := mixKind X.prog X.w) yb ya db da hu (fun _ => hits_C ra rb) E Q ?_
    have e1 : vb.length = d.length := by rw [← rb.length]; unfold encV; rw [List.length_map]
    have e2 : va.length = c.length := by rw [← ra.length]; unfold encV; rw [List.length_map]
    rw [e1, e2]
    exact q
theorem op_inM (hu : X.A.units + 1 < cLine) : OpR X (compareOp .In) (rInM X.K) := by
  intro pins s σ H x y v u Q I rx ry h
  obtain ⟨a, l, c, ds, bs, rfl, rfl, ha, nd, hl, hp, q⟩ := h
  cases (show v = Value.ref a from rx)
  cases (show u = Value.ref l from ry)
  obtain ⟨its, rv, hL, _⟩ := I.list hl
  have hits : its = bs.map Value.ref := by
    have key : ∀ {bs : List Addr} {its : List Value}, Vals (bs.map V.ref) its → its = bs.map Value.ref := fun {bs} => by
      induction bs with
      | nil => intro its r; cases r; rfl
      | cons b r ih =>
        intro its h
        rw [List.map_cons] at h
        cases h with
        | cons h1 h2 =>
          rw [show _ = Value.ref b from h1, ih h2]
          rfl
    exact key rv
  subst hits
  have hb : ∀ {bs : List Addr} {ds : List Cnt}, Paired (fun b d => Rd H b (.dK (encV d))) bs ds → ∃ t : Value → Bool, (∀ b ∈ bs, SeqAt.EqP X.prog X.w X.A.in1 s (.ref b) (.ref a) (t (.ref b))) ∧ (bs.map Value.ref).any t = ds.any fun d => eqC d c := by
    intro bs ds hp
    have dl : ∀ b ∈ bs, ∃ d, Rd H b (.dK (encV d)) := by
      clear q
      induction hp with
      | nil => exact fun _ h => nomatch h
      | cons h1 _ ih =>
        intro b hb
        rcases List.mem_cons.mp hb with rfl | hb
        · exact ⟨_, h1⟩
        · exact ih b hb
    classical
    let t : Value → Bool := fun v => match v with
      | .ref b => if h : ∃ d, Rd H b (.dK (encV d)) then eqC (Classical.choose h) c else false
      | _ => false
    have one : ∀ {b : Addr} {d d' : Cnt}, Rd H b (.dK (encV d)) → Rd H b (.dK (encV d')) → d = d' := fun {b d d'} h1 h2 => by
      have : encV d = encV d' := rd_one h1 h2
      exact encV_inj this
    have ht : ∀ {b : Addr} {d : Cnt}, Rd H b (.dK (encV d)) → t (.ref b) = eqC d c := fun {b d} h => by
      have hx : ∃ d, Rd H b (.dK (encV d)) := ⟨d, h⟩
      show (if h : ∃ d, Rd H b (.dK (encV d)) then eqC (Classical.choose h) c else false) = _
      rw [dif_pos hx, one (Classical.choose_spec hx) h]
    refine ⟨t, fun b hb => ?_, ?_⟩
    · obtain ⟨d, hd⟩ := dl b hb
      rw [ht hd]
      exact eqP_C I (by show X.A.units + 1 < cLine; exact hu) nd ha hd
    · clear dl q
      induction hp with
      | nil => rfl
      | cons h1 _ ih => rw [List.map_cons, List.any_cons, List.any_cons, ht h1, ih]
  obtain ⟨t, ht1, ht2⟩ := hb hp
  refine SeqAt.member_op t hL.isList (fun z hz => ?_) ?_
  · obtain ⟨b, hb, rfl⟩ := List.mem_map.mp (by simpa using hz)
    exact ht1 b hb
  · rw [show (bs.map Value.ref).toArray.any t = (bs.map Value.ref).any t from by simp, ht2]
    exact ⟨.bl _, H, I, rfl, q⟩
end
section
variable {X : Cx} {L : Lk} {M : Cs} {Q : Sl → Cs → Prop}
theorem at_cnt {K : PySem.W.Frag} {G : Hp} {v : V} {c : Cnt} (a : SlAt K G v (.d (eCnt c))) : ∃ b, v = .ref b ∧ G b = some (.dK (encV c)) := by
  cases a with
  | d av =>
    generalize hz : eCnt c = z at av
    unfold eCnt at hz
    cases av with
    | dic hG l =>
      rename_i dd xs zs
      have hz : encK (kdC c) = zs := PyData.dict.inj hz
      subst hz
      have lx := AtK.kv (kdC c) l
      refine ⟨dd, rfl, ?_⟩
      have key : ∀ {c : Cnt} {xs : List (Key × V)}, KvAt K G xs (slK (kdC c)) → xs = encV c := fun {c} => by
        induction c with
        | nil => intro xs h; cases xs with
          | nil => rfl
          | cons _ _ => cases h
        | cons p r ih => intro xs h; cases xs with
          | nil => cases h
          | cons x t =>
            obtain ⟨h1, h2, h3⟩ := h
            obtain ⟨k, u⟩ := x
            have h1 : k = .inr p.1 := h1
            have h2 := sl_int (show SlAt K G u (dI p.2) from h2)
            rw [ih h3, h1, h2]
            rfl
      rw [hG, key lx]
    | _ => cases hz
theorem k_inC {c : Cnt} {ds : List Cnt} {t : Sl} (hT : isTup t = false) (h : seqOf M t = some (ds.map fun d => .d (eCnt d))) (nd : (c.map (·.1)).Nodup) (q : Q (.d (.bool (ds.any fun d => eqC d c))) M) : R2k X.K L (rInM X.K) (.d (eCnt c)) t M Q := fun G H v u Q' g a1 a2 k => by
  obtain ⟨p, xs, rfl, r, l⟩ := seq_at g a2 h
  rw [hT, if_neg Bool.false_ne_true] at r
  obtain ⟨a, rfl, ha⟩ := at_cnt a1
  have key : ∀ {ds : List Cnt} {xs : List V}, SlL X.K G xs (ds.map fun d => .d (eCnt d)) → ∃ bs : List Addr, xs = bs.map V.ref ∧ Paired (fun b d => Rd H b (.dK (encV d))) bs ds := fun {ds} => by
    induction ds with
    | nil => intro xs h; cases h; exact ⟨[], rfl, .nil⟩
    | cons d r ih =>
      intro xs h
      rw [List.map_cons] at h
      cases h with
      | cons h1 h2 =>
        obtain ⟨b, rfl, hb⟩ := at_cnt h1
        obtain ⟨bs, rfl, hp⟩ := ih h2
        exact ⟨b :: bs, rfl, .cons (g.rd hb) hp⟩
  obtain ⟨bs, rfl, hp⟩ := key l
  exact ⟨a, p, c, ds, bs, rfl, rfl, g.rd ha, nd, r, hp, k.go q g (.d (.bl _))⟩
end
end Y

namespace Y
open PySem L2 PyProof.Rows
/-! a slot's dict cell becomes data for the rest of a block -/
section
variable {X : Cx} {L : Lk} {τ : List (Option Sl)} {M : Cs} {E : Ks} {sts : List Stmt} {i : Nat} {p : Addr} {kd : List (Key × PyData)}
theorem db_frzD (ht : τ[i]? = some (some (.c p))) (hM : M p = some (.k (slK kd))) (w : DB X L sts (τ.set i (some (.d (.dict (encK kd))))) (delC M p) E) : DB X L sts τ M E := fun σ G H D gs gm k => by
  obtain ⟨G', e, g', a⟩ := gm.freezeK hM
  obtain ⟨v, hσ, av⟩ := gs.get i _ ht
  rw [sl_c av] at hσ
  have gs' : GoodS X.K G' σ (τ.set i (some (.d (.dict (encK kd))))) := by
    have := (gs.mono e).set (v := .ref p) (.d a) i
    have hl : i < σ.length := (List.getElem?_eq_some_iff.mp hσ).1
    have es : σ.set i (some (.ref p)) = σ := by
      refine List.ext_getElem? fun j => ?_
      rw [List.getElem?_set]
      by_cases h : i = j
      · subst h
        rw [if_pos rfl, if_pos hl, hσ]
      · rw [if_neg h]
    rw [es] at this
    exact this
  exact w σ G' H D gs' g' (k.mono e)
end
/-! any(xs), xs * n, k in d -/
section
variable {X : Cx} {L : Lk} {τ : List (Option Sl)} {M : Cs} {Q : Sl → Cs → Prop} {a b : Expr} {pos : Pos} {s : Sl}
theorem k_any {bs : List Bool} (hT : isTup s = false) (h : seqOf M s = some (bs.map fun b => .d (.bool b))) (q : Q (.d (.bool (bs.any id))) M) : RCk X.K L (rAny X.K) [s] M Q := fun G H vs Q' g a k => by
  obtain ⟨v, rfl, a1⟩ := sl1 a
  obtain ⟨p, xs, rfl, r, l⟩ := seq_at g a1 h
  rw [hT, if_neg Bool.false_ne_true] at r
  have key : ∀ {bs : List Bool} {xs : List V}, SlL X.K G xs (bs.map fun b => .d (.bool b)) → xs = bs.map V.bl := fun {bs} => by
    induction bs with
    | nil => intro xs h; cases h; rfl
    | cons b r ih =>
      intro xs h
      rw [List.map_cons] at h
      cases h with
      | cons h1 h2 => rw [sl_bl h1, ih h2]; rfl
  rw [key l] at r
  exact ⟨p, bs, rfl, r, k.go q g (.d (.bl _))⟩
/-- [x] * 2 -/
theorem de_rep2 (w : DE X L a τ M fun x M1 => DE X L b τ M1 fun y M2 => ∃ p z, x = .c p ∧ y = dI 2 ∧ M2 p = some (.l [z]) ∧ ∀ c, M2 c = none → Q (.c c) (updC M2 c (.l [z, z]))) : DE X L (.BinOp a .Mult b pos) τ M Q :=
  de_op op_rep (de_imp w fun x M1 q => de_imp q fun y M2 ⟨p, z, e1, e2, hm, q2⟩ => fun G H v u Q' g a1 a2 k => by
    subst e1 e2
    obtain ⟨f, xs, h1, h2⟩ := g.cell p _ hm
    have hv : v = .ref p := sl_c a1
    have hu := sl_int a2
    cases h2 with
    | @cons vz _ _ _ az t =>
      cases t
      refine ⟨p, 2, [vz], hv, hu, h1, by decide, by decide, by show 1 * 2 ≤ sizeLine; decide, fun c hc => ?_⟩
      exact k _ _ _ G _ (q2 c (g.free hc).2) (Ex.refl G) (g.newC hc ⟨[vz, vz], upd_same, .cons az (.cons az .nil)⟩) (.c c))
end
/-! a dict's items, while other dicts are locked -/
def Other (L : Lk) (n : Nat) : Prop := ∀ x ∈ L, ∀ ys, x.2.2 = HO.dK ys → ys.length ≠ n
theorem NoDK.other {L : Lk} (h : NoDK L) (n : Nat) : Other L n := fun x hx ys e => absurd e (h x hx ys)
section
variable {X : Cx} {L : Lk} {τ : List (Option Sl)} {M : Cs} {Q : Sl → Cs → Prop} {e : Expr} {p pos apos cpos : Pos}
theorem de_listItemsO (hc : X.calm = true) (hg : Gl X "list") (hm : X.mg "list" = none) (w : DE X L e τ M fun s M1 => ∃ kd : List (Key × PyData), s = .d (.dict (encK kd)) ∧ Other L kd.length ∧ ∀ p, M1 p = none → Q (.c p) (updC M1 p (.l (kd.map itD))))
    (hv : bootBuiltins "list" = some (.type "list") := by decide +kernel) (hbase : attributeBase e "items" X.env (eval e X.env) = eval e X.env := by rfl) (hline : (apos.endLine == cpos.line) = true := by rfl)
    (hs : starEach [.Call (.Attribute e "items" apos) [] [] cpos] X.env = (false, eval (.Call (.Attribute e "items" apos) [] [] cpos) X.env) :: starEach [] X.env := by rfl) :
    DE X L (.Call (.Name "list" p) [.Call (.Attribute e "items" apos) [] [] cpos] [] pos) τ M Q :=
  de_of (LiI.pe_listItems hc pe_s hg hm hv hbase hline hs) fun σ G H Q' gs gm k => w σ G H _ gs gm fun s M1 v G1 H1 ⟨kd, es, ho, q⟩ e1 g1 a1 => by
    subst es
    cases a1 with
    | d av =>
      generalize hz : encK kd = zs at av
      cases av with
      | dic hG l =>
        rename_i dd xs
        subst hz
        have lx := AtK.kv kd l
        have hx : H1 dd = some (.dK xs) := by
          rcases g1.vw dd _ hG with z | ⟨x, hx, _, w⟩
          · exact z
          · exact absurd (by rw [lx.len]; simp [slK]) (ho x hx xs w)
        refine ⟨dd, xs, rfl, hx, fun H' p ts keep hp hts hpn hl pr => ?_⟩
        have off : ∀ b o, G1 b = some o → b ∉ ts := fun b o h hb => by
          rw [(g1.free (hts b hb)).1] at h
          cases h
        have eG : Ex G1 (fun b => if b ∈ ts then H' b else G1 b) := fun b o h => by
          show (if b ∈ ts then _ else _) = _
          rw [if_neg (off b o h)]
          exact h
        have g2 : GoodM X.K L (updC M1 p (.l (kd.map itD))) (fun b => if b ∈ ts then H' b else G1 b) H' := by
          refine ⟨fun a o h => ?_, fun a c h => ?_, fun x hx => keep _ _ (g1.lk x hx)⟩
          · by_cases ha : a ∈ ts
            · have h : (if a ∈ ts then H' a else G1 a) = some o := h
              rw [if_pos ha] at h
              exact .inl h
            · have h : (if a ∈ ts then H' a else G1 a) = some o := h
              rw [if_neg ha] at h
              rcases g1.vw a o h with z | z
              · exact .inl (keep _ _ z)
              · exact .inr z
          · by_cases ha : a = p
            · subst ha
              rw [updC_same] at h
              cases h
              refine ⟨?_, ts.map V.ref, hl, paired_tup pr lx eG fun t ht => ?_⟩
              · show (if a ∈ ts then _ else _) = _
                rw [if_neg hpn]
                exact (g1.free hp).1
              · show (if t ∈ ts then _ else _) = _
                rw [if_pos ht]
            · rw [updC_ne ha] at h
              obtain ⟨z1, z2⟩ := g1.cell a c h
              have hn : a ∉ ts := fun ht => by
                rw [(g1.free (hts a ht)).2] at h
                cases h
              refine ⟨?_, z2.mono eG fun o q => keep _ _ q⟩
              show (if a ∈ ts then _ else _) = _
              rw [if_neg hn]
              exact z1
        exact k _ _ _ _ _ (q p (g1.free hp).2) (e1.trans eG) g2 (.c p)
end
/-! k not in d -/
section
variable {X : Cx} {L : Lk} {τ : List (Option Sl)} {M : Cs} {QB : Bool → Cs → Prop} {a b : Expr} {pos : Pos}
theorem dt_dnotin (hu : X.A.units + 1 < cLine) (w : DE X L a τ M fun x M1 => DE X L b τ M1 fun y M2 => ∃ k kvs, x = .d (kD k) ∧ DictIs M2 y kvs ∧ QB (!(valS kvs k).isSome) M2) (hm : behindInMarks .NotIn b = false) : DT X L (.Compare a [.NotIn] [b] pos) τ M QB :=
  dt_of (pt_cmp (pc_dnotin hu pe_s pe_s) hm) fun σ G H Q' gs gm k => w σ G H _ gs gm fun x M1 v G1 H1 q e1 g1 a1 => q σ G1 H1 _ (gs.mono e1) g1 fun y M2 u G2 H2 ⟨key, kvs, hx, hd, q2⟩ e2 g2 a2 => by
    subst hx
    obtain ⟨p, oo, rfl, _, dg, h⟩ := dget_at (k := key) g2 a2 hd
    rw [key_at (a1.mono e2)]
    have ho : oo.isSome = (valS kvs key).isSome := by
      cases e : valS kvs key with
      | none => rw [e] at h; rw [h]; rfl
      | some z => rw [e] at h; obtain ⟨u, hu, _⟩ := h; rw [hu]; rfl
    refine ⟨p, oo, rfl, dg, ?_⟩
    exact ⟨!oo.isSome, rfl, k _ M2 G2 H2 (by rw [ho]; exact q2) (e1.trans e2) g2⟩
end
/-! comprehensions over a dict's keys without a test, over its items with one -/
section
variable {X : Cx} {L : Lk} {τ : List (Option Sl)} {M : Cs} {Q : Sl → Cs → Prop} {elt kx vx tg c : Expr} {scope : Scope} {own : List (Str × Nat)} {pos p0 apos mpos : Pos} {g : TG} {i : Nat} {nm : Str} {kd : List (Key × PyData)}
theorem lcN_run {σ : L2.St} {G HL : Hp} {Q2 : VK} {dd : Addr} {od : Obj} {xs : List (Key × V)} {vs : List Nat} (gs : GoodS X.K G σ τ) (gmL : GoodM X.K ((dd, od, .dK xs) :: L) M G HL) (hσ : σ[i]? = some (some (.ref dd))) (lx : KvAt X.K G xs (slK kd))
    (w : ∀ D, M D = none → ∃ Iv : Nat → Cs → Prop, Iv 0 (updC M D (.l [])) ∧ (∀ x, (∃ xs, x.2.2 = HO.dK xs) → ∀ n k d M', kd[n]? = some (k, d) → Iv n M' →
      WGw X.K (x :: L) vs g (.d (kD k)) (wipeK τ vs) M' fun τ2 M3 => DEb X scope (x :: L) elt τ2 M3 fun z M5 => ∃ acc, M5 D = some (.l acc) ∧ acc.length < sizeLine ∧ Iv (n + 1) (updC M5 D (.l (acc ++ [z])))) ∧
      (∀ M' G' H', Iv kd.length M' → Ex G G' → GoodM X.K ((dd, od, .dK xs) :: L) M' G' H' → Q2 (.ref D) H')) : tLc (iKeys (tVar i)) g tYes (bE X scope elt) vs σ HL Q2 := by
        have hx0 : HL dd = some (.frz od (.dK xs)) := gmL.lk _ List.mem_cons_self
        refine ⟨.ref dd, hσ, dd, od, rfl, .inl ⟨xs, hx0, fun D hD => ?_⟩⟩
        obtain ⟨Iv, i0, turn, fin⟩ := w D (gmL.free hD).2
        have hl : xs.length = kd.length := by rw [lx.len]; simp [slK]
        refine ⟨fun n m H' => m = kd.length - n ∧ n ≤ kd.length ∧ ∃ M' G', Iv n M' ∧ Ex G G' ∧ GoodM X.K ((dd, od, .dK xs) :: L) M' G' H', ⟨kd.length, by simp, Nat.zero_le _, _, G, i0, Ex.refl _, gmL.newC hD ⟨[], upd_same, .nil⟩⟩, ?_⟩
        rintro n m H' ⟨rfl, hn, M', G', iv, e', g'⟩
        have hd' : H' dd = some (.frz od (.dK xs)) := g'.lk _ List.mem_cons_self
        by_cases hlt : n < kd.length
        · refine .inr ⟨⟨hd', by rw [hl]; exact hlt⟩, fun H2 => ∃ M2 G2, Iv (n + 1) M2 ∧ Ex G G2 ∧ GoodM X.K ((dd, od, .dK xs) :: L) M2 G2 H2, fun H2 ⟨M2, G2, h⟩ => ⟨kd.length - (n + 1), by omega, rfl, hlt, M2, G2, h⟩, fun x H2 hy => ?_⟩
          obtain ⟨rfl, k1, v1, hx1, rfl⟩ := hy
          obtain ⟨u1, hu1, au1⟩ := (KvAt.mono e' lx).get (i := n) (k := (kd[n]).1) (s := .d (kd[n]).2) (by unfold slK; rw [List.getElem?_map, List.getElem?_eq_getElem hlt]; rfl)
          rw [hx1] at hu1
          have hu2 := Option.some.inj hu1
          have ek : k1 = (kd[n]).1 := (Prod.mk.inj hu2).1
          have ak : At X.K G' (kV k1) (kD (kd[n]).1) := by
            rw [← ek]
            cases k1 with
            | inl z => exact .int z
            | inr z => exact .str z
          refine turn (dd, od, .dK xs) ⟨xs, rfl⟩ n (kd[n]).1 (kd[n]).2 M' (List.getElem?_eq_getElem hlt) iv _ G' H2 _ _ ((gs.mono e').wipe vs) g' (.d ak) fun τ3 M3 σ3 G3 H3 q3 e3 g3 s3 z3 => ?_
          refine ⟨z3.trans wipe_wipe, ?_⟩
          have e13 := e'.trans e3
          unfold tYes
          dsimp only
          rw [if_pos rfl]
          refine web (X := X) (scope := scope) (e := elt) q3 σ3 G3 H3 _ s3 g3 fun z M5 v5 G5 H5 ⟨acc, hacc, hl5, iv5⟩ e5 g5 a5 => ?_
          obtain ⟨f5, ys, h1, h2⟩ := g5.cell D _ hacc
          refine ⟨ys, h1, by rw [h2.len]; exact hl5, _, G5, iv5, e13.trans e5, ?_⟩
          exact g5.write hacc h1 (fun _ _ z => nomatch z) ⟨_, upd_same, h2.append (.cons a5 .nil)⟩
        · have e : n = kd.length := by omega
          subst e
          exact .inl ⟨⟨hd', by rw [hl]; exact Nat.le_refl _⟩, fin M' G' H' iv e' g'⟩
/-- [elt for tg in d] -/
theorem de_lcKeysN (hc : X.calm = true) (hN : X.N.Nodup) (ok : BlkOk X.N X.env.scope scope own) (hg : ∀ (s : Shared) (H : Hp) (C : Addr) (cl : List (Str × Addr)) (fp : List Addr), PG (X.blk s H scope (compEnvC scope cl C X.env) fp) tg g)
    (hL : NoDK L) (hi : X.N[i]? = some nm) (hv : Vis X.env.scope nm) (ht : τ[i]? = some (some (.d (.dict (encK kd)))))
    (w : ∀ D, M D = none → ∃ Iv : Nat → Cs → Prop, Iv 0 (updC M D (.l [])) ∧ (∀ x, (∃ xs, x.2.2 = HO.dK xs) → ∀ n k d M', kd[n]? = some (k, d) → Iv n M' →
      WGw X.K (x :: L) (own.map (·.2)) g (.d (kD k)) (wipeK τ (own.map (·.2))) M' fun τ2 M3 => DEb X scope (x :: L) elt τ2 M3 fun z M5 => ∃ acc, M5 D = some (.l acc) ∧ acc.length < sizeLine ∧ Iv (n + 1) (updC M5 D (.l (acc ++ [z])))) ∧ (∀ M', Iv kd.length M' → Q (.c D) M'))
    (hd : (nm == ("__debug__" : Str)) = false := by decide) (hcd : (nm == ("__classdict__" : Str)) = false := by decide) (hs : ∀ x, foldedSetIterable (.Name nm p0) X.env x = pure x := by intro _; rfl) : DE X L (.ListComp elt [⟨tg, .Name nm p0, [], 0⟩] scope pos) τ M Q :=
  de_of (pe_lock (pe_lc (te := bE X scope elt) (tt := tYes) hc hN (pi_keys (pe_var hi hv hd hcd)) ok hg (fun _ _ _ _ _ => pts_nil) (fun s H C cl fp => ⟨fun pins s' σ H' Q' I h => h s H C cl fp pins s' I⟩) hs)) fun σ G H Q' gs gm k => by
    obtain ⟨v, hσ, av⟩ := gs.get i _ ht
    cases av with
    | d av =>
      generalize hz : encK kd = zs at av
      cases av with
      | dic hG l =>
        rename_i dd xs
        subst hz
        have lx := AtK.kv kd l
        have hx := lock_exact gm hL hG
        have hne := lock_ne gm hL hG
        refine ⟨dd, .dK xs, hx, trivial, fun od => ?_⟩
        have gmL := gm.lock (od := od) hL hG
        refine lcN_run (kd := kd) gs gmL hσ lx fun D hD => ?_
        obtain ⟨Iv, i0, turn, fin⟩ := w D hD
        exact ⟨Iv, i0, turn, fun M' G' H' iv e' g' => ⟨g'.lk _ List.mem_cons_self, k _ M' _ G' _ (fin _ iv) e' (g'.unlock hne (e' _ _ hG)) (.c D)⟩⟩
end
end Y

namespace Y
open PySem L2 PyProof.Rows
section
variable {X : Cx} {L : Lk} {τ : List (Option Sl)} {M : Cs} {elt tg iter c : Expr} {scope : Scope} {own : List (Str × Nat)} {pos spos py : Pos} {g : TG} {E : Ks} {i : Nat} {y : Str}
theorem ds_setLc0 (hc : X.calm = true) (hN : X.N.Nodup) (hy : X.N[i]? = some y) (hyl : X.env.scope.names.lookup y = some .local)
    (hsw : swapsWith (.ListComp elt [⟨tg, iter, [], 0⟩] scope pos) (some (.Name y py)) spos.line X.env = pure true) (ok : BlkOk X.N X.env.scope scope own) (hg : ∀ (s : Shared) (H : Hp) (C : Addr) (cl : List (Str × Addr)) (fp : List Addr), PG (X.blk s H scope (compEnvC scope cl C X.env) fp) tg g)
    (w : DI X L tg iter τ M fun n S ys M1 => ∀ D, M1 D = none → ∃ Iv : Nat → Cs → Prop, Iv 0 (updC M1 D (.l [])) ∧ (∀ i M', Iv i M' → S M') ∧
      (∀ i y M', i < n → ys i y → Iv i M' → WGw X.K L (own.map (·.2)) g y (wipeK τ (own.map (·.2))) M' fun τ2 M3 => DEb X scope L elt τ2 M3 fun z M4 => ∃ acc, M4 D = some (.l acc) ∧ acc.length < sizeLine ∧ Iv (i + 1) (updC M4 D (.l (acc ++ [z])))) ∧ (∀ M', Iv n M' → E.nx (τ.set i (some (.c D))) M'))
    (hs : ∀ x, foldedSetIterable iter X.env x = pure x := by intro _; rfl) : DS X L (.Assign [.Name y py] (.ListComp elt [⟨tg, iter, [], 0⟩] scope pos) spos) τ M E := by
  refine ds_of (ps_setLc (te := bE X scope elt) (tt := tYes) hc hN hy hyl hsw pi_s ok hg (fun _ _ _ _ _ => pts_nil) (fun s H C cl fp => ⟨fun pins s' σ H' Q' I h => h s H C cl fp pins s' I⟩) hs) fun σ G H D gs gm k => ?_
  refine we_lc (L := L) (M := M) (τ := τ) (Q := fun s M' => E.nx (τ.set i (some s)) M') (fun σ G H R gs gm k => w σ G H R gs gm fun n S ys M1 G1 H1 J q e1 g1 ok => k n S ys M1 G1 H1 J (fun D hD => ?_) e1 g1 ok) σ G H _ gs gm (fun s M1 v G1 H1 q e1 g1 a1 => (k.nx.mono e1).go q g1 ((gs.mono e1).set a1 i))
  obtain ⟨Iv, i0, st, turn, fin⟩ := q D hD
  refine ⟨Iv, i0, st, fun i y M' hi yy iv => ?_, fin⟩
  intro σ G H v Q' gs gm a k
  refine turn i y M' hi yy iv σ G H v Q' gs gm a fun τ' M' σ' G' H' h => k τ' M' σ' G' H' ?_
  intro σ G H Q' gs gm k
  exact k.go (b := true) ⟨fun _ => web (X := X) (scope := scope) h, fun z => nomatch z⟩ gm
end
section
variable {X : Cx} {L : Lk} {τ : List (Option Sl)} {M : Cs} {Q : Sl → Cs → Prop} {elt kx vx tg c : Expr} {scope : Scope} {own : List (Str × Nat)} {pos p0 apos mpos : Pos} {g : TG} {i : Nat} {nm : Str} {kd : List (Key × PyData)}
/-- y = [elt for tg in d if c] -/
theorem ds_setLcKeys {j : Nat} {y : Str} {py spos : Pos} {E : Ks} (hc : X.calm = true) (hN : X.N.Nodup) (hy : X.N[j]? = some y) (hyl : X.env.scope.names.lookup y = some .local)
    (hsw : swapsWith (.ListComp elt [⟨tg, .Name nm p0, [c], 0⟩] scope pos) (some (.Name y py)) spos.line X.env = pure true) (ok : BlkOk X.N X.env.scope scope own) (hg : ∀ (s : Shared) (H : Hp) (C : Addr) (cl : List (Str × Addr)) (fp : List Addr), PG (X.blk s H scope (compEnvC scope cl C X.env) fp) tg g)
    (hL : NoDK L) (hi : X.N[i]? = some nm) (hv : Vis X.env.scope nm) (ht : τ[i]? = some (some (.d (.dict (encK kd)))))
    (w : ∀ D, M D = none → ∃ Iv : Nat → Cs → Prop, Iv 0 (updC M D (.l [])) ∧ (∀ x, (∃ xs, x.2.2 = HO.dK xs) → ∀ n k d M', kd[n]? = some (k, d) → Iv n M' →
      WGw X.K (x :: L) (own.map (·.2)) g (.d (kD k)) (wipeK τ (own.map (·.2))) M' fun τ2 M3 => DTb X scope (x :: L) c τ2 M3 fun b M4 => (b = true → DEb X scope (x :: L) elt τ2 M4 fun z M5 => ∃ acc, M5 D = some (.l acc) ∧ acc.length < sizeLine ∧ Iv (n + 1) (updC M5 D (.l (acc ++ [z])))) ∧ (b = false → Iv (n + 1) M4)) ∧ (∀ M', Iv kd.length M' → E.nx (τ.set j (some (.c D))) M'))
    (hd : (nm == ("__debug__" : Str)) = false := by decide) (hcd : (nm == ("__classdict__" : Str)) = false := by decide)
    (hs : ∀ x, foldedSetIterable (.Name nm p0) X.env x = pure x := by intro _; rfl) : DS X L (.Assign [.Name y py] (.ListComp elt [⟨tg, .Name nm p0, [c], 0⟩] scope pos) spos) τ M E :=
  ds_of (ps_lock (ps_setLc (te := bE X scope elt) (tt := bT X scope c) hc hN hy hyl hsw (pi_keys (pe_var hi hv hd hcd)) ok hg (fun s H C cl fp => pts_one ⟨fun pins s' σ H' Q' I h => h s H C cl fp pins s' I⟩) (fun s H C cl fp => ⟨fun pins s' σ H' Q' I h => h s H C cl fp pins s' I⟩) hs)) fun σ G H D0 gs gm k => by
    obtain ⟨v, hσ, av⟩ := gs.get i _ ht
    cases av with
    | d av =>
      generalize hz : encK kd = zs at av
      cases av with
      | dic hG l =>
        rename_i dd xs
        subst hz
        have lx := AtK.kv kd l
        have hx := lock_exact gm hL hG
        have hne := lock_ne gm hL hG
        refine ⟨dd, .dK xs, hx, trivial, fun od => ?_⟩
        have gmL := gm.lock (od := od) hL hG
        refine lcK_run (kd := kd) gs gmL hσ lx fun D hD => ?_
        obtain ⟨Iv, i0, turn, fin⟩ := w D hD
        exact ⟨Iv, i0, turn, fun M' G' H' iv e' g' => ⟨g'.lk _ List.mem_cons_self, k.nx _ M' _ G' _ (fin _ iv) e' (g'.unlock hne (e' _ _ hG)) ((gs.mono e').set (.c D) j)⟩⟩
theorem lcI_run {σ : L2.St} {G HL : Hp} {Q2 : VK} {dd : Addr} {od : Obj} {xs : List (Key × V)} {vs : List Nat} (gs : GoodS X.K G σ τ) (gmL : GoodM X.K ((dd, od, .dK xs) :: L) M G HL) (hσ : σ[i]? = some (some (.ref dd))) (lx : KvAt X.K G xs (slK kd))
    (w : ∀ D, M D = none → ∃ Iv : Nat → Cs → Prop, Iv 0 (updC M D (.l [])) ∧ (∀ x, (∃ xs, x.2.2 = HO.dK xs) → ∀ n k d M', kd[n]? = some (k, d) → Iv n M' →
      WGw X.K (x :: L) vs g (.u [.d (kD k), .d d]) (wipeK τ vs) M' fun τ2 M3 => DTb X scope (x :: L) c τ2 M3 fun b M4 => (b = true → DEb X scope (x :: L) elt τ2 M4 fun z M5 => ∃ acc, M5 D = some (.l acc) ∧ acc.length < sizeLine ∧ Iv (n + 1) (updC M5 D (.l (acc ++ [z])))) ∧ (b = false → Iv (n + 1) M4)) ∧
      (∀ M' G' H', Iv kd.length M' → Ex G G' → GoodM X.K ((dd, od, .dK xs) :: L) M' G' H' → Q2 (.ref D) H')) : tLc (iItems (tVar i)) g (bT X scope c) (bE X scope elt) vs σ HL Q2 := by
        have hx0 : HL dd = some (.frz od (.dK xs)) := gmL.lk _ List.mem_cons_self
        refine ⟨.ref dd, hσ, dd, od, xs, rfl, hx0, fun D hD => ?_⟩
        obtain ⟨Iv, i0, turn, fin⟩ := w D (gmL.free hD).2
        have hl : xs.length = kd.length := by rw [lx.len]; simp [slK]
        refine ⟨fun n m H' => m = kd.length - n ∧ n ≤ kd.length ∧ ∃ M' G', Iv n M' ∧ Ex G G' ∧ GoodM X.K ((dd, od, .dK xs) :: L) M' G' H', ⟨kd.length, by simp, Nat.zero_le _, _, G, i0, Ex.refl _, gmL.newC hD ⟨[], upd_same, .nil⟩⟩, ?_⟩
        rintro n m H' ⟨rfl, hn, M', G', iv, e', g'⟩
        have hd' : H' dd = some (.frz od (.dK xs)) := g'.lk _ List.mem_cons_self
        by_cases hlt : n < kd.length
        · refine .inr ⟨⟨hd', by rw [hl]; exact hlt⟩, fun H2 => ∃ M2 G2, Iv (n + 1) M2 ∧ Ex G G2 ∧ GoodM X.K ((dd, od, .dK xs) :: L) M2 G2 H2, fun H2 ⟨M2, G2, h⟩ => ⟨kd.length - (n + 1), by omega, rfl, hlt, M2, G2, h⟩, fun x H2 hy => ?_⟩
          obtain ⟨T, k1, v1, hx1, rfl, nT, rfl⟩ := hy
          obtain ⟨u1, hu1, au1⟩ := (KvAt.mono e' lx).get (i := n) (k := (kd[n]).1) (s := .d (kd[n]).2) (by unfold slK; rw [List.getElem?_map, List.getElem?_eq_getElem hlt]; rfl)
          rw [hx1] at hu1
          have hu2 := Option.some.inj hu1
          have f := g'.free nT
          have ek : k1 = (kd[n]).1 := (Prod.mk.inj hu2).1
          have ev : v1 = u1 := (Prod.mk.inj hu2).2
          subst ev
          have ak : At X.K (upd G' T (.tup [kV k1, v1])) (kV k1) (kD (kd[n]).1) := by
            rw [← ek]
            cases k1 with
            | inl z => exact .int z
            | inr z => exact .str z
          have e2 := Ex.new (G := G') (o := .tup [kV k1, v1]) f.1
          refine turn (dd, od, .dK xs) ⟨xs, rfl⟩ n (kd[n]).1 (kd[n]).2 M' (List.getElem?_eq_getElem hlt) iv _ _ _ _ _ ((gs.mono (e'.trans e2)).wipe vs) (g'.newD nT) (.u upd_same (.cons (.d ak) (.cons (au1.mono e2) .nil))) fun τ3 M3 σ3 G3 H3 q3 e3 g3 s3 z3 => ?_
          refine ⟨z3.trans wipe_wipe, ?_⟩
          have e13 := (e'.trans e2).trans e3
          refine wtb (X := X) (scope := scope) (e := c) q3 σ3 G3 H3 _ s3 g3 fun b M4 G4 H4 q4 e4 g4 => ?_
          cases b with
          | true =>
            rw [if_pos rfl]
            refine web (X := X) (scope := scope) (e := elt) (q4.1 rfl) σ3 G4 H4 _ (s3.mono e4) g4 fun z M5 v5 G5 H5 ⟨acc, hacc, hl5, iv5⟩ e5 g5 a5 => ?_
            obtain ⟨f5, ys, h1, h2⟩ := g5.cell D _ hacc
            refine ⟨ys, h1, by rw [h2.len]; exact hl5, _, G5, iv5, (e13.trans e4).trans e5, ?_⟩
            exact g5.write hacc h1 (fun _ _ z => nomatch z) ⟨_, upd_same, h2.append (.cons a5 .nil)⟩
          | false =>
            rw [if_neg Bool.false_ne_true]
            exact ⟨M4, G4, q4.2 rfl, e13.trans e4, g4⟩
        · have e : n = kd.length := by omega
          subst e
          exact .inl ⟨⟨hd', by rw [hl]; exact Nat.le_refl _⟩, fin M' G' H' iv e' g'⟩
/-- [elt for tg in d.items() if c] -/
theorem de_lcItems {elts : List Expr} {kk : Nat} {tpos : Pos} (hc : X.calm = true) (hN : X.N.Nodup) (ok : BlkOk X.N X.env.scope scope own) (hg : ∀ (s : Shared) (H : Hp) (C : Addr) (cl : List (Str × Addr)) (fp : List Addr), PG (X.blk s H scope (compEnvC scope cl C X.env) fp) (.Tuple elts kk tpos) g)
    (hL : NoDK L) (hi : X.N[i]? = some nm) (hv : Vis X.env.scope nm) (ht : τ[i]? = some (some (.d (.dict (encK kd)))))
    (w : ∀ D, M D = none → ∃ Iv : Nat → Cs → Prop, Iv 0 (updC M D (.l [])) ∧ (∀ x, (∃ xs, x.2.2 = HO.dK xs) → ∀ n k d M', kd[n]? = some (k, d) → Iv n M' →
      WGw X.K (x :: L) (own.map (·.2)) g (.u [.d (kD k), .d d]) (wipeK τ (own.map (·.2))) M' fun τ2 M3 => DTb X scope (x :: L) c τ2 M3 fun b M4 => (b = true → DEb X scope (x :: L) elt τ2 M4 fun z M5 => ∃ acc, M5 D = some (.l acc) ∧ acc.length < sizeLine ∧ Iv (n + 1) (updC M5 D (.l (acc ++ [z])))) ∧ (b = false → Iv (n + 1) M4)) ∧ (∀ M', Iv kd.length M' → Q (.c D) M'))
    (hd : (nm == ("__debug__" : Str)) = false := by decide) (hcd : (nm == ("__classdict__" : Str)) = false := by decide)
    (hbase : attributeBase (.Name nm p0) "items" X.env (eval (.Name nm p0) X.env) = eval (.Name nm p0) X.env := by rfl) (hline : (apos.endLine == mpos.line) = true := by rfl)
    (hs : ∀ x, foldedSetIterable (.Call (.Attribute (.Name nm p0) "items" apos) [] [] mpos) X.env x = pure x := by intro _; rfl) : DE X L (.ListComp elt [⟨.Tuple elts kk tpos, .Call (.Attribute (.Name nm p0) "items" apos) [] [] mpos, [c], 0⟩] scope pos) τ M Q :=
  de_of (pe_lock (pe_lc (te := bE X scope elt) (tt := bT X scope c) hc hN (pi_items (pe_var hi hv hd hcd) hbase hline) ok hg (fun s H C cl fp => pts_one ⟨fun pins s' σ H' Q' I h => h s H C cl fp pins s' I⟩) (fun s H C cl fp => ⟨fun pins s' σ H' Q' I h => h s H C cl fp pins s' I⟩) hs)) fun σ G H Q' gs gm k => by
    obtain ⟨v, hσ, av⟩ := gs.get i _ ht
    cases av with
    | d av =>
      generalize hz : encK kd = zs at av
      cases av with
      | dic hG l =>
        rename_i dd xs
        subst hz
        have lx := AtK.kv kd l
        have hx := lock_exact gm hL hG
        have hne := lock_ne gm hL hG
        refine ⟨dd, .dK xs, hx, trivial, fun od => ?_⟩
        have gmL := gm.lock (od := od) hL hG
        refine lcI_run (kd := kd) gs gmL hσ lx fun D hD => ?_
        obtain ⟨Iv, i0, turn, fin⟩ := w D hD
        exact ⟨Iv, i0, turn, fun M' G' H' iv e' g' => ⟨g'.lk _ List.mem_cons_self, k _ M' _ G' _ (fin _ iv) e' (g'.unlock hne (e' _ _ hG)) (.c D)⟩⟩
end
section
variable {X : Cx} {L : Lk} {τ : List (Option Sl)} {M : Cs} {Q : Sl → Cs → Prop} {e a b c o tg iter : Expr} {es : List Expr} {pos apos cpos pos' p0 : Pos} {E : Ks} {st : Stmt} {sts body : List Stmt} {nm : Str} {i : Nat}
/-- for k in d, d a name that holds data -/
theorem ds_forKeysL {kd : List (Key × PyData)} (hp : PassesOwn (model X.prog X.w) X.A X.env X.xe) (hc : X.calm = true) (hL : NoDK L) (hN : X.N[i]? = some nm) (hv : Vis X.env.scope nm) (ht : τ[i]? = some (some (.d (.dict (encK kd)))))
    (Iv : Nat → List (Option Sl) → Cs → Prop) (i0 : Iv 0 τ M)
    (turn : ∀ x, (∃ xs, x.2.2 = HO.dK xs ∧ xs.length = kd.length) → ∀ n k d τ' M', kd[n]? = some (k, d) → Iv n τ' M' → DG X (x :: L) tg (.d (kD k)) τ' M' fun τ2 M2 => DB X (x :: L) body τ2 M2 { E with nx := Iv (n + 1), ct := Iv (n + 1), bk := E.nx })
    (fin : ∀ τ' M', Iv kd.length τ' M' → E.nx τ' M')
    (hd : (nm == ("__debug__" : Str)) = false := by decide) (hcd : (nm == ("__classdict__" : Str)) = false := by decide)
    (hs : ∀ x, foldedSetIterable (.Name nm p0) X.env x = pure x := by intro _; rfl) : DS X L (.For tg (.Name nm p0) body [] pos) τ M E :=
  ds_of (ps_lock (ps_for hp hc (pi_keys (pe_var hN hv hd hcd)) pg_s pss_s hs)) fun σ G H D gs gm k => by
    obtain ⟨v, hσ, av⟩ := gs.get i _ ht
    cases av with
    | d av =>
      generalize hz : encK kd = zs at av
      cases av with
      | dic hG l =>
        rename_i dd xs
        subst hz
        have lx := AtK.kv kd l
        have hx := lock_exact gm hL hG
        have hne := lock_ne gm hL hG
        refine ⟨dd, .dK xs, hx, trivial, fun od => ?_⟩
        have gmL := gm.lock (od := od) hL hG
        have kL : EndsOk X.K ((dd, od, .dK xs) :: L) G E ⟨fun σ' H' => H' dd = some (.frz od (.dK xs)) ∧ D.nx σ' (upd H' dd (.dK xs)), fun v H' => H' dd = some (.frz od (.dK xs)) ∧ D.rt v (upd H' dd (.dK xs)), fun σ' H' => H' dd = some (.frz od (.dK xs)) ∧ D.bk σ' (upd H' dd (.dK xs)), fun σ' H' => H' dd = some (.frz od (.dK xs)) ∧ D.ct σ' (upd H' dd (.dK xs))⟩ :=
          ⟨fun τ' M' σ' G' H' q e g s => ⟨g.lk _ List.mem_cons_self, k.nx _ _ _ G' _ q e (g.unlock hne (e _ _ hG)) s⟩, fun s M' v G' H' q e g a => ⟨g.lk _ List.mem_cons_self, k.rt _ _ _ G' _ q e (g.unlock hne (e _ _ hG)) a⟩,
            fun τ' M' σ' G' H' q e g s => ⟨g.lk _ List.mem_cons_self, k.bk _ _ _ G' _ q e (g.unlock hne (e _ _ hG)) s⟩, fun τ' M' σ' G' H' q e g s => ⟨g.lk _ List.mem_cons_self, k.ct _ _ _ G' _ q e (g.unlock hne (e _ _ hG)) s⟩⟩
        refine ⟨.ref dd, hσ, dd, od, rfl, .inl ⟨xs, upd_same, ?_⟩⟩
        refine ⟨fun n m σ' H' => m = kd.length - n ∧ n ≤ kd.length ∧ ∃ τ' M' G', Iv n τ' M' ∧ Ex G G' ∧ GoodS X.K G' σ' τ' ∧ GoodM X.K ((dd, od, .dK xs) :: L) M' G' H', ⟨kd.length, by simp, Nat.zero_le _, τ, M, G, i0, Ex.refl _, gs, gmL⟩, ?_⟩
        rintro n m σ' H' ⟨rfl, hn, τ', M', G', iv, e', s', g'⟩
        have hl : xs.length = kd.length := by rw [lx.len]; simp [slK]
        have hd' : H' dd = some (.frz od (.dK xs)) := g'.lk _ List.mem_cons_self
        by_cases hlt : n < kd.length
        · refine .inr ⟨⟨hd', by rw [hl]; exact hlt⟩, fun σ2 H2 => ∃ τ2 M2 G2, Iv (n + 1) τ2 M2 ∧ Ex G G2 ∧ GoodS X.K G2 σ2 τ2 ∧ GoodM X.K ((dd, od, .dK xs) :: L) M2 G2 H2, fun σ2 H2 ⟨τ2, M2, G2, h⟩ => ⟨kd.length - (n + 1), by omega, rfl, hlt, τ2, M2, G2, h⟩, fun x H2 hy => ?_⟩
          obtain ⟨rfl, k1, v1, hx1, rfl⟩ := hy
          obtain ⟨u1, hu1, au1⟩ := (KvAt.mono e' lx).get (i := n) (k := (kd[n]).1) (s := .d (kd[n]).2) (by unfold slK; rw [List.getElem?_map, List.getElem?_eq_getElem hlt]; rfl)
          rw [hx1] at hu1
          have hu2 := Option.some.inj hu1
          have ek : k1 = (kd[n]).1 := (Prod.mk.inj hu2).1
          have ak : At X.K G' (kV k1) (kD (kd[n]).1) := by
            rw [← ek]
            cases k1 with
            | inl z => exact .int z
            | inr z => exact .str z
          refine turn (dd, od, .dK xs) ⟨xs, rfl, hl⟩ n (kd[n]).1 (kd[n]).2 τ' M' (List.getElem?_eq_getElem hlt) iv σ' _ _ _ _ s' g' (.d ak) fun τ3 M3 σ3 G3 H3 q3 e3 g3 s3 => ?_
          have e13 := e'.trans e3
          exact q3 σ3 G3 H3 _ s3 g3 ⟨fun τ4 M4 σ4 G4 H4 q4 e4 g4 s4 => ⟨τ4, M4, G4, q4, e13.trans e4, s4, g4⟩, kL.rt.mono e13, kL.nx.mono e13, fun τ4 M4 σ4 G4 H4 q4 e4 g4 s4 => ⟨τ4, M4, G4, q4, e13.trans e4, s4, g4⟩⟩
        · have e : n = kd.length := by omega
          subst e
          exact .inl ⟨⟨hd', by rw [hl]; exact Nat.le_refl _⟩, kL.nx τ' M' σ' G' H' (fin _ _ iv) e' g' s'⟩
end
end Y

namespace Y
open PySem L2 PyProof.Rows
/-! sorted(xs), the items data that are alike -/
theorem each_ix {α β : Type} {R : α → β → Prop} : ∀ {xs : List α} {bs : List β}, xs.length = bs.length → (∀ (i : Nat) x b, xs[i]? = some x → bs[i]? = some b → R x b) → PySem.W.EachIs R xs bs
  | [], [], _, _ => .nil
  | x :: xs, b :: bs, h, f => .cons (f 0 x b rfl rfl) (each_ix (by simpa using h) fun i y c h1 h2 => f (i + 1) y c h1 h2)
  | [], _ :: _, h, _ => by simp at h
  | _ :: _, [], h, _ => by simp at h
theorem vals_ix : ∀ {xs : List V} {us : List Value}, Vals xs us → ∀ {i : Nat} {u : Value}, us[i]? = some u → ∃ x, xs[i]? = some x ∧ RelV x u
  | _, _, .cons h t, 0, u, e => by cases e; exact ⟨_, rfl, h⟩
  | _, _, .cons h t, i + 1, u, e => vals_ix t e
  | _, _, .nil, _, _, e => by simp at e
theorem sl_ix {K : PySem.W.Frag} {G : Hp} : ∀ {xs : List V} {ss : List Sl}, xs.length = ss.length → (∀ (i : Nat) x s, xs[i]? = some x → ss[i]? = some s → SlAt K G x s) → SlL K G xs ss
  | [], [], _, _ => .nil
  | x :: xs, b :: bs, h, f => .cons (f 0 x b rfl rfl) (sl_ix (by simpa using h) fun i y c h1 h2 => f (i + 1) y c h1 h2)
  | [], _ :: _, h, _ => by simp at h
  | _ :: _, [], h, _ => by simp at h
section
variable {X : Cx} {β : Type}
def rSortD (K : PySem.W.Frag) (enc : β → PyData) : List V → Hp → VK → Prop := fun vs H Q => ∃ (a : Addr) (xs : List V) (bs : List β), vs = [V.ref a] ∧ SqL K H a xs ∧ xs.length = bs.length ∧ (∀ (i : Nat) x b, xs[i]? = some x → bs[i]? = some b → Dp K H x (enc b)) ∧ PySem.W.AllAlike (bs.map enc) ∧ PySem.W.Sortable (bs.map enc) ∧ bs.length ≤ sizeLine ∧ (∀ b ∈ bs, (enc b).depth ≤ 50) ∧
  ∀ (ys : List V) (p : Addr), ys.length = bs.length → (∀ (i : Nat) y b, ys[i]? = some y → (bs.mergeSort (PySem.W.dataLe false enc))[i]? = some b → ∃ j : Nat, xs[j]? = some y ∧ bs[j]? = some b) → H p = none → Q (.ref p) (upd H p (.lst ys))
theorem cr_sortD {enc : β → PyData} (hu : X.A.units + 64 < cLine) : CallR X (.builtin "sorted") (rSortD X.K enc) := by
  intro pins s σ H vs us Q I r h
  obtain ⟨a, xs, bs, rfl, hs, hlen, hdp, hal, hso, hL, hdep, q⟩ := h
  obtain ⟨its, rv, hl, _⟩ := I.list hs
  rw [Vals.ref1 r]
  have li : its.length = bs.length := by rw [← rv.length, hlen]
  have e : PySem.W.EachIs (fun (v : Value) (b : β) => ∃ (j : Nat) (x : V), xs[j]? = some x ∧ bs[j]? = some b ∧ RelV x v) its bs := each_ix li fun i v b h1 h2 => by
    obtain ⟨x, hx, rx⟩ := vals_ix rv h1
    exact ⟨i, x, hx, h2, rx⟩
  have er : PySem.W.EachIs (fun (v : Value) (b : β) => ∃ as, Reads s.heap v (enc b) as) its bs := each_ix li fun i v b h1 h2 => by
    obtain ⟨x, hx, rx⟩ := vals_ix rv h1
    exact Dp.reads I (enc b) x v (hdp i x b hx h2) rx
  refine PySem.W.sorted_data hl.isList e er hal hso hL (fun b hb => by have := hdep b hb; omega) fun out hout eo => ?_
  have key : ∀ {out : List Value} {cs : List β}, PySem.W.EachIs (fun (v : Value) (b : β) => ∃ (j : Nat) (x : V), xs[j]? = some x ∧ bs[j]? = some b ∧ RelV x v) out cs → ∃ ys : List V, Vals ys out ∧ ∀ (i : Nat) y b, ys[i]? = some y → cs[i]? = some b → ∃ j : Nat, xs[j]? = some y ∧ bs[j]? = some b := by
    intro out cs h
    induction h with
    | nil => exact ⟨[], .nil, fun i y b h => by simp at h⟩
    | cons h1 _ ih =>
      obtain ⟨j, x, hx, hb, rx⟩ := h1
      obtain ⟨ys, hv, hy⟩ := ih
      refine ⟨x :: ys, .cons rx hv, fun i y b h1 h2 => ?_⟩
      cases i with
      | zero =>
        cases h1
        cases h2
        exact ⟨j, hx, hb⟩
      | succ i => exact hy i y b h1 h2
  obtain ⟨ys, hv, hy⟩ := key eo
  obtain ⟨ep, he'⟩ := PyProof.Rows.sortedAll_at s.heap its (List.toArray out)
  have hly : ys.length = bs.length := by rw [hv.length, hout]
  exact ⟨.ref _, upd H (s.heap.objs.size + 1) (.lst ys), I.laid (t' := s.toks) (fun _ _ => PyProof.Rows.sortedAll_old) (Nat.le_succ _) ⟨by rw [hly]; exact hL, out, ep, hv, he'⟩, rfl, q ys _ hly hy (I.hok.fresh (Nat.le_succ _))⟩
end
section
variable {X : Cx} {L : Lk} {M : Cs} {Q : Sl → Cs → Prop} {s : Sl} {β : Type}
theorem k_sortD {enc : β → PyData} {bs : List β} (hT : isTup s = false) (h : seqOf M s = some (bs.map fun b => .d (enc b))) (hal : PySem.W.AllAlike (bs.map enc)) (hso : PySem.W.Sortable (bs.map enc)) (hL : bs.length ≤ sizeLine) (hcan : ∀ b ∈ bs, (enc b).canLay0 = true) (hdep : ∀ b ∈ bs, (enc b).depth ≤ 50)
    (q : ∀ p, M p = none → Q (.c p) (updC M p (.l ((bs.mergeSort (PySem.W.dataLe false enc)).map fun b => .d (enc b))))) : RCk X.K L (rSortD X.K enc) [s] M Q := fun G H vs Q' g a k => by
  obtain ⟨v, rfl, a1⟩ := sl1 a
  obtain ⟨p, xs, rfl, r, l⟩ := seq_at g a1 h
  rw [hT, if_neg Bool.false_ne_true] at r
  have at_ : ∀ (i : Nat) x b, xs[i]? = some x → bs[i]? = some b → SlAt X.K G x (.d (enc b)) := fun i x b h1 h2 => by
    obtain ⟨y, hy, ay⟩ := l.get (i := i) (by rw [List.getElem?_map, h2]; rfl)
    rw [h1] at hy
    cases hy
    exact ay
  refine ⟨p, xs, bs, rfl, r, by rw [l.len, List.length_map], fun i x b h1 h2 => ?_, hal, hso, hL, hdep, fun ys c hly hy hc => ?_⟩
  · have := at_ i x b h1 h2
    cases this with
    | d z => exact At.dp g _ _ (hcan b (List.mem_of_getElem? h2)) z
  · refine k _ _ _ G _ (q c (g.free hc).2) (Ex.refl G) (g.newC hc ⟨_, upd_same, sl_ix (by rw [hly, List.length_map, List.length_mergeSort]) fun i x t h1 h2 => ?_⟩) (.c c)
    rw [List.getElem?_map] at h2
    obtain ⟨b, hb, rfl⟩ := Option.map_eq_some_iff.mp h2
    obtain ⟨j, h3, h4⟩ := hy i x b h1 hb
    exact at_ j x b h3 h4
end
end Y

namespace Y
open PySem L2 PyProof.Rows
/-! x in xs, x not in xs, both data without dicts -/
section
variable {X : Cx}
def rMemL (K : PySem.W.Frag) (neg : Bool) : R2 := fun x y H Q => ∃ (d : PyData) (ds : List PyData), Dp K H x d ∧ Dp K H y (.list ds) ∧ d.canLay0 = true ∧ PyData.canLayAll0 ds = true ∧ d.depth ≤ 50 ∧ Q (.bl (if neg then !(ds.any fun e => PyData.eqv e d) else ds.any fun e => PyData.eqv e d)) H
theorem op_memL (hu : X.A.units + 64 < cLine) : OpR X (compareOp .In) (rMemL X.K false) := by
  intro pins s σ H x y v u Q I rx ry h
  obtain ⟨d, ds, hd, he, c1, c2, dp, q⟩ := h
  obtain ⟨as, r1⟩ := Dp.reads I d x v hd rx
  obtain ⟨bs, r2⟩ := Dp.reads I (.list ds) y u he ry
  exact SeqAt.in_list_data r2 r1 (PyData.plainAll_of_canLay0 _ c2) (PyData.plain_of_canLay0 _ c1) (by have := Nat.min_le_right (PyData.depthAll ds) d.depth; omega) ⟨.bl _, H, I, rfl, q⟩
theorem op_nmemL (hu : X.A.units + 64 < cLine) : OpR X (compareOp .NotIn) (rMemL X.K true) := by
  intro pins s σ H x y v u Q I rx ry h
  obtain ⟨d, ds, hd, he, c1, c2, dp, q⟩ := h
  obtain ⟨as, r1⟩ := Dp.reads I d x v hd rx
  obtain ⟨bs, r2⟩ := Dp.reads I (.list ds) y u he ry
  exact SeqAt.notIn_list_data r2 r1 (PyData.plainAll_of_canLay0 _ c2) (PyData.plain_of_canLay0 _ c1) (by have := Nat.min_le_right (PyData.depthAll ds) d.depth; omega) ⟨.bl _, H, I, rfl, q⟩
end
section
variable {X : Cx} {K : PySem.W.Frag} {L : Lk} {M : Cs} {Q : Sl → Cs → Prop} {x y : Sl} {d : PyData} {ds : List PyData}
theorem k_memL {neg : Bool} (hx : IsD M x d) (hy : IsD M y (.list ds)) (c1 : d.canLay0 = true) (c2 : PyData.canLayAll0 ds = true) (dp : d.depth ≤ 50) (q : Q (.d (.bool (if neg then !(ds.any fun e => PyData.eqv e d) else ds.any fun e => PyData.eqv e d))) M) : R2k K L (rMemL K neg) x y M Q := fun G H v u Q' g a1 a2 k =>
  ⟨d, ds, hx.dp g c1 a1, hy.dp g c2 a2, c1, c2, dp, k.go q g (.d (.bl _))⟩
end
end Y

namespace Y
open PySem L2 PyProof.Rows
/-! for k, v in E.items(), E any expression whose value is data -/
section
variable {X : Cx}
/-- ends that first let go of something locked -/
def UnlD (X : Cx) (D : Ends) : Ends :=
  ⟨fun σ' H' => ∃ d od u, H' d = some (.frz od u) ∧ (∀ o' u', X.H_0 d ≠ some (.frz o' u')) ∧ D.nx σ' (upd H' d u),
   fun v H' => ∃ d od u, H' d = some (.frz od u) ∧ (∀ o' u', X.H_0 d ≠ some (.frz o' u')) ∧ D.rt v (upd H' d u),
   fun σ' H' => ∃ d od u, H' d = some (.frz od u) ∧ (∀ o' u', X.H_0 d ≠ some (.frz o' u')) ∧ D.bk σ' (upd H' d u),
   fun σ' H' => ∃ d od u, H' d = some (.frz od u) ∧ (∀ o' u', X.H_0 d ≠ some (.frz o' u')) ∧ D.ct σ' (upd H' d u)⟩
theorem ps_unl {st : Stmt} {t : TS} (h : PS X st t) : PS X st (fun D σ H => t (UnlD X D) σ H) := by
  refine ⟨fun pins s σ H D I hw => ?_⟩
  refine thn (h.run pins s σ _ _ I hw) fun f s1 q => ?_
  cases f with
  | next => obtain ⟨σ', H', I2, d, od, u, e, hn, q⟩ := q; exact ⟨σ', _, I2.unlock e hn, q⟩
  | brk => obtain ⟨σ', H', I2, d, od, u, e, hn, q⟩ := q; exact ⟨σ', _, I2.unlock e hn, q⟩
  | cont => obtain ⟨σ', H', I2, d, od, u, e, hn, q⟩ := q; exact ⟨σ', _, I2.unlock e hn, q⟩
  | ret v => obtain ⟨x, σ', H', I2, r, d, od, u, e, hn, q⟩ := q; exact ⟨x, σ', _, I2.unlock e hn, r, q⟩
def tLockV (X : Cx) (t : TE) : TE := fun σ H Q => t σ H fun x H1 => ∃ d u, x = .ref d ∧ H1 d = some u ∧ Mut (some u) ∧ ∀ od, (∀ o' u', X.H_0 d ≠ some (.frz o' u')) → Q x (upd H1 d (.frz od u))
theorem pe_lockV {e : Expr} {t : TE} (h : PE X e t) : PE X e (tLockV X t) := by
  refine ⟨fun pins s σ H Q I hw => ?_⟩
  refine thn (h.run pins s σ _ _ I hw) fun v s1 ⟨x, H1, I1, r, q⟩ => ?_
  obtain ⟨d, u, ex, hd, mu, q⟩ := q
  obtain ⟨od, I2⟩ := I1.lock hd mu
  exact ⟨x, _, I2, r, q od (I1.nofrz hd mu)⟩
end
section
variable {X : Cx} {L : Lk} {τ : List (Option Sl)} {M : Cs} {e : Expr} {pos apos cpos p0 : Pos} {E : Ks} {body : List Stmt}
theorem ds_forItemsT {elts : List Expr} {kk : Nat} {tpos : Pos} (hp : PassesOwn (model X.prog X.w) X.A X.env X.xe) (hc : X.calm = true) (hL : NoDK L)
    (w : DE X L e τ M fun s M0 => ∃ (kd : List (Key × PyData)) (Iv : Nat → List (Option Sl) → Cs → Prop), s = .d (.dict (encK kd)) ∧ Iv 0 τ M0 ∧
      (∀ x, (∃ xs, x.2.2 = HO.dK xs) → ∀ n k d τ' M', kd[n]? = some (k, d) → Iv n τ' M' → DG X (x :: L) (.Tuple elts kk tpos) (.u [.d (kD k), .d d]) τ' M' fun τ2 M2 => DB X (x :: L) body τ2 M2 { E with nx := Iv (n + 1), ct := Iv (n + 1), bk := E.nx }) ∧
      (∀ τ' M', Iv kd.length τ' M' → E.nx τ' M'))
    (hbase : attributeBase e "items" X.env (eval e X.env) = eval e X.env := by rfl) (hline : (apos.endLine == cpos.line) = true := by rfl)
    (hs : ∀ x, foldedSetIterable (.Call (.Attribute e "items" apos) [] [] cpos) X.env x = pure x := by intro _; rfl) : DS X L (.For (.Tuple elts kk tpos) (.Call (.Attribute e "items" apos) [] [] cpos) body [] pos) τ M E :=
  ds_of (ps_unl (ps_for hp hc (pi_items (pe_lockV pe_s) hbase hline) pg_s pss_s hs)) fun σ G0 H0 D gs0 gm0 k => by
    refine w σ G0 H0 _ gs0 gm0 fun s M0 v G H ⟨kd, Iv, es, i0, turn, fin⟩ e1 gm av => ?_
    have gs := gs0.mono e1
    subst es
    cases av with
    | d av =>
      generalize hz : encK kd = zs at av
      cases av with
      | dic hG l =>
        rename_i dd xs
        subst hz
        have lx := AtK.kv kd l
        have hx := lock_exact gm hL hG
        have hne := lock_ne gm hL hG
        refine ⟨dd, .dK xs, rfl, hx, trivial, fun od hnf => ?_⟩
        have gmL := gm.lock (od := od) hL hG
        have kL : EndsOk X.K ((dd, od, .dK xs) :: L) G E (UnlD X D) :=
          ⟨fun τ' M' σ' G' H' q e g s => ⟨dd, od, .dK xs, g.lk _ List.mem_cons_self, hnf, k.nx _ _ _ G' _ q (e1.trans e) (g.unlock hne (e _ _ hG)) s⟩,
            fun s M' v G' H' q e g a => ⟨dd, od, .dK xs, g.lk _ List.mem_cons_self, hnf, k.rt _ _ _ G' _ q (e1.trans e) (g.unlock hne (e _ _ hG)) a⟩,
            fun τ' M' σ' G' H' q e g s => ⟨dd, od, .dK xs, g.lk _ List.mem_cons_self, hnf, k.bk _ _ _ G' _ q (e1.trans e) (g.unlock hne (e _ _ hG)) s⟩,
            fun τ' M' σ' G' H' q e g s => ⟨dd, od, .dK xs, g.lk _ List.mem_cons_self, hnf, k.ct _ _ _ G' _ q (e1.trans e) (g.unlock hne (e _ _ hG)) s⟩⟩
        refine ⟨dd, od, xs, rfl, upd_same, ?_⟩
        refine ⟨fun n m σ' H' => m = kd.length - n ∧ n ≤ kd.length ∧ ∃ τ' M' G', Iv n τ' M' ∧ Ex G G' ∧ GoodS X.K G' σ' τ' ∧ GoodM X.K ((dd, od, .dK xs) :: L) M' G' H', ⟨kd.length, by simp, Nat.zero_le _, τ, M0, G, i0, Ex.refl _, gs, gmL⟩, ?_⟩
        rintro n m σ' H' ⟨rfl, hn, τ', M', G', iv, e', s', g'⟩
        have hl : xs.length = kd.length := by rw [lx.len]; simp [slK]
        have hd' : H' dd = some (.frz od (.dK xs)) := g'.lk _ List.mem_cons_self
        by_cases hlt : n < kd.length
        · refine .inr ⟨⟨hd', by rw [hl]; exact hlt⟩, fun σ2 H2 => ∃ τ2 M2 G2, Iv (n + 1) τ2 M2 ∧ Ex G G2 ∧ GoodS X.K G2 σ2 τ2 ∧ GoodM X.K ((dd, od, .dK xs) :: L) M2 G2 H2, fun σ2 H2 ⟨τ2, M2, G2, h⟩ => ⟨kd.length - (n + 1), by omega, rfl, hlt, τ2, M2, G2, h⟩, fun x H2 hy => ?_⟩
          obtain ⟨T, k1, v1, hx1, rfl, nT, rfl⟩ := hy
          obtain ⟨u1, hu1, au1⟩ := (KvAt.mono e' lx).get (i := n) (k := (kd[n]).1) (s := .d (kd[n]).2) (by unfold slK; rw [List.getElem?_map, List.getElem?_eq_getElem hlt]; rfl)
          rw [hx1] at hu1
          have hu2 := Option.some.inj hu1
          have f := g'.free nT
          have ek : k1 = (kd[n]).1 := (Prod.mk.inj hu2).1
          have ev : v1 = u1 := (Prod.mk.inj hu2).2
          subst ev
          have ak : At X.K (upd G' T (.tup [kV k1, v1])) (kV k1) (kD (kd[n]).1) := by
            rw [← ek]
            cases k1 with
            | inl z => exact .int z
            | inr z => exact .str z
          have e2 := Ex.new (G := G') (o := .tup [kV k1, v1]) f.1
          refine turn (dd, od, .dK xs) ⟨xs, rfl⟩ n (kd[n]).1 (kd[n]).2 τ' M' (List.getElem?_eq_getElem hlt) iv σ' _ _ _ _ (s'.mono e2) (g'.newD nT) (.u upd_same (.cons (.d ak) (.cons (au1.mono e2) .nil))) fun τ3 M3 σ3 G3 H3 q3 e3 g3 s3 => ?_
          have e13 := (e'.trans e2).trans e3
          exact q3 σ3 G3 H3 _ s3 g3 ⟨fun τ4 M4 σ4 G4 H4 q4 e4 g4 s4 => ⟨τ4, M4, G4, q4, e13.trans e4, s4, g4⟩, kL.rt.mono e13, kL.nx.mono e13, fun τ4 M4 σ4 G4 H4 q4 e4 g4 s4 => ⟨τ4, M4, G4, q4, e13.trans e4, s4, g4⟩⟩
        · have e : n = kd.length := by omega
          subst e
          exact .inl ⟨⟨hd', by rw [hl]; exact Nat.le_refl _⟩, kL.nx τ' M' σ' G' H' (fin _ _ iv) e' g' s'⟩
end
end Y

namespace Y
open PySem L2 PyProof.Rows
/-! [elt for tg in d.values()] -/
section
variable {X : Cx} {L : Lk} {τ : List (Option Sl)} {M : Cs} {Q : Sl → Cs → Prop} {elt tg : Expr} {scope : Scope} {own : List (Str × Nat)} {pos p0 apos mpos : Pos} {g : TG} {i : Nat} {nm : Str} {kd : List (Key × PyData)}
theorem lcW_run {σ : L2.St} {G HL : Hp} {Q2 : VK} {dd : Addr} {od : Obj} {xs : List (Key × V)} {vs : List Nat} (gs : GoodS X.K G σ τ) (gmL : GoodM X.K ((dd, od, .dK xs) :: L) M G HL) (hσ : σ[i]? = some (some (.ref dd))) (lx : KvAt X.K G xs (slK kd))
    (w : ∀ D, M D = none → ∃ Iv : Nat → Cs → Prop, Iv 0 (updC M D (.l [])) ∧ (∀ x, (∃ xs, x.2.2 = HO.dK xs) → ∀ n k d M', kd[n]? = some (k, d) → Iv n M' →
      WGw X.K (x :: L) vs g (.d d) (wipeK τ vs) M' fun τ2 M3 => DEb X scope (x :: L) elt τ2 M3 fun z M5 => ∃ acc, M5 D = some (.l acc) ∧ acc.length < sizeLine ∧ Iv (n + 1) (updC M5 D (.l (acc ++ [z])))) ∧
      (∀ M' G' H', Iv kd.length M' → Ex G G' → GoodM X.K ((dd, od, .dK xs) :: L) M' G' H' → Q2 (.ref D) H')) : tLc (iVals (tVar i)) g tYes (bE X scope elt) vs σ HL Q2 := by
  have hx0 : HL dd = some (.frz od (.dK xs)) := gmL.lk _ List.mem_cons_self
  refine ⟨.ref dd, hσ, dd, od, xs, rfl, hx0, fun D hD => ?_⟩
  obtain ⟨Iv, i0, turn, fin⟩ := w D (gmL.free hD).2
  have hl : xs.length = kd.length := by rw [lx.len]; simp [slK]
  refine ⟨fun n m H' => m = kd.length - n ∧ n ≤ kd.length ∧ ∃ M' G', Iv n M' ∧ Ex G G' ∧ GoodM X.K ((dd, od, .dK xs) :: L) M' G' H', ⟨kd.length, by simp, Nat.zero_le _, _, G, i0, Ex.refl _, gmL.newC hD ⟨[], upd_same, .nil⟩⟩, ?_⟩
  rintro n m H' ⟨rfl, hn, M', G', iv, e', g'⟩
  have hd' : H' dd = some (.frz od (.dK xs)) := g'.lk _ List.mem_cons_self
  by_cases hlt : n < kd.length
  · refine .inr ⟨⟨hd', by rw [hl]; exact hlt⟩, fun H2 => ∃ M2 G2, Iv (n + 1) M2 ∧ Ex G G2 ∧ GoodM X.K ((dd, od, .dK xs) :: L) M2 G2 H2, fun H2 ⟨M2, G2, h⟩ => ⟨kd.length - (n + 1), by omega, rfl, hlt, M2, G2, h⟩, fun x H2 hy => ?_⟩
    obtain ⟨rfl, k1, hx1⟩ := hy
    obtain ⟨u1, hu1, au1⟩ := (KvAt.mono e' lx).get (i := n) (k := (kd[n]).1) (s := .d (kd[n]).2) (by unfold slK; rw [List.getElem?_map, List.getElem?_eq_getElem hlt]; rfl)
    rw [hx1] at hu1
    have hu2 := Option.some.inj hu1
    have ev : x = u1 := (Prod.mk.inj hu2).2
    subst ev
    refine turn (dd, od, .dK xs) ⟨xs, rfl⟩ n (kd[n]).1 (kd[n]).2 M' (List.getElem?_eq_getElem hlt) iv _ G' H2 _ _ ((gs.mono e').wipe vs) g' au1 fun τ3 M3 σ3 G3 H3 q3 e3 g3 s3 z3 => ?_
    refine ⟨z3.trans wipe_wipe, ?_⟩
    have e13 := e'.trans e3
    unfold tYes
    dsimp only
    rw [if_pos rfl]
    refine web (X := X) (scope := scope) (e := elt) q3 σ3 G3 H3 _ s3 g3 fun z M5 v5 G5 H5 ⟨acc, hacc, hl5, iv5⟩ e5 g5 a5 => ?_
    obtain ⟨f5, ys, h1, h2⟩ := g5.cell D _ hacc
    refine ⟨ys, h1, by rw [h2.len]; exact hl5, _, G5, iv5, e13.trans e5, ?_⟩
    exact g5.write hacc h1 (fun _ _ z => nomatch z) ⟨_, upd_same, h2.append (.cons a5 .nil)⟩
  · have e : n = kd.length := by omega
    subst e
    exact .inl ⟨⟨hd', by rw [hl]; exact Nat.le_refl _⟩, fin M' G' H' iv e' g'⟩
theorem de_lcValsN (hc : X.calm = true) (hN : X.N.Nodup) (ok : BlkOk X.N X.env.scope scope own) (hg : ∀ (s : Shared) (H : Hp) (C : Addr) (cl : List (Str × Addr)) (fp : List Addr), PG (X.blk s H scope (compEnvC scope cl C X.env) fp) tg g)
    (hL : NoDK L) (hi : X.N[i]? = some nm) (hv : Vis X.env.scope nm) (ht : τ[i]? = some (some (.d (.dict (encK kd)))))
    (w : ∀ D, M D = none → ∃ Iv : Nat → Cs → Prop, Iv 0 (updC M D (.l [])) ∧ (∀ x, (∃ xs, x.2.2 = HO.dK xs) → ∀ n k d M', kd[n]? = some (k, d) → Iv n M' →
      WGw X.K (x :: L) (own.map (·.2)) g (.d d) (wipeK τ (own.map (·.2))) M' fun τ2 M3 => DEb X scope (x :: L) elt τ2 M3 fun z M5 => ∃ acc, M5 D = some (.l acc) ∧ acc.length < sizeLine ∧ Iv (n + 1) (updC M5 D (.l (acc ++ [z])))) ∧ (∀ M', Iv kd.length M' → Q (.c D) M'))
    (hd : (nm == ("__debug__" : Str)) = false := by decide) (hcd : (nm == ("__classdict__" : Str)) = false := by decide)
    (hbase : attributeBase (.Name nm p0) "values" X.env (eval (.Name nm p0) X.env) = eval (.Name nm p0) X.env := by rfl) (hline : (apos.endLine == mpos.line) = true := by rfl)
    (hs : ∀ x, foldedSetIterable (.Call (.Attribute (.Name nm p0) "values" apos) [] [] mpos) X.env x = pure x := by intro _; rfl) : DE X L (.ListComp elt [⟨tg, .Call (.Attribute (.Name nm p0) "values" apos) [] [] mpos, [], 0⟩] scope pos) τ M Q :=
  de_of (pe_lock (pe_lc (te := bE X scope elt) (tt := tYes) hc hN (pi_values (pe_var hi hv hd hcd) hbase hline) ok hg (fun _ _ _ _ _ => pts_nil) (fun s H C cl fp => ⟨fun pins s' σ H' Q' I h => h s H C cl fp pins s' I⟩) hs)) fun σ G H Q' gs gm k => by
    obtain ⟨v, hσ, av⟩ := gs.get i _ ht
    cases av with
    | d av =>
      generalize hz : encK kd = zs at av
      cases av with
      | dic hG l =>
        rename_i dd xs
        subst hz
        have lx := AtK.kv kd l
        have hx := lock_exact gm hL hG
        have hne := lock_ne gm hL hG
        refine ⟨dd, .dK xs, hx, trivial, fun od => ?_⟩
        have gmL := gm.lock (od := od) hL hG
        refine lcW_run (kd := kd) gs gmL hσ lx fun D hD => ?_
        obtain ⟨Iv, i0, turn, fin⟩ := w D hD
        exact ⟨Iv, i0, turn, fun M' G' H' iv e' g' => ⟨g'.lk _ List.mem_cons_self, k _ M' _ G' _ (fin _ iv) e' (g'.unlock hne (e' _ _ hG)) (.c D)⟩⟩
end
end Y

namespace Y
open PySem L2 PyProof.Rows
/-! a contract seen with a dict cell as data, again a contract -/
section
variable {P : Program} {w : World} {K : PySem.W.Frag} {mg : Str → Option Value} {base : Heap}
theorem Cal.view {R : Rr} {k : Nat} {ps : List Str} {x : Str} (a : Addr) (kd : List (Key × PyData)) (c : Cal P w K mg base x k ps R) : Cal P w K mg base x k ps (fun L ss M Q => View L R a kd ss M Q) := by
  obtain ⟨f, fd, F, m, kp, b⟩ := c
  refine ⟨f, fd, ⟨fun vs H Q E h => ?_, fun B fr t H ar us vs Q E room e0 bd rel h => ?_⟩, m, kp, b⟩
  · obtain ⟨L, M, G, ss, Q0, g, al, v, r⟩ := h
    obtain ⟨M1, G1, ss1, Q1, g1, a1, r1, q1⟩ := view_ret v g al r
    exact F.len vs H Q E ⟨L, M1, G1, ss1, Q1, g1, a1, r1, q1⟩
  · obtain ⟨L, M, G, ss, Q0, g, al, v, r⟩ := h
    obtain ⟨M1, G1, ss1, Q1, g1, a1, r1, q1⟩ := view_ret v g al r
    exact F.run B fr t H ar us vs Q E room e0 bd rel ⟨L, M1, G1, ss1, Q1, g1, a1, r1, q1⟩
theorem CalG.view {R : Rr} {k : Nat} {ps : List Str} {x : Str} (a : Addr) (kd : List (Key × PyData)) (c : CalG P w K mg base x k ps R) : CalG P w K mg base x k ps (fun L ss M Q => View L R a kd ss M Q) := by
  obtain ⟨f, fd, F, m, kp, b⟩ := c
  refine ⟨f, fd, ⟨fun vs H Q E h => ?_, fun B fr t H ar us vs Q E room ng e0 bd rel h => ?_⟩, m, kp, b⟩
  · obtain ⟨L, M, G, ss, Q0, g, al, v, r⟩ := h
    obtain ⟨M1, G1, ss1, Q1, g1, a1, r1, q1⟩ := view_ret v g al r
    exact F.cnt vs H Q E ⟨L, M1, G1, ss1, Q1, g1, a1, r1, q1⟩
  · obtain ⟨L, M, G, ss, Q0, g, al, v, r⟩ := h
    obtain ⟨M1, G1, ss1, Q1, g1, a1, r1, q1⟩ := view_ret v g al r
    exact F.go B fr t H ar us vs Q E room ng e0 bd rel ⟨L, M1, G1, ss1, Q1, g1, a1, r1, q1⟩
end
/-! [x] * int(b) -/
section
variable {X : Cx} {L : Lk} {τ : List (Option Sl)} {M : Cs} {Q : Sl → Cs → Prop} {a b : Expr} {pos : Pos}
theorem de_rep01 (bb : Bool) (w : DE X L a τ M fun x M1 => DE X L b τ M1 fun y M2 => ∃ p z, x = .c p ∧ y = dI (if bb = true then 1 else 0) ∧ M2 p = some (.l [z]) ∧ ∀ c, M2 c = none → Q (.c c) (updC M2 c (.l (if bb = true then [z] else [])))) : DE X L (.BinOp a .Mult b pos) τ M Q :=
  de_op op_rep (de_imp w fun x M1 q => de_imp q fun y M2 ⟨p, z, e1, e2, hm, q2⟩ => fun G H v u Q' g a1 a2 k => by
    subst e1 e2
    obtain ⟨f, xs, h1, h2⟩ := g.cell p _ hm
    have hv : v = .ref p := sl_c a1
    have hu := sl_int a2
    cases h2 with
    | @cons vz _ _ _ az t =>
      cases t
      cases bb with
      | true =>
        refine ⟨p, 1, [vz], hv, hu, h1, by decide, by decide, by show 1 * 1 ≤ sizeLine; decide, fun c hc => ?_⟩
        exact k _ _ _ G _ (q2 c (g.free hc).2) (Ex.refl G) (g.newC hc ⟨[vz], upd_same, .cons az .nil⟩) (.c c)
      | false =>
        refine ⟨p, 0, [vz], hv, hu, h1, by decide, by decide, by show 1 * 0 ≤ sizeLine; decide, fun c hc => ?_⟩
        exact k _ _ _ G _ (q2 c (g.free hc).2) (Ex.refl G) (g.newC hc ⟨[], upd_same, .nil⟩) (.c c))
end
/-! sorted names are one list -/
section
open PySem.Spec
def leC (a b : Str) : Prop := a.cps.toList ≤ b.cps.toList
theorem leC_of {a b : Str} (h : (!ltCps b.cps.toList a.cps.toList) = true) : leC a b := by
  rw [ltCps_eq] at h
  have h2 : ¬ b.cps.toList < a.cps.toList := by simpa using h
  exact List.not_lt.mp h2
theorem leC_trans {a b c : Str} (h : leC a b) (k : leC b c) : leC a c := List.le_trans h k
theorem leC_anti {a b : Str} (h : leC a b) (k : leC b a) : a = b := by
  have e : a.cps.toList = b.cps.toList := List.le_antisymm h k
  cases a with
  | mk x => cases b with
    | mk y => exact congrArg Str.mk (Array.toList_inj.mp e)
theorem rising_le : ∀ {l : List Str} {p : Str}, risingS p l = true → ∀ x ∈ l, leC p x
  | [], _, _, _, h => nomatch h
  | y :: l, p, h, x, hx => by
    have h : ((!ltCps y.cps.toList p.cps.toList) && risingS y l) = true := h
    obtain ⟨h1, h2⟩ := Bool.and_eq_true_iff.mp h
    rcases List.mem_cons.mp hx with rfl | hx
    · exact leC_of h1
    · exact leC_trans (leC_of h1) (rising_le h2 x hx)
theorem sorted_tail {p : Str} {l : List Str} (h : sortedS (p :: l) = true) : sortedS l = true := by
  cases l with
  | nil => rfl
  | cons y l => exact (Bool.and_eq_true_iff.mp (show ((!ltCps y.cps.toList p.cps.toList) && risingS y l) = true from h)).2
theorem sorted_one : ∀ {l m : List Str}, l.Perm m → sortedS l = true → sortedS m = true → l = m
  | [], m, h, _, _ => (List.nil_perm.mp h).symm
  | a :: l, [], h, _, _ => nomatch (List.perm_nil.mp h)
  | a :: l, b :: m, h, h1, h2 => by
    have e : a = b := by
      have ha : a ∈ b :: m := h.mem_iff.mp List.mem_cons_self
      have hb : b ∈ a :: l := h.mem_iff.mpr List.mem_cons_self
      rcases List.mem_cons.mp ha with e | ha
      · exact e
      rcases List.mem_cons.mp hb with e | hb
      · exact e.symm
      exact leC_anti (rising_le h1 b hb) (rising_le h2 a ha)
    subst e
    rw [sorted_one (List.perm_cons a |>.mp h) (sorted_tail h1) (sorted_tail h2)]
end
end Y

namespace Y
open PySem L2 PyProof.Rows
/-! {k: v, ..} of any expressions -/
section
variable {X : Cx} {L : Lk}
def DKs (X : Cx) (L : Lk) : List (Option Expr) → List Expr → List (Option Sl) → Cs → (List (Key × Sl) → Cs → Prop) → Prop
  | [], [], _, M, Q => Q [] M
  | some k :: ks, v :: vs, τ, M, Q => DE X L k τ M fun s M1 => ∃ key, s = .d (kD key) ∧ DE X L v τ M1 fun x M2 => DKs X L ks vs τ M2 fun l M3 => Q ((key, x) :: l) M3
  | _, _, _, _, _ => False
def prT (X : Cx) : List (Option Expr) → List Expr → List (TE × TE)
  | some k :: ks, v :: vs => (sE X k, sE X v) :: prT X ks vs
  | _, _ => []
theorem pps_s {pos : Pos} : ∀ {ks : List (Option Expr)} {vs : List Expr}, ks.all (·.isSome) = true → ks.length = vs.length → PPs X pos ks vs (prT X ks vs)
  | [], [], _, _ => pps_nil
  | some e :: ks, v :: vs, h, hl => pps_cons pe_s pe_s (pps_s (by simpa using h) (by simpa using hl))
  | none :: _, _, h, _ => by simp at h
  | [], _ :: _, _, hl => by simp at hl
  | some _ :: _, [], _, hl => by simp at hl
theorem dks_run : ∀ {ks : List (Option Expr)} {vs : List Expr} {τ : List (Option Sl)} {M : Cs} {Q : List (Key × Sl) → Cs → Prop}, DKs X L ks vs τ M Q →
    ∀ (σ : L2.St) (G H : Hp) (Q' : List (V × V) → Hp → Prop), GoodS X.K G σ τ → GoodM X.K L M G H → (∀ l M' kvs G' H', Q l M' → Ex G G' → GoodM X.K L M' G' H' → KvAt X.K G' kvs l → l.length = ks.length → Q' (kvs.map fun kv => (kV kv.1, kv.2)) H') → tPairs (prT X ks vs) σ H Q'
  | [], [], τ, M, Q, h, σ, G, H, Q', gs, gm, k => k [] M [] G H h (Ex.refl G) gm trivial rfl
  | some e :: ks, v :: vs, τ, M, Q, h, σ, G, H, Q', gs, gm, k => by
    have h : DE X L e τ M fun s M1 => ∃ key, s = .d (kD key) ∧ DE X L v τ M1 fun x M2 => DKs X L ks vs τ M2 fun l M3 => Q ((key, x) :: l) M3 := h
    exact h σ G H _ gs gm fun s M1 u G1 H1 ⟨key, es, q1⟩ e1 g1 a1 => by
      subst es
      have ek := key_at a1
      subst ek
      refine q1 σ G1 H1 _ (gs.mono e1) g1 fun x M2 y G2 H2 q2 e2 g2 a2 => ?_
      refine dks_run q2 σ G2 H2 _ ((gs.mono e1).mono e2) g2 fun l M3 kvs G3 H3 q3 e3 g3 a3 hl => ?_
      exact k ((key, x) :: l) M3 ((key, y) :: kvs) G3 H3 q3 ((e1.trans e2).trans e3) g3 ⟨rfl, a2.mono e3, a3⟩ (by rw [List.length_cons, hl]; rfl)
  | none :: _, [], _, _, _, h, _, _, _, _, _, _, _ => h.elim
  | none :: _, _ :: _, _, _, _, h, _, _, _, _, _, _, _ => h.elim
  | [], _ :: _, _, _, _, h, _, _, _, _, _, _, _ => h.elim
  | some _ :: _, [], _, _, _, h, _, _, _, _, _, _, _ => h.elim
variable {τ : List (Option Sl)} {M : Cs} {Q : Sl → Cs → Prop} {ks : List (Option Expr)} {vs : List Expr} {pos : Pos}
theorem KvAt.len' {K : PySem.W.Frag} {G : Hp} {xs : List (Key × V)} {ys : List (Key × Sl)} (h : KvAt K G xs ys) : xs.length = ys.length := KvAt.len h
theorem de_dictE (w : ∀ p, M p = none → DKs X L ks vs τ (updC M p (.k [])) fun l M1 => M1 p = some (.k []) ∧ Q (.c p) (updC M1 p (.k (mergeS [] l)))) (hall : ks.all (·.isSome) = true := by rfl) (hl : ks.length = vs.length := by rfl) (h0 : ks ≠ [] := by exact fun z => nomatch z) (h15 : ks.length ≤ 15 := by decide) :
    DE X L (.Dict ks vs pos) τ M Q :=
  de_of (pe_disp (pps_s hall hl) hall hl h0 h15) fun σ G H Q' gs gm kk p hp => by
    refine dks_run (w p (gm.free hp).2) σ G (upd H p (.dK [])) _ gs (gm.newC hp ⟨[], upd_same, trivial⟩) fun l M1 kvs G1 H1 ⟨hm, q⟩ e1 g1 a1 ll => ?_
    obtain ⟨f1, xs, h1, h2⟩ := g1.cell p _ hm
    have hx : xs = [] := by
      cases xs with
      | nil => rfl
      | cons _ _ => cases h2
    subst hx
    refine ⟨h1, kvs, rfl, by rw [KvAt.len a1, ll]; exact h15, ?_⟩
    exact kk _ _ _ G1 _ q e1 (g1.write hm h1 (fun _ _ z => nomatch z) ⟨_, upd_same, KvAt.merge a1 trivial⟩) (.c p)
end
/-! slices from 1 on, up to -1 -/
theorem cutG_lo1 {α : Type} (xs : List α) : cutG xs (some 1) none = xs.drop 1 := by
  unfold cutG HT.sIx
  cases xs with
  | nil => rfl
  | cons x r => simp
theorem cutG_hiN {α : Type} (xs : List α) : cutG xs none (some (-1)) = xs.dropLast := by
  unfold cutG HT.sIx
  cases xs with
  | nil => rfl
  | cons x r =>
    simp [List.dropLast_eq_take]
    omega
/-! putting a list of intervals into a dict: any data -/
abbrev KvD := List (Key × PyData)
def putD (kd : KvD) (k : Key) (v : PyData) : KvD := if (kd.any fun p => decide (p.1 = k)) = true then kd.map (fun p => if p.1 = k then (p.1, v) else p) else kd ++ [(k, v)]
theorem putS_D (kd : KvD) (k : Key) (v : PyData) : putS (slK kd) k (.d v) = slK (putD kd k v) := by
  unfold putS putD slK
  have e : ((kd.map fun p => (p.1, Sl.d p.2)).any fun kv => decide (kv.1 = k)) = kd.any fun p => decide (p.1 = k) := by
    rw [List.any_map]
    rfl
  rw [e]
  split
  · rw [List.map_map, List.map_map]
    apply List.map_congr_left
    intro p _
    show (if p.1 = k then (p.1, Sl.d v) else (p.1, Sl.d p.2)) = _
    show _ = (fun p => (p.1, Sl.d p.2)) (if p.1 = k then (p.1, v) else p)
    split <;> rfl
  · rw [List.map_append]
    rfl
end Y

namespace Y
open PySem L2 PyProof.Rows
section
variable {X : Cx}
/-- what an expression locked is given free behind it -/
theorem pe_unlV {e : Expr} {t : TE} (h : PE X e t) : PE X e (fun σ H Q => t σ H fun x H' => ∃ d od u, H' d = some (.frz od u) ∧ (∀ o' u', X.H_0 d ≠ some (.frz o' u')) ∧ Q x (upd H' d u)) := by
  refine ⟨fun pins s σ H Q I hw => ?_⟩
  refine thn (h.run pins s σ _ _ I hw) fun v s1 ⟨x, H', I2, r, d, od, u, e, hn, q⟩ => ?_
  exact ⟨x, _, I2.unlock e hn, r, q⟩
end
section
variable {X : Cx} {L : Lk} {τ : List (Option Sl)} {M : Cs} {Q : Sl → Cs → Prop} {e kx vx c : Expr} {scope : Scope} {own : List (Str × Nat)} {pos apos mpos : Pos} {g : TG}
/-- {kx: vx for tg in e.items() if c} -/
theorem de_dcItemsT {elts : List Expr} {kk : Nat} {tpos : Pos} (hc : X.calm = true) (hN : X.N.Nodup) (ok : BlkOk X.N X.env.scope scope own) (hg : ∀ (s : Shared) (H : Hp) (C : Addr) (cl : List (Str × Addr)) (fp : List Addr), PG (X.blk s H scope (compEnvC scope cl C X.env) fp) (.Tuple elts kk tpos) g)
    (hL : NoDK L)
    (w : DE X L e τ M fun s M0 => ∃ kd : List (Key × PyData), s = .d (.dict (encK kd)) ∧ ∀ D, M0 D = none → ∃ Iv : Nat → Cs → Prop, Iv 0 (updC M0 D (.k [])) ∧ (∀ x, (∃ xs, x.2.2 = HO.dK xs) → ∀ n k d M', kd[n]? = some (k, d) → Iv n M' →
      WGw X.K (x :: L) (own.map (·.2)) g (.u [.d (kD k), .d d]) (wipeK τ (own.map (·.2))) M' fun τ2 M3 => DTb X scope (x :: L) c τ2 M3 fun b M4 => (b = true → DEb X scope (x :: L) kx τ2 M4 fun z M5 => DEb X scope (x :: L) vx τ2 M5 fun z2 M6 => ∃ kvs k, z = .d (kD k) ∧ M6 D = some (.k kvs) ∧ kvs.length < sizeLine ∧ Iv (n + 1) (updC M6 D (.k (putS kvs k z2)))) ∧ (b = false → Iv (n + 1) M4)) ∧ (∀ M', Iv kd.length M' → Q (.c D) M'))
    (hbase : attributeBase e "items" X.env (eval e X.env) = eval e X.env := by rfl) (hline : (apos.endLine == mpos.line) = true := by rfl)
    (hs : ∀ x, foldedSetIterable (.Call (.Attribute e "items" apos) [] [] mpos) X.env x = pure x := by intro _; rfl) : DE X L (.DictComp kx vx [⟨.Tuple elts kk tpos, .Call (.Attribute e "items" apos) [] [] mpos, [c], 0⟩] scope pos) τ M Q :=
  de_of (pe_unlV (pe_dc (tk := bE X scope kx) (tv := bE X scope vx) (tt := bT X scope c) hc hN (pi_items (pe_lockV pe_s) hbase hline) ok hg (fun s H C cl fp => pts_one ⟨fun pins s' σ H' Q' I h => h s H C cl fp pins s' I⟩) (fun s H C cl fp => ⟨fun pins s' σ H' Q' I h => h s H C cl fp pins s' I⟩) (fun s H C cl fp => ⟨fun pins s' σ H' Q' I h => h s H C cl fp pins s' I⟩) hs)) fun σ G0 H0 Q' gs0 gm0 k => by
    refine w σ G0 H0 _ gs0 gm0 fun s M0 v G H ⟨kd, es, w2⟩ e1 gm av => ?_
    have gs := gs0.mono e1
    subst es
    cases av with
    | d av =>
      generalize hz : encK kd = zs at av
      cases av with
      | dic hG l =>
        rename_i dd xs
        subst hz
        have lx := AtK.kv kd l
        have hx := lock_exact gm hL hG
        have hne := lock_ne gm hL hG
        refine ⟨dd, .dK xs, rfl, hx, trivial, fun od hnf => ?_⟩
        have gmL := gm.lock (od := od) hL hG
        refine ⟨dd, od, xs, rfl, upd_same, fun D hD => ?_⟩
        obtain ⟨Iv, i0, turn, fin⟩ := w2 D (gmL.free hD).2
        have hl : xs.length = kd.length := by rw [lx.len]; simp [slK]
        refine ⟨fun n m H' => m = kd.length - n ∧ n ≤ kd.length ∧ ∃ M' G', Iv n M' ∧ Ex G G' ∧ GoodM X.K ((dd, od, .dK xs) :: L) M' G' H', ⟨kd.length, by simp, Nat.zero_le _, _, G, i0, Ex.refl _, gmL.newC hD ⟨[], upd_same, trivial⟩⟩, ?_⟩
        rintro n m H' ⟨rfl, hn, M', G', iv, e', g'⟩
        have hd' : H' dd = some (.frz od (.dK xs)) := g'.lk _ List.mem_cons_self
        by_cases hlt : n < kd.length
        · refine .inr ⟨⟨hd', by rw [hl]; exact hlt⟩, fun H2 => ∃ M2 G2, Iv (n + 1) M2 ∧ Ex G G2 ∧ GoodM X.K ((dd, od, .dK xs) :: L) M2 G2 H2, fun H2 ⟨M2, G2, h⟩ => ⟨kd.length - (n + 1), by omega, rfl, hlt, M2, G2, h⟩, fun x H2 hy => ?_⟩
          obtain ⟨T, k1, v1, hx1, rfl, nT, rfl⟩ := hy
          obtain ⟨u1, hu1, au1⟩ := (KvAt.mono e' lx).get (i := n) (k := (kd[n]).1) (s := .d (kd[n]).2) (by unfold slK; rw [List.getElem?_map, List.getElem?_eq_getElem hlt]; rfl)
          rw [hx1] at hu1
          have hu2 := Option.some.inj hu1
          have f := g'.free nT
          have ek : k1 = (kd[n]).1 := (Prod.mk.inj hu2).1
          have ev : v1 = u1 := (Prod.mk.inj hu2).2
          subst ev
          have ak : At X.K (upd G' T (.tup [kV k1, v1])) (kV k1) (kD (kd[n]).1) := by
            rw [← ek]
            cases k1 with
            | inl z => exact .int z
            | inr z => exact .str z
          have e2 := Ex.new (G := G') (o := .tup [kV k1, v1]) f.1
          refine turn (dd, od, .dK xs) ⟨xs, rfl⟩ n (kd[n]).1 (kd[n]).2 M' (List.getElem?_eq_getElem hlt) iv _ _ _ _ _ ((gs.mono (e'.trans e2)).wipe _) (g'.newD nT) (.u upd_same (.cons (.d ak) (.cons (au1.mono e2) .nil))) fun τ3 M3 σ3 G3 H3 q3 e3 g3 s3 z3 => ?_
          refine ⟨z3.trans wipe_wipe, ?_⟩
          have e13 := (e'.trans e2).trans e3
          refine wtb (X := X) (scope := scope) (e := c) q3 σ3 G3 H3 _ s3 g3 fun b M4 G4 H4 q4 e4 g4 => ?_
          cases b with
          | true =>
            rw [if_pos rfl]
            refine web (X := X) (scope := scope) (e := kx) (q4.1 rfl) σ3 G4 H4 _ (s3.mono e4) g4 fun z M5 v5 G5 H5 q5 e5 g5 a5 => ?_
            refine web (X := X) (scope := scope) (e := vx) q5 σ3 G5 H5 _ ((s3.mono e4).mono e5) g5 fun z2 M6 v2 G6 H6 ⟨kvs, key, hz, hk, hl6, iv6⟩ e6 g6 a6 => ?_
            obtain ⟨f6, ys, h1, h2⟩ := g6.cell D _ hk
            subst hz
            refine ⟨ys, key, key_at a5, h1, by rw [h2.len]; exact hl6, _, G6, iv6, ((e13.trans e4).trans e5).trans e6, ?_⟩
            exact g6.write hk h1 (fun _ _ z => nomatch z) ⟨_, upd_same, KvAt.put a6 h2⟩
          | false =>
            rw [if_neg Bool.false_ne_true]
            exact ⟨M4, G4, q4.2 rfl, e13.trans e4, g4⟩
        · have e : n = kd.length := by omega
          subst e
          exact .inl ⟨⟨hd', by rw [hl]; exact Nat.le_refl _⟩, dd, od, .dK xs, hd', hnf, k _ M' _ G' _ (fin _ iv) (e1.trans e') (g'.unlock hne (e' _ _ hG)) (.c D)⟩
end
section
variable {X : Cx} {L : Lk} {τ : List (Option Sl)} {M : Cs} {Q : Sl → Cs → Prop} {QB : Bool → Cs → Prop} {a b o e : Expr} {pos apos cpos : Pos} {E : Ks}
/-- k in d -/
theorem dt_din (hu : X.A.units + 1 < cLine) (w : DE X L a τ M fun x M1 => DE X L b τ M1 fun y M2 => ∃ k kvs, x = .d (kD k) ∧ DictIs M2 y kvs ∧ QB (valS kvs k).isSome M2) (hm : behindInMarks .In b = false) : DT X L (.Compare a [.In] [b] pos) τ M QB :=
  dt_of (pt_cmp (pc_din hu pe_s pe_s) hm) fun σ G H Q' gs gm k => w σ G H _ gs gm fun x M1 v G1 H1 q e1 g1 a1 => q σ G1 H1 _ (gs.mono e1) g1 fun y M2 u G2 H2 ⟨key, kvs, hx, hd, q2⟩ e2 g2 a2 => by
    subst hx
    obtain ⟨p, oo, rfl, _, dg, h⟩ := dget_at (k := key) g2 a2 hd
    rw [key_at (a1.mono e2)]
    have ho : oo.isSome = (valS kvs key).isSome := by
      cases e : valS kvs key with
      | none => rw [e] at h; rw [h]; rfl
      | some z => rw [e] at h; obtain ⟨u, hu, _⟩ := h; rw [hu]; rfl
    refine ⟨p, oo, rfl, dg, ?_⟩
    exact ⟨oo.isSome, rfl, k _ M2 G2 H2 (by rw [ho]; exact q2) (e1.trans e2) g2⟩
def dropS (kvs : List (Key × Sl)) (k : Key) : List (Key × Sl) := kvs.filter fun kv => decide (kv.1 ≠ k)
theorem KvAt.drop {K : PySem.W.Frag} {G : Hp} (k : Key) : ∀ {xs : List (Key × V)} {ys : List (Key × Sl)}, KvAt K G xs ys → KvAt K G (dropK xs k) (dropS ys k)
  | [], [], _ => trivial
  | p :: ps, q :: qs, ⟨h1, h2, h3⟩ => by
    unfold dropK dropS
    rw [List.filter_cons, List.filter_cons, h1]
    by_cases hk : q.1 = k
    · rw [if_neg (by simp [hk]), if_neg (by simp [hk])]
      exact KvAt.drop k h3
    · rw [if_pos (by simp [hk]), if_pos (by simp [hk])]
      exact ⟨h1, h2, KvAt.drop k h3⟩
/-- d.pop(k) -/
theorem de_dpop (w : DE X L o τ M fun x M1 => (∃ a kvs, x = .c a ∧ M1 a = some (.k kvs)) ∧ DE X L e τ M1 fun t M2 => ∃ a kvs k z, x = .c a ∧ M2 a = some (.k kvs) ∧ t = .d (kD k) ∧ valS kvs k = some z ∧ Q z (updC M2 a (.k (dropS kvs k)))) (m : M1 X o "pop" apos e cpos := by exact ⟨rfl, rfl, rfl, rfl⟩) : DE X L (.Call (.Attribute o "pop" apos) [e] [] cpos) τ M Q :=
  de_of (pe_dpop1 pe_s pe_s m) fun σ G H Q' gs gm k => w σ G H _ gs gm fun x M1 v G1 H1 ⟨⟨a, kvs, ex, hm⟩, q⟩ e1 g1 a1 => by
    subst ex
    obtain ⟨_, xs, h1, h2⟩ := g1.cell a _ hm
    have ev := sl_c a1
    subst ev
    refine ⟨a, rfl, .inl ⟨_, .inl h1⟩, q σ G1 H1 _ (gs.mono e1) g1 fun t M2 u G2 H2 ⟨a', kvs', key, z, ex, hm', et, hv, q2⟩ e2 g2 a2 => ?_⟩
    cases ex
    subst et
    obtain ⟨_, ys, k1, k2⟩ := g2.cell a _ hm'
    have hval := KvAt.val key k2
    rw [hv] at hval
    obtain ⟨vz, hvz, az⟩ := hval
    exact ⟨ys, key, vz, k1, key_at a2, hvz, k z _ vz G2 _ q2 (e1.trans e2) (g2.write hm' k1 (fun _ _ z => nomatch z) ⟨_, upd_same, KvAt.drop key k2⟩) az⟩
/-- d.clear() -/
theorem ds_dclear (w : DE X L o τ M fun x M1 => ∃ a kvs, x = .c a ∧ M1 a = some (.k kvs) ∧ E.nx τ (updC M1 a (.k []))) (hbase : attributeBase o "clear" X.env (eval o X.env) = eval o X.env := by rfl) (hline : (apos.endLine == cpos.line) = true := by rfl)
    (hsw : swapsWith (.Call (.Attribute o "clear" apos) [] [] cpos) none pos.line X.env = pure false := by rfl) : DS X L (.Expr (.Call (.Attribute o "clear" apos) [] [] cpos) pos) τ M E :=
  ds_expr (de_of (pe_dclear pe_s hbase hline) fun σ G H Q' gs gm k => w σ G H _ gs gm fun x M1 v G1 H1 ⟨a, kvs, hx, ha, q⟩ e1 g1 a1 => by
    subst hx
    obtain ⟨_, xs, h1, h2⟩ := g1.cell a _ ha
    have ev := sl_c a1
    subst ev
    exact ⟨.inr (.inr (.inl ⟨rfl, .inl ⟨xs, h1⟩⟩)), a, xs, rfl, rfl, h1, k (.d .none) _ _ G1 _ q e1 (g1.write ha h1 (fun _ _ z => (nomatch z)) ⟨[], upd_same, trivial⟩) (.d .non)⟩) hsw
end
end Y

namespace Y
open PySem L2 PyProof.Rows
/-! any(list of data) -/
def rAnyD (K : PySem.W.Frag) : List V → Hp → VK → Prop := fun us H Q => ∃ (a : Addr) (xs : List V) (ds : List PyData), us = [V.ref a] ∧ SqL K H a xs ∧ DXs K H xs ds ∧ PyData.plainAll ds = true ∧ (∀ x ∈ ds, x.fits63) ∧ Q (.bl (ds.any PyData.truthy)) H
theorem call_anyD {X : Cx} (S : Sys X.base) (hc : X.calm = true) : CallR X (.builtin "any") (rAnyD X.K) := by
  intro pins s σ H vs us Q I r h
  obtain ⟨a, xs, ds, rfl, hs, hd, hp, hf, q⟩ := h
  obtain ⟨its, rv, hl, _⟩ := I.list hs
  rw [Vals.ref1 r]
  obtain ⟨as, rd, _⟩ := DXs.reads I S hd rv
  exact PySem.W.any_list_data (vs := its.toArray) (xs := ds) (as := as) (I.ok.hd hc) hl.isList rd hp hf fun h' tk hk => ⟨.bl _, H, I.kept (t' := tk) hk, rfl, q⟩
section
variable {X : Cx} {L : Lk} {M : Cs} {Q : Sl → Cs → Prop} {s : Sl}
theorem k_anyD {ds : List PyData} {ss : List Sl} (hT : isTup s = false) (h : seqOf M s = some ss) (hx : IsXL M ss ds) (hp : PyData.plainAll ds = true) (hf : ∀ x ∈ ds, x.fits63) (q : Q (.d (.bool (ds.any PyData.truthy))) M) : RCk X.K L (rAnyD X.K) [s] M Q := fun G H vs Q' g a k => by
  obtain ⟨v, rfl, a1⟩ := sl1 a
  obtain ⟨p, xs, rfl, r, l⟩ := seq_at g a1 h
  rw [hT, if_neg Bool.false_ne_true] at r
  exact ⟨p, xs, ds, rfl, r, IsXL.dx g hx l, hp, hf, k.go q g (.d (.bl _))⟩
end
end Y

namespace Y
open PySem L2 PyProof.Rows
/-! a dict cell whose values are list cells becomes one of data -/
section
variable {X : Cx} {L : Lk} {τ : List (Option Sl)} {M : Cs} {E : Ks} {sts : List Stmt}
theorem KvAt.swap {K : PySem.W.Frag} {G : Hp} {k : Key} {s s' : Sl} (h : ∀ v, SlAt K G v s → SlAt K G v s') {post : List (Key × Sl)} : ∀ {pre : List (Key × Sl)} {xs : List (Key × V)}, KvAt K G xs (pre ++ (k, s) :: post) → KvAt K G xs (pre ++ (k, s') :: post)
  | [], [], q => q.elim
  | [], p :: ps, q => ⟨q.1, h _ q.2.1, q.2.2⟩
  | r :: pre, [], q => q.elim
  | r :: pre, p :: ps, q => ⟨q.1, q.2.1, KvAt.swap h (pre := pre) q.2.2⟩
theorem db_frzV {D p : Addr} {pre post : List (Key × Sl)} {k : Key} {ds : List PyData} (hD : M D = some (.k (pre ++ (k, .c p) :: post))) (hp : M p = some (.l (ds.map .d))) (ne : p ≠ D) (w : DB X L sts τ (updC (delC M p) D (.k (pre ++ (k, .d (.list ds)) :: post))) E) : DB X L sts τ M E := fun σ G H D' gs gm kk => by
  obtain ⟨G2, e2, g2, a2⟩ := gm.freeze hp
  refine w σ G2 H D' (gs.mono e2) ⟨g2.vw, fun a c e => ?_, g2.lk⟩ (kk.mono e2)
  by_cases ha : a = D
  · subst ha
    rw [updC_same] at e
    cases e
    obtain ⟨z1, xs, h1, h2⟩ := g2.cell a _ (by rw [delC_ne ne.symm]; exact hD)
    exact ⟨z1, xs, h1, KvAt.swap (fun v av => by rw [sl_c av]; exact .d a2) h2⟩
  · rw [updC_ne ha] at e
    exact g2.cell a c e
theorem db_frzAll {D : Addr} : ∀ {es : List (Key × Addr × List PyData)} {pre : List (Key × Sl)} {M : Cs}, M D = some (.k (pre ++ es.map fun e => (e.1, .c e.2.1))) → (es.map (·.2.1)).Nodup → (∀ e ∈ es, M e.2.1 = some (.l (e.2.2.map .d)) ∧ e.2.1 ≠ D) →
    (∀ M' : Cs, M' D = some (.k (pre ++ es.map fun e => (e.1, .d (.list e.2.2)))) → (∀ b, b ≠ D → (∀ e ∈ es, b ≠ e.2.1) → M' b = M b) → DB X L sts τ M' E) → DB X L sts τ M E
  | [], pre, M, hD, _, _, w => w M hD fun _ _ _ => rfl
  | e :: es, pre, M, hD, nd, he, w => by
    rw [List.map_cons, List.nodup_cons] at nd
    obtain ⟨h1, h2⟩ := he e List.mem_cons_self
    rw [List.map_cons] at hD
    refine db_frzV (post := es.map fun e => (e.1, .c e.2.1)) hD h1 h2 ?_
    have hD' : updC (delC M e.2.1) D (.k (pre ++ (e.1, .d (.list e.2.2)) :: es.map fun e => (e.1, .c e.2.1))) D = some (.k ((pre ++ [(e.1, .d (.list e.2.2))]) ++ es.map fun e => (e.1, .c e.2.1))) := by
      rw [updC_same, List.append_assoc]
      rfl
    have ot : ∀ b, b ≠ D → b ≠ e.2.1 → updC (delC M e.2.1) D (.k (pre ++ (e.1, .d (.list e.2.2)) :: es.map fun e => (e.1, .c e.2.1))) b = M b := fun b hb hb2 => by rw [updC_ne hb, delC_ne hb2]
    generalize updC (delC M e.2.1) D (.k (pre ++ (e.1, .d (.list e.2.2)) :: es.map fun e => (e.1, .c e.2.1))) = M1 at hD' ot
    refine db_frzAll hD' nd.2 (fun x hx => ?_) fun M' hM' ot' => w M' (by rw [hM', List.append_assoc]; rfl) fun b hb hb2 => ?_
    · obtain ⟨k1, k2⟩ := he x (List.mem_cons_of_mem _ hx)
      refine ⟨by rw [ot _ k2 (fun q => nd.1 (q ▸ List.mem_map_of_mem hx))]; exact k1, k2⟩
    · rw [ot' b hb fun x hx => hb2 x (List.mem_cons_of_mem _ hx), ot b hb (hb2 e List.mem_cons_self)]
end
end Y

namespace Y
open PySem L2 PyProof.Rows
section
variable {X : Cx} {L : Lk} {τ : List (Option Sl)} {M : Cs} {Q : Sl → Cs → Prop} {QB : Bool → Cs → Prop} {QG : List (Option Sl) → Cs → Prop} {e a b c o i tg iter : Expr} {es : List Expr} {pos apos cpos pos' : Pos} {E : Ks} {st : Stmt} {sts body : List Stmt} {p p2 : Pos} {x y s : Sl} {QJ : QI} {nm : Str}
/-- zip(xs, ys) of two lists: as many turns as the shorter has items -/
theorem di_zipM {e2 : Expr} {elts : List Expr} {kk : Nat} {tpos : Pos} (hg : Gl X "zip") (hm : X.mg "zip" = none)
    (w : DA X L [e, e2] τ M fun ss M1 => ∃ s t xs ys n, ss = [s, t] ∧ isTup s = false ∧ isTup t = false ∧ seqOf M1 s = some xs ∧ seqOf M1 t = some ys ∧ n = min xs.length ys.length ∧ QJ n (fun M' => seqOf M' s = some xs ∧ seqOf M' t = some ys) (fun i y => ∃ a b, xs[i]? = some a ∧ ys[i]? = some b ∧ y = .u [a, b]) M1)
    (hs : starEach [e, e2] X.env = (false, eval e X.env) :: starEach [e2] X.env := by rfl) (hpl : (backTo pos (starEach [e2] X.env)).any (·.1) = false := by rfl) : DI X L (.Tuple elts kk tpos) (.Call (.Name "zip" p) [e, e2] [] pos) τ M QJ := fun σ G H R gs gm k => by
  refine i_of (RZ.pi_zipA hg hm pa_s hs hpl) ?_
  show sA X [e, e2] σ H (fun vs H1 => ∃ a b xs ys, vs = [.ref a, .ref b] ∧ ((SqL X.K H1 a xs ∧ SqL X.K H1 b ys ∧ R (Itz X.K a b) H1) ∨ (SqT X.K H1 a xs ∧ SqT X.K H1 b ys ∧ R (RZ.ItzT X.K a b) H1)))
  refine w σ G H _ gs gm ?_
  rintro ss M1 vs G1 H1 ⟨s, t, us, ws, n, e0, hS, hT, h1, h2, hl, q⟩ e1 g1 a1
  subst e0
  obtain ⟨v, u, rfl, av, au⟩ := sl2 a1
  obtain ⟨pa, xs, rfl, ra, la⟩ := seq_at g1 av h1
  obtain ⟨pb, ys, rfl, rb, lb⟩ := seq_at g1 au h2
  refine ⟨pa, pb, xs, ys, rfl, ?_⟩
  rw [hT] at rb
  rw [hS] at ra
  rw [if_neg Bool.false_ne_true] at ra rb
  refine .inl ⟨ra, rb, k _ _ _ M1 G1 H1 _ q e1 g1 ⟨fun M' G' H' sM e' g' => ?_, fun i M' G' H' hi sM e' g' => ?_⟩⟩
  · obtain ⟨p1, xs1, ep, r1, l1⟩ := seq_at g' (av.mono e') sM.1
    obtain ⟨p2, ys1, eq, r2, l2⟩ := seq_at g' (au.mono e') sM.2
    cases ep
    cases eq
    rw [hT] at r2
    rw [hS] at r1
    rw [if_neg Bool.false_ne_true] at r1 r2
    have k1 := l1.len
    have k2 := l2.len
    exact ⟨xs1, ys1, r1, r2, by omega⟩
  · obtain ⟨p1, xs1, ep, r1, l1⟩ := seq_at g' (av.mono e') sM.1
    obtain ⟨p2, ys1, eq, r2, l2⟩ := seq_at g' (au.mono e') sM.2
    cases ep
    cases eq
    rw [hT] at r2
    rw [hS] at r1
    rw [if_neg Bool.false_ne_true] at r1 r2
    have hi1 : i < us.length := by omega
    have hj : i < ws.length := by omega
    obtain ⟨v1, hv1, av1⟩ := l1.get (List.getElem?_eq_getElem hi1)
    obtain ⟨v2, hv2, av2⟩ := l2.get (List.getElem?_eq_getElem hj)
    refine ⟨⟨xs1, ys1, v1, v2, r1, r2, hv1, hv2⟩, fun x H2 hy => ?_⟩
    obtain ⟨T, x1, x2, rfl, nT, rfl, f1, f2⟩ := hy
    have ex1 := Option.some.inj ((f1 _ r1).symm.trans hv1)
    have ex2 := Option.some.inj ((f2 _ r2).symm.trans hv2)
    subst ex1 ex2
    have fr := g'.free nT
    exact ⟨_, _, ⟨_, _, List.getElem?_eq_getElem hi1, List.getElem?_eq_getElem hj, rfl⟩, Ex.new fr.1, g'.newD nT, .u upd_same (.cons (av1.mono (Ex.new fr.1)) (.cons (av2.mono (Ex.new fr.1)) .nil))⟩
end
end Y

namespace Y
open PySem L2 PyProof.Rows
section
variable {K : PySem.W.Frag} {L : Lk} {M : Cs} {Q : Sl → Cs → Prop} {x y : Sl} {d : PyData} {ds : List PyData}
/-- data in a list of data -/
theorem k_inD (hx : IsD M x d) (hy : IsD M y (.list ds)) (sx : SeqAt.shaped d = true) (sy : SeqAt.shaped (.list ds) = true) (q : Q (.d (.bool (ds.any fun z => PyData.eqv z d))) M) : R2k K L (rInD K) x y M Q := fun G H v u Q' g a1 a2 k =>
  ⟨d, ds, hx.dp g (SeqAt.canLay_of_shaped sx) a1, hy.dp g (SeqAt.canLay_of_shaped sy) a2, sx, sy, k.go q g (.d (.bl _))⟩
theorem k_niD (hx : IsD M x d) (hy : IsD M y (.list ds)) (sx : SeqAt.shaped d = true) (sy : SeqAt.shaped (.list ds) = true) (q : Q (.d (.bool (!ds.any fun z => PyData.eqv z d))) M) : R2k K L (rNotInD K) x y M Q := fun G H v u Q' g a1 a2 k =>
  ⟨d, ds, hx.dp g (SeqAt.canLay_of_shaped sx) a1, hy.dp g (SeqAt.canLay_of_shaped sy) a2, sx, sy, k.go q g (.d (.bl _))⟩
theorem SlL.rep {G : Hp} {v : V} {z : Sl} (h : SlAt K G v z) : ∀ n : Nat, SlL K G (List.replicate n [v]).flatten (List.replicate n z)
  | 0 => .nil
  | n + 1 => by
    rw [List.replicate_succ, List.replicate_succ, List.flatten_cons]
    exact .cons h (SlL.rep h n)
end
/-! [x] * n -/
section
variable {X : Cx} {L : Lk} {τ : List (Option Sl)} {M : Cs} {Q : Sl → Cs → Prop} {a b : Expr} {pos : Pos}
theorem de_repN (w : DE X L a τ M fun x M1 => DE X L b τ M1 fun y M2 => ∃ (p : Addr) (z : Sl) (n : Nat), x = .c p ∧ y = dI (n : Int) ∧ n ≤ sizeLine ∧ M2 p = some (.l [z]) ∧ ∀ c, M2 c = none → Q (.c c) (updC M2 c (.l (List.replicate n z)))) : DE X L (.BinOp a .Mult b pos) τ M Q :=
  de_op op_rep (de_imp w fun x M1 q => de_imp q fun y M2 ⟨p, z, n, e1, e2, hn, hm, q2⟩ => fun G H v u Q' g a1 a2 k => by
    subst e1 e2
    obtain ⟨f, xs, h1, h2⟩ := g.cell p _ hm
    have hv : v = .ref p := sl_c a1
    have hu := sl_int a2
    have hs := sizeLine_eq
    cases h2 with
    | @cons vz _ _ _ az t =>
      cases t
      refine ⟨p, (n : Int), [vz], hv, hu, h1, by omega, by omega, by rw [Int.toNat_natCast]; show 1 * n ≤ sizeLine; omega, fun c hc => ?_⟩
      rw [Int.toNat_natCast]
      exact k _ _ _ G _ (q2 c (g.free hc).2) (Ex.refl G) (g.newC hc ⟨_, upd_same, SlL.rep az n⟩) (.c c))
end
end Y

namespace Y
open PySem L2 PyProof.Rows
/-! d.setdefault(k, v), d a dict cell -/
section
variable {X : Cx} {L : Lk} {τ : List (Option Sl)} {M : Cs} {Q : Sl → Cs → Prop} {o e f : Expr} {apos cpos : Pos}
theorem de_dsetd (w : DE X L o τ M fun x M1 => (∃ a kvs, x = .c a ∧ M1 a = some (.k kvs)) ∧ DE X L e τ M1 fun t M2 => DE X L f τ M2 fun z M3 => ∃ a kvs k, x = .c a ∧ M3 a = some (.k kvs) ∧ t = .d (kD k) ∧ kvs.length < sizeLine ∧ (∀ s, valS kvs k = some s → Q s M3) ∧ (valS kvs k = none → Q z (updC M3 a (.k (putS kvs k z)))))
    (m : M2 X o "setdefault" apos e f cpos := by exact ⟨rfl, rfl, rfl, rfl⟩) : DE X L (.Call (.Attribute o "setdefault" apos) [e, f] [] cpos) τ M Q :=
  de_of (pe_dsetd pe_s pe_s pe_s m) fun σ G H Q' gs gm k => w σ G H _ gs gm fun x M1 v G1 H1 ⟨⟨a, kvs, ex, hm⟩, q⟩ e1 g1 a1 => by
    subst ex
    obtain ⟨_, xs, h1, h2⟩ := g1.cell a _ hm
    have ev := sl_c a1
    subst ev
    refine ⟨a, rfl, .inl ⟨_, .inl h1⟩, q σ G1 H1 _ (gs.mono e1) g1 fun t M2 u G2 H2 q2 e2 g2 a2 => q2 σ G2 H2 _ (gs.mono (e1.trans e2)) g2 fun z M3 y G3 H3 ⟨a', kvs', key, ex, hm', et, hl, qs, qn⟩ e3 g3 a3 => ?_⟩
    cases ex
    subst et
    obtain ⟨_, ys, k1, k2⟩ := g3.cell a _ hm'
    have hval := KvAt.val key k2
    have e13 := (e1.trans e2).trans e3
    refine ⟨ys, key, k1, key_at a2, by rw [k2.len]; exact hl, fun v hv => ?_, fun hv => ?_⟩
    · cases hs : valS kvs' key with
      | none =>
        rw [hs] at hval
        have hval : valV ys key = none := hval
        rw [hv] at hval
        cases hval
      | some s =>
        rw [hs] at hval
        obtain ⟨vz, hvz, az⟩ := hval
        rw [hv] at hvz
        cases hvz
        exact k s M3 v G3 _ (qs s hs) e13 g3 az
    · cases hs : valS kvs' key with
      | some s =>
        rw [hs] at hval
        obtain ⟨vz, hvz, az⟩ := hval
        rw [hv] at hvz
        cases hvz
      | none => exact k z _ y G3 _ (qn hs) e13 (g3.write hm' k1 (fun _ _ z => nomatch z) ⟨_, upd_same, KvAt.put a3 k2⟩) a3
end
end Y

namespace Y
open PySem L2 PyProof.Rows
/-! sorted(xs, key=f), f a def of the top that gives one item of a tuple -/
theorem readsAll_get {h : Heap} : ∀ {vs : List Value} {ds : List PyData} {as : List Addr} {i : Nat} {d : PyData}, ReadsAll h vs ds as → ds[i]? = some d → ∃ v bs, vs[i]? = some v ∧ Reads h v d bs
  | _, _, _, _, _, .nil, e => by simp at e
  | _, _, _, 0, _, .cons a _, e => by
    cases e
    exact ⟨_, _, rfl, a⟩
  | _, _, _, i + 1, _, .cons _ b, e => readsAll_get b (i := i) e
theorem readsAll_len {h : Heap} : ∀ {vs : List Value} {ds : List PyData} {as : List Addr}, ReadsAll h vs ds as → vs.length = ds.length
  | _, _, _, .nil => rfl
  | _, _, _, .cons _ b => by rw [List.length_cons, List.length_cons, readsAll_len b]
section
variable {P : Program} {w : World} {K : PySem.W.Frag} {mg : Str → Option Value} {base : Heap}
/-- a call of such a def keeps all that was there -/
theorem pick_pure {x qual a : Str} {st : Stmt} {f : Addr} {fd : FuncData} {pn pc ps pr : Pos} {k0 i : Nat} {B : Around} {t : Shared} {v : Value} {n : Int} {ds : List PyData} {as : List Addr}
    (F : Fun K x qual st f fd) (S : FnScope [a] [a] (defScope st)) (bd : Binds K fd [a] []) (hb : defBody st = [.Return (some (.Subscript (.Name a pn) (.Constant (.int i) k0 pc) ps)) pr]) (hloc : (defScope st).names.lookup a = some .local)
    (hdb : (a == ("__debug__" : Str)) = false) (room : Room 1 B) (inK : K.In t.heap) (noL : t.heap.NoLimit) (rd : Reads t.heap v (.tuple ds) as) (hi : ds[i]? = some (.int n)) (h63 : ds.length < 2 ^ 62) :
    wpAny (model P w) B (call (.ref f) [v]) (PySem.W.KeyPure (.int n) t) (fun _ _ => False) t := by
  obtain ⟨oc, od, kV, doc, pm, an, cdv, ct, osl, rfl, lk, hcd⟩ := F.ex
  refine wpAny_call ?_
  refine codeAny_call_function room.depth (inK _ _ lk) rfl S.co S.gen rfl (PySem.W.codeRec_of inK hcd) (bd t [v] inK rfl _ _ _ _ ?_)
  refine wpAny_newFunctionEnv_cells S.kind (fun z hz => ?_) fun env he s1 inC => ?_
  · have hz : z ∈ [(a, v)] := hz
    rw [List.mem_singleton.mp hz]
    exact .inl hloc
  subst he
  refine ⟨noL.keeps inC.toInCall.keep, codeAny_func ?_⟩
  obtain ⟨h1, tk, rfl, hk⟩ := inC.toInCall.done
  show wpAny _ _ (execs (defBody st) _) _ _ _
  rw [hb]
  have hv : (bindL (envOfC qual (defScope st) t.heap.objs.size f cdv).kindOf ([a].zip [v]) fun _ => none) a = some v := by
    simp [bindL, envOfC, Env.kindOf, hloc]
  refine wpAny_execs_cons (wpAny_Return_some (Subscript_Constant (wpAny_Name (wpAny_loadName_local S.kind hloc inC.toInCall.ns hv ?_) hdb)))
  refine wpAny_Constant_int ?_
  cases rd with
  | @tuple p o vs m xs as ho hcl hda hall =>
    obtain ⟨u, bs, hu, ru⟩ := readsAll_get hall hi
    have hlen := readsAll_len hall
    have it : IsTup h1 p vs := ⟨o, hk _ _ ho, hcl, m, hda⟩
    cases ru with
    | int _ tok =>
      have hlt := (List.getElem?_eq_some_iff.mp hi).1
      refine ⟨"tuple", _, slot_tuple_getitem.lookup, it.typeIs, getItem_tuple (j := i) (x := Value.int n tok) it (by omega) (by omega) ?_ ?_ ?_⟩
      · rw [seqIndex_of (by omega) (by rw [← Array.length_toList]; omega)]
        rfl
      · rw [← Array.getElem?_toList]
        exact hu
      · exact ⟨h1, _, rfl, hk, .int n tok⟩
end
section
variable {X : Cx} {β : Type}
/-- what is asked of the key's def -/
def KeyFn (P : Program) (w : World) (K : PySem.W.Frag) (k : Nat) (f : Addr) (enc key : β → PyData) : Prop := ∀ (B : Around) (t : Shared) (v : Value) (b : β) (as : List Addr), Room k B → K.In t.heap → t.heap.NoLimit → Reads t.heap v (enc b) as →
  wpAny (model P w) B (call (.ref f) [v]) (PySem.W.KeyPure (key b) t) (fun _ _ => False) t
def rSortK (K : PySem.W.Frag) (f : Addr) (enc key : β → PyData) : List V → List V → Hp → VK → Prop := fun vs zs H Q => ∃ (a : Addr) (xs : List V) (bs : List β), vs = [V.ref a] ∧ zs = [V.ref f] ∧ SqL K H a xs ∧ xs.length = bs.length ∧ (∀ (i : Nat) x b, xs[i]? = some x → bs[i]? = some b → Dp K H x (enc b)) ∧ PySem.W.AllAlike (bs.map key) ∧ PySem.W.Sortable (bs.map key) ∧ bs.length ≤ sizeLine ∧ (∀ b ∈ bs, (key b).depth ≤ 50) ∧
  ∀ (ys : List V) (p : Addr), ys.length = bs.length → (∀ (i : Nat) y b, ys[i]? = some y → (bs.mergeSort (PySem.W.dataLe false key))[i]? = some b → ∃ j : Nat, xs[j]? = some y ∧ bs[j]? = some b) → H p = none → Q (.ref p) (upd H p (.lst ys))
theorem cr_sortK {enc key : β → PyData} {k : Nat} {f : Addr} (hf : KeyFn X.prog X.w X.K k f enc key) (hr : Room (k + 2) X.A) : CallRK X (.builtin "sorted") [Str.ofString "key"] (rSortK X.K f enc key) := by
  intro pins s σ H vs zs us ws Q I r rz h
  obtain ⟨a, xs, bs, rfl, rfl, hs, hlen, hdp, hal, hso, hL, hdep, q⟩ := h
  obtain ⟨its, rv, hl, _⟩ := I.list hs
  obtain rfl := Vals.ref1 r
  obtain ⟨w1, rfl, e1⟩ := vals1 rz
  obtain rfl : w1 = Value.ref f := e1
  have li : its.length = bs.length := by rw [← rv.length, hlen]
  have e : PySem.W.EachIs (fun (v : Value) (b : β) => ∃ (j : Nat) (x : V), xs[j]? = some x ∧ bs[j]? = some b ∧ RelV x v) its bs := each_ix li fun i v b h1 h2 => by
    obtain ⟨x, hx, rx⟩ := vals_ix rv h1
    exact ⟨i, x, hx, h2, rx⟩
  have hun := hr.un
  refine PySem.W.sorted_key_data (b := false) key hl.isList e hal hso hL (fun b hb => by have := hdep b hb; omega) (PyProof.Rows.ksk_s1 _ _) (fun _ => PyProof.Rows.ksk_l1 _ _) (fun _ => PyProof.Rows.ksk_t1 _ _) (fun v b ⟨j, x, hx, hb, rx⟩ _ h tk kp => ?_) fun out c h' tk kp _ hD hout eo => ?_
  · obtain ⟨as, rd⟩ := Dp.reads I (enc b) x v (hdp j x b hx hb) rx
    exact hf X.A.in1.in1 { s with heap := h, toks := tk } v b as hr.in1.in1 (I.kIn.keeps kp) (I.nolimit.keeps kp) (Reads.keeps kp rd)
  have key : ∀ {out : List Value} {cs : List β}, PySem.W.EachIs (fun (v : Value) (b : β) => ∃ (j : Nat) (x : V), xs[j]? = some x ∧ bs[j]? = some b ∧ RelV x v) out cs → ∃ ys : List V, Vals ys out ∧ ∀ (i : Nat) y b, ys[i]? = some y → cs[i]? = some b → ∃ j : Nat, xs[j]? = some y ∧ bs[j]? = some b := by
    intro out cs h
    induction h with
    | nil => exact ⟨[], .nil, fun i y b h => by simp at h⟩
    | cons h1 _ ih =>
      obtain ⟨j, x, hx, hb, rx⟩ := h1
      obtain ⟨ys, hv, hy⟩ := ih
      refine ⟨x :: ys, .cons rx hv, fun i y b h1 h2 => ?_⟩
      cases i with
      | zero =>
        cases h1
        cases h2
        exact ⟨j, hx, hb⟩
      | succ i => exact hy i y b h1 h2
  obtain ⟨ys, hv, hy⟩ := key eo
  have hly : ys.length = bs.length := by rw [hv.length, hout]
  exact ⟨.ref _, upd H (s.heap.objs.size + 1) (.lst ys), I.laid (t' := tk) kp (Nat.le_succ _) ⟨by rw [hly]; exact hL, out, c, hv, hD⟩, rfl, q ys _ hly hy (I.hok.fresh (Nat.le_succ _))⟩
end
section
variable {X : Cx} {L : Lk} {τ : List (Option Sl)} {M : Cs} {Q : Sl → Cs → Prop} {e : Expr} {pos p yp kp : Pos} {β : Type}
theorem de_sortK {enc key : β → PyData} {k : Nat} {f : Addr} {y : Str} (hf : KeyFn X.prog X.w X.K k f enc key) (hr : Room (k + 2) X.A) (hg : Gl X "sorted") (hm : X.mg "sorted" = none) (hgf : Gl X y) (hmf : X.mg y = some (.ref f))
    (w : DE X L e τ M fun s M1 => ∃ bs : List β, isTup s = false ∧ seqOf M1 s = some (bs.map fun b => .d (enc b)) ∧ PySem.W.AllAlike (bs.map key) ∧ PySem.W.Sortable (bs.map key) ∧ bs.length ≤ sizeLine ∧ (∀ b ∈ bs, (enc b).canLay0 = true) ∧ (∀ b ∈ bs, (key b).depth ≤ 50) ∧
      ∀ c, M1 c = none → Q (.c c) (updC M1 c (.l ((bs.mergeSort (PySem.W.dataLe false key)).map fun b => .d (enc b)))))
    (hdb : (y == ("__debug__" : Str)) = false := by decide) (he : backTo pos (starEach [e] X.env) = (false, eval e X.env) :: backTo pos (starEach [] X.env) := by rfl) (he0 : starEach (e :: []) X.env = (false, eval e X.env) :: starEach [] X.env := by rfl) (hpl : (backTo pos (starEach [e] X.env)).any (·.1) = false := by rfl) :
    DE X L (.Call (.Name "sorted" p) [e] [⟨some (Str.ofString "key"), .Name y yp, kp⟩] pos) τ M Q :=
  de_of (pe_callBK (cr_sortK hf hr) hg hm bt_sorted (pa_cons pe_s pa_nil he0) (pk_cons (pe_glob (v := V.ref f) hgf hmf rfl hdb) pk_nil) (he := he) (hpl := hpl)) fun σ G H Q' gs gm kq => w σ G H _ gs gm fun s M1 v G1 H1 ⟨bs, hT, h, hal, hso, hL, hcan, hdep, q⟩ e1 g1 a1 => by
    obtain ⟨b, xs, rfl, r, l⟩ := seq_at g1 a1 h
    rw [hT, if_neg Bool.false_ne_true] at r
    have at_ : ∀ (i : Nat) x b, xs[i]? = some x → bs[i]? = some b → SlAt X.K G1 x (.d (enc b)) := fun i x b h1 h2 => by
      obtain ⟨y, hy, ay⟩ := l.get (i := i) (by rw [List.getElem?_map, h2]; rfl)
      rw [h1] at hy
      cases hy
      exact ay
    refine ⟨b, xs, bs, rfl, rfl, r, by rw [l.len, List.length_map], fun i x b h1 h2 => ?_, hal, hso, hL, hdep, fun ys c hly hy hc => ?_⟩
    · have := at_ i x b h1 h2
      cases this with
      | d z => exact At.dp g1 _ _ (hcan b (List.mem_of_getElem? h2)) z
    · refine kq _ _ _ G1 _ (q c (g1.free hc).2) e1 (g1.newC hc ⟨_, upd_same, sl_ix (by rw [hly, List.length_map, List.length_mergeSort]) fun i x t h1 h2 => ?_⟩) (.c c)
      rw [List.getElem?_map] at h2
      obtain ⟨b, hb, rfl⟩ := Option.map_eq_some_iff.mp h2
      obtain ⟨j, h3, h4⟩ := hy i x b h1 hb
      exact at_ j x b h3 h4
end
end Y

namespace Y
open PySem L2 PyProof.Rows
/-! [elt for tg in iter for tg1 in iter1] -/
section
variable (X : Cx) (scope : Scope)
def bI (tg iter : Expr) : TI := fun σ H R => ∀ (s0 : Shared) (H0 : Hp) (C : Addr) (cl : List (Str × Addr)) (fp : List Addr), sI (X.blk s0 H0 scope (compEnvC scope cl C X.env) fp) tg iter σ H R
def DIb (L : Lk) (tg iter : Expr) (τ : List (Option Sl)) (M : Cs) (Q : QI) : Prop := ∀ (s0 : Shared) (H0 : Hp) (C : Addr) (cl : List (Str × Addr)) (fp : List Addr), DI (X.blk s0 H0 scope (compEnvC scope cl C X.env) fp) L tg iter τ M Q
end
section
variable {X : Cx} {L : Lk} {τ : List (Option Sl)} {M : Cs} {Q : Sl → Cs → Prop} {elt tg iter tg1 iter1 : Expr} {scope : Scope} {own : List (Str × Nat)} {vs1 : List Nat} {pos : Pos} {g g1 : TG}
theorem wib {QJ : QI} (h : DIb X scope L tg iter τ M QJ) {σ : L2.St} {G H : Hp} {R : It → Hp → Prop} (gs : GoodS X.K G σ τ) (gm : GoodM X.K L M G H) (k : ∀ n S ys M1 G1 H1 J, QJ n S ys M1 → Ex G G1 → GoodM X.K L M1 G1 H1 → ItOk X.K L G1 J n S ys → R J H1) : bI X scope tg iter σ H R :=
  fun s0 H0 C cl fp => h s0 H0 C cl fp σ G H R gs gm k
theorem yesT {σ : L2.St} {H : Hp} {A B : Hp → Prop} (h : A H) : tYes σ H fun b H' => if b = true then A H' else B H' := by
  show (if true = true then A H else B H)
  rw [if_pos rfl]
  exact h
theorem we_lc2 {vs : List Nat} (w : DI X L tg iter τ M fun n S ys M1 => ∀ D, M1 D = none → ∃ Iv : Nat → Cs → Prop, Iv 0 (updC M1 D (.l [])) ∧ (∀ i M', Iv i M' → S M') ∧
      (∀ i y M', i < n → ys i y → Iv i M' → WGw X.K L vs g y (wipeK τ vs) M' fun τ2 M2 => DIb X scope L tg1 iter1 τ2 M2 fun n1 S1 ys1 M3 => ∃ Iv1 : Nat → Cs → Prop, Iv1 0 M3 ∧ (∀ j M', Iv1 j M' → S1 M') ∧
        (∀ j y M', j < n1 → ys1 j y → Iv1 j M' → WGw X.K L vs1 g1 y (wipeK τ2 vs1) M' fun τ3 M4 => DEb X scope L elt τ3 M4 fun z M5 => ∃ acc, M5 D = some (.l acc) ∧ acc.length < sizeLine ∧ Iv1 (j + 1) (updC M5 D (.l (acc ++ [z])))) ∧ (∀ M', Iv1 n1 M' → Iv (i + 1) M')) ∧ (∀ M', Iv n M' → Q (.c D) M')) :
    WE X.K L (tLc2 (sI X tg iter) g tYes (bI X scope tg1 iter1) g1 tYes (bE X scope elt) vs vs1) τ M Q := fun σ G H Q' gs gm k => w σ G H _ gs gm fun n S ys M1 G1 H1 J q e1 g1 ok D hD => by
  obtain ⟨Iv, i0, st, turn, fin⟩ := q D (g1.free hD).2
  refine ⟨fun i m H' => m = n - i ∧ i ≤ n ∧ ∃ M' G', Iv i M' ∧ Ex G1 G' ∧ GoodM X.K L M' G' H', ⟨n, by simp, Nat.zero_le _, _, G1, i0, Ex.refl _, g1.newC hD ⟨[], upd_same, .nil⟩⟩, ?_⟩
  rintro i m H' ⟨rfl, hi, M', G', iv, e', g'⟩
  by_cases hlt : i < n
  · obtain ⟨go, yl⟩ := ok.go i M' G' H' hlt (st _ _ iv) e' g'
    refine .inr ⟨go, fun H2 => ∃ M2 G2, Iv (i + 1) M2 ∧ Ex G1 G2 ∧ GoodM X.K L M2 G2 H2, fun H2 ⟨M2, G2, h⟩ => ⟨n - (i + 1), by omega, rfl, hlt, M2, G2, h⟩, fun x H2 hy => ?_⟩
    obtain ⟨y, G2, yy, e2, g2, ay⟩ := yl x H2 hy
    have e12 := e'.trans e2
    refine turn i y M' hlt yy iv _ G2 H2 x _ ((gs.mono (e1.trans e12)).wipe vs) g2 ay fun τ3 M3 σ3 G3 H3 q3 e3 g3 s3 z3 => ?_
    refine ⟨z3.trans wipe_wipe, ?_⟩
    have e13 := e12.trans e3
    refine yesT ?_
    refine wib q3 s3 g3 fun n1 S1 ys1 M4 G4 H4 J1 q4 e4 g4 ok1 => ?_
    obtain ⟨Iv1, j0, st1, turn1, fin1⟩ := q4
    refine ⟨fun j m H' => m = n1 - j ∧ j ≤ n1 ∧ ∃ M' G', Iv1 j M' ∧ Ex G4 G' ∧ GoodM X.K L M' G' H', ⟨n1, by simp, Nat.zero_le _, _, G4, j0, Ex.refl _, g4⟩, ?_⟩
    rintro j m H5 ⟨rfl, hj, M5, G5, iv5, e5, g5⟩
    by_cases hlt1 : j < n1
    · obtain ⟨go1, yl1⟩ := ok1.go j M5 G5 H5 hlt1 (st1 _ _ iv5) e5 g5
      refine .inr ⟨go1, fun H6 => ∃ M6 G6, Iv1 (j + 1) M6 ∧ Ex G4 G6 ∧ GoodM X.K L M6 G6 H6, fun H6 ⟨M6, G6, h⟩ => ⟨n1 - (j + 1), by omega, rfl, hlt1, M6, G6, h⟩, fun x H6 hy => ?_⟩
      obtain ⟨y1, G6, yy1, e6, g6, ay1⟩ := yl1 x H6 hy
      refine turn1 j y1 M5 hlt1 yy1 iv5 _ G6 H6 x _ ((s3.mono ((e4.trans e5).trans e6)).wipe vs1) g6 ay1 fun τ7 M7 σ7 G7 H7 q7 e7 g7 s7 z7 => ?_
      refine ⟨z7.trans wipe_wipe, ?_⟩
      refine yesT ?_
      refine web q7 σ7 G7 H7 _ s7 g7 fun z M8 v G8 H8 ⟨acc, hacc, hl, iv8⟩ e8 g8 a8 => ?_
      obtain ⟨f8, xs, h1, h2⟩ := g8.cell D _ hacc
      refine ⟨xs, h1, by rw [h2.len]; exact hl, _, G8, iv8, ((e5.trans e6).trans e7).trans e8, ?_⟩
      exact g8.write hacc h1 (fun _ _ z => nomatch z) ⟨_, upd_same, h2.append (.cons a8 .nil)⟩
    · have e : j = n1 := by omega
      subst e
      exact .inl ⟨ok1.stop M5 G5 H5 (st1 _ _ iv5) e5 g5, M5, G5, fin1 _ iv5, e13.trans (e4.trans e5), g5⟩
  · have e : i = n := by omega
    subst e
    exact .inl ⟨ok.stop M' G' H' (st _ _ iv) e' g', k _ M' _ G' H' (fin _ iv) (e1.trans e') g' (.c D)⟩
theorem de_lc2 (hc : X.calm = true) (hN : X.N.Nodup) (ok : BlkOk X.N X.env.scope scope own) (hv : ∀ i ∈ vs1, i ∈ own.map (·.2)) (hg : ∀ (s : Shared) (H : Hp) (C : Addr) (cl : List (Str × Addr)) (fp : List Addr), PG (X.blk s H scope (compEnvC scope cl C X.env) fp) tg g)
    (hg1 : ∀ (s : Shared) (H : Hp) (C : Addr) (cl : List (Str × Addr)) (fp : List Addr), PG (X.blk s H scope (compEnvC scope cl C X.env) fp) tg1 g1)
    (w : DI X L tg iter τ M fun n S ys M1 => ∀ D, M1 D = none → ∃ Iv : Nat → Cs → Prop, Iv 0 (updC M1 D (.l [])) ∧ (∀ i M', Iv i M' → S M') ∧
      (∀ i y M', i < n → ys i y → Iv i M' → WGw X.K L (own.map (·.2)) g y (wipeK τ (own.map (·.2))) M' fun τ2 M2 => DIb X scope L tg1 iter1 τ2 M2 fun n1 S1 ys1 M3 => ∃ Iv1 : Nat → Cs → Prop, Iv1 0 M3 ∧ (∀ j M', Iv1 j M' → S1 M') ∧
        (∀ j y M', j < n1 → ys1 j y → Iv1 j M' → WGw X.K L vs1 g1 y (wipeK τ2 vs1) M' fun τ3 M4 => DEb X scope L elt τ3 M4 fun z M5 => ∃ acc, M5 D = some (.l acc) ∧ acc.length < sizeLine ∧ Iv1 (j + 1) (updC M5 D (.l (acc ++ [z])))) ∧ (∀ M', Iv1 n1 M' → Iv (i + 1) M')) ∧ (∀ M', Iv n M' → Q (.c D) M'))
    (hs : ∀ x, foldedSetIterable iter X.env x = pure x := by intro _; rfl) (hs1 : ∀ env x, foldedSetIterable iter1 env x = pure x := by intro _ _; rfl) : DE X L (.ListComp elt [⟨tg, iter, [], 0⟩, ⟨tg1, iter1, [], 0⟩] scope pos) τ M Q :=
  de_of (pe_lc2 (te := bE X scope elt) (wi1 := bI X scope tg1 iter1) hc hN pi_s ok hv hg (fun _ _ _ _ _ => pts_nil) (fun s H C cl fp => ⟨fun pins s' σ H' R I h => h s H C cl fp pins s' I⟩) hg1 (fun _ _ _ _ _ => pts_nil) (fun s H C cl fp => ⟨fun pins s' σ H' Q' I h => h s H C cl fp pins s' I⟩) hs hs1) (we_lc2 w)
theorem ds_setLc2 {i : Nat} {y : Str} {py spos : Pos} {E : Ks} (hc : X.calm = true) (hN : X.N.Nodup) (hy : X.N[i]? = some y) (hyl : X.env.scope.names.lookup y = some .local)
    (hsw : swapsWith (.ListComp elt [⟨tg, iter, [], 0⟩, ⟨tg1, iter1, [], 0⟩] scope pos) (some (.Name y py)) spos.line X.env = pure true) (ok : BlkOk X.N X.env.scope scope own) (hv : ∀ i ∈ vs1, i ∈ own.map (·.2)) (hg : ∀ (s : Shared) (H : Hp) (C : Addr) (cl : List (Str × Addr)) (fp : List Addr), PG (X.blk s H scope (compEnvC scope cl C X.env) fp) tg g)
    (hg1 : ∀ (s : Shared) (H : Hp) (C : Addr) (cl : List (Str × Addr)) (fp : List Addr), PG (X.blk s H scope (compEnvC scope cl C X.env) fp) tg1 g1)
    (w : DI X L tg iter τ M fun n S ys M1 => ∀ D, M1 D = none → ∃ Iv : Nat → Cs → Prop, Iv 0 (updC M1 D (.l [])) ∧ (∀ i M', Iv i M' → S M') ∧
      (∀ i y M', i < n → ys i y → Iv i M' → WGw X.K L (own.map (·.2)) g y (wipeK τ (own.map (·.2))) M' fun τ2 M2 => DIb X scope L tg1 iter1 τ2 M2 fun n1 S1 ys1 M3 => ∃ Iv1 : Nat → Cs → Prop, Iv1 0 M3 ∧ (∀ j M', Iv1 j M' → S1 M') ∧
        (∀ j y M', j < n1 → ys1 j y → Iv1 j M' → WGw X.K L vs1 g1 y (wipeK τ2 vs1) M' fun τ3 M4 => DEb X scope L elt τ3 M4 fun z M5 => ∃ acc, M5 D = some (.l acc) ∧ acc.length < sizeLine ∧ Iv1 (j + 1) (updC M5 D (.l (acc ++ [z])))) ∧ (∀ M', Iv1 n1 M' → Iv (i + 1) M')) ∧ (∀ M', Iv n M' → E.nx (τ.set i (some (.c D))) M'))
    (hs : ∀ x, foldedSetIterable iter X.env x = pure x := by intro _; rfl) (hs1 : ∀ env x, foldedSetIterable iter1 env x = pure x := by intro _ _; rfl) : DS X L (.Assign [.Name y py] (.ListComp elt [⟨tg, iter, [], 0⟩, ⟨tg1, iter1, [], 0⟩] scope pos) spos) τ M E :=
  ds_of (ps_setLc2 (te := bE X scope elt) (wi1 := bI X scope tg1 iter1) hc hN hy hyl hsw pi_s ok hv hg (fun _ _ _ _ _ => pts_nil) (fun s H C cl fp => ⟨fun pins s' σ H' R I h => h s H C cl fp pins s' I⟩) hg1 (fun _ _ _ _ _ => pts_nil) (fun s H C cl fp => ⟨fun pins s' σ H' Q' I h => h s H C cl fp pins s' I⟩) hs hs1) fun σ G H D gs gm k =>
    we_lc2 (L := L) (M := M) (τ := τ) (Q := fun s M' => E.nx (τ.set i (some s)) M') w σ G H _ gs gm (fun s M1 v G1 H1 q e1 g1 a1 => (k.nx.mono e1).go q g1 ((gs.mono e1).set a1 i))
end
end Y

namespace Y
open PySem L2 PyProof.Rows
/-! d == e, d != e, two dicts of the same keys whose values are equal data -/
def SameV (K : PySem.W.Frag) (H : Hp) (x y : V) : Prop := ∃ d e, Dp K H x d ∧ Dp K H y e ∧ SeqAt.shaped d = true ∧ SeqAt.shaped e = true ∧ PyData.eqv d e = true
def rKeyD (b : Bool) (K : PySem.W.Frag) : R2 := fun x y H Q => ∃ (a c : Addr) (ks ls : List (Key × V)), x = .ref a ∧ y = .ref c ∧ Rd H a (.dK ks) ∧ Rd H c (.dK ls) ∧ ks.length = ls.length ∧ (∀ p ∈ ks, ∃ u, valV ls p.1 = some u ∧ SameV K H p.2 u) ∧ Q (.bl b) H
section
variable {X : Cx} {pins : List (Addr × Obj)} {σ : L2.St} {H : Hp} {s : Shared}
theorem keyd_hits (I : Inv X pins σ H s) {A : Around} (hu : A.in1.units + 64 < cLine) {ls : List (Key × V)} {vb : List (Key × Value)} (rb : KV ls vb) {ks : List (Key × V)} {va : List (Key × Value)} (ra : KV ks va) :
    (∀ p ∈ ks, ∃ u, valV ls p.1 = some u ∧ SameV X.K H p.2 u) → PySem.W.KeqHits A.in1 s vb va true := by
  unfold KV at ra
  induction ra with
  | nil => exact fun _ => .nil
  | @cons p q ps qs h t ih =>
    intro hp
    obtain ⟨h1, h2⟩ := h
    obtain ⟨u, e, d1, d2, m1, m2, g1, g2, ee⟩ := hp p List.mem_cons_self
    have ro : RelO (some u) (valueAt vb p.1) := e ▸ rb.val p.1
    obtain ⟨y, hy, ry⟩ := ro.some_of
    obtain ⟨key, v⟩ := q
    have h1' : p.1 = key := h1
    rw [h1'] at hy
    obtain ⟨as, r1⟩ := Dp.reads I d1 p.2 v m1 h2
    obtain ⟨bs, r2⟩ := Dp.reads I d2 u y m2 ry
    have at_ := PySem.W.keq_at (A := A) r1 r2 g1 g2 hu
    rw [ee] at at_
    have := PySem.W.KeqHits.hit hy at_ (ih fun z hz => hp z (List.mem_cons_of_mem _ hz))
    exact this
theorem op_eqK (hu : X.A.units + 65 < cLine) : OpR X (compareOp .Eq) (rKeyD true X.K) := by
  intro pins s σ H x y v u Q I rx ry h
  obtain ⟨a, c, ks, ls, rfl, rfl, ha, hc, hl, hh, q⟩ := h
  cases (show v = Value.ref a from rx)
  cases (show u = Value.ref c from ry)
  obtain ⟨_, ya, va, ra, da⟩ := (show ObjOk X.prog X.w H s.heap a (.dK ks) from ha.ok I.hok)
  obtain ⟨_, yb, vb, rb, db⟩ := (show ObjOk X.prog X.w H s.heap c (.dK ls) from hc.ok I.hok)
  have hz : va.length = vb.length := by rw [← ra.length, ← rb.length]; exact hl
  refine PySem.W.keq_eq (knd := mixKind X.prog X.w) (r := true) ya yb da db (by omega) (fun _ => keyd_hits I (by show X.A.units + 1 + 64 < _; omega) rb ra hh) ?_
  rw [show (va.length == vb.length && true) = true by rw [hz]; simp]
  exact ⟨.bl true, H, I, rfl, q⟩
theorem op_neK (hu : X.A.units + 65 < cLine) : OpR X (compareOp .NotEq) (rKeyD false X.K) := by
  intro pins s σ H x y v u Q I rx ry h
  obtain ⟨a, c, ks, ls, rfl, rfl, ha, hc, hl, hh, q⟩ := h
  cases (show v = Value.ref a from rx)
  cases (show u = Value.ref c from ry)
  obtain ⟨_, ya, va, ra, da⟩ := (show ObjOk X.prog X.w H s.heap a (.dK ks) from ha.ok I.hok)
  obtain ⟨_, yb, vb, rb, db⟩ := (show ObjOk X.prog X.w H s.heap c (.dK ls) from hc.ok I.hok)
  have hz : va.length = vb.length := by rw [← ra.length, ← rb.length]; exact hl
  refine PySem.W.keq_ne (knd := mixKind X.prog X.w) (r := true) ya yb da db (by omega) (fun _ => keyd_hits I (by show X.A.units + 1 + 64 < _; omega) rb ra hh) ?_
  rw [show (!(va.length == vb.length && true)) = false by rw [hz]; simp]
  exact ⟨.bl false, H, I, rfl, q⟩
end
section
variable {K : PySem.W.Frag} {L : Lk} {M : Cs} {G : Hp}
theorem KvAt.mem : ∀ {xs : List (Key × V)} {ys : List (Key × Sl)}, KvAt K G xs ys → ∀ p ∈ xs, ∃ q ∈ ys, p.1 = q.1 ∧ SlAt K G p.2 q.2
  | [], [], _, p, hp => nomatch hp
  | x :: xs, y :: ys, ⟨e, a, h⟩, p, hp => by
    rcases List.mem_cons.mp hp with rfl | hp
    · exact ⟨y, List.mem_cons_self, e, a⟩
    · obtain ⟨q, hq, z⟩ := KvAt.mem h p hp
      exact ⟨q, List.mem_cons_of_mem _ hq, z⟩
  | [], _ :: _, h, _, _ => h.elim
  | _ :: _, [], h, _, _ => h.elim
/-- equal data behind two values -/
def SameS (M : Cs) (x y : Sl) : Prop := ∃ d e, IsD M x d ∧ IsD M y e ∧ SeqAt.shaped d = true ∧ SeqAt.shaped e = true ∧ PyData.eqv d e = true
variable {Q : Sl → Cs → Prop} {x y : Sl} {b : Bool}
theorem k_keyD {ks ls : List (Key × Sl)} (hx : DictIs M x ks) (hy : DictIs M y ls) (hl : ks.length = ls.length) (hh : ∀ p ∈ ks, ∃ u, valS ls p.1 = some u ∧ SameS M p.2 u) (q : Q (.d (.bool b)) M) : R2k K L (rKeyD b K) x y M Q := fun G H v u Q' g a1 a2 k => by
  obtain ⟨p, xs, rfl, r, l⟩ := dict_at g a1 hx
  obtain ⟨p2, xs2, rfl, r2, l2⟩ := dict_at g a2 hy
  refine ⟨p, p2, xs, xs2, rfl, rfl, r, r2, by rw [l.len, l2.len, hl], fun z hz => ?_, k.go q g (.d (.bl _))⟩
  obtain ⟨w, hw, ew, aw⟩ := l.mem z hz
  obtain ⟨t, ht, d, e, i1, i2, s1, s2, ee⟩ := hh w hw
  have hv := l2.val w.1
  rw [ht] at hv
  obtain ⟨vt, hvt, at_⟩ := hv
  exact ⟨vt, by rw [ew]; exact hvt, d, e, i1.dp g (SeqAt.canLay_of_shaped s1) aw, i2.dp g (SeqAt.canLay_of_shaped s2) at_, s1, s2, ee⟩
end
end Y

namespace Y
open PySem L2 PyProof.Rows
section
variable {X : Cx} {L : Lk} {τ : List (Option Sl)} {M : Cs} {Q : Sl → Cs → Prop} {a : Expr} {p p2 pos pos2 : Pos}
/-- list(range(n)) -/
theorem de_listRg1 (hc : X.calm = true) (hg : Gl X "list") (hm : X.mg "list" = none) (hg2 : Gl X "range") (hm2 : X.mg "range" = none) (w : DE X L a τ M fun s M1 => ∃ j : Int, s = dI j ∧ j.toNat ≤ 2 ^ 24 ∧ ∀ q, M1 q = none → Q (.c q) (updC M1 q (.l (rgI 0 j))))
    (na : starEach [.Call (.Name "range" p2) [a] [] pos2] X.env = (false, eval (.Call (.Name "range" p2) [a] [] pos2) X.env) :: starEach [] X.env := by rfl) (nb : starEach [a] X.env = (false, eval a X.env) :: starEach [] X.env := by rfl) :
    DE X L (.Call (.Name "list" p) [.Call (.Name "range" p2) [a] [] pos2] [] pos) τ M Q := by
  refine de_of (pe_listRgL hc hg hm (prg_1 hg2 hm2 pe_s nb) na) fun σ G H Q' gs gm k => ?_
  refine w σ G H _ gs gm ?_
  rintro s M1 v G1 H1 ⟨j, es, le, q2⟩ e1 g1 a1
  subst es
  refine ⟨j, sl_int a1, by rw [Int.sub_zero]; exact le, fun c hc => ?_⟩
  exact k _ _ _ _ _ (q2 c (g1.free hc).2) e1 (g1.newC hc ⟨_, upd_same, rg_sl 0 j⟩) (.c c)
end
end Y

/-! sorted(set(xs)), xs a list of ints -/
namespace L2
open PySem PySem.Spec PyProof.Rows
section
variable {pr : Program} {wd : World} {Ar : Around} {Er : Value → Shared → Prop} {sh : Shared}
abbrev nuS (wd : World) : Obj := { cls := .type "set", dict := none, data := .set #[] 0 (.fresh 0 0 (!wd.params.followText "set-order")) }
theorem mkset_ints {lp : Addr} {its : Array Value} (zs : List Int) {K : Value → Shared → Prop} (calm : Ar.handled = none) (src : sh.heap.IsList lp its) (hin : IntsAre its.toList zs) (few : zs.length + 1 < scanBound)
    (done : ∀ (h1 : Heap) (tk n : Nat), SetR wd h1 sh.heap.objs.size (fun z => decide (z ∈ zs)) n → n ≤ zs.length → (∀ b o, sh.heap.get? b = some o → h1.get? b = some o) → K (.ref sh.heap.objs.size) { sh with heap := h1, toks := tk }) :
    wpAny (model pr wd) Ar (call (.type "set") [.ref lp]) K Er sh := by
  have size_ : its.size = zs.length := (Array.length_toList (xs := its)).symm.trans (IntsAre.length hin)
  obtain ⟨cx, tx, mx⟩ := F.called_set.mro
  have made_ := F.called_set.made
  have sub_ := F.called_set.sub
  refine wpAny_call (codeAny_of_tree (show wpAny _ _ (callAny (.type "set") _) _ _ _ from wpAny_pure ⟨Code.quiet_builtin _ (by decide +kernel), codeAny_builtin F.entry_type_call ?_⟩))
  rw [Around.under_plain (weight_type_call_type "set" [.ref lp] []) rfl]
  have nt_ := F.called_set.notType
  have cc_ := F.called_set.canCreate
  have tc_ := F.typeCall_set_1 (.ref lp)
  repeat (any_goals (first | wp_step | assumption))
  refine codeAny_mono (code_set_led1 (.ref lp) (E := Er) (Q₁ := fun ob s1 => ob = .ref sh.heap.objs.size ∧ s1 = { sh with heap := sh.heap.push (nuS wd) }) ⟨rfl, rfl⟩) fun res s1 hres => ?_
  rcases res with ex | fl
  · exact hres
  cases fl with
  | ret ob =>
    obtain ⟨rfl, rfl⟩ := hres
    have at_ : (sh.heap.push (nuS wd)).get? sh.heap.objs.size = some (nuS wd) := Heap.get?_push_size _ rfl
    have ty_ : Shared.TypeIs { sh with heap := sh.heap.push (nuS wd) } (.ref sh.heap.objs.size) "set" := ⟨_, at_, rfl⟩
    have lk_ := F.called_set.init.lookup
    have bi_ := F.called_set.init.bind (.ref sh.heap.objs.size)
    repeat (any_goals (first | wp_step | assumption))
    refine codeAny_mono (codeAny_call_builtin (R := wants (fun r s2 => r = .none ∧ ∃ h1 tk n, s2 = { sh with heap := h1, toks := tk } ∧ SetR wd h1 sh.heap.objs.size (fun z => decide (z ∈ zs)) n ∧ n ≤ zs.length ∧ (∀ b o, sh.heap.get? b = some o → h1.get? b = some o)) Er) F.called_set.init.plain F.entry_set_init (check_set_init_1 ty_ ?_)) fun res2 s2 hres2 => ?_
    · obtain ⟨⟨_, dd, dat, sl⟩, hol, hc, nl, hd⟩ := src
      simp only at hc hd
      subst hc
      subst hd
      have hol2 := Heap.get?_push_of_some (nuS wd) hol
      have e1_ := F.sub_list_set
      have e2_ := F.sub_list_frozenset
      have e3_ : (Value.type "list" == Value.type "dict") = false := by decide
      have ls_ : (sh.heap.push (nuS wd)).IsList lp its := ⟨_, hol2, rfl, nl, rfl⟩
      unfold Builtin.«set.__init__» noKeywords Builtin.Frozenset.updateFrom
      generalize hIt : pyIter = It
      wp_walk
      subst hIt
      refine wpAny_pyIter_list ls_ (wpAny_bind (wpAny_runValue ?_))
      have low := Heap.lt_size hol
      have sz_ : (sh.heap.push (nuS wd)).objs.size = sh.heap.objs.size + 1 := Heap.size_push ..
      have calm3 : Ar.in1.in1.in1.handled = none := by simp [calm]
      have apart : lp ≠ (sh.heap.push (nuS wd)).objs.size := by rw [sz_]; exact Nat.ne_of_lt (Nat.lt_succ_of_lt low)
      have free_ : sh.heap.objs.size ∉ [(sh.heap.push (nuS wd)).objs.size, lp] := fun hm => by
        rcases List.mem_cons.mp hm with e | hm
        · rw [sz_] at e
          exact absurd e (Nat.ne_of_lt (Nat.lt_succ_self _))
        · have e := List.mem_singleton.mp hm
          rw [← e] at low
          exact absurd low (Nat.lt_irrefl _)
      refine set_update_ints ((Walks.list calm3 _ lp apart its).toS) sh.heap.objs.size free_ zs size_ few (fun i v hv => ?_) (its.size - 0) 0 _ (by omega) (Nat.zero_le _) ⟨⟨_, Heap.get?_push_size _ rfl, rfl, rfl⟩, ls_.push _⟩ ⟨0, Nat.le_refl 0, setR_new_at (Heap.get?_push_of_some _ at_)⟩ ?_
      · have lt_ : i < zs.length := by
          rw [← size_]
          exact (Array.getElem?_eq_some_iff.mp hv).1
        obtain ⟨t, e⟩ := IntsAre.int_at hin i v (by rw [Array.getElem?_toList, hv])
        exact ⟨zs[i], t, List.getElem?_eq_getElem lt_, by rw [e, List.getD_eq_getElem?_getD, List.getElem?_eq_getElem lt_]; rfl⟩
      · rintro ⟨h1, g2, d2, tk, os2⟩ n mv hn hS
        obtain rfl : g2 = sh.gens := mv.gens
        obtain rfl : d2 = sh.drawn := mv.drawn
        obtain rfl : os2 = sh.os := mv.os
        rw [size_] at hn
        show wpAny _ _ _ _ _ _
        refine wpAny_pure (show wpAny _ _ (ret Value.none) _ _ _ from wpAny_pure ⟨rfl, h1, tk, n, rfl, hS, hn, fun b o e => ?_⟩)
        have lb := Heap.lt_size e
        refine mv.heap b o (fun hm => ?_) (Heap.get?_push_of_some _ (Heap.get?_push_of_some _ e))
        rcases List.mem_cons.mp hm with z | hm
        · exact absurd z (Nat.ne_of_lt lb)
        · have z := List.mem_singleton.mp hm
          rw [sz_] at z
          exact absurd z (Nat.ne_of_lt (Nat.lt_succ_of_lt lb))
    · rcases res2 with ex | fl2
      · exact hres2
      cases fl2 with
      | ret r =>
        obtain ⟨rfl, h1, tk, n, rfl, hS, hn, hk⟩ := hres2
        repeat (any_goals (first | wp_step | assumption))
        exact done _ _ _ hS hn hk
      | next => exact hres2.elim
      | brk => exact hres2.elim
      | cont => exact hres2.elim
  | next => exact hres.elim
  | brk => exact hres.elim
  | cont => exact hres.elim
end
section
variable {X : Cx}
def rSetOfI (K : PySem.W.Frag) (w : World) : List V → Hp → VK → Prop := fun xs H Q => ∃ (l : Addr) (zs : List Int), xs = [V.ref l] ∧ SqL K H l (zs.map V.int) ∧ zs.length < 4000 ∧ ∀ a n, H a = none → n ≤ zs.length → Q (.ref a) (upd H a (SetO w a (fun z => decide (z ∈ zs)) n))
theorem cr_setOfI (hc : X.calm = true) : CallR X (.type "set") (rSetOfI X.K X.w) := by
  intro pins s σ H xs us Q I r h
  obtain ⟨l, zs, rfl, hl, few, q⟩ := h
  rw [Vals.ref1 r]
  obtain ⟨its, rv, pl, _⟩ := I.list hl
  refine mkset_ints (pr := X.prog) (wd := X.w) zs (I.ok.hd hc) pl.isList (by simpa using rv.ints) (by unfold scanBound; omega) fun h1 tk n hS hn hk => ?_
  exact ⟨.ref s.heap.objs.size, upd H s.heap.objs.size (SetO X.w s.heap.objs.size (fun z => decide (z ∈ zs)) n), I.laid (t' := tk) hk (Nat.le_refl _) (setO_new hS), rfl, q _ n (I.hok.fresh (Nat.le_refl _)) hn⟩
end
end L2
namespace Y
open PySem L2 PyProof.Rows
section
variable {X : Cx} {L : Lk} {τ : List (Option Sl)} {M : Cs} {Q : Sl → Cs → Prop} {a : Expr} {p p2 pos pos2 : Pos}
/-- sorted(set(xs)) of fewer than 64 ints -/
theorem de_sortSet (hc : X.calm = true) (hg : Gl X "sorted") (hm : X.mg "sorted" = none) (hg2 : Gl X "set") (hm2 : X.mg "set" = none) (w : DE X L a τ M fun s M1 => ∃ ns : List Int, isTup s = false ∧ seqOf M1 s = some (ns.map dI) ∧ ns.length < 64 ∧ ∀ (zs : List Int) (c : Addr), zs.Pairwise (· < ·) → (∀ k, k ∈ zs ↔ k ∈ ns) → M1 c = none → Q (.c c) (updC M1 c (.l (zs.map dI))))
    (na : starEach [.Call (.Name "set" p2) [a] [] pos2] X.env = (false, eval (.Call (.Name "set" p2) [a] [] pos2) X.env) :: starEach [] X.env := by rfl) (nb : starEach [a] X.env = (false, eval a X.env) :: starEach [] X.env := by rfl) :
    DE X L (.Call (.Name "sorted" p) [.Call (.Name "set" p2) [a] [] pos2] [] pos) τ M Q := by
  refine de_of (pe_callB (cr_sortedSet hc) hg hm bt_sorted (pa_cons (pe_callTy (cr_setOfI hc) hg2 hm2 (by decide) (pa_cons pe_s pa_nil nb) (he := nb)) pa_nil na) (he := na)) fun σ G H Q' gs gm k => ?_
  refine w σ G H _ gs gm ?_
  rintro s M1 v G1 H1 ⟨ns, hT, h, few, q⟩ e1 g1 a1
  obtain ⟨b, xs, rfl, r, l⟩ := seq_at g1 a1 h
  rw [hT, if_neg Bool.false_ne_true, ints_at l] at r
  refine ⟨b, ns, rfl, r, by omega, fun c n hc1 hn => ?_⟩
  refine ⟨c, _, n, rfl, upd_same, by omega, fun zs d h1 h2 _ hd => ?_⟩
  have g2 := g1.newD (o := SetO X.w c (fun z => decide (z ∈ ns)) n) hc1
  have hd2 := (g2.free hd).2
  have e2 : Ex G1 (upd G1 c (SetO X.w c (fun z => decide (z ∈ ns)) n)) := Ex.new (g1.free hc1).1
  exact k _ _ _ _ _ (q zs d h1 (fun k => (h2 k).trans (by simp)) hd2) (e1.trans e2) (g2.newC hd ⟨_, upd_same, ints_sl zs⟩) (.c d)
end
end Y

/-! sorted(a set of ints) of any length; a < b of alike data; a is b of truth values -/
namespace L2
open PySem PySem.Spec PyProof.Rows
theorem eachInt : ∀ {us : List Value} {js : List Int}, IntsAre us js → PySem.W.EachIs (fun (v : Value) (j : Int) => ∃ t, v = Value.int j t) us js
  | _, _, .nil => .nil
  | _, _, .cons n t h => .cons ⟨t, rfl⟩ (eachInt h)
theorem intEach : ∀ {us : List Value} {js : List Int}, PySem.W.EachIs (fun (v : Value) (j : Int) => ∃ t, v = Value.int j t) us js → IntsAre us js
  | _, _, .nil => .nil
  | _, _, .cons h r => by
    obtain ⟨t, rfl⟩ := h
    exact .cons _ t (intEach r)
section
variable {pr : Program} {wd : World} {Ar : Around} {Er : Value → Shared → Prop} {sh : Shared} {at_ : Addr}
theorem sortset_any {T : Int → Bool} {m : Nat} {K : Value → Shared → Prop} (R : SetR wd sh.heap at_ T m) (calm : Ar.handled = none) (few : m ≤ 100000) (room : Ar.units + 64 < cLine)
    (done : ∀ s' p (out : Array Value) (c : Nat) (js : List Int), (∀ b o, sh.heap.get? b = some o → s'.heap.get? b = some o) → s'.gens = sh.gens → s'.os = sh.os → sh.heap.objs.size ≤ p →
      s'.heap.get? p = some (seqObj "list" out c) → IntsAre out.toList js → js.Pairwise (· < ·) → (∀ k, k ∈ js ↔ T k = true) → js.length = m → K (.ref p) s') :
    wpAny (model pr wd) Ar (call (.builtin "sorted") [.ref at_]) K Er sh := by
  obtain ⟨ob, es, ep, tb, ho, hex, hd, g, nd, hm, hb, hf, hn, hr, hl⟩ := R
  refine Calls.call_function_entry kind_sorted plain_sorted entry_sorted (args_sorted1 _) ?_; unfold Builtin.«sorted»; refine wpAny_bind (m := checkCount "sorted" 1 1 _) (wpAny_pure ?_)
  refine wpAny_bind (collect_set (A := Ar.in1) calm ⟨ob, ho, hex.1, hd⟩ hf hb hr hl fun s1 us k1 hz g1 o1 pm => ?_)
  have hul : us.length = m := by rw [pm.length_eq, List.length_map, Array.length_toList]; exact hn
  have hI : IntsAre us (us.map Builtin.Re.reRawOf) := ints_of us fun v hv => by
    obtain ⟨e, he, q⟩ := List.mem_map.mp (pm.mem_iff.mp hv); obtain ⟨k, tk, h1, _⟩ := g e he
    exact ⟨k, tk, q ▸ h1⟩
  have pk : (us.map Builtin.Re.reRawOf).Perm (es.toList.map keyOf) := by
    have := pm.map Builtin.Re.reRawOf
    rwa [List.map_map] at this
  have hll : (us.map Builtin.Re.reRawOf).length = m := by rw [List.length_map]; exact hul
  generalize us.map Builtin.Re.reRawOf = js at hI pk hll
  have sz : (100000 : Nat) ≤ sizeLine := by rw [sizeLine_eq]; decide
  refine wpAny_bind (wpAny_newList ?_ (by rw [hul]; omega))
  have hoL : (s1.heap.push (seqObj "list" us.toArray 0)).get? s1.heap.objs.size = some (seqObj "list" us.toArray 0) := Heap.get?_push_size _ rfl
  have eL := eachInt hI
  refine wpAny_bind (wpAny_holding (PySem.W.list_sort_data (enc := PyData.int) (bs := js) hoL eL (eL.mono fun v j ⟨t, e⟩ => ⟨[], by rw [e]; exact .int j t, by simp⟩) (fun d hd d' hd' => ?_) (.inr fun d hd => ?_) (by omega) (fun b _ => ?_) fun out hout eo => ?_))
  · obtain ⟨a, _, rfl⟩ := List.mem_map.mp hd
    obtain ⟨b, _, rfl⟩ := List.mem_map.mp hd'
    simp [PySem.W.alike]
  · obtain ⟨a, _, rfl⟩ := List.mem_map.mp hd
    exact ⟨fun z => (nomatch z), fun xs z => (nomatch z)⟩
  · have h0 : (PyData.int b).depth = 0 := by simp [PyData.depth]
    rw [h0]
    show Ar.units + 1 + 1 + 0 < cLine
    omega
  have e : PySem.W.dataLe false PyData.int = fun a b : Int => decide (a ≤ b) := PySem.W.dataLe_int fun j : Int => j
  rw [e] at eo
  have hso : (js.mergeSort fun a b : Int => decide (a ≤ b)).Pairwise (· ≤ ·) := by
    refine List.Pairwise.imp (fun {a b} h1 => of_decide_eq_true h1) (List.pairwise_mergeSort (le := fun a b : Int => decide (a ≤ b)) (fun a b c h k => ?_) (fun a b => ?_) js)
    · have h := of_decide_eq_true h
      have k := of_decide_eq_true k
      exact decide_eq_true (by omega)
    · rw [Bool.or_eq_true, decide_eq_true_eq, decide_eq_true_eq]
      omega
  have pm2 := List.mergeSort_perm js fun a b : Int => decide (a ≤ b)
  generalize js.mergeSort (fun a b : Int => decide (a ≤ b)) = ks at eo hso pm2
  obtain ⟨c, hc⟩ := sortedHeap_at (vs := us) (out := out.toArray) hoL
  have pn : ks.Perm (es.toList.map keyOf) := pm2.trans pk
  refine wpAny_pure ⟨_, rfl, done _ s1.heap.objs.size out.toArray c ks (fun b u e => ?_) g1 o1 hz hc (by simpa using intEach eo) (lt_of_le_nodup ks hso (pn.nodup_iff.mpr nd)) (fun k => by rw [pn.mem_iff, ← hm k]) ?_⟩
  · have kept := k1 b u e; have hlt := Heap.lt_size kept
    show (sortedHeap (s1.heap.push (seqObj "list" us.toArray 0)) s1.heap.objs.size us out.toArray).get? b = some u
    rw [sortedHeap_old (Nat.ne_of_lt hlt) (by rw [size_push']; exact Nat.lt_succ_of_lt hlt)]
    exact Heap.get?_push_of_some _ kept
  · rw [pn.length_eq, List.length_map, Array.length_toList]; exact hn
end
section
variable {X : Cx}
def rSortSetB (w : World) : List V → Hp → VK → Prop := fun vs H Q => ∃ (a : Addr) (T : Int → Bool) (m : Nat), vs = [V.ref a] ∧ H a = some (SetO w a T m) ∧ m ≤ 100000 ∧
  ∀ (js : List Int) (p : Addr), js.Pairwise (· < ·) → (∀ k : Int, k ∈ js ↔ T k = true) → js.length = m → H p = none → Q (.ref p) (upd H p (.lst (js.map V.int)))
theorem cr_sortSetB (hc : X.calm = true) (hu : X.A.units + 64 < cLine) : CallR X (.builtin "sorted") (rSortSetB X.w) := by
  intro pins s σ H vs us Q I r h
  obtain ⟨a, T, m, rfl, ha, few, q⟩ := h
  have R := setO_get I ha
  rw [Vals.ref1 r]
  refine sortset_any R (I.ok.hd hc) few hu fun s2 p out c js kp g o hp hg hi hs hm hl => ?_
  have hlen : (js.map V.int).length ≤ sizeLine := by rw [List.length_map, hl, sizeLine_eq]; omega
  have fresh : H p = none := I.hok.fresh hp
  have J : Inv X pins σ (upd H p (.lst (js.map V.int))) { s with heap := s2.heap, gens := s2.gens, drawn := s2.drawn, toks := s2.toks } := I.call (ch := []) (Un.laid kp hp fresh) (I.hok.laid kp hp ⟨hlen, out.toList, c, vals_of_ints hi, hg⟩) (by rw [g]; exact I.bare) (fun _ z => nomatch z)
  have es : s2 = { s with heap := s2.heap, gens := s2.gens, drawn := s2.drawn, toks := s2.toks } := by
    cases s2; cases s; cases o
    rfl
  exact es ▸ ⟨.ref p, _, J, rfl, q js p hs hm hl fresh⟩
def rLtD (K : PySem.W.Frag) : R2 := fun x y H Q => ∃ d e : PyData, Dp K H x d ∧ Dp K H y e ∧ PySem.W.alike d e = true ∧ d ≠ .none ∧ d.depth ≤ 50 ∧ Q (.bl (PySem.W.dataLt d e)) H
theorem op_ltD (hu : X.A.units + 64 < cLine) : OpR X (compareOp .Lt) (rLtD X.K) := by
  intro pins s σ H x y v u Q I rx ry h
  obtain ⟨d, e, hd, he, al, nn, dp, q⟩ := h
  obtain ⟨as, r1⟩ := Dp.reads I d x v hd rx
  obtain ⟨bs, r2⟩ := Dp.reads I e y u he ry
  exact PySem.W.lt_data r1 r2 al nn (by have := Nat.min_le_left d.depth e.depth; omega) ⟨.bl _, H, I, rfl, q⟩
end
end L2
namespace Y
open PySem L2 PyProof.Rows
section
variable {X : Cx} {K : PySem.W.Frag} {L : Lk} {M : Cs} {Q : Sl → Cs → Prop} {x y : Sl} {d e : PyData}
theorem k_ltD (hx : IsD M x d) (hy : IsD M y e) (c1 : d.canLay0 = true) (c2 : e.canLay0 = true) (al : PySem.W.alike d e = true) (nn : d ≠ .none) (dp : d.depth ≤ 50) (q : Q (.d (.bool (PySem.W.dataLt d e))) M) : R2k K L (rLtD K) x y M Q := fun G H v u Q' g a1 a2 k =>
  ⟨d, e, hx.dp g c1 a1, hy.dp g c2 a2, al, nn, dp, k.go q g (.d (.bl _))⟩
theorem k_isntB {i j : Bool} (q : Q (.d (.bool (!decide (i = j)))) M) : R2k K L (fun x y H Q => ∃ a b, x = .bl a ∧ y = .bl b ∧ Q (.bl (!decide (a = b))) H) (.d (.bool i)) (.d (.bool j)) M Q := fun G H v u Q' g a1 a2 k => by
  rw [sl_bl a1, sl_bl a2]
  exact ⟨i, j, rfl, rfl, k.go q g (.d (.bl _))⟩
end
section
variable {X : Cx} {L : Lk} {τ : List (Option Sl)} {M : Cs} {Q : Sl → Cs → Prop} {a : Expr} {p p2 pos pos2 : Pos}
/-- sorted(set(xs)) of fewer than 4000 ints -/
theorem de_sortSetB (hc : X.calm = true) (hu : X.A.units + 64 < cLine) (hg : Gl X "sorted") (hm : X.mg "sorted" = none) (hg2 : Gl X "set") (hm2 : X.mg "set" = none) (w : DE X L a τ M fun s M1 => ∃ js : List Int, isTup s = false ∧ seqOf M1 s = some (js.map dI) ∧ js.length < 4000 ∧ ∀ (ks : List Int) (c : Addr), ks.Pairwise (· < ·) → (∀ k, k ∈ ks ↔ k ∈ js) → M1 c = none → Q (.c c) (updC M1 c (.l (ks.map dI))))
    (na : starEach [.Call (.Name "set" p2) [a] [] pos2] X.env = (false, eval (.Call (.Name "set" p2) [a] [] pos2) X.env) :: starEach [] X.env := by rfl) (nb : starEach [a] X.env = (false, eval a X.env) :: starEach [] X.env := by rfl) :
    DE X L (.Call (.Name "sorted" p) [.Call (.Name "set" p2) [a] [] pos2] [] pos) τ M Q := by
  refine de_of (pe_callB (cr_sortSetB hc hu) hg hm bt_sorted (pa_cons (pe_callTy (cr_setOfI hc) hg2 hm2 (by decide) (pa_cons pe_s pa_nil nb) (he := nb)) pa_nil na) (he := na)) fun σ G H Q' gs gm k => ?_
  refine w σ G H _ gs gm ?_
  rintro s M1 v G1 H1 ⟨js, hT, h, few, q⟩ e1 g1 a1
  obtain ⟨b, xs, rfl, r, l⟩ := seq_at g1 a1 h
  rw [hT, if_neg Bool.false_ne_true, ints_at l] at r
  refine ⟨b, js, rfl, r, by omega, fun c n hc1 hn => ?_⟩
  refine ⟨c, _, n, rfl, upd_same, by omega, fun ks d h1 h2 _ hd => ?_⟩
  have g2 := g1.newD (o := SetO X.w c (fun z => decide (z ∈ js)) n) hc1
  have hd2 := (g2.free hd).2
  have e2 : Ex G1 (upd G1 c (SetO X.w c (fun z => decide (z ∈ js)) n)) := Ex.new (g1.free hc1).1
  exact k _ _ _ _ _ (q ks d h1 (fun k => (h2 k).trans (by simp)) hd2) (e1.trans e2) (g2.newC hd ⟨_, upd_same, ints_sl ks⟩) (.c d)
end
end Y

namespace Y
open PySem L2 PyProof.Rows
/-! the last items of a tuple of data -/
section
variable {X : Cx} {L : Lk} {τ : List (Option Sl)} {M : Cs} {Q : Sl → Cs → Prop} {a b : Expr} {p2 pos : Pos}
theorem cutG_lo {α : Type} (xs : List α) (n : Nat) : cutG xs (some (n : Int)) none = xs.drop n := by
  unfold cutG
  rw [HT.sIx_nat, HT.sIx_none]
  by_cases h : n ≤ xs.length
  · rw [Nat.min_eq_left h, List.take_of_length_le (by rw [List.length_drop]; omega)]
  · rw [Nat.min_eq_right (by omega), Nat.sub_self, List.take_zero, List.drop_of_length_le (by omega)]
theorem de_slTLo (w : DE X L a τ M fun x M1 => DE X L b τ M1 fun y M2 => ∃ (n : Nat) (ds : List PyData), y = .d (.int n) ∧ x = .d (.tuple ds) ∧ 0 < n ∧ n < ds.length ∧ Q (.d (.tuple (ds.drop n))) M2) : DE X L (.Subscript a (.Slice (some b) none none p2) pos) τ M Q :=
  de_of (pe_slice sl_tup pe_s (po_some pe_s) po_none) fun σ G H Q' gs gm k => w σ G H _ gs gm fun x M1 v G1 H1 q e1 g1 a1 => q σ G1 H1 _ (gs.mono e1) g1 fun y M2 u G2 H2 ⟨n, ds, ey, ex, h0, hn, q2⟩ e2 g2 a2 => by
    subst ey ex
    have a1' := a1.mono e2
    cases a1' with
    | d z =>
      cases z with
      | @tup p vs _ e l =>
        have hlen : vs.length = ds.length := by rw [l.sl.len, List.length_map]
        refine ⟨(n : Int), sl_int a2, p, vs, rfl, .inl (g2.rd e), ?_, fun c hc => ?_⟩
        · rw [HT.sIx_nat]
          rintro ⟨z, _⟩
          omega
        · have ll : SlL X.K G2 (cutV vs (some (n : Int)) none) ((ds.drop n).map Sl.d) := by
            have := cut_sl l.sl (some (n : Int)) none
            rw [cutG_lo, ← List.map_drop] at this
            exact this
          exact k _ _ _ (upd G2 c (.tup (cutV vs (some (n : Int)) none))) _ q2 ((e1.trans e2).trans (Ex.new (g2.free hc).1)) (g2.newD hc) (.d (.tup upd_same (ll.at.mono (Ex.new (g2.free hc).1))))
end
end Y

/-! a >= b of alike data -/
namespace L2
open PySem PySem.Spec PyProof.Rows
section
variable {X : Cx}
def rGeD (K : PySem.W.Frag) : R2 := fun x y H Q => ∃ d e : PyData, Dp K H x d ∧ Dp K H y e ∧ PySem.W.alike d e = true ∧ d ≠ .none ∧ d.depth ≤ 50 ∧ Q (.bl (!PySem.W.dataLt d e)) H
theorem op_geD (hu : X.A.units + 64 < cLine) : OpR X (compareOp .GtE) (rGeD X.K) := by
  intro pins s σ H x y v u Q I rx ry h
  obtain ⟨d, e, hd, he, al, nn, dp, q⟩ := h
  obtain ⟨as, r1⟩ := Dp.reads I d x v hd rx
  obtain ⟨bs, r2⟩ := Dp.reads I e y u he ry
  exact PySem.W.ge_data r1 r2 al nn (by have := Nat.min_le_left d.depth e.depth; omega) ⟨.bl _, H, I, rfl, q⟩
end
end L2
namespace Y
open PySem L2 PyProof.Rows
section
variable {X : Cx} {K : PySem.W.Frag} {L : Lk} {M : Cs} {Q : Sl → Cs → Prop} {x y : Sl} {d e : PyData}
theorem k_geD (hx : IsD M x d) (hy : IsD M y e) (c1 : d.canLay0 = true) (c2 : e.canLay0 = true) (al : PySem.W.alike d e = true) (nn : d ≠ .none) (dp : d.depth ≤ 50) (q : Q (.d (.bool (!PySem.W.dataLt d e))) M) : R2k K L (rGeD K) x y M Q := fun G H v u Q' g a1 a2 k =>
  ⟨d, e, hx.dp g c1 a1, hy.dp g c2 a2, al, nn, dp, k.go q g (.d (.bl _))⟩
end
end Y

namespace Y
open PySem L2 PyProof.Rows
/-! ### repr of data of any kind, texts too; what a repr tells -/
def rShowT (K : PySem.W.Frag) : List V → Hp → VK → Prop := fun xs H Q => ∃ (v : V) (d : PyData), xs = [v] ∧ DX K H v d ∧ d.showable = true ∧ d.depth ≤ 60 ∧ d.shown.length ≤ sizeLine ∧ Q (.str d.shown) H
theorem call_showT {X : Cx} (S : Sys X.base) (noG : X.A.guards = some []) (hu : X.A.units + 64 < cLine) : CallR X (.builtin "repr") (rShowT X.K) := by
  intro pins s σ H xs us Q I r h
  obtain ⟨v, d, e, hd, sh, dp, sz, q⟩ := h
  by_cases nt : noTx d = true
  · exact call_showA S noG hu pins s σ H xs us Q I r ⟨v, d, e, hd, nt, sh, dp, sz, q⟩
  · subst e
    obtain ⟨u, rfl, ru⟩ := vals1 r
    cases hd with
    | str x =>
      obtain ⟨t, rfl⟩ := ru
      exact PySem.P.repr_of_str ⟨.str _, H, I.tok _, ⟨s.toks, by simp only [PyData.shown]⟩, q⟩ (by simpa only [PyData.shown] using sz)
    | _ => exact absurd rfl nt
theorem k_showT {X : Cx} {L : Lk} {M : Cs} {Q : Sl → Cs → Prop} {s : Sl} {d : PyData} (h : IsX M s d) (fit : fitX d = true) (wt : wtX d ≤ 20000) (dp : d.depth ≤ 60) (q : Q (.d (.str d.shown)) M) : RCk X.K L (rShowT X.K) [s] M Q := fun G H vs Q' g a k => by
  obtain ⟨v, rfl, a1⟩ := sl1 a
  have sz := shownX_le d fit
  have sl : (10 ^ 7 : Nat) ≤ sizeLine := by rw [sizeLine_eq]; decide
  exact ⟨v, d, rfl, IsX.dx g h a1, showX d fit, dp, by omega, k.go q g (.d (.str _))⟩
theorem alpha_tab : ((List.range 128).all fun c => !Unicode.isAlpha c || (decide (Builtin.Str.reprChar 39 c = [c]) && decide (c ≠ 39) && decide (c ≠ 44) && decide (c ≠ 34))) = true := by decide +kernel
theorem alpha_ok {c : Nat} (h : c < 128) (ha : Unicode.isAlpha c = true) : Builtin.Str.reprChar 39 c = [c] ∧ c ≠ 39 ∧ c ≠ 44 ∧ c ≠ 34 := by
  have := List.all_eq_true.mp alpha_tab c (List.mem_range.mpr h)
  rw [ha] at this
  simpa [and_assoc] using this
theorem name_cps {z : Str} (h : okName z = true) : ∀ c ∈ z.cps.toList, Builtin.Str.reprChar 39 c = [c] ∧ c ≠ 39 ∧ c ≠ 44 ∧ c ≠ 34 := fun c hc => by
  unfold okName at h
  simp only [Bool.and_eq_true, decide_eq_true_eq] at h
  obtain ⟨_, _, h3, h4, _⟩ := h
  unfold Txt.isascii at h3
  unfold Txt.isalpha at h4
  rw [Bool.and_eq_true] at h4
  have h4 := h4.2
  rw [Array.all_eq_true'] at h3 h4
  have hm : c ∈ z.cps := Array.mem_def.mpr hc
  exact alpha_ok (of_decide_eq_true (h3 c hm)) (h4 c hm)
theorem fold_id : ∀ (l : List Nat) (acc : Array Nat), (∀ c ∈ l, Builtin.Str.reprChar 39 c = [c]) → (l.foldl (fun out c => out ++ (Builtin.Str.reprChar 39 c).toArray) acc).toList = acc.toList ++ l
  | [], acc, _ => by simp
  | c :: r, acc, h => by
    rw [List.foldl_cons, fold_id r _ fun x hx => h x (List.mem_cons_of_mem _ hx), h c List.mem_cons_self]
    simp
theorem name_text {z : Str} (h : okName z = true) : (PyData.str z).shown.cps.toList = 39 :: (z.cps.toList ++ [39]) := by
  have hz := name_cps h
  have q39 : PySem.reprQuote z = 39 := by
    unfold PySem.reprQuote
    rw [if_neg]
    rw [Bool.and_eq_true]
    intro hh
    have := hh.1
    rw [Array.contains_iff] at this
    exact (hz 39 (Array.mem_def.mp this)).2.1 rfl
  rw [PyData.shown_str]
  unfold PySem.reprText
  rw [q39]
  show (Array.push _ 39).toList = _
  rw [Array.toList_push, ← Array.foldl_toList, fold_id _ _ fun c hc => (hz c hc).1]
  rfl
theorem name_free {z : Str} (h : okName z = true) : 44 ∉ (PyData.str z).shown.cps.toList := by
  rw [name_text h]
  intro hm
  rcases List.mem_cons.mp hm with e | hm
  · cases e
  rcases List.mem_append.mp hm with hm | hm
  · exact (name_cps h 44 hm).2.2.1 rfl
  · cases List.mem_singleton.mp hm
theorem name_one {y z : Str} (hy : okName y = true) (hz : okName z = true) (e : (PyData.str y).shown.cps.toList = (PyData.str z).shown.cps.toList) : y = z := by
  rw [name_text hy, name_text hz] at e
  have := List.append_cancel_right (List.cons.inj e).2
  cases y with
  | mk y => cases z with
    | mk z => exact congrArg Str.mk (Array.toList_inj.mp this)
theorem map_inj {α β : Type} {f : α → β} (hf : ∀ a b, f a = f b → a = b) : ∀ {l m : List α}, l.map f = m.map f → l = m
  | [], [], _ => rfl
  | [], _ :: _, h => (nomatch h)
  | _ :: _, [], h => (nomatch h)
  | a :: l, b :: m, h => by
    obtain ⟨h1, h2⟩ := List.cons.inj h
    rw [hf _ _ h1, map_inj hf h2]
theorem nat_one {m n : Nat} (h : Nat.toDigits 10 m = Nat.toDigits 10 n) : m = n := by
  rw [← Nat.ofDigitChars_ten_toDigits (n := m), h, Nat.ofDigitChars_ten_toDigits]
theorem int_one {a b : Int} (e : (PyData.int a).shown.cps.toList = (PyData.int b).shown.cps.toList) : a = b := by
  rw [PyData.shown_int, PyData.shown_int, signs_ofString, signs_ofString] at e
  have e := map_inj (fun c d h => Char.toNat_inj.mp h) e
  have head : ∀ n : Nat, '-' ∉ Nat.toDigits 10 n := fun n h => absurd (Nat.isDigit_of_mem_toDigits (by decide) (by decide) h) (by decide)
  rw [Int.toString_eq_repr, Int.toString_eq_repr, Int.repr_eq_if, Int.repr_eq_if] at e
  have tm : "-".toList = ['-'] := rfl
  split at e <;> split at e <;> simp only [String.toList_append, Nat.toList_repr, tm, List.singleton_append] at e
  · have := nat_one e
    omega
  · exact absurd (by rw [e]; exact List.mem_cons_self) (head a.toNat)
  · exact absurd (by rw [← e]; exact List.mem_cons_self) (head b.toNat)
  · have := nat_one (List.cons.inj e).2
    omega
theorem split_on {c : Nat} : ∀ {a b r s : List Nat}, a ++ c :: r = b ++ c :: s → c ∉ a → c ∉ b → a = b ∧ r = s
  | [], [], _, _, h, _, _ => ⟨rfl, (List.cons.inj h).2⟩
  | [], y :: b, _, _, h, _, hb => absurd (by rw [(List.cons.inj h).1]; exact List.mem_cons_self) hb
  | x :: a, [], _, _, h, ha, _ => absurd (by rw [← (List.cons.inj h).1]; exact List.mem_cons_self) ha
  | x :: a, y :: b, r, s, h, ha, hb => by
    obtain ⟨h1, h2⟩ := List.cons.inj h
    obtain ⟨h3, h4⟩ := split_on h2 (fun z => ha (List.mem_cons_of_mem _ z)) (fun z => hb (List.mem_cons_of_mem _ z))
    exact ⟨by rw [h1, h3], h4⟩
/-- the text of a tuple of five -/
theorem five_text (a b c d e : PyData) : (PyData.tuple [a, b, c, d, e]).shown.cps.toList = 40 :: (a.shown.cps.toList ++ 44 :: 32 :: (b.shown.cps.toList ++ 44 :: 32 :: (c.shown.cps.toList ++ 44 :: 32 :: (d.shown.cps.toList ++ 44 :: 32 :: (e.shown.cps.toList ++ [41]))))) := by
  rw [PyData.shown_tuple]
  have c1 : (Str.ofString ", ").cps.toList = [44, 32] := by decide
  have c2 : (Str.ofString "(").cps.toList = [40] := by decide
  have c3 : (Str.ofString ")").cps.toList = [41] := by decide
  have e1 : ([a, b, c, d, e].length == 1) = false := rfl
  simp only [PyData.shownAll_cons, PyData.shownAll_nil, join_cons_cons, PyProof.Rows.join_one, cps_toList_append, e1, Bool.false_eq_true, if_false, c1, c2, c3, List.append_assoc, List.cons_append, List.nil_append, List.singleton_append]
end Y

namespace Y
open PySem L2 PyProof.Rows
/-! ### lists that are data: nothing is left in the memory -/
section
variable {X : Cx} {L : Lk} {τ : List (Option Sl)} {M : Cs} {Q : Sl → Cs → Prop} {a b e : Expr} {p2 pos : Pos}
theorem de_slHiD (w : DE X L a τ M fun x M1 => DE X L b τ M1 fun y M2 => ∃ (n : Nat) (ds : List PyData), y = .d (.int n) ∧ x = .d (.list ds) ∧ Q (.d (.list (ds.take n))) M2) : DE X L (.Subscript a (.Slice none (some b) none p2) pos) τ M Q :=
  de_frz (de_slHi (de_imp w fun x M1 w2 => de_imp w2 fun y M2 ⟨n, ds, hy, hx, q⟩ => ⟨n, hy, ds.map .d, by rw [hx]; rfl, by rw [hx]; rfl, fun p hp => ⟨p, ds.take n, rfl, by rw [updC_same, cutG_hi, List.map_take], by rw [delC_updC hp]; exact q⟩⟩))
theorem de_slLoD (w : DE X L a τ M fun x M1 => DE X L b τ M1 fun y M2 => ∃ (n : Nat) (ds : List PyData), y = .d (.int n) ∧ x = .d (.list ds) ∧ Q (.d (.list (ds.drop n))) M2) : DE X L (.Subscript a (.Slice (some b) none none p2) pos) τ M Q :=
  de_frz (de_slLo (de_imp w fun x M1 w2 => de_imp w2 fun y M2 ⟨n, ds, hy, hx, q⟩ => ⟨n, hy, ds.map .d, by rw [hx]; rfl, by rw [hx]; rfl, fun p hp => ⟨p, ds.drop n, rfl, by rw [updC_same, cutG_lo, List.map_drop], by rw [delC_updC hp]; exact q⟩⟩))
theorem de_catD (w : DE X L a τ M fun x M1 => DE X L b τ M1 fun y M2 => ∃ ds es : List PyData, x = .d (.list ds) ∧ y = .d (.list es) ∧ ds.length + es.length ≤ sizeLine ∧ Q (.d (.list (ds ++ es))) M2) : DE X L (.BinOp a .Add b pos) τ M Q :=
  de_frz (de_cat (de_imp w fun x M1 w2 => de_imp w2 fun y M2 ⟨ds, es, hx, hy, hl, q⟩ => ⟨ds.map .d, es.map .d, by rw [hx]; rfl, by rw [hy]; rfl, by rw [List.length_map, List.length_map]; exact hl, fun p hp => ⟨p, ds ++ es, rfl, by rw [updC_same, List.map_append], by rw [delC_updC hp]; exact q⟩⟩))
theorem de_revD {k : Nat} {p1 p2 p3 : Pos} (w : DE X L e τ M fun s M1 => ∃ ds : List PyData, s = .d (.list ds) ∧ Q (.d (.list ds.reverse)) M1) : DE X L (.Subscript e (.Slice none none (some (.UnaryOp .USub (.Constant (.int 1) k p1) p2)) p3) pos) τ M Q :=
  de_frz (de_rev (de_imp w fun x M1 ⟨ds, hx, q⟩ => ⟨ds.map .d, by rw [hx]; rfl, by rw [hx]; rfl, fun p hp => ⟨p, ds.reverse, rfl, by rw [updC_same, List.map_reverse], by rw [delC_updC hp]; exact q⟩⟩))
/-- a value out of several -/
theorem atI_mem {l : List PyData} {r : Int} (h0 : 0 ≤ r) (h1 : r < (l.length : Int)) : ∃ v ∈ l, atI (l.map Sl.d) r = some (.d v) := by
  obtain ⟨n, rfl⟩ := Int.eq_ofNat_of_zero_le h0
  have hn : n < l.length := by omega
  exact ⟨l[n], List.getElem_mem hn, atI_nat (by rw [List.getElem?_map, List.getElem?_eq_getElem hn]; rfl)⟩
end
end Y

namespace Y
open PySem L2 PyProof.Rows
/-! ### a dict of lists of data that grow: d.setdefault(k, []).append(x) -/
abbrev Gd := List (Key × Addr × List PyData)
def kvG (es : Gd) : List (Key × Sl) := es.map fun e => (e.1, .c e.2.1)
def getG (es : Gd) (k : Key) : List PyData := ((es.find? fun e => decide (e.1 = k)).map (·.2.2)).getD []
structure GdOk (M0 M : Cs) (D : Addr) (es : Gd) : Prop where
  nda : (es.map (·.2.1)).Nodup
  ndk : (es.map (·.1)).Nodup
  cel : ∀ e ∈ es, M e.2.1 = some (.l (e.2.2.map .d)) ∧ M0 e.2.1 = none ∧ e.2.1 ≠ D
theorem GdOk.sub {M0 M M' : Cs} {D : Addr} {es : Gd} (h : GdOk M0 M D es) (s : Sub M M') : GdOk M0 M' D es := ⟨h.nda, h.ndk, fun e he => by
  obtain ⟨j1, j2, j3⟩ := h.cel e he
  exact ⟨s _ _ j1, j2, j3⟩⟩
theorem valS_G (es : Gd) (k : Key) : valS (kvG es) k = (es.find? fun e => decide (e.1 = k)).map fun e => .c e.2.1 := by
  unfold valS kvG
  rw [List.find?_map]
  cases h : es.find? fun e => decide (e.1 = k) with
  | none => rw [show es.find? ((fun kv : Key × Sl => decide (kv.1 = k)) ∘ fun e => (e.1, Sl.c e.2.1)) = none from h]; rfl
  | some e => rw [show es.find? ((fun kv : Key × Sl => decide (kv.1 = k)) ∘ fun e => (e.1, Sl.c e.2.1)) = some e from h]; rfl
theorem find_split {pre post : Gd} {k k' : Key} {a : Addr} {l : List PyData} (nd : ((pre ++ (k, a, l) :: post).map (·.1)).Nodup) : (pre ++ (k, a, l) :: post).find? (fun e => decide (e.1 = k')) = if k' = k then some (k, a, l) else (pre ++ post).find? (fun e => decide (e.1 = k')) := by
  rw [List.map_append, List.map_cons] at nd
  have h1 := List.nodup_append.mp nd
  have hpre : ∀ e ∈ pre, e.1 ≠ k := fun e he q => h1.2.2 e.1 (List.mem_map_of_mem (f := fun e : Key × Addr × List PyData => e.1) he) k (List.mem_cons.mpr (.inl rfl)) q
  rw [List.find?_append, List.find?_append, List.find?_cons]
  by_cases e : k' = k
  · subst e
    rw [if_pos rfl, show decide (((k', a, l) : Key × Addr × List PyData).1 = k') = true from decide_eq_true rfl]
    have : pre.find? (fun e => decide (e.1 = k')) = none := List.find?_eq_none.mpr fun e he => by simpa using hpre e he
    rw [this]
    rfl
  · rw [if_neg e, show decide (((k, a, l) : Key × Addr × List PyData).1 = k') = false from decide_eq_false fun q => e q.symm]
theorem getG_set {pre post : Gd} {k : Key} {a : Addr} {l l' : List PyData} (nd : ((pre ++ (k, a, l) :: post).map (·.1)).Nodup) (k' : Key) : getG (pre ++ (k, a, l') :: post) k' = if k' = k then l' else getG (pre ++ (k, a, l) :: post) k' := by
  have nd' : ((pre ++ (k, a, l') :: post).map (·.1)).Nodup := by
    rw [List.map_append, List.map_cons] at nd ⊢
    exact nd
  unfold getG
  rw [find_split nd, find_split nd']
  by_cases e : k' = k
  · rw [if_pos e, if_pos e]
    rfl
  · rw [if_neg e, if_neg e, if_neg e]
theorem getG_self {pre post : Gd} {k : Key} {a : Addr} {l : List PyData} (nd : ((pre ++ (k, a, l) :: post).map (·.1)).Nodup) : getG (pre ++ (k, a, l) :: post) k = l := by
  unfold getG
  rw [find_split nd, if_pos rfl]
  rfl
theorem getG_new {es : Gd} {k : Key} {a : Addr} {l : List PyData} (h : k ∉ es.map (·.1)) (k' : Key) : getG (es ++ [(k, a, l)]) k' = if k' = k then l else getG es k' := by
  unfold getG
  rw [List.find?_append]
  by_cases e : k' = k
  · subst e
    have : es.find? (fun e => decide (e.1 = k')) = none := List.find?_eq_none.mpr fun e he => by
      intro q
      have q := of_decide_eq_true q
      exact h (q ▸ List.mem_map_of_mem (f := fun e : Key × Addr × List PyData => e.1) he)
    rw [this, if_pos rfl, List.find?_cons, show decide (((k', a, l) : Key × Addr × List PyData).1 = k') = true from decide_eq_true rfl]
    rfl
  · rw [if_neg e, List.find?_cons, show decide (((k, a, l) : Key × Addr × List PyData).1 = k') = false from decide_eq_false fun q => e q.symm, List.find?_nil, Option.or_none]
theorem getG_out {es : Gd} {k : Key} (h : k ∉ es.map (·.1)) : getG es k = [] := by
  unfold getG
  have : es.find? (fun e => decide (e.1 = k)) = none := List.find?_eq_none.mpr fun e he => by
    intro q
    have q := of_decide_eq_true q
    exact h (q ▸ List.mem_map_of_mem (f := fun e : Key × Addr × List PyData => e.1) he)
  rw [this]
  rfl
section
variable {X : Cx} {L : Lk} {τ : List (Option Sl)} {M : Cs} {o e x : Expr} {pos apos cpos apos2 cpos2 p3 : Pos} {E : Ks}
theorem ds_group {M0 : Cs} {D : Addr} {es : Gd} {k : Key} {v : PyData} (sub : Sub M0 M) (hM : M D = some (.k (kvG es))) (ok : GdOk M0 M D es) (hes : es.length < 100000) (hlen : ∀ e ∈ es, e.2.2.length < 100000)
    (wo : DE X L o τ M fun s M1 => s = .c D ∧ M1 = M) (we : DE X L e τ M fun s M1 => s = .d (kD k) ∧ M1 = M) (wx : ∀ M', DE X L x τ M' fun s M1 => s = .d v ∧ M1 = M')
    (q : ∀ (M' : Cs) (es' : Gd), (∀ a c, a ≠ D → M0 a = some c → M' a = some c) → M' D = some (.k (kvG es')) → GdOk M0 M' D es' → (∀ k', getG es' k' = if k' = k then getG es k ++ [v] else getG es k') → (∀ k', k' ∈ es'.map (·.1) ↔ (k' ∈ es.map (·.1) ∨ k' = k)) → es'.length ≤ es.length + 1 → E.nx τ M')
    (m : M2 X o "setdefault" apos e (.List [] p3) cpos := by exact ⟨rfl, rfl, rfl, rfl⟩) (hbase : attributeBase (.Call (.Attribute o "setdefault" apos) [e, .List [] p3] [] cpos) "append" X.env (eval (.Call (.Attribute o "setdefault" apos) [e, .List [] p3] [] cpos) X.env) = eval (.Call (.Attribute o "setdefault" apos) [e, .List [] p3] [] cpos) X.env := by rfl)
    (hfew : ((backTo cpos2 (starEach (x :: []) X.env)).all (fun x => !x.1) && (backToKw cpos2 (keywordEach [] X.env)).all (fun x => x.1.isSome)
      && decide ((x :: []).length + ([] : List Keyword).length + (if ([] : List Keyword).isEmpty then 0 else 1) < 30)) = true := by rfl)
    (hline : (apos2.endLine == cpos2.line) = true := by rfl) (hs : starEach (x :: []) X.env = (false, eval x X.env) :: starEach [] X.env := by rfl) (hplain : (backTo cpos2 (starEach [] X.env)).any (·.1) = false := by rfl) (hsw : swapsWith (.Call (.Attribute (.Call (.Attribute o "setdefault" apos) [e, .List [] p3] [] cpos) "append" apos2) [x] [] cpos2) none pos.line X.env = pure false := by rfl) :
    DS X L (.Expr (.Call (.Attribute (.Call (.Attribute o "setdefault" apos) [e, .List [] p3] [] cpos) "append" apos2) [x] [] cpos2) pos) τ M E := by
  refine ds_append (de_dsetd (de_imp wo fun s M1 ⟨e1, e2⟩ => ?_) m) hbase hfew hline hs hplain hsw
  subst e1 e2
  refine ⟨⟨D, _, rfl, hM⟩, de_imp we fun s M1 ⟨e1, e2⟩ => ?_⟩
  subst e1 e2
  refine de_lstC (da_nil ⟨Nat.zero_le _, fun p0 hp0 => ⟨D, kvG es, k, rfl, by rw [updC_ne (neC hM hp0)]; exact hM, rfl, by unfold kvG; rw [List.length_map, sizeLine_eq]; omega, fun sv hsv => ?_, fun hsv => ?_⟩⟩)
  · rw [valS_G] at hsv
    obtain ⟨en, hen, e2⟩ := Option.map_eq_some_iff.mp hsv
    subst e2
    have hm := List.mem_of_find?_eq_some hen
    have hk : en.1 = k := of_decide_eq_true (List.find?_some (p := fun e : Key × Addr × List PyData => decide (e.1 = k)) hen)
    obtain ⟨kk, a, l⟩ := en
    have hk : kk = k := hk
    subst hk
    obtain ⟨k1, k2, k3⟩ := ok.cel _ hm
    have hll : l.length < 100000 := hlen _ hm
    have m4a : updC M1 p0 (.l []) a = some (.l (l.map .d)) := by rw [updC_ne (neC k1 hp0)]; exact k1
    refine ⟨⟨rfl, _, by simp only [seqOf, m4a]; rfl⟩, de_imp (wx _) fun s M2 ⟨e1, e2⟩ => ?_⟩
    subst e1 e2
    refine ⟨a, l.map .d, rfl, m4a, by rw [List.length_map, sizeLine_eq]; omega, ?_⟩
    obtain ⟨pre, post, rfl⟩ := List.append_of_mem hm
    have nd := ok.nda
    rw [List.map_append, List.map_cons] at nd
    have hd := List.nodup_append.mp nd
    have hd2 := List.nodup_cons.mp hd.2.1
    have hmap : (pre ++ (kk, a, l ++ [v]) :: post).map (·.1) = (pre ++ (kk, a, l) :: post).map (·.1) := by rw [List.map_append, List.map_append]; rfl
    refine q _ (pre ++ (kk, a, l ++ [v]) :: post) (fun b c hb h => ?_) ?_ ⟨?_, by rw [hmap]; exact ok.ndk, fun e he => ?_⟩ (fun k' => ?_) (fun k' => ?_) ?_
    · have hba : b ≠ a := fun z => by rw [z, k2] at h; cases h
      rw [updC_ne hba, updC_ne (neC (sub _ _ h) hp0)]
      exact sub _ _ h
    · rw [updC_ne (fun z => k3 z.symm), updC_ne (neC hM hp0), hM]
      unfold kvG
      rw [List.map_append, List.map_append, List.map_cons, List.map_cons]
    · rw [show (pre ++ (kk, a, l ++ [v]) :: post).map (·.2.1) = (pre ++ (kk, a, l) :: post).map (·.2.1) by rw [List.map_append, List.map_append]; rfl]
      exact ok.nda
    · have mem : e = (kk, a, l ++ [v]) ∨ (e ∈ pre ++ (kk, a, l) :: post ∧ e.2.1 ≠ a) := by
        rcases List.mem_append.mp he with he | he
        · exact .inr ⟨List.mem_append_left _ he, hd.2.2 e.2.1 (List.mem_map_of_mem (f := fun e : Key × Addr × List PyData => e.2.1) he) a (List.mem_cons.mpr (.inl rfl))⟩
        · rcases List.mem_cons.mp he with rfl | he
          · exact .inl rfl
          · exact .inr ⟨List.mem_append_right _ (List.mem_cons_of_mem _ he), fun z => hd2.1 (by
              have := List.mem_map_of_mem (f := fun e : Key × Addr × List PyData => e.2.1) he
              have this : e.2.1 ∈ _ := this
              rw [z] at this
              exact this)⟩
      rcases mem with rfl | ⟨hme, hne⟩
      · refine ⟨?_, k2, k3⟩
        show updC _ a _ a = _
        rw [updC_same, List.map_append]
        rfl
      · obtain ⟨j1, j2, j3⟩ := ok.cel e hme
        exact ⟨by rw [updC_ne hne, updC_ne (neC j1 hp0)]; exact j1, j2, j3⟩
    · rw [getG_set ok.ndk, getG_self ok.ndk]
    · rw [hmap]
      refine ⟨.inl, fun h => h.elim id fun z => ?_⟩
      rw [z, List.map_append]
      exact List.mem_append_right _ (List.mem_cons.mpr (.inl rfl))
    · rw [List.length_append, List.length_append]
      exact Nat.le_succ _
  · rw [valS_G] at hsv
    have hno := Option.map_eq_none_iff.mp hsv
    have hk : k ∉ es.map (·.1) := fun z => by
      obtain ⟨en, hm, ez⟩ := List.mem_map.mp z
      exact absurd (decide_eq_true ez) (List.find?_eq_none.mp hno en hm)
    have epk : putS (kvG es) k (.c p0) = kvG (es ++ [(k, p0, [])]) := by
      rw [putS_new (by
        unfold kvG
        rw [List.map_map]
        exact hk)]
      unfold kvG
      rw [List.map_append]
      rfl
    have nD : D ≠ p0 := neC hM hp0
    have m4a : updC (updC M1 p0 (.l [])) D (.k (putS (kvG es) k (.c p0))) p0 = some (.l []) := by rw [updC_ne nD.symm, updC_same]
    refine ⟨⟨rfl, _, by simp only [seqOf, m4a]; rfl⟩, de_imp (wx _) fun s M2 ⟨e1, e2⟩ => ?_⟩
    subst e1 e2
    refine ⟨p0, [], rfl, m4a, by show 0 < sizeLine; decide, ?_⟩
    have h0 : M0 p0 = none := sub.none hp0
    refine q _ (es ++ [(k, p0, [v])]) (fun b c hb h => ?_) ?_ ⟨?_, ?_, fun e he => ?_⟩ (fun k' => ?_) (fun k' => ?_) ?_
    · have hbp := neC (sub _ _ h) hp0
      rw [updC_ne hbp, updC_ne hb, updC_ne hbp]
      exact sub _ _ h
    · rw [updC_ne nD, updC_same, epk]
      unfold kvG
      rw [List.map_append, List.map_append]
      rfl
    · rw [List.map_append]
      refine List.nodup_append.mpr ⟨ok.nda, by simp, fun u hu w hw z => ?_⟩
      obtain ⟨en, hen, rfl⟩ := List.mem_map.mp hu
      have := (ok.cel en hen).1
      rw [z, List.mem_singleton.mp hw, hp0] at this
      cases this
    · rw [List.map_append]
      exact List.nodup_append.mpr ⟨ok.ndk, by simp, fun u hu w hw z => hk (by rw [List.mem_singleton.mp hw] at z; exact (show u = k from z) ▸ hu)⟩
    · rcases List.mem_append.mp he with he | he
      · obtain ⟨j1, j2, j3⟩ := ok.cel e he
        exact ⟨by rw [updC_ne (neC j1 hp0), updC_ne j3, updC_ne (neC j1 hp0)]; exact j1, j2, j3⟩
      · rw [List.mem_singleton.mp he]
        exact ⟨updC_same, h0, nD.symm⟩
    · rw [getG_new hk, getG_out hk]
      rfl
    · rw [List.map_append, List.mem_append]
      exact or_congr Iff.rfl List.mem_singleton
    · rw [List.length_append]
      exact Nat.le_refl _
end
end Y

namespace Y
open PySem L2 PyProof.Rows
/-! the first items of a tuple of data, all of them too -/
section
variable {X : Cx} {L : Lk} {τ : List (Option Sl)} {M : Cs} {Q : Sl → Cs → Prop} {a b : Expr} {p2 pos : Pos}
theorem de_slTHiA (w : DE X L a τ M fun x M1 => DE X L b τ M1 fun y M2 => ∃ (n : Nat) (ds : List PyData), y = .d (.int n) ∧ x = .d (.tuple ds) ∧ Q (.d (.tuple (ds.take n))) M2) : DE X L (.Subscript a (.Slice none (some b) none p2) pos) τ M Q :=
  de_of (pe_slice sl_tupA pe_s po_none (po_some pe_s)) fun σ G H Q' gs gm k => w σ G H _ gs gm fun x M1 v G1 H1 q e1 g1 a1 => q σ G1 H1 _ (gs.mono e1) g1 fun y M2 u G2 H2 ⟨n, ds, ey, ex, q2⟩ e2 g2 a2 => by
    subst ey ex
    have a1' := a1.mono e2
    cases a1' with
    | d z =>
      cases z with
      | @tup p vs _ e l =>
        have hlen : vs.length = ds.length := by rw [l.sl.len, List.length_map]
        refine ⟨(n : Int), sl_int a2, p, vs, rfl, .inl (g2.rd e), fun hw => ?_, fun hw c hc => ?_⟩
        · have h2 := hw.2
          rw [HT.sIx_nat] at h2
          have : ds.take n = ds := List.take_of_length_le (by omega)
          rw [this] at q2
          exact k _ _ _ G2 _ q2 (e1.trans e2) g2 (.d (.tup e l))
        · have ll : SlL X.K G2 (cutV vs none (some (n : Int))) ((ds.take n).map Sl.d) := by
            have := cut_sl l.sl none (some (n : Int))
            rw [cutG_hi, ← List.map_take] at this
            exact this
          exact k _ _ _ (upd G2 c (.tup (cutV vs none (some (n : Int))))) _ q2 ((e1.trans e2).trans (Ex.new (g2.free hc).1)) (g2.newD hc) (.d (.tup upd_same (ll.at.mono (Ex.new (g2.free hc).1))))
theorem cutG_neg1 {α : Type} (xs : List α) : cutG xs none (some (-1)) = xs.dropLast := cutG_hiN xs
end
end Y

namespace Y
open PySem L2 PyProof.Rows
section
variable {X : Cx} {L : Lk} {τ : List (Option Sl)} {M : Cs} {QB : Bool → Cs → Prop} {a b c e : Expr} {pos : Pos}
theorem dt_or4 (w : DT X L a τ M fun k M1 => (k = true → QB true M1) ∧ (k = false → DT X L b τ M1 fun k2 M2 => (k2 = true → QB true M2) ∧ (k2 = false → DT X L c τ M2 fun k3 M3 => (k3 = true → QB true M3) ∧ (k3 = false → DT X L e τ M3 QB)))) : DT X L (.BoolOp .Or [a, b, c, e] pos) τ M QB :=
  dt_of (pw_or pt_s (pw_or pt_s (pw_or pt_s (pw_or1 pt_s)))).pt fun σ G H Q' gs gm k => w σ G H _ gs gm fun d M1 G1 H1 q e1 g1 => by
    cases d with
    | true => rw [if_pos rfl]; exact (k.mono e1).go (q.1 rfl) g1
    | false =>
      rw [if_neg Bool.false_ne_true]
      refine q.2 rfl σ G1 H1 _ (gs.mono e1) g1 fun d2 M2 G2 H2 q2 e2 g2 => ?_
      cases d2 with
      | true => rw [if_pos rfl]; exact (k.mono (e1.trans e2)).go (q2.1 rfl) g2
      | false =>
        rw [if_neg Bool.false_ne_true]
        refine q2.2 rfl σ G2 H2 _ (gs.mono (e1.trans e2)) g2 fun d3 M3 G3 H3 q3 e3 g3 => ?_
        cases d3 with
        | true => rw [if_pos rfl]; exact (k.mono ((e1.trans e2).trans e3)).go (q3.1 rfl) g3
        | false => rw [if_neg Bool.false_ne_true]; exact q3.2 rfl σ G3 H3 Q' (gs.mono ((e1.trans e2).trans e3)) g3 (k.mono ((e1.trans e2).trans e3))
end
end Y

namespace Pg
open PySem L2 Y PyProof.Rows
def topS (i : Nat) : Stmt := PySem.Challenge.pw_lastcopy_k25_schedules_with_min_overwrit.main.body.getD i (.Pass ⟨0, 0, 0, 0⟩)
abbrev s_plain_integer : Stmt := topS 8
theorem sc_plain_integer : FnScope ["value"] ["value"] (defScope s_plain_integer) := ⟨rfl, rfl, rfl, by decide +kernel, rfl, by decide +kernel, by decide +kernel⟩
abbrev s_plain_text : Stmt := topS 9
theorem sc_plain_text : FnScope ["value"] ["value"] (defScope s_plain_text) := ⟨rfl, rfl, rfl, by decide +kernel, rfl, by decide +kernel, by decide +kernel⟩
abbrev s_plain_writer : Stmt := topS 10
theorem sc_plain_writer : FnScope ["value", "name"] ["value"] (defScope s_plain_writer) := ⟨rfl, rfl, rfl, by decide +kernel, rfl, by decide +kernel, by decide +kernel⟩
abbrev s_plain_line_counts : Stmt := topS 11
theorem sc_plain_line_counts : FnScope ["value", "counts", "key", "number", "writer", "count"] ["value"] (defScope s_plain_line_counts) := ⟨rfl, rfl, rfl, by decide +kernel, rfl, by decide +kernel, by decide +kernel⟩
abbrev s_highest_number : Stmt := topS 12
theorem sc_highest_number : FnScope ["line_counts", "writer"] ["line_counts", "writer"] (defScope s_highest_number) := ⟨rfl, rfl, rfl, by decide +kernel, rfl, by decide +kernel, by decide +kernel⟩
abbrev s_plain_lines : Stmt := topS 13
theorem sc_plain_lines : FnScope ["line_counts", "writer", "first", "last", "name", "low", "high"] ["line_counts", "writer", "first", "last"] (defScope s_plain_lines) := ⟨rfl, rfl, rfl, by decide +kernel, rfl, by decide +kernel, by decide +kernel⟩
abbrev s_plain_run : Stmt := topS 14
theorem sc_plain_run : FnScope ["line_counts", "value"] ["line_counts", "value"] (defScope s_plain_run) := ⟨rfl, rfl, rfl, by decide +kernel, rfl, by decide +kernel, by decide +kernel⟩
abbrev s_continues : Stmt := topS 15
theorem sc_continues : FnScope ["run", "following"] ["run", "following"] (defScope s_continues) := ⟨rfl, rfl, rfl, by decide +kernel, rfl, by decide +kernel, by decide +kernel⟩
abbrev s_plain_content : Stmt := topS 16
theorem sc_plain_content : FnScope ["line_counts", "value", "runs", "item", "run"] ["line_counts", "value"] (defScope s_plain_content) := ⟨rfl, rfl, rfl, by decide +kernel, rfl, by decide +kernel, by decide +kernel⟩
abbrev s_checked_line_counts : Stmt := topS 17
theorem sc_checked_line_counts : FnScope ["value", "counts"] ["value"] (defScope s_checked_line_counts) := ⟨rfl, rfl, rfl, by decide +kernel, rfl, by decide +kernel, by decide +kernel⟩
abbrev s_checked_content : Stmt := topS 18
theorem sc_checked_content : FnScope ["line_counts", "value", "runs"] ["line_counts", "value"] (defScope s_checked_content) := ⟨rfl, rfl, rfl, by decide +kernel, rfl, by decide +kernel, by decide +kernel⟩
abbrev s_appearing_obstruction : Stmt := topS 20
theorem sc_appearing_obstruction : FnScope ["runs", "latest", "index", "writer", "first", "last"] ["runs"] (defScope s_appearing_obstruction) := ⟨rfl, rfl, rfl, by decide +kernel, rfl, by decide +kernel, by decide +kernel⟩
abbrev s_final_obstruction : Stmt := topS 21
theorem sc_final_obstruction : FnScope ["line_counts", "content", "counts", "runs", "obstruction", "writer", "first", "last"] ["line_counts", "content"] (defScope s_final_obstruction) := ⟨rfl, rfl, rfl, by decide +kernel, rfl, by decide +kernel, by decide +kernel⟩
abbrev s_schedule_of_runs : Stmt := topS 22
theorem sc_schedule_of_runs : FnScope ["runs", "lost", "schedule", "index", "writer", "first", "last", "left"] ["runs", "lost"] (defScope s_schedule_of_runs) := ⟨rfl, rfl, rfl, by decide +kernel, rfl, by decide +kernel, by decide +kernel⟩
abbrev s_gaps_of_runs : Stmt := topS 24
theorem sc_gaps_of_runs : FnScope ["counts", "runs", "found", "latest", "index", "writer", "first", "last", "number", "before"] ["counts", "runs"] (defScope s_gaps_of_runs) := ⟨rfl, rfl, rfl, by decide +kernel, rfl, by decide +kernel, by decide +kernel⟩
abbrev s_stop_of_gap : Stmt := topS 25
theorem sc_stop_of_gap : FnScope ["gap"] ["gap"] (defScope s_stop_of_gap) := ⟨rfl, rfl, rfl, by decide +kernel, rfl, by decide +kernel, by decide +kernel⟩
abbrev s_gaps_that_share_no_run : Stmt := topS 26
theorem sc_gaps_that_share_no_run : FnScope ["found", "taken", "gap"] ["found"] (defScope s_gaps_that_share_no_run) := ⟨rfl, rfl, rfl, by decide +kernel, rfl, by decide +kernel, by decide +kernel⟩
abbrev s_covering_stops : Stmt := topS 27
theorem sc_covering_stops : FnScope ["found", "gap"] ["found"] (defScope s_covering_stops) := ⟨rfl, rfl, rfl, by decide +kernel, rfl, by decide +kernel, by decide +kernel⟩
abbrev s_gaps : Stmt := topS 28
theorem sc_gaps : FnScope ["line_counts", "content", "counts", "runs"] ["line_counts", "content"] (defScope s_gaps) := ⟨rfl, rfl, rfl, by decide +kernel, rfl, by decide +kernel, by decide +kernel⟩
abbrev s_min_overwrites : Stmt := topS 29
theorem sc_min_overwrites : FnScope ["line_counts", "content", "found"] ["line_counts", "content"] (defScope s_min_overwrites) := ⟨rfl, rfl, rfl, by decide +kernel, rfl, by decide +kernel, by decide +kernel⟩
abbrev s_schedule_with_min_overwrites : Stmt := topS 30
theorem sc_schedule_with_min_overwrites : FnScope ["line_counts", "content", "counts", "runs", "found", "stops", "lost", "writer", "first", "last", "start", "stop", "covering", "index"] ["line_counts", "content"] (defScope s_schedule_with_min_overwrites) := ⟨rfl, rfl, rfl, by decide +kernel, rfl, by decide +kernel, by decide +kernel⟩
abbrev s__law_bowl : Stmt := topS 32
theorem sc__law_bowl : FnScope ["script", "mix", "cell"] ["script"] (defScope s__law_bowl) := ⟨rfl, rfl, rfl, by decide +kernel, rfl, by decide +kernel, by decide +kernel⟩
abbrev s__law_dip : Stmt := topS 33
theorem sc__law_dip : FnScope ["bowl", "many", "found", "stirred"] ["bowl", "many"] (defScope s__law_dip) := ⟨rfl, rfl, rfl, by decide +kernel, rfl, by decide +kernel, by decide +kernel⟩
abbrev s__law_rows : Stmt := topS 34
theorem sc__law_rows : FnScope ["bowl", "most", "great", "pool", "found", "k", "writer"] ["bowl", "most", "great"] (defScope s__law_rows) := ⟨rfl, rfl, rfl, by decide +kernel, rfl, by decide +kernel, by decide +kernel⟩
abbrev s__law_put : Stmt := topS 35
theorem sc__law_put : FnScope ["runs", "run"] ["runs", "run"] (defScope s__law_put) := ⟨rfl, rfl, rfl, by decide +kernel, rfl, by decide +kernel, by decide +kernel⟩
abbrev s__law_last : Stmt := topS 36
theorem sc__law_last : FnScope ["bowl", "rows", "most", "some", "ends", "upto", "opener", "found", "behind", "k", "free", "writer", "left", "first", "last"] ["bowl", "rows", "most"] (defScope s__law_last) := ⟨rfl, rfl, rfl, by decide +kernel, rfl, by decide +kernel, by decide +kernel⟩
abbrev s__law_begun : Stmt := topS 37
theorem sc__law_begun : FnScope ["rows", "writer"] ["rows"] (defScope s__law_begun) := ⟨rfl, rfl, rfl, by decide +kernel, rfl, by decide +kernel, by decide +kernel⟩
abbrev s__law_laid : Stmt := topS 38
theorem sc__law_laid : FnScope ["desk", "rows", "writer", "many", "first"] ["desk", "rows", "writer", "many"] (defScope s__law_laid) := ⟨rfl, rfl, rfl, by decide +kernel, rfl, by decide +kernel, by decide +kernel⟩
abbrev s__law_step : Stmt := topS 39
theorem sc__law_step : FnScope ["desk", "rows", "deed", "word", "writer", "copy"] ["desk", "rows", "deed"] (defScope s__law_step) := ⟨rfl, rfl, rfl, by decide +kernel, rfl, by decide +kernel, by decide +kernel⟩
abbrev s__law_right : Stmt := topS 40
theorem sc__law_right : FnScope ["rows", "runs", "kept", "deeds", "desk", "deed", "told", "other", "name"] ["rows", "runs"] (defScope s__law_right) := ⟨rfl, rfl, rfl, by decide +kernel, rfl, by decide +kernel, by decide +kernel⟩
abbrev s_law : Stmt := topS 41
theorem sc_law : FnScope ["script", "bowl", "turn", "rows", "size"] ["script"] (defScope s_law) := ⟨rfl, rfl, rfl, by decide +kernel, rfl, by decide +kernel, by decide +kernel⟩

local macro_rules | `(tactic| walk_at "vis") => `(tactic| first | exact Or.inl rfl | exact Or.inr (Or.inl rfl) | exact Or.inr (Or.inr rfl))
local macro_rules | `(tactic| walk_at "e1") => `(tactic| first | walk_at "nm" | refine de_int ?_ | refine de_add ?_ | refine de_sub ?_ | refine de_str ?_ | refine de_non ?_ | refine de_bl ?_)
local macro_rules | `(tactic| walk_at "go") => `(tactic| repeat (first | ((with_reducible show DE _ _ _ _ _ _); walk_at "e1") | ((with_reducible show DA _ _ _ _ _ _); refine da_cons ?_) | refine ⟨_, _, rfl, rfl, ?_⟩))

section
variable {P : Program} {w : World} {K : PySem.W.Frag} {mg : Str → Option Value} {base : Heap}

local macro_rules | `(tactic| walk_at "nm") => `(tactic| first | ((with_reducible refine de_name (x := "value") (i := 0) (s := ?s) ?hN ?hv ?ht ?q ?hd ?hcd); (case hN => rfl); (case hv => walk_at "vis"); (case ht => rfl); (case hd => decide); (case hcd => decide)))


def R_plain_integer : Rr := fun _ ss M Q => ∃ x, ss = [.d x] ∧ Q (.d (intOf x)) M
theorem ok_plain_integer (F : FunAt K mg "plain_integer" s_plain_integer ["value"]) (b1 : mg "isinstance" = none) (b2 : mg "int" = none) (b3 : mg "bool" = none) : Cal P w K mg base "plain_integer" 1 ["value"] R_plain_integer := by
  refine cal_of F sc_plain_integer (fun _ ss _ _ ⟨x, h, _⟩ => by rw [h]; rfl) (fun f cdv A outer s H E L ss M Q hr h => ?_)
  obtain ⟨x, rfl, q⟩ := h
  refine db_cons (ds_if (dt_and2 (dt_val (de_callB call_isi (by rfl) b1 bt_isinstance (da_cons ?_)))))
  walk_at "nm"
  refine da_cons (de_type (by rfl) b2 bt_int (da_nil (k_isaInt ⟨_, rfl, fun h1 => ?_, fun h1 => ?_⟩)))
  · refine dt_not (dt_val (de_callB call_isi (by rfl) b1 bt_isinstance (da_cons ?_)))
    walk_at "nm"
    refine da_cons (de_type (by rfl) b3 bt_bool (da_nil (k_isaBool ⟨_, rfl, fun h2 => ?_, fun h2 => ?_⟩)))
    · refine db_cons (ds_ret (de_callT call_int1 (by rfl) b2 bt_int (da_cons ?_)))
      walk_at "nm"
      cases x with
      | int i => exact da_nil (k_intI q)
      | bool b => cases h2
      | _ => cases h1
    · refine db_nil (db_cons (ds_ret (de_non ?_)))
      cases x with
      | bool b => exact q
      | int i => cases h2
      | _ => cases h1
  · refine ⟨no1, fun _ => db_nil (db_cons (ds_ret (de_non ?_)))⟩
    cases x with
    | int i => cases h1
    | _ => exact q

local macro_rules | `(tactic| walk_at "nm") => `(tactic| first | ((with_reducible refine de_name (x := "value") (i := 0) (s := ?s) ?hN ?hv ?ht ?q ?hd ?hcd); (case hN => rfl); (case hv => walk_at "vis"); (case ht => rfl); (case hd => decide); (case hcd => decide)))


def R_plain_text : Rr := fun _ ss M Q => ∃ x, ss = [.d x] ∧ short x ∧ Q (.d (strOf x)) M
theorem ok_plain_text (F : FunAt K mg "plain_text" s_plain_text ["value"]) (b1 : mg "isinstance" = none) (b2 : mg "str" = none) : Cal P w K mg base "plain_text" 1 ["value"] R_plain_text := by
  refine cal_of F sc_plain_text (fun _ ss _ _ ⟨x, h, _⟩ => by rw [h]; rfl) (fun f cdv A outer s H E L ss M Q hr h => ?_)
  obtain ⟨x, rfl, hs, q⟩ := h
  refine db_cons (ds_if (dt_val (de_callB call_isi (by rfl) b1 bt_isinstance (da_cons ?_))))
  walk_at "nm"
  refine da_cons (de_type (by rfl) b2 bt_str (da_nil (k_isaStr ⟨_, rfl, fun h1 => ?_, fun h1 => ?_⟩)))
  · refine db_cons (ds_ret (de_join (de_str ⟨_, rfl, de_lstD (da_cons ?_)⟩)))
    walk_at "nm"
    cases x with
    | str z =>
      refine da_nil ⟨[.str z], rfl, (by show 1 ≤ sizeLine; decide), [z], rfl, ?_, ?_⟩
      · have hs : z.length ≤ 16777216 := hs
        show z.length + 0 + 1 * 0 ≤ 16777216
        omega
      · rw [Y.join_one]
        exact q
    | _ => cases h1
  · refine db_nil (db_cons (ds_ret (de_non ?_)))
    cases x with
    | str z => cases h1
    | _ => exact q

local macro_rules | `(tactic| walk_at "nm") => `(tactic| first | ((with_reducible refine de_name (x := "value") (i := 0) (s := ?s) ?hN ?hv ?ht ?q ?hd ?hcd); (case hN => rfl); (case hv => walk_at "vis"); (case ht => rfl); (case hd => decide); (case hcd => decide)) | ((with_reducible refine de_name (x := "name") (i := 1) (s := ?s) ?hN ?hv ?ht ?q ?hd ?hcd); (case hN => rfl); (case hv => walk_at "vis"); (case ht => rfl); (case hd => decide); (case hcd => decide)))


def R_plain_writer : Rr := fun _ ss M Q => ∃ x, ss = [.d x] ∧ short x ∧ Q (.d (writerOf x)) M
theorem ok_plain_writer (F : FunAt K mg "plain_writer" s_plain_writer ["value"]) (c1 : Cal P w K mg base "plain_text" 1 ["value"] R_plain_text) (b1 : mg "len" = none) (g1 : ∃ t, mg "LONGEST_NAME" = some (.int 8 t)) : Cal P w K mg base "plain_writer" 2 ["value"] R_plain_writer := by
  refine cal_of F sc_plain_writer (fun _ ss _ _ ⟨x, h, _⟩ => by rw [h]; rfl) (fun f cdv A outer s H E L ss M Q hr h => ?_)
  obtain ⟨x, rfl, hs, q⟩ := h
  obtain ⟨t8, g1⟩ := g1
  refine db_cons (ds_set (i := 1) sc_plain_writer.nd rfl (.inl rfl) (de_callC c1 hr (by rfl) (da_cons ?_)))
  walk_at "nm"
  refine da_nil ⟨x, rfl, hs, ?_⟩
  refine db_cons (ds_if (dt_or2 (dt_cmp op_isN ?_ (nomark _))))
  walk_at "nm"
  refine de_non (k_isN ⟨_, rfl, fun h1 => ?_, fun h1 => ?_⟩)
  · refine ⟨fun _ => db_cons (ds_ret (de_non ?_)), no2⟩
    cases x with
    | str z => cases h1
    | _ => exact q
  · cases x with
    | str z =>
      have hs : z.length ≤ 16777216 := hs
      refine dt_not (dt_chain op_le op_le (de_int (de_callB call_len_str (by rfl) b1 bt_len (da_cons ?_))))
      walk_at "nm"
      refine da_nil (k_lenS hs (k_bool ⟨_, rfl, fun h2 => de_glob (by rfl) g1 ⟨_, rfl⟩ (k_bool ⟨_, rfl, fun h3 => ?_, fun h3 => ?_⟩), fun h2 => ?_⟩))
      · refine db_cons (ds_ret (de_non ?_))
        have : okName z = false := by
          unfold okName
          have e : ¬ z.length ≤ 8 := by
            have := h3
            simp only [Bool.not_eq_true', decide_eq_false_iff_not] at this
            omega
          simp [e]
        simp only [writerOf, this] at q
        exact q
      · have e1 : 1 ≤ z.length := by
          have := h2
          simp only [decide_eq_true_eq] at this
          omega
        have e2 : z.length ≤ 8 := by
          have := h3
          simp only [Bool.not_eq_false', decide_eq_true_eq] at this
          omega
        refine db_nil (db_cons (ds_if (dt_and3 (dt_val (de_mS0 PySem.F.slot_str_isascii PySem.F.type_str_isascii mt_isascii ?_)))))
        walk_at "nm"
        refine ⟨z, rfl, _, rfl, fun h4 => ?_, fun h4 => ?_⟩
        · refine dt_val (de_mS0 PySem.F.slot_str_isalpha PySem.F.type_str_isalpha mt_isalpha ?_)
          walk_at "nm"
          refine ⟨z, rfl, _, rfl, fun h5 => ?_, fun h5 => ?_⟩
          · refine dt_val (de_mS0 PySem.F.slot_str_islower PySem.F.type_str_islower mt_islower ?_)
            walk_at "nm"
            refine ⟨z, rfl, _, rfl, fun h6 => ?_, fun h6 => ?_⟩
            · refine db_cons (ds_ret ?_)
              walk_at "nm"
              simp only [writerOf, okName, e1, e2, h4, h5, h6] at q
              exact q
            · refine db_nil (db_cons (ds_ret (de_non ?_)))
              simp only [writerOf, okName, h6] at q
              simpa using q
          · refine ⟨no1, fun _ => db_nil (db_cons (ds_ret (de_non ?_)))⟩
            simp only [writerOf, okName, h5] at q
            simpa using q
        · refine ⟨no1, fun _ => db_nil (db_cons (ds_ret (de_non ?_)))⟩
          simp only [writerOf, okName, h4] at q
          simpa using q
      · refine ⟨fun _ => db_cons (ds_ret (de_non ?_)), no2⟩
        have : okName z = false := by
          unfold okName
          have e : ¬ 1 ≤ z.length := by
            have := h2
            simp only [decide_eq_false_iff_not] at this
            omega
          simp [e]
        simp only [writerOf, this] at q
        exact q
    | _ => cases h1

end

end Pg

namespace Pg
open PySem L2 Y PyProof.Rows

local macro_rules | `(tactic| walk_at "vis") => `(tactic| first | exact Or.inl rfl | exact Or.inr (Or.inl rfl) | exact Or.inr (Or.inr rfl))
local macro_rules | `(tactic| walk_at "e1") => `(tactic| first | walk_at "nm" | refine de_int ?_ | refine de_add ?_ | refine de_sub ?_ | refine de_str ?_ | refine de_non ?_ | refine de_bl ?_)
local macro_rules | `(tactic| walk_at "go") => `(tactic| repeat (first | ((with_reducible show DE _ _ _ _ _ _); walk_at "e1") | ((with_reducible show DA _ _ _ _ _ _); refine da_cons ?_) | refine ⟨_, _, rfl, rfl, ?_⟩))

section
variable {P : Program} {w : World} {K : PySem.W.Frag} {mg : Str → Option Value} {base : Heap}

local macro_rules | `(tactic| walk_at "nm") => `(tactic| first | ((with_reducible refine de_name (x := "line_counts") (i := 0) (s := ?s) ?hN ?hv ?ht ?q ?hd ?hcd); (case hN => rfl); (case hv => walk_at "vis"); (case ht => rfl); (case hd => decide); (case hcd => decide)) | ((with_reducible refine de_name (x := "writer") (i := 1) (s := ?s) ?hN ?hv ?ht ?q ?hd ?hcd); (case hN => rfl); (case hv => walk_at "vis"); (case ht => rfl); (case hd => decide); (case hcd => decide)))


def R_highest_number : Rr := fun _ ss M Q => ∃ lc z, ss = [.d (eLc lc), dS z] ∧ Q (dI (high lc z)) M
theorem ok_highest_number (F : FunAt K mg "highest_number" s_highest_number ["line_counts", "writer"]) (g1 : ∃ t, mg "LARGEST_NUMBER" = some (.int (10 ^ 30) t)) : Cal P w K mg base "highest_number" 1 ["line_counts", "writer"] R_highest_number := by
  refine cal_of F sc_highest_number (fun _ ss _ _ ⟨lc, z, h, _⟩ => by rw [h]; rfl) (fun f cdv A outer s H E L ss M Q hr h => ?_)
  obtain ⟨lc, z, rfl, q⟩ := h
  obtain ⟨t, g1⟩ := g1
  refine db_cons (ds_if (dt_cmp op_isN ?_ (nomark _)))
  walk_at "nm"
  cases lc with
  | none =>
    refine de_non (k_isN ⟨_, rfl, fun _ => ?_, no2⟩)
    exact db_cons (ds_ret (de_glob (by rfl) g1 ⟨_, rfl⟩ q))
  | some cs =>
    refine de_non (k_isN ⟨_, rfl, no1, fun _ => ?_⟩)
    refine db_nil (db_cons (ds_ret (de_dget2 (hu_of hr) ?_)))
    walk_at "nm"
    refine ⟨⟨_, .d (kdC cs)⟩, ?_⟩
    walk_at "nm"
    refine de_int ⟨_, .inr z, .d (kdC cs), rfl, ?_⟩
    rw [valS_C]
    have e : ((getC cs z).map dI).getD (.d (.int 0)) = dI (high (some cs) z) := by
      show _ = dI ((getC cs z).getD 0)
      cases getC cs z <;> rfl
    rw [e]
    exact q

local macro_rules | `(tactic| walk_at "nm") => `(tactic| first | ((with_reducible refine de_name (x := "line_counts") (i := 0) (s := ?s) ?hN ?hv ?ht ?q ?hd ?hcd); (case hN => rfl); (case hv => walk_at "vis"); (case ht => rfl); (case hd => decide); (case hcd => decide)) | ((with_reducible refine de_name (x := "writer") (i := 1) (s := ?s) ?hN ?hv ?ht ?q ?hd ?hcd); (case hN => rfl); (case hv => walk_at "vis"); (case ht => rfl); (case hd => decide); (case hcd => decide)) | ((with_reducible refine de_name (x := "first") (i := 2) (s := ?s) ?hN ?hv ?ht ?q ?hd ?hcd); (case hN => rfl); (case hv => walk_at "vis"); (case ht => rfl); (case hd => decide); (case hcd => decide)) | ((with_reducible refine de_name (x := "last") (i := 3) (s := ?s) ?hN ?hv ?ht ?q ?hd ?hcd); (case hN => rfl); (case hv => walk_at "vis"); (case ht => rfl); (case hd => decide); (case hcd => decide)) | ((with_reducible refine de_name (x := "name") (i := 4) (s := ?s) ?hN ?hv ?ht ?q ?hd ?hcd); (case hN => rfl); (case hv => walk_at "vis"); (case ht => rfl); (case hd => decide); (case hcd => decide)) | ((with_reducible refine de_name (x := "low") (i := 5) (s := ?s) ?hN ?hv ?ht ?q ?hd ?hcd); (case hN => rfl); (case hv => walk_at "vis"); (case ht => rfl); (case hd => decide); (case hcd => decide)) | ((with_reducible refine de_name (x := "high") (i := 6) (s := ?s) ?hN ?hv ?ht ?q ?hd ?hcd); (case hN => rfl); (case hv => walk_at "vis"); (case ht => rfl); (case hd => decide); (case hcd => decide)))


def R_plain_lines : Rr := fun _ ss M Q => ∃ lc x y z, ss = [.d (eLc lc), .d x, .d y, .d z] ∧ short x ∧ Q (.d (mkLines lc x y z)) M
theorem ok_plain_lines (F : FunAt K mg "plain_lines" s_plain_lines ["line_counts", "writer", "first", "last"]) (c1 : Cal P w K mg base "plain_writer" 2 ["value"] R_plain_writer) (c2 : Cal P w K mg base "plain_integer" 1 ["value"] R_plain_integer)
    (c3 : Cal P w K mg base "highest_number" 1 ["line_counts", "writer"] R_highest_number) : Cal P w K mg base "plain_lines" 3 ["line_counts", "writer", "first", "last"] R_plain_lines := by
  refine cal_of F sc_plain_lines (fun _ ss _ _ ⟨lc, x, y, z, h, _⟩ => by rw [h]; rfl) (fun f cdv A outer s H E L ss M Q hr h => ?_)
  obtain ⟨lc, x, y, z, rfl, hs, q⟩ := h
  refine db_cons (ds_set (i := 4) sc_plain_lines.nd rfl (.inl rfl) (de_callC c1 hr (by rfl) (da_cons ?_)))
  walk_at "nm"
  refine da_nil ⟨x, rfl, hs, ?_⟩
  refine db_cons (ds_set (i := 5) sc_plain_lines.nd rfl (.inl rfl) (de_callC (c2.up (by decide)) hr (by rfl) (da_cons ?_)))
  walk_at "nm"
  refine da_nil ⟨y, rfl, ?_⟩
  refine db_cons (ds_set (i := 6) sc_plain_lines.nd rfl (.inl rfl) (de_callC (c2.up (by decide)) hr (by rfl) (da_cons ?_)))
  walk_at "nm"
  refine da_nil ⟨z, rfl, ?_⟩
  refine db_cons (ds_if (dt_or3 (dt_cmp op_isN ?_ (nomark _))))
  walk_at "nm"
  refine de_non (k_isN ⟨_, rfl, fun h1 => ?_, fun h1 => ?_⟩)
  · refine ⟨fun _ => db_cons (ds_ret (de_non ?_)), no2⟩
    have e : mkLines lc x y z = .none := mkLines_n1 h1
    rw [e] at q
    exact q
  · refine dt_cmp op_isN ?_ (nomark _)
    walk_at "nm"
    refine de_non (k_isN ⟨_, rfl, fun h2 => ?_, fun h2 => ?_⟩)
    · refine ⟨fun _ => db_cons (ds_ret (de_non ?_)), no2⟩
      have e : mkLines lc x y z = .none := mkLines_n2 h2
      rw [e] at q
      exact q
    · refine dt_cmp op_isN ?_ (nomark _)
      walk_at "nm"
      refine de_non (k_isN ⟨_, rfl, fun h3 => ?_, fun h3 => ?_⟩)
      · refine db_cons (ds_ret (de_non ?_))
        have e : mkLines lc x y z = .none := mkLines_n3 h3
        rw [e] at q
        exact q
      · obtain ⟨n, hn⟩ : ∃ n, writerOf x = .str n := by
          cases x with
          | str n =>
            by_cases hn : okName n = true
            · exact ⟨n, by simp only [writerOf, hn, if_true]⟩
            · exfalso
              simp only [writerOf, hn, if_false] at h1
              cases h1
          | _ => cases h1
        obtain ⟨i, hi⟩ : ∃ i, intOf y = .int i := by
          cases y with
          | int i => exact ⟨i, rfl⟩
          | _ => cases h2
        obtain ⟨j, hj⟩ : ∃ j, intOf z = .int j := by
          cases z with
          | int i => exact ⟨i, rfl⟩
          | _ => cases h3
        rw [hn, hi, hj]
        have el : mkLines lc x y z = if 1 ≤ i ∧ i ≤ j ∧ j ≤ high lc n then .tuple [.str n, .int i, .int j] else .none := by
          simp only [mkLines, hn, hi, hj]
        rw [el] at q
        have no : ¬ (1 ≤ i ∧ i ≤ j ∧ j ≤ high lc n) → Q (.d .none) M := fun h => by
          rw [if_neg h] at q
          exact q
        refine db_nil (db_cons (ds_if (dt_chain3 op_le op_le op_le (de_int ?_))))
        walk_at "nm"
        refine k_bool ⟨_, rfl, fun h4 => ?_, fun h4 => ?_⟩
        · walk_at "nm"
          refine k_bool ⟨_, rfl, fun h5 => ?_, fun h5 => ?_⟩
          · refine de_callC (c3.up (by decide)) hr (by rfl) (da_cons ?_)
            walk_at "nm"
            refine da_cons ?_
            walk_at "nm"
            refine da_nil ⟨lc, n, rfl, k_bool ⟨_, rfl, fun h6 => ?_, fun h6 => ?_⟩⟩
            · refine db_cons (ds_ret (de_tupD (da_cons ?_)))
              walk_at "nm"
              refine da_cons ?_
              walk_at "nm"
              refine da_cons ?_
              walk_at "nm"
              refine da_nil ⟨[.str n, .int i, .int j], rfl, (by show 3 ≤ sizeLine; decide), ?_⟩
              rw [if_pos ⟨of_decide_eq_true h4, of_decide_eq_true h5, of_decide_eq_true h6⟩] at q
              exact q
            · exact db_nil (db_cons (ds_ret (de_non (no fun h => of_decide_eq_false h6 h.2.2))))
          · exact ⟨no1, fun _ => db_nil (db_cons (ds_ret (de_non (no fun h => of_decide_eq_false h5 h.2.1))))⟩
        · refine ⟨no1, fun _ => db_nil (db_cons (ds_ret (de_non (no fun h => of_decide_eq_false h4 h.1))))⟩

end

end Pg

namespace Pg
open PySem L2 Y PyProof.Rows

local macro_rules | `(tactic| walk_at "vis") => `(tactic| first | exact Or.inl rfl | exact Or.inr (Or.inl rfl) | exact Or.inr (Or.inr rfl))
local macro_rules | `(tactic| walk_at "e1") => `(tactic| first | walk_at "nm" | refine de_int ?_ | refine de_add ?_ | refine de_sub ?_ | refine de_str ?_ | refine de_non ?_ | refine de_bl ?_)
local macro_rules | `(tactic| walk_at "go") => `(tactic| repeat (first | ((with_reducible show DE _ _ _ _ _ _); walk_at "e1") | ((with_reducible show DA _ _ _ _ _ _); refine da_cons ?_) | refine ⟨_, _, rfl, rfl, ?_⟩))

section
variable {P : Program} {w : World} {K : PySem.W.Frag} {mg : Str → Option Value} {base : Heap}

local macro_rules | `(tactic| walk_at "nm") => `(tactic| first | ((with_reducible refine de_name (x := "line_counts") (i := 0) (s := ?s) ?hN ?hv ?ht ?q ?hd ?hcd); (case hN => rfl); (case hv => walk_at "vis"); (case ht => rfl); (case hd => decide); (case hcd => decide)) | ((with_reducible refine de_name (x := "value") (i := 1) (s := ?s) ?hN ?hv ?ht ?q ?hd ?hcd); (case hN => rfl); (case hv => walk_at "vis"); (case ht => rfl); (case hd => decide); (case hcd => decide)))


def R_plain_run : Rr := fun _ ss M Q => ∃ lc r, ss = [.d (eLc lc), sRun r] ∧ okRun lc r ∧ Q (sRun r) M
theorem ok_plain_run (F : FunAt K mg "plain_run" s_plain_run ["line_counts", "value"]) (c1 : Cal P w K mg base "plain_lines" 3 ["line_counts", "writer", "first", "last"] R_plain_lines) (b1 : mg "type" = none) (b2 : mg "tuple" = none) (b3 : mg "len" = none) : Cal P w K mg base "plain_run" 4 ["line_counts", "value"] R_plain_run := by
  refine cal_of F sc_plain_run (fun _ ss _ _ ⟨lc, x, h, _⟩ => by rw [h]; rfl) (fun f cdv A outer s H E L ss M Q hr h => ?_)
  obtain ⟨lc, r, rfl, ok, q⟩ := h
  refine db_cons (ds_if (dt_or2 (dt_cmp op_neTy (de_callT call_type1 (by rfl) b1 bt_type (da_cons ?_)) (nomark _))))
  walk_at "nm"
  refine da_nil (k_typeD rfl (de_type (by rfl) b2 bt_tuple (k_neTy okTy_tuple okTy_tuple ⟨_, rfl, fun z => absurd z (by simp [tyD, eLine, eRun, isNone, sRun, sLine]), fun _ => ?_⟩)))
  refine dt_cmp op_ne (de_callB call_len_seq (by rfl) b3 bt_len (da_cons ?_)) (nomark _)
  walk_at "nm"
  refine da_nil (k_len (ss := [.d (.str r.1), .d (.int r.2.1), .d (.int r.2.2)]) rfl (de_int (k_neI ⟨_, rfl, fun z => absurd z (by simp [tyD, eLine, eRun, isNone, sRun, sLine]), fun _ => ?_⟩)))
  refine db_nil (db_cons (ds_ret (de_callC c1 hr (by rfl) (da_cons ?_))))
  walk_at "nm"
  refine da_cons (de_ix ?_)
  walk_at "nm"
  refine de_int ⟨_, _, .d (.str r.1), rfl, rfl, rfl, ?_⟩
  refine da_cons (de_ix ?_)
  walk_at "nm"
  refine de_int ⟨_, _, .d (.int r.2.1), rfl, rfl, rfl, ?_⟩
  refine da_cons (de_ix ?_)
  walk_at "nm"
  refine de_int ⟨_, _, .d (.int r.2.2), rfl, rfl, rfl, ?_⟩
  refine da_nil ⟨lc, _, _, _, rfl, short_of_okName ok.1, ?_⟩
  rw [mkLines_ok ok]
  exact q

local macro_rules | `(tactic| walk_at "nm") => `(tactic| first | ((with_reducible refine de_name (x := "run") (i := 0) (s := ?s) ?hN ?hv ?ht ?q ?hd ?hcd); (case hN => rfl); (case hv => walk_at "vis"); (case ht => rfl); (case hd => decide); (case hcd => decide)) | ((with_reducible refine de_name (x := "following") (i := 1) (s := ?s) ?hN ?hv ?ht ?q ?hd ?hcd); (case hN => rfl); (case hv => walk_at "vis"); (case ht => rfl); (case hd => decide); (case hcd => decide)))


def R_continues : Rr := fun _ ss M Q => ∃ a b, ss = [sRun a, sRun b] ∧ Q (.d (.bool (cont a b))) M
theorem ok_continues (F : FunAt K mg "continues" s_continues ["run", "following"]) : Cal P w K mg base "continues" 1 ["run", "following"] R_continues := by
  refine cal_of F sc_continues (fun _ ss _ _ ⟨a, b, h, _⟩ => by rw [h]; rfl) (fun f cdv A outer s H E L ss M Q hr h => ?_)
  obtain ⟨a, b, rfl, q⟩ := h
  refine db_cons (ds_ret (de_and (de_cmp op_eq (de_ix ?_) (nomark _))))
  walk_at "nm"
  refine de_int ⟨_, _, .d (.str b.1), rfl, rfl, rfl, de_ix ?_⟩
  walk_at "nm"
  refine de_int ⟨_, _, .d (.str a.1), rfl, rfl, rfl, k_eqS ⟨_, rfl, fun h1 => ?_, fun h1 => ?_⟩⟩
  · refine de_one (de_cmp op_eq (de_ix ?_) (nomark _))
    walk_at "nm"
    refine de_int ⟨_, _, .d (.int b.2.1), rfl, rfl, rfl, de_add (de_ix ?_)⟩
    walk_at "nm"
    refine de_int ⟨_, _, .d (.int a.2.2), rfl, rfl, rfl, de_int ⟨_, _, rfl, rfl, k_eqI ?_⟩⟩
    have e : cont a b = decide (b.2.1 = a.2.2 + 1) := by
      unfold cont
      rw [h1, Bool.true_and]
    rw [e] at q
    exact q
  · have e : cont a b = false := by
      unfold cont
      rw [h1, Bool.false_and]
    rw [e] at q
    exact q

local macro_rules | `(tactic| walk_at "nm") => `(tactic| first | ((with_reducible refine de_name (x := "line_counts") (i := 0) (s := ?s) ?hN ?hv ?ht ?q ?hd ?hcd); (case hN => rfl); (case hv => walk_at "vis"); (case ht => rfl); (case hd => decide); (case hcd => decide)) | ((with_reducible refine de_name (x := "value") (i := 1) (s := ?s) ?hN ?hv ?ht ?q ?hd ?hcd); (case hN => rfl); (case hv => walk_at "vis"); (case ht => rfl); (case hd => decide); (case hcd => decide)) | ((with_reducible refine de_name (x := "runs") (i := 2) (s := ?s) ?hN ?hv ?ht ?q ?hd ?hcd); (case hN => rfl); (case hv => walk_at "vis"); (case ht => rfl); (case hd => decide); (case hcd => decide)) | ((with_reducible refine de_name (x := "item") (i := 3) (s := ?s) ?hN ?hv ?ht ?q ?hd ?hcd); (case hN => rfl); (case hv => walk_at "vis"); (case ht => rfl); (case hd => decide); (case hcd => decide)) | ((with_reducible refine de_name (x := "run") (i := 4) (s := ?s) ?hN ?hv ?ht ?q ?hd ?hcd); (case hN => rfl); (case hv => walk_at "vis"); (case ht => rfl); (case hd => decide); (case hcd => decide)))


def R_plain_content : Rr := fun _ ss M Q => ∃ lc s c, ss = [.d (eLc lc), s] ∧ LT M s (c.map sRun) ∧ okC lc c ∧ c.length < 1000000 ∧ ∀ p, M p = none → Q (.c p) (updC M p (.l (c.map sRun)))
theorem ok_plain_content (F : FunAt K mg "plain_content" s_plain_content ["line_counts", "value"]) (c1 : Cal P w K mg base "plain_run" 4 ["line_counts", "value"] R_plain_run) (c2 : Cal P w K mg base "continues" 1 ["run", "following"] R_continues) (b1 : mg "type" = none) (b2 : mg "tuple" = none) (b3 : mg "list" = none) : Cal P w K mg base "plain_content" 5 ["line_counts", "value"] R_plain_content := by
  refine cal_of F sc_plain_content (fun _ ss _ _ ⟨lc, x, c, h, _⟩ => by rw [h]; rfl) (fun f cdv A outer s H E L ss M Q hr h => ?_)
  obtain ⟨lc, x, c, rfl, lt, ok, hlen, q⟩ := h
  have hd : ∀ kv, x ≠ .d (.dict kv) := fun kv e => by rw [e] at lt; cases lt.1
  refine db_cons (ds_if (dt_cmp op_niTy (de_callT call_type1 (by rfl) b1 bt_type (da_cons ?_)) (by with_unfolding_all rfl)))
  walk_at "nm"
  obtain ⟨n, hn, okn, hany⟩ : ∃ n, tyName M x = some n ∧ okTy n ∧ (["list", "tuple"].any fun t => decide (t = n)) = true := by
    rcases lt.2 with z | z
    · exact ⟨_, z, okTy_list, by simp⟩
    · exact ⟨_, z, okTy_tuple, by simp⟩
  refine da_nil (k_type hn hd (de_tup (da_cons (de_type (by rfl) b3 bt_list (da_cons (de_type (by rfl) b2 bt_tuple (da_nil ⟨(by show 2 ≤ sizeLine; decide), k_niTy (ts := ["list", "tuple"]) okn (fun t ht => ?_) ⟨_, rfl, fun z => absurd z (by rw [hany]; simp), fun _ => ?_⟩⟩)))))))
  · rcases List.mem_cons.mp ht with rfl | ht
    · exact okTy_list
    · rcases List.mem_cons.mp ht with rfl | ht
      · exact okTy_tuple
      · cases ht
  refine db_nil (db_cons (ds_set (i := 2) sc_plain_content.nd rfl (.inl rfl) (de_lstC (da_nil ⟨Nat.zero_le _, fun p hp => ?_⟩))))
  refine db_cons (ds_for PassesOwn.never rfl (di_seq ?_))
  walk_at "nm"
  refine ⟨c.map sRun, seqOf_updC lt.1 hp, ?_⟩
  refine ⟨fun i τ' M' => ∃ y3 y4, τ' = [some (.d (eLc lc)), some x, some (.c p), y3, y4] ∧ M' = updC M p (.l ((c.take i).map sRun)), ⟨none, none, rfl, rfl⟩, ?_, ?_, ?_⟩
  · rintro i τ' M' ⟨y3, y4, rfl, rfl⟩
    exact seqOf_updC lt.1 hp
  · rintro i y τ' M' hi hy ⟨y3, y4, rfl, rfl⟩
    rw [List.length_map] at hi
    have hy' : y = sRun c[i] := by
      rw [List.getElem?_map, List.getElem?_eq_getElem hi] at hy
      exact (Option.some.inj hy).symm
    subst hy'
    refine dg_name (i := 3) sc_plain_content.nd rfl (.inl rfl) ?_
    refine db_cons (ds_set (i := 4) sc_plain_content.nd rfl (.inl rfl) (de_callC c1 hr (by rfl) (da_cons ?_)))
    walk_at "nm"
    refine da_cons ?_
    walk_at "nm"
    refine da_nil ⟨lc, c[i], rfl, ok.1 _ (List.getElem_mem hi), ?_⟩
    have hk : (updC M p (.l ((c.take i).map sRun))) p = some (.l ((c.take i).map sRun)) := updC_same
    have htk : (c.take (i + 1)).map sRun = (c.take i).map sRun ++ [sRun c[i]] := by
      rw [List.take_add_one, List.getElem?_eq_getElem hi, List.map_append]
      rfl
    refine db_cons (ds_ifF ?_ (db_nil ?_))
    · refine dt_or2 (dt_cmp op_isN ?_ (nomark _))
      walk_at "nm"
      refine de_non (k_isN ⟨_, rfl, fun z => absurd z (by simp [isNone, sRun, eRun]), fun _ => ?_⟩)
      refine dt_and2 (dt_tru ?_)
      walk_at "nm"
      refine ⟨!((c.take i).map sRun).isEmpty, by simp only [truOf, seqOf, hk]; rfl, fun h1 => ?_, fun h1 => ⟨rfl, rfl⟩⟩
      refine dt_val (de_callC (c2.up (by decide)) hr (by rfl) (da_cons (de_ix ?_)))
      walk_at "nm"
      have hpos : 0 < i := by
        cases i with
        | zero => simp at h1
        | succ n => omega
      have hlast : ((c.take i).map sRun).getLast? = some (sRun c[i - 1]) := by
        rw [List.getLast?_eq_getElem?, List.getElem?_map, List.length_map, List.length_take, Nat.min_eq_left (Nat.le_of_lt hi), List.getElem?_take_of_lt (by omega), List.getElem?_eq_getElem (by omega)]
        rfl
      refine de_neg (de_int ⟨1, rfl, (c.take i).map sRun, _, sRun c[i - 1], by simp only [seqOf, hk], rfl, atI_l hlast, ?_⟩)
      refine da_cons ?_
      walk_at "nm"
      have hcont : cont c[i - 1] c[i] = false := ok.2 (i - 1) _ _ (List.getElem?_eq_getElem (by omega)) (by rw [show i - 1 + 1 = i by omega]; exact List.getElem?_eq_getElem hi)
      refine da_nil ⟨c[i - 1], c[i], rfl, _, rfl, ?_⟩
      exact ⟨hcont, rfl⟩
    refine db_cons (ds_append ?_)
    walk_at "nm"
    refine ⟨⟨rfl, _, (by simp only [seqOf, hk]; rfl)⟩, ?_⟩
    walk_at "nm"
    refine ⟨p, _, rfl, hk, ?_, db_nil ⟨_, _, rfl, ?_⟩⟩
    · rw [List.length_map, List.length_take, sizeLine_eq]
      omega
    · rw [updC_updC, htk]
  · rintro τ' M' ⟨y3, y4, rfl, rfl⟩
    rw [List.length_map, List.take_length]
    refine db_cons (ds_ret ?_)
    walk_at "nm"
    exact q p hp

end

end Pg

namespace Pg
open PySem L2 Y PyProof.Rows

local macro_rules | `(tactic| walk_at "vis") => `(tactic| first | exact Or.inl rfl | exact Or.inr (Or.inl rfl) | exact Or.inr (Or.inr rfl))
local macro_rules | `(tactic| walk_at "e1") => `(tactic| first | walk_at "nm" | refine de_int ?_ | refine de_add ?_ | refine de_sub ?_ | refine de_str ?_ | refine de_non ?_ | refine de_bl ?_)
local macro_rules | `(tactic| walk_at "go") => `(tactic| repeat (first | ((with_reducible show DE _ _ _ _ _ _); walk_at "e1") | ((with_reducible show DA _ _ _ _ _ _); refine da_cons ?_) | refine ⟨_, _, rfl, rfl, ?_⟩))

section
variable {P : Program} {w : World} {K : PySem.W.Frag} {mg : Str → Option Value} {base : Heap}

local macro_rules | `(tactic| walk_at "nm") => `(tactic| first | ((with_reducible refine de_name (x := "line_counts") (i := 0) (s := ?s) ?hN ?hv ?ht ?q ?hd ?hcd); (case hN => rfl); (case hv => walk_at "vis"); (case ht => rfl); (case hd => decide); (case hcd => decide)) | ((with_reducible refine de_name (x := "value") (i := 1) (s := ?s) ?hN ?hv ?ht ?q ?hd ?hcd); (case hN => rfl); (case hv => walk_at "vis"); (case ht => rfl); (case hd => decide); (case hcd => decide)) | ((with_reducible refine de_name (x := "runs") (i := 2) (s := ?s) ?hN ?hv ?ht ?q ?hd ?hcd); (case hN => rfl); (case hv => walk_at "vis"); (case ht => rfl); (case hd => decide); (case hcd => decide)))


theorem ok_checked_content (F : FunAt K mg "checked_content" s_checked_content ["line_counts", "value"]) (c1 : Cal P w K mg base "plain_content" 5 ["line_counts", "value"] R_plain_content) : Cal P w K mg base "checked_content" 6 ["line_counts", "value"] R_plain_content := by
  refine cal_of F sc_checked_content (fun _ ss _ _ ⟨lc, x, c, h, _⟩ => by rw [h]; rfl) (fun f cdv A outer s H E L ss M Q hr h => ?_)
  obtain ⟨lc, x, c, rfl, lt, ok, hl, q⟩ := h
  refine db_cons (ds_set (i := 2) sc_checked_content.nd rfl (.inl rfl) (de_callC c1 hr (by rfl) (da_cons ?_)))
  walk_at "nm"
  refine da_cons ?_
  walk_at "nm"
  refine da_nil ⟨lc, x, c, rfl, lt, ok, hl, fun p hp => ?_⟩
  refine db_cons (ds_ifF (dt_cmp op_isN ?_ (nomark _)) (db_nil (db_cons (ds_ret ?_))))
  · walk_at "nm"
    exact de_non (k_isN ⟨_, rfl, rfl, rfl⟩)
  · walk_at "nm"
    exact q p hp

local macro_rules | `(tactic| walk_at "nm") => `(tactic| first | ((with_reducible refine de_name (x := "value") (i := 0) (s := ?s) ?hN ?hv ?ht ?q ?hd ?hcd); (case hN => rfl); (case hv => walk_at "vis"); (case ht => rfl); (case hd => decide); (case hcd => decide)) | ((with_reducible refine de_name (x := "counts") (i := 1) (s := ?s) ?hN ?hv ?ht ?q ?hd ?hcd); (case hN => rfl); (case hv => walk_at "vis"); (case ht => rfl); (case hd => decide); (case hcd => decide)) | ((with_reducible refine de_name (x := "key") (i := 2) (s := ?s) ?hN ?hv ?ht ?q ?hd ?hcd); (case hN => rfl); (case hv => walk_at "vis"); (case ht => rfl); (case hd => decide); (case hcd => decide)) | ((with_reducible refine de_name (x := "number") (i := 3) (s := ?s) ?hN ?hv ?ht ?q ?hd ?hcd); (case hN => rfl); (case hv => walk_at "vis"); (case ht => rfl); (case hd => decide); (case hcd => decide)) | ((with_reducible refine de_name (x := "writer") (i := 4) (s := ?s) ?hN ?hv ?ht ?q ?hd ?hcd); (case hN => rfl); (case hv => walk_at "vis"); (case ht => rfl); (case hd => decide); (case hcd => decide)) | ((with_reducible refine de_name (x := "count") (i := 5) (s := ?s) ?hN ?hv ?ht ?q ?hd ?hcd); (case hN => rfl); (case hv => walk_at "vis"); (case ht => rfl); (case hd => decide); (case hcd => decide)))


/-- the same counts, in order -/
def Sorted (cs cs' : Cnt) : Prop := cs'.Perm cs ∧ sortedS (cs'.map (·.1)) = true
def R_plain_line_counts : Rr := fun L ss M Q => ∃ cs, NoDK L ∧ ss = [.d (eCnt cs)] ∧ okCnt cs ∧ ∀ cs', Sorted cs cs' → Q (.d (eCnt cs')) M
theorem getC_mem {cs : Cnt} (hn : (cs.map (·.1)).Nodup) {p : Str × Int} (h : p ∈ cs) : getC cs p.1 = some p.2 := by
  induction cs with
  | nil => cases h
  | cons a r ih =>
    rw [List.map_cons, List.nodup_cons] at hn
    rcases List.mem_cons.mp h with rfl | h
    · simp [getC, List.find?_cons]
    · have ne : ¬ a.1 = p.1 := fun e => hn.1 (by rw [e]; exact List.mem_map_of_mem h)
      have := ih hn.2 h
      simp only [getC, List.find?_cons, ne, decide_false] at this ⊢
      exact this
theorem putS_new {kvs : List (Key × Sl)} {k : Key} {v : Sl} (h : k ∉ kvs.map (·.1)) : putS kvs k v = kvs ++ [(k, v)] := by
  unfold putS
  rw [if_neg]
  simp only [List.any_eq_true, decide_eq_true_eq, not_exists, not_and]
  exact fun p hp e => h (e ▸ List.mem_map_of_mem hp)
theorem slK_take (cs : Cnt) (i : Nat) : slK ((kdC cs).take i) = (slK (kdC cs)).take i := by
  unfold slK
  rw [List.map_take]
theorem keys_C (cs : Cnt) : (slK (kdC cs)).map (·.1) = (cs.map (·.1)).map Sum.inr := by
  simp [slK, kdC]
theorem perm_of_keys {cs : Cnt} (hn : (cs.map (·.1)).Nodup) {ys : List Str} (h : ys.Perm (cs.map (·.1))) : (ys.map fun y => (y, (getC cs y).getD 0)).Perm cs := by
  have h2 := h.map (fun y => (y, (getC cs y).getD 0))
  refine h2.trans (List.Perm.of_eq ?_)
  rw [List.map_map]
  conv => rhs; rw [← List.map_id cs]
  apply List.map_congr_left
  intro p hp
  simp only [Function.comp, getC_mem hn hp, Option.getD_some, id]
theorem ok_plain_line_counts (F : FunAt K mg "plain_line_counts" s_plain_line_counts ["value"]) (c1 : Cal P w K mg base "plain_writer" 2 ["value"] R_plain_writer) (c2 : Cal P w K mg base "plain_integer" 1 ["value"] R_plain_integer)
    (b1 : mg "isinstance" = none) (b2 : mg "dict" = none) (b3 : mg "len" = none) (b4 : mg "sorted" = none) (g1 : ∃ t, mg "MOST_WRITERS" = some (.int 12 t)) (g2 : ∃ t, mg "LARGEST_NUMBER" = some (.int (10 ^ 30) t)) : Cal P w K mg base "plain_line_counts" 3 ["value"] R_plain_line_counts := by
  refine cal_of F sc_plain_line_counts (fun _ ss _ _ ⟨cs, _, h, _⟩ => by rw [h]; rfl) (fun f cdv A outer s H E L ss M Q hr h => ?_)
  obtain ⟨cs, hL, rfl, ok, q⟩ := h
  obtain ⟨l1, l2, nd, okp⟩ := ok
  obtain ⟨t1, g1⟩ := g1
  obtain ⟨t2, g2⟩ := g2
  have hlen : (kdC cs).length = cs.length := by simp [kdC]
  refine db_cons (ds_ifF (dt_or2 (dt_not (dt_val (de_callB call_isi (by rfl) b1 bt_isinstance (da_cons ?_))))) (db_nil ?_))
  · walk_at "nm"
    refine da_cons (de_type (by rfl) b2 bt_dict (da_nil (k_isaDict ⟨_, rfl, fun z => absurd z (by simp [isaDict, eCnt]), fun _ => dt_not (dt_chain op_le op_le (de_int (de_callB call_lenR (by rfl) b3 bt_len (da_cons ?_))))⟩)))
    walk_at "nm"
    refine da_nil (k_lenD (.d (kdC cs)) ?_)
    rw [show (slK (kdC cs)).length = cs.length by simp [slK, kdC]]
    refine k_bool ⟨_, rfl, fun _ => de_glob (by rfl) g1 ⟨_, rfl⟩ (k_bool ⟨_, rfl, by simp; omega, rfl⟩), fun z => absurd z (by simp; omega)⟩
  refine db_cons (ds_set (i := 1) sc_plain_line_counts.nd rfl (.inr rfl) (de_dictC fun p hp => ?_))
  refine db_cons (ds_forItems (i := 0) (kd := kdC cs) PassesOwn.never rfl hL rfl (.inl rfl) rfl (fun n τ' M' => ∃ y2 y3 y4 y5, τ' = [some (.d (eCnt cs)), some (.c p), y2, y3, y4, y5] ∧ M' = updC M p (.k (slK ((kdC cs).take n)))) ⟨none, none, none, none, rfl, rfl⟩ ?_ ?_)
  · rintro x ⟨xs, hx⟩ n k d τ' M' hn ⟨y2, y3, y4, y5, rfl, rfl⟩
    have hnl : n < cs.length := by
      have := (List.getElem?_eq_some_iff.mp hn).1
      omega
    have hkd : k = .inr cs[n].1 ∧ d = .int cs[n].2 := by
      rw [show (kdC cs)[n]? = some (.inr cs[n].1, .int cs[n].2) by simp [kdC, List.getElem?_eq_getElem hnl]] at hn
      have := Option.some.inj hn
      exact ⟨(Prod.mk.inj this).1.symm, (Prod.mk.inj this).2.symm⟩
    obtain ⟨rfl, rfl⟩ := hkd
    obtain ⟨o1, o2, o3⟩ := okp _ (List.getElem_mem hnl)
    refine dg_of (pg_tup rfl (pgs_cons (pg_name (i := 2) sc_plain_line_counts.nd rfl (.inl rfl)) (pgs_cons (pg_name (i := 3) sc_plain_line_counts.nd rfl (.inl rfl)) pgs_nil))) (wg_tup rfl rfl rfl (wgs_cons (wg_name (wgs_cons (wg_name (wgs_nil ?_))))))
    refine db_cons (ds_set (i := 4) sc_plain_line_counts.nd rfl (.inl rfl) (de_callC c1 hr (by rfl) (da_cons ?_)))
    walk_at "nm"
    refine da_nil ⟨.str cs[n].1, rfl, short_of_okName o1, ?_⟩
    rw [show writerOf (.str cs[n].1) = .str cs[n].1 by simp only [writerOf, o1, if_true]]
    refine db_cons (ds_set (i := 5) sc_plain_line_counts.nd rfl (.inl rfl) (de_callC (c2.up (by decide)) hr (by rfl) (da_cons ?_)))
    walk_at "nm"
    refine da_nil ⟨.int cs[n].2, rfl, ?_⟩
    refine db_cons (ds_ifF (dt_or3 (dt_cmp op_isN ?_ (nomark _))) (db_nil ?_))
    · walk_at "nm"
      refine de_non (k_isN ⟨_, rfl, fun z => (nomatch z), fun _ => dt_cmp op_isN ?_ (nomark _)⟩)
      walk_at "nm"
      refine de_non (k_isN ⟨_, rfl, fun z => (nomatch z), fun _ => dt_not (dt_chain op_le op_le (de_int ?_))⟩)
      walk_at "nm"
      exact k_bool ⟨_, rfl, fun _ => de_glob (by rfl) g2 ⟨_, rfl⟩ (k_bool ⟨_, rfl, by simpa using o3, rfl⟩), fun z => absurd z (by simp [o2])⟩
    refine db_cons (ds_dput (hu_of hr) ?_)
    walk_at "nm"
    walk_at "nm"
    walk_at "nm"
    refine ⟨p, _, .inr cs[n].1, rfl, updC_same, rfl, ?_, db_nil ⟨_, _, _, _, rfl, ?_⟩⟩
    · rw [sizeLine_eq]
      simp [slK, kdC]
      omega
    · rw [updC_updC, putS_new ?_]
      · have e : (kdC cs).take (n + 1) = (kdC cs).take n ++ [(.inr cs[n].1, .int cs[n].2)] := by
          rw [List.take_add_one, hn]
          rfl
        rw [e]
        simp [slK, dI, intOf]
      · rw [slK_take, List.map_take, keys_C]
        intro hm
        rw [← List.map_take] at hm
        obtain ⟨z, hz, ez⟩ := List.mem_map.mp hm
        have ez' : z = cs[n].1 := Sum.inr.inj ez
        subst ez'
        obtain ⟨j, hj, ej⟩ := List.getElem_of_mem hz
        rw [List.length_take, List.length_map] at hj
        rw [List.getElem_take, List.getElem_map] at ej
        have hj1 : j < cs.length := by omega
        have := (List.getElem_inj (i := j) (j := n) (h₀ := by rw [List.length_map]; exact hj1) (h₁ := by rw [List.length_map]; exact hnl) nd).mp (by rw [List.getElem_map, List.getElem_map]; exact ej)
        omega
  · rintro τ' M' ⟨y2, y3, y4, y5, rfl, rfl⟩
    rw [List.take_of_length_le (Nat.le_refl _)]
    refine db_cons (ds_ret (de_gc (de_frzK (de_dc0 (own := [("writer", 4)]) (g := gName 4) rfl sc_plain_line_counts.nd (blkOk_by (own := [("writer", 4)]) (N := ["value", "counts", "key", "number", "writer", "count"]) (sc := defScope s_plain_line_counts) (by decide +kernel)) (fun _ _ _ _ _ => pg_name (i := 4) sc_plain_line_counts.nd rfl (.inl rfl)) (di_seq (de_callB (call_sortedD rfl) (by rfl) b4 bt_sorted (da_cons ?_)))))))
    walk_at "nm"
    refine da_nil (k_sortedD (DictIs.c updC_same) (keys_C cs) (by rw [List.length_map]; omega) fun ys p2 hperm hsort hp2 => ?_)
    refine ⟨ys.map dS, by simp only [seqOf, updC_same], fun D hD => ?_⟩
    have np2 : p2 ≠ p := fun e => by rw [e, updC_same] at hp2; cases hp2
    have nD2 : D ≠ p2 := fun e => by rw [e, updC_same] at hD; cases hD
    have nDp : D ≠ p := fun e => by
      rw [e, updC_ne np2.symm, updC_same] at hD
      cases hD
    have hlk : ys.length = cs.length := by rw [hperm.length_eq, List.length_map]
    refine ⟨fun i M' => M' = updC (updC (updC M p (.k (slK (kdC cs)))) p2 (.l (ys.map dS))) D (.k (slK (kdC ((ys.take i).map fun y => (y, (getC cs y).getD 0))))), rfl, ?_, ?_, ?_⟩
    · rintro i M' rfl
      simp only [seqOf, updC_ne nD2.symm, updC_same]
    · rintro i y M' hi hy rfl
      rw [List.length_map] at hi
      have hy' : y = dS ys[i] := by
        rw [List.getElem?_map, List.getElem?_eq_getElem hi] at hy
        exact (Option.some.inj hy).symm
      subst hy'
      refine wgw_name (by simp) ?_
      intro s0 H0 C cl fp
      walk_at "nm"
      intro s0 H0 C cl fp
      refine de_dget (hu_of hr) ?_
      walk_at "nm"
      walk_at "nm"
      have hmem : ys[i] ∈ cs.map (·.1) := hperm.mem_iff.mp (List.getElem_mem hi)
      obtain ⟨p0, hp0, e0⟩ := List.mem_map.mp hmem
      have hg : getC cs ys[i] = some p0.2 := by rw [← e0]; exact getC_mem nd hp0
      refine ⟨_, .inr ys[i], dI p0.2, .c (by rw [updC_ne nDp.symm, updC_ne np2.symm, updC_same]), rfl, by rw [valS_C, hg]; rfl, _, .inr ys[i], rfl, updC_same, ?_, ?_⟩
      · rw [sizeLine_eq]
        simp [slK, kdC]
        omega
      · rw [updC_updC, putS_new ?_]
        · show updC _ _ _ = updC _ _ _
          rw [show slK (kdC ((ys.take (i + 1)).map fun y => (y, (getC cs y).getD 0))) = slK (kdC ((ys.take i).map fun y => (y, (getC cs y).getD 0))) ++ [(.inr ys[i], dI p0.2)] from by
            rw [List.take_add_one, List.getElem?_eq_getElem hi]
            simp only [slK, kdC, Option.toList_some, List.map_append, List.map_cons, List.map_nil, hg, Option.getD_some, dI]]
        · rw [keys_C]
          intro hm
          obtain ⟨z, hz, ez⟩ := List.mem_map.mp hm
          have ez' : z = ys[i] := Sum.inr.inj ez
          rw [List.map_map] at hz
          obtain ⟨z2, hz2, ez2⟩ := List.mem_map.mp hz
          have ez2' : z2 = z := ez2
          rw [ez2', ez'] at hz2
          have ndy : ys.Nodup := hperm.nodup_iff.mpr nd
          obtain ⟨j, hj, ej⟩ := List.getElem_of_mem hz2
          rw [List.length_take] at hj
          rw [List.getElem_take] at ej
          have := (List.getElem_inj (i := j) (j := i) (h₀ := by omega) (h₁ := hi) ndy).mp ej
          omega
    · rintro M' rfl
      refine ⟨D, kdC (ys.map fun y => (y, (getC cs y).getD 0)), rfl, ?_, ?_⟩
      · rw [List.length_map, List.take_of_length_le (Nat.le_refl _), updC_same]
      · refine ⟨M, ?_, q _ ⟨perm_of_keys nd hperm, ?_⟩⟩
        · have hD0 : M D = none := by
            rw [updC_ne nD2, updC_ne nDp] at hD
            exact hD
          have hp20 : M p2 = none := by
            rw [updC_ne np2] at hp2
            exact hp2
          exact ((((Sub.refl M).new hp).put hp20).put hD0).del hD0
        · rw [List.map_map, show (ys.map ((fun x => x.1) ∘ fun y => (y, (getC cs y).getD 0))) = ys from by simp [Function.comp_def]]
          exact hsort

local macro_rules | `(tactic| walk_at "nm") => `(tactic| first | ((with_reducible refine de_name (x := "value") (i := 0) (s := ?s) ?hN ?hv ?ht ?q ?hd ?hcd); (case hN => rfl); (case hv => walk_at "vis"); (case ht => rfl); (case hd => decide); (case hcd => decide)) | ((with_reducible refine de_name (x := "counts") (i := 1) (s := ?s) ?hN ?hv ?ht ?q ?hd ?hcd); (case hN => rfl); (case hv => walk_at "vis"); (case ht => rfl); (case hd => decide); (case hcd => decide)))


theorem ok_checked_line_counts (F : FunAt K mg "checked_line_counts" s_checked_line_counts ["value"]) (c1 : Cal P w K mg base "plain_line_counts" 3 ["value"] R_plain_line_counts) : Cal P w K mg base "checked_line_counts" 4 ["value"] R_plain_line_counts := by
  refine cal_of F sc_checked_line_counts (fun _ ss _ _ ⟨cs, _, h, _⟩ => by rw [h]; rfl) (fun f cdv A outer s H E L ss M Q hr h => ?_)
  obtain ⟨cs, hL, rfl, ok, q⟩ := h
  refine db_cons (ds_set (i := 1) sc_checked_line_counts.nd rfl (.inl rfl) (de_callC c1 hr (by rfl) (da_cons ?_)))
  walk_at "nm"
  refine da_nil ⟨cs, hL, rfl, ok, fun cs' hs => ?_⟩
  refine db_cons (ds_ifF (dt_cmp op_isN ?_ (nomark _)) (db_nil (db_cons (ds_ret ?_))))
  · walk_at "nm"
    exact de_non (k_isN ⟨_, rfl, rfl, rfl⟩)
  · walk_at "nm"
    exact q cs' hs

end

end Pg

namespace Pg
open PySem L2 Y PyProof.Rows

local macro_rules | `(tactic| walk_at "vis") => `(tactic| first | exact Or.inl rfl | exact Or.inr (Or.inl rfl) | exact Or.inr (Or.inr rfl))
local macro_rules | `(tactic| walk_at "e1") => `(tactic| first | walk_at "nm" | refine de_int ?_ | refine de_add ?_ | refine de_sub ?_ | refine de_str ?_ | refine de_non ?_ | refine de_bl ?_)
local macro_rules | `(tactic| walk_at "go") => `(tactic| repeat (first | ((with_reducible show DE _ _ _ _ _ _); walk_at "e1") | ((with_reducible show DA _ _ _ _ _ _); refine da_cons ?_) | refine ⟨_, _, rfl, rfl, ?_⟩))

section
variable {P : Program} {w : World} {K : PySem.W.Frag} {mg : Str → Option Value} {base : Heap}

theorem seq_of_lst {M : Cs} {s : Sl} {ss : List Sl} (h : lstOf M s = some ss) : seqOf M s = some ss ∧ isTup s = false := by
  cases s with
  | c a =>
    refine ⟨?_, rfl⟩
    simp only [lstOf, seqOf] at h ⊢
    exact h
  | d x => cases x <;> first | (cases h; done) | exact ⟨h, rfl⟩
  | t n => cases h
  | u l => cases h
  | s n => cases h
theorem lstOf_updC {M : Cs} {s : Sl} {ss : List Sl} {p : Addr} {c : Cell} (h : lstOf M s = some ss) (hp : M p = none) : lstOf (updC M p c) s = some ss := by
  cases s with
  | c a =>
    by_cases e : a = p
    · subst e
      simp only [lstOf, hp] at h
      cases h
    · simp only [lstOf, updC_ne e]
      exact h
  | d x => cases x <;> exact h
  | t n => exact h
  | u l => exact h
  | s n => exact h
theorem dropLast_cut {α : Type} (xs : List α) : cutG xs none (some (-1)) = xs.dropLast := by
  unfold cutG
  rw [HT.sIx_none]
  have e : HT.sIx xs.length xs.length (some (-1)) = xs.length - 1 := by
    show (if (-1 : Int) < 0 then ((-1 : Int) + (xs.length : Int)).toNat else min (-1 : Int).toNat xs.length) = xs.length - 1
    rw [if_pos (by decide)]
    omega
  rw [e, List.drop_zero, Nat.sub_zero, List.dropLast_eq_take]

end

end Pg

namespace Pg
open PySem L2 Y PyProof.Rows

local macro_rules | `(tactic| walk_at "vis") => `(tactic| first | exact Or.inl rfl | exact Or.inr (Or.inl rfl) | exact Or.inr (Or.inr rfl))
local macro_rules | `(tactic| walk_at "e1") => `(tactic| first | walk_at "nm" | refine de_int ?_ | refine de_add ?_ | refine de_sub ?_ | refine de_str ?_ | refine de_non ?_ | refine de_bl ?_)
local macro_rules | `(tactic| walk_at "go") => `(tactic| repeat (first | ((with_reducible show DE _ _ _ _ _ _); walk_at "e1") | ((with_reducible show DA _ _ _ _ _ _); refine da_cons ?_) | refine ⟨_, _, rfl, rfl, ?_⟩))

section
variable {P : Program} {w : World} {K : PySem.W.Frag} {mg : Str → Option Value} {base : Heap}

end

end Pg

namespace Pg
open PySem L2 Y PyProof.Rows

local macro_rules | `(tactic| walk_at "vis") => `(tactic| first | exact Or.inl rfl | exact Or.inr (Or.inl rfl) | exact Or.inr (Or.inr rfl))
local macro_rules | `(tactic| walk_at "e1") => `(tactic| first | walk_at "nm" | refine de_int ?_ | refine de_add ?_ | refine de_sub ?_ | refine de_str ?_ | refine de_non ?_ | refine de_bl ?_)
local macro_rules | `(tactic| walk_at "go") => `(tactic| repeat (first | ((with_reducible show DE _ _ _ _ _ _); walk_at "e1") | ((with_reducible show DA _ _ _ _ _ _); refine da_cons ?_) | refine ⟨_, _, rfl, rfl, ?_⟩))

section
variable {P : Program} {w : World} {K : PySem.W.Frag} {mg : Str → Option Value} {base : Heap}

end

end Pg

namespace Pg
open PySem L2 Y PyProof.Rows

local macro_rules | `(tactic| walk_at "vis") => `(tactic| first | exact Or.inl rfl | exact Or.inr (Or.inl rfl) | exact Or.inr (Or.inr rfl))
local macro_rules | `(tactic| walk_at "e1") => `(tactic| first | walk_at "nm" | refine de_int ?_ | refine de_add ?_ | refine de_sub ?_ | refine de_str ?_ | refine de_non ?_ | refine de_bl ?_)
local macro_rules | `(tactic| walk_at "go") => `(tactic| repeat (first | ((with_reducible show DE _ _ _ _ _ _); walk_at "e1") | ((with_reducible show DA _ _ _ _ _ _); refine da_cons ?_) | refine ⟨_, _, rfl, rfl, ?_⟩))

section
variable {P : Program} {w : World} {K : PySem.W.Frag} {mg : Str → Option Value} {base : Heap}

end

end Pg

namespace Pg
open PySem L2 Y PyProof.Rows

local macro_rules | `(tactic| walk_at "vis") => `(tactic| first | exact Or.inl rfl | exact Or.inr (Or.inl rfl) | exact Or.inr (Or.inr rfl))
local macro_rules | `(tactic| walk_at "e1") => `(tactic| first | walk_at "nm" | refine de_int ?_ | refine de_add ?_ | refine de_sub ?_ | refine de_str ?_ | refine de_non ?_ | refine de_bl ?_)
local macro_rules | `(tactic| walk_at "go") => `(tactic| repeat (first | ((with_reducible show DE _ _ _ _ _ _); walk_at "e1") | ((with_reducible show DA _ _ _ _ _ _); refine da_cons ?_) | refine ⟨_, _, rfl, rfl, ?_⟩))


/-! ### the bowl -/
structure BowlN (M : Cs) (b q : Addr) (ns : List Int) (mix cnt : Int) : Prop where
  hb : M b = some (.l [.c q, dI mix, dI cnt])
  hq : M q = some (.l (ns.map dI))
  ne : b ≠ q
def Bowl (M : Cs) (b q : Addr) (n : Nat) : Prop := ∃ ns mix cnt, BowlN M b q ns mix cnt ∧ 0 ≤ mix ∧ mix ≤ 10 ^ 32 ∧ 0 ≤ cnt ∧ cnt ≤ (n : Int)
def Fr2 (b q : Addr) (M M' : Cs) : Prop := ∀ a, a ≠ b → a ≠ q → M' a = M a
theorem Fr2.refl {b q : Addr} (M : Cs) : Fr2 b q M M := fun _ _ _ => rfl
theorem Fr2.trans {b q : Addr} {M M1 M2 : Cs} (h : Fr2 b q M M1) (k : Fr2 b q M1 M2) : Fr2 b q M M2 := fun a h1 h2 => (k a h1 h2).trans (h a h1 h2)
theorem Fr2.updB {b q : Addr} {M M1 : Cs} {c : Cell} (h : Fr2 b q M M1) : Fr2 b q M (updC M1 b c) := fun a h1 h2 => by rw [updC_ne h1]; exact h a h1 h2
theorem Fr2.updQ {b q : Addr} {M M1 : Cs} {c : Cell} (h : Fr2 b q M M1) : Fr2 b q M (updC M1 q c) := fun a h1 h2 => by rw [updC_ne h2]; exact h a h1 h2
theorem Bowl.mono {M : Cs} {b q : Addr} {m n : Nat} (h : Bowl M b q m) (hl : m ≤ n) : Bowl M b q n := by
  obtain ⟨ns, mix, cnt, hb, h1, h2, h3, h4⟩ := h
  exact ⟨ns, mix, cnt, hb, h1, h2, h3, by omega⟩
theorem Bowl.ne {M : Cs} {b q : Addr} {n : Nat} (h : Bowl M b q n) : b ≠ q := by
  obtain ⟨ns, mix, cnt, hb, _⟩ := h
  exact hb.ne
/-- cells elsewhere do not matter -/
theorem Bowl.upd {M : Cs} {b q p : Addr} {n : Nat} {c : Cell} (h : Bowl M b q n) (h1 : p ≠ b) (h2 : p ≠ q) : Bowl (updC M p c) b q n := by
  obtain ⟨ns, mix, cnt, hb, r⟩ := h
  exact ⟨ns, mix, cnt, ⟨by rw [updC_ne h1.symm]; exact hb.hb, by rw [updC_ne h2.symm]; exact hb.hq, hb.ne⟩, r⟩
theorem Bowl.del {M : Cs} {b q p : Addr} {n : Nat} (h : Bowl M b q n) (h1 : p ≠ b) (h2 : p ≠ q) : Bowl (delC M p) b q n := by
  obtain ⟨ns, mix, cnt, hb, r⟩ := h
  exact ⟨ns, mix, cnt, ⟨by rw [delC_ne h1.symm]; exact hb.hb, by rw [delC_ne h2.symm]; exact hb.hq, hb.ne⟩, r⟩
theorem Bowl.nb {M : Cs} {b q p : Addr} {n : Nat} (h : Bowl M b q n) (hp : M p = none) : p ≠ b ∧ p ≠ q := by
  obtain ⟨ns, mix, cnt, hb, r⟩ := h
  refine ⟨fun e => ?_, fun e => ?_⟩
  · rw [e, hb.hb] at hp; exact nomatch hp
  · rw [e, hb.hq] at hp; exact nomatch hp
theorem powW {i j : Int} {k : Nat} (h : i.natAbs < 2 ^ k) (hj : 0 ≤ j) (hk : (k : Int) * j ≤ 2 ^ 27) : CPowW i j :=
  ⟨hj, Int.le_trans (Int.mul_le_mul_of_nonneg_right (Int.ofNat_le.mpr (intBits_le h)) hj) hk⟩
theorem atI_0 {α : Type} (x : α) (l : List α) : atI (x :: l) 0 = some x := by
  unfold atI ixN
  simp
section
variable {P : Program} {w : World} {K : PySem.W.Frag} {mg : Str → Option Value} {base : Heap}

local macro_rules | `(tactic| walk_at "nm") => `(tactic| first | ((with_reducible refine de_name (x := "bowl") (i := 0) (s := ?s) ?hN ?hv ?ht ?q ?hd ?hcd); (case hN => rfl); (case hv => walk_at "vis"); (case ht => rfl); (case hd => decide); (case hcd => decide)) | ((with_reducible refine de_name (x := "many") (i := 1) (s := ?s) ?hN ?hv ?ht ?q ?hd ?hcd); (case hN => rfl); (case hv => walk_at "vis"); (case ht => rfl); (case hd => decide); (case hcd => decide)) | ((with_reducible refine de_name (x := "found") (i := 2) (s := ?s) ?hN ?hv ?ht ?q ?hd ?hcd); (case hN => rfl); (case hv => walk_at "vis"); (case ht => rfl); (case hd => decide); (case hcd => decide)) | ((with_reducible refine de_name (x := "stirred") (i := 3) (s := ?s) ?hN ?hv ?ht ?q ?hd ?hcd); (case hN => rfl); (case hv => walk_at "vis"); (case ht => rfl); (case hd => decide); (case hcd => decide)))


def R_dip : Rr := fun _ ss M Q => ∃ b q n many, ss = [.c b, dI many] ∧ Bowl M b q n ∧ n < 1000000000 ∧ 0 < many ∧ many ≤ 10 ^ 40 ∧ ∀ M' r, Fr2 b q M M' → Bowl M' b q (n + 1) → 0 ≤ r → r < many → Q (dI r) M'
theorem ok_law_dip (F : FunAt K mg "_law_dip" s__law_dip ["bowl", "many"]) : Cal P w K mg base "_law_dip" 1 ["bowl", "many"] R_dip := by
  refine cal_of F sc__law_dip (fun _ ss _ _ ⟨b, q, n, many, h, _⟩ => by rw [h]; rfl) (fun f cdv A outer s H E L ss M Q hr h => ?_)
  obtain ⟨b, q, n, many, rfl, ⟨ns0, mix, cnt, bw0, m0, m1, c0, c1⟩, hn, hm0, hm1, fin⟩ := h
  have six0 : ∀ {M' : Cs} {ns : List Int}, BowlN M' b q ns mix cnt → seqOf M' (.c b) = some [.c q, dI mix, dI cnt] := fun h => by simp only [seqOf, h.hb]
  have siq : ∀ {M' : Cs} {ns : List Int}, BowlN M' b q ns mix cnt → seqOf M' (.c q) = some (ns.map dI) := fun h => by simp only [seqOf, h.hq]
  have nev : ∀ ns : List Int, PyData.eqv (.list (ns.map PyData.int)) (.list []) = decide (ns = []) := fun ns => eqv_list PyData.int eqv_int ns []
  refine db_cons (ds_while PassesOwn.never (fun m τ' M' => τ' = [some (.c b), some (dI many), none, none] ∧ ∃ ns, m = ns.length ∧ BowlN M' b q ns mix cnt ∧ Fr2 b q M M') ns0.length ⟨rfl, ns0, rfl, bw0, Fr2.refl M⟩ ?_)
  rintro m τ' M' ⟨rfl, ns, rfl, bw, fr⟩
  refine dt_and2 (dt_cmp (op_neD hr.units) (de_ix ?_) (nomark _))
  walk_at "nm"
  refine de_int ⟨_, 0, .c q, six0 bw, rfl, rfl, de_lstD (da_nil ⟨[], rfl, Nat.zero_le _, k_neD (isd_ints bw.hq) (.d (.list [])) (shaped_ints ns) (by decide +kernel) ?_⟩)⟩
  rw [nev]
  have rest : ∀ ns M', BowlN M' b q ns mix cnt → Fr2 b q M M' → DB (cxF P w K mg base ["bowl","many","found","stirred"] "_law_dip" s__law_dip f cdv A outer s H E) L ((defBody s__law_dip).tail) [some (.c b), some (dI many), none, none] M' { nx := fun _ M' => Q (.d .none) M', rt := Q } := by
    intro ns M' bw fr
    refine db_cons (ds_ifB (!decide (ns = [])) (dt_cmp (op_neD hr.units) (de_ix ?_) (nomark _)) (fun h1 => ?_) (fun h1 => db_nil ?_))
    · walk_at "nm"
      refine de_int ⟨_, 0, .c q, six0 bw, rfl, rfl, de_lstD (da_nil ⟨[], rfl, Nat.zero_le _, k_neD (isd_ints bw.hq) (.d (.list [])) (shaped_ints ns) (by decide +kernel) ?_⟩)⟩
      rw [nev]
      exact ⟨_, rfl, rfl, rfl⟩
    · cases ns with
      | nil => simp at h1
      | cons z r =>
        have hz : ((z :: r).map dI)[0]? = some (dI z) := rfl
        refine db_cons (ds_set (i := 2) sc__law_dip.nd rfl (.inl rfl) (de_mod (de_ix (de_ix ?_))))
        walk_at "nm"
        refine de_int ⟨_, 0, .c q, six0 bw, rfl, rfl, de_int ⟨_, 0, dI z, siq bw, rfl, atI_0 _ _, ?_⟩⟩
        walk_at "nm"
        refine ⟨_, _, rfl, rfl, hm0, ?_⟩
        refine db_cons (ds_asg (de_div (de_ix (de_ix ?_))))
        walk_at "nm"
        refine de_int ⟨_, 0, .c q, six0 bw, rfl, rfl, de_int ⟨_, 0, dI z, siq bw, rfl, atI_0 _ _, ?_⟩⟩
        walk_at "nm"
        refine ⟨_, _, rfl, rfl, wide_div (b := 200) hm0 (by omega) (by decide) (by decide), dg_subL (de_ix ?_)⟩
        walk_at "nm"
        refine de_int ⟨_, 0, .c q, six0 bw, rfl, rfl, de_int ⟨q, (z :: r).map dI, 0, 0, rfl, bw.hq, rfl, by simp [ixN], ?_⟩⟩
        refine db_cons (ds_ret ?_)
        walk_at "nm"
        refine fin _ _ fr.updQ ⟨z / many :: r, mix, cnt, ⟨by rw [updC_ne bw.ne]; exact bw.hb, by rw [updC_same]; rfl, bw.ne⟩, m0, m1, c0, by omega⟩ (Int.emod_nonneg _ (by omega)) (Int.emod_lt_of_pos _ hm0)
    · refine db_cons (ds_asg (de_add (de_ix ?_)))
      walk_at "nm"
      refine de_int ⟨_, 2, dI cnt, six0 bw, rfl, rfl, de_int ⟨_, _, rfl, rfl, dg_subL ?_⟩⟩
      walk_at "nm"
      refine de_int ⟨b, [.c q, dI mix, dI cnt], 2, 2, rfl, bw.hb, rfl, rfl, ?_⟩
      have bw2 : BowlN (updC M' b (.l ([.c q, dI mix, dI cnt].set 2 (.d (.int (cnt + 1)))))) b q ns mix (cnt + 1) := ⟨updC_same, by rw [updC_ne bw.ne.symm]; exact bw.hq, bw.ne⟩
      generalize hM2 : updC M' b (.l ([.c q, dI mix, dI cnt].set 2 (.d (.int (cnt + 1))))) = M2 at bw2
      have fr2 : Fr2 b q M M2 := by rw [← hM2]; exact fr.updB
      have six2 : seqOf M2 (.c b) = some [.c q, dI mix, dI (cnt + 1)] := by simp only [seqOf, bw2.hb]
      refine db_cons (ds_set (i := 3) sc__law_dip.nd rfl (.inl rfl) (de_mod (de_pow (de_add (de_ix ?_)))))
      walk_at "nm"
      refine de_int ⟨_, 1, dI mix, six2, rfl, rfl, de_mul (de_int (de_ix ?_))⟩
      walk_at "nm"
      refine de_int ⟨_, 2, dI (cnt + 1), six2, rfl, rfl, _, _, rfl, rfl, .inl ⟨by decide, by decide⟩, _, _, rfl, rfl, de_int ⟨_, _, rfl, rfl, powW (k := 128) ?_ (by decide) (by decide), ?_⟩⟩
      · omega
      generalize hX : (mix + 15485867 * (cnt + 1)) ^ (3 : Int).toNat = X1
      refine de_add (de_pow (de_int (de_int ⟨_, _, rfl, rfl, powW (k := 4) (by decide) (by decide) (by decide), de_int ⟨_, _, rfl, rfl, _, _, rfl, rfl, by decide, ?_⟩⟩)))
      have hs1 : 0 ≤ X1 % (10 ^ (41 : Int).toNat + 109) ∧ X1 % (10 ^ (41 : Int).toNat + 109) < 10 ^ 42 := ⟨Int.emod_nonneg _ (by decide), Int.lt_trans (Int.emod_lt_of_pos _ (by decide)) (by decide)⟩
      generalize hY : X1 % (10 ^ (41 : Int).toNat + 109) = Y1 at hs1
      refine db_cons (ds_set (i := 3) sc__law_dip.nd rfl (.inl rfl) (de_mod (de_pow (de_add ?_))))
      walk_at "nm"
      refine de_mul (de_int (de_ix ?_))
      walk_at "nm"
      refine de_int ⟨_, 2, dI (cnt + 1), six2, rfl, rfl, _, _, rfl, rfl, .inl ⟨by decide, by decide⟩, _, _, rfl, rfl, de_int ⟨_, _, rfl, rfl, powW (k := 160) ?_ (by decide) (by decide), ?_⟩⟩
      · omega
      generalize hX2 : (Y1 + 32452867 * (cnt + 1)) ^ (5 : Int).toNat = X2
      refine de_add (de_pow (de_int (de_int ⟨_, _, rfl, rfl, powW (k := 4) (by decide) (by decide) (by decide), de_int ⟨_, _, rfl, rfl, _, _, rfl, rfl, by decide, ?_⟩⟩)))
      generalize hY2 : X2 % (10 ^ (43 : Int).toNat + 57) = Y2
      refine db_cons (ds_ret (de_mod (de_div ?_)))
      walk_at "nm"
      refine de_pow (de_int (de_int ⟨_, _, rfl, rfl, powW (k := 4) (by decide) (by decide) (by decide), _, _, rfl, rfl, wide_div (b := 30) (by decide) (by decide) (by decide) (by decide), ?_⟩))
      walk_at "nm"
      refine ⟨_, _, rfl, rfl, hm0, fin _ _ fr2 ⟨ns, mix, cnt + 1, bw2, m0, m1, by omega, by omega⟩ (Int.emod_nonneg _ (by omega)) (Int.emod_lt_of_pos _ hm0)⟩
  refine ⟨_, rfl, fun h1 => ?_, fun h1 => ⟨fun z => (nomatch z), fun _ => rest ns M' bw fr⟩⟩
  cases ns with
  | nil => simp at h1
  | cons z r =>
    refine dt_cmp op_lt (de_ix (de_ix ?_)) (nomark _)
    walk_at "nm"
    refine de_int ⟨_, 0, .c q, six0 bw, rfl, rfl, de_int ⟨_, 0, dI z, siq bw, rfl, atI_0 _ _, de_int (k_bool ⟨_, rfl, fun h2 => ?_, fun h2 => rest _ M' bw fr⟩)⟩⟩
    refine db_cons (ds_expr (de_mL PySem.F.slot_list_pop PySem.F.type_list_pop mt_popAt (de_ix ?_)))
    walk_at "nm"
    refine de_int ⟨_, 0, .c q, six0 bw, rfl, rfl, ⟨rfl, _, siq bw⟩, da_cons (de_int (da_nil (k_popAt (j := 0) (z := dI z) bw.hq (by decide) (by decide) ?_ rfl ?_)))⟩
    · simp [seqIndex?]
    · exact db_nil ⟨r.length, Nat.lt_succ_self _, rfl, r, rfl, ⟨by rw [updC_ne bw.ne]; exact bw.hb, by rw [updC_same]; rfl, bw.ne⟩, fr.updQ⟩

end

end Pg

namespace Pg
open PySem L2 Y PyProof.Rows

local macro_rules | `(tactic| walk_at "vis") => `(tactic| first | exact Or.inl rfl | exact Or.inr (Or.inl rfl) | exact Or.inr (Or.inr rfl))
local macro_rules | `(tactic| walk_at "e1") => `(tactic| first | walk_at "nm" | refine de_int ?_ | refine de_add ?_ | refine de_sub ?_ | refine de_str ?_ | refine de_non ?_ | refine de_bl ?_)
local macro_rules | `(tactic| walk_at "go") => `(tactic| repeat (first | ((with_reducible show DE _ _ _ _ _ _); walk_at "e1") | ((with_reducible show DA _ _ _ _ _ _); refine da_cons ?_) | refine ⟨_, _, rfl, rfl, ?_⟩))


theorem withRun_len (c : List Y.Run) (r : Y.Run) : (withRun c r).length ≤ c.length + 1 := by
  unfold withRun
  split
  · split
    · rw [List.length_append, List.length_dropLast]; simp
    · rw [List.length_append]; simp
  · rw [List.length_append]; simp
theorem withRun_mem {c : List Y.Run} {r x : Y.Run} (h : x ∈ withRun c r) : x ∈ c ∨ x = r ∨ ∃ l ∈ c, cont l r = true ∧ x = (r.1, l.2.1, r.2.2) := by
  unfold withRun at h
  split at h
  · next l hl =>
    split at h
    · next hc =>
      rcases List.mem_append.mp h with h | h
      · exact .inl (List.dropLast_subset _ h)
      · exact .inr (.inr ⟨l, List.mem_of_getLast? hl, hc, List.mem_singleton.mp h⟩)
    · rcases List.mem_append.mp h with h | h
      · exact .inl h
      · exact .inr (.inl (List.mem_singleton.mp h))
  · rcases List.mem_append.mp h with h | h
    · exact .inl h
    · exact .inr (.inl (List.mem_singleton.mp h))
theorem withRun_names {c : List Y.Run} {r : Y.Run} (h : ∀ x ∈ c, okName x.1 = true) (hr : okName r.1 = true) : ∀ x ∈ withRun c r, okName x.1 = true := fun x hx => by
  rcases withRun_mem hx with z | rfl | ⟨l, _, _, rfl⟩
  · exact h x z
  · exact hr
  · exact hr
def ln (l : Line) : Y.Run := (l.1, l.2, l.2)
def grow (c : List Y.Run) (ls : List Line) : List Y.Run := ls.foldl (fun c l => withRun c (ln l)) c
theorem grow_append (c : List Y.Run) (l m : List Line) : grow c (l ++ m) = grow (grow c l) m := by unfold grow; rw [List.foldl_append]
theorem grow_take {c : List Y.Run} {ls : List Line} {i : Nat} (h : i < ls.length) : grow c (ls.take (i + 1)) = withRun (grow c (ls.take i)) (ln ls[i]) := by
  rw [List.take_add_one, List.getElem?_eq_getElem h, grow_append]
  rfl
theorem grow_len (c : List Y.Run) (ls : List Line) : (grow c ls).length ≤ c.length + ls.length := by
  induction ls generalizing c with
  | nil => exact Nat.le_refl _
  | cons l r ih =>
    have h1 := ih (withRun c (ln l))
    have h2 := withRun_len c (ln l)
    show (grow (withRun c (ln l)) r).length ≤ _
    rw [List.length_cons]
    omega
theorem grow_names {c : List Y.Run} {ls : List Line} (h : ∀ x ∈ c, okName x.1 = true) (hl : ∀ l ∈ ls, okName l.1 = true) : ∀ x ∈ grow c ls, okName x.1 = true := by
  induction ls generalizing c with
  | nil => exact h
  | cons l r ih => exact ih (withRun_names (r := ln l) h (hl l List.mem_cons_self)) fun m hm => hl m (List.mem_cons_of_mem _ hm)
theorem okC_with {lc : Option Cnt} {c : List Y.Run} {l : Line} (h : okC lc c) (hl : okLine lc l) : okC lc (withRun c (ln l)) := by
  obtain ⟨h1, h2⟩ := h
  obtain ⟨o1, o2, o3⟩ := hl
  refine ⟨fun x hx => ?_, ?_⟩
  · rcases withRun_mem hx with z | rfl | ⟨m, hm, hc, rfl⟩
    · exact h1 x z
    · exact ⟨o1, o2, Int.le_refl _, o3⟩
    · obtain ⟨_, q2, q3, _⟩ := h1 m hm
      unfold cont ln at hc
      simp only [Bool.and_eq_true, decide_eq_true_eq] at hc
      refine ⟨o1, q2, ?_, o3⟩
      show m.2.1 ≤ l.2
      omega
  · unfold withRun
    split
    · next m hm =>
      obtain ⟨ys, e⟩ := List.getLast?_eq_some_iff.mp hm
      subst e
      split
      · next hc =>
        rw [List.dropLast_concat]
        intro i a b ha hb
        by_cases hi : i + 1 < ys.length
        · rw [List.getElem?_append_left (by omega)] at ha
          rw [List.getElem?_append_left hi] at hb
          exact h2 i a b (by rw [List.getElem?_append_left (by omega)]; exact ha) (by rw [List.getElem?_append_left hi]; exact hb)
        · have hb2 := List.getElem?_eq_some_iff.mp hb
          obtain ⟨hlt, _⟩ := hb2
          rw [List.length_append, List.length_singleton] at hlt
          have e : i + 1 = ys.length := by omega
          rw [List.getElem?_append_left (by omega)] at ha
          rw [e, List.getElem?_concat_length] at hb
          have := h2 i a m (by rw [List.getElem?_append_left (by omega)]; exact ha) (by rw [e, List.getElem?_concat_length])
          have hb := Option.some.inj hb
          subst hb
          unfold cont ln at hc
          simp only [Bool.and_eq_true, decide_eq_true_eq] at hc
          unfold cont at this ⊢
          simp only [Bool.and_eq_false_iff, decide_eq_false_iff_not] at this ⊢
          show (¬ l.1 = a.1) ∨ ¬ m.2.1 = a.2.2 + 1
          have e2 : l.1 = m.1 := hc.1
          rw [e2]
          exact this
      · next hc =>
        intro i a b ha hb
        by_cases hi : i + 1 < (ys ++ [m]).length
        · rw [List.getElem?_append_left (by omega)] at ha
          rw [List.getElem?_append_left hi] at hb
          exact h2 i a b ha hb
        · obtain ⟨hlt, _⟩ := List.getElem?_eq_some_iff.mp hb
          rw [List.length_append (as := ys ++ [m]), List.length_singleton] at hlt
          have e : i + 1 = (ys ++ [m]).length := by omega
          rw [List.getElem?_append_left (by omega)] at ha
          rw [e, List.getElem?_concat_length] at hb
          have hb := Option.some.inj hb
          subst hb
          have e3 : i = ys.length := by rw [List.length_append, List.length_singleton] at e; omega
          rw [e3, List.getElem?_concat_length] at ha
          have ha := Option.some.inj ha
          subst ha
          exact Bool.eq_false_iff.mpr hc
    · next hm =>
      have e : c = [] := List.getLast?_eq_none_iff.mp hm
      subst e
      intro i a b ha hb
      simp at hb
theorem okC_grow {lc : Option Cnt} {c : List Y.Run} {ls : List Line} (h : okC lc c) (hl : ∀ l ∈ ls, okLine lc l) : okC lc (grow c ls) := by
  induction ls generalizing c with
  | nil => exact h
  | cons l r ih => exact ih (okC_with h (hl l List.mem_cons_self)) fun m hm => hl m (List.mem_cons_of_mem _ hm)
theorem okC_nil (lc : Option Cnt) : okC lc [] := ⟨fun _ h => (nomatch h), fun i a b h _ => by cases i <;> cases h⟩
theorem seqOf_sub {M M' : Cs} {s : Sl} {ss : List Sl} (h : seqOf M s = some ss) (hs : Sub M M') : seqOf M' s = some ss := by
  cases s with
  | c a =>
    cases e : M a with
    | none => simp only [seqOf, e] at h; cases h
    | some c => simp only [seqOf, e] at h; simp only [seqOf, hs a c e]; exact h
  | d x => cases x <;> exact h
  | t n => exact h
  | u l => exact h
  | s n => exact h
theorem tyName_sub {M M' : Cs} {s : Sl} {n : String} (h : tyName M s = some n) (hs : Sub M M') : tyName M' s = some n := by
  cases s with
  | c a =>
    cases e : M a with
    | none => simp only [tyName, e] at h; cases h
    | some c => simp only [tyName, e] at h; simp only [tyName, hs a c e]; exact h
  | d x => cases x <;> exact h
  | t n => exact h
  | u l => exact h
  | s n => exact h
theorem LT.sub {M M' : Cs} {s : Sl} {ss : List Sl} (h : LT M s ss) (hs : Sub M M') : LT M' s ss := ⟨seqOf_sub h.1 hs, h.2.imp (fun z => tyName_sub z hs) (fun z => tyName_sub z hs)⟩
mutual
theorem IsD.sub {M M' : Cs} (hs : Sub M M') : ∀ {s : Sl} {d : PyData}, Y.IsD M s d → Y.IsD M' s d
  | _, _, .d x => .d x
  | _, _, .c h l => .c (hs _ _ h) (IsDL.sub hs l)
  | _, _, .u l => .u (IsDL.sub hs l)
theorem IsDL.sub {M M' : Cs} (hs : Sub M M') : ∀ {ss : List Sl} {ds : List PyData}, Y.IsDL M ss ds → Y.IsDL M' ss ds
  | _, _, .nil => .nil
  | _, _, .cons a b => .cons (IsD.sub hs a) (IsDL.sub hs b)
end
theorem Sub.trans {A B C : Cs} (h : Sub A B) (k : Sub B C) : Sub A C := fun a c e => k a c (h a c e)
section
variable {P : Program} {w : World} {K : PySem.W.Frag} {mg : Str → Option Value} {base : Heap}

end

end Pg

namespace Pg
open PySem L2 Y PyProof.Rows

local macro_rules | `(tactic| walk_at "vis") => `(tactic| first | exact Or.inl rfl | exact Or.inr (Or.inl rfl) | exact Or.inr (Or.inr rfl))
local macro_rules | `(tactic| walk_at "e1") => `(tactic| first | walk_at "nm" | refine de_int ?_ | refine de_add ?_ | refine de_sub ?_ | refine de_str ?_ | refine de_non ?_ | refine de_bl ?_)
local macro_rules | `(tactic| walk_at "go") => `(tactic| repeat (first | ((with_reducible show DE _ _ _ _ _ _); walk_at "e1") | ((with_reducible show DA _ _ _ _ _ _); refine da_cons ?_) | refine ⟨_, _, rfl, rfl, ?_⟩))


/-- all cells but the bowl's stay -/
def Fx (b q : Addr) (M M' : Cs) : Prop := ∀ a c, a ≠ b → a ≠ q → M a = some c → M' a = some c
theorem Fx.refl {b q : Addr} (M : Cs) : Fx b q M M := fun _ _ _ _ h => h
theorem Fx.trans {b q : Addr} {A B C : Cs} (h : Fx b q A B) (k : Fx b q B C) : Fx b q A C := fun a c h1 h2 e => k a c h1 h2 (h a c h1 h2 e)
theorem Fr2.fx {b q : Addr} {M M' : Cs} (h : Fr2 b q M M') : Fx b q M M' := fun a c h1 h2 e => by rw [h a h1 h2]; exact e
theorem Fx.dip {b q : Addr} {A B C : Cs} (h : Fx b q A B) (k : Fr2 b q B C) : Fx b q A C := h.trans k.fx
theorem Fx.put {b q p : Addr} {M M' : Cs} {c : Cell} (h : Fx b q M M') (hp : M p = none) : Fx b q M (updC M' p c) := fun a d h1 h2 e => by
  rw [updC_ne (neC e hp)]
  exact h a d h1 h2 e
theorem Fx.del {b q p : Addr} {M M' : Cs} (h : Fx b q M M') (hp : M p = none) : Fx b q M (delC M' p) := fun a d h1 h2 e => by
  rw [delC_ne (neC e hp)]
  exact h a d h1 h2 e
theorem Sub.fx {b q : Addr} {M M' : Cs} (h : Sub M M') : Fx b q M M' := fun a c _ _ e => h a c e
theorem Fx.none {b q p : Addr} {M M' : Cs} (h : Fx b q M M') (h1 : p ≠ b) (h2 : p ≠ q) (e : M' p = none) : M p = none := by
  cases z : M p with
  | none => rfl
  | some c => rw [h p c h1 h2 z] at e; cases e
section
variable {P : Program} {w : World} {K : PySem.W.Frag} {mg : Str → Option Value} {base : Heap}

local macro_rules | `(tactic| walk_at "nm") => `(tactic| first | ((with_reducible refine de_name (x := "script") (i := 0) (s := ?s) ?hN ?hv ?ht ?q ?hd ?hcd); (case hN => rfl); (case hv => walk_at "vis"); (case ht => rfl); (case hd => decide); (case hcd => decide)) | ((with_reducible refine de_name (x := "mix") (i := 1) (s := ?s) ?hN ?hv ?ht ?q ?hd ?hcd); (case hN => rfl); (case hv => walk_at "vis"); (case ht => rfl); (case hd => decide); (case hcd => decide)) | ((with_reducible refine de_name (x := "cell") (i := 2) (s := ?s) ?hN ?hv ?ht ?q ?hd ?hcd); (case hN => rfl); (case hv => walk_at "vis"); (case ht => rfl); (case hd => decide); (case hcd => decide)))


def R_bowl : Rr := fun _ ss M Q => ∃ (s : Sl) (ns : List Int), ss = [s] ∧ seqOf M s = some (ns.map dI) ∧ ns.length ≤ 1000 ∧ ∀ b q M', Sub M M' → M b = none → M q = none → Bowl M' b q 0 → Q (.c b) M'
theorem ok_law_bowl (F : FunAt K mg "_law_bowl" s__law_bowl ["script"]) (b1 : mg "abs" = none) : Cal P w K mg base "_law_bowl" 1 ["script"] R_bowl := by
  refine cal_of F sc__law_bowl (fun _ ss _ _ ⟨x, us, h, _⟩ => by rw [h]; rfl) (fun f cdv A outer s H E L us M Q hr h => ?_)
  obtain ⟨x, ns, rfl, hs, hl, q⟩ := h
  refine db_cons (ds_set (i := 1) sc__law_bowl.nd rfl (.inl rfl) (de_int ?_))
  refine db_cons (ds_for PassesOwn.never rfl (di_seq ?_))
  walk_at "nm"
  refine ⟨ns.map dI, hs, ?_⟩
  refine ⟨fun i τ' M' => ∃ mix y2, τ' = [some x, some (dI mix), y2] ∧ M' = M ∧ 0 ≤ mix ∧ mix ≤ 10 ^ 32, ⟨9973, none, rfl, rfl, by decide, by decide⟩, ?_, ?_, ?_⟩
  · rintro i τ' M' ⟨mix, y2, rfl, rfl, _⟩
    exact hs
  · rintro i y τ' M' hi hy ⟨mix, y2, rfl, rfl, m0, m1⟩
    rw [List.length_map] at hi
    have hy' : y = dI ns[i] := by
      rw [List.getElem?_map, List.getElem?_eq_getElem hi] at hy
      exact (Option.some.inj hy).symm
    subst hy'
    refine dg_of (pg_name (i := 2) sc__law_bowl.nd rfl (.inl rfl)) (wg_name ?_)
    refine db_cons (ds_set (i := 1) sc__law_bowl.nd rfl (.inl rfl) (de_mod (de_add (de_add (de_mul ?_)))))
    walk_at "nm"
    refine de_int ⟨_, _, rfl, rfl, .inr ⟨by decide, by decide⟩, ?_⟩
    walk_at "nm"
    refine ⟨_, _, rfl, rfl, de_int ⟨_, _, rfl, rfl, de_add (de_pow (de_int (de_int ⟨_, _, rfl, rfl, powW (k := 4) (by decide) (by decide) (by decide), de_int ⟨_, _, rfl, rfl, _, _, rfl, rfl, by decide, db_nil ⟨_, _, rfl, rfl, Int.emod_nonneg _ (by decide), Int.le_of_lt (Int.lt_trans (Int.emod_lt_of_pos _ (by decide)) (by decide))⟩⟩⟩)))⟩⟩
  · rintro τ' M' ⟨mix, y2, rfl, rfl, m0, m1⟩
    refine db_cons (ds_ret (de_lstC (da_cons (de_lc1 (own := [("cell", 2)]) (g := gName 2) rfl sc__law_bowl.nd (blkOk_by (own := [("cell", 2)]) (N := ["script", "mix", "cell"]) (sc := defScope s__law_bowl) (by decide +kernel)) (fun _ _ _ _ _ => pg_name (i := 2) sc__law_bowl.nd rfl (.inl rfl)) (di_seq ?_)))))
    walk_at "nm"
    refine ⟨ns.map dI, hs, fun D hD => ⟨fun i M1 => ∃ ks : List Int, ks.length ≤ i ∧ M1 = updC M' D (.l (ks.map dI)), ⟨[], Nat.le_refl _, rfl⟩, ?_, ?_, ?_⟩⟩
    · rintro i M1 ⟨ks, _, rfl⟩
      exact seqOf_updC hs hD
    · rintro i y M1 hi hy ⟨ks, hk, rfl⟩
      rw [List.length_map] at hi
      have hy' : y = dI ns[i] := by
        rw [List.getElem?_map, List.getElem?_eq_getElem hi] at hy
        exact (Option.some.inj hy).symm
      subst hy'
      refine wgw_name (by simp) ?_
      intro s0 H0 C cl fp
      refine dt_cmp op_ge (de_callB call_abs (by rfl) b1 bt_abs (da_cons ?_)) (by with_unfolding_all rfl)
      walk_at "nm"
      refine da_nil (k_abs (de_pow (de_int (de_int ⟨_, _, rfl, rfl, powW (k := 4) (by decide) (by decide) (by decide), k_bool ⟨_, rfl, fun _ => ?_, fun _ => ⟨ks, by omega, rfl⟩⟩⟩))))
      intro s0 H0 C cl fp
      refine de_sub (de_callB call_abs (by rfl) b1 bt_abs (da_cons ?_))
      walk_at "nm"
      refine da_nil (k_abs (de_pow (de_int (de_int ⟨_, _, rfl, rfl, powW (k := 4) (by decide) (by decide) (by decide), _, _, rfl, rfl, ks.map dI, updC_same, ?_, ?_⟩))))
      · rw [List.length_map, sizeLine_eq]
        omega
      · refine ⟨ks ++ [(if ns[i] < 0 then -ns[i] else ns[i]) - 10 ^ (18 : Int).toNat], ?_, ?_⟩
        · rw [List.length_append]
          simp
          omega
        · rw [updC_updC, List.map_append]
          rfl
    · rintro M1 ⟨ks, hk, rfl⟩
      refine da_cons ?_
      walk_at "nm"
      refine da_cons (de_int (da_nil ⟨(by show 3 ≤ sizeLine; decide), fun p hp => ?_⟩))
      have np : p ≠ D := fun e => by rw [e, updC_same] at hp; cases hp
      have h1 : Sub M' (updC M' D (.l (ks.map dI))) := (Sub.refl M').new hD
      refine q p D _ (h1.new hp) (h1.none hp) hD ⟨ks, mix, 0, ⟨updC_same, by rw [updC_ne np.symm, updC_same], np⟩, m0, m1, by decide, by decide⟩

local macro_rules | `(tactic| walk_at "nm") => `(tactic| first | ((with_reducible refine de_name (x := "bowl") (i := 0) (s := ?s) ?hN ?hv ?ht ?q ?hd ?hcd); (case hN => rfl); (case hv => walk_at "vis"); (case ht => rfl); (case hd => decide); (case hcd => decide)) | ((with_reducible refine de_name (x := "most") (i := 1) (s := ?s) ?hN ?hv ?ht ?q ?hd ?hcd); (case hN => rfl); (case hv => walk_at "vis"); (case ht => rfl); (case hd => decide); (case hcd => decide)) | ((with_reducible refine de_name (x := "great") (i := 2) (s := ?s) ?hN ?hv ?ht ?q ?hd ?hcd); (case hN => rfl); (case hv => walk_at "vis"); (case ht => rfl); (case hd => decide); (case hcd => decide)) | ((with_reducible refine de_name (x := "pool") (i := 3) (s := ?s) ?hN ?hv ?ht ?q ?hd ?hcd); (case hN => rfl); (case hv => walk_at "vis"); (case ht => rfl); (case hd => decide); (case hcd => decide)) | ((with_reducible refine de_name (x := "found") (i := 4) (s := ?s) ?hN ?hv ?ht ?q ?hd ?hcd); (case hN => rfl); (case hv => walk_at "vis"); (case ht => rfl); (case hd => decide); (case hcd => decide)) | ((with_reducible refine de_name (x := "k") (i := 5) (s := ?s) ?hN ?hv ?ht ?q ?hd ?hcd); (case hN => rfl); (case hv => walk_at "vis"); (case ht => rfl); (case hd => decide); (case hcd => decide)) | ((with_reducible refine de_name (x := "writer") (i := 6) (s := ?s) ?hN ?hv ?ht ?q ?hd ?hcd); (case hN => rfl); (case hv => walk_at "vis"); (case ht => rfl); (case hd => decide); (case hcd => decide)))


theorem eraseIdx_mapS {α β : Type} (f : α → β) : ∀ (l : List α) (j : Nat), (l.map f).eraseIdx j = (l.eraseIdx j).map f
  | [], _ => rfl
  | _ :: _, 0 => rfl
  | a :: l, j + 1 => by
    show f a :: (l.map f).eraseIdx j = f a :: (l.eraseIdx j).map f
    rw [eraseIdx_mapS f l j]
theorem erase_perm {α : Type} : ∀ (l : List α) (j : Nat) (h : j < l.length), (l[j] :: l.eraseIdx j).Perm l
  | [], _, h => by simp at h
  | _ :: _, 0, _ => List.Perm.refl _
  | a :: l, j + 1, h => by
    have h' : j < l.length := by simpa using h
    exact (List.Perm.swap a l[j] (l.eraseIdx j)).trans ((erase_perm l j h').cons a)
def pool15 : List Str := ["a", "b", "c", "d", "k", "x", "y", "z", "ab", "aba", "read", "save", "append", "zzzzzzzz", "or"]
theorem pool_eq : (Y.signs "abcdkxyz").map dS ++ ([.str "ab", .str "aba", .str "read", .str "save", .str "append", .str "zzzzzzzz", .str "or"] : List PyData).map Sl.d = pool15.map dS := by
  have e : Y.signs "abcdkxyz" = (["a", "b", "c", "d", "k", "x", "y", "z"] : List Str) := by decide +kernel
  rw [e]
  rfl
theorem pool_nd : pool15.Nodup := by decide +kernel
theorem pool_ok : ∀ y ∈ pool15, okName y = true ∧ y ≠ "other" ∧ y ≠ "more" := by decide +kernel
def R_rowsC : Rr := fun _ ss M Q => ∃ b q n most great, ss = [.c b, dI most, dI great] ∧ Bowl M b q n ∧ n < 900000000 ∧ 0 < most ∧ most ≤ 12 ∧ 0 < great ∧ great ≤ 10 ^ 30 ∧ ∀ rows a M', Fx b q M M' → a ≠ b → a ≠ q → M a = none → M' a = some (.k (slK (kdC rows))) → Bowl M' b q (n + 100) → okCnt rows → (∀ p ∈ rows, p.1 ∈ pool15) → Q (.c a) M'
theorem ok_law_rows (F : FunAt K mg "_law_rows" s__law_rows ["bowl", "most", "great"]) (c1 : Cal P w K mg base "_law_dip" 1 ["bowl", "many"] R_dip) (b1 : mg "list" = none) (b2 : mg "range" = none) (b3 : mg "len" = none) : Cal P w K mg base "_law_rows" 2 ["bowl", "most", "great"] R_rowsC := by
  refine cal_of F sc__law_rows (fun _ ss _ _ ⟨b, q, n, m, g, h, _⟩ => by rw [h]; rfl) (fun f cdv A outer s H E L us M Q hr h => ?_)
  obtain ⟨b, q, n, most, great, rfl, bw, hn, hm0, hm1, hg0, hg1, fin⟩ := h
  refine db_cons (ds_set (i := 3) sc__law_rows.nd rfl (.inl rfl) (de_cat (de_callT (call_listS rfl) (by rfl) b1 bt_list (da_cons (de_str (da_nil (k_listS (by decide) fun p hp => ?_)))))))
  refine de_lstD (da_cons (de_str (da_cons (de_str (da_cons (de_str (da_cons (de_str (da_cons (de_str (da_cons (de_str (da_cons (de_str (da_nil ⟨[.str "ab", .str "aba", .str "read", .str "save", .str "append", .str "zzzzzzzz", .str "or"], rfl, (by show 7 ≤ sizeLine; decide), ?_⟩)))))))))))))))
  refine ⟨(Y.signs "abcdkxyz").map dS, _, by simp only [lstOf, updC_same], rfl, (by show 8 + 7 ≤ sizeLine; decide), fun p1 hp1 => ?_⟩
  rw [pool_eq]
  have hp1M : M p1 = none := ((Sub.refl M).new hp).none hp1
  have fx0 : Fx b q M (updC (updC M p (.l ((Y.signs "abcdkxyz").map dS))) p1 (.l (pool15.map dS))) := ((Fx.refl M).put hp).put hp1M
  have bw0 : Bowl (updC (updC M p (.l ((Y.signs "abcdkxyz").map dS))) p1 (.l (pool15.map dS))) b q n := (bw.upd (bw.nb hp).1 (bw.nb hp).2).upd (bw.nb hp1M).1 (bw.nb hp1M).2
  have mp0 : updC (updC M p (.l ((Y.signs "abcdkxyz").map dS))) p1 (.l (pool15.map dS)) p1 = some (.l (pool15.map dS)) := updC_same
  generalize updC (updC M p (.l ((Y.signs "abcdkxyz").map dS))) p1 (.l (pool15.map dS)) = M1 at fx0 bw0 mp0
  refine db_cons (ds_set (i := 4) sc__law_rows.nd rfl (.inl rfl) (de_dictC fun p2 hp2 => ?_))
  have np : p2 ≠ p1 := fun e => by rw [e, mp0] at hp2; cases hp2
  have p2b := bw0.nb hp2
  have p1b := bw.nb hp1M
  have hp2M : M p2 = none := fx0.none p2b.1 p2b.2 hp2
  refine db_cons (ds_for PassesOwn.never rfl (di_range1 (by rfl) b2 (de_add (de_int (de_callC c1 hr (by rfl) (da_cons ?_))))))
  walk_at "nm"
  refine da_cons ?_
  walk_at "nm"
  refine da_nil ⟨b, q, n, most, rfl, bw0.upd p2b.1 p2b.2, by omega, hm0, by omega, fun M2 r fr2 bw2 h0 h1 => ⟨_, _, rfl, rfl, 1 + r, rfl, by omega, by omega, ?_⟩⟩
  have m2p1 : M2 p1 = some (.l (pool15.map dS)) := by rw [fr2 p1 p1b.1 p1b.2, updC_ne np.symm, mp0]
  have m2p2 : M2 p2 = some (.k []) := by rw [fr2 p2 p2b.1 p2b.2, updC_same]
  have fx2 : Fx b q M M2 := (fx0.put hp2M).dip fr2
  have hr1 : (1 + r).toNat ≤ 12 ∧ 1 ≤ (1 + r).toNat := by omega
  generalize (1 + r).toNat = many at hr1
  refine ⟨fun i τ' M' => ∃ ys cs y5 y6, τ' = [some (.c b), some (dI most), some (dI great), some (.c p1), some (.c p2), y5, y6] ∧ Fx b q M M' ∧ M' p1 = some (.l (ys.map dS)) ∧ M' p2 = some (.k (slK (kdC cs))) ∧ Bowl M' b q (n + 1 + 4 * i) ∧ cs.length = i ∧ ys.length + i = 15 ∧ (ys ++ cs.map (·.1)).Nodup ∧ (∀ y ∈ ys ++ cs.map (·.1), y ∈ pool15) ∧ ∀ p ∈ cs, 0 ≤ p.2 ∧ p.2 ≤ 10 ^ 30, ⟨pool15, [], none, none, rfl, fx2, m2p1, m2p2, bw2, rfl, rfl, by rw [List.map_nil, List.append_nil]; exact pool_nd, fun y hy => by rw [List.map_nil, List.append_nil] at hy; exact hy, fun _ z => (nomatch z)⟩, fun _ _ _ _ => trivial, ?_, ?_⟩
  · rintro i y τ' M' hi rfl ⟨ys, cs, y5, y6, rfl, fx, mp1, mp2, bwi, lc, ly, nd, mem, val⟩
    refine dg_of (pg_name (i := 5) sc__law_rows.nd rfl (.inl rfl)) (wg_name ?_)
    refine db_cons (ds_set (i := 6) sc__law_rows.nd rfl (.inl rfl) (de_mL PySem.F.slot_list_pop PySem.F.type_list_pop mt_popAt ?_))
    walk_at "nm"
    refine ⟨⟨rfl, _, by simp only [seqOf, mp1]; rfl⟩, da_cons (de_callC c1 hr (by rfl) (da_cons ?_))⟩
    walk_at "nm"
    refine da_cons (de_callB call_len_seq (by rfl) b3 bt_len (da_cons ?_))
    walk_at "nm"
    refine da_nil (k_len (by simp only [seqOf, mp1]; rfl) (da_nil ⟨b, q, _, _, rfl, bwi, by omega, by rw [List.length_map]; omega, by rw [List.length_map]; omega, fun M3 r3 fr3 bw3 h30 h31 => ?_⟩))
    rw [List.length_map] at h31
    have hj : r3.toNat < ys.length := by omega
    have er3 : r3 = (r3.toNat : Int) := by omega
    have m3p1 : M3 p1 = some (.l (ys.map dS)) := by rw [fr3 p1 p1b.1 p1b.2]; exact mp1
    have m3p2 : M3 p2 = some (.k (slK (kdC cs))) := by rw [fr3 p2 p2b.1 p2b.2]; exact mp2
    generalize hjj : r3.toNat = j at hj er3
    refine da_nil (k_popAt (j := j) (z := dS ys[j]) m3p1 (by omega) (by omega) ?_ (by rw [List.getElem?_map, List.getElem?_eq_getElem hj]; rfl) ?_)
    · rw [List.length_map, er3]
      unfold seqIndex?
      simp
      omega
    have e1 : (ys.map dS).eraseIdx j = (ys.eraseIdx j).map dS := eraseIdx_mapS _ _ _
    rw [e1]
    have bw4 : Bowl (updC M3 p1 (.l ((ys.eraseIdx j).map dS))) b q (n + 1 + 4 * i + 1) := bw3.upd p1b.1 p1b.2
    have fx4 : Fx b q M (updC M3 p1 (.l ((ys.eraseIdx j).map dS))) := (fx.dip fr3).put hp1M
    have m4p1 : updC M3 p1 (.l ((ys.eraseIdx j).map dS)) p1 = some (.l ((ys.eraseIdx j).map dS)) := updC_same
    have m4p2 : updC M3 p1 (.l ((ys.eraseIdx j).map dS)) p2 = some (.k (slK (kdC cs))) := by rw [updC_ne np]; exact m3p2
    generalize updC M3 p1 (.l ((ys.eraseIdx j).map dS)) = M4 at bw4 fx4 m4p1 m4p2
    refine db_cons (ds_dput (hu_of hr) (de_ix (de_lstD (da_cons (de_int (da_cons (de_int (da_cons (de_add (de_int (de_callC c1 hr (by rfl) (da_cons ?_))))))))))))
    walk_at "nm"
    refine da_cons (de_int (da_nil ⟨b, q, _, 5, rfl, bw4, by omega, by decide, by decide, fun M5 r5 fr5 bw5 h50 h51 => ⟨_, _, rfl, rfl, da_cons (de_add (de_int (de_callC c1 hr (by rfl) (da_cons ?_))))⟩⟩))
    walk_at "nm"
    refine da_cons ?_
    walk_at "nm"
    refine da_nil ⟨b, q, _, great, rfl, bw5, by omega, hg0, by omega, fun M6 r6 fr6 bw6 h60 h61 => ⟨_, _, rfl, rfl, da_nil ⟨[.int 0, .int 1, .int (1 + r5), .int (1 + r6)], rfl, (by show 4 ≤ sizeLine; decide), de_callC c1 hr (by rfl) (da_cons ?_)⟩⟩⟩
    walk_at "nm"
    refine da_cons (de_int (da_nil ⟨b, q, _, 4, rfl, bw6, by omega, by decide, by decide, fun M7 r7 fr7 bw7 h70 h71 => ?_⟩))
    have e7 : ∃ v : Int, 0 ≤ v ∧ v ≤ 10 ^ 30 ∧ atI ([.int 0, .int 1, .int (1 + r5), .int (1 + r6)].map Sl.d) r7 = some (dI v) := by
      have c7 : r7 = 0 ∨ r7 = 1 ∨ r7 = 2 ∨ r7 = 3 := by omega
      rcases c7 with rfl | rfl | rfl | rfl
      · exact ⟨0, by decide, by decide, rfl⟩
      · exact ⟨1, by decide, by decide, rfl⟩
      · exact ⟨1 + r5, by omega, by omega, rfl⟩
      · exact ⟨1 + r6, by omega, by omega, rfl⟩
    obtain ⟨v, v0, v1, ev⟩ := e7
    refine ⟨_, r7, dI v, rfl, rfl, ev, ?_⟩
    walk_at "nm"
    walk_at "nm"
    have m7p1 : M7 p1 = some (.l ((ys.eraseIdx j).map dS)) := by rw [fr7 p1 p1b.1 p1b.2, fr6 p1 p1b.1 p1b.2, fr5 p1 p1b.1 p1b.2]; exact m4p1
    have m7p2 : M7 p2 = some (.k (slK (kdC cs))) := by rw [fr7 p2 p2b.1 p2b.2, fr6 p2 p2b.1 p2b.2, fr5 p2 p2b.1 p2b.2]; exact m4p2
    have key : (ys.eraseIdx j ++ (cs ++ [(ys[j], v)]).map (·.1)).Perm (ys ++ cs.map (·.1)) := by
      rw [List.map_append, ← List.append_assoc]
      refine (List.perm_append_comm (l₁ := ys.eraseIdx j ++ cs.map (·.1)) (l₂ := [ys[j]])).trans ?_
      show (ys[j] :: (ys.eraseIdx j ++ cs.map (·.1))).Perm _
      rw [← List.cons_append]
      exact (erase_perm ys j hj).append_right _
    have nin : ys[j] ∉ cs.map (·.1) := fun z => (List.nodup_append.mp nd).2.2 _ (List.getElem_mem hj) _ z rfl
    refine ⟨p2, _, .inr ys[j], rfl, m7p2, rfl, ?_, db_nil ⟨ys.eraseIdx j, cs ++ [(ys[j], v)], _, _, rfl, (((fx4.dip fr5).dip fr6).dip fr7).put hp2M, by rw [updC_ne np.symm]; exact m7p1, ?_, ?_, ?_, ?_, ?_, ?_, ?_⟩⟩
    · rw [sizeLine_eq]
      simp [slK, kdC]
      omega
    · rw [updC_same, putS_new ?_]
      · simp [slK, kdC, dI]
      · rw [keys_C]
        intro z
        obtain ⟨y, hy, ey⟩ := List.mem_map.mp z
        exact nin ((Sum.inr.inj ey) ▸ hy)
    · exact (bw7.upd p2b.1 p2b.2).mono (by omega)
    · rw [List.length_append, lc]
      rfl
    · rw [List.length_eraseIdx, if_pos hj]
      omega
    · exact key.nodup_iff.mpr nd
    · exact fun y hy => mem y (key.mem_iff.mp hy)
    · intro p hp
      rcases List.mem_append.mp hp with hp | hp
      · exact val p hp
      · rw [List.mem_singleton.mp hp]
        exact ⟨v0, v1⟩
  · rintro τ' M' ⟨ys, cs, y5, y6, rfl, fx, mp1, mp2, bwi, lc, ly, nd, mem, val⟩
    refine db_cons (ds_ret ?_)
    walk_at "nm"
    have nd2 : (cs.map (·.1)).Nodup := (List.nodup_append.mp nd).2.1
    have mem2 : ∀ p ∈ cs, p.1 ∈ pool15 := fun p hp => mem _ (List.mem_append_right _ (List.mem_map_of_mem hp))
    exact fin cs p2 _ fx p2b.1 p2b.2 hp2M mp2 (bwi.mono (by omega)) ⟨by omega, by omega, nd2, fun p hp => ⟨(pool_ok _ (mem2 p hp)).1, val p hp⟩⟩ mem2

end

end Pg

namespace Pg
open PySem L2 Y PyProof.Rows

local macro_rules | `(tactic| walk_at "vis") => `(tactic| first | exact Or.inl rfl | exact Or.inr (Or.inl rfl) | exact Or.inr (Or.inr rfl))
local macro_rules | `(tactic| walk_at "e1") => `(tactic| first | walk_at "nm" | refine de_int ?_ | refine de_add ?_ | refine de_sub ?_ | refine de_str ?_ | refine de_non ?_ | refine de_bl ?_)
local macro_rules | `(tactic| walk_at "go") => `(tactic| repeat (first | ((with_reducible show DE _ _ _ _ _ _); walk_at "e1") | ((with_reducible show DA _ _ _ _ _ _); refine da_cons ?_) | refine ⟨_, _, rfl, rfl, ?_⟩))


theorem getC_some {cs : Cnt} {z : Str} {v : Int} (h : getC cs z = some v) : ∃ p ∈ cs, p.1 = z ∧ p.2 = v := by
  unfold getC at h
  cases e : cs.find? fun p => decide (p.1 = z) with
  | none => rw [e] at h; cases h
  | some p =>
    rw [e] at h
    exact ⟨p, List.mem_of_find?_eq_some e, of_decide_eq_true (p := p.1 = z) (List.find?_some (p := fun p : Str × Int => decide (p.1 = z)) e), Option.some.inj h⟩
/-- a line of these counts, and the count of its writer -/
theorem okLine_get {rows : Cnt} {l : Line} (h : okLine (some rows) l) : ∃ v, getC rows l.1 = some v ∧ l.2 ≤ v := by
  obtain ⟨_, h1, h2⟩ := h
  change l.2 ≤ (getC rows l.1).getD 0 at h2
  cases e : getC rows l.1 with
  | none => rw [e] at h2; simp at h2; omega
  | some v => rw [e] at h2; exact ⟨v, rfl, h2⟩
section
variable {P : Program} {w : World} {K : PySem.W.Frag} {mg : Str → Option Value} {base : Heap}

end

end Pg

namespace Pg
open PySem L2 Y PyProof.Rows

local macro_rules | `(tactic| walk_at "vis") => `(tactic| first | exact Or.inl rfl | exact Or.inr (Or.inl rfl) | exact Or.inr (Or.inr rfl))
local macro_rules | `(tactic| walk_at "e1") => `(tactic| first | walk_at "nm" | refine de_int ?_ | refine de_add ?_ | refine de_sub ?_ | refine de_str ?_ | refine de_non ?_ | refine de_bl ?_)
local macro_rules | `(tactic| walk_at "go") => `(tactic| repeat (first | ((with_reducible show DE _ _ _ _ _ _); walk_at "e1") | ((with_reducible show DA _ _ _ _ _ _); refine da_cons ?_) | refine ⟨_, _, rfl, rfl, ?_⟩))

/-! ### contents, line by line -/
def exR (r : Y.Run) : List Line := (List.range (r.2.2 - r.2.1 + 1).toNat).map fun k : Nat => (r.1, r.2.1 + (k : Int))
def ex (c : List Y.Run) : List Line := c.flatMap exR
def wf (c : List Y.Run) : Prop := ∀ r ∈ c, r.2.1 ≤ r.2.2
def adj : List Y.Run → Prop
  | [] => True
  | r :: c => (∀ b, c.head? = some b → cont r b = false) ∧ adj c
theorem ex_nil : ex [] = [] := rfl
theorem ex_cons (r : Y.Run) (c : List Y.Run) : ex (r :: c) = exR r ++ ex c := by unfold ex; rw [List.flatMap_cons]
theorem ex_append (c d : List Y.Run) : ex (c ++ d) = ex c ++ ex d := by unfold ex; rw [List.flatMap_append]
theorem exR_len (r : Y.Run) : (exR r).length = (r.2.2 - r.2.1 + 1).toNat := by unfold exR; rw [List.length_map, List.length_range]
theorem exR_get (r : Y.Run) (j : Nat) : (exR r)[j]? = if j < (r.2.2 - r.2.1 + 1).toNat then some (r.1, r.2.1 + (j : Int)) else none := by
  unfold exR
  rw [List.getElem?_map]
  by_cases h : j < (r.2.2 - r.2.1 + 1).toNat
  · rw [if_pos h, List.getElem?_range h]
    rfl
  · rw [if_neg h, List.getElem?_eq_none (by rw [List.length_range]; omega)]
    rfl
theorem exR_take (r : Y.Run) (t : Int) (h0 : 0 < t) (h1 : t ≤ r.2.2 - r.2.1 + 1) : exR (r.1, r.2.1, r.2.1 + t - 1) = (exR r).take t.toNat := by
  apply List.ext_getElem?
  intro j
  rw [List.getElem?_take, exR_get, exR_get]
  show (if j < (r.2.1 + t - 1 - r.2.1 + 1).toNat then some (r.1, r.2.1 + (j : Int)) else none) = _
  by_cases h : j < t.toNat
  · rw [if_pos (by omega), if_pos h, if_pos (by omega)]
  · rw [if_neg (by omega), if_neg h]
theorem exR_drop (r : Y.Run) (t : Int) (h0 : 0 ≤ t) : exR (r.1, r.2.1 + t, r.2.2) = (exR r).drop t.toNat := by
  apply List.ext_getElem?
  intro j
  rw [List.getElem?_drop, exR_get, exR_get]
  show (if j < (r.2.2 - (r.2.1 + t) + 1).toNat then some (r.1, r.2.1 + t + (j : Int)) else none) = _
  by_cases h : j < (r.2.2 - (r.2.1 + t) + 1).toNat
  · rw [if_pos h, if_pos (by omega), show r.2.1 + t + (j : Int) = r.2.1 + ((t.toNat + j : Nat) : Int) by omega]
  · rw [if_neg h, if_neg (by omega)]
theorem exR_snoc (w : Str) (f l : Int) (h : f ≤ l + 1) : exR (w, f, l + 1) = exR (w, f, l) ++ [(w, l + 1)] := by
  unfold exR
  show (List.range (l + 1 - f + 1).toNat).map _ = (List.range (l - f + 1).toNat).map _ ++ _
  rw [show (l + 1 - f + 1).toNat = (l - f + 1).toNat + 1 by omega, List.range_succ, List.map_append]
  congr 1
  show [(w, f + (((l - f + 1).toNat : Nat) : Int))] = _
  rw [show f + (((l - f + 1).toNat : Nat) : Int) = l + 1 by omega]
theorem wf_with {c : List Y.Run} {l : Line} (h : wf c) : wf (withRun c (ln l)) := fun x hx => by
  rcases withRun_mem hx with z | rfl | ⟨m, hm, hc, rfl⟩
  · exact h x z
  · exact Int.le_refl _
  · have := h m hm
    unfold cont ln at hc
    simp only [Bool.and_eq_true, decide_eq_true_eq] at hc
    show m.2.1 ≤ l.2
    omega
theorem withRun_snoc (c : List Y.Run) (m r : Y.Run) : withRun (c ++ [m]) r = if cont m r = true then c ++ [(r.1, m.2.1, r.2.2)] else c ++ [m] ++ [r] := by
  unfold withRun
  rw [List.getLast?_concat]
  simp only [List.dropLast_concat]
theorem ex_with {c : List Y.Run} {l : Line} (h : wf c) : ex (withRun c (ln l)) = ex c ++ [l] := by
  have e1 : ex [ln l] = [l] := by
    show exR (l.1, l.2, l.2) ++ [] = _
    unfold exR
    simp
  rcases List.eq_nil_or_concat c with rfl | ⟨c, m, rfl⟩
  · exact e1
  · rw [List.concat_eq_append] at h ⊢
    rw [withRun_snoc]
    split
    · next hc =>
      unfold cont ln at hc
      simp only [Bool.and_eq_true, decide_eq_true_eq] at hc
      have hm := h m (by simp)
      rw [ex_append, ex_append, List.append_assoc]
      congr 1
      show exR (l.1, m.2.1, l.2) ++ [] = (exR m ++ []) ++ [l]
      rw [List.append_nil, List.append_nil]
      obtain ⟨c1, c2⟩ := hc
      have e : l = (m.1, m.2.2 + 1) := Prod.ext c1 c2
      rw [e]
      exact exR_snoc m.1 m.2.1 m.2.2 (by omega)
    · rw [ex_append _ [ln l], e1]
theorem ex_grow {c : List Y.Run} {ls : List Line} (h : wf c) : ex (grow c ls) = ex c ++ ls := by
  induction ls generalizing c with
  | nil => rw [List.append_nil]; rfl
  | cons l r ih =>
    show ex (grow (withRun c (ln l)) r) = _
    rw [ih (wf_with h), ex_with h, List.append_assoc]
    rfl
theorem wf_nil : wf [] := fun _ h => (nomatch h)
theorem ex_grow0 (ls : List Line) : ex (grow [] ls) = ls := by rw [ex_grow wf_nil]; rfl
theorem wf_grow {c : List Y.Run} {ls : List Line} (h : wf c) : wf (grow c ls) := by
  induction ls generalizing c with
  | nil => exact h
  | cons l r ih => exact ih (wf_with h)
theorem nL_cons (r : Y.Run) (c : List Y.Run) : nLines (r :: c) = (r.2.2 - r.2.1 + 1) + nLines c := by unfold nLines; rw [List.map_cons, List.sum_cons]
theorem nL_ex : ∀ {c : List Y.Run}, wf c → nLines c = ((ex c).length : Int)
  | [], _ => rfl
  | r :: c, h => by
    have h1 := h r List.mem_cons_self
    rw [nL_cons, ex_cons, List.length_append, exR_len, nL_ex fun x hx => h x (List.mem_cons_of_mem _ hx)]
    omega
theorem nL_grow0 (ls : List Line) : nLines (grow [] ls) = (ls.length : Int) := by rw [nL_ex (wf_grow wf_nil), ex_grow0]
/-! one content for each list of lines -/
theorem adj_snoc : ∀ {c : List Y.Run} {m : Y.Run}, adj (c ++ [m]) → adj c ∧ ∀ l, c.getLast? = some l → cont l m = false
  | [], m, _ => ⟨trivial, fun l h => (nomatch h)⟩
  | [a], m, h => ⟨⟨fun b z => (nomatch z), trivial⟩, fun l e => by
    cases e
    exact h.1 m rfl⟩
  | a :: b :: c, m, h => by
    obtain ⟨h1, h2⟩ := h
    obtain ⟨h3, h4⟩ := adj_snoc (c := b :: c) h2
    exact ⟨⟨fun x hx => h1 x hx, h3⟩, fun l e => h4 l (by rw [List.getLast?_cons_cons] at e; exact e)⟩
theorem grow_run (c : List Y.Run) (w : Str) (f : Int) (h : ∀ l, c.getLast? = some l → cont l (w, f, f) = false) : ∀ k : Nat, grow c (exR (w, f, f + (k : Int))) = c ++ [(w, f, f + (k : Int))]
  | 0 => by
    have e : exR (w, f, f + ((0 : Nat) : Int)) = [(w, f)] := by
      unfold exR
      simp
    rw [e]
    show withRun c (ln (w, f)) = _
    have e0 : f + ((0 : Nat) : Int) = f := by omega
    rw [e0]
    unfold withRun
    split
    · next l hl =>
      rw [if_neg]
      · rfl
      · show ¬ cont l (w, f, f) = true
        rw [h l hl]
        exact Bool.false_ne_true
    · rfl
  | k + 1 => by
    have e : f + ((k + 1 : Nat) : Int) = f + (k : Int) + 1 := by omega
    rw [e, exR_snoc w f (f + (k : Int)) (by omega), grow_append, grow_run c w f h k]
    show withRun (c ++ [(w, f, f + (k : Int))]) (ln (w, f + (k : Int) + 1)) = _
    rw [withRun_snoc, if_pos]
    · rfl
    · unfold cont ln
      simp
theorem grow_exR {c : List Y.Run} {r : Y.Run} (hr : r.2.1 ≤ r.2.2) (h : ∀ l, c.getLast? = some l → cont l r = false) : grow c (exR r) = c ++ [r] := by
  obtain ⟨w, f, l⟩ := r
  have hr : f ≤ l := hr
  have e : l = f + ((l - f).toNat : Int) := by omega
  have := grow_run c w f h (l - f).toNat
  rw [← e] at this
  exact this
theorem grow_ex (c : List Y.Run) (h : wf c) (ha : adj c) : grow [] (ex c) = c := by
  suffices H : ∀ n (c : List Y.Run), c.length = n → wf c → adj c → grow [] (ex c) = c from H _ c rfl h ha
  intro n
  induction n with
  | zero => intro c hn _ _; rw [List.length_eq_zero_iff.mp hn]; rfl
  | succ n ih =>
    intro c hn h ha
    rcases List.eq_nil_or_concat c with rfl | ⟨c, m, rfl⟩
    · cases hn
    · rw [List.concat_eq_append] at h ha hn ⊢
      rw [List.length_append] at hn
      obtain ⟨h1, h2⟩ := adj_snoc ha
      have e := ih c (by simpa using hn) (fun x hx => h x (List.mem_append_left _ hx)) h1
      rw [ex_append, grow_append, e, ex_cons, ex_nil, List.append_nil]
      exact grow_exR (h m (by simp)) h2
theorem ex_inj {c : List Y.Run} {ls : List Line} (h : wf c) (ha : adj c) (e : ex c = ls) : c = grow [] ls := by rw [← e, grow_ex c h ha]
theorem okC_adj {lc : Option Cnt} : ∀ {c : List Y.Run}, okC lc c → wf c ∧ adj c
  | [], _ => ⟨wf_nil, trivial⟩
  | r :: c, ⟨h1, h2⟩ => by
    have ih := okC_adj (lc := lc) (c := c) ⟨fun x hx => h1 x (List.mem_cons_of_mem _ hx), fun i a b ha hb => h2 (i + 1) a b ha hb⟩
    refine ⟨fun x hx => (h1 x hx).2.2.1, fun b hb => h2 0 r b rfl ?_, ih.2⟩
    rw [List.head?_eq_getElem?] at hb
    exact hb
/-! cut -/
theorem tk_0 {r : Y.Run} {n : Int} (h : r.2.1 ≤ r.2.2) (hn : 0 ≤ n) : 0 ≤ tk r n ∧ tk r n ≤ n ∧ tk r n ≤ r.2.2 - r.2.1 + 1 ∧ (tk r n = n ∨ tk r n = r.2.2 - r.2.1 + 1) := by
  unfold tk
  split <;> omega
theorem ex_cutF (r : Y.Run) (t : Int) (h0 : 0 ≤ t) (h1 : t ≤ r.2.2 - r.2.1 + 1) : ex (cutF r t) = (exR r).take t.toNat := by
  unfold cutF
  split
  · next h =>
    rw [ex_cons, ex_nil, List.append_nil]
    exact exR_take r t h h1
  · have e : t = 0 := by omega
    rw [e]
    rfl
theorem ex_cutB (r : Y.Run) (t : Int) (h0 : 0 ≤ t) : ex (cutB r t) = (exR r).drop t.toNat := by
  unfold cutB
  split
  · rw [ex_cons, ex_nil, List.append_nil]
    exact exR_drop r t h0
  · rw [List.drop_of_length_le (by rw [exR_len]; omega)]
    rfl
theorem cut_ex : ∀ {c : List Y.Run} {n : Int}, wf c → 0 ≤ n → ex (cutC c n).1 = (ex c).take n.toNat ∧ ex (cutC c n).2 = (ex c).drop n.toNat
  | [], n, _, _ => by
    show [] = ([] : List Line).take _ ∧ [] = ([] : List Line).drop _
    rw [List.take_nil, List.drop_nil]
    exact ⟨rfl, rfl⟩
  | r :: c, n, h, hn => by
    have hr := h r List.mem_cons_self
    obtain ⟨t0, t1, t2, t3⟩ := tk_0 hr hn
    obtain ⟨i1, i2⟩ := cut_ex (c := c) (n := n - tk r n) (fun x hx => h x (List.mem_cons_of_mem _ hx)) (by omega)
    show ex (cutF r (tk r n) ++ (cutC c (n - tk r n)).1) = _ ∧ ex (cutB r (tk r n) ++ (cutC c (n - tk r n)).2) = _
    rw [ex_append, ex_append, ex_cons, i1, i2, ex_cutF r _ t0 t2, ex_cutB r _ t0, List.take_append, List.drop_append, exR_len]
    have hl := exR_len r
    rcases t3 with e | e
    · rw [e, show (n - n).toNat = 0 by omega, show n.toNat - (r.2.2 - r.2.1 + 1).toNat = 0 by omega]
      exact ⟨rfl, rfl⟩
    · rw [e, List.take_of_length_le (l := exR r) (by omega), List.take_of_length_le (l := exR r) (by omega), List.drop_of_length_le (l := exR r) (by omega), List.drop_of_length_le (l := exR r) (by omega), show (n - (r.2.2 - r.2.1 + 1)).toNat = n.toNat - (r.2.2 - r.2.1 + 1).toNat by omega]
      exact ⟨rfl, rfl⟩
theorem cut_zero : ∀ {c : List Y.Run}, wf c → cutC c 0 = ([], c)
  | [], _ => rfl
  | r :: c, h => by
    have hr := h r List.mem_cons_self
    have e : tk r 0 = 0 := by unfold tk; split <;> omega
    show (cutF r (tk r 0) ++ (cutC c (0 - tk r 0)).1, cutB r (tk r 0) ++ (cutC c (0 - tk r 0)).2) = _
    rw [e, show (0 : Int) - 0 = 0 by decide, cut_zero fun x hx => h x (List.mem_cons_of_mem _ hx)]
    unfold cutF cutB
    rw [if_neg (by decide), if_pos (by omega)]
    show ([], (r.1, r.2.1 + 0, r.2.2) :: c) = _
    rw [Int.add_zero]
theorem cut_wf : ∀ {c : List Y.Run} {n : Int}, wf c → 0 ≤ n → wf (cutC c n).1 ∧ wf (cutC c n).2
  | [], _, _, _ => ⟨wf_nil, wf_nil⟩
  | r :: c, n, h, hn => by
    obtain ⟨t0, t1, t2, t3⟩ := tk_0 (h r List.mem_cons_self) hn
    obtain ⟨i1, i2⟩ := cut_wf (c := c) (n := n - tk r n) (fun x hx => h x (List.mem_cons_of_mem _ hx)) (by omega)
    constructor
    · intro x hx
      rcases List.mem_append.mp hx with z | z
      · unfold cutF at z
        split at z
        · rw [List.mem_singleton.mp z]
          show r.2.1 ≤ r.2.1 + tk r n - 1
          omega
        · cases z
      · exact i1 x z
    · intro x hx
      rcases List.mem_append.mp hx with z | z
      · unfold cutB at z
        split at z
        · rw [List.mem_singleton.mp z]
          assumption
        · cases z
      · exact i2 x z
theorem cut_adj : ∀ {c : List Y.Run} {n : Int}, wf c → adj c → 0 ≤ n → adj (cutC c n).1 ∧ adj (cutC c n).2 ∧ ∀ b, (cutC c n).1.head? = some b → ∃ b', c.head? = some b' ∧ b.1 = b'.1 ∧ b.2.1 = b'.2.1
  | [], _, _, _, _ => ⟨trivial, trivial, fun b h => (nomatch h)⟩
  | r :: c, n, h, ⟨ha, hc⟩, hn => by
    have hr := h r List.mem_cons_self
    have hw : wf c := fun x hx => h x (List.mem_cons_of_mem _ hx)
    obtain ⟨t0, t1, t2, t3⟩ := tk_0 hr hn
    obtain ⟨i1, i2, i3⟩ := cut_adj (c := c) (n := n - tk r n) hw hc (by omega)
    show adj (cutF r (tk r n) ++ (cutC c (n - tk r n)).1) ∧ adj (cutB r (tk r n) ++ (cutC c (n - tk r n)).2) ∧ ∀ b, (cutF r (tk r n) ++ (cutC c (n - tk r n)).1).head? = some b → _
    by_cases e : tk r n = r.2.2 - r.2.1 + 1
    · have e1 : cutF r (tk r n) = [r] := by
        unfold cutF
        rw [if_pos (by omega), show r.2.1 + tk r n - 1 = r.2.2 by omega]
      have e2 : cutB r (tk r n) = [] := by
        unfold cutB
        rw [if_neg (by omega)]
      rw [e1, e2]
      refine ⟨⟨fun b hb => ?_, i1⟩, i2, fun b hb => ⟨r, rfl, ?_⟩⟩
      · obtain ⟨b', h1, h2, h3⟩ := i3 b hb
        have := ha b' h1
        unfold cont at this ⊢
        rw [h2, h3]
        exact this
      · cases hb
        exact ⟨rfl, rfl⟩
    · have e3 : n - tk r n = 0 := by omega
      rw [e3, cut_zero hw]
      have hlt : r.2.1 + tk r n ≤ r.2.2 := by omega
      have e2 : cutB r (tk r n) = [(r.1, r.2.1 + tk r n, r.2.2)] := by
        unfold cutB
        rw [if_pos hlt]
      rw [e2]
      refine ⟨?_, ⟨fun b hb => ha b hb, hc⟩, fun b hb => ?_⟩
      · show adj (cutF r (tk r n) ++ [])
        rw [List.append_nil]
        unfold cutF
        split
        · exact ⟨fun b z => (nomatch z), trivial⟩
        · trivial
      · rw [show (cutF r (tk r n) ++ ([] : List Y.Run)) = cutF r (tk r n) from List.append_nil _] at hb
        unfold cutF at hb
        split at hb
        · cases hb
          exact ⟨r, rfl, rfl, rfl⟩
        · cases hb
theorem adj_grow (ls : List Line) : adj (grow [] ls) := by
  have H : ∀ (ls : List Line) (c : List Y.Run), wf c → adj c → adj (grow c ls) := by
    intro ls
    induction ls with
    | nil => exact fun c _ h => h
    | cons l r ih =>
      intro c hw h
      refine ih _ (wf_with hw) ?_
      rcases List.eq_nil_or_concat c with rfl | ⟨c, m, rfl⟩
      · exact ⟨fun b z => (nomatch z), trivial⟩
      · rw [List.concat_eq_append] at h ⊢
        show adj (withRun (c ++ [m]) (ln l))
        rw [withRun_snoc]
        have snoc : ∀ (c : List Y.Run) (x : Y.Run), adj c → (∀ l, c.getLast? = some l → cont l x = false) → adj (c ++ [x]) := by
          intro c
          induction c with
          | nil => exact fun x _ _ => ⟨fun b z => (nomatch z), trivial⟩
          | cons a c ihc =>
            intro x h1 h2
            cases c with
            | nil =>
              refine ⟨fun b hb => ?_, ⟨fun b z => (nomatch z), trivial⟩⟩
              cases hb
              exact h2 a rfl
            | cons a2 c => exact ⟨fun b hb => h1.1 b hb, ihc x h1.2 fun l hl => h2 l (by rw [List.getLast?_cons_cons]; exact hl)⟩
        obtain ⟨h1, h2⟩ := adj_snoc h
        split
        · next hc =>
          refine snoc c _ h1 fun l' hl => ?_
          have := h2 l' hl
          unfold cont ln at hc
          unfold cont at this ⊢
          simp only [Bool.and_eq_true, decide_eq_true_eq] at hc
          simp only [Bool.and_eq_false_iff, decide_eq_false_iff_not] at this ⊢
          show ¬ l.1 = l'.1 ∨ _
          rw [hc.1]
          exact this
        · next hc =>
          refine snoc _ _ h fun l hl => ?_
          rw [List.getLast?_concat] at hl
          cases hl
          exact Bool.eq_false_iff.mpr hc
  exact H ls [] wf_nil trivial
theorem cut_grow (ls : List Line) (n : Nat) : cutC (grow [] ls) (n : Int) = (grow [] (ls.take n), grow [] (ls.drop n)) := by
  have hw := wf_grow (c := []) (ls := ls) wf_nil
  obtain ⟨e1, e2⟩ := cut_ex (n := (n : Int)) hw (by omega)
  obtain ⟨w1, w2⟩ := cut_wf (n := (n : Int)) hw (by omega)
  obtain ⟨a1, a2, _⟩ := cut_adj (n := (n : Int)) hw (adj_grow ls) (by omega)
  rw [ex_grow0, Int.toNat_natCast] at e1 e2
  exact Prod.ext (ex_inj w1 a1 e1) (ex_inj w2 a2 e2)
theorem head_grow (ls : List Line) (n : Nat) (h : n < ls.length) : ∃ r, (cutC (grow [] ls) (n : Int)).2.head? = some r ∧ (r.1, r.2.1) = ls[n] := by
  rw [cut_grow]
  show ∃ r, (grow [] (ls.drop n)).head? = some r ∧ _
  have e := ex_grow0 (ls.drop n)
  have hw := wf_grow (c := []) (ls := ls.drop n) wf_nil
  cases hg : grow [] (ls.drop n) with
  | nil =>
    rw [hg, ex_nil] at e
    have := congrArg List.length e
    rw [List.length_drop] at this
    simp at this
    omega
  | cons r c =>
    rw [hg] at e hw
    have hr := hw r List.mem_cons_self
    refine ⟨r, rfl, ?_⟩
    rw [ex_cons] at e
    have e2 := congrArg (fun l : List Line => l[0]?) e
    have h3 : (exR r ++ ex c)[0]? = some (r.1, r.2.1) := by
      rw [List.getElem?_append_left (by rw [exR_len]; omega), exR_get, if_pos (by omega)]
      simp
    have h4 : (ls.drop n)[0]? = some ls[n] := by
      rw [List.getElem?_drop, Nat.add_zero, List.getElem?_eq_getElem h]
    rw [show (exR r ++ ex c)[0]? = (ls.drop n)[0]? from e2] at h3
    exact Option.some.inj (h3.symm.trans h4)

end Pg

namespace Pg
open PySem L2 Y PyProof.Rows

local macro_rules | `(tactic| walk_at "vis") => `(tactic| first | exact Or.inl rfl | exact Or.inr (Or.inl rfl) | exact Or.inr (Or.inr rfl))
local macro_rules | `(tactic| walk_at "e1") => `(tactic| first | walk_at "nm" | refine de_int ?_ | refine de_add ?_ | refine de_sub ?_ | refine de_str ?_ | refine de_non ?_ | refine de_bl ?_)
local macro_rules | `(tactic| walk_at "go") => `(tactic| repeat (first | ((with_reducible show DE _ _ _ _ _ _); walk_at "e1") | ((with_reducible show DA _ _ _ _ _ _); refine da_cons ?_) | refine ⟨_, _, rfl, rfl, ?_⟩))

theorem adj_idx : ∀ {c : List Y.Run}, adj c → ∀ (i : Nat) (a b : Y.Run), c[i]? = some a → c[i + 1]? = some b → cont a b = false
  | [], _, i, a, b, h, _ => by simp at h
  | r :: c, ⟨h1, _⟩, 0, a, b, ha, hb => by
    cases ha
    exact h1 b (by rw [List.head?_eq_getElem?]; exact hb)
  | r :: c, ⟨_, h2⟩, i + 1, a, b, ha, hb => adj_idx h2 i a b ha hb
/-- a content as data, a list or a tuple -/
def txt (tup : Bool) (c : List Y.Run) : PyData := if tup = true then .tuple (c.map eRun) else .list (c.map eRun)
theorem LT_txt (M : Cs) (tup : Bool) (c : List Y.Run) : LT M (.d (txt tup c)) (c.map sRun) := by
  cases tup
  · have := LT.list M (c.map eRun)
    rw [List.map_map] at this
    exact this
  · have := LT.tup M (c.map eRun)
    rw [List.map_map] at this
    exact this
theorem fit_of {c : List Y.Run} (h : okC none c) : ∀ r ∈ c, fitR r := fun r hr => by
  obtain ⟨o1, o2, o3, o4⟩ := h.1 r hr
  have o4 : r.2.2 ≤ 10 ^ 30 := o4
  exact ⟨o1, by omega, by omega⟩
theorem k_tupleD {X : Cx} {L : Lk} {M : Cs} {Q : Sl → Cs → Prop} {s : Sl} {ds : List PyData} (hT : isTup s = false) (h : seqOf M s = some (ds.map .d)) (q : Q (.d (.tuple ds)) M) : RCk X.K L (fun xs H Q => ∃ p ys, xs = [.ref p] ∧ ((SqL X.K H p ys ∧ ∀ l, H l = none → Q (.ref l) (upd H l (.tup ys))) ∨ (SqT X.K H p ys ∧ Q (.ref p) H))) [s] M Q := fun G H vs Q' g a k => by
  obtain ⟨v, rfl, a1⟩ := sl1 a
  obtain ⟨p, xs, rfl, r, l⟩ := seq_at g a1 h
  rw [hT, if_neg Bool.false_ne_true] at r
  refine ⟨p, xs, rfl, .inl ⟨r, fun c hc => ?_⟩⟩
  have f := g.free hc
  exact k _ _ _ _ _ q (Ex.new f.1) (g.newD hc) (.d (.tup upd_same (AtL.mono (Ex.new f.1) l.at)))
theorem okC_none {rows : Cnt} {c : List Y.Run} (hr : okCnt rows) (h : okC (some rows) c) : okC none c := ⟨fun r hx => by
  obtain ⟨o1, o2, o3, o4⟩ := h.1 r hx
  refine ⟨o1, o2, o3, ?_⟩
  show r.2.2 ≤ 10 ^ 30
  have o4 : r.2.2 ≤ (getC rows r.1).getD 0 := o4
  cases e : getC rows r.1 with
  | none => rw [e] at o4; have o4 : r.2.2 ≤ 0 := o4; omega
  | some v =>
    rw [e] at o4
    have o4 : r.2.2 ≤ v := o4
    obtain ⟨p, hp, _, rfl⟩ := getC_some e
    have := (hr.2.2.2 p hp).2.2
    omega, h.2⟩
theorem nL_bound : ∀ {c : List Y.Run}, (∀ r ∈ c, okRun none r) → nLines c ≤ 10 ^ 30 * (c.length : Int)
  | [], _ => by decide
  | r :: c, h => by
    obtain ⟨_, o2, _, o4⟩ := h r List.mem_cons_self
    have o4 : r.2.2 ≤ 10 ^ 30 := o4
    have ih := nL_bound (c := c) fun x hx => h x (List.mem_cons_of_mem _ hx)
    rw [nL_cons, List.length_cons]
    omega
theorem run_in {rows : Cnt} {c : List Y.Run} (h : okC (some rows) c) : ∀ r ∈ c, ∃ p ∈ rows, p.1 = r.1 := fun r hr => by
  obtain ⟨_, o2, o3, o4⟩ := h.1 r hr
  obtain ⟨v, hv, _⟩ := okLine_get (rows := rows) (l := (r.1, r.2.1)) ⟨(h.1 r hr).1, o2, by have o4 : r.2.2 ≤ (getC rows r.1).getD 0 := o4; show r.2.1 ≤ (getC rows r.1).getD 0; omega⟩
  obtain ⟨p, hp, e, _⟩ := getC_some hv
  exact ⟨p, hp, e⟩

end Pg

namespace Pg
open PySem L2 Y PyProof.Rows

local macro_rules | `(tactic| walk_at "vis") => `(tactic| first | exact Or.inl rfl | exact Or.inr (Or.inl rfl) | exact Or.inr (Or.inr rfl))
local macro_rules | `(tactic| walk_at "e1") => `(tactic| first | walk_at "nm" | refine de_int ?_ | refine de_add ?_ | refine de_sub ?_ | refine de_str ?_ | refine de_non ?_ | refine de_bl ?_)
local macro_rules | `(tactic| walk_at "go") => `(tactic| repeat (first | ((with_reducible show DE _ _ _ _ _ _); walk_at "e1") | ((with_reducible show DA _ _ _ _ _ _); refine da_cons ?_) | refine ⟨_, _, rfl, rfl, ?_⟩))


/-- a content read backwards -/
def revR (cs : Cnt) (r : Y.Run) : Y.Run := (r.1, (getC cs r.1).getD 0 + 1 - r.2.2, (getC cs r.1).getD 0 + 1 - r.2.1)
def revC (cs : Cnt) (c : List Y.Run) : List Y.Run := c.reverse.map (revR cs)
theorem getC_perm {cs cs' : Cnt} (h : cs'.Perm cs) (hn : (cs.map (·.1)).Nodup) (z : Str) : getC cs' z = getC cs z := by
  have hn' : (cs'.map (·.1)).Nodup := (h.map _).nodup_iff.mpr hn
  cases e : getC cs z with
  | some v =>
    obtain ⟨p, hp, rfl, rfl⟩ := getC_some e
    exact getC_mem hn' (h.mem_iff.mpr hp)
  | none =>
    cases e' : getC cs' z with
    | none => rfl
    | some v =>
      obtain ⟨p, hp, rfl, rfl⟩ := getC_some e'
      rw [getC_mem hn (h.mem_iff.mp hp)] at e
      cases e
theorem okRun_get {cs : Cnt} {r : Y.Run} (h : okRun (some cs) r) : ∃ v, getC cs r.1 = some v ∧ r.2.2 ≤ v := by
  obtain ⟨_, h1, h2, h3⟩ := h
  cases e : getC cs r.1 with
  | some v =>
    refine ⟨v, rfl, ?_⟩
    have h3 : r.2.2 ≤ (getC cs r.1).getD 0 := h3
    rw [e] at h3
    exact h3
  | none =>
    have h3 : r.2.2 ≤ (getC cs r.1).getD 0 := h3
    rw [e] at h3
    have h3 : r.2.2 ≤ 0 := h3
    omega
section
variable {P : Program} {w : World} {K : PySem.W.Frag} {mg : Str → Option Value} {base : Heap}

end

end Pg

namespace Pg
open PySem L2 Y PyProof.Rows

local macro_rules | `(tactic| walk_at "vis") => `(tactic| first | exact Or.inl rfl | exact Or.inr (Or.inl rfl) | exact Or.inr (Or.inr rfl))
local macro_rules | `(tactic| walk_at "e1") => `(tactic| first | walk_at "nm" | refine de_int ?_ | refine de_add ?_ | refine de_sub ?_ | refine de_str ?_ | refine de_non ?_ | refine de_bl ?_)
local macro_rules | `(tactic| walk_at "go") => `(tactic| repeat (first | ((with_reducible show DE _ _ _ _ _ _); walk_at "e1") | ((with_reducible show DA _ _ _ _ _ _); refine da_cons ?_) | refine ⟨_, _, rfl, rfl, ?_⟩))


/-- the last number of each writer so far -/
def latC (m : Cnt) (c : List Y.Run) : Cnt := c.foldl (fun m r => putC m r.1 r.2.2) m
theorem latC_snoc (m : Cnt) (c : List Y.Run) (r : Y.Run) : latC m (c ++ [r]) = putC (latC m c) r.1 r.2.2 := by unfold latC; rw [List.foldl_append]; rfl
theorem latC_take (m : Cnt) {c : List Y.Run} {i : Nat} (h : i < c.length) : latC m (c.take (i + 1)) = putC (latC m (c.take i)) c[i].1 c[i].2.2 := by
  rw [List.take_add_one, List.getElem?_eq_getElem h]
  exact latC_snoc _ _ _
theorem latC_len (m : Cnt) : ∀ c : List Y.Run, (latC m c).length ≤ m.length + c.length
  | [] => Nat.le_refl _
  | r :: c => by
    have := latC_len (putC m r.1 r.2.2) c
    have := putC_len m r.1 r.2.2
    rw [List.length_cons]
    show (latC (putC m r.1 r.2.2) c).length ≤ _
    omega
/-- the last number of a writer in a content, or 0 -/
def lastN (c : List Y.Run) (z : Str) : Int := (getC (latC [] c) z).getD 0
theorem lastN_nil (z : Str) : lastN [] z = 0 := rfl
theorem lastN_snoc (c : List Y.Run) (r : Y.Run) (z : Str) : lastN (c ++ [r]) z = if z = r.1 then r.2.2 else lastN c z := by
  unfold lastN
  rw [latC_snoc, getC_put]
  split <;> rfl
def badAt (c : List Y.Run) (i : Nat) (r : Y.Run) : Option PyData :=
  if r.2.1 ≤ lastN (c.take i) r.1 then some (.tuple [.str "decreasing", .int (i : Int)])
  else if 0 < i ∧ (c[i - 1]?.map (·.1)) = some r.1 then some (.tuple [.str "split", .int (i : Int)]) else none
def badI (c : List Y.Run) (i : Nat) : Option PyData := c[i]?.bind (badAt c i)
def startBad (c : List Y.Run) : Bool := match c with
  | [] => false
  | r :: _ => !decide (r.2.1 = 1)
/-- the first reason why a content cannot appear, or None -/
def obsA (c : List Y.Run) : PyData := if startBad c = true then .tuple [.str "start"] else ((List.range c.length).findSome? (badI c)).getD .none
/-- a content that can appear -/
def App (c : List Y.Run) : Prop := startBad c = false ∧ ∀ i < c.length, badI c i = none
theorem badAt_some {c : List Y.Run} {i : Nat} {r : Y.Run} {d : PyData} (h : badAt c i r = some d) : isNone (.d d) = false := by
  unfold badAt at h
  split at h
  · cases h; rfl
  · split at h
    · cases h; rfl
    · cases h
theorem badI_some {c : List Y.Run} {i : Nat} {d : PyData} (h : badI c i = some d) : isNone (.d d) = false := by
  unfold badI at h
  obtain ⟨r, _, hr⟩ := Option.bind_eq_some_iff.mp h
  exact badAt_some hr
theorem obsA_app {c : List Y.Run} (h : App c) : obsA c = .none := by
  unfold obsA
  rw [h.1, if_neg Bool.false_ne_true]
  have : (List.range c.length).findSome? (badI c) = none := List.findSome?_eq_none_iff.mpr fun i hi => h.2 i (List.mem_range.mp hi)
  rw [this]
  rfl
theorem obsA_none {c : List Y.Run} (h : isNone (.d (obsA c)) = true) : App c := by
  unfold obsA at h
  by_cases hs : startBad c = true
  · rw [if_pos hs] at h
    cases h
  · rw [if_neg hs] at h
    refine ⟨by simpa using hs, fun i hi => ?_⟩
    cases e : (List.range c.length).findSome? (badI c) with
    | none => exact List.findSome?_eq_none_iff.mp e i (List.mem_range.mpr hi)
    | some d =>
      rw [e] at h
      obtain ⟨j, _, hj⟩ := List.exists_of_findSome?_eq_some e
      have := badI_some hj
      rw [show (some d).getD PyData.none = d from rfl, this] at h
      cases h
theorem obsA_at {c : List Y.Run} {i : Nat} {d : PyData} (hs : startBad c = false) (hi : i < c.length) (hb : ∀ j < i, badI c j = none) (h : badI c i = some d) : obsA c = d := by
  unfold obsA
  rw [hs, if_neg Bool.false_ne_true]
  have e : (List.range c.length).findSome? (badI c) = some d := by
    rw [List.findSome?_eq_some_iff]
    refine ⟨List.range i, i, (List.range (c.length - (i + 1))).map (fun k => i + 1 + k), ?_, h, fun j hj => hb j (List.mem_range.mp hj)⟩
    have e1 : c.length = (i + 1) + (c.length - (i + 1)) := by omega
    rw [show List.range c.length = List.range ((i + 1) + (c.length - (i + 1))) from by rw [← e1], List.range_add, List.range_succ, List.append_assoc]
    rfl
  rw [e]
  rfl
instance (c : List Y.Run) : Decidable (App c) := inferInstanceAs (Decidable (_ ∧ _))
section
variable {P : Program} {w : World} {K : PySem.W.Frag} {mg : Str → Option Value} {base : Heap}

local macro_rules | `(tactic| walk_at "nm") => `(tactic| first | ((with_reducible refine de_name (x := "runs") (i := 0) (s := ?s) ?hN ?hv ?ht ?q ?hd ?hcd); (case hN => rfl); (case hv => walk_at "vis"); (case ht => rfl); (case hd => decide); (case hcd => decide)) | ((with_reducible refine de_name (x := "latest") (i := 1) (s := ?s) ?hN ?hv ?ht ?q ?hd ?hcd); (case hN => rfl); (case hv => walk_at "vis"); (case ht => rfl); (case hd => decide); (case hcd => decide)) | ((with_reducible refine de_name (x := "index") (i := 2) (s := ?s) ?hN ?hv ?ht ?q ?hd ?hcd); (case hN => rfl); (case hv => walk_at "vis"); (case ht => rfl); (case hd => decide); (case hcd => decide)) | ((with_reducible refine de_name (x := "writer") (i := 3) (s := ?s) ?hN ?hv ?ht ?q ?hd ?hcd); (case hN => rfl); (case hv => walk_at "vis"); (case ht => rfl); (case hd => decide); (case hcd => decide)) | ((with_reducible refine de_name (x := "first") (i := 4) (s := ?s) ?hN ?hv ?ht ?q ?hd ?hcd); (case hN => rfl); (case hv => walk_at "vis"); (case ht => rfl); (case hd => decide); (case hcd => decide)) | ((with_reducible refine de_name (x := "last") (i := 5) (s := ?s) ?hN ?hv ?ht ?q ?hd ?hcd); (case hN => rfl); (case hv => walk_at "vis"); (case ht => rfl); (case hd => decide); (case hcd => decide)))


def R_appearing : Rr := fun _ ss M Q => ∃ s c, ss = [s] ∧ isTup s = false ∧ seqOf M s = some (c.map sRun) ∧ c.length < 1000000 ∧ Q (.d (obsA c)) M
theorem ok_appearing_obstruction (F : FunAt K mg "appearing_obstruction" s_appearing_obstruction ["runs"]) (b1 : mg "enumerate" = none) : Cal P w K mg base "appearing_obstruction" 1 ["runs"] R_appearing := by
  refine cal_of F sc_appearing_obstruction (fun _ ss _ _ ⟨s, c, h, _⟩ => by rw [h]; rfl) (fun f cdv A outer s H E L ss M Q hr h => ?_)
  obtain ⟨x, c, rfl, hT, hs, hl, q⟩ := h
  have tru : truOf M x = some (!c.isEmpty) := by
    have e : truOf M x = (seqOf M x).map fun ss => !ss.isEmpty := by
      cases x with
      | d y => cases y <;> first | rfl | (cases hs; done)
      | _ => rfl
    rw [e, hs]
    show some (!(c.map sRun).isEmpty) = _
    cases c <;> rfl
  refine db_cons (ds_ifB (startBad c) (dt_and2 (dt_tru ?_)) (fun h1 => db_cons (ds_ret (de_tupD (da_cons (de_str (da_nil ⟨[.str "start"], rfl, (by show 1 ≤ sizeLine; decide), ?_⟩)))))) fun h1 => db_nil ?_)
  · walk_at "nm"
    refine ⟨_, tru, fun hk => ?_, fun hk => ?_⟩
    · cases c with
      | nil => cases hk
      | cons r c =>
        refine dt_cmp op_ne (de_ix (de_ix ?_)) (by with_unfolding_all rfl)
        walk_at "nm"
        refine de_int ⟨_, ((0 : Nat) : Int), sRun r, hs, rfl, atI_nat rfl, de_int ⟨_, _, dI r.2.1, rfl, rfl, rfl, de_int (k_neI ⟨_, rfl, rfl, rfl⟩)⟩⟩
    · cases c with
      | nil => exact ⟨rfl, rfl⟩
      | cons r c => cases hk
  · have : obsA c = .tuple [.str "start"] := by unfold obsA; rw [h1, if_pos rfl]
    rw [← this]
    exact q
  refine db_cons (ds_set (i := 1) sc_appearing_obstruction.nd rfl (.inl rfl) (de_dictC fun p hp => ?_))
  refine db_cons (ds_for PassesOwn.never rfl (di_enum (by rfl) b1 ?_))
  walk_at "nm"
  refine ⟨c.map sRun, hT, seqOf_updC hs hp, ?_⟩
  refine ⟨fun i τ' M' => ∃ y2 y3 y4 y5, τ' = [some x, some (.c p), y2, y3, y4, y5] ∧ M' = updC M p (.k (slK (kdC (latC [] (c.take i))))) ∧ ∀ j < i, badI c j = none, ⟨none, none, none, none, rfl, rfl, fun j hj => absurd hj (Nat.not_lt_zero j)⟩, ?_, ?_, ?_⟩
  · rintro i τ' M' ⟨y2, y3, y4, y5, rfl, rfl, _⟩
    exact seqOf_updC hs hp
  · rintro i y τ' M' hi ⟨z, hz, rfl⟩ ⟨y2, y3, y4, y5, rfl, rfl, hb⟩
    rw [List.length_map] at hi
    have hz' : z = sRun c[i] := by
      rw [List.getElem?_map, List.getElem?_eq_getElem hi] at hz
      exact (Option.some.inj hz).symm
    subst hz'
    have hbi : badI c i = badAt c i c[i] := by unfold badI; rw [List.getElem?_eq_getElem hi]; rfl
    have hlat : ((valS (slK (kdC (latC [] (c.take i)))) (.inr c[i].1)).getD (.d (.int 0))) = dI (lastN (c.take i) c[i].1) := by
      rw [valS_C]
      unfold lastN
      cases getC (latC [] (c.take i)) c[i].1 <;> rfl
    refine dg_of (pg_tup rfl (pgs_cons (pg_name (i := 2) sc_appearing_obstruction.nd rfl (.inl rfl)) (pgs_cons (pg_tup rfl (pgs_cons (pg_name (i := 3) sc_appearing_obstruction.nd rfl (.inl rfl)) (pgs_cons (pg_name (i := 4) sc_appearing_obstruction.nd rfl (.inl rfl)) (pgs_cons (pg_name (i := 5) sc_appearing_obstruction.nd rfl (.inl rfl)) pgs_nil)))) pgs_nil)))
      (wg_tup rfl rfl rfl (wgs_cons (wg_name (wgs_cons (wg_tup rfl rfl rfl (wgs_cons (wg_name (wgs_cons (wg_name (wgs_cons (wg_name (wgs_nil (wgs_nil ?_)))))))))))))
    refine db_cons (ds_if (dt_cmp op_le ?_ (by with_unfolding_all rfl)))
    walk_at "nm"
    refine de_dget2 (hu_of hr) ?_
    walk_at "nm"
    refine ⟨⟨_, .c updC_same⟩, ?_⟩
    walk_at "nm"
    refine de_int ⟨_, .inr c[i].1, .c updC_same, rfl, ?_⟩
    rw [hlat]
    refine k_bool ⟨_, rfl, fun h2 => ?_, fun h2 => db_nil ?_⟩
    · have h2 := of_decide_eq_true h2
      have hd : badI c i = some (.tuple [.str "decreasing", .int (i : Int)]) := by rw [hbi]; unfold badAt; rw [if_pos h2]
      refine db_cons (ds_ret (de_gc (de_tupD (da_cons (de_str (da_cons ?_))))))
      walk_at "nm"
      refine da_nil ⟨[.str "decreasing", .int (i : Int)], rfl, (by show 2 ≤ sizeLine; decide), M, (Sub.refl M).new hp, ?_⟩
      rw [← obsA_at h1 hi hb hd]
      exact q
    have h2 := of_decide_eq_false h2
    have prev : ∀ h : 0 < i, ∃ r', c[i - 1]? = some r' := fun h => ⟨c[i - 1], List.getElem?_eq_getElem (by omega)⟩
    refine db_cons (ds_if (dt_and2 (dt_cmp op_gt ?_ (by with_unfolding_all rfl))))
    walk_at "nm"
    refine de_int (k_bool ⟨_, rfl, fun h3 => dt_cmp op_eq (de_ix (de_ix ?_)) (by with_unfolding_all rfl), fun h3 => ⟨no1, fun _ => db_nil ?_⟩⟩)
    · have h3 : 0 < i := by have := of_decide_eq_true h3; omega
      obtain ⟨r', hr'⟩ := prev h3
      walk_at "nm"
      refine de_sub ?_
      walk_at "go"
      refine ⟨c.map sRun, ((i - 1 : Nat) : Int), sRun r', seqOf_updC hs hp, (by rw [show ((i : Nat) : Int) - 1 = ((i - 1 : Nat) : Int) by omega]), atI_nat (by rw [List.getElem?_map, hr']; rfl), de_int ⟨_, _, dS r'.1, rfl, rfl, rfl, ?_⟩⟩
      walk_at "nm"
      refine k_eqS ⟨_, rfl, fun h4 => ?_, fun h4 => db_nil ?_⟩
      · have h4 := of_decide_eq_true h4
        have hd : badI c i = some (.tuple [.str "split", .int (i : Int)]) := by
          rw [hbi]
          unfold badAt
          rw [if_neg h2, if_pos ⟨h3, by rw [hr', ← h4]; rfl⟩]
        refine db_cons (ds_ret (de_gc (de_tupD (da_cons (de_str (da_cons ?_))))))
        walk_at "nm"
        refine da_nil ⟨[.str "split", .int (i : Int)], rfl, (by show 2 ≤ sizeLine; decide), M, (Sub.refl M).new hp, ?_⟩
        rw [← obsA_at h1 hi hb hd]
        exact q
      have h4 := of_decide_eq_false h4
      have hn : badI c i = none := by
        rw [hbi]
        unfold badAt
        rw [if_neg h2, if_neg]
        rintro ⟨_, z⟩
        rw [hr'] at z
        exact h4 (Option.some.inj z)
      refine db_cons (ds_dput (hu_of hr) ?_)
      walk_at "nm"
      walk_at "nm"
      walk_at "nm"
      refine ⟨p, _, .inr c[i].1, rfl, updC_same, rfl, ?_, db_nil ⟨_, _, _, _, rfl, ?_, fun j hj => ?_⟩⟩
      · have := latC_len [] (c.take i)
        rw [List.length_take, List.length_nil] at this
        unfold slK kdC
        rw [List.length_map, List.length_map, sizeLine_eq]
        omega
      · rw [show (Sl.d (PyData.int c[i].2.2)) = dI c[i].2.2 from rfl, putS_put, updC_updC, latC_take [] hi]
      · rcases Nat.lt_succ_iff_lt_or_eq.mp hj with z | z
        · exact hb j z
        · rw [z]; exact hn
    · have h3 : ¬ 0 < i := by have := of_decide_eq_false h3; omega
      have hn : badI c i = none := by
        rw [hbi]
        unfold badAt
        rw [if_neg h2, if_neg (fun z => h3 z.1)]
      refine db_cons (ds_dput (hu_of hr) ?_)
      walk_at "nm"
      walk_at "nm"
      walk_at "nm"
      refine ⟨p, _, .inr c[i].1, rfl, updC_same, rfl, ?_, db_nil ⟨_, _, _, _, rfl, ?_, fun j hj => ?_⟩⟩
      · have := latC_len [] (c.take i)
        rw [List.length_take, List.length_nil] at this
        unfold slK kdC
        rw [List.length_map, List.length_map, sizeLine_eq]
        omega
      · rw [show (Sl.d (PyData.int c[i].2.2)) = dI c[i].2.2 from rfl, putS_put, updC_updC, latC_take [] hi]
      · rcases Nat.lt_succ_iff_lt_or_eq.mp hj with z | z
        · exact hb j z
        · rw [z]; exact hn
  · rintro τ' M' ⟨y2, y3, y4, y5, rfl, rfl, hb⟩
    rw [List.length_map] at hb
    have e : obsA c = .none := obsA_app ⟨h1, hb⟩
    refine db_cons (ds_ret (de_gc (de_non ⟨M, (Sub.refl M).new hp, ?_⟩)))
    rw [← e]
    exact q

end

end Pg

namespace Pg
open PySem L2 Y PyProof.Rows

local macro_rules | `(tactic| walk_at "vis") => `(tactic| first | exact Or.inl rfl | exact Or.inr (Or.inl rfl) | exact Or.inr (Or.inr rfl))
local macro_rules | `(tactic| walk_at "e1") => `(tactic| first | walk_at "nm" | refine de_int ?_ | refine de_add ?_ | refine de_sub ?_ | refine de_str ?_ | refine de_non ?_ | refine de_bl ?_)
local macro_rules | `(tactic| walk_at "go") => `(tactic| repeat (first | ((with_reducible show DE _ _ _ _ _ _); walk_at "e1") | ((with_reducible show DA _ _ _ _ _ _); refine da_cons ?_) | refine ⟨_, _, rfl, rfl, ?_⟩))


def sumC (cs : Cnt) : Int := (cs.map (·.2)).sum
theorem sum_perm {a b : List Int} (h : a.Perm b) : a.sum = b.sum := by
  induction h with
  | nil => rfl
  | cons x _ ih => rw [List.sum_cons, List.sum_cons, ih]
  | swap x y l => rw [List.sum_cons, List.sum_cons, List.sum_cons, List.sum_cons]; omega
  | trans _ _ i1 i2 => exact i1.trans i2
/-- what final_obstruction answers -/
def finA (cs : Cnt) (c : List Y.Run) : PyData :=
  if c.isEmpty = true then (if 0 < sumC cs then .tuple [.str "empty"] else .none)
  else if isNone (.d (obsA c)) = false then obsA c
  else match c.getLast? with
    | some r => if r.2.2 ≠ (getC cs r.1).getD 0 then .tuple [.str "end"] else .none
    | none => .none
section
variable {P : Program} {w : World} {K : PySem.W.Frag} {mg : Str → Option Value} {base : Heap}

theorem okC_sorted {cs cs' : Cnt} {c : List Y.Run} (okc : okCnt cs) (hs' : Sorted cs cs') (ok : okC (some cs) c) : okC (some cs') c := ⟨fun r hr => by
    obtain ⟨o1, o2, o3, o4⟩ := ok.1 r hr
    exact ⟨o1, o2, o3, by show r.2.2 ≤ (getC cs' r.1).getD 0; rw [getC_perm hs'.1 okc.2.2.1]; exact o4⟩, ok.2⟩

local macro_rules | `(tactic| walk_at "nm") => `(tactic| first | ((with_reducible refine de_name (x := "line_counts") (i := 0) (s := ?s) ?hN ?hv ?ht ?q ?hd ?hcd); (case hN => rfl); (case hv => walk_at "vis"); (case ht => rfl); (case hd => decide); (case hcd => decide)) | ((with_reducible refine de_name (x := "content") (i := 1) (s := ?s) ?hN ?hv ?ht ?q ?hd ?hcd); (case hN => rfl); (case hv => walk_at "vis"); (case ht => rfl); (case hd => decide); (case hcd => decide)) | ((with_reducible refine de_name (x := "counts") (i := 2) (s := ?s) ?hN ?hv ?ht ?q ?hd ?hcd); (case hN => rfl); (case hv => walk_at "vis"); (case ht => rfl); (case hd => decide); (case hcd => decide)) | ((with_reducible refine de_name (x := "runs") (i := 3) (s := ?s) ?hN ?hv ?ht ?q ?hd ?hcd); (case hN => rfl); (case hv => walk_at "vis"); (case ht => rfl); (case hd => decide); (case hcd => decide)) | ((with_reducible refine de_name (x := "obstruction") (i := 4) (s := ?s) ?hN ?hv ?ht ?q ?hd ?hcd); (case hN => rfl); (case hv => walk_at "vis"); (case ht => rfl); (case hd => decide); (case hcd => decide)) | ((with_reducible refine de_name (x := "writer") (i := 5) (s := ?s) ?hN ?hv ?ht ?q ?hd ?hcd); (case hN => rfl); (case hv => walk_at "vis"); (case ht => rfl); (case hd => decide); (case hcd => decide)) | ((with_reducible refine de_name (x := "first") (i := 6) (s := ?s) ?hN ?hv ?ht ?q ?hd ?hcd); (case hN => rfl); (case hv => walk_at "vis"); (case ht => rfl); (case hd => decide); (case hcd => decide)) | ((with_reducible refine de_name (x := "last") (i := 7) (s := ?s) ?hN ?hv ?ht ?q ?hd ?hcd); (case hN => rfl); (case hv => walk_at "vis"); (case ht => rfl); (case hd => decide); (case hcd => decide)))


def R_final : Rr := fun L ss M Q => ∃ (cs : Cnt) (s : Sl) (c : List Y.Run), NoDK L ∧ ss = [.d (eCnt cs), s] ∧ okCnt cs ∧ LT M s (c.map sRun) ∧ okC (some cs) c ∧ c.length < 1000000 ∧ Q (.d (finA cs c)) M
theorem ok_final_obstruction (F : FunAt K mg "final_obstruction" s_final_obstruction ["line_counts", "content"]) (c1 : Cal P w K mg base "checked_line_counts" 4 ["value"] R_plain_line_counts) (c2 : Cal P w K mg base "checked_content" 6 ["line_counts", "value"] R_plain_content) (c3 : Cal P w K mg base "appearing_obstruction" 1 ["runs"] R_appearing) (b1 : mg "sum" = none) : Cal P w K mg base "final_obstruction" 7 ["line_counts", "content"] R_final := by
  refine cal_of F sc_final_obstruction (fun _ ss _ _ ⟨cs, s, c, _, h, _⟩ => by rw [h]; rfl) (fun f cdv A outer s H E L ss M Q hr h => ?_)
  obtain ⟨cs, x, c, hL, rfl, okc, lt, ok, hl, q⟩ := h
  refine db_cons (ds_set (i := 2) sc_final_obstruction.nd rfl (.inl rfl) (de_callC (c1.up (by decide)) hr (by rfl) ?_))
  walk_at "go"
  refine da_nil ⟨cs, hL, rfl, okc, fun cs' hs' => ?_⟩
  refine db_cons (ds_set (i := 3) sc_final_obstruction.nd rfl (.inl rfl) (de_callC c2 hr (by rfl) ?_))
  walk_at "go"
  refine da_nil ⟨some cs', x, c, rfl, lt, okC_sorted okc hs' ok, hl, fun p hp => ?_⟩
  have sub_M1 : Sub M (updC M p (.l (c.map sRun))) := (Sub.refl _).new hp
  have m_p : updC M p (.l (c.map sRun)) p = some (.l (c.map sRun)) := updC_same
  generalize updC M p (.l (c.map sRun)) = M1 at sub_M1 m_p
  have s1 : seqOf M1 (.c p) = some (c.map sRun) := by simp only [seqOf, m_p]
  have tru : truOf M1 (.c p) = some (!c.isEmpty) := by
    show ((seqOf M1 (.c p)).map fun ss => !ss.isEmpty) = _
    rw [s1]
    cases c <;> rfl
  refine db_cons (ds_if (dt_not (dt_tru ?_)))
  walk_at "nm"
  refine ⟨_, tru, fun he => ?_, fun he => db_nil ?_⟩
  · have he : c.isEmpty = true := by simpa using he
    have e1 : finA cs c = (if 0 < sumC cs then .tuple [.str "empty"] else .none) := by unfold finA; rw [if_pos he]
    rw [e1] at q
    refine db_cons (ds_ret (de_gc (de_if (dt_cmp op_gt (de_sumV rfl (by rfl) b1 ?_) (by with_unfolding_all rfl)))))
    walk_at "nm"
    refine ⟨slK (kdC cs'), cs'.map (·.2), .d _, ?_, de_int (k_bool ⟨_, rfl, fun h => ?_, fun h => de_non ⟨M, sub_M1, ?_⟩⟩)⟩
    · unfold slK kdC
      rw [List.map_map, List.map_map, List.map_map]
      rfl
    · have h := of_decide_eq_true h
      rw [sum_perm (hs'.1.map (·.2))] at h
      have h : 0 < sumC cs := h
      rw [if_pos h] at q
      exact de_tupD (da_cons (de_str (da_nil ⟨[.str "empty"], rfl, (by show 1 ≤ sizeLine; decide), M, sub_M1, q⟩)))
    · have h := of_decide_eq_false h
      rw [sum_perm (hs'.1.map (·.2))] at h
      have h : ¬ 0 < sumC cs := h
      rw [if_neg h] at q
      exact q
  have he : c.isEmpty = false := by simpa using he
  have hne : c ≠ [] := fun e => by rw [e] at he; cases he
  refine db_cons (ds_set (i := 4) sc_final_obstruction.nd rfl (.inl rfl) (de_callC (c3.up (by decide)) hr (by rfl) ?_))
  walk_at "go"
  refine da_nil ⟨.c p, c, rfl, rfl, s1, hl, ?_⟩
  have e2 : finA cs c = if isNone (.d (obsA c)) = false then obsA c else match c.getLast? with
    | some r => if r.2.2 ≠ (getC cs r.1).getD 0 then .tuple [.str "end"] else .none
    | none => .none := by
    unfold finA
    rw [if_neg (by rw [he]; exact Bool.false_ne_true)]
  rw [e2] at q
  refine db_cons (ds_if (dt_cmp op_notN ?_ (nomark _)))
  walk_at "nm"
  refine de_non (k_notN ⟨_, rfl, fun h => ?_, fun h => db_nil ?_⟩)
  · have h : isNone (.d (obsA c)) = false := by simpa using h
    rw [if_pos h] at q
    refine db_cons (ds_ret (de_gc ?_))
    walk_at "nm"
    exact ⟨M, sub_M1, q⟩
  have h : isNone (.d (obsA c)) = true := by simpa using h
  rw [if_neg (by rw [h]; exact fun z => (nomatch z))] at q
  have hgl : c.getLast? = some (c.getLast hne) := List.getLast?_eq_some_getLast hne
  generalize c.getLast hne = r at hgl
  rw [hgl] at q
  have hlS : (c.map sRun).getLast? = some (sRun r) := by rw [List.getLast?_map, hgl]; rfl
  obtain ⟨o1, o2, o3, o4⟩ := ok.1 r (List.mem_of_getLast? hgl)
  have o4 : r.2.2 ≤ (getC cs r.1).getD 0 := o4
  have gp := getC_perm hs'.1 okc.2.2.1
  obtain ⟨v, hv⟩ : ∃ v, getC cs r.1 = some v := by
    cases e : getC cs r.1 with
    | none => rw [e] at o4; have o4 : r.2.2 ≤ 0 := o4; omega
    | some v => exact ⟨v, rfl⟩
  have q : Q (.d (if r.2.2 ≠ (getC cs r.1).getD 0 then .tuple [.str "end"] else .none)) M := q
  rw [hv] at q
  refine db_cons (ds_asg (de_ix ?_))
  walk_at "nm"
  refine de_neg (de_int ⟨1, rfl, c.map sRun, _, sRun r, s1, rfl, atI_l hlS, ?_⟩)
  refine dg_of (pg_tup rfl (pgs_cons (pg_name (i := 5) sc_final_obstruction.nd rfl (.inl rfl)) (pgs_cons (pg_name (i := 6) sc_final_obstruction.nd rfl (.inl rfl)) (pgs_cons (pg_name (i := 7) sc_final_obstruction.nd rfl (.inl rfl)) pgs_nil)))) (wg_tup rfl rfl rfl (wgs_cons (wg_name (wgs_cons (wg_name (wgs_cons (wg_name (wgs_nil ?_))))))))
  refine db_cons (ds_ret (de_gc (de_if (dt_cmp op_ne ?_ (by with_unfolding_all rfl)))))
  walk_at "nm"
  refine de_dget (hu_of hr) ?_
  walk_at "nm"
  walk_at "nm"
  refine ⟨_, .inr r.1, dI v, .d (kdC cs'), rfl, by rw [valS_C, gp, hv]; rfl, k_neI ⟨_, rfl, fun h => ?_, fun h => de_non ⟨M, sub_M1, ?_⟩⟩⟩
  · have h : r.2.2 ≠ v := by simpa using h
    have q : Q (.d (if r.2.2 ≠ v then .tuple [.str "end"] else .none)) M := q
    rw [if_pos h] at q
    exact de_tupD (da_cons (de_str (da_nil ⟨[.str "end"], rfl, (by show 1 ≤ sizeLine; decide), M, sub_M1, q⟩)))
  · have h : ¬ r.2.2 ≠ v := by simpa using h
    have q : Q (.d (if r.2.2 ≠ v then .tuple [.str "end"] else .none)) M := q
    rw [if_neg h] at q
    exact q

end

end Pg

namespace Pg
open PySem L2 Y PyProof.Rows

local macro_rules | `(tactic| walk_at "vis") => `(tactic| first | exact Or.inl rfl | exact Or.inr (Or.inl rfl) | exact Or.inr (Or.inr rfl))
local macro_rules | `(tactic| walk_at "e1") => `(tactic| first | walk_at "nm" | refine de_int ?_ | refine de_add ?_ | refine de_sub ?_ | refine de_str ?_ | refine de_non ?_ | refine de_bl ?_)
local macro_rules | `(tactic| walk_at "go") => `(tactic| repeat (first | ((with_reducible show DE _ _ _ _ _ _); walk_at "e1") | ((with_reducible show DA _ _ _ _ _ _); refine da_cons ?_) | refine ⟨_, _, rfl, rfl, ?_⟩))


theorem sub_put {A B : Cs} {p : Addr} {c : Cell} (h : Sub A B) (hp : A p = none) : Sub A (updC B p c) := fun b d e => by
  rw [updC_ne (neC e hp)]
  exact h b d e
abbrev Gap := Str × Int × Int × Int × Int
def eGap (g : Gap) : PyData := .tuple [.str g.1, .int g.2.1, .int g.2.2.1, .int g.2.2.2.1, .int g.2.2.2.2]
def sGap (g : Gap) : Sl := .d (eGap g)
/-- dicts from names to two numbers -/
abbrev CntP := List (Str × Int × Int)
def e2 (p : Int × Int) : PyData := .tuple [.int p.1, .int p.2]
def kdP (cs : CntP) : List (Key × PyData) := cs.map fun p => (.inr p.1, e2 p.2)
def getP (cs : CntP) (z : Str) : Option (Int × Int) := (cs.find? fun p => decide (p.1 = z)).map (·.2)
def putP (cs : CntP) (z : Str) (v : Int × Int) : CntP := if (cs.any fun p => decide (p.1 = z)) = true then cs.map (fun p => if p.1 = z then (p.1, v) else p) else cs ++ [(z, v)]
theorem valS_P (z : Str) : ∀ cs : CntP, valS (slK (kdP cs)) (.inr z) = (getP cs z).map fun p => .d (e2 p)
  | [] => rfl
  | p :: r => by
    have ih := valS_P z r
    unfold valS slK kdP getP at ih ⊢
    rw [List.map_cons, List.map_cons, List.find?_cons, List.find?_cons]
    by_cases e : p.1 = z
    · rw [show decide ((Sum.inr p.1 : Key) = Sum.inr z) = true from decide_eq_true (by rw [e]), show decide (p.1 = z) = true from decide_eq_true e]
      rfl
    · rw [show decide ((Sum.inr p.1 : Key) = Sum.inr z) = false from decide_eq_false (fun q => e (Sum.inr.inj q)), show decide (p.1 = z) = false from decide_eq_false e]
      exact ih
theorem putS_P (cs : CntP) (z : Str) (v : Int × Int) : putS (slK (kdP cs)) (.inr z) (.d (e2 v)) = slK (kdP (putP cs z v)) := by
  have e : ((slK (kdP cs)).any fun kv => decide (kv.1 = Sum.inr z)) = cs.any fun p => decide (p.1 = z) := by
    unfold slK kdP
    rw [List.map_map, List.any_map]
    congr 1
    funext p
    show decide ((Sum.inr p.1 : Key) = Sum.inr z) = decide (p.1 = z)
    by_cases h : p.1 = z
    · rw [decide_eq_true (show (Sum.inr p.1 : Key) = Sum.inr z by rw [h]), decide_eq_true h]
    · rw [decide_eq_false (fun q => h (Sum.inr.inj q)), decide_eq_false h]
  unfold putS putP
  rw [e]
  split
  · unfold slK kdP
    rw [List.map_map, List.map_map, List.map_map, List.map_map]
    refine List.map_congr_left fun p _ => ?_
    show (if (Sum.inr p.1 : Key) = Sum.inr z then ((Sum.inr p.1 : Key), Sl.d (e2 v)) else ((Sum.inr p.1 : Key), Sl.d (e2 p.2))) = _
    by_cases h : p.1 = z
    · rw [if_pos (by rw [h])]
      show _ = ((Sum.inr (if p.1 = z then (p.1, v) else p).1 : Key), Sl.d (e2 (if p.1 = z then (p.1, v) else p).2))
      rw [if_pos h]
    · rw [if_neg (fun q => h (Sum.inr.inj q))]
      show _ = ((Sum.inr (if p.1 = z then (p.1, v) else p).1 : Key), Sl.d (e2 (if p.1 = z then (p.1, v) else p).2))
      rw [if_neg h]
  · unfold slK kdP
    rw [List.map_append, List.map_append]
    rfl
/-- a writer's last number and its index, after some runs -/
def stAt (c : List Y.Run) : Nat → Str → Int × Int
  | 0, _ => (0, -1)
  | i + 1, z => match c[i]? with
    | some r => if r.1 = z then (r.2.2, (i : Int)) else stAt c i z
    | none => stAt c i z
def tabP (cs : Cnt) (c : List Y.Run) (i : Nat) : CntP := cs.map fun p => (p.1, stAt c i p.1)
theorem tabP_get (c : List Y.Run) (i : Nat) : ∀ (cs : Cnt) (z : Str), getP (tabP cs c i) z = (getC cs z).map fun _ => stAt c i z
  | [], _ => rfl
  | p :: r, z => by
    have ih := tabP_get c i r z
    unfold getP tabP getC at ih ⊢
    rw [List.map_cons, List.find?_cons, List.find?_cons]
    by_cases e : p.1 = z
    · rw [show decide (p.1 = z) = true from decide_eq_true e]
      show some (stAt c i p.1) = some (stAt c i z)
      rw [e]
    · rw [show decide (p.1 = z) = false from decide_eq_false e]
      exact ih
theorem tabP_put {cs : Cnt} {c : List Y.Run} {i : Nat} {r : Y.Run} (h : c[i]? = some r) (hz : r.1 ∈ cs.map (·.1)) : putP (tabP cs c i) r.1 (r.2.2, (i : Int)) = tabP cs c (i + 1) := by
  have hany : ((tabP cs c i).any fun p => decide (p.1 = r.1)) = true := by
    obtain ⟨p, hp, e⟩ := List.mem_map.mp hz
    exact List.any_eq_true.mpr ⟨(p.1, stAt c i p.1), List.mem_map.mpr ⟨p, hp, rfl⟩, decide_eq_true e⟩
  unfold putP
  rw [if_pos hany]
  unfold tabP
  rw [List.map_map]
  refine List.map_congr_left fun p _ => ?_
  show (if p.1 = r.1 then (p.1, r.2.2, (i : Int)) else (p.1, stAt c i p.1)) = (p.1, stAt c (i + 1) p.1)
  have e2 : stAt c (i + 1) p.1 = if r.1 = p.1 then (r.2.2, (i : Int)) else stAt c i p.1 := by
    show (match c[i]? with
      | some r => if r.1 = p.1 then (r.2.2, (i : Int)) else stAt c i p.1
      | none => stAt c i p.1) = _
    rw [h]
  rw [e2]
  by_cases e : p.1 = r.1
  · rw [if_pos e, if_pos e.symm]
  · rw [if_neg e, if_neg (fun q => e q.symm)]
def emA (c : List Y.Run) (i : Nat) : List Gap := match c[i]? with
  | some r => if (stAt c i r.1).1 + 1 < r.2.1 then [(r.1, (stAt c i r.1).1 + 1, r.2.1 - 1, (stAt c i r.1).2 + 1, (i : Int) - 1)] else []
  | none => []
def rawA (c : List Y.Run) (i : Nat) : List Gap := (List.range i).flatMap (emA c)
def tlA (c : List Y.Run) (p : Str × Int) : List Gap := if (stAt c c.length p.1).1 < p.2 then [(p.1, (stAt c c.length p.1).1 + 1, p.2, (stAt c c.length p.1).2 + 1, (c.length : Int) - 1)] else []
def rawAll (cs : Cnt) (c : List Y.Run) : List Gap := rawA c c.length ++ cs.flatMap (tlA c)
def gapsA (cs : Cnt) (c : List Y.Run) : List Gap := (rawAll cs c).mergeSort (PySem.W.dataLe false eGap)
theorem rawA_succ (c : List Y.Run) (i : Nat) : rawA c (i + 1) = rawA c i ++ emA c i := by
  unfold rawA
  rw [List.range_succ, List.flatMap_append]
  simp
theorem rawA_len (c : List Y.Run) : ∀ i, (rawA c i).length ≤ i
  | 0 => Nat.le_refl 0
  | i + 1 => by
    rw [rawA_succ, List.length_append]
    have := rawA_len c i
    have : (emA c i).length ≤ 1 := by
      unfold emA
      split
      · split
        · exact Nat.le_refl 1
        · exact Nat.zero_le 1
      · exact Nat.zero_le 1
    omega
theorem tlA_len (c : List Y.Run) : ∀ cs : Cnt, (cs.flatMap (tlA c)).length ≤ cs.length
  | [] => Nat.le_refl 0
  | p :: r => by
    rw [List.flatMap_cons, List.length_append, List.length_cons]
    have := tlA_len c r
    have : (tlA c p).length ≤ 1 := by
      unfold tlA
      split
      · exact Nat.le_refl 1
      · exact Nat.zero_le 1
    omega
theorem rawAll_name {cs : Cnt} {c : List Y.Run} (hin : ∀ r ∈ c, r.1 ∈ cs.map (·.1)) : ∀ g ∈ rawAll cs c, g.1 ∈ cs.map (·.1) := fun g hg => by
  rcases List.mem_append.mp hg with hg | hg
  · obtain ⟨i, _, hi⟩ := List.mem_flatMap.mp hg
    unfold emA at hi
    split at hi
    · next r hr =>
      split at hi
      · rw [List.mem_singleton.mp hi]
        exact hin r (List.mem_of_getElem? hr)
      · cases hi
    · cases hi
  · obtain ⟨p, hp, hi⟩ := List.mem_flatMap.mp hg
    unfold tlA at hi
    split at hi
    · rw [List.mem_singleton.mp hi]
      exact List.mem_map_of_mem hp
    · cases hi
theorem gap_alike (bs : List Gap) : PySem.W.AllAlike (bs.map eGap) := fun d hd d' hd' => by
  obtain ⟨a, _, rfl⟩ := List.mem_map.mp hd
  obtain ⟨b, _, rfl⟩ := List.mem_map.mp hd'
  unfold eGap
  simp [PySem.W.alike, PySem.W.alikeAll]
theorem gap_sortable (bs : List Gap) : PySem.W.Sortable (bs.map eGap) := .inl fun d hd => by
  obtain ⟨a, _, rfl⟩ := List.mem_map.mp hd
  exact ⟨_, _, rfl⟩
theorem can_gap {g : Gap} (h : okName g.1 = true) : (eGap g).canLay0 = true := by
  show (PyData.strOk g.1 && (true && (true && (true && (true && true))))) = true
  rw [strOk_name h]
  rfl
theorem depth_gap (g : Gap) : (eGap g).depth ≤ 50 := by
  unfold eGap
  simp [PyData.depth, PyData.depthAll]
section
variable {P : Program} {w : World} {K : PySem.W.Frag} {mg : Str → Option Value} {base : Heap}

local macro_rules | `(tactic| walk_at "nm") => `(tactic| first | ((with_reducible refine de_name (x := "counts") (i := 0) (s := ?s) ?hN ?hv ?ht ?q ?hd ?hcd); (case hN => rfl); (case hv => walk_at "vis"); (case ht => rfl); (case hd => decide); (case hcd => decide)) | ((with_reducible refine de_name (x := "runs") (i := 1) (s := ?s) ?hN ?hv ?ht ?q ?hd ?hcd); (case hN => rfl); (case hv => walk_at "vis"); (case ht => rfl); (case hd => decide); (case hcd => decide)) | ((with_reducible refine de_name (x := "found") (i := 2) (s := ?s) ?hN ?hv ?ht ?q ?hd ?hcd); (case hN => rfl); (case hv => walk_at "vis"); (case ht => rfl); (case hd => decide); (case hcd => decide)) | ((with_reducible refine de_name (x := "latest") (i := 3) (s := ?s) ?hN ?hv ?ht ?q ?hd ?hcd); (case hN => rfl); (case hv => walk_at "vis"); (case ht => rfl); (case hd => decide); (case hcd => decide)) | ((with_reducible refine de_name (x := "index") (i := 4) (s := ?s) ?hN ?hv ?ht ?q ?hd ?hcd); (case hN => rfl); (case hv => walk_at "vis"); (case ht => rfl); (case hd => decide); (case hcd => decide)) | ((with_reducible refine de_name (x := "writer") (i := 5) (s := ?s) ?hN ?hv ?ht ?q ?hd ?hcd); (case hN => rfl); (case hv => walk_at "vis"); (case ht => rfl); (case hd => decide); (case hcd => decide)) | ((with_reducible refine de_name (x := "first") (i := 6) (s := ?s) ?hN ?hv ?ht ?q ?hd ?hcd); (case hN => rfl); (case hv => walk_at "vis"); (case ht => rfl); (case hd => decide); (case hcd => decide)) | ((with_reducible refine de_name (x := "last") (i := 7) (s := ?s) ?hN ?hv ?ht ?q ?hd ?hcd); (case hN => rfl); (case hv => walk_at "vis"); (case ht => rfl); (case hd => decide); (case hcd => decide)) | ((with_reducible refine de_name (x := "number") (i := 8) (s := ?s) ?hN ?hv ?ht ?q ?hd ?hcd); (case hN => rfl); (case hv => walk_at "vis"); (case ht => rfl); (case hd => decide); (case hcd => decide)) | ((with_reducible refine de_name (x := "before") (i := 9) (s := ?s) ?hN ?hv ?ht ?q ?hd ?hcd); (case hN => rfl); (case hv => walk_at "vis"); (case ht => rfl); (case hd => decide); (case hcd => decide)))


def R_gapsR : Rr := fun L ss M Q => ∃ (cs : Cnt) (s : Sl) (c : List Y.Run), NoDK L ∧ ss = [.d (eCnt cs), s] ∧ isTup s = false ∧ okCnt cs ∧ seqOf M s = some (c.map sRun) ∧ c.length < 1000000 ∧ (∀ r ∈ c, r.1 ∈ cs.map (·.1)) ∧ ∀ (p : Addr) (M' : Cs), Sub M M' → M p = none → M' p = some (.l ((gapsA cs c).map sGap)) → Q (.c p) M'
set_option maxHeartbeats 4000000 in
theorem ok_gaps_of_runs (F : FunAt K mg "gaps_of_runs" s_gaps_of_runs ["counts", "runs"]) (b1 : mg "enumerate" = none) (b2 : mg "len" = none) (b3 : mg "sorted" = none) : Cal P w K mg base "gaps_of_runs" 1 ["counts", "runs"] R_gapsR := by
  refine cal_of F sc_gaps_of_runs (fun _ ss _ _ ⟨cs, s, c, _, h, _⟩ => by rw [h]; rfl) (fun f cdv A outer s H E L us M Q hr h => ?_)
  obtain ⟨cs, x, c, hL, rfl, hT, okc, hs, hl, hin, fin⟩ := h
  obtain ⟨l1, l12, nd, okp⟩ := okc
  refine db_cons (ds_set (i := 2) sc_gaps_of_runs.nd rfl (.inl rfl) (de_lstC (da_nil ⟨Nat.zero_le _, fun pf hpf => ?_⟩)))
  have sub_M1 : Sub M (updC M pf (.l [])) := (Sub.refl _).new hpf
  have m_pf : updC M pf (.l []) pf = some (.l []) := updC_same
  generalize updC M pf (.l []) = M1 at sub_M1 m_pf
  have hs1 : seqOf M1 x = some (c.map sRun) := seqOf_sub hs sub_M1
  refine db_cons (ds_setDcKeys (j := 3) (i := 0) (kd := kdC cs) (own := [("writer", 5)]) (g := gName 5) rfl sc_gaps_of_runs.nd rfl rfl (by with_unfolding_all rfl) (blkOk_by (own := [("writer", 5)]) (N := ["counts", "runs", "found", "latest", "index", "writer", "first", "last", "number", "before"]) (sc := defScope s_gaps_of_runs) (by decide +kernel)) (fun _ _ _ _ _ => pg_name (i := 5) sc_gaps_of_runs.nd rfl (.inl rfl)) hL rfl (by walk_at "vis") rfl fun D hD => ?_)
  have hDM := sub_M1.none hD
  have nfD : pf ≠ D := neC m_pf hD
  refine ⟨fun n M' => M' = updC M1 D (.k (slK (kdP (tabP (cs.take n) c 0)))), rfl, fun x hx n k d M' hn hM => ?_, fun M' hM => ?_⟩
  · subst hM
    unfold kdC at hn
    rw [List.getElem?_map] at hn
    obtain ⟨pz, hpz, epz⟩ := Option.map_eq_some_iff.mp hn
    obtain ⟨hlt, hget⟩ := List.getElem?_eq_some_iff.mp hpz
    cases epz
    refine wgw_name (by simp) ?_
    intro s0 H0 C cl fp
    walk_at "nm"
    intro s0 H0 C cl fp
    refine de_tupD (da_cons (de_int (da_cons (de_neg (de_int ⟨1, rfl, ?_⟩)))))
    refine da_nil ⟨[.int 0, .int (-1)], rfl, (by show 2 ≤ sizeLine; decide), _, .inr pz.1, rfl, updC_same, ?_, ?_⟩
    · unfold slK kdP tabP
      rw [List.length_map, List.length_map, List.length_map, List.length_take, sizeLine_eq]
      omega
    · show updC _ _ _ = updC _ _ _
      rw [updC_updC, show (Sl.d (PyData.tuple [.int 0, .int (-1)])) = .d (e2 (0, -1)) from rfl, putS_P]
      congr 4
      unfold putP
      rw [if_neg]
      · unfold tabP
        rw [List.take_add_one, hpz, List.map_append]
        rfl
      · intro z
        obtain ⟨y, hy, ey⟩ := List.any_eq_true.mp z
        have ey := of_decide_eq_true ey
        obtain ⟨y', hy', ey'⟩ := List.mem_map.mp hy
        obtain ⟨j, hj, ej⟩ := List.getElem_of_mem hy'
        rw [List.getElem_take] at ej
        rw [List.length_take] at hj
        have hjn : j < n := by omega
        have ey2 : y'.1 = pz.1 := by rw [← ey, ← ey']
        have : cs[j].1 = cs[n].1 := by rw [ej, ey2, hget]
        have e2 : (cs.map (·.1))[j]'(by rw [List.length_map]; omega) = (cs.map (·.1))[n]'(by rw [List.length_map]; omega) := by rw [List.getElem_map, List.getElem_map, this]
        exact absurd ((List.getElem_inj nd).mp e2) (by omega)
  subst hM
  have hkl : (kdC cs).length = cs.length := by unfold kdC; rw [List.length_map]
  rw [hkl, List.take_length]
  have sub2 : Sub M (updC M1 D (.k (slK (kdP (tabP cs c 0))))) := sub_put sub_M1 hDM
  have m2f : updC M1 D (.k (slK (kdP (tabP cs c 0)))) pf = some (.l []) := by rw [updC_ne nfD]; exact m_pf
  have m2D : updC M1 D (.k (slK (kdP (tabP cs c 0)))) D = some (.k (slK (kdP (tabP cs c 0)))) := updC_same
  generalize updC M1 D (.k (slK (kdP (tabP cs c 0)))) = M2 at sub2 m2f m2D
  have hgetc : ∀ {z : Str}, z ∈ cs.map (·.1) → ∃ v, getC cs z = some v := fun {z} hz => by
    obtain ⟨p, hp, e⟩ := List.mem_map.mp hz
    exact ⟨p.2, by rw [← e]; exact getC_mem nd hp⟩
  refine db_cons (ds_for PassesOwn.never rfl (di_enum (by rfl) b1 ?_))
  walk_at "nm"
  refine ⟨c.map sRun, hT, seqOf_sub hs sub2, ?_⟩
  refine ⟨fun i τ' M' => ∃ (y4 y5 y6 y7 y8 y9 : Option Sl), τ' = [some (.d (eCnt cs)), some x, some (.c pf), some (.c D), y4, y5, y6, y7, y8, y9] ∧ Sub M M' ∧ M' pf = some (.l ((rawA c i).map sGap)) ∧ M' D = some (.k (slK (kdP (tabP cs c i)))), ⟨none, none, none, none, none, none, rfl, sub2, m2f, m2D⟩, ?_, ?_, ?_⟩
  · rintro i τ' M' ⟨y4, y5, y6, y7, y8, y9, rfl, sub3, _, _⟩
    exact seqOf_sub hs sub3
  · rintro i y τ' M3 hi ⟨z, hz, rfl⟩ ⟨y4, y5, y6, y7, y8, y9, rfl, sub3, m3f, m3D⟩
    rw [List.length_map] at hi
    have hz' : z = sRun c[i] := by
      rw [List.getElem?_map, List.getElem?_eq_getElem hi] at hz
      exact (Option.some.inj hz).symm
    subst hz'
    have hci : c[i]? = some c[i] := List.getElem?_eq_getElem hi
    have hrin := hin _ (List.getElem_mem hi)
    have hput := tabP_put hci hrin
    have hrl := rawA_len c i
    have hem : emA c i = (if (stAt c i c[i].1).1 + 1 < c[i].2.1 then [(c[i].1, (stAt c i c[i].1).1 + 1, c[i].2.1 - 1, (stAt c i c[i].1).2 + 1, (i : Int) - 1)] else []) := by
      unfold emA
      rw [hci]
    have hsucc := rawA_succ c i
    rw [hem] at hsucc
    generalize c[i] = r at hci hrin hput hsucc
    obtain ⟨v, hv⟩ := hgetc hrin
    have hval : valS (slK (kdP (tabP cs c i))) (.inr r.1) = some (.d (e2 (stAt c i r.1))) := by
      rw [valS_P, tabP_get, hv]
      rfl
    refine dg_of (pg_tup rfl (pgs_cons (pg_name (i := 4) sc_gaps_of_runs.nd rfl (.inl rfl)) (pgs_cons (pg_tup rfl (pgs_cons (pg_name (i := 5) sc_gaps_of_runs.nd rfl (.inl rfl)) (pgs_cons (pg_name (i := 6) sc_gaps_of_runs.nd rfl (.inl rfl)) (pgs_cons (pg_name (i := 7) sc_gaps_of_runs.nd rfl (.inl rfl)) pgs_nil)))) pgs_nil)))
      (wg_tup rfl rfl rfl (wgs_cons (wg_name (wgs_cons (wg_tup rfl rfl rfl (wgs_cons (wg_name (wgs_cons (wg_name (wgs_cons (wg_name (wgs_nil (wgs_nil ?_)))))))))))))
    refine db_cons (ds_asg (de_dget (hu_of hr) ?_))
    walk_at "nm"
    walk_at "nm"
    refine ⟨_, .inr r.1, .d (e2 (stAt c i r.1)), .c m3D, rfl, hval, ?_⟩
    generalize stAt c i r.1 = st at hsucc
    refine dg_of (pg_tup rfl (pgs_cons (pg_name (i := 8) sc_gaps_of_runs.nd rfl (.inl rfl)) (pgs_cons (pg_name (i := 9) sc_gaps_of_runs.nd rfl (.inl rfl)) pgs_nil))) (wg_tup rfl rfl rfl (wgs_cons (wg_name (wgs_cons (wg_name (wgs_nil ?_))))))
    refine db_consJ (fun τ' M' => τ' = [some (.d (eCnt cs)), some x, some (.c pf), some (.c D), some (dI i), some (dS r.1), some (dI r.2.1), some (dI r.2.2), some (dI st.1), some (dI st.2)] ∧ Sub M M' ∧ M' pf = some (.l ((rawA c (i + 1)).map sGap)) ∧ M' D = some (.k (slK (kdP (tabP cs c i))))) (ds_if (dt_cmp op_gt ?_ (by with_unfolding_all rfl))) ?_
    · walk_at "nm"
      refine de_add ?_
      walk_at "nm"
      refine de_int ⟨_, _, rfl, rfl, k_bool ⟨_, rfl, fun h => ?_, fun h => db_nil ⟨rfl, sub3, ?_, m3D⟩⟩⟩
      · have h := of_decide_eq_true h
        refine db_cons (ds_append ?_)
        walk_at "nm"
        refine ⟨⟨rfl, _, by simp only [seqOf, m3f]; rfl⟩, de_tupD (da_cons ?_)⟩
        walk_at "nm"
        refine da_cons (de_add ?_)
        walk_at "nm"
        refine de_int ⟨_, _, rfl, rfl, da_cons (de_sub ?_)⟩
        walk_at "nm"
        refine de_int ⟨_, _, rfl, rfl, da_cons (de_add ?_)⟩
        walk_at "nm"
        refine de_int ⟨_, _, rfl, rfl, da_cons (de_sub ?_)⟩
        walk_at "nm"
        refine de_int ⟨_, _, rfl, rfl, da_nil ⟨[.str r.1, .int (st.1 + 1), .int (r.2.1 - 1), .int (st.2 + 1), .int ((i : Int) - 1)], rfl, (by show 5 ≤ sizeLine; decide), pf, _, rfl, m3f, ?_, db_nil ⟨rfl, sub_put sub3 hpf, ?_, by rw [updC_ne nfD.symm]; exact m3D⟩⟩⟩
        · rw [List.length_map, sizeLine_eq]
          omega
        · rw [updC_same, hsucc, if_pos h, List.map_append]
          rfl
      · have h := of_decide_eq_false h
        rw [hsucc, if_neg h, List.append_nil]
        exact m3f
    rintro τ' M4 ⟨rfl, sub4, m4f, m4D⟩
    refine db_cons (ds_dput (hu_of hr) (de_tupD (da_cons ?_)))
    walk_at "nm"
    refine da_cons ?_
    walk_at "nm"
    refine da_nil ⟨[.int r.2.2, .int (i : Int)], rfl, (by show 2 ≤ sizeLine; decide), ?_⟩
    walk_at "nm"
    walk_at "nm"
    refine ⟨D, _, .inr r.1, rfl, m4D, rfl, ?_, db_nil ⟨_, _, _, _, _, _, rfl, sub_put sub4 hDM, by rw [updC_ne nfD]; exact m4f, ?_⟩⟩
    · unfold slK kdP tabP
      rw [List.length_map, List.length_map, List.length_map, sizeLine_eq]
      omega
    · rw [updC_same, show (Sl.d (PyData.tuple [.int r.2.2, .int (i : Int)])) = .d (e2 (r.2.2, (i : Int))) from rfl, putS_P, hput]
  rintro τ' M3 ⟨y4, y5, y6, y7, y8, y9, rfl, sub3, m3f, m3D⟩
  rw [List.length_map] at m3f m3D
  refine db_frzD (i := 3) (kd := kdP (tabP cs c c.length)) rfl m3D ?_
  have sub4 : Sub M (delC M3 D) := fun a d h => by
    rw [delC_ne (neC h hDM)]
    exact sub3 a d h
  have m4f : delC M3 D pf = some (.l ((rawA c c.length).map sGap)) := by rw [delC_ne nfD]; exact m3f
  generalize delC M3 D = M4 at sub4 m4f
  have hrl := rawA_len c c.length
  refine db_cons (ds_forItems (i := 3) (kd := kdP (tabP cs c c.length)) PassesOwn.never rfl hL rfl (by walk_at "vis") rfl (fun n τ' M' => ∃ (y4 y5 y6 y7 y8 y9 : Option Sl), τ' = [some (.d (eCnt cs)), some x, some (.c pf), some (.d (.dict (encK (kdP (tabP cs c c.length))))), y4, y5, y6, y7, y8, y9] ∧ Sub M M' ∧ M' pf = some (.l ((rawA c c.length ++ (cs.take n).flatMap (tlA c)).map sGap))) ⟨_, _, _, _, _, _, rfl, sub4, by rw [List.take_zero]; show _ = some (Cell.l ((rawA c c.length ++ []).map sGap)); rw [List.append_nil]; exact m4f⟩ ?_ ?_)
  · rintro x' ⟨xs, hx⟩ n k d τ' M5 hn ⟨y4, y5, y6, y7, y8, y9, rfl, sub5, m5f⟩
    have hn2 : ∃ z v, cs[n]? = some (z, v) ∧ k = .inr z ∧ d = e2 (stAt c c.length z) := by
      unfold kdP tabP at hn
      rw [List.getElem?_map, List.getElem?_map] at hn
      cases g : cs[n]? with
      | none => rw [g] at hn; cases hn
      | some p =>
        rw [g] at hn
        cases hn
        exact ⟨p.1, p.2, rfl, rfl, rfl⟩
    obtain ⟨z, v, hpz, rfl, rfl⟩ := hn2
    have hmem : (z, v) ∈ cs := List.mem_of_getElem? hpz
    have hget := getC_mem nd hmem
    have hfm : (cs.take (n + 1)).flatMap (tlA c) = (cs.take n).flatMap (tlA c) ++ tlA c (z, v) := by
      rw [List.take_add_one, hpz, List.flatMap_append]
      simp
    have htl := tlA_len c (cs.take n)
    rw [List.length_take] at htl
    have htz : tlA c (z, v) = (if (stAt c c.length z).1 < v then [(z, (stAt c c.length z).1 + 1, v, (stAt c c.length z).2 + 1, (c.length : Int) - 1)] else []) := rfl
    generalize stAt c c.length z = st at htz
    refine dg_of (pg_tup rfl (pgs_cons (pg_name (i := 5) sc_gaps_of_runs.nd rfl (.inl rfl)) (pgs_cons (pg_tup rfl (pgs_cons (pg_name (i := 8) sc_gaps_of_runs.nd rfl (.inl rfl)) (pgs_cons (pg_name (i := 9) sc_gaps_of_runs.nd rfl (.inl rfl)) pgs_nil))) pgs_nil)))
      (wg_tup rfl rfl rfl (wgs_cons (wg_name (wgs_cons (wg_tup rfl rfl rfl (wgs_cons (wg_name (wgs_cons (wg_name (wgs_nil (wgs_nil ?_)))))))))))
    refine db_cons (ds_if (dt_cmp op_lt ?_ (by with_unfolding_all rfl)))
    walk_at "nm"
    refine de_dget (hu_of hr) ?_
    walk_at "nm"
    walk_at "nm"
    refine ⟨_, .inr z, dI v, .d (kdC cs), rfl, by rw [valS_C, hget]; rfl, k_bool ⟨_, rfl, fun h => ?_, fun h => db_nil (db_nil ⟨_, _, _, _, _, _, rfl, sub5, ?_⟩)⟩⟩
    · have h := of_decide_eq_true h
      refine db_cons (ds_append ?_)
      walk_at "nm"
      refine ⟨⟨rfl, _, by simp only [seqOf, m5f]; rfl⟩, de_tupD (da_cons ?_)⟩
      walk_at "nm"
      refine da_cons (de_add ?_)
      walk_at "nm"
      refine de_int ⟨_, _, rfl, rfl, da_cons (de_dget (hu_of hr) ?_)⟩
      walk_at "nm"
      walk_at "nm"
      refine ⟨_, .inr z, dI v, .d (kdC cs), rfl, by rw [valS_C, hget]; rfl, da_cons (de_add ?_)⟩
      walk_at "nm"
      refine de_int ⟨_, _, rfl, rfl, da_cons (de_sub (de_callB call_len_seq (by rfl) b2 bt_len (da_cons ?_)))⟩
      walk_at "nm"
      refine da_nil (k_len (seqOf_sub hs sub5) (de_int ⟨_, _, rfl, rfl, da_nil ⟨[.str z, .int (st.1 + 1), .int v, .int (st.2 + 1), .int ((c.length : Int) - 1)], by rw [List.length_map]; rfl, (by show 5 ≤ sizeLine; decide), pf, _, rfl, m5f, ?_, db_nil (db_nil ⟨_, _, _, _, _, _, rfl, sub_put sub5 hpf, ?_⟩)⟩⟩))
      · rw [List.length_map, List.length_append, sizeLine_eq]
        omega
      · rw [updC_same, hfm, htz, if_pos h]
        simp only [List.map_append, List.map_cons, List.map_nil, List.append_assoc]
        rfl
    · have h := of_decide_eq_false h
      rw [hfm, htz, if_neg h, List.append_nil]
      exact m5f
  rintro τ' M5 ⟨y4, y5, y6, y7, y8, y9, rfl, sub5, m5f⟩
  have hkp : (kdP (tabP cs c c.length)).length = cs.length := by unfold kdP tabP; rw [List.length_map, List.length_map]
  rw [hkp, List.take_length] at m5f
  have m5f : M5 pf = some (.l ((rawAll cs c).map sGap)) := m5f
  have hnm := rawAll_name hin
  have hral : (rawAll cs c).length ≤ 1000012 := by
    unfold rawAll
    rw [List.length_append]
    have := tlA_len c cs
    omega
  refine db_cons (ds_ret (de_callB (cr_sortD (enc := eGap) (Nat.lt_of_le_of_lt (Nat.le_refl _) hr.units)) (by rfl) b3 bt_sorted (da_cons ?_)))
  walk_at "nm"
  refine da_nil (k_sortD (enc := eGap) rfl (by simp only [seqOf, m5f]; rfl) (gap_alike _) (gap_sortable _) (by rw [sizeLine_eq]; omega) (fun g hg => ?_) (fun g _ => depth_gap g) fun p hp => fin p _ (sub_put sub5 (sub5.none hp)) (sub5.none hp) ?_)
  · obtain ⟨q, hq, e⟩ := List.mem_map.mp (hnm g hg)
    refine can_gap ?_
    rw [← e]
    exact (okp q hq).1
  · rw [updC_same]
    rfl

end

end Pg

namespace Pg
open PySem L2 Y PyProof.Rows

local macro_rules | `(tactic| walk_at "vis") => `(tactic| first | exact Or.inl rfl | exact Or.inr (Or.inl rfl) | exact Or.inr (Or.inr rfl))
local macro_rules | `(tactic| walk_at "e1") => `(tactic| first | walk_at "nm" | refine de_int ?_ | refine de_add ?_ | refine de_sub ?_ | refine de_str ?_ | refine de_non ?_ | refine de_bl ?_)
local macro_rules | `(tactic| walk_at "go") => `(tactic| repeat (first | ((with_reducible show DE _ _ _ _ _ _); walk_at "e1") | ((with_reducible show DA _ _ _ _ _ _); refine da_cons ?_) | refine ⟨_, _, rfl, rfl, ?_⟩))


/-! the order of gaps -/
def gk (g : Gap) : List Int := [g.2.1, g.2.2.1, g.2.2.2.1, g.2.2.2.2]
def nk (z : Str) : List Nat := z.cps.toList
theorem nk_inj {a b : Str} (e : nk a = nk b) : a = b := by
  cases a with
  | mk x => cases b with
    | mk y => exact congrArg Str.mk (Array.toList_inj.mp e)
def gLe (a b : Gap) : Prop := if a.1 = b.1 then gk a ≤ gk b else nk a.1 ≤ nk b.1
theorem dataLe_gap (a b : Gap) : PySem.W.dataLe false eGap a b = true ↔ gLe a b := by
  show (!PySem.W.dataLt (eGap b) (eGap a)) = true ↔ _
  unfold eGap gLe
  rw [PySem.W.dataLt_tuple, PySem.W.dataLt_cons (by simp [PySem.W.alike])]
  by_cases e : a.1 = b.1
  · rw [if_pos e, if_pos (by simp [PyData.eqv, e])]
    have := PySem.W.dataLt_ints (gk b) (gk a)
    have h2 : PyProof.Rows.lexLt PyProof.Rows.itemOrd (PySem.W.keyToksAll [.int b.2.1, .int b.2.2.1, .int b.2.2.2.1, .int b.2.2.2.2]) (PySem.W.keyToksAll [.int a.2.1, .int a.2.2.1, .int a.2.2.2.1, .int a.2.2.2.2]) = decide (gk b < gk a) := this
    rw [h2]
    by_cases h : gk b < gk a
    · simp [h]
    · simp [h, List.not_lt.mp h]
  · rw [if_neg e, if_neg (by simp [PyData.eqv]; exact fun q => e q.symm), PySem.W.dataLt_str]
    show (!decide (nk b.1 < nk a.1)) = true ↔ _
    by_cases h : nk b.1 < nk a.1
    · simp [h]
    · simp [h, List.not_lt.mp h]
theorem gLe_trans {a b c : Gap} (h : gLe a b) (k : gLe b c) : gLe a c := by
  unfold gLe at h k ⊢
  by_cases e1 : a.1 = b.1
  · rw [if_pos e1] at h
    by_cases e2 : b.1 = c.1
    · rw [if_pos e2] at k
      rw [if_pos (e1.trans e2)]
      exact List.le_trans h k
    · rw [if_neg e2] at k
      rw [if_neg (by rw [e1]; exact e2), e1]
      exact k
  · rw [if_neg e1] at h
    by_cases e2 : b.1 = c.1
    · rw [if_neg (by rw [← e2]; exact e1), ← e2]
      exact h
    · rw [if_neg e2] at k
      by_cases e3 : a.1 = c.1
      · rw [← e3] at k
        exact absurd (nk_inj (List.le_antisymm h k)) e1
      · rw [if_neg e3]
        exact List.le_trans h k
theorem gLe_total (a b : Gap) : gLe a b ∨ gLe b a := by
  unfold gLe
  by_cases e : a.1 = b.1
  · rw [if_pos e, if_pos e.symm]
    exact List.le_total _ _
  · rw [if_neg e, if_neg (fun q => e q.symm)]
    exact List.le_total _ _
theorem gLe_anti {a b : Gap} (h : gLe a b) (k : gLe b a) : a = b := by
  unfold gLe at h k
  by_cases e : a.1 = b.1
  · rw [if_pos e] at h
    rw [if_pos e.symm] at k
    have := List.le_antisymm h k
    unfold gk at this
    obtain ⟨a1, a2, a3, a4, a5⟩ := a
    obtain ⟨b1, b2, b3, b4, b5⟩ := b
    simp only [List.cons.injEq, and_true] at this
    obtain ⟨h2, h3, h4, h5⟩ := this
    have e : a1 = b1 := e
    rw [e, h2, h3, h4, h5]
  · rw [if_neg e] at h
    rw [if_neg (fun q => e q.symm)] at k
    exact absurd (nk_inj (List.le_antisymm h k)) e
theorem sorted_gaps (L : List Gap) : (L.mergeSort (PySem.W.dataLe false eGap)).Pairwise gLe := by
  refine List.Pairwise.imp (fun {a b} h => (dataLe_gap a b).mp h) (List.pairwise_mergeSort (fun a b c h k => ?_) (fun a b => ?_) L)
  · exact (dataLe_gap a c).mpr (gLe_trans ((dataLe_gap a b).mp h) ((dataLe_gap b c).mp k))
  · rw [Bool.or_eq_true, dataLe_gap, dataLe_gap]
    exact gLe_total a b
theorem gaps_one {L B : List Gap} (h : B.Perm L) (hs : B.Pairwise gLe) : L.mergeSort (PySem.W.dataLe false eGap) = B :=
  List.Perm.eq_of_pairwise (le := gLe) (fun a b _ _ h k => gLe_anti h k) (sorted_gaps L) hs ((List.mergeSort_perm L _).trans h.symm)
theorem gapsA_perm {cs cs' : Cnt} (h : cs'.Perm cs) (c : List Y.Run) : gapsA cs' c = gapsA cs c :=
  gaps_one (((List.mergeSort_perm _ _).trans (List.Perm.append_left _ (h.symm.flatMap_right _)))) (sorted_gaps _)
theorem gapsA_sort (cs : Cnt) (c : List Y.Run) : (gapsA cs c).mergeSort (PySem.W.dataLe false eGap) = gapsA cs c := gaps_one (List.Perm.refl _) (sorted_gaps _)
theorem finA_perm {cs cs' : Cnt} (h : cs'.Perm cs) (hn : (cs.map (·.1)).Nodup) (c : List Y.Run) : finA cs' c = finA cs c := by
  unfold finA sumC
  rw [sum_perm (h.map (·.2))]
  cases c.getLast? with
  | none => rfl
  | some r => simp only [getC_perm h hn]
/-! breaks: the gaps of one writer -/
def mineA (c : List Y.Run) (z : Str) : Nat → List (Int × Y.Run)
  | 0 => []
  | i + 1 => match c[i]? with
    | some r => mineA c z i ++ (if r.1 = z then [((i : Int), r)] else [])
    | none => mineA c z i
def gp (z : Str) (e f : Int × Int) : List Gap := if e.2 + 1 < f.2 then [(z, e.2 + 1, f.2 - 1, e.1 + 1, f.1 - 1)] else []
def endsM (M : List (Int × Y.Run)) : List (Int × Int) := (-1, 0) :: M.map fun x => (x.1, x.2.2.2)
def frontsM (M : List (Int × Y.Run)) (f : Int × Int) : List (Int × Int) := (M.map fun x => (x.1, x.2.2.1)) ++ [f]
def zipM (z : Str) (M : List (Int × Y.Run)) (f : Int × Int) : List Gap := ((endsM M).zip (frontsM M f)).flatMap fun p => gp z p.1 p.2
theorem zipM_nil (z : Str) (f : Int × Int) : zipM z [] f = gp z (-1, 0) f := by
  unfold zipM endsM frontsM
  simp
theorem zipM_snoc (z : Str) (M : List (Int × Y.Run)) (x : Int × Y.Run) (f : Int × Int) : zipM z (M ++ [x]) f = zipM z M (x.1, x.2.2.1) ++ gp z (x.1, x.2.2.2) f := by
  unfold zipM endsM frontsM
  rw [List.map_append, List.map_append, ← List.cons_append, List.zip_append (by simp), List.flatMap_append]
  simp
theorem mineA_len (c : List Y.Run) (z : Str) : ∀ i, (mineA c z i).length ≤ i
  | 0 => Nat.le_refl 0
  | i + 1 => by
    have ih := mineA_len c z i
    show (match c[i]? with
      | some r => mineA c z i ++ (if r.1 = z then [((i : Int), r)] else [])
      | none => mineA c z i).length ≤ i + 1
    split
    · rw [List.length_append]
      split <;> simp <;> omega
    · omega
theorem emA_name {c : List Y.Run} {i : Nat} {r : Y.Run} (h : c[i]? = some r) : ∀ g ∈ emA c i, g.1 = r.1 := fun g hg => by
  unfold emA at hg
  rw [h] at hg
  have hg : g ∈ if (stAt c i r.1).1 + 1 < r.2.1 then [(r.1, (stAt c i r.1).1 + 1, r.2.1 - 1, (stAt c i r.1).2 + 1, (i : Int) - 1)] else [] := hg
  split at hg
  · rw [List.mem_singleton.mp hg]
  · cases hg
theorem stAt_succ {c : List Y.Run} {i : Nat} {r : Y.Run} (h : c[i]? = some r) (z : Str) : stAt c (i + 1) z = if r.1 = z then (r.2.2, (i : Int)) else stAt c i z := by
  show (match c[i]? with
      | some r => if r.1 = z then (r.2.2, (i : Int)) else stAt c i z
      | none => stAt c i z) = _
  rw [h]
theorem mineA_succ {c : List Y.Run} {i : Nat} {r : Y.Run} (h : c[i]? = some r) (z : Str) : mineA c z (i + 1) = mineA c z i ++ (if r.1 = z then [((i : Int), r)] else []) := by
  show (match c[i]? with
    | some r => mineA c z i ++ (if r.1 = z then [((i : Int), r)] else [])
    | none => mineA c z i) = _
  rw [h]
theorem zip_raw (c : List Y.Run) (z : Str) : ∀ (i : Nat), i ≤ c.length → ∀ f, zipM z (mineA c z i) f = (rawA c i).filter (fun g => decide (g.1 = z)) ++ gp z ((stAt c i z).2, (stAt c i z).1) f
  | 0, _, f => by
    rw [show mineA c z 0 = [] from rfl, zipM_nil]
    rfl
  | i + 1, hi, f => by
    have ih := zip_raw c z i (by omega)
    have hci : c[i]? = some c[i] := List.getElem?_eq_getElem (by omega)
    have hn := emA_name hci
    rw [mineA_succ hci, stAt_succ hci, rawA_succ, List.filter_append]
    have hem : emA c i = if (stAt c i c[i].1).1 + 1 < c[i].2.1 then [(c[i].1, (stAt c i c[i].1).1 + 1, c[i].2.1 - 1, (stAt c i c[i].1).2 + 1, (i : Int) - 1)] else [] := by
      unfold emA
      rw [hci]
    generalize c[i] = r at hn hem
    by_cases e : r.1 = z
    · rw [if_pos e, if_pos e, zipM_snoc, ih, List.filter_eq_self.mpr (fun g hg => decide_eq_true ((hn g hg).trans e)), List.append_assoc, List.append_assoc]
      congr 1
      rw [hem, e]
      rfl
    · rw [if_neg e, if_neg e, List.append_nil, ih]
      have : (emA c i).filter (fun g => decide (g.1 = z)) = [] := List.filter_eq_nil_iff.mpr fun g hg => by rw [hn g hg]; simpa using e
      rw [this, List.append_nil]
def brkZ (c : List Y.Run) (z : Str) (v : Int) : List Gap := zipM z (mineA c z c.length) ((c.length : Int), v + 1)
theorem brkZ_eq (c : List Y.Run) (z : Str) (v : Int) : brkZ c z v = (rawA c c.length).filter (fun g => decide (g.1 = z)) ++ tlA c (z, v) := by
  unfold brkZ
  rw [zip_raw c z c.length (Nat.le_refl _)]
  congr 1
  unfold gp tlA
  show (if (stAt c c.length z).1 + 1 < v + 1 then [(z, (stAt c c.length z).1 + 1, v + 1 - 1, (stAt c c.length z).2 + 1, (c.length : Int) - 1)] else []) = _
  rw [show v + 1 - 1 = v by omega]
  by_cases h : (stAt c c.length z).1 < v
  · rw [if_pos (by omega), if_pos h]
  · rw [if_neg (by omega), if_neg h]
theorem flat_filter {L : List Gap} : ∀ {names : List Str}, names.Nodup → (names.flatMap fun z => L.filter fun g => decide (g.1 = z)).Perm (L.filter fun g => decide (g.1 ∈ names))
  | [], _ => by
    rw [List.filter_eq_nil_iff.mpr (fun g _ => by simp)]
    exact List.Perm.refl _
  | z :: r, nd => by
    obtain ⟨h1, h2⟩ := List.nodup_cons.mp nd
    have ih := flat_filter (L := L) h2
    rw [List.flatMap_cons]
    refine (List.Perm.append_left _ ih).trans ?_
    have p := List.filter_append_perm (fun g : Gap => decide (g.1 = z)) (L.filter fun g => decide (g.1 ∈ z :: r))
    refine List.Perm.trans (List.Perm.of_eq ?_) p
    rw [List.filter_filter, List.filter_filter]
    congr 1
    · refine List.filter_congr fun g _ => ?_
      by_cases e : g.1 = z <;> simp [e]
    · refine List.filter_congr fun g _ => ?_
      by_cases e : g.1 = z
      · simp [e, h1]
      · simp [e]
theorem flat_append {α β : Type} (f g : α → List β) : ∀ l : List α, (l.flatMap fun x => f x ++ g x).Perm (l.flatMap f ++ l.flatMap g)
  | [] => List.Perm.refl _
  | x :: r => by
    rw [List.flatMap_cons, List.flatMap_cons, List.flatMap_cons]
    have ih := flat_append f g r
    refine (List.Perm.append_left _ ih).trans ?_
    rw [List.append_assoc, List.append_assoc]
    refine List.Perm.append_left _ ?_
    rw [← List.append_assoc, ← List.append_assoc]
    exact List.Perm.append_right _ List.perm_append_comm
/-- the law's breaks: writers in the order of names -/
def brkA (cs : Cnt) (c : List Y.Run) (names : List Str) : List Gap := names.flatMap fun z => brkZ c z ((getC cs z).getD 0)
theorem brk_perm {cs : Cnt} {c : List Y.Run} {names : List Str} (hin : ∀ r ∈ c, r.1 ∈ cs.map (·.1)) (nd : (cs.map (·.1)).Nodup) (hp : names.Perm (cs.map (·.1))) : (brkA cs c names).Perm (rawAll cs c) := by
  have e : brkA cs c names = names.flatMap fun z => (rawA c c.length).filter (fun g => decide (g.1 = z)) ++ tlA c (z, (getC cs z).getD 0) := by
    unfold brkA
    congr 1
    funext z
    exact brkZ_eq c z _
  rw [e]
  refine (flat_append _ _ names).trans ?_
  unfold rawAll
  refine List.Perm.append ?_ ?_
  · refine (flat_filter (hp.nodup_iff.mpr nd)).trans (List.Perm.of_eq (List.filter_eq_self.mpr fun g hg => decide_eq_true ?_))
    have := rawAll_name hin g (List.mem_append_left _ hg)
    exact hp.mem_iff.mpr this
  · refine (hp.flatMap_right _).trans (List.Perm.of_eq ?_)
    rw [List.flatMap_map, List.flatMap_def, List.flatMap_def]
    congr 1
    refine List.map_congr_left fun p hp => ?_
    show tlA c (p.1, (getC cs p.1).getD 0) = tlA c p
    rw [getC_mem nd hp]
    rfl
/-! ascending contents -/
def Asc (c : List Y.Run) : Prop := ∀ (i : Nat) (r : Y.Run), c[i]? = some r → (stAt c i r.1).1 < r.2.1 ∧ r.2.1 ≤ r.2.2
theorem stAt_last (c : List Y.Run) (z : Str) : ∀ i, i ≤ c.length → (stAt c i z).1 = lastN (c.take i) z
  | 0, _ => rfl
  | i + 1, hi => by
    have ih := stAt_last c z i (by omega)
    have hci : c[i]? = some c[i] := List.getElem?_eq_getElem (by omega)
    rw [stAt_succ hci, List.take_add_one, hci]
    show _ = lastN (c.take i ++ [c[i]]) z
    rw [lastN_snoc]
    by_cases e : c[i].1 = z
    · rw [if_pos e, if_pos e.symm]
    · rw [if_neg e, if_neg (fun q => e q.symm)]
      exact ih
theorem asc_of_app {c : List Y.Run} (h : App c) (hw : wf c) : Asc c := fun i r hr => by
  obtain ⟨hi, e⟩ := List.getElem?_eq_some_iff.mp hr
  have hb := h.2 i hi
  unfold badI at hb
  rw [hr] at hb
  have hb : badAt c i r = none := hb
  unfold badAt at hb
  split at hb
  · cases hb
  · next h1 =>
    rw [stAt_last c r.1 i (by omega)]
    refine ⟨by omega, ?_⟩
    exact hw r (List.mem_of_getElem? hr)
theorem raw_asc {c : List Y.Run} (h : Asc c) (z : Str) : ∀ i, i ≤ c.length → ((rawA c i).filter (fun g => decide (g.1 = z))).Pairwise (fun a b => a.2.2.1 + 1 < b.2.1) ∧ (∀ g ∈ (rawA c i).filter (fun g => decide (g.1 = z)), g.2.1 ≤ g.2.2.1 ∧ g.2.2.1 < (stAt c i z).1 ∧ 1 ≤ g.2.1) ∧ 0 ≤ (stAt c i z).1
  | 0, _ => by
    have e : (rawA c 0).filter (fun g => decide (g.1 = z)) = [] := rfl
    rw [e]
    refine ⟨.nil, ?_, Int.le_refl 0⟩
    intro g hg
    cases hg
  | i + 1, hi => by
    obtain ⟨p, b, n0⟩ := raw_asc h z i (by omega)
    have hci : c[i]? = some c[i] := List.getElem?_eq_getElem (by omega)
    obtain ⟨a1, a2⟩ := h i _ hci
    have hn := emA_name hci
    have hem : emA c i = if (stAt c i c[i].1).1 + 1 < c[i].2.1 then [(c[i].1, (stAt c i c[i].1).1 + 1, c[i].2.1 - 1, (stAt c i c[i].1).2 + 1, (i : Int) - 1)] else [] := by
      unfold emA
      rw [hci]
    rw [stAt_succ hci, rawA_succ, List.filter_append]
    generalize c[i] = r at hn hem a1 a2
    by_cases e : r.1 = z
    · rw [if_pos e, List.filter_eq_self.mpr (fun g hg => decide_eq_true ((hn g hg).trans e) : ∀ g ∈ emA c i, decide (g.1 = z) = true), hem, e]
      rw [e] at a1
      have hlast : ∀ g ∈ (if (stAt c i z).1 + 1 < r.2.1 then [(z, (stAt c i z).1 + 1, r.2.1 - 1, (stAt c i z).2 + 1, (i : Int) - 1)] else [] : List Gap), g.2.1 = (stAt c i z).1 + 1 ∧ g.2.2.1 = r.2.1 - 1 ∧ g.2.1 ≤ g.2.2.1 := fun g hg => by
        split at hg
        · rw [List.mem_singleton.mp hg]
          exact ⟨rfl, rfl, by show (stAt c i z).1 + 1 ≤ r.2.1 - 1; omega⟩
        · cases hg
      refine ⟨List.pairwise_append.mpr ⟨p, ?_, fun x hx y hy => ?_⟩, fun g hg => ?_, by show 0 ≤ r.2.2; omega⟩
      · split
        · exact List.pairwise_singleton _ _
        · exact .nil
      · have h1 := (b x hx).2
        have h2 := hlast y hy
        omega
      · rcases List.mem_append.mp hg with hg | hg
        · have h1 := b g hg
          show _ ∧ g.2.2.1 < r.2.2 ∧ _
          omega
        · have h1 := hlast g hg
          show _ ∧ g.2.2.1 < r.2.2 ∧ _
          omega
    · have : (emA c i).filter (fun g => decide (g.1 = z)) = [] := List.filter_eq_nil_iff.mpr fun g hg => by rw [hn g hg]; simpa using e
      rw [if_neg e, this, List.append_nil]
      exact ⟨p, b, n0⟩
theorem brkZ_asc {c : List Y.Run} (h : Asc c) (z : Str) (v : Int) : (brkZ c z v).Pairwise (fun a b => a.2.2.1 + 1 < b.2.1) ∧ ∀ g ∈ brkZ c z v, g.1 = z ∧ 1 ≤ g.2.1 ∧ g.2.1 ≤ g.2.2.1 := by
  obtain ⟨p, b, n0⟩ := raw_asc h z c.length (Nat.le_refl _)
  rw [brkZ_eq]
  have ht : ∀ g ∈ tlA c (z, v), g.1 = z ∧ g.2.1 = (stAt c c.length z).1 + 1 ∧ g.2.2.1 = v ∧ g.2.1 ≤ g.2.2.1 := fun g hg => by
    unfold tlA at hg
    split at hg
    · next h1 =>
      rw [List.mem_singleton.mp hg]
      refine ⟨rfl, rfl, rfl, ?_⟩
      have h1 : (stAt c c.length z).1 < v := h1
      show (stAt c c.length z).1 + 1 ≤ v
      omega
    · cases hg
  refine ⟨List.pairwise_append.mpr ⟨p, ?_, fun x hx y hy => ?_⟩, fun g hg => ?_⟩
  · unfold tlA
    split
    · exact List.pairwise_singleton _ _
    · exact .nil
  · have h1 := (b x hx).2
    have h2 := ht y hy
    omega
  · rcases List.mem_append.mp hg with hg | hg
    · have h1 := b g hg
      exact ⟨of_decide_eq_true (List.mem_filter.mp hg).2, h1.2.2, h1.1⟩
    · have h1 := ht g hg
      exact ⟨h1.1, by omega, h1.2.2.2⟩
theorem gLe_of_lt {a b : Gap} (e : a.1 = b.1) (h : a.2.1 < b.2.1) : gLe a b := by
  unfold gLe
  rw [if_pos e]
  unfold gk
  exact List.not_lt.mp fun q => by
    rcases List.cons_lt_cons_iff.mp q with q | q <;> omega
theorem brk_sorted {cs : Cnt} {c : List Y.Run} {names : List Str} (h : Asc c) (hs : names.Pairwise fun a b => nk a ≤ nk b) (nd : names.Nodup) : (brkA cs c names).Pairwise gLe := by
  unfold brkA
  rw [List.pairwise_flatMap]
  refine ⟨fun z _ => ?_, ?_⟩
  · obtain ⟨p, b⟩ := brkZ_asc h z ((getC cs z).getD 0)
    refine List.Pairwise.imp_of_mem (fun {x y} hx hy hxy => ?_) p
    have h1 := b x hx
    exact gLe_of_lt (h1.1.trans (b y hy).1.symm) (by omega)
  · refine (List.pairwise_and_iff.mpr ⟨hs, nd⟩).imp ?_
    rintro a b ⟨h1, h2⟩ x hx y hy
    have ex := ((brkZ_asc h a _).2 x hx).1
    have ey := ((brkZ_asc h b _).2 y hy).1
    unfold gLe
    rw [ex, ey, if_neg h2]
    exact h1
theorem gapsA_brk {cs : Cnt} {c : List Y.Run} {names : List Str} (h : Asc c) (hin : ∀ r ∈ c, r.1 ∈ cs.map (·.1)) (nd : (cs.map (·.1)).Nodup) (hp : names.Perm (cs.map (·.1))) (hs : names.Pairwise fun a b => nk a ≤ nk b) : gapsA cs c = brkA cs c names :=
  gaps_one (brk_perm hin nd hp) (brk_sorted h hs (hp.nodup_iff.mpr nd))

end Pg

namespace Pg
open PySem L2 Y PyProof.Rows

local macro_rules | `(tactic| walk_at "vis") => `(tactic| first | exact Or.inl rfl | exact Or.inr (Or.inl rfl) | exact Or.inr (Or.inr rfl))
local macro_rules | `(tactic| walk_at "e1") => `(tactic| first | walk_at "nm" | refine de_int ?_ | refine de_add ?_ | refine de_sub ?_ | refine de_str ?_ | refine de_non ?_ | refine de_bl ?_)
local macro_rules | `(tactic| walk_at "go") => `(tactic| repeat (first | ((with_reducible show DE _ _ _ _ _ _); walk_at "e1") | ((with_reducible show DA _ _ _ _ _ _); refine da_cons ?_) | refine ⟨_, _, rfl, rfl, ?_⟩))


theorem okC_in {cs : Cnt} {c : List Y.Run} (ok : okC (some cs) c) : ∀ r ∈ c, r.1 ∈ cs.map (·.1) := fun r hr => by
  obtain ⟨v, hv, _⟩ := okRun_get (ok.1 r hr)
  obtain ⟨p, hp, e, _⟩ := getC_some hv
  rw [← e]
  exact List.mem_map_of_mem hp
theorem okCnt_perm {cs cs' : Cnt} (h : cs'.Perm cs) (ok : okCnt cs) : okCnt cs' := by
  obtain ⟨a, b, c, d⟩ := ok
  exact ⟨by rw [h.length_eq]; exact a, by rw [h.length_eq]; exact b, (h.map _).nodup_iff.mpr c, fun p hp => d p (h.mem_iff.mp hp)⟩
def gapsT (cs : Cnt) (c : List Y.Run) : Bool := isNone (.d (finA cs c))
section
variable {P : Program} {w : World} {K : PySem.W.Frag} {mg : Str → Option Value} {base : Heap}

local macro_rules | `(tactic| walk_at "nm") => `(tactic| first | ((with_reducible refine de_name (x := "line_counts") (i := 0) (s := ?s) ?hN ?hv ?ht ?q ?hd ?hcd); (case hN => rfl); (case hv => walk_at "vis"); (case ht => rfl); (case hd => decide); (case hcd => decide)) | ((with_reducible refine de_name (x := "content") (i := 1) (s := ?s) ?hN ?hv ?ht ?q ?hd ?hcd); (case hN => rfl); (case hv => walk_at "vis"); (case ht => rfl); (case hd => decide); (case hcd => decide)) | ((with_reducible refine de_name (x := "counts") (i := 2) (s := ?s) ?hN ?hv ?ht ?q ?hd ?hcd); (case hN => rfl); (case hv => walk_at "vis"); (case ht => rfl); (case hd => decide); (case hcd => decide)) | ((with_reducible refine de_name (x := "runs") (i := 3) (s := ?s) ?hN ?hv ?ht ?q ?hd ?hcd); (case hN => rfl); (case hv => walk_at "vis"); (case ht => rfl); (case hd => decide); (case hcd => decide)))


def R_gaps : Rr := fun L ss M Q => ∃ (cs : Cnt) (s : Sl) (c : List Y.Run), NoDK L ∧ ss = [.d (eCnt cs), s] ∧ okCnt cs ∧ LT M s (c.map sRun) ∧ okC (some cs) c ∧ c.length < 1000000 ∧ (isNone (.d (finA cs c)) = true → ∀ (p : Addr) (M' : Cs), Sub M M' → M p = none → M' p = some (.l ((gapsA cs c).map sGap)) → Q (.c p) M') ∧ (isNone (.d (finA cs c)) = false → Q (.d .none) M)
theorem ok_gaps (F : FunAt K mg "gaps" s_gaps ["line_counts", "content"]) (c1 : Cal P w K mg base "checked_line_counts" 4 ["value"] R_plain_line_counts) (c2 : Cal P w K mg base "checked_content" 6 ["line_counts", "value"] R_plain_content) (c3 : Cal P w K mg base "final_obstruction" 7 ["line_counts", "content"] R_final) (c4 : Cal P w K mg base "gaps_of_runs" 1 ["counts", "runs"] R_gapsR) : Cal P w K mg base "gaps" 8 ["line_counts", "content"] R_gaps := by
  refine cal_of F sc_gaps (fun _ ss _ _ ⟨cs, s, c, _, h, _⟩ => by rw [h]; rfl) (fun f cdv A outer s H E L ss M Q hr h => ?_)
  obtain ⟨cs, x, c, hL, rfl, okc, lt, ok, hl, q1, q2⟩ := h
  refine db_cons (ds_set (i := 2) sc_gaps.nd rfl (.inl rfl) (de_callC (c1.up (by decide)) hr (by rfl) ?_))
  walk_at "go"
  refine da_nil ⟨cs, hL, rfl, okc, fun cs' hs' => ?_⟩
  have ok' := okC_sorted okc hs' ok
  have okc' := okCnt_perm hs'.1 okc
  refine db_cons (ds_set (i := 3) sc_gaps.nd rfl (.inl rfl) (de_callC (c2.up (by decide)) hr (by rfl) ?_))
  walk_at "go"
  refine da_nil ⟨some cs', x, c, rfl, lt, ok', hl, fun p hp => ?_⟩
  have sub_M1 : Sub M (updC M p (.l (c.map sRun))) := (Sub.refl _).new hp
  have m_p : updC M p (.l (c.map sRun)) p = some (.l (c.map sRun)) := updC_same
  generalize updC M p (.l (c.map sRun)) = M1 at sub_M1 m_p
  refine db_cons (ds_if (dt_cmp op_notN (de_callC c3 hr (by rfl) ?_) (nomark _)))
  walk_at "go"
  refine da_nil ⟨cs', .c p, c, hL, rfl, okc', LT.cell m_p, ok', hl, de_non (k_notN ⟨_, rfl, fun h => ?_, fun h => db_nil ?_⟩)⟩
  · have h : isNone (.d (finA cs' c)) = false := by simpa using h
    rw [finA_perm hs'.1 okc.2.2.1] at h
    exact db_cons (ds_ret (de_gc (de_non ⟨M, sub_M1, q2 h⟩)))
  have h : isNone (.d (finA cs' c)) = true := by simpa using h
  rw [finA_perm hs'.1 okc.2.2.1] at h
  refine db_cons (ds_ret (de_callC (c4.up (by decide)) hr (by rfl) ?_))
  walk_at "go"
  refine da_nil ⟨cs', .c p, c, hL, rfl, rfl, okc', by simp only [seqOf, m_p], hl, okC_in ok', fun p2 M2 sub2 hp2 m2 => q1 h p2 M2 (Sub.trans sub_M1 sub2) (sub_M1.none hp2) ?_⟩
  rw [m2, gapsA_perm hs'.1]

end

end Pg

namespace Pg
open PySem L2 Y PyProof.Rows

local macro_rules | `(tactic| walk_at "vis") => `(tactic| first | exact Or.inl rfl | exact Or.inr (Or.inl rfl) | exact Or.inr (Or.inr rfl))
local macro_rules | `(tactic| walk_at "e1") => `(tactic| first | walk_at "nm" | refine de_int ?_ | refine de_add ?_ | refine de_sub ?_ | refine de_str ?_ | refine de_non ?_ | refine de_bl ?_)
local macro_rules | `(tactic| walk_at "go") => `(tactic| repeat (first | ((with_reducible show DE _ _ _ _ _ _); walk_at "e1") | ((with_reducible show DA _ _ _ _ _ _); refine da_cons ?_) | refine ⟨_, _, rfl, rfl, ?_⟩))


theorem merge_cnt {t : Cnt} (nd : (t.map (·.1)).Nodup) : mergeS [] (slK (kdC t)) = slK (kdC t) := by
  have := mergeS_nodup (slK (kdC t)) [] (by
    rw [List.nil_append, keys_C]
    exact List.Pairwise.map _ (fun a b h e => h (Sum.inr.inj e)) nd)
  rw [this, List.nil_append]
theorem rising_nk : ∀ {l : List Str} {p : Str}, risingS p l = true → (∀ x ∈ l, nk p ≤ nk x) ∧ l.Pairwise fun a b => nk a ≤ nk b
  | [], _, _ => ⟨fun _ h => (nomatch h), .nil⟩
  | y :: l, p, h => by
    have h : ((!PySem.Spec.ltCps y.cps.toList p.cps.toList) && risingS y l) = true := h
    obtain ⟨h1, h2⟩ := Bool.and_eq_true_iff.mp h
    rw [ltCps_eq] at h1
    have h3 : ¬ y.cps.toList < p.cps.toList := by simpa using h1
    have h3 : nk p ≤ nk y := List.not_lt.mp h3
    obtain ⟨h4, h5⟩ := rising_nk h2
    refine ⟨fun x hx => ?_, List.pairwise_cons.mpr ⟨h4, h5⟩⟩
    rcases List.mem_cons.mp hx with rfl | hx
    · exact h3
    · exact List.le_trans h3 (h4 x hx)
theorem sorted_nk {l : List Str} (h : sortedS l = true) : l.Pairwise fun a b => nk a ≤ nk b := by
  cases l with
  | nil => exact .nil
  | cons p l => exact List.pairwise_cons.mpr (rising_nk h)
def sMine (x : Int × Y.Run) : Sl := .d (.tuple [.int x.1, eRun x.2])
def sE2 (p : Int × Int) : Sl := .d (e2 p)
theorem endsM_len (M : List (Int × Y.Run)) : (endsM M).length = M.length + 1 := by unfold endsM; rw [List.length_cons, List.length_map]
theorem frontsM_len (M : List (Int × Y.Run)) (f : Int × Int) : (frontsM M f).length = M.length + 1 := by unfold frontsM; rw [List.length_append, List.length_map]; rfl
theorem flat_gp_len (z : Str) : ∀ l : List ((Int × Int) × (Int × Int)), (l.flatMap fun p => gp z p.1 p.2).length ≤ l.length
  | [] => Nat.le_refl 0
  | p :: r => by
    rw [List.flatMap_cons, List.length_append, List.length_cons]
    have := flat_gp_len z r
    have : (gp z p.1 p.2).length ≤ 1 := by
      unfold gp
      split
      · exact Nat.le_refl 1
      · exact Nat.zero_le 1
    omega
theorem brkZ_len (c : List Y.Run) (z : Str) (v : Int) : (brkZ c z v).length ≤ c.length + 1 := by
  unfold brkZ zipM
  have h1 := flat_gp_len z ((endsM (mineA c z c.length)).zip (frontsM (mineA c z c.length) ((c.length : Int), v + 1)))
  rw [List.length_zip, endsM_len, frontsM_len] at h1
  have := mineA_len c z c.length
  omega
theorem brkA_len (cs : Cnt) (c : List Y.Run) : ∀ names : List Str, (brkA cs c names).length ≤ names.length * (c.length + 1)
  | [] => by rw [List.length_nil, Nat.zero_mul]; exact Nat.le_refl 0
  | z :: r => by
    have ih := brkA_len cs c r
    unfold brkA at ih ⊢
    rw [List.flatMap_cons, List.length_append, List.length_cons, Nat.add_mul, Nat.one_mul]
    have := brkZ_len c z ((getC cs z).getD 0)
    omega
theorem brkA_succ (cs : Cnt) (c : List Y.Run) {names : List Str} {n : Nat} (h : n < names.length) : brkA cs c (names.take (n + 1)) = brkA cs c (names.take n) ++ brkZ c names[n] ((getC cs names[n]).getD 0) := by
  unfold brkA
  rw [List.take_add_one, List.getElem?_eq_getElem h, List.flatMap_append]
  simp
/-- the last numbers of all writers after some runs -/
def behC (cs : Cnt) (c : List Y.Run) (i : Nat) : Cnt := cs.map fun p => (p.1, lastN (c.take i) p.1)
theorem behC_zero (cs : Cnt) (c : List Y.Run) : behC cs c 0 = cs.map fun p => (p.1, 0) := by
  unfold behC
  refine List.map_congr_left fun p _ => ?_
  rw [List.take_zero, lastN_nil]
theorem behC_get (c : List Y.Run) (i : Nat) : ∀ (cs : Cnt) (z : Str), getC (behC cs c i) z = (getC cs z).map fun _ => lastN (c.take i) z
  | [], _ => rfl
  | p :: r, z => by
    have ih := behC_get c i r z
    unfold getC behC at ih ⊢
    rw [List.map_cons, List.find?_cons, List.find?_cons]
    by_cases e : p.1 = z
    · rw [show decide (p.1 = z) = true from decide_eq_true e]
      show some (lastN (c.take i) p.1) = some (lastN (c.take i) z)
      rw [e]
    · rw [show decide (p.1 = z) = false from decide_eq_false e]
      exact ih
theorem putS_beh {cs : Cnt} {c : List Y.Run} {i : Nat} (hi : i < c.length) (hz : c[i].1 ∈ cs.map (·.1)) : putS (slK (kdC (behC cs c i))) (.inr c[i].1) (dI c[i].2.2) = slK (kdC (behC cs c (i + 1))) := by
  unfold putS
  rw [if_pos]
  · unfold slK kdC behC
    rw [List.map_map, List.map_map, List.map_map, List.map_map, List.map_map]
    apply List.map_congr_left
    intro p _
    show (if (Sum.inr p.1 : Key) = .inr c[i].1 then ((Sum.inr p.1 : Key), dI c[i].2.2) else (.inr p.1, .d (.int (lastN (c.take i) p.1)))) = (Sum.inr p.1, Sl.d (.int (lastN (c.take (i + 1)) p.1)))
    rw [List.take_add_one, List.getElem?_eq_getElem hi]
    show _ = (Sum.inr p.1, Sl.d (.int (lastN (c.take i ++ [c[i]]) p.1)))
    rw [lastN_snoc]
    by_cases e : p.1 = c[i].1
    · rw [if_pos (by rw [e]), if_pos e]
      rfl
    · rw [if_neg (fun q => e (Sum.inr.inj q)), if_neg e]
  · obtain ⟨p, hp, e⟩ := List.mem_map.mp hz
    rw [List.any_eq_true]
    refine ⟨(.inr p.1, .d (.int (lastN (c.take i) p.1))), ?_, by simp [e]⟩
    unfold slK kdC behC
    rw [List.map_map, List.map_map]
    exact List.mem_map.mpr ⟨p, hp, rfl⟩
def aheadA (c : List Y.Run) : Nat → Str
  | 0 => ""
  | i + 1 => match c[i]? with
    | some r => r.1
    | none => ""
theorem badI_iff {c : List Y.Run} {i : Nat} (hi : i < c.length) (hn : okName c[i].1 = true) : badI c i = none ↔ ¬ (c[i].1 = aheadA c i ∨ c[i].2.1 ≤ lastN (c.take i) c[i].1) := by
  have hbi : badI c i = badAt c i c[i] := by unfold badI; rw [List.getElem?_eq_getElem hi]; rfl
  rw [hbi]
  unfold badAt
  by_cases h1 : c[i].2.1 ≤ lastN (c.take i) c[i].1
  · rw [if_pos h1]
    exact ⟨fun z => (nomatch z), fun z => absurd (.inr h1) z⟩
  rw [if_neg h1]
  cases i with
  | zero =>
    rw [if_neg (fun z => absurd z.1 (Nat.lt_irrefl 0))]
    refine ⟨fun _ z => ?_, fun _ => rfl⟩
    rcases z with z | z
    · have z : c[0].1 = "" := z
      rw [z] at hn
      exact absurd hn (by decide +kernel)
    · exact h1 z
  | succ i =>
    have hp : c[i]? = some c[i] := List.getElem?_eq_getElem (by omega)
    have ea : aheadA c (i + 1) = c[i].1 := by
      show (match c[i]? with
        | some r => r.1
        | none => "") = _
      rw [hp]
    rw [ea]
    by_cases h2 : c[i].1 = c[i + 1].1
    · rw [if_pos ⟨Nat.succ_pos i, by rw [Nat.add_sub_cancel, hp, ← h2]; rfl⟩]
      exact ⟨fun z => (nomatch z), fun z => absurd (.inl h2.symm) z⟩
    · rw [if_neg (fun z => by
        have := z.2
        rw [Nat.add_sub_cancel, hp] at this
        exact h2 (Option.some.inj this))]
      refine ⟨fun _ z => ?_, fun _ => rfl⟩
      rcases z with z | z
      · exact h2 z.symm
      · exact h1 z
theorem finA_bad {cs : Cnt} {c : List Y.Run} {i : Nat} (hi : i < c.length) (h : badI c i ≠ none) : isNone (.d (finA cs c)) = false := by
  have he : c.isEmpty = false := by
    cases c with
    | nil => exact absurd hi (Nat.not_lt_zero i)
    | cons r c => rfl
  have ho : isNone (.d (obsA c)) = false := by
    cases e : isNone (.d (obsA c)) with
    | false => rfl
    | true => exact absurd ((obsA_none e).2 i hi) h
  unfold finA
  rw [if_neg (by rw [he]; exact Bool.false_ne_true), if_pos ho]
  exact ho
theorem finA_end {cs : Cnt} {c : List Y.Run} {r l : Y.Run} (h : ∀ i < c.length, badI c i = none) (h0 : c[0]? = some r) (h1 : c.getLast? = some l) : isNone (.d (finA cs c)) = (decide (r.2.1 = 1) && decide (l.2.2 = (getC cs l.1).getD 0)) := by
  have he : c.isEmpty = false := by
    cases c with
    | nil => cases h0
    | cons r c => rfl
  have hs : startBad c = !decide (r.2.1 = 1) := by
    cases c with
    | nil => cases h0
    | cons x c =>
      have : x = r := Option.some.inj h0
      rw [this]
      rfl
  unfold finA
  rw [if_neg (by rw [he]; exact Bool.false_ne_true)]
  by_cases e : r.2.1 = 1
  · have hs : startBad c = false := by rw [hs, decide_eq_true e]; rfl
    rw [obsA_app ⟨hs, h⟩, if_neg (fun z => (nomatch z)), h1, decide_eq_true e, Bool.true_and]
    show isNone (.d (if l.2.2 ≠ (getC cs l.1).getD 0 then .tuple [.str "end"] else .none)) = _
    by_cases e2 : l.2.2 = (getC cs l.1).getD 0
    · rw [if_neg (fun z => z e2), decide_eq_true e2]; rfl
    · rw [if_pos e2, decide_eq_false e2]; rfl
  · have hs : startBad c = true := by rw [hs, decide_eq_false e]; rfl
    have : obsA c = .tuple [.str "start"] := by unfold obsA; rw [hs, if_pos rfl]
    have h2 : isNone (.d (PyData.tuple [.str "start"])) = false := rfl
    rw [this, if_pos h2, decide_eq_false e]
    rfl
section
variable {P : Program} {w : World} {K : PySem.W.Frag} {mg : Str → Option Value} {base : Heap}

end

end Pg

namespace Pg
open PySem L2 Y PyProof.Rows

local macro_rules | `(tactic| walk_at "vis") => `(tactic| first | exact Or.inl rfl | exact Or.inr (Or.inl rfl) | exact Or.inr (Or.inr rfl))
local macro_rules | `(tactic| walk_at "e1") => `(tactic| first | walk_at "nm" | refine de_int ?_ | refine de_add ?_ | refine de_sub ?_ | refine de_str ?_ | refine de_non ?_ | refine de_bl ?_)
local macro_rules | `(tactic| walk_at "go") => `(tactic| repeat (first | ((with_reducible show DE _ _ _ _ _ _); walk_at "e1") | ((with_reducible show DA _ _ _ _ _ _); refine da_cons ?_) | refine ⟨_, _, rfl, rfl, ?_⟩))


theorem Bowl.sub {M M' : Cs} {b q : Addr} {n : Nat} (h : Bowl M b q n) (s : Sub M M') : Bowl M' b q n := by
  obtain ⟨ns, mix, cnt, h1, h2⟩ := h
  exact ⟨ns, mix, cnt, ⟨s _ _ h1.hb, s _ _ h1.hq, h1.ne⟩, h2⟩
theorem Bowl.keep {M : Cs} {b q : Addr} {n : Nat} {ps : List Addr} (h : Bowl M b q n) (hb : b ∈ ps) (hq : q ∈ ps) : Bowl (Y.keep ps M) b q n := by
  obtain ⟨ns, mix, cnt, h1, h2⟩ := h
  exact ⟨ns, mix, cnt, ⟨by rw [keep_in hb]; exact h1.hb, by rw [keep_in hq]; exact h1.hq, h1.ne⟩, h2⟩
theorem Bowl.nd {M : Cs} {b q : Addr} {n : Nat} (h : Bowl M b q n) : (∃ c, M b = some c ∧ ndC c = true) ∧ ∃ c, M q = some c ∧ ndC c = true := by
  obtain ⟨ns, mix, cnt, h1, h2⟩ := h
  exact ⟨⟨_, h1.hb, by simp [ndC, ndSs, ndS, dI, ndD]⟩, _, h1.hq, nd_ints ns⟩
/-- the five lists that stand for one run of a bent content -/
def bentL (r : Y.Run) : List (List Y.Run) := [[r], [], [r, r], [(r.1, r.2.1, r.2.1)], [(r.1, r.2.2, r.2.2), r]]
theorem bentL_ok {rows : Cnt} {r : Y.Run} (h : okRun (some rows) r) : ∀ xs ∈ bentL r, xs.length ≤ 2 ∧ ∀ x ∈ xs, okRun (some rows) x := by
  obtain ⟨o1, o2, o3, o4⟩ := h
  have o4 : r.2.2 ≤ (getC rows r.1).getD 0 := o4
  have h : okRun (some rows) r := ⟨o1, o2, o3, o4⟩
  have h1 : okRun (some rows) (r.1, r.2.1, r.2.1) := ⟨o1, o2, Int.le_refl _, by show r.2.1 ≤ (getC rows r.1).getD 0; omega⟩
  have h2 : okRun (some rows) (r.1, r.2.2, r.2.2) := ⟨o1, by show 1 ≤ r.2.2; omega, Int.le_refl _, o4⟩
  intro xs hx
  unfold bentL at hx
  simp only [List.mem_cons, List.not_mem_nil, or_false] at hx
  rcases hx with rfl | rfl | rfl | rfl | rfl
  · exact ⟨by simp, fun x hx => by simp only [List.mem_cons, List.not_mem_nil, or_false] at hx; rw [hx]; exact h⟩
  · exact ⟨by simp, fun x hx => by cases hx⟩
  · exact ⟨by simp, fun x hx => by simp only [List.mem_cons, List.not_mem_nil, or_false] at hx; rcases hx with rfl | rfl <;> exact h⟩
  · exact ⟨by simp, fun x hx => by simp only [List.mem_cons, List.not_mem_nil, or_false] at hx; rw [hx]; exact h1⟩
  · exact ⟨by simp, fun x hx => by simp only [List.mem_cons, List.not_mem_nil, or_false] at hx; rcases hx with rfl | rfl; exact h2; exact h⟩
section
variable {P : Program} {w : World} {K : PySem.W.Frag} {mg : Str → Option Value} {base : Heap}

end

end Pg

namespace Pg
open PySem L2 Y PyProof.Rows

local macro_rules | `(tactic| walk_at "vis") => `(tactic| first | exact Or.inl rfl | exact Or.inr (Or.inl rfl) | exact Or.inr (Or.inr rfl))
local macro_rules | `(tactic| walk_at "e1") => `(tactic| first | walk_at "nm" | refine de_int ?_ | refine de_add ?_ | refine de_sub ?_ | refine de_str ?_ | refine de_non ?_ | refine de_bl ?_)
local macro_rules | `(tactic| walk_at "go") => `(tactic| repeat (first | ((with_reducible show DE _ _ _ _ _ _); walk_at "e1") | ((with_reducible show DA _ _ _ _ _ _); refine da_cons ?_) | refine ⟨_, _, rfl, rfl, ?_⟩))

theorem okC_withR {lc : Option Cnt} {c : List Y.Run} {r : Y.Run} (h : okC lc c) (hl : okRun lc r) : okC lc (withRun c r) := by
  obtain ⟨h1, h2⟩ := h
  obtain ⟨o1, o2, o3, o4⟩ := hl
  refine ⟨fun x hx => ?_, ?_⟩
  · rcases withRun_mem hx with z | rfl | ⟨m, hm, hc, rfl⟩
    · exact h1 x z
    · exact ⟨o1, o2, o3, o4⟩
    · obtain ⟨_, q2, q3, _⟩ := h1 m hm
      unfold cont at hc
      simp only [Bool.and_eq_true, decide_eq_true_eq] at hc
      refine ⟨o1, q2, ?_, o4⟩
      show m.2.1 ≤ r.2.2
      omega
  · unfold withRun
    split
    · next m hm =>
      obtain ⟨ys, e⟩ := List.getLast?_eq_some_iff.mp hm
      subst e
      split
      · next hc =>
        rw [List.dropLast_concat]
        intro i a b ha hb
        by_cases hi : i + 1 < ys.length
        · rw [List.getElem?_append_left (by omega)] at ha
          rw [List.getElem?_append_left hi] at hb
          exact h2 i a b (by rw [List.getElem?_append_left (by omega)]; exact ha) (by rw [List.getElem?_append_left hi]; exact hb)
        · have hb2 := List.getElem?_eq_some_iff.mp hb
          obtain ⟨hlt, _⟩ := hb2
          rw [List.length_append, List.length_singleton] at hlt
          have e : i + 1 = ys.length := by omega
          rw [List.getElem?_append_left (by omega)] at ha
          rw [e, List.getElem?_concat_length] at hb
          have := h2 i a m (by rw [List.getElem?_append_left (by omega)]; exact ha) (by rw [e, List.getElem?_concat_length])
          have hb := Option.some.inj hb
          subst hb
          unfold cont at hc
          simp only [Bool.and_eq_true, decide_eq_true_eq] at hc
          unfold cont at this ⊢
          simp only [Bool.and_eq_false_iff, decide_eq_false_iff_not] at this ⊢
          show (¬ r.1 = a.1) ∨ ¬ m.2.1 = a.2.2 + 1
          have e2 : r.1 = m.1 := hc.1
          rw [e2]
          exact this
      · next hc =>
        intro i a b ha hb
        by_cases hi : i + 1 < (ys ++ [m]).length
        · rw [List.getElem?_append_left (by omega)] at ha
          rw [List.getElem?_append_left hi] at hb
          exact h2 i a b ha hb
        · obtain ⟨hlt, _⟩ := List.getElem?_eq_some_iff.mp hb
          rw [List.length_append (as := ys ++ [m]), List.length_singleton] at hlt
          have e : i + 1 = (ys ++ [m]).length := by omega
          rw [List.getElem?_append_left (by omega)] at ha
          rw [e, List.getElem?_concat_length] at hb
          have hb := Option.some.inj hb
          subst hb
          have e3 : i = ys.length := by rw [List.length_append, List.length_singleton] at e; omega
          rw [e3, List.getElem?_concat_length] at ha
          have ha := Option.some.inj ha
          subst ha
          exact Bool.eq_false_iff.mpr hc
    · next hm =>
      have e : c = [] := List.getLast?_eq_none_iff.mp hm
      subst e
      intro i a b ha hb
      simp at hb

/-- one count set -/
def setC (cs : Cnt) (z : Str) (v : Int) : Cnt := cs.map fun p => if p.1 = z then (p.1, v) else p
theorem setC_keys (cs : Cnt) (z : Str) (v : Int) : (setC cs z v).map (·.1) = cs.map (·.1) := by
  unfold setC
  rw [List.map_map]
  apply List.map_congr_left
  intro p _
  show (if p.1 = z then (p.1, v) else p).1 = p.1
  split <;> rfl
theorem putS_C {cs : Cnt} {z : Str} {v : Int} (h : z ∈ cs.map (·.1)) : putS (slK (kdC cs)) (.inr z) (dI v) = slK (kdC (setC cs z v)) := by
  unfold putS
  rw [if_pos]
  · unfold slK kdC setC
    rw [List.map_map, List.map_map, List.map_map, List.map_map]
    apply List.map_congr_left
    intro p _
    show (if (Sum.inr p.1 : Key) = .inr z then ((Sum.inr p.1 : Key), dI v) else (.inr p.1, .d (.int p.2))) = (Sum.inr (if p.1 = z then (p.1, v) else p).1, Sl.d (.int (if p.1 = z then (p.1, v) else p).2))
    by_cases e : p.1 = z
    · rw [if_pos (by rw [e]), if_pos e]
      rfl
    · rw [if_neg (fun q => e (Sum.inr.inj q)), if_neg e]
  · obtain ⟨p, hp, e⟩ := List.mem_map.mp h
    rw [List.any_eq_true]
    refine ⟨(.inr p.1, .d (.int p.2)), ?_, by simp [e]⟩
    unfold slK kdC
    rw [List.map_map]
    exact List.mem_map.mpr ⟨p, hp, rfl⟩
theorem getC_set {cs : Cnt} {z y : Str} {v : Int} (nd : (cs.map (·.1)).Nodup) (h : z ∈ cs.map (·.1)) : getC (setC cs z v) y = if y = z then some v else getC cs y := by
  have nd' : ((setC cs z v).map (·.1)).Nodup := by rw [setC_keys]; exact nd
  by_cases e : y = z
  · rw [if_pos e, e]
    obtain ⟨p, hp, e2⟩ := List.mem_map.mp h
    have hm : (z, v) ∈ setC cs z v := by
      unfold setC
      refine List.mem_map.mpr ⟨p, hp, ?_⟩
      rw [if_pos e2, e2]
    exact getC_mem nd' hm
  · rw [if_neg e]
    cases g : getC cs y with
    | some u =>
      obtain ⟨p, hp, rfl, rfl⟩ := getC_some g
      have hm : p ∈ setC cs z v := by
        unfold setC
        refine List.mem_map.mpr ⟨p, hp, ?_⟩
        rw [if_neg e]
      exact getC_mem nd' hm
    | none =>
      cases g' : getC (setC cs z v) y with
      | none => rfl
      | some u =>
        obtain ⟨p, hp, e1, _⟩ := getC_some g'
        have hk : y ∈ cs.map (·.1) := by
          rw [← setC_keys cs z v, ← e1]
          exact List.mem_map_of_mem hp
        obtain ⟨p2, hp2, e2⟩ := List.mem_map.mp hk
        rw [← e2, getC_mem nd hp2] at g
        cases g


theorem okC_snoc {lc : Option Cnt} {c : List Y.Run} {r : Y.Run} (h : okC lc c) (hr : okRun lc r) (h3 : ∀ l, c.getLast? = some l → cont l r = false) : okC lc (c ++ [r]) := by
  have e : withRun c r = c ++ [r] := by
    unfold withRun
    cases g : c.getLast? with
    | none => rfl
    | some l => simp only [h3 l g]; rw [if_neg Bool.false_ne_true]
  rw [← e]
  exact okC_withR h hr
theorem okC_frontL {lc : Option Cnt} {c : List Y.Run} {r : Y.Run} (h : okC lc (c ++ [r])) : okC lc c := ⟨fun x hx => h.1 x (List.mem_append_left _ hx), fun i a b ha hb => by
  have h1 := (List.getElem?_eq_some_iff.mp ha).1
  have h2 := (List.getElem?_eq_some_iff.mp hb).1
  exact h.2 i a b (by rw [List.getElem?_append_left h1]; exact ha) (by rw [List.getElem?_append_left h2]; exact hb)⟩
/-- the last run made longer -/
theorem okC_relast {lc : Option Cnt} {c : List Y.Run} {r : Y.Run} {v : Int} (h : okC lc (c ++ [r])) (hr : okRun lc (r.1, r.2.1, v)) : okC lc (c ++ [(r.1, r.2.1, v)]) := by
  refine okC_snoc (okC_frontL h) hr fun l hl => ?_
  have hpos : 0 < c.length := by
    cases c with
    | nil => cases hl
    | cons x c => exact Nat.succ_pos _
  have e : c[c.length - 1]? = some l := by rw [← List.getLast?_eq_getElem?]; exact hl
  have := h.2 (c.length - 1) l r (by rw [List.getElem?_append_left (by omega)]; exact e) (by rw [show c.length - 1 + 1 = c.length by omega, List.getElem?_concat_length])
  exact this
/-- the count of a writer -/
def gv (rows : Cnt) (z : Str) : Int := (getC rows z).getD 0
def tabC (f : Str → Int) (ws : List Str) : Cnt := ws.map fun z => (z, f z)
theorem tabC_get (f : Str → Int) : ∀ {ws : List Str} {z : Str}, z ∈ ws → getC (tabC f ws) z = some (f z)
  | [], _, h => nomatch h
  | y :: r, z, h => by
    unfold getC tabC
    rw [List.map_cons, List.find?_cons]
    by_cases e : y = z
    · rw [show decide (y = z) = true from decide_eq_true e]
      show some (f y) = _
      rw [e]
    · rw [show decide (y = z) = false from decide_eq_false e]
      rcases List.mem_cons.mp h with h | h
      · exact absurd h.symm e
      · exact tabC_get f h
theorem tabC_keys (f : Str → Int) (ws : List Str) : (tabC f ws).map (·.1) = ws := by
  unfold tabC
  rw [List.map_map]
  exact List.map_id' _
theorem tabC_set (f : Str → Int) (ws : List Str) (z : Str) (v : Int) : setC (tabC f ws) z v = tabC (fun y => if y = z then v else f y) ws := by
  unfold setC tabC
  rw [List.map_map]
  refine List.map_congr_left fun y _ => ?_
  show (if y = z then (y, v) else (y, f y)) = (y, if y = z then v else f y)
  split <;> rfl

theorem badI_take {c : List Y.Run} {r : Y.Run} {i : Nat} (hi : i < c.length) : badI (c ++ [r]) i = badI c i := by
  unfold badI
  rw [List.getElem?_append_left hi]
  cases h : c[i]? with
  | none => rfl
  | some x =>
    show badAt (c ++ [r]) i x = badAt c i x
    unfold badAt
    rw [List.take_append_of_le_length (by omega), List.getElem?_append_left (by omega)]
theorem App_snoc {c : List Y.Run} {r : Y.Run} : App (c ++ [r]) ↔ App c ∧ (c = [] → r.2.1 = 1) ∧ lastN c r.1 < r.2.1 ∧ ∀ l, c.getLast? = some l → l.1 ≠ r.1 := by
  have hlen : (c ++ [r]).length = c.length + 1 := by rw [List.length_append]; rfl
  have hbad : badI (c ++ [r]) c.length = badAt (c ++ [r]) c.length r := by unfold badI; rw [List.getElem?_concat_length]; rfl
  have hend : badAt (c ++ [r]) c.length r = none ↔ lastN c r.1 < r.2.1 ∧ ∀ l, c.getLast? = some l → l.1 ≠ r.1 := by
    unfold badAt
    rw [List.take_left]
    by_cases h1 : r.2.1 ≤ lastN c r.1
    · rw [if_pos h1]
      exact ⟨fun h => (nomatch h), fun h => absurd h.1 (by omega)⟩
    · rw [if_neg h1]
      have key : (0 < c.length ∧ ((c ++ [r])[c.length - 1]?.map (·.1)) = some r.1) ↔ ∃ l, c.getLast? = some l ∧ l.1 = r.1 := by
        constructor
        · rintro ⟨h2, h3⟩
          rw [List.getElem?_append_left (by omega), ← List.getLast?_eq_getElem?] at h3
          obtain ⟨l, hl, e⟩ := Option.map_eq_some_iff.mp h3
          exact ⟨l, hl, e⟩
        · rintro ⟨l, hl, e⟩
          have hne : c ≠ [] := fun q => by rw [q] at hl; cases hl
          have hpos := List.length_pos_iff.mpr hne
          refine ⟨hpos, ?_⟩
          rw [List.getElem?_append_left (by omega), ← List.getLast?_eq_getElem?, hl]
          show some l.1 = _
          rw [e]
      by_cases h2 : 0 < c.length ∧ ((c ++ [r])[c.length - 1]?.map (·.1)) = some r.1
      · rw [if_pos h2]
        obtain ⟨l, hl, e⟩ := key.mp h2
        exact ⟨fun h => (nomatch h), fun h => absurd e (h.2 l hl)⟩
      · rw [if_neg h2]
        exact ⟨fun _ => ⟨by omega, fun l hl e => h2 (key.mpr ⟨l, hl, e⟩)⟩, fun _ => rfl⟩
  unfold App
  rw [hlen]
  constructor
  · rintro ⟨h0, h1⟩
    have h2 := h1 c.length (by omega)
    rw [hbad, hend] at h2
    refine ⟨⟨?_, fun i hi => by rw [← badI_take hi]; exact h1 i (by omega)⟩, fun e => ?_, h2⟩
    · cases c with
      | nil => rfl
      | cons a t => exact h0
    · subst e
      have h0 : (!decide (r.2.1 = 1)) = false := h0
      simpa using h0
  · rintro ⟨⟨h0, h1⟩, h2, h3⟩
    refine ⟨?_, fun i hi => ?_⟩
    · cases c with
      | nil =>
        show (!decide (r.2.1 = 1)) = false
        rw [h2 rfl]
        rfl
      | cons a t => exact h0
    · by_cases e : i < c.length
      · rw [badI_take e]; exact h1 i e
      · have e : i = c.length := by omega
        subst e
        rw [hbad]
        exact hend.mpr h3
theorem lastN_end (c : List Y.Run) (m : Y.Run) : lastN (c ++ [m]) m.1 = m.2.2 := by rw [lastN_snoc, if_pos rfl]

theorem sumC_nn {t : Cnt} (h : ∀ p ∈ t, 0 ≤ p.2) : 0 ≤ (t.map (·.2)).sum := by
  induction t with
  | nil => exact Int.le_refl _
  | cons q r ih =>
    rw [List.map_cons, List.sum_cons]
    have := h q List.mem_cons_self
    have := ih fun x hx => h x (List.mem_cons_of_mem _ hx)
    omega
theorem finA_app {cs : Cnt} {c : List Y.Run} (hne : c ≠ []) (h : isNone (.d (finA cs c)) = true) : App c := by
  cases c with
  | nil => exact absurd rfl hne
  | cons x c =>
    refine obsA_none ?_
    unfold finA at h
    rw [if_neg (by exact Bool.false_ne_true)] at h
    by_cases e : isNone (.d (obsA (x :: c))) = false
    · rw [if_pos e] at h
      rw [h] at e
      cases e
    · simpa using e

theorem snoc_ind {α : Type} {p : List α → Prop} (h0 : p []) (h1 : ∀ l a, p l → p (l ++ [a])) (l : List α) : p l := by
  have : ∀ m : List α, p m.reverse := fun m => by
    induction m with
    | nil => exact h0
    | cons a m ih => rw [List.reverse_cons]; exact h1 _ _ ih
  have := this l.reverse
  rwa [List.reverse_reverse] at this

theorem sumC_le {cs : Cnt} (h0 : ∀ p ∈ cs, 0 ≤ p.2) : ∀ p ∈ cs, p.2 ≤ (cs.map (·.2)).sum := fun p hp => by
  induction cs with
  | nil => cases hp
  | cons q r ih =>
    rw [List.map_cons, List.sum_cons]
    have hq := h0 q List.mem_cons_self
    have hr : ∀ t : Cnt, (∀ p ∈ t, 0 ≤ p.2) → 0 ≤ (t.map (·.2)).sum := fun t => by
      induction t with
      | nil => intro _; exact Int.le_refl _
      | cons q r ih =>
        intro h
        rw [List.map_cons, List.sum_cons]
        have := h q List.mem_cons_self
        have := ih fun x hx => h x (List.mem_cons_of_mem _ hx)
        omega
    rcases List.mem_cons.mp hp with rfl | hp
    · have := hr r fun x hx => h0 x (List.mem_cons_of_mem _ hx)
      omega
    · have := ih (fun x hx => h0 x (List.mem_cons_of_mem _ hx)) hp
      omega


theorem gap_bds {cs : Cnt} {c : List Y.Run} : ∀ g ∈ gapsA cs c, 0 ≤ g.2.2.2.1 ∧ 0 ≤ g.2.2.2.2 + 1 ∧ g.2.2.2.2 < (c.length : Int) := fun g hg => by
  have hm : g ∈ rawAll cs c := (List.mergeSort_perm _ _).mem_iff.mp hg
  have st0 : ∀ i z, i ≤ c.length → -1 ≤ (stAt c i z).2 := fun i z => by
    induction i with
    | zero => intro _; exact Int.le_refl _
    | succ i ih =>
      intro h
      have hi : c[i]? = some c[i] := List.getElem?_eq_getElem (by omega)
      rw [stAt_succ hi]
      split
      · show -1 ≤ (i : Int)
        omega
      · exact ih (by omega)
  unfold rawAll at hm
  rcases List.mem_append.mp hm with hm | hm
  · unfold rawA at hm
    obtain ⟨i, hi, hm⟩ := List.mem_flatMap.mp hm
    have hi := List.mem_range.mp hi
    unfold emA at hm
    rw [List.getElem?_eq_getElem hi] at hm
    dsimp only at hm
    split at hm
    · rw [List.mem_singleton.mp hm]
      have := st0 i c[i].1 (by omega)
      refine ⟨by show 0 ≤ (stAt c i c[i].1).2 + 1; omega, by show 0 ≤ (i : Int) - 1 + 1; omega, by show (i : Int) - 1 < _; omega⟩
    · cases hm
  · obtain ⟨p, hp, hm⟩ := List.mem_flatMap.mp hm
    unfold tlA at hm
    split at hm
    · rw [List.mem_singleton.mp hm]
      have := st0 c.length p.1 (Nat.le_refl _)
      refine ⟨by show 0 ≤ (stAt c c.length p.1).2 + 1; omega, by show 0 ≤ (c.length : Int) - 1 + 1; omega, by show (c.length : Int) - 1 < _; omega⟩
    · cases hm

theorem stAt_lt (c : List Y.Run) (z : Str) : ∀ i, i ≤ c.length → (stAt c i z).2 < (i : Int)
  | 0, _ => by show (-1 : Int) < 0; decide
  | i + 1, h => by
    have hi : c[i]? = some c[i] := List.getElem?_eq_getElem (by omega)
    rw [stAt_succ hi]
    split
    · show (i : Int) < _
      omega
    · have := stAt_lt c z i (by omega)
      omega
theorem gap_le {cs : Cnt} {c : List Y.Run} (okc : okCnt cs) (h : isNone (.d (finA cs c)) = true) : ∀ g ∈ gapsA cs c, g.2.2.2.1 ≤ g.2.2.2.2 := fun g hg => by
  have hm : g ∈ rawAll cs c := (List.mergeSort_perm _ _).mem_iff.mp hg
  unfold rawAll at hm
  by_cases hne : c = []
  · subst hne
    rcases List.mem_append.mp hm with hm | hm
    · cases hm
    · obtain ⟨p, hp, hm⟩ := List.mem_flatMap.mp hm
      unfold tlA at hm
      split at hm
      · rename_i hlt
        have hlt : (0 : Int) < p.2 := hlt
        have h1 := sumC_le (fun q hq => (okc.2.2.2 q hq).2.1) p hp
        have h2 : isNone (.d (if 0 < (cs.map (·.2)).sum then .tuple [.str "empty"] else .none)) = true := h
        rw [if_pos (by omega)] at h2
        cases h2
      · cases hm
  have ha := finA_app hne h
  rcases List.mem_append.mp hm with hm | hm
  · unfold rawA at hm
    obtain ⟨i, hi, hm⟩ := List.mem_flatMap.mp hm
    have hi := List.mem_range.mp hi
    have hci : c[i]? = some c[i] := List.getElem?_eq_getElem hi
    unfold emA at hm
    rw [hci] at hm
    dsimp only at hm
    have hbad := ha.2 i hi
    have hlt := stAt_lt c c[i].1 i (by omega)
    split at hm
    · rename_i hgap
      rw [List.mem_singleton.mp hm]
      show (stAt c i c[i].1).2 + 1 ≤ (i : Int) - 1
      cases i with
      | zero =>
        exfalso
        have h0 : (stAt c 0 c[0].1).1 = 0 := rfl
        rw [h0] at hgap
        have hs := ha.1
        cases c with
        | nil => exact hne rfl
        | cons r t =>
          have hs : (!decide (r.2.1 = 1)) = false := hs
          have hs : r.2.1 = 1 := by simpa using hs
          have hgap : (0 : Int) + 1 < r.2.1 := hgap
          omega
      | succ j =>
        have hj : c[j]? = some c[j] := List.getElem?_eq_getElem (by omega)
        have hlt2 := stAt_lt c c[j + 1].1 j (by omega)
        have hst := stAt_succ (c := c) hj c[j + 1].1
        by_cases e : c[j].1 = c[j + 1].1
        · exfalso
          unfold badI at hbad
          rw [hci] at hbad
          have hbad : badAt c (j + 1) c[j + 1] = none := hbad
          unfold badAt at hbad
          split at hbad
          · cases hbad
          · rw [if_pos ⟨by omega, by show (c[j]?.map (·.1)) = _; rw [hj]; show some c[j].1 = _; rw [e]⟩] at hbad
            cases hbad
        · rw [if_neg e] at hst
          rw [hst]
          omega
    · cases hm
  · obtain ⟨p, hp, hm⟩ := List.mem_flatMap.mp hm
    unfold tlA at hm
    split at hm
    · rename_i hgap
      rw [List.mem_singleton.mp hm]
      show (stAt c c.length p.1).2 + 1 ≤ (c.length : Int) - 1
      have hpos := List.length_pos_iff.mpr hne
      obtain ⟨n, hn⟩ : ∃ n, c.length = n + 1 := ⟨c.length - 1, by omega⟩
      have hl : c[n]? = some c[n] := List.getElem?_eq_getElem (by omega)
      have hst := stAt_succ (c := c) hl p.1
      have hlt2 := stAt_lt c p.1 n (by omega)
      have hcl : c.getLast? = some c[n] := by rw [List.getLast?_eq_getElem?, show c.length - 1 = n by omega]; exact hl
      rw [hn] at hgap ⊢
      rw [hst] at hgap ⊢
      by_cases e : c[n].1 = p.1
      · exfalso
        rw [if_pos e] at hgap
        have hgap : c[n].2.2 < p.2 := hgap
        have hend : isNone (.d (finA cs c)) = decide (c[n].2.2 = (getC cs c[n].1).getD 0) := by
          cases c with
          | nil => exact absurd rfl hne
          | cons r t =>
            have hs : (!decide (r.2.1 = 1)) = false := ha.1
            have hs : r.2.1 = 1 := by simpa using hs
            rw [finA_end ha.2 rfl hcl, decide_eq_true hs, Bool.true_and]
        rw [h] at hend
        have hend := of_decide_eq_true hend.symm
        rw [e, getC_mem okc.2.2.1 hp] at hend
        have hend : c[n].2.2 = p.2 := hend
        omega
      · rw [if_neg e]
        omega
    · cases hm


theorem fin_nil {rows : Cnt} (h : ∀ p ∈ rows, p.2 ≤ 0) : isNone (.d (finA rows [])) = true := by
  have s0 : ∀ t : Cnt, (∀ p ∈ t, p.2 ≤ 0) → (t.map (·.2)).sum ≤ 0 := fun t => by
    induction t with
    | nil => exact fun _ => Int.le_refl _
    | cons q r ih =>
      intro h
      rw [List.map_cons, List.sum_cons]
      have := h q List.mem_cons_self
      have := ih fun x hx => h x (List.mem_cons_of_mem _ hx)
      omega
  have := s0 rows h
  show isNone (.d (if 0 < (rows.map (·.2)).sum then .tuple [.str "empty"] else .none)) = true
  rw [if_neg (by omega)]
  rfl
theorem fin_app {rows : Cnt} {c : List Y.Run} {r : Y.Run} (h : App (c ++ [r])) (e : r.2.2 = (getC rows r.1).getD 0) : isNone (.d (finA rows (c ++ [r]))) = true := by
  have he : (c ++ [r]).isEmpty = false := by cases c <;> rfl
  have hn : isNone (.d (.none : PyData)) = true := rfl
  unfold finA
  rw [if_neg (by rw [he]; exact Bool.false_ne_true), obsA_app h, if_neg (by rw [hn]; decide), List.getLast?_concat]
  show isNone (.d (if r.2.2 ≠ (getC rows r.1).getD 0 then .tuple [.str "end"] else .none)) = true
  rw [if_neg (fun z => z e)]
  rfl
theorem App_nil : App [] := ⟨rfl, fun i hi => absurd hi (Nat.not_lt_zero i)⟩
theorem App_one (z : Str) (n : Int) : App [(z, 1, n)] := (App_snoc (c := []) (r := (z, 1, n))).mpr ⟨App_nil, fun _ => rfl, (by show (0 : Int) < 1; decide), fun _ h => (nomatch h)⟩
theorem App_last {c : List Y.Run} {r : Y.Run} {v : Int} (h : App (c ++ [r])) : App (c ++ [(r.1, r.2.1, v)]) := by
  rw [App_snoc] at h ⊢
  exact h
section
variable {P : Program} {w : World} {K : PySem.W.Frag} {mg : Str → Option Value} {base : Heap}

local macro_rules | `(tactic| walk_at "nm") => `(tactic| first | ((with_reducible refine de_name (x := "bowl") (i := 0) (s := ?s) ?hN ?hv ?ht ?q ?hd ?hcd); (case hN => rfl); (case hv => walk_at "vis"); (case ht => rfl); (case hd => decide); (case hcd => decide)) | ((with_reducible refine de_name (x := "rows") (i := 1) (s := ?s) ?hN ?hv ?ht ?q ?hd ?hcd); (case hN => rfl); (case hv => walk_at "vis"); (case ht => rfl); (case hd => decide); (case hcd => decide)) | ((with_reducible refine de_name (x := "most") (i := 2) (s := ?s) ?hN ?hv ?ht ?q ?hd ?hcd); (case hN => rfl); (case hv => walk_at "vis"); (case ht => rfl); (case hd => decide); (case hcd => decide)) | ((with_reducible refine de_name (x := "some") (i := 3) (s := ?s) ?hN ?hv ?ht ?q ?hd ?hcd); (case hN => rfl); (case hv => walk_at "vis"); (case ht => rfl); (case hd => decide); (case hcd => decide)) | ((with_reducible refine de_name (x := "ends") (i := 4) (s := ?s) ?hN ?hv ?ht ?q ?hd ?hcd); (case hN => rfl); (case hv => walk_at "vis"); (case ht => rfl); (case hd => decide); (case hcd => decide)) | ((with_reducible refine de_name (x := "upto") (i := 5) (s := ?s) ?hN ?hv ?ht ?q ?hd ?hcd); (case hN => rfl); (case hv => walk_at "vis"); (case ht => rfl); (case hd => decide); (case hcd => decide)) | ((with_reducible refine de_name (x := "opener") (i := 6) (s := ?s) ?hN ?hv ?ht ?q ?hd ?hcd); (case hN => rfl); (case hv => walk_at "vis"); (case ht => rfl); (case hd => decide); (case hcd => decide)) | ((with_reducible refine de_name (x := "found") (i := 7) (s := ?s) ?hN ?hv ?ht ?q ?hd ?hcd); (case hN => rfl); (case hv => walk_at "vis"); (case ht => rfl); (case hd => decide); (case hcd => decide)) | ((with_reducible refine de_name (x := "behind") (i := 8) (s := ?s) ?hN ?hv ?ht ?q ?hd ?hcd); (case hN => rfl); (case hv => walk_at "vis"); (case ht => rfl); (case hd => decide); (case hcd => decide)) | ((with_reducible refine de_name (x := "k") (i := 9) (s := ?s) ?hN ?hv ?ht ?q ?hd ?hcd); (case hN => rfl); (case hv => walk_at "vis"); (case ht => rfl); (case hd => decide); (case hcd => decide)) | ((with_reducible refine de_name (x := "free") (i := 10) (s := ?s) ?hN ?hv ?ht ?q ?hd ?hcd); (case hN => rfl); (case hv => walk_at "vis"); (case ht => rfl); (case hd => decide); (case hcd => decide)) | ((with_reducible refine de_name (x := "writer") (i := 11) (s := ?s) ?hN ?hv ?ht ?q ?hd ?hcd); (case hN => rfl); (case hv => walk_at "vis"); (case ht => rfl); (case hd => decide); (case hcd => decide)) | ((with_reducible refine de_name (x := "left") (i := 12) (s := ?s) ?hN ?hv ?ht ?q ?hd ?hcd); (case hN => rfl); (case hv => walk_at "vis"); (case ht => rfl); (case hd => decide); (case hcd => decide)) | ((with_reducible refine de_name (x := "first") (i := 13) (s := ?s) ?hN ?hv ?ht ?q ?hd ?hcd); (case hN => rfl); (case hv => walk_at "vis"); (case ht => rfl); (case hd => decide); (case hcd => decide)) | ((with_reducible refine de_name (x := "last") (i := 14) (s := ?s) ?hN ?hv ?ht ?q ?hd ?hcd); (case hN => rfl); (case hv => walk_at "vis"); (case ht => rfl); (case hd => decide); (case hcd => decide)))


def R_last : Rr := fun _ ss M Q => ∃ (b q : Addr) (n : Nat) (rows : Cnt) (most : Int), ss = [.c b, .d (eCnt rows), dI most] ∧ Bowl M b q n ∧ n < 900000000 ∧ okCnt rows ∧ 0 < most ∧ most ≤ 200 ∧ ∀ p (d : List Y.Run) M', Fx b q M M' → p ≠ b → p ≠ q → M p = none → M' p = some (.l (d.map sRun)) → Bowl M' b q (n + 1100) → (d.length : Int) ≤ most + 1 → okC (some rows) d → isNone (.d (finA rows d)) = true → Q (.c p) M'
set_option maxHeartbeats 8000000 in
theorem ok_law_last (F : FunAt K mg "_law_last" s__law_last ["bowl", "rows", "most"]) (c1 : Cal P w K mg base "_law_dip" 1 ["bowl", "many"] R_dip) (b1 : mg "sorted" = none) (b2 : mg "len" = none) (b3 : mg "dict" = none) (b4 : mg "int" = none) (b5 : mg "min" = none) (b6 : mg "range" = none) : Cal P w K mg base "_law_last" 2 ["bowl", "rows", "most"] R_last := by
  refine cal_of F sc__law_last (fun _ ss _ _ ⟨b, q, n, r, m, h, _⟩ => by rw [h]; rfl) (fun f cdv A outer s H E L us M Q hr h => ?_)
  obtain ⟨b, q, n, rows, most, rfl, bw, hn, okr, hm0, hm1, fin⟩ := h
  obtain ⟨l1, l12, nd, okp⟩ := okr
  have val : ∀ {z : Str} {v : Int}, getC rows z = some v → okName z = true ∧ 0 ≤ v ∧ v ≤ 10 ^ 30 := fun h => by
    obtain ⟨p, hp, rfl, rfl⟩ := getC_some h
    exact okp p hp
  refine db_cons (ds_setLc1 (i := 3) (own := [("writer", 11)]) (g := gName 11) rfl sc__law_last.nd rfl rfl (by with_unfolding_all rfl) (blkOk_by (own := [("writer", 11)]) (N := ["bowl", "rows", "most", "some", "ends", "upto", "opener", "found", "behind", "k", "free", "writer", "left", "first", "last"]) (sc := defScope s__law_last) (by decide +kernel)) (fun _ _ _ _ _ => pg_name (i := 11) sc__law_last.nd rfl (.inl rfl)) (di_seq (de_callB (call_sortedD rfl) (by rfl) b1 bt_sorted (da_cons ?_))))
  walk_at "nm"
  refine da_nil (k_sortedD (.d (kdC rows)) (keys_C rows) (by rw [List.length_map]; omega) fun ys p0 hperm hsort hp0 => ?_)
  have hmem : ∀ y ∈ ys, ∃ v, getC rows y = some v := fun y hy => by
    obtain ⟨p, hp, e⟩ := List.mem_map.mp (hperm.mem_iff.mp hy)
    exact ⟨p.2, by rw [← e]; exact getC_mem nd hp⟩
  have hyl : ys.length ≤ 12 := by rw [hperm.length_eq, List.length_map]; exact l12
  have hynd : ys.Nodup := hperm.nodup_iff.mpr nd
  have s0 : seqOf (updC M p0 (.l (ys.map dS))) (.c p0) = some (ys.map dS) := by simp only [seqOf, updC_same]
  have sub0 : Sub M (updC M p0 (.l (ys.map dS))) := (Sub.refl M).new hp0
  have bw0 : Bowl (updC M p0 (.l (ys.map dS))) b q n := bw.upd (bw.nb hp0).1 (bw.nb hp0).2
  generalize updC M p0 (.l (ys.map dS)) = M1 at s0 sub0 bw0
  refine ⟨ys.map dS, s0, fun D hD => ?_⟩
  have hDM : M D = none := sub0.none hD
  have Db := bw0.nb hD
  refine ⟨fun i M' => M' = updC M1 D (.l (((ys.take i).filter fun y => decide (0 < gv rows y)).map dS)), rfl, ?_, ?_, ?_⟩
  · rintro i M' rfl
    exact seqOf_updC s0 hD
  · rintro i y M' hi hy rfl
    rw [List.length_map] at hi
    have hy' : y = dS ys[i] := by
      rw [List.getElem?_map, List.getElem?_eq_getElem hi] at hy
      exact (Option.some.inj hy).symm
    subst hy'
    obtain ⟨v, hv⟩ := hmem _ (List.getElem_mem hi)
    have htk : (ys.take (i + 1)).filter (fun y => decide (0 < gv rows y)) = (ys.take i).filter (fun y => decide (0 < gv rows y)) ++ if 0 < v then [ys[i]] else [] := by
      rw [List.take_add_one, List.getElem?_eq_getElem hi, List.filter_append]
      show _ ++ List.filter _ [_] = _
      rw [List.filter_cons]
      have : gv rows ys[i] = v := by unfold gv; rw [hv]; rfl
      rw [this]
      by_cases e : 0 < v
      · rw [if_pos (decide_eq_true e), if_pos e]; rfl
      · rw [if_neg (fun z => e (of_decide_eq_true z)), if_neg e]; rfl
    have hle := List.length_filter_le (fun y => decide (0 < gv rows y)) (ys.take i)
    rw [List.length_take] at hle
    refine wgw_name (by simp) ?_
    intro s0' H0 C cl fp
    refine dt_cmp op_gt (de_dget (hu_of hr) ?_) (by with_unfolding_all rfl)
    walk_at "nm"
    walk_at "nm"
    refine ⟨_, .inr ys[i], dI v, .d (kdC rows), rfl, by rw [valS_C, hv]; rfl, de_int (k_bool ⟨_, rfl, fun h => ?_, fun h => ?_⟩)⟩
    · have h := of_decide_eq_true h
      intro s0' H0 C cl fp
      walk_at "nm"
      refine ⟨_, updC_same, ?_, ?_⟩
      · rw [List.length_map, sizeLine_eq]
        omega
      · show updC _ _ _ = updC _ _ _
        rw [updC_updC, htk, if_pos (by omega), List.map_append]
        rfl
    · have h := of_decide_eq_false h
      show updC _ _ _ = updC _ _ _
      rw [htk, if_neg (by omega), List.append_nil]
  rintro M' rfl
  rw [List.length_map, List.take_length]
  have hws : ∀ y ∈ ys.filter (fun y => decide (0 < gv rows y)), ∃ v, getC rows y = some v ∧ gv rows y = v ∧ 0 < v := fun y hy => by
    obtain ⟨h1, h2⟩ := List.mem_filter.mp hy
    obtain ⟨v, hv⟩ := hmem y h1
    have e : gv rows y = v := by unfold gv; rw [hv]; rfl
    have h2 := of_decide_eq_true h2
    exact ⟨v, hv, e, by omega⟩
  have hwall : ∀ p ∈ rows, 0 < p.2 → p.1 ∈ ys.filter (fun y => decide (0 < gv rows y)) := fun p hp h0 => by
    refine List.mem_filter.mpr ⟨hperm.mem_iff.mpr (List.mem_map_of_mem hp), decide_eq_true ?_⟩
    unfold gv
    rw [getC_mem nd hp]
    exact h0
  have hwnd : (ys.filter fun y => decide (0 < gv rows y)).Nodup := hynd.sublist List.filter_sublist
  have hwl : (ys.filter fun y => decide (0 < gv rows y)).length ≤ 12 := Nat.le_trans (List.length_filter_le _ _) hyl
  generalize ys.filter (fun y => decide (0 < gv rows y)) = ws at hws hwnd hwl hwall
  have okw : ∀ y ∈ ws, okName y = true := fun y hy => by
    obtain ⟨v, hv, _⟩ := hws y hy
    exact (val hv).1
  have fx1 : Fx b q M (updC M1 D (.l (ws.map dS))) := (Sub.fx sub0).put hDM
  have bw1 : Bowl (updC M1 D (.l (ws.map dS))) b q n := bw0.upd Db.1 Db.2
  have m1D : updC M1 D (.l (ws.map dS)) D = some (.l (ws.map dS)) := updC_same
  generalize updC M1 D (.l (ws.map dS)) = M2 at bw1 fx1 m1D
  have isw : Y.IsD M2 (.c D) (.list (ws.map PyData.str)) := IsD.cell (by rw [m1D, List.map_map]; rfl)
  refine db_cons (ds_if (dt_cmp (op_eqD hr.units) ?_ (by with_unfolding_all rfl)))
  walk_at "nm"
  refine de_lstD (da_nil ⟨[], rfl, Nat.zero_le _, k_eqD isw (.d (.list [])) (shaped_list PyData.str ws 0 (by decide) (fun y hy => strOk_name (okw y hy)) (fun _ _ => Nat.le_refl 0)) (by decide +kernel) ?_⟩)
  rw [show PyData.eqv (.list (ws.map PyData.str)) (.list []) = decide (ws = []) from eqv_list PyData.str eqv_str ws []]
  refine ⟨_, rfl, fun h => ?_, fun h => db_nil ?_⟩
  · refine db_cons (ds_ret (de_lstC (da_nil ⟨Nat.zero_le _, fun p hp => ?_⟩)))
    have pb := bw1.nb hp
    exact fin p [] _ (fx1.put (fx1.none pb.1 pb.2 hp)) pb.1 pb.2 (fx1.none pb.1 pb.2 hp) updC_same ((bw1.upd pb.1 pb.2).mono (by omega)) (by show (0 : Int) ≤ most + 1; omega) (okC_nil _) (fin_nil fun p hp => by
      by_cases e : 0 < p.2
      · have := hwall p hp e
        rw [of_decide_eq_true h] at this
        cases this
      · omega)
  have hwne : ws ≠ [] := of_decide_eq_false h
  have hwpos : 0 < ws.length := List.length_pos_iff.mpr hwne
  have sw : ∀ {M' : Cs}, M' D = some (.l (ws.map dS)) → seqOf M' (.c D) = some (ws.map dS) := fun h => by simp only [seqOf, h]
  -- ends
  refine db_cons (ds_set (i := 4) sc__law_last.nd rfl (.inr rfl) (de_ix ?_))
  walk_at "nm"
  refine de_callC c1 hr (by rfl) (da_cons ?_)
  walk_at "nm"
  refine da_cons (de_callB call_len_seq (by rfl) b2 bt_len (da_cons ?_))
  walk_at "nm"
  refine da_nil (k_len (sw m1D) (da_nil ⟨b, q, _, _, rfl, bw1, by omega, by rw [List.length_map]; omega, by rw [List.length_map]; omega, fun M3 r3 fr3 bw3 h30 h31 => ?_⟩))
  rw [List.length_map] at h31
  have hj : r3.toNat < ws.length := by omega
  have m3D : M3 D = some (.l (ws.map dS)) := by rw [fr3 D Db.1 Db.2]; exact m1D
  have fx3 := fx1.dip fr3
  refine ⟨ws.map dS, ((r3.toNat : Nat) : Int), dS ws[r3.toNat], sw m3D, (by rw [Int.toNat_of_nonneg h30]; rfl), atI_nat (by rw [List.getElem?_map, List.getElem?_eq_getElem hj]; rfl), ?_⟩
  have hen := List.getElem_mem hj
  generalize ws[r3.toNat] = en at hen
  -- upto
  have hup : ∀ y ∈ ws, 0 ≤ gv rows y - (if y = en then 1 else 0) := fun y hy => by
    obtain ⟨v, _, e, h0⟩ := hws y hy
    split <;> omega
  refine db_cons (ds_set (i := 5) sc__law_last.nd rfl (.inr rfl) (de_callT (call_dictP rfl) (by rfl) b3 bt_dict (da_cons (de_lc0 (own := [("writer", 11)]) (g := gName 11) rfl sc__law_last.nd (blkOk_by (own := [("writer", 11)]) (N := ["bowl", "rows", "most", "some", "ends", "upto", "opener", "found", "behind", "k", "free", "writer", "left", "first", "last"]) (sc := defScope s__law_last) (by decide +kernel)) (fun _ _ _ _ _ => pg_name (i := 11) sc__law_last.nd rfl (.inl rfl)) (di_seq ?_)))))
  walk_at "nm"
  refine ⟨ws.map dS, sw m3D, fun D4 hD4 => ?_⟩
  have nD4 : D ≠ D4 := neC m3D hD4
  have D4b := bw3.nb hD4
  have hD4M : M D4 = none := fx3.none D4b.1 D4b.2 hD4
  refine ⟨fun i M' => M' = updC M3 D4 (.l ((kdC (tabC (fun y => gv rows y - (if y = en then 1 else 0)) (ws.take i))).map Y.prD)), rfl, ?_, ?_, ?_⟩
  · rintro i M' rfl
    exact sw (by rw [updC_ne nD4]; exact m3D)
  · rintro i y M' hi hy rfl
    rw [List.length_map] at hi
    have hy' : y = dS ws[i] := by
      rw [List.getElem?_map, List.getElem?_eq_getElem hi] at hy
      exact (Option.some.inj hy).symm
    subst hy'
    obtain ⟨v, hv, ev, v0⟩ := hws _ (List.getElem_mem hi)
    refine wgw_name (by simp) ?_
    intro s0' H0 C cl fp
    refine de_tupD (da_cons ?_)
    walk_at "nm"
    refine da_cons (de_sub (de_dget (hu_of hr) ?_))
    walk_at "nm"
    walk_at "nm"
    refine ⟨_, .inr ws[i], dI v, .d (kdC rows), rfl, by rw [valS_C, hv]; rfl, de_callT call_int1 (by rfl) b4 bt_int (da_cons (de_cmp op_eq ?_ (by with_unfolding_all rfl)))⟩
    walk_at "nm"
    walk_at "nm"
    refine k_eqS (da_nil (k_intB ⟨_, _, rfl, rfl, da_nil ⟨[.str ws[i], .int (v - (if decide (ws[i] = en) = true then 1 else 0))], rfl, (by show 2 ≤ sizeLine; decide), _, updC_same, ?_, ?_⟩⟩))
    · unfold kdC tabC
      rw [List.length_map, List.length_map, List.length_map, List.length_take, sizeLine_eq]
      omega
    · show updC _ _ _ = updC _ _ _
      rw [updC_updC]
      congr 2
      unfold kdC tabC
      rw [List.take_add_one, List.getElem?_eq_getElem hi]
      simp only [List.map_append]
      congr 1
      show [Sl.d (PyData.tuple [.str ws[i], .int (v - (if decide (ws[i] = en) = true then 1 else 0))])] = [Sl.d (PyData.tuple [.str ws[i], .int (gv rows ws[i] - (if ws[i] = en then 1 else 0))])]
      rw [ev]
      simp only [decide_eq_true_eq]
  rintro M' rfl
  rw [List.length_map, List.take_length]
  generalize hU : (fun y => gv rows y - (if y = en then 1 else 0)) = up
  have hup : ∀ y ∈ ws, 0 ≤ up y ∧ up y ≤ gv rows y := fun y hy => by
    have h1 := hup y hy
    have h2 : up y = gv rows y - (if y = en then 1 else 0) := by rw [← hU]
    rw [h2]
    refine ⟨h1, ?_⟩
    split <;> omega
  have hupe : up en = gv rows en - 1 := by rw [← hU]; show gv rows en - (if en = en then 1 else 0) = _; rw [if_pos rfl]
  have m4D4 : updC M3 D4 (.l ((kdC (tabC up ws)).map Y.prD)) D4 = some (.l ((kdC (tabC up ws)).map Y.prD)) := updC_same
  have m4D : updC M3 D4 (.l ((kdC (tabC up ws)).map Y.prD)) D = some (.l (ws.map dS)) := by rw [updC_ne nD4]; exact m3D
  have bw4 : Bowl (updC M3 D4 (.l ((kdC (tabC up ws)).map Y.prD))) b q (n + 1) := bw3.upd D4b.1 D4b.2
  have fx4 : Fx b q M (updC M3 D4 (.l ((kdC (tabC up ws)).map Y.prD))) := fx3.put hD4M
  generalize updC M3 D4 (.l ((kdC (tabC up ws)).map Y.prD)) = M4 at m4D4 m4D bw4 fx4
  have ndt : ∀ f : Str → Int, ((tabC f ws).map (·.1)).Nodup := fun f => by rw [tabC_keys]; exact hwnd
  refine da_nil (k_dictP (kd := kdC (tabC up ws)) rfl (by simp only [seqOf, m4D4]) fun pu hpu => ?_)
  rw [merge_cnt (ndt up)]
  have nDu : D ≠ pu := neC m4D hpu
  have pub := bw4.nb hpu
  have hpuM : M pu = none := fx4.none pub.1 pub.2 hpu
  have m5u : updC M4 pu (.k (slK (kdC (tabC up ws)))) pu = some (.k (slK (kdC (tabC up ws)))) := updC_same
  have m5D : updC M4 pu (.k (slK (kdC (tabC up ws)))) D = some (.l (ws.map dS)) := by rw [updC_ne nDu]; exact m4D
  have bw5 := bw4.upd (c := .k (slK (kdC (tabC up ws)))) pub.1 pub.2
  have fx5 := fx4.put (c := .k (slK (kdC (tabC up ws)))) hpuM
  generalize updC M4 pu (.k (slK (kdC (tabC up ws)))) = M5 at m5u m5D bw5 fx5
  -- opener
  refine db_cons (ds_set (i := 6) sc__law_last.nd rfl (.inr rfl) (de_ix ?_))
  walk_at "nm"
  refine de_callC c1 hr (by rfl) (da_cons ?_)
  walk_at "nm"
  refine da_cons (de_callB call_len_seq (by rfl) b2 bt_len (da_cons ?_))
  walk_at "nm"
  refine da_nil (k_len (sw m5D) (da_nil ⟨b, q, _, _, rfl, bw5, by omega, by rw [List.length_map]; omega, by rw [List.length_map]; omega, fun M6 r6 fr6 bw6 h60 h61 => ?_⟩))
  rw [List.length_map] at h61
  have hj6 : r6.toNat < ws.length := by omega
  have m6D : M6 D = some (.l (ws.map dS)) := by rw [fr6 D Db.1 Db.2]; exact m5D
  have m6u : M6 pu = some (.k (slK (kdC (tabC up ws)))) := by rw [fr6 pu pub.1 pub.2]; exact m5u
  have fx6 := fx5.dip fr6
  refine ⟨ws.map dS, ((r6.toNat : Nat) : Int), dS ws[r6.toNat], sw m6D, (by rw [Int.toNat_of_nonneg h60]; rfl), atI_nat (by rw [List.getElem?_map, List.getElem?_eq_getElem hj6]; rfl), ?_⟩
  have hop := List.getElem_mem hj6
  generalize ws[r6.toNat] = op at hop
  have hval : ∀ {f : Str → Int} {y : Str}, y ∈ ws → valS (slK (kdC (tabC f ws))) (.inr y) = some (dI (f y)) := fun hy => by rw [valS_C, tabC_get _ hy]; rfl
  obtain ⟨vo, hvo, evo, vo0⟩ := hws op hop
  obtain ⟨hu0, hu1⟩ := hup op hop
  have hvb := (val hvo).2.2
  refine db_cons (ds_if (dt_cmp op_lt (de_dget (hu_of hr) ?_) (by with_unfolding_all rfl)))
  walk_at "nm"
  walk_at "nm"
  refine ⟨_, .inr op, dI (up op), .c m6u, rfl, hval hop, de_int (k_bool ⟨_, rfl, fun h => ?_, fun h => db_nil ?_⟩)⟩
  · refine db_cons (ds_ret (de_lstC (da_cons (de_tupD (da_cons ?_)))))
    walk_at "nm"
    refine da_cons (de_int (da_cons (de_int (da_nil ⟨[.str op, .int 1, .int 1], rfl, (by show 3 ≤ sizeLine; decide), da_nil ⟨(by show 1 ≤ sizeLine; decide), fun p hp => ?_⟩⟩))))
    have pb := bw6.nb hp
    refine fin p [(op, 1, 1)] _ (fx6.put (fx6.none pb.1 pb.2 hp)) pb.1 pb.2 (fx6.none pb.1 pb.2 hp) updC_same ((bw6.upd pb.1 pb.2).mono (by omega)) (by show (1 : Int) ≤ most + 1; omega) ?_ ?_
    · exact okC_snoc (c := []) (okC_nil _) ⟨okw op hop, Int.le_refl _, Int.le_refl _, by show 1 ≤ (getC rows op).getD 0; rw [hvo]; show 1 ≤ vo; omega⟩ fun l hl => (nomatch hl)
    · have h := of_decide_eq_true h
      have hop1 : up op = gv rows op - (if op = en then 1 else 0) := by rw [← hU]
      have hv1 : vo = 1 := by
        rw [evo] at hop1
        split at hop1 <;> omega
      exact fin_app (c := []) (App_one op 1) (by rw [hvo, hv1]; rfl)
  have h1u := of_decide_eq_false h
  -- found
  refine db_cons (ds_set (i := 7) sc__law_last.nd rfl (.inr rfl) ?_)
  refine de_lstC (da_cons (de_tupD (da_cons ?_)))
  walk_at "nm"
  refine da_cons (de_int (da_cons (de_add (de_int (de_callC c1 hr (by rfl) (da_cons ?_))))))
  walk_at "nm"
  refine da_cons (de_callB (call_min2 rfl) (by rfl) b5 bt_min (da_cons (de_dget (hu_of hr) ?_)))
  walk_at "nm"
  walk_at "nm"
  refine ⟨_, .inr op, dI (up op), .c m6u, rfl, hval hop, da_cons (de_ix (de_lstD (da_cons (de_int (da_cons (de_int (da_cons (de_pow (de_int (de_int ⟨_, _, rfl, rfl, powW (k := 4) (by decide) (by decide) (by decide), da_nil ⟨[.int 1, .int 9, .int (10 ^ (30 : Int).toNat)], rfl, (by show 3 ≤ sizeLine; decide), de_callC c1 hr (by rfl) (da_cons ?_)⟩⟩)))))))))) ⟩
  walk_at "nm"
  refine da_cons (de_int (da_nil ⟨b, q, _, 3, rfl, bw6, by omega, by decide, by decide, fun M7 r7 fr7 bw7 h70 h71 => ?_⟩))
  have e7 : ∃ u : Int, 0 < u ∧ u ≤ 10 ^ 30 ∧ atI ([.int 1, .int 9, .int (10 ^ (30 : Int).toNat)].map Sl.d) r7 = some (dI u) := by
    have c8 : r7 = 0 ∨ r7 = 1 ∨ r7 = 2 := by omega
    rcases c8 with rfl | rfl | rfl
    · exact ⟨1, by decide, by decide, rfl⟩
    · exact ⟨9, by decide, by decide, rfl⟩
    · exact ⟨10 ^ (30 : Int).toNat, by decide, by decide, rfl⟩
  obtain ⟨u7, u70, u71, eu7⟩ := e7
  refine ⟨_, r7, dI u7, rfl, rfl, eu7, da_nil (k_min2 ?_)⟩
  have hmin : ∃ m : Int, (if u7 < up op then u7 else up op) = m ∧ 0 < m ∧ m ≤ up op ∧ m ≤ 10 ^ 30 := by
    by_cases e : u7 < up op
    · exact ⟨u7, if_pos e, u70, by omega, u71⟩
    · exact ⟨_, if_neg e, by omega, Int.le_refl _, by omega⟩
  obtain ⟨m7, em7, m70, m71, m72⟩ := hmin
  rw [em7]
  refine da_nil ⟨b, q, _, m7, rfl, bw7, by omega, m70, by omega, fun M8 r8 fr8 bw8 h80 h81 => ⟨_, _, rfl, rfl, da_nil ⟨[.str op, .int 1, .int (1 + r8)], rfl, (by show 3 ≤ sizeLine; decide), da_nil ⟨(by show 1 ≤ sizeLine; decide), fun pf hpf => ?_⟩⟩⟩⟩
  have m8D : M8 D = some (.l (ws.map dS)) := by rw [fr8 D Db.1 Db.2, fr7 D Db.1 Db.2]; exact m6D
  have m8u : M8 pu = some (.k (slK (kdC (tabC up ws)))) := by rw [fr8 pu pub.1 pub.2, fr7 pu pub.1 pub.2]; exact m6u
  have fx8 := (fx6.dip fr7).dip fr8
  have pfb := bw8.nb hpf
  have hpfM : M pf = none := fx8.none pfb.1 pfb.2 hpf
  have nDf : D ≠ pf := neC m8D hpf
  have nuf : pu ≠ pf := neC m8u hpf
  have ok1 : okC (some rows) [(op, 1, 1 + r8)] := okC_snoc (c := []) (okC_nil _) ⟨okw op hop, Int.le_refl _, by show 1 ≤ 1 + r8; omega, by show 1 + r8 ≤ (getC rows op).getD 0; rw [hvo]; show 1 + r8 ≤ vo; omega⟩ fun l hl => nomatch hl
  have m9f : updC M8 pf (.l [Sl.d (.tuple [.str op, .int 1, .int (1 + r8)])]) pf = some (.l ([(op, 1, 1 + r8)].map sRun)) := updC_same
  have m9D : updC M8 pf (.l [Sl.d (.tuple [.str op, .int 1, .int (1 + r8)])]) D = some (.l (ws.map dS)) := by rw [updC_ne nDf]; exact m8D
  have m9u : updC M8 pf (.l [Sl.d (.tuple [.str op, .int 1, .int (1 + r8)])]) pu = some (.k (slK (kdC (tabC up ws)))) := by rw [updC_ne nuf]; exact m8u
  have bw9 := bw8.upd (c := .l [Sl.d (.tuple [.str op, .int 1, .int (1 + r8)])]) pfb.1 pfb.2
  have fx9 := fx8.put (c := .l [Sl.d (.tuple [.str op, .int 1, .int (1 + r8)])]) hpfM
  generalize updC M8 pf (.l [Sl.d (.tuple [.str op, .int 1, .int (1 + r8)])]) = M9 at m9f m9D m9u bw9 fx9
  -- behind
  refine db_cons (ds_set (i := 8) sc__law_last.nd rfl (.inr rfl) (de_callT (call_dictP rfl) (by rfl) b3 bt_dict (da_cons (de_lc0 (own := [("writer", 11)]) (g := gName 11) rfl sc__law_last.nd (blkOk_by (own := [("writer", 11)]) (N := ["bowl", "rows", "most", "some", "ends", "upto", "opener", "found", "behind", "k", "free", "writer", "left", "first", "last"]) (sc := defScope s__law_last) (by decide +kernel)) (fun _ _ _ _ _ => pg_name (i := 11) sc__law_last.nd rfl (.inl rfl)) (di_seq ?_)))))
  walk_at "nm"
  refine ⟨ws.map dS, sw m9D, fun D10 hD10 => ?_⟩
  have nD10 : D ≠ D10 := neC m9D hD10
  have nf10 : pf ≠ D10 := neC m9f hD10
  have nu10 : pu ≠ D10 := neC m9u hD10
  have D10b := bw9.nb hD10
  have hD10M : M D10 = none := fx9.none D10b.1 D10b.2 hD10
  refine ⟨fun i M' => M' = updC M9 D10 (.l ((kdC (tabC (fun y => (1 + r8) * (if y = op then 1 else 0)) (ws.take i))).map Y.prD)), rfl, ?_, ?_, ?_⟩
  · rintro i M' rfl
    exact sw (by rw [updC_ne nD10]; exact m9D)
  · rintro i y M' hi hy rfl
    rw [List.length_map] at hi
    have hy' : y = dS ws[i] := by
      rw [List.getElem?_map, List.getElem?_eq_getElem hi] at hy
      exact (Option.some.inj hy).symm
    subst hy'
    refine wgw_name (by simp) ?_
    intro s0' H0 C cl fp
    refine de_tupD (da_cons ?_)
    walk_at "nm"
    refine da_cons (de_mul (de_ix (de_ix ?_)))
    walk_at "nm"
    refine de_int ⟨[(op, 1, 1 + r8)].map sRun, 0, sRun (op, 1, 1 + r8), by simp only [seqOf, updC_ne nf10, m9f], rfl, rfl, de_int ⟨_, 2, dI (1 + r8), rfl, rfl, rfl, de_callT call_int1 (by rfl) b4 bt_int (da_cons (de_cmp op_eq ?_ (by with_unfolding_all rfl)))⟩⟩
    walk_at "nm"
    walk_at "nm"
    refine k_eqS (da_nil (k_intB ⟨_, _, rfl, rfl, .inr ⟨by split <;> decide, by split <;> decide⟩, da_nil ⟨[.str ws[i], .int ((1 + r8) * (if decide (ws[i] = op) = true then 1 else 0))], rfl, (by show 2 ≤ sizeLine; decide), _, updC_same, ?_, ?_⟩⟩))
    · unfold kdC tabC
      rw [List.length_map, List.length_map, List.length_map, List.length_take, sizeLine_eq]
      omega
    · show updC _ _ _ = updC _ _ _
      rw [updC_updC]
      congr 2
      unfold kdC tabC
      rw [List.take_add_one, List.getElem?_eq_getElem hi]
      simp only [List.map_append]
      congr 1
      show [Sl.d (PyData.tuple [.str ws[i], .int ((1 + r8) * (if decide (ws[i] = op) = true then 1 else 0))])] = [Sl.d (PyData.tuple [.str ws[i], .int ((1 + r8) * (if ws[i] = op then 1 else 0))])]
      simp only [decide_eq_true_eq]
  rintro M' rfl
  rw [List.length_map, List.take_length]
  have hbh0 : ∀ y ∈ ws, 0 ≤ (fun y => (1 + r8) * (if y = op then 1 else 0)) y ∧ (fun y => (1 + r8) * (if y = op then 1 else 0)) y ≤ up y := fun y hy => by
    show 0 ≤ (1 + r8) * (if y = op then 1 else 0) ∧ (1 + r8) * (if y = op then 1 else 0) ≤ up y
    by_cases e : y = op
    · rw [if_pos e, e, Int.mul_one]
      omega
    · rw [if_neg e, Int.mul_zero]
      exact ⟨Int.le_refl 0, (hup y hy).1⟩
  have hbhL : ∀ y ∈ ws, (fun y => (1 + r8) * (if y = op then 1 else 0)) y = lastN ([] ++ [(op, 1, 1 + r8)]) y := fun y _ => by
    rw [lastN_snoc]
    show (1 + r8) * (if y = op then 1 else 0) = if y = op then 1 + r8 else 0
    by_cases e : y = op
    · rw [if_pos e, if_pos e, Int.mul_one]
    · rw [if_neg e, if_neg e, Int.mul_zero]
  generalize (fun y => (1 + r8) * (if y = op then 1 else 0)) = bh at hbh0 hbhL
  have m10 : updC M9 D10 (.l ((kdC (tabC bh ws)).map Y.prD)) D10 = some (.l ((kdC (tabC bh ws)).map Y.prD)) := updC_same
  have m10D : updC M9 D10 (.l ((kdC (tabC bh ws)).map Y.prD)) D = some (.l (ws.map dS)) := by rw [updC_ne nD10]; exact m9D
  have m10f : updC M9 D10 (.l ((kdC (tabC bh ws)).map Y.prD)) pf = some (.l ([(op, 1, 1 + r8)].map sRun)) := by rw [updC_ne nf10]; exact m9f
  have m10u : updC M9 D10 (.l ((kdC (tabC bh ws)).map Y.prD)) pu = some (.k (slK (kdC (tabC up ws)))) := by rw [updC_ne nu10]; exact m9u
  have bw10 := bw9.upd (c := .l ((kdC (tabC bh ws)).map Y.prD)) D10b.1 D10b.2
  have fx10 := fx9.put (c := .l ((kdC (tabC bh ws)).map Y.prD)) hD10M
  generalize updC M9 D10 (.l ((kdC (tabC bh ws)).map Y.prD)) = M10 at m10 m10D m10f m10u bw10 fx10
  refine da_nil (k_dictP (kd := kdC (tabC bh ws)) rfl (by simp only [seqOf, m10]) fun pb hpb => ?_)
  rw [merge_cnt (ndt bh)]
  have nDb : D ≠ pb := neC m10D hpb
  have nfb : pf ≠ pb := neC m10f hpb
  have nub : pu ≠ pb := neC m10u hpb
  have pbb := bw10.nb hpb
  have hpbM : M pb = none := fx10.none pbb.1 pbb.2 hpb
  have m11b : updC M10 pb (.k (slK (kdC (tabC bh ws)))) pb = some (.k (slK (kdC (tabC bh ws)))) := updC_same
  have m11D : updC M10 pb (.k (slK (kdC (tabC bh ws)))) D = some (.l (ws.map dS)) := by rw [updC_ne nDb]; exact m10D
  have m11f : updC M10 pb (.k (slK (kdC (tabC bh ws)))) pf = some (.l ([(op, 1, 1 + r8)].map sRun)) := by rw [updC_ne nfb]; exact m10f
  have m11u : updC M10 pb (.k (slK (kdC (tabC bh ws)))) pu = some (.k (slK (kdC (tabC up ws)))) := by rw [updC_ne nub]; exact m10u
  have bw11 := bw10.upd (c := .k (slK (kdC (tabC bh ws)))) pbb.1 pbb.2
  have fx11 := fx10.put (c := .k (slK (kdC (tabC bh ws)))) hpbM
  generalize updC M10 pb (.k (slK (kdC (tabC bh ws)))) = M11 at m11b m11D m11f m11u bw11 fx11
  clear m10 m10D m10f m10u bw10 fx10 hpb m9f m9D m9u bw9 fx9 hD10 m8D m8u bw8 hpf fx8 bw7 bw6 fx6 m6D m6u bw5 fx5 m5D m5u m4D m4D4 hpu bw4 fx4 hD4 m3D bw3 fx3 isw
  refine db_cons (ds_for PassesOwn.never rfl (di_range1 (by rfl) b6 (de_callC c1 hr (by rfl) (da_cons ?_))))
  walk_at "nm"
  refine da_cons ?_
  walk_at "nm"
  refine da_nil ⟨b, q, _, most, rfl, bw11, by omega, hm0, by omega, fun M12 r12 fr12 bw12 h120 h121 => ⟨_, rfl, by omega, by omega, ?_⟩⟩
  have m12D : M12 D = some (.l (ws.map dS)) := by rw [fr12 D Db.1 Db.2]; exact m11D
  have m12f : M12 pf = some (.l ([(op, 1, 1 + r8)].map sRun)) := by rw [fr12 pf pfb.1 pfb.2]; exact m11f
  have m12u : M12 pu = some (.k (slK (kdC (tabC up ws)))) := by rw [fr12 pu pub.1 pub.2]; exact m11u
  have m12b : M12 pb = some (.k (slK (kdC (tabC bh ws)))) := by rw [fr12 pb pbb.1 pbb.2]; exact m11b
  have fx12 := fx11.dip fr12
  have hr41 : (r12.toNat : Int) < most := by omega
  have hr40 : r12.toNat ≤ 200 := by omega
  generalize r12.toNat = turns at hr40 hr41
  have hkt : ∀ f : Str → Int, (slK (kdC (tabC f ws))).length ≤ 12 := fun f => by
    unfold slK kdC tabC
    rw [List.length_map, List.length_map, List.length_map]
    exact hwl
  refine ⟨fun i τ' M' => ∃ (d : List Y.Run) (r : Y.Run) (f : Str → Int) (y9 y10 y11 y12 y13 y14 : Option Sl), τ' = [some (.c b), some (.d (eCnt rows)), some (dI most), some (.c D), some (dS en), some (.c pu), some (dS op), some (.c pf), some (.c pb), y9, y10, y11, y12, y13, y14] ∧ Fx b q M M' ∧ M' D = some (.l (ws.map dS)) ∧ M' pu = some (.k (slK (kdC (tabC up ws)))) ∧ M' pf = some (.l ((d ++ [r]).map sRun)) ∧ M' pb = some (.k (slK (kdC (tabC f ws)))) ∧ Bowl M' b q (n + 10 + 5 * i) ∧ d.length ≤ i ∧ okC (some rows) (d ++ [r]) ∧ (∀ y ∈ ws, 0 ≤ f y ∧ f y ≤ up y) ∧ App (d ++ [r]) ∧ (∀ y ∈ ws, f y = lastN (d ++ [r]) y), ⟨[], (op, 1, 1 + r8), bh, _, _, _, _, _, _, rfl, fx12, m12D, m12u, m12f, m12b, bw12.mono (by omega), Nat.zero_le _, ok1, hbh0, App_one op (1 + r8), hbhL⟩, fun _ _ _ _ => trivial, ?_, ?_⟩
  · rintro i y τ' M13 hi rfl ⟨d, r, f, y9, y10, y11, y12, y13, y14, rfl, fx13, m13D, m13u, m13f, m13b, bw13, hdl, okd, hf, happ, hfl13⟩
    refine dg_of (pg_name (i := 9) sc__law_last.nd rfl (.inl rfl)) (wg_name ?_)
    have hlS : ((d ++ [r]).map sRun).getLast? = some (sRun r) := by rw [List.map_append]; exact List.getLast?_concat
    have nDf' : D ≠ pf := nDf
    refine db_cons (ds_setLc1 (i := 10) (own := [("writer", 11)]) (g := gName 11) rfl sc__law_last.nd rfl rfl (by with_unfolding_all rfl) (blkOk_by (own := [("writer", 11)]) (N := ["bowl", "rows", "most", "some", "ends", "upto", "opener", "found", "behind", "k", "free", "writer", "left", "first", "last"]) (sc := defScope s__law_last) (by decide +kernel)) (fun _ _ _ _ _ => pg_name (i := 11) sc__law_last.nd rfl (.inl rfl)) (di_seq ?_))
    walk_at "nm"
    refine ⟨ws.map dS, sw m13D, fun D14 hD14 => ?_⟩
    have nD14 : D ≠ D14 := neC m13D hD14
    have nf14 : pf ≠ D14 := neC m13f hD14
    have nu14 : pu ≠ D14 := neC m13u hD14
    have nb14 : pb ≠ D14 := neC m13b hD14
    have D14b := bw13.nb hD14
    have hD14M : M D14 = none := fx13.none D14b.1 D14b.2 hD14
    refine ⟨fun j M' => ∃ fs : List Str, fs.length ≤ j ∧ M' = updC M13 D14 (.l (fs.map dS)) ∧ ∀ y ∈ fs, y ∈ ws ∧ y ≠ r.1 ∧ f y < up y, ⟨[], Nat.le_refl _, rfl, fun _ z => (nomatch z)⟩, ?_, ?_, ?_⟩
    · rintro j M' ⟨fs, _, rfl, _⟩
      exact sw (by rw [updC_ne nD14]; exact m13D)
    · rintro j y M' hj hy ⟨fs, hfl, rfl, hfs⟩
      rw [List.length_map] at hj
      have hy' : y = dS ws[j] := by
        rw [List.getElem?_map, List.getElem?_eq_getElem hj] at hy
        exact (Option.some.inj hy).symm
      subst hy'
      have hym := List.getElem_mem hj
      generalize ws[j] = y at hym
      refine wgw_name (by simp) ?_
      intro s0' H0 C cl fp
      refine dt_and2 (dt_cmp op_ne ?_ (by with_unfolding_all rfl))
      walk_at "nm"
      refine de_ix (de_ix ?_)
      walk_at "nm"
      refine de_neg (de_int ⟨1, rfl, (d ++ [r]).map sRun, _, sRun r, by simp only [seqOf, updC_ne nf14, m13f], rfl, atI_l hlS, de_int ⟨_, 0, dS r.1, rfl, rfl, rfl, k_neS ⟨_, rfl, fun h1 => dt_cmp op_lt (de_dget (hu_of hr) ?_) (by with_unfolding_all rfl), fun _ => ⟨no1, fun _ => ⟨fs, by omega, rfl, hfs⟩⟩⟩⟩⟩)
      have h1 : y ≠ r.1 := by simpa using h1
      walk_at "nm"
      walk_at "nm"
      refine ⟨_, .inr y, dI (f y), .c (by rw [updC_ne nb14]; exact m13b), rfl, hval hym, de_dget (hu_of hr) ?_⟩
      walk_at "nm"
      walk_at "nm"
      refine ⟨_, .inr y, dI (up y), .c (by rw [updC_ne nu14]; exact m13u), rfl, hval hym, k_bool ⟨_, rfl, fun h2 => ?_, fun _ => ⟨fs, by omega, rfl, hfs⟩⟩⟩
      have h2 := of_decide_eq_true h2
      intro s0' H0 C cl fp
      walk_at "nm"
      refine ⟨_, updC_same, ?_, fs ++ [y], ?_, ?_, fun x hx => ?_⟩
      · rw [List.length_map, sizeLine_eq]
        omega
      · rw [List.length_append]
        simp
        omega
      · rw [updC_updC, List.map_append]
        rfl
      · rcases List.mem_append.mp hx with hx | hx
        · exact hfs x hx
        · rw [List.mem_singleton.mp hx]
          exact ⟨hym, h1, h2⟩
    rintro M' ⟨fs, hfl, rfl, hfs⟩
    rw [List.length_map] at hfl
    have m14 : updC M13 D14 (.l (fs.map dS)) D14 = some (.l (fs.map dS)) := updC_same
    have m14D : updC M13 D14 (.l (fs.map dS)) D = some (.l (ws.map dS)) := by rw [updC_ne nD14]; exact m13D
    have m14f : updC M13 D14 (.l (fs.map dS)) pf = some (.l ((d ++ [r]).map sRun)) := by rw [updC_ne nf14]; exact m13f
    have m14u : updC M13 D14 (.l (fs.map dS)) pu = some (.k (slK (kdC (tabC up ws)))) := by rw [updC_ne nu14]; exact m13u
    have m14b : updC M13 D14 (.l (fs.map dS)) pb = some (.k (slK (kdC (tabC f ws)))) := by rw [updC_ne nb14]; exact m13b
    have bw14 := bw13.upd (c := .l (fs.map dS)) D14b.1 D14b.2
    have fx14 := fx13.put (c := .l (fs.map dS)) hD14M
    generalize updC M13 D14 (.l (fs.map dS)) = M14 at m14 m14D m14f m14u m14b bw14 fx14
    have isf : Y.IsD M14 (.c D14) (.list (fs.map PyData.str)) := IsD.cell (by rw [m14, List.map_map]; rfl)
    refine db_cons (ds_if (dt_cmp (op_neD hr.units) ?_ (by with_unfolding_all rfl)))
    walk_at "nm"
    refine de_lstD (da_nil ⟨[], rfl, Nat.zero_le _, k_neD isf (.d (.list [])) (shaped_list PyData.str fs 0 (by decide) (fun y hy => strOk_name (okw y (hfs y hy).1)) (fun _ _ => Nat.le_refl 0)) (by decide +kernel) ?_⟩)
    rw [show PyData.eqv (.list (fs.map PyData.str)) (.list []) = decide (fs = []) from eqv_list PyData.str eqv_str fs []]
    refine ⟨_, rfl, fun h => ?_, fun h => db_nil (db_nil ⟨d, r, f, _, _, _, _, _, _, rfl, fx14, m14D, m14u, m14f, m14b, bw14.mono (by omega), by omega, okd, hf, happ, hfl13⟩)⟩
    have hfne : fs ≠ [] := by simpa using h
    have hfpos : 0 < fs.length := List.length_pos_iff.mpr hfne
    refine db_cons (ds_set (i := 11) sc__law_last.nd rfl (.inl rfl) (de_ix ?_))
    walk_at "nm"
    refine de_callC c1 hr (by rfl) (da_cons ?_)
    walk_at "nm"
    refine da_cons (de_callB call_len_seq (by rfl) b2 bt_len (da_cons ?_))
    walk_at "nm"
    refine da_nil (k_len (by simp only [seqOf, m14]; rfl) (da_nil ⟨b, q, _, _, rfl, bw14, by omega, by rw [List.length_map]; omega, by rw [List.length_map]; omega, fun M15 r15 fr15 bw15 h150 h151 => ?_⟩))
    rw [List.length_map] at h151
    have hj15 : r15.toNat < fs.length := by omega
    have m15 : M15 D14 = some (.l (fs.map dS)) := by rw [fr15 D14 D14b.1 D14b.2]; exact m14
    refine ⟨fs.map dS, ((r15.toNat : Nat) : Int), dS fs[r15.toNat], by simp only [seqOf, m15], (by rw [Int.toNat_of_nonneg h150]; rfl), atI_nat (by rw [List.getElem?_map, List.getElem?_eq_getElem hj15]; rfl), ?_⟩
    obtain ⟨hzw, hzr, hzf⟩ := hfs _ (List.getElem_mem hj15)
    generalize fs[r15.toNat] = z at hzw hzr hzf
    obtain ⟨hf0, hf1⟩ := hf z hzw
    obtain ⟨hz0, hz1⟩ := hup z hzw
    obtain ⟨vz, hvz, evz, vz0⟩ := hws z hzw
    have hvzb := (val hvz).2.2
    have m15u : M15 pu = some (.k (slK (kdC (tabC up ws)))) := by rw [fr15 pu pub.1 pub.2]; exact m14u
    have m15b : M15 pb = some (.k (slK (kdC (tabC f ws)))) := by rw [fr15 pb pbb.1 pbb.2]; exact m14b
    refine db_cons (ds_set (i := 12) sc__law_last.nd rfl (.inl rfl) (de_sub (de_dget (hu_of hr) ?_)))
    walk_at "nm"
    walk_at "nm"
    refine ⟨_, .inr z, dI (up z), .c m15u, rfl, hval hzw, de_dget (hu_of hr) ?_⟩
    walk_at "nm"
    walk_at "nm"
    refine ⟨_, .inr z, dI (f z), .c m15b, rfl, hval hzw, _, _, rfl, rfl, ?_⟩
    refine db_cons (ds_set (i := 13) sc__law_last.nd rfl (.inl rfl) (de_add (de_add (de_dget (hu_of hr) ?_))))
    walk_at "nm"
    walk_at "nm"
    refine ⟨_, .inr z, dI (f z), .c m15b, rfl, hval hzw, de_int ⟨_, _, rfl, rfl, de_callC c1 hr (by rfl) (da_cons ?_)⟩⟩
    walk_at "nm"
    refine da_cons (de_callB (call_min2 rfl) (by rfl) b5 bt_min (da_cons ?_))
    walk_at "nm"
    refine da_cons (de_ix (de_lstD (da_cons (de_int (da_cons (de_int (da_cons (de_pow (de_int (de_int ⟨_, _, rfl, rfl, powW (k := 4) (by decide) (by decide) (by decide), da_nil ⟨[.int 1, .int 3, .int (10 ^ (30 : Int).toNat)], rfl, (by show 3 ≤ sizeLine; decide), de_callC c1 hr (by rfl) (da_cons ?_)⟩⟩))))))))))
    walk_at "nm"
    refine da_cons (de_int (da_nil ⟨b, q, _, 3, rfl, bw15, by omega, by decide, by decide, fun M16 r16 fr16 bw16 h160 h161 => ?_⟩))
    have e16 : ∃ u : Int, 0 < u ∧ u ≤ 10 ^ 30 ∧ atI ([.int 1, .int 3, .int (10 ^ (30 : Int).toNat)].map Sl.d) r16 = some (dI u) := by
      have c8 : r16 = 0 ∨ r16 = 1 ∨ r16 = 2 := by omega
      rcases c8 with rfl | rfl | rfl
      · exact ⟨1, by decide, by decide, rfl⟩
      · exact ⟨3, by decide, by decide, rfl⟩
      · exact ⟨10 ^ (30 : Int).toNat, by decide, by decide, rfl⟩
    obtain ⟨u16, u160, u161, eu16⟩ := e16
    refine ⟨_, r16, dI u16, rfl, rfl, eu16, da_nil (k_min2 ?_)⟩
    have hmin16 : ∃ m : Int, (if u16 < up z - f z then u16 else up z - f z) = m ∧ 0 < m ∧ m ≤ up z - f z ∧ m ≤ 10 ^ 30 := by
      by_cases e : u16 < up z - f z
      · exact ⟨u16, if_pos e, u160, by omega, u161⟩
      · exact ⟨_, if_neg e, by omega, Int.le_refl _, by omega⟩
    obtain ⟨m16, em16, m160, m161, m162⟩ := hmin16
    rw [em16]
    refine da_nil ⟨b, q, _, m16, rfl, bw16, by omega, m160, by omega, fun M17 r17 fr17 bw17 h170 h171 => ⟨_, _, rfl, rfl, ?_⟩⟩
    have m17u : M17 pu = some (.k (slK (kdC (tabC up ws)))) := by rw [fr17 pu pub.1 pub.2, fr16 pu pub.1 pub.2]; exact m15u
    refine db_cons (ds_set (i := 14) sc__law_last.nd rfl (.inl rfl) (de_add ?_))
    walk_at "nm"
    refine de_callC c1 hr (by rfl) (da_cons ?_)
    walk_at "nm"
    refine da_cons (de_callB (call_min2 rfl) (by rfl) b5 bt_min (da_cons (de_add (de_sub (de_dget (hu_of hr) ?_)))))
    walk_at "nm"
    walk_at "nm"
    refine ⟨_, .inr z, dI (up z), .c m17u, rfl, hval hzw, ?_⟩
    walk_at "nm"
    refine ⟨_, _, rfl, rfl, de_int ⟨_, _, rfl, rfl, da_cons (de_ix (de_lstD (da_cons (de_int (da_cons (de_int (da_cons (de_pow (de_int (de_int ⟨_, _, rfl, rfl, powW (k := 4) (by decide) (by decide) (by decide), da_nil ⟨[.int 1, .int 3, .int (10 ^ (28 : Int).toNat)], rfl, (by show 3 ≤ sizeLine; decide), de_callC c1 hr (by rfl) (da_cons ?_)⟩⟩))))))))))⟩⟩
    walk_at "nm"
    refine da_cons (de_int (da_nil ⟨b, q, _, 3, rfl, bw17, by omega, by decide, by decide, fun M18 r18 fr18 bw18 h180 h181 => ?_⟩))
    have e18 : ∃ u : Int, 0 < u ∧ u ≤ 10 ^ 30 ∧ atI ([.int 1, .int 3, .int (10 ^ (28 : Int).toNat)].map Sl.d) r18 = some (dI u) := by
      have c8 : r18 = 0 ∨ r18 = 1 ∨ r18 = 2 := by omega
      rcases c8 with rfl | rfl | rfl
      · exact ⟨1, by decide, by decide, rfl⟩
      · exact ⟨3, by decide, by decide, rfl⟩
      · exact ⟨10 ^ (28 : Int).toNat, by decide, by decide, rfl⟩
    obtain ⟨u18, u180, u181, eu18⟩ := e18
    refine ⟨_, r18, dI u18, rfl, rfl, eu18, da_nil (k_min2 ?_)⟩
    have hmin18 : ∃ m : Int, (if u18 < up z - (f z + 1 + r17) + 1 then u18 else up z - (f z + 1 + r17) + 1) = m ∧ 0 < m ∧ m ≤ up z - (f z + 1 + r17) + 1 ∧ m ≤ 10 ^ 30 := by
      by_cases e : u18 < up z - (f z + 1 + r17) + 1
      · exact ⟨u18, if_pos e, u180, by omega, u181⟩
      · exact ⟨_, if_neg e, by omega, Int.le_refl _, by omega⟩
    obtain ⟨m18, em18, m180, m181, m182⟩ := hmin18
    rw [em18]
    refine da_nil ⟨b, q, _, m18, rfl, bw18, by omega, m180, by omega, fun M19 r19 fr19 bw19 h190 h191 => ⟨_, _, rfl, rfl, ?_⟩⟩
    have k19 : ∀ {a : Addr} {c : Cell}, a ≠ b → a ≠ q → M14 a = some c → M19 a = some c := fun h1 h2 h => by rw [fr19 _ h1 h2, fr18 _ h1 h2, fr17 _ h1 h2, fr16 _ h1 h2, fr15 _ h1 h2]; exact h
    have m19D := k19 Db.1 Db.2 m14D
    have m19f := k19 pfb.1 pfb.2 m14f
    have m19u := k19 pub.1 pub.2 m14u
    have m19b := k19 pbb.1 pbb.2 m14b
    have fx19 := ((((fx14.dip fr15).dip fr16).dip fr17).dip fr18).dip fr19
    generalize hA : f z + 1 + r17 = fst at h190 h191 m181
    generalize hB : fst + r19 = lst
    have okn : okC (some rows) (d ++ [r] ++ [(z, fst, lst)]) := okC_snoc okd ⟨okw z hzw, by show 1 ≤ fst; omega, by show fst ≤ lst; omega, by show lst ≤ (getC rows z).getD 0; rw [hvz]; show lst ≤ vz; omega⟩ fun l hl => by
      rw [List.getLast?_concat] at hl
      rw [← Option.some.inj hl]
      unfold cont
      rw [decide_eq_false (show ¬ ((z, fst, lst) : Y.Run).1 = r.1 from hzr)]
      rfl
    refine db_cons (ds_append ?_)
    walk_at "nm"
    refine ⟨⟨rfl, _, by simp only [seqOf, m19f]; rfl⟩, de_tupD (da_cons ?_)⟩
    walk_at "nm"
    refine da_cons ?_
    walk_at "nm"
    refine da_cons ?_
    walk_at "nm"
    refine da_nil ⟨[.str z, .int fst, .int lst], rfl, (by show 3 ≤ sizeLine; decide), pf, _, rfl, m19f, ?_, ?_⟩
    · rw [List.length_map, List.length_append, sizeLine_eq]
      simp
      omega
    have nfb' : pf ≠ pb := nfb
    refine db_cons (ds_dput (hu_of hr) ?_)
    walk_at "nm"
    walk_at "nm"
    walk_at "nm"
    refine ⟨pb, _, .inr z, rfl, by rw [updC_ne nfb.symm]; exact m19b, rfl, ?_, ?_⟩
    · rw [sizeLine_eq]
      have := hkt f
      omega
    have nDb' : D ≠ pb := nDb
    refine db_nil (db_nil ⟨d ++ [r], (z, fst, lst), fun y => if y = z then lst else f y, _, _, _, _, _, _, rfl, (fx19.put hpfM).put hpbM, ?_, ?_, ?_, ?_, ((bw19.upd pfb.1 pfb.2).upd pbb.1 pbb.2).mono (by omega), ?_, okn, fun y hy => ?_, ?_, fun y hy => ?_⟩)
    · rw [updC_ne nDb, updC_ne nDf]; exact m19D
    · rw [updC_ne nub, updC_ne nuf]; exact m19u
    · rw [updC_ne nfb, updC_same, List.map_append (l₁ := d ++ [r])]
      rfl
    · rw [updC_same, show (Sl.d (PyData.int lst)) = dI lst from rfl, putS_C (by rw [tabC_keys]; exact hzw), tabC_set]
    · rw [List.length_append]
      simp
      omega
    · show 0 ≤ (if y = z then lst else f y) ∧ (if y = z then lst else f y) ≤ up y
      by_cases e : y = z
      · rw [if_pos e, e]
        omega
      · rw [if_neg e]
        exact hf y hy
    · refine App_snoc.mpr ⟨happ, fun e => by simp at e, ?_, fun l hl => ?_⟩
      · show lastN (d ++ [r]) z < fst
        rw [← hfl13 z hzw]
        omega
      · rw [List.getLast?_concat] at hl
        rw [← Option.some.inj hl]
        exact fun e => hzr e.symm
    · rw [lastN_snoc]
      show (if y = z then lst else f y) = if y = z then lst else lastN (d ++ [r]) y
      by_cases e : y = z
      · rw [if_pos e, if_pos e]
      · rw [if_neg e, if_neg e]
        exact hfl13 y hy
  rintro τ' M13 ⟨d, r, f, y9, y10, y11, y12, y13, y14, rfl, fx13, m13D, m13u, m13f, m13b, bw13, hdl, okd, hf, happ, hfl13⟩
  have hlS : ((d ++ [r]).map sRun).getLast? = some (sRun r) := by rw [List.map_append]; exact List.getLast?_concat
  have hsf : ∀ {M' : Cs}, M' pf = some (.l ((d ++ [r]).map sRun)) → seqOf M' (.c pf) = some ((d ++ [r]).map sRun) := fun h => by simp only [seqOf, h]
  obtain ⟨ve, hve, eve, ve0⟩ := hws en hen
  have hveb := (val hve).2.2
  have okr0 := okd.1 r (List.mem_append_right _ List.mem_cons_self)
  obtain ⟨q1, q2, q3, q4⟩ := okr0
  have q4 : r.2.2 ≤ (getC rows r.1).getD 0 := q4
  refine db_cons (ds_if (dt_cmp op_eq (de_ix (de_ix ?_)) (by with_unfolding_all rfl)))
  walk_at "nm"
  refine de_neg (de_int ⟨1, rfl, (d ++ [r]).map sRun, _, sRun r, hsf m13f, rfl, atI_l hlS, de_int ⟨_, 0, dS r.1, rfl, rfl, rfl, ?_⟩⟩)
  walk_at "nm"
  refine k_eqS ⟨_, rfl, fun h => ?_, fun h => db_nil ?_⟩
  · have h := of_decide_eq_true h
    rw [h, hve] at q4
    have q4 : r.2.2 ≤ ve := q4
    refine db_cons (ds_ret (de_cat (de_slHi ?_)))
    walk_at "nm"
    refine de_neg (de_int ⟨1, rfl, _, rfl, (d ++ [r]).map sRun, rfl, hsf m13f, fun p hp => ?_⟩)
    have pb1 := bw13.nb hp
    have nfp : pf ≠ p := neC m13f hp
    refine de_lstC (da_cons (de_tupD (da_cons ?_)))
    walk_at "nm"
    refine da_cons (de_ix (de_ix ?_))
    walk_at "nm"
    refine de_neg (de_int ⟨1, rfl, (d ++ [r]).map sRun, _, sRun r, hsf (by rw [updC_ne nfp]; exact m13f), rfl, atI_l hlS, de_int ⟨_, 1, dI r.2.1, rfl, rfl, rfl, da_cons (de_dget (hu_of hr) ?_)⟩⟩)
    walk_at "nm"
    walk_at "nm"
    refine ⟨_, .inr en, dI ve, .d (kdC rows), rfl, by rw [valS_C, hve]; rfl, da_nil ⟨[.str en, .int r.2.1, .int ve], rfl, (by show 3 ≤ sizeLine; decide), da_nil ⟨(by show 1 ≤ sizeLine; decide), fun p2 hp2 => ?_⟩⟩⟩
    have np : p ≠ p2 := fun e => by rw [← e, updC_same] at hp2; cases hp2
    have pb2 := (bw13.upd (c := .l (cutG ((d ++ [r]).map sRun) none (some (-1)))) pb1.1 pb1.2).nb hp2
    refine ⟨d.map sRun, [sRun (en, r.2.1, ve)], ?_, by simp only [lstOf, updC_same]; rfl, ?_, fun p3 hp3 => ?_⟩
    · simp only [lstOf, updC_ne np, updC_same]
      rw [dropLast_cut, List.map_append]
      show some (List.dropLast (d.map sRun ++ [sRun r])) = _
      rw [List.dropLast_concat]
    · rw [List.length_map, sizeLine_eq]
      simp
      omega
    have fxp := (fx13.put (c := .l (cutG ((d ++ [r]).map sRun) none (some (-1)))) (fx13.none pb1.1 pb1.2 hp))
    have fxp2 := fxp.put (c := .l [sRun (en, r.2.1, ve)]) (fxp.none pb2.1 pb2.2 hp2)
    have bwp2 := (bw13.upd (c := .l (cutG ((d ++ [r]).map sRun) none (some (-1)))) pb1.1 pb1.2).upd (c := .l [sRun (en, r.2.1, ve)]) pb2.1 pb2.2
    have pb3 := bwp2.nb hp3
    refine fin p3 (d ++ [(en, r.2.1, ve)]) _ (fxp2.put (fxp2.none pb3.1 pb3.2 hp3)) pb3.1 pb3.2 (fxp2.none pb3.1 pb3.2 hp3) ?_ ((bwp2.upd pb3.1 pb3.2).mono (by omega)) ?_ ?_ ?_
    · rw [updC_same, List.map_append]
      rfl
    · rw [List.length_append]
      simp
      omega
    · rw [← h]
      exact okC_relast okd ⟨q1, q2, by show r.2.1 ≤ ve; omega, by show ve ≤ (getC rows r.1).getD 0; rw [h, hve]; exact Int.le_refl _⟩
    · refine fin_app ?_ (by show ve = (getC rows en).getD 0; rw [hve]; rfl)
      rw [← h]
      exact App_last happ
  have h := of_decide_eq_false h
  obtain ⟨hfe0, hfe1⟩ := hf en hen
  have hfe2 : f en < ve := by rw [hupe, eve] at hfe1; omega
  refine db_cons (ds_set (i := 13) sc__law_last.nd rfl (.inl rfl) (de_sub (de_dget (hu_of hr) ?_)))
  walk_at "nm"
  walk_at "nm"
  refine ⟨_, .inr en, dI ve, .d (kdC rows), rfl, by rw [valS_C, hve]; rfl, de_callC c1 hr (by rfl) (da_cons ?_)⟩
  walk_at "nm"
  refine da_cons (de_callB (call_min2 rfl) (by rfl) b5 bt_min (da_cons (de_sub (de_dget (hu_of hr) ?_))))
  walk_at "nm"
  walk_at "nm"
  refine ⟨_, .inr en, dI ve, .d (kdC rows), rfl, by rw [valS_C, hve]; rfl, de_dget (hu_of hr) ?_⟩
  walk_at "nm"
  walk_at "nm"
  refine ⟨_, .inr en, dI (f en), .c m13b, rfl, hval hen, _, _, rfl, rfl, da_cons (de_ix (de_lstD (da_cons (de_int (da_cons (de_int (da_cons (de_pow (de_int (de_int ⟨_, _, rfl, rfl, powW (k := 4) (by decide) (by decide) (by decide), da_nil ⟨[.int 1, .int 3, .int (10 ^ (30 : Int).toNat)], rfl, (by show 3 ≤ sizeLine; decide), de_callC c1 hr (by rfl) (da_cons ?_)⟩⟩))))))))))⟩
  walk_at "nm"
  refine da_cons (de_int (da_nil ⟨b, q, _, 3, rfl, bw13, by omega, by decide, by decide, fun M16 r16 fr16 bw16 h160 h161 => ?_⟩))
  have e16 : ∃ u : Int, 0 < u ∧ u ≤ 10 ^ 30 ∧ atI ([.int 1, .int 3, .int (10 ^ (30 : Int).toNat)].map Sl.d) r16 = some (dI u) := by
    have c8 : r16 = 0 ∨ r16 = 1 ∨ r16 = 2 := by omega
    rcases c8 with rfl | rfl | rfl
    · exact ⟨1, by decide, by decide, rfl⟩
    · exact ⟨3, by decide, by decide, rfl⟩
    · exact ⟨10 ^ (30 : Int).toNat, by decide, by decide, rfl⟩
  obtain ⟨u16, u160, u161, eu16⟩ := e16
  refine ⟨_, r16, dI u16, rfl, rfl, eu16, da_nil (k_min2 ?_)⟩
  have hmin16 : ∃ m : Int, (if u16 < ve - f en then u16 else ve - f en) = m ∧ 0 < m ∧ m ≤ ve - f en ∧ m ≤ 10 ^ 30 := by
    by_cases e : u16 < ve - f en
    · exact ⟨u16, if_pos e, u160, by omega, u161⟩
    · exact ⟨_, if_neg e, by omega, Int.le_refl _, by omega⟩
  obtain ⟨m16, em16, m160, m161, m162⟩ := hmin16
  rw [em16]
  refine da_nil ⟨b, q, _, m16, rfl, bw16, by omega, m160, by omega, fun M17 r17 fr17 bw17 h170 h171 => ⟨_, _, rfl, rfl, ?_⟩⟩
  have m17f : M17 pf = some (.l ((d ++ [r]).map sRun)) := by rw [fr17 pf pfb.1 pfb.2, fr16 pf pfb.1 pfb.2]; exact m13f
  have fx17 := (fx13.dip fr16).dip fr17
  refine db_cons (ds_ret (de_cat ?_))
  walk_at "nm"
  refine de_lstC (da_cons (de_tupD (da_cons ?_)))
  walk_at "nm"
  refine da_cons ?_
  walk_at "nm"
  refine da_cons (de_dget (hu_of hr) ?_)
  walk_at "nm"
  walk_at "nm"
  refine ⟨_, .inr en, dI ve, .d (kdC rows), rfl, by rw [valS_C, hve]; rfl, da_nil ⟨[.str en, .int (ve - r17), .int ve], rfl, (by show 3 ≤ sizeLine; decide), da_nil ⟨(by show 1 ≤ sizeLine; decide), fun p2 hp2 => ?_⟩⟩⟩
  have nfp2 : pf ≠ p2 := neC m17f hp2
  have pb2 := bw17.nb hp2
  refine ⟨(d ++ [r]).map sRun, [sRun (en, ve - r17, ve)], by simp only [lstOf, updC_ne nfp2, m17f], by simp only [lstOf, updC_same]; rfl, ?_, fun p3 hp3 => ?_⟩
  · rw [List.length_map, List.length_append, sizeLine_eq]
    simp
    omega
  have fxp2 := fx17.put (c := .l [sRun (en, ve - r17, ve)]) (fx17.none pb2.1 pb2.2 hp2)
  have bwp2 := bw17.upd (c := .l [sRun (en, ve - r17, ve)]) pb2.1 pb2.2
  have pb3 := bwp2.nb hp3
  refine fin p3 (d ++ [r] ++ [(en, ve - r17, ve)]) _ (fxp2.put (fxp2.none pb3.1 pb3.2 hp3)) pb3.1 pb3.2 (fxp2.none pb3.1 pb3.2 hp3) ?_ ((bwp2.upd pb3.1 pb3.2).mono (by omega)) ?_ ?_ ?_
  · rw [updC_same, List.map_append (l₁ := d ++ [r])]
    rfl
  · rw [List.length_append, List.length_append]
    simp
    omega
  · refine okC_snoc okd ⟨okw en hen, by show 1 ≤ ve - r17; omega, by show ve - r17 ≤ ve; omega, by show ve ≤ (getC rows en).getD 0; rw [hve]; exact Int.le_refl _⟩ fun l hl => ?_
    rw [List.getLast?_concat] at hl
    rw [← Option.some.inj hl]
    unfold cont
    rw [decide_eq_false (show ¬ ((en, ve - r17, ve) : Y.Run).1 = r.1 from fun e => h e.symm)]
    rfl
  · refine fin_app (App_snoc.mpr ⟨happ, fun e => by simp at e, ?_, fun l hl => ?_⟩) (by show ve = (getC rows en).getD 0; rw [hve]; rfl)
    · show lastN (d ++ [r]) en < ve - r17
      rw [← hfl13 en hen]
      omega
    · rw [List.getLast?_concat] at hl
      rw [← Option.some.inj hl]
      exact h

end

end Pg

namespace Pg
open PySem L2 Y PyProof.Rows

local macro_rules | `(tactic| walk_at "vis") => `(tactic| first | exact Or.inl rfl | exact Or.inr (Or.inl rfl) | exact Or.inr (Or.inr rfl))
local macro_rules | `(tactic| walk_at "e1") => `(tactic| first | walk_at "nm" | refine de_int ?_ | refine de_add ?_ | refine de_sub ?_ | refine de_str ?_ | refine de_non ?_ | refine de_bl ?_)
local macro_rules | `(tactic| walk_at "go") => `(tactic| repeat (first | ((with_reducible show DE _ _ _ _ _ _); walk_at "e1") | ((with_reducible show DA _ _ _ _ _ _); refine da_cons ?_) | refine ⟨_, _, rfl, rfl, ?_⟩))


/-! the gap that stops first is always taken -/
def loG (g : Gap) : Int := g.2.2.2.1
def hiG (g : Gap) : Int := g.2.2.2.2
def kyG (g : Gap) : PyData := .int (hiG g)
def addT (t : List Gap) (g : Gap) : List Gap := match t.getLast? with
  | some q => if hiG q < loG g then t ++ [g] else t
  | none => [g]
theorem addT_snoc (t : List Gap) (q g : Gap) : addT (t ++ [q]) g = if hiG q < loG g then t ++ [q] ++ [g] else t ++ [q] := by
  unfold addT
  rw [List.getLast?_concat]
def tkL (l : List Gap) : List Gap := l.foldl addT []
theorem tkL_snoc (l : List Gap) (g : Gap) : tkL (l ++ [g]) = addT (tkL l) g := by
  unfold tkL
  rw [List.foldl_append]
  rfl
theorem tkL_take {l : List Gap} {i : Nat} (h : i < l.length) : tkL (l.take (i + 1)) = addT (tkL (l.take i)) l[i] := by
  rw [List.take_add_one, List.getElem?_eq_getElem h]
  exact tkL_snoc _ _
theorem tkL_len (l : List Gap) : (tkL l).length ≤ l.length := by
  refine snoc_ind (p := fun l => (tkL l).length ≤ l.length) (Nat.le_refl _) (fun l g ih => ?_) l
  rw [tkL_snoc, List.length_append]
  rcases List.eq_nil_or_concat (tkL l) with h | ⟨t, q, h⟩
  · rw [h]
    show 1 ≤ l.length + 1
    omega
  · rw [h, List.concat_eq_append] at ih ⊢
    rw [addT_snoc]
    split
    · rw [List.length_append]
      show (t ++ [q]).length + 1 ≤ l.length + 1
      omega
    · show (t ++ [q]).length ≤ l.length + 1
      omega
def tkG (gs : List Gap) : List Gap := tkL (gs.mergeSort (PySem.W.dataLe false kyG))
theorem tkL_ok (l : List Gap) : (∀ g ∈ l, loG g ≤ hiG g) → l.Pairwise (fun a b => hiG a ≤ hiG b) → (∀ g ∈ tkL l, g ∈ l) ∧ (tkL l).Pairwise (fun a b => hiG a < loG b) ∧ ∀ g ∈ l, ∃ t ∈ tkL l, loG g ≤ hiG t ∧ hiG t ≤ hiG g := by
  refine snoc_ind (p := fun l => (∀ g ∈ l, loG g ≤ hiG g) → l.Pairwise (fun a b => hiG a ≤ hiG b) → (∀ g ∈ tkL l, g ∈ l) ∧ (tkL l).Pairwise (fun a b => hiG a < loG b) ∧ ∀ g ∈ l, ∃ t ∈ tkL l, loG g ≤ hiG t ∧ hiG t ≤ hiG g) ?_ (fun l g ih hle hp => ?_) l
  · exact fun _ _ => ⟨fun _ h => (nomatch h), List.Pairwise.nil, fun _ h => (nomatch h)⟩
  obtain ⟨pw, _, pl⟩ := List.pairwise_append.mp hp
  obtain ⟨i1, i2, i3⟩ := ih (fun x hx => hle x (List.mem_append_left _ hx)) pw
  have hg := hle g (List.mem_append_right _ (List.mem_singleton.mpr rfl))
  have old : ∀ T : List Gap, (∀ t ∈ tkL l, t ∈ T) → (g ∈ T ∨ ∃ t ∈ T, loG g ≤ hiG t ∧ hiG t ≤ hiG g) → ∀ x ∈ l ++ [g], ∃ t ∈ T, loG x ≤ hiG t ∧ hiG t ≤ hiG x := fun T hT hgT x hx => by
    rcases List.mem_append.mp hx with hx | hx
    · obtain ⟨t, ht, k⟩ := i3 x hx
      exact ⟨t, hT t ht, k⟩
    · rw [List.mem_singleton.mp hx]
      rcases hgT with h | h
      · exact ⟨g, h, hg, Int.le_refl _⟩
      · exact h
  rw [tkL_snoc]
  rcases List.eq_nil_or_concat (tkL l) with h | ⟨t, q, h⟩
  · rw [h] at i1 i2 old ⊢
    show (∀ x ∈ [g], x ∈ l ++ [g]) ∧ [g].Pairwise _ ∧ ∀ x ∈ l ++ [g], ∃ t ∈ [g], _
    exact ⟨fun x hx => List.mem_append_right _ hx, List.pairwise_singleton _ _, old [g] (fun _ h => (nomatch h)) (.inl (List.mem_singleton.mpr rfl))⟩
  · rw [List.concat_eq_append] at h
    rw [h] at i1 i2 old ⊢
    rw [addT_snoc]
    have hq := i1 q (List.mem_append_right _ (List.mem_singleton.mpr rfl))
    have hqg := pl q hq g (List.mem_singleton.mpr rfl)
    by_cases e : hiG q < loG g
    · rw [if_pos e]
      refine ⟨fun x hx => ?_, ?_, old _ (fun x hx => List.mem_append_left _ hx) (.inl (List.mem_append_right _ (List.mem_singleton.mpr rfl)))⟩
      · rcases List.mem_append.mp hx with hx | hx
        · exact List.mem_append_left _ (i1 x hx)
        · exact List.mem_append_right _ hx
      · refine List.pairwise_append.mpr ⟨i2, List.pairwise_singleton _ _, fun x hx y hy => ?_⟩
        rw [List.mem_singleton.mp hy]
        rcases List.mem_append.mp hx with hx | hx
        · have h1 := (List.pairwise_append.mp i2).2.2 x hx q (List.mem_singleton.mpr rfl)
          have h2 := hle q (List.mem_append_left _ hq)
          omega
        · rw [List.mem_singleton.mp hx]
          exact e
    · rw [if_neg e]
      exact ⟨fun x hx => List.mem_append_left _ (i1 x hx), i2, old _ (fun x hx => hx) (.inr ⟨q, List.mem_append_right _ (List.mem_singleton.mpr rfl), by omega, hqg⟩)⟩
theorem tkG_ok {gs : List Gap} (h : ∀ g ∈ gs, loG g ≤ hiG g) : (∀ g ∈ tkG gs, g ∈ gs) ∧ (tkG gs).Pairwise (fun a b => hiG a < loG b) ∧ ∀ g ∈ gs, ∃ t ∈ tkG gs, loG g ≤ hiG t ∧ hiG t ≤ hiG g := by
  have e : PySem.W.dataLe false kyG = fun a b => decide (hiG a ≤ hiG b) := PySem.W.dataLe_int hiG
  have hpm := List.mergeSort_perm gs (PySem.W.dataLe false kyG)
  have hs : (gs.mergeSort (PySem.W.dataLe false kyG)).Pairwise (fun a b => hiG a ≤ hiG b) := by
    rw [e]
    refine List.Pairwise.imp (fun {a b} h1 => of_decide_eq_true h1) (List.pairwise_mergeSort (le := fun a b => decide (hiG a ≤ hiG b)) (fun a b c h k => ?_) (fun a b => ?_) gs)
    · have h := of_decide_eq_true h
      have k := of_decide_eq_true k
      exact decide_eq_true (by omega)
    · rw [Bool.or_eq_true, decide_eq_true_eq, decide_eq_true_eq]
      omega
  obtain ⟨k1, k2, k3⟩ := tkL_ok _ (fun g hg => h g (hpm.mem_iff.mp hg)) hs
  exact ⟨fun g hg => hpm.mem_iff.mp (k1 g hg), k2, fun g hg => k3 g (hpm.mem_iff.mpr hg)⟩
theorem tkG_len (gs : List Gap) : (tkG gs).length ≤ gs.length := by
  have := tkL_len (gs.mergeSort (PySem.W.dataLe false kyG))
  rw [List.length_mergeSort] at this
  exact this
theorem gapsA_lenT {cs : Cnt} {c : List Y.Run} : (gapsA cs c).length ≤ c.length + cs.length := by
  unfold gapsA
  rw [List.length_mergeSort]
  unfold rawAll
  rw [List.length_append]
  have := rawA_len c c.length
  have := tlA_len c cs
  omega
theorem ky_alike (gs : List Gap) : PySem.W.AllAlike (gs.map kyG) := fun d hd d' hd' => by
  obtain ⟨a, _, rfl⟩ := List.mem_map.mp hd
  obtain ⟨b, _, rfl⟩ := List.mem_map.mp hd'
  unfold kyG
  simp [PySem.W.alike]
theorem ky_sortable (gs : List Gap) : PySem.W.Sortable (gs.map kyG) := .inr fun d hd => by
  obtain ⟨a, _, rfl⟩ := List.mem_map.mp hd
  exact ⟨fun z => (nomatch z), fun xs z => (nomatch z)⟩
theorem gap_name {cs : Cnt} {c : List Y.Run} (okc : okCnt cs) (hin : ∀ r ∈ c, okName r.1 = true) : ∀ g ∈ gapsA cs c, okName g.1 = true := fun g hg => by
  have hm : g ∈ rawAll cs c := (List.mergeSort_perm _ _).mem_iff.mp hg
  unfold rawAll at hm
  rcases List.mem_append.mp hm with hm | hm
  · unfold rawA at hm
    obtain ⟨i, hi, hm⟩ := List.mem_flatMap.mp hm
    have hi := List.mem_range.mp hi
    unfold emA at hm
    rw [List.getElem?_eq_getElem hi] at hm
    dsimp only at hm
    split at hm
    · rw [List.mem_singleton.mp hm]
      exact hin _ (List.getElem_mem hi)
    · cases hm
  · obtain ⟨p, hp, hm⟩ := List.mem_flatMap.mp hm
    unfold tlA at hm
    split at hm
    · rw [List.mem_singleton.mp hm]
      exact (okc.2.2.2 p hp).1
    · cases hm

theorem eqv_gap (a b : Gap) : PyData.eqv (eGap a) (eGap b) = decide (a = b) := by
  obtain ⟨a1, a2, a3, a4, a5⟩ := a
  obtain ⟨b1, b2, b3, b4, b5⟩ := b
  show (PyData.eqv (.str a1) (.str b1) && (PyData.eqv (.int a2) (.int b2) && (PyData.eqv (.int a3) (.int b3) && (PyData.eqv (.int a4) (.int b4) && (PyData.eqv (.int a5) (.int b5) && true))))) = _
  simp only [PyData.eqv, Prod.mk.injEq]
  by_cases h1 : a1 = b1 <;> by_cases h2 : a2 = b2 <;> by_cases h3 : a3 = b3 <;> by_cases h4 : a4 = b4 <;> by_cases h5 : a5 = b5 <;> simp [h1, h2, h3, h4, h5]
theorem depth1_gap (g : Gap) : (eGap g).depth ≤ 1 := by
  unfold eGap
  simp [PyData.depth, PyData.depthAll]
theorem shaped_gaps (gs : List Gap) (h : ∀ g ∈ gs, okName g.1 = true) : SeqAt.shaped (.list (gs.map eGap)) = true := shaped_list eGap gs 1 (by decide) (fun g hg => can_gap (h g hg)) (fun g _ => depth1_gap g)

theorem finA_asc {rows : Cnt} {c : List Y.Run} (ok : okC (some rows) c) (h : isNone (.d (finA rows c)) = true) : Asc c := by
  cases c with
  | nil => exact fun i r hr => by cases i <;> cases hr
  | cons x c =>
    refine asc_of_app (obsA_none ?_) (okC_adj ok).1
    unfold finA at h
    rw [if_neg (by exact Bool.false_ne_true)] at h
    by_cases e : isNone (.d (obsA (x :: c))) = false
    · rw [if_pos e] at h
      rw [h] at e
      cases e
    · simpa using e

theorem tk_bds {cs : Cnt} {c : List Y.Run} (okc : okCnt cs) (hf : isNone (.d (finA cs c)) = true) : ∀ g ∈ tkG (gapsA cs c), 0 ≤ loG g ∧ loG g ≤ hiG g ∧ hiG g < (c.length : Int) := fun g hg => by
  have hle := gap_le okc hf
  have hm := (tkG_ok (gs := gapsA cs c) hle).1 g hg
  obtain ⟨b1, _, b3⟩ := gap_bds g hm
  exact ⟨b1, hle g hm, b3⟩


/-- what disjoint_gaps answers -/
def disG (cs : Cnt) (c : List Y.Run) : List Gap := (tkG (gapsA cs c)).mergeSort (PySem.W.dataLe false eGap)
theorem disG_perm (cs : Cnt) (c : List Y.Run) : (disG cs c).Perm (tkG (gapsA cs c)) := List.mergeSort_perm _ _
theorem disG_sort (cs : Cnt) (c : List Y.Run) : (disG cs c).mergeSort (PySem.W.dataLe false eGap) = disG cs c := gaps_one (List.Perm.refl _) (sorted_gaps _)
section
variable {P : Program} {w : World} {K : PySem.W.Frag} {mg : Str → Option Value} {base : Heap}

local macro_rules | `(tactic| walk_at "nm") => `(tactic| first | ((with_reducible refine de_name (x := "gap") (i := 0) (s := ?s) ?hN ?hv ?ht ?q ?hd ?hcd); (case hN => rfl); (case hv => walk_at "vis"); (case ht => rfl); (case hd => decide); (case hcd => decide)))


def R_stop : Rr := fun _ ss M Q => ∃ g : Gap, ss = [sGap g] ∧ Q (dI (hiG g)) M
theorem ok_stop_of_gap (F : FunAt K mg "stop_of_gap" s_stop_of_gap ["gap"]) : Cal P w K mg base "stop_of_gap" 1 ["gap"] R_stop := by
  refine cal_of F sc_stop_of_gap (fun _ ss _ _ ⟨g, h, _⟩ => by rw [h]; rfl) (fun f cdv A outer s H E L ss M Q hr h => ?_)
  obtain ⟨g, rfl, q⟩ := h
  refine db_cons (ds_ret (de_gc (de_ix ?_)))
  walk_at "nm"
  exact de_int ⟨_, 4, dI g.2.2.2.2, rfl, rfl, rfl, M, Sub.refl _, q⟩

local macro_rules | `(tactic| walk_at "nm") => `(tactic| first | ((with_reducible refine de_name (x := "found") (i := 0) (s := ?s) ?hN ?hv ?ht ?q ?hd ?hcd); (case hN => rfl); (case hv => walk_at "vis"); (case ht => rfl); (case hd => decide); (case hcd => decide)) | ((with_reducible refine de_name (x := "taken") (i := 1) (s := ?s) ?hN ?hv ?ht ?q ?hd ?hcd); (case hN => rfl); (case hv => walk_at "vis"); (case ht => rfl); (case hd => decide); (case hcd => decide)) | ((with_reducible refine de_name (x := "gap") (i := 2) (s := ?s) ?hN ?hv ?ht ?q ?hd ?hcd); (case hN => rfl); (case hv => walk_at "vis"); (case ht => rfl); (case hd => decide); (case hcd => decide)))


theorem key_stop {f : Addr} {fd : FuncData} (F : Fun K "stop_of_gap" "stop_of_gap" s_stop_of_gap f fd) (b : Binds K fd ["gap"] []) : KeyFn P w K 1 f eGap kyG := fun B t v g as room inK noL rd =>
  pick_pure (a := "gap") (i := 4) F sc_stop_of_gap b rfl (by decide +kernel) (by decide +kernel) room inK noL rd rfl (by show 5 < 2 ^ 62; decide)
def R_gsnr : Rr := fun _ ss M Q => ∃ (s : Sl) (gs : List Gap), ss = [s] ∧ isTup s = false ∧ seqOf M s = some (gs.map sGap) ∧ gs.length ≤ 100000 ∧ (∀ g ∈ gs, okName g.1 = true) ∧ ∀ (p : Addr) (M' : Cs), Sub M M' → M p = none → M' p = some (.l ((tkG gs).map sGap)) → Q (.c p) M'
set_option maxHeartbeats 4000000 in
theorem ok_gaps_that_share_no_run (F : FunAt K mg "gaps_that_share_no_run" s_gaps_that_share_no_run ["found"]) (F2 : FunAt K mg "stop_of_gap" s_stop_of_gap ["gap"]) (b1 : mg "sorted" = none) : Cal P w K mg base "gaps_that_share_no_run" 4 ["found"] R_gsnr := by
  refine cal_of F sc_gaps_that_share_no_run (fun _ ss _ _ ⟨s, gs, h, _⟩ => by rw [h]; rfl) (fun f cdv A outer s H E L ss M Q hr h => ?_)
  obtain ⟨f2, fd2, Ff, hm2, bd2⟩ := F2
  obtain ⟨x, gs, rfl, hT, hs, hl, hnm, q⟩ := h
  refine db_cons (ds_set (i := 1) sc_gaps_that_share_no_run.nd rfl (.inl rfl) (de_lstC (da_nil ⟨Nat.zero_le _, fun pf hpf => ?_⟩)))
  have sub_M1 : Sub M (updC M pf (.l [])) := (Sub.refl _).new hpf
  have m_pf : updC M pf (.l []) pf = some (.l []) := updC_same
  generalize updC M pf (.l []) = M1 at sub_M1 m_pf
  refine db_consJ (fun τ' M' => ∃ (y2 : Option Sl), τ' = [some x, some (.c pf), y2] ∧ Sub M M' ∧ M' pf = some (.l ((tkG gs).map sGap))) (ds_for PassesOwn.never rfl (di_seq (de_sortK (enc := eGap) (key := kyG) (key_stop Ff bd2) (hr.mono (by decide)) (by rfl) b1 (by rfl) hm2 ?_))) ?_
  · walk_at "nm"
    refine ⟨gs, hT, by rw [seqOf_sub hs sub_M1]; rfl, ky_alike gs, ky_sortable gs, by rw [sizeLine_eq]; omega, fun g hg => can_gap (hnm g hg), fun g _ => by simp [kyG, PyData.depth], fun pt hpt => ?_⟩
    have npt : pf ≠ pt := neC m_pf hpt
    have htl : (gs.mergeSort (PySem.W.dataLe false kyG)).length = gs.length := List.length_mergeSort _
    unfold tkG
    generalize gs.mergeSort (PySem.W.dataLe false kyG) = ts at htl
    have sub2 : Sub M (updC M1 pt (.l (ts.map fun b => .d (eGap b)))) := sub_M1.new hpt
    have m2t : updC M1 pt (.l (ts.map fun b => .d (eGap b))) pt = some (.l (ts.map sGap)) := updC_same
    have m2f : updC M1 pt (.l (ts.map fun b => .d (eGap b))) pf = some (.l []) := by rw [updC_ne npt]; exact m_pf
    generalize updC M1 pt (.l (ts.map fun b => .d (eGap b))) = M2 at sub2 m2t m2f
    refine ⟨ts.map sGap, by simp only [seqOf, m2t], ?_⟩
    refine ⟨fun i τ' M' => ∃ (y2 : Option Sl), τ' = [some x, some (.c pf), y2] ∧ Sub M M' ∧ M' pt = some (.l (ts.map sGap)) ∧ M' pf = some (.l ((tkL (ts.take i)).map sGap)), ⟨none, rfl, sub2, m2t, m2f⟩, fun i τ' M' ⟨_, _, _, hM, _⟩ => by simp only [seqOf, hM], ?_, ?_⟩
    · rintro i y τ' M3 hi hy ⟨y2, rfl, sub3, m3t, m3f⟩
      rw [List.length_map] at hi
      have hy' : y = sGap ts[i] := by
        rw [List.getElem?_map, List.getElem?_eq_getElem hi] at hy
        exact (Option.some.inj hy).symm
      subst hy'
      have htk := tkL_take hi
      have hlen := tkL_len (ts.take i)
      rw [List.length_take] at hlen
      generalize ts[i] = g at htk
      generalize tkL (ts.take i) = T at htk hlen m3f
      refine dg_of (pg_name (i := 2) sc_gaps_that_share_no_run.nd rfl (.inl rfl)) (wg_name ?_)
      have s3 : seqOf M3 (.c pf) = some (T.map sGap) := by simp only [seqOf, m3f]
      have tru : truOf M3 (.c pf) = some (!T.isEmpty) := by
        show ((seqOf M3 (.c pf)).map fun ss => !ss.isEmpty) = _
        rw [s3]
        cases T <;> rfl
      have app : ∀ T' : List Gap, addT T g = T ++ [g] → T'.map sGap = T.map sGap ++ [sGap g] → updC M3 pf (.l (T.map sGap ++ [sGap g])) pf = some (.l ((addT T g).map sGap)) := fun T' h _ => by rw [updC_same, h, List.map_append]; rfl
      rcases List.eq_nil_or_concat T with rfl | ⟨T0, q0, rfl⟩
      · refine db_cons (ds_ifT (dt_or2 (dt_not (dt_tru ?_))) ?_)
        · walk_at "nm"
          exact ⟨_, tru, fun _ => ⟨rfl, rfl⟩, fun z => nomatch z⟩
        · refine db_cons (ds_append ?_)
          walk_at "nm"
          refine ⟨⟨rfl, _, s3⟩, ?_⟩
          walk_at "nm"
          refine ⟨pf, _, rfl, m3f, by rw [sizeLine_eq]; decide, db_nil (db_nil ⟨_, rfl, sub_put sub3 hpf, by rw [updC_ne npt.symm]; exact m3t, ?_⟩)⟩
          rw [updC_same, htk]
          rfl
      · rw [List.concat_eq_append] at *
        rw [addT_snoc] at htk
        have hlS : ((T0 ++ [q0]).map sGap).getLast? = some (sGap q0) := by rw [List.map_append]; exact List.getLast?_concat
        refine db_cons (ds_ifB (decide (hiG q0 < loG g)) (dt_or2 (dt_not (dt_tru ?_))) (fun h => ?_) fun h => db_nil (db_nil ⟨_, rfl, sub3, m3t, ?_⟩))
        · walk_at "nm"
          refine ⟨_, tru, fun z => absurd z (by simp), fun _ => dt_cmp op_gt (de_ix ?_) (by with_unfolding_all rfl)⟩
          walk_at "nm"
          refine de_int ⟨_, 3, dI (loG g), rfl, rfl, rfl, de_ix (de_ix ?_)⟩
          walk_at "nm"
          exact de_neg (de_int ⟨1, rfl, (T0 ++ [q0]).map sGap, _, sGap q0, s3, rfl, atI_l hlS, de_int ⟨_, 4, dI (hiG q0), rfl, rfl, rfl, k_bool ⟨_, rfl, rfl, rfl⟩⟩⟩)
        · have h := of_decide_eq_true h
          rw [if_pos h] at htk
          refine db_cons (ds_append ?_)
          walk_at "nm"
          refine ⟨⟨rfl, _, s3⟩, ?_⟩
          walk_at "nm"
          refine ⟨pf, _, rfl, m3f, ?_, db_nil (db_nil ⟨_, rfl, sub_put sub3 hpf, by rw [updC_ne npt.symm]; exact m3t, ?_⟩)⟩
          · rw [List.length_map, sizeLine_eq]
            omega
          · rw [updC_same, htk]
            simp only [List.map_append]
            rfl
        · have h := of_decide_eq_false h
          rw [if_neg h] at htk
          rw [m3f, htk]
    · rintro τ' M3 ⟨y2, rfl, sub3, _, m3f⟩
      rw [List.length_map, List.take_length] at m3f
      exact ⟨_, rfl, sub3, m3f⟩
  rintro τ' M' ⟨y2, rfl, sub, mf⟩
  refine db_cons (ds_ret (de_gc ?_))
  walk_at "nm"
  exact ⟨M', Sub.refl _, q pf M' sub hpf mf⟩

local macro_rules | `(tactic| walk_at "nm") => `(tactic| first | ((with_reducible refine de_name (x := "found") (i := 0) (s := ?s) ?hN ?hv ?ht ?q ?hd ?hcd); (case hN => rfl); (case hv => walk_at "vis"); (case ht => rfl); (case hd => decide); (case hcd => decide)) | ((with_reducible refine de_name (x := "gap") (i := 1) (s := ?s) ?hN ?hv ?ht ?q ?hd ?hcd); (case hN => rfl); (case hv => walk_at "vis"); (case ht => rfl); (case hd => decide); (case hcd => decide)))


def R_cstops : Rr := fun _ ss M Q => ∃ (s : Sl) (gs : List Gap), ss = [s] ∧ isTup s = false ∧ seqOf M s = some (gs.map sGap) ∧ gs.length ≤ 100000 ∧ (∀ g ∈ gs, okName g.1 = true) ∧ ∀ (p : Addr) (M' : Cs), Sub M M' → M p = none → M' p = some (.l ((tkG gs).map fun g => dI (hiG g))) → Q (.c p) M'
theorem ok_covering_stops (F : FunAt K mg "covering_stops" s_covering_stops ["found"]) (c1 : Cal P w K mg base "gaps_that_share_no_run" 4 ["found"] R_gsnr) (c2 : Cal P w K mg base "stop_of_gap" 1 ["gap"] R_stop) : Cal P w K mg base "covering_stops" 5 ["found"] R_cstops := by
  refine cal_of F sc_covering_stops (fun _ ss _ _ ⟨s, gs, h, _⟩ => by rw [h]; rfl) (fun f cdv A outer s H E L ss M Q hr h => ?_)
  obtain ⟨x, gs, rfl, hT, hs, hl, hnm, q⟩ := h
  refine db_cons (ds_ret (de_gc (de_lc0 (own := [("gap", 1)]) (g := gName 1) rfl sc_covering_stops.nd (blkOk_by (own := [("gap", 1)]) (N := ["found", "gap"]) (sc := defScope s_covering_stops) (by decide +kernel)) (fun _ _ _ _ _ => pg_name (i := 1) sc_covering_stops.nd rfl (.inl rfl)) (di_seq (de_callC c1 hr (by rfl) (da_cons ?_))))))
  walk_at "nm"
  refine da_nil ⟨x, gs, rfl, hT, hs, hl, hnm, fun p1 M1 sub1 hp1 m1 => ?_⟩
  have htl := tkG_len gs
  generalize tkG gs = ts at m1 q htl
  refine ⟨ts.map sGap, by simp only [seqOf, m1], fun D hD => ?_⟩
  have n1D : p1 ≠ D := neC m1 hD
  refine ⟨fun i M' => M' = updC M1 D (.l ((ts.take i).map fun g => dI (hiG g))), rfl, ?_, ?_, ?_⟩
  · rintro i M' rfl
    simp only [seqOf, updC_ne n1D, m1]
  · rintro i y M' hi hy rfl
    rw [List.length_map] at hi
    have hy' : y = sGap ts[i] := by
      rw [List.getElem?_map, List.getElem?_eq_getElem hi] at hy
      exact (Option.some.inj hy).symm
    subst hy'
    have htk : ts.take (i + 1) = ts.take i ++ [ts[i]] := by rw [List.take_add_one, List.getElem?_eq_getElem hi]; rfl
    generalize ts[i] = g at htk
    refine wgw_name (by simp) ?_
    intro s0 H0 C cl fp
    refine de_callC (c2.up (by decide)) hr (by rfl) (da_cons ?_)
    walk_at "nm"
    refine da_nil ⟨g, rfl, _, updC_same, ?_, ?_⟩
    · rw [List.length_map, List.length_take, sizeLine_eq]
      omega
    · show updC _ _ _ = updC _ _ _
      rw [updC_updC, htk, List.map_append]
      rfl
  rintro M' rfl
  rw [List.length_map, List.take_length]
  exact ⟨_, Sub.refl _, q D _ (sub1.new hD) (sub1.none hD) updC_same⟩

local macro_rules | `(tactic| walk_at "nm") => `(tactic| first | ((with_reducible refine de_name (x := "line_counts") (i := 0) (s := ?s) ?hN ?hv ?ht ?q ?hd ?hcd); (case hN => rfl); (case hv => walk_at "vis"); (case ht => rfl); (case hd => decide); (case hcd => decide)) | ((with_reducible refine de_name (x := "content") (i := 1) (s := ?s) ?hN ?hv ?ht ?q ?hd ?hcd); (case hN => rfl); (case hv => walk_at "vis"); (case ht => rfl); (case hd => decide); (case hcd => decide)) | ((with_reducible refine de_name (x := "found") (i := 2) (s := ?s) ?hN ?hv ?ht ?q ?hd ?hcd); (case hN => rfl); (case hv => walk_at "vis"); (case ht => rfl); (case hd => decide); (case hcd => decide)))


def R_mino : Rr := fun L ss M Q => ∃ (cs : Cnt) (s : Sl) (c : List Y.Run), NoDK L ∧ ss = [.d (eCnt cs), s] ∧ okCnt cs ∧ LT M s (c.map sRun) ∧ okC (some cs) c ∧ c.length ≤ 90000 ∧ (isNone (.d (finA cs c)) = true → Q (dI ((tkG (gapsA cs c)).length : Int)) M) ∧ (isNone (.d (finA cs c)) = false → Q (.d .none) M)
theorem ok_min_overwrites (F : FunAt K mg "min_overwrites" s_min_overwrites ["line_counts", "content"]) (c1 : Cal P w K mg base "gaps" 8 ["line_counts", "content"] R_gaps) (c2 : Cal P w K mg base "gaps_that_share_no_run" 4 ["found"] R_gsnr) (b1 : mg "len" = none) : Cal P w K mg base "min_overwrites" 9 ["line_counts", "content"] R_mino := by
  refine cal_of F sc_min_overwrites (fun _ ss _ _ ⟨cs, s, c, _, h, _⟩ => by rw [h]; rfl) (fun f cdv A outer s H E L ss M Q hr h => ?_)
  obtain ⟨cs, x, c, hL, rfl, okc, lt, ok, hl, q1, q2⟩ := h
  have hgl := gapsA_lenT (cs := cs) (c := c)
  have l12 := okc.2.1
  refine db_cons (ds_set (i := 2) sc_min_overwrites.nd rfl (.inl rfl) (de_callC c1 hr (by rfl) ?_))
  walk_at "go"
  refine da_nil ⟨cs, x, c, hL, rfl, okc, lt, ok, by omega, fun hf p1 M1 sub1 hp1 m1 => ?_, fun hf => ?_⟩
  · refine db_cons (ds_ifF (dt_cmp op_isN ?_ (nomark _)) (db_nil ?_))
    · walk_at "nm"
      exact de_non (k_isN ⟨_, rfl, rfl, rfl⟩)
    refine db_cons (ds_ret (de_gc (de_callB call_len_seq (by rfl) b1 bt_len (da_cons (de_callC (c2.up (by decide)) hr (by rfl) (da_cons ?_))))))
    walk_at "nm"
    refine da_nil ⟨.c p1, gapsA cs c, rfl, rfl, by simp only [seqOf, m1], by omega, gap_name okc (fun r hr => (ok.1 r hr).1), fun p M' sub hp m => da_nil (k_len (by simp only [seqOf, m]; rfl) ⟨M, Sub.trans sub1 sub, ?_⟩)⟩
    rw [List.length_map]
    exact q1 hf
  · refine db_cons (ds_ifT (dt_cmp op_isN ?_ (nomark _)) (db_cons (ds_ret (de_non (q2 hf)))))
    walk_at "nm"
    exact de_non (k_isN ⟨_, rfl, rfl, rfl⟩)

end

end Pg

namespace Pg
open PySem L2 Y PyProof.Rows

local macro_rules | `(tactic| walk_at "vis") => `(tactic| first | exact Or.inl rfl | exact Or.inr (Or.inl rfl) | exact Or.inr (Or.inr rfl))
local macro_rules | `(tactic| walk_at "e1") => `(tactic| first | walk_at "nm" | refine de_int ?_ | refine de_add ?_ | refine de_sub ?_ | refine de_str ?_ | refine de_non ?_ | refine de_bl ?_)
local macro_rules | `(tactic| walk_at "go") => `(tactic| repeat (first | ((with_reducible show DE _ _ _ _ _ _); walk_at "e1") | ((with_reducible show DA _ _ _ _ _ _); refine da_cons ?_) | refine ⟨_, _, rfl, rfl, ?_⟩))


theorem eqv_nil (f : List PyData) : PyData.eqv (.list f) (.list []) = f.isEmpty := by cases f <;> rfl
theorem shaped_nil : SeqAt.shaped (.list []) = true := by decide +kernel
theorem shaped_intL (ns : List Int) : SeqAt.shaped (.list (ns.map PyData.int)) = true := shaped_list PyData.int ns 0 (by decide) (fun _ _ => rfl) (fun _ _ => Nat.le_refl 0)
theorem take_filter {α : Type} (c : List α) (p : α → Bool) {i : Nat} {a : α} (h : c[i]? = some a) : (c.take (i + 1)).filter p = (c.take i).filter p ++ if p a = true then [a] else [] := by
  rw [List.take_add_one, h, List.filter_append]
  congr 1
  show List.filter p [a] = _
  rw [List.filter_cons]
  rfl
/-- the number lies in the gap's runs -/
def inG (g : Gap) (k : Int) : Bool := decide (loG g ≤ k) && decide (k ≤ hiG g)
def meetP (gs : List Gap) (ns : List Int) : Prop := ∀ g ∈ gs, ∃ k ∈ ns, inG g k = true
def crossB (g o : Gap) : Bool := decide (loG o ≤ hiG g) && decide (loG g ≤ hiG o)
def aloneP (gs : List Gap) : Prop := gs.Pairwise fun o g => crossB g o = false
theorem inG_nil (g : Gap) (ns : List Int) : ns.filter (inG g) = [] ↔ ¬ ∃ k ∈ ns, inG g k = true := by
  rw [List.filter_eq_nil_iff]
  exact ⟨fun h ⟨k, hk, e⟩ => h k hk e, fun h k hk e => h ⟨k, hk, e⟩⟩
theorem empty_iff {α : Type} (l : List α) : l.isEmpty = true ↔ l = [] := List.isEmpty_iff
theorem map_empty {α β : Type} (f : α → β) (l : List α) : (l.map f).isEmpty = l.isEmpty := by cases l <;> rfl


def idxI (n : Nat) : List Int := (List.range n).map fun k : Nat => (k : Int)
theorem rgI_idx (n : Nat) : rgI 0 (n : Int) = (idxI n).map dI := by
  unfold rgI idxI
  rw [List.map_map, show ((n : Int) - 0).toNat = n by omega]
  apply List.map_congr_left
  intro k _
  show dI (0 + (k : Int)) = dI (k : Int)
  rw [Int.zero_add]
theorem idxI_len (n : Nat) : (idxI n).length = n := by unfold idxI; rw [List.length_map, List.length_range]
theorem idxI_mem {n : Nat} {k : Int} : k ∈ idxI n ↔ 0 ≤ k ∧ k < (n : Int) := by
  unfold idxI
  rw [List.mem_map]
  constructor
  · rintro ⟨m, hm, rfl⟩
    have := List.mem_range.mp hm
    omega
  · rintro ⟨h0, h1⟩
    exact ⟨k.toNat, List.mem_range.mpr (by omega), by omega⟩
theorem idxI_asc (n : Nat) : (idxI n).Pairwise (· ≤ ·) := by
  unfold idxI
  rw [List.pairwise_map]
  exact (List.pairwise_lt_range (n := n)).imp fun h => by omega
/-- sorted lists: a strictly sorted part is a sublist -/
theorem sub_of_sorted {α : Type} {le : α → α → Prop} (anti : ∀ a b, le a b → le b a → a = b) : ∀ {L S : List α}, L.Pairwise le → S.Pairwise (fun a b => le a b ∧ a ≠ b) → (∀ x ∈ S, x ∈ L) → S.Sublist L
  | [], S, _, _, h => by
    cases S with
    | nil => exact List.Sublist.refl _
    | cons s S => exact absurd (h s List.mem_cons_self) (by simp)
  | a :: L, [], _, _, _ => List.nil_sublist _
  | a :: L, s :: S, hL, hS, h => by
    obtain ⟨l1, l2⟩ := List.pairwise_cons.mp hL
    obtain ⟨s1, s2⟩ := List.pairwise_cons.mp hS
    by_cases e : s = a
    · subst e
      refine (sub_of_sorted anti l2 s2 fun x hx => ?_).cons_cons s
      rcases List.mem_cons.mp (h x (List.mem_cons_of_mem _ hx)) with e | hm
      · exact absurd e.symm (s1 x hx).2
      · exact hm
    · have hsL : s ∈ L := by
        rcases List.mem_cons.mp (h s List.mem_cons_self) with e2 | hm
        · exact absurd e2 e
        · exact hm
      refine (sub_of_sorted anti l2 hS fun x hx => ?_).cons a
      rcases List.mem_cons.mp (h x hx) with e2 | hm
      · subst e2
        rcases List.mem_cons.mp hx with e3 | hx
        · exact absurd e3.symm e
        · exact absurd (anti _ _ (s1 x hx).1 (l1 s hsL)) e
      · exact hm
theorem cross_comm (g o : Gap) : crossB g o = crossB o g := Bool.and_comm _ _
theorem in_cross {g o : Gap} {k : Int} (h1 : inG g k = true) (h2 : inG o k = true) : crossB g o = true := by
  unfold inG at h1 h2
  rw [Bool.and_eq_true, decide_eq_true_eq, decide_eq_true_eq] at h1 h2
  unfold crossB
  rw [decide_eq_true (by omega), decide_eq_true (by omega)]
  rfl
/-- gaps that share no run, each holding a number: as many numbers -/
theorem pick_len : ∀ {A : List Gap} {B : List Int}, aloneP A → meetP A B → A.length ≤ B.length
  | [], _, _, _ => Nat.zero_le _
  | g :: A, B, hA, hB => by
    obtain ⟨a1, a2⟩ := List.pairwise_cons.mp hA
    obtain ⟨k, hk, e⟩ := hB g List.mem_cons_self
    have := pick_len (A := A) (B := B.erase k) a2 fun o ho => by
      obtain ⟨j, hj, e2⟩ := hB o (List.mem_cons_of_mem _ ho)
      refine ⟨j, (List.mem_erase_of_ne fun ejk => ?_).mpr hj, e2⟩
      subst ejk
      have h1 := a1 o ho
      rw [in_cross e2 e] at h1
      cases h1
    rw [List.length_erase_of_mem hk] at this
    have := List.length_pos_of_mem hk
    rw [List.length_cons]
    omega
theorem k22_math {n : Nat} {gs T A : List Gap} (hbd : ∀ g ∈ gs, 0 ≤ loG g ∧ loG g ≤ hiG g ∧ hiG g < (n : Int)) (t1 : ∀ g ∈ T, g ∈ gs) (t2 : T.Pairwise (fun a b => hiG a < loG b)) (t3 : ∀ g ∈ gs, ∃ t ∈ T, loG g ≤ hiG t ∧ hiG t ≤ hiG g) (hA : A.Perm T) (hAs : A.Pairwise gLe) (hgs : gs.Pairwise gLe) :
    (T.map hiG).Pairwise (· < ·) ∧ (T.map hiG).Sublist (idxI n) ∧ meetP gs (T.map hiG) ∧ (∀ S, meetP gs S → T.length ≤ S.length) ∧ aloneP A ∧ A.Sublist gs ∧ ∀ S : List Gap, S.Sublist gs → aloneP S → S.length ≤ T.length := by
  have asc : (T.map hiG).Pairwise (· < ·) := by
    rw [List.pairwise_map]
    refine t2.imp_of_mem fun {a b} _ hb h => ?_
    have := (hbd b (t1 b hb)).2.1
    omega
  have alT : aloneP T := t2.imp fun {a b} h => by
    unfold crossB
    rw [decide_eq_false (show ¬ loG b ≤ hiG a by omega), Bool.and_false]
  have alA : aloneP A := (hA.pairwise_iff fun {x y} h => by rw [cross_comm]; exact h).mpr alT
  have hm : meetP gs (T.map hiG) := fun g hg => by
    obtain ⟨t, ht, k1, k2⟩ := t3 g hg
    refine ⟨hiG t, List.mem_map_of_mem ht, ?_⟩
    unfold inG
    rw [decide_eq_true k1, decide_eq_true k2]
    rfl
  refine ⟨asc, ?_, hm, fun S hS => pick_len alT fun g hg => hS g (t1 g hg), alA, ?_, fun S hS hal => ?_⟩
  · refine sub_of_sorted (le := (· ≤ ·)) (fun a b h k => Int.le_antisymm h k) (idxI_asc n) (asc.imp fun {a b} h => ⟨Int.le_of_lt h, by omega⟩) fun x hx => ?_
    obtain ⟨t, ht, rfl⟩ := List.mem_map.mp hx
    have := hbd t (t1 t ht)
    exact idxI_mem.mpr ⟨by omega, this.2.2⟩
  · refine sub_of_sorted (le := gLe) (fun a b h k => gLe_anti h k) hgs ?_ fun x hx => t1 x (hA.mem_iff.mp hx)
    have hb : A.Pairwise fun a b => gLe a b ∧ crossB b a = false := List.pairwise_and_iff.mpr ⟨hAs, alA⟩
    refine hb.imp_of_mem fun {a b} ha _ h => ⟨h.1, fun e => ?_⟩
    subst e
    have h1 := h.2
    have h2 := (hbd a (t1 a (hA.mem_iff.mp ha))).2.1
    unfold crossB at h1
    rw [decide_eq_true h2] at h1
    cases h1
  · have := pick_len hal fun g hg => hm g (hS.subset hg)
    rw [List.length_map] at this
    exact this
theorem lt_ext : ∀ {a b : List Int}, a.Pairwise (· < ·) → b.Pairwise (· < ·) → (∀ x, x ∈ a ↔ x ∈ b) → a = b := fun {a b} ha hb h => by
  have f : ∀ {a b : List Int}, a.Pairwise (· < ·) → b.Pairwise (· < ·) → (∀ x, x ∈ a ↔ x ∈ b) → a.Sublist b := fun {a b} ha hb h => sub_of_sorted (le := (· ≤ ·)) (fun a b h k => Int.le_antisymm h k) (hb.imp fun h => Int.le_of_lt h) (ha.imp fun {a b} h => ⟨Int.le_of_lt h, by omega⟩) fun x hx => (h x).mp hx
  exact (f ha hb h).eq_of_length_le (f hb ha fun x => (h x).symm).length_le
theorem eqv_int (a b : Int) : PyData.eqv (.int a) (.int b) = decide (a = b) := by
  simp only [PyData.eqv]
  by_cases h : a = b <;> simp [h]
theorem mem_gaps {gs : List Gap} {g : Gap} : ((gs.map eGap).any fun e => PyData.eqv e (eGap g)) = decide (g ∈ gs) := by
  by_cases h : g ∈ gs
  · rw [decide_eq_true h, List.any_eq_true]
    exact ⟨eGap g, List.mem_map_of_mem h, by rw [eqv_gap, decide_eq_true rfl]⟩
  · rw [decide_eq_false h, List.any_eq_false]
    intro d hd
    obtain ⟨x, hx, rfl⟩ := List.mem_map.mp hd
    rw [eqv_gap]
    exact fun e => h (by rw [← of_decide_eq_true e]; exact hx)
theorem gap_al (a b : Gap) : PySem.W.alike (eGap a) (eGap b) = true := by simp [eGap, PySem.W.alike, PySem.W.alikeAll]


/-! schedules: reads, saves, appends -/
def dRead (z : Str) : PyData := .tuple [.str "read", .str z]
def dSave (z : Str) : PyData := .tuple [.str "save", .str z]
def dApp (z : Str) (n : Int) : PyData := .tuple [.str "append", .str z, .int n]
def blkS (ds : List PyData) (r : Y.Run) : List PyData := if ds.isEmpty = true then [dApp r.1 (r.2.2 - r.2.1 + 1)] else dRead r.1 :: (ds ++ (dSave r.1 :: (if 0 < r.2.2 - r.2.1 then [dApp r.1 (r.2.2 - r.2.1)] else [])))
def schd (lk : Int → List PyData) (c : List Y.Run) (n : Nat) : List PyData := (List.range n).flatMap fun i : Nat => match c[i]? with
  | some r => blkS (lk (i : Int)) r
  | none => []
theorem schd_succ {lk : Int → List PyData} {c : List Y.Run} {n : Nat} {r : Y.Run} (h : c[n]? = some r) : schd lk c (n + 1) = schd lk c n ++ blkS (lk (n : Int)) r := by
  unfold schd
  rw [List.range_succ, List.flatMap_append, List.flatMap_cons, List.flatMap_nil, List.append_nil, h]
theorem blkS_len (ds : List PyData) (r : Y.Run) : (blkS ds r).length ≤ ds.length + 3 := by
  unfold blkS
  split
  · show 1 ≤ _
    omega
  · rw [List.length_cons, List.length_append, List.length_cons]
    split
    · show _ + (1 + 1) + 1 ≤ _
      omega
    · show _ + (0 + 1) + 1 ≤ _
      omega
/-- the gaps that are lost at a run -/
def covT (T : List Int) (g : Gap) : List Int := T.filter (inG g)
def lkG (gs : List Gap) (T : List Int) (i : Int) : List PyData := (gs.filter fun g => decide ((covT T g).head? = some i)).map fun g => dApp g.1 (g.2.2.1 - g.2.1 + 1)
theorem lkG_snoc {gs : List Gap} {T : List Int} {i : Int} {g : Gap} : lkG (gs ++ [g]) T i = lkG gs T i ++ if (covT T g).head? = some i then [dApp g.1 (g.2.2.1 - g.2.1 + 1)] else [] := by
  unfold lkG
  rw [List.filter_append, List.map_append]
  congr 1
  by_cases e : (covT T g).head? = some i
  · rw [if_pos e, List.filter_cons, if_pos (decide_eq_true e)]
    rfl
  · rw [if_neg e, List.filter_cons, if_neg (by rw [decide_eq_false e]; exact Bool.false_ne_true)]
    rfl
theorem lkG_len (gs : List Gap) (T : List Int) (i : Int) : (lkG gs T i).length ≤ gs.length := by
  unfold lkG
  rw [List.length_map]
  exact List.length_filter_le _ _
section
variable {P : Program} {w : World} {K : PySem.W.Frag} {mg : Str → Option Value} {base : Heap}

local macro_rules | `(tactic| walk_at "nm") => `(tactic| first | ((with_reducible refine de_name (x := "runs") (i := 0) (s := ?s) ?hN ?hv ?ht ?q ?hd ?hcd); (case hN => rfl); (case hv => walk_at "vis"); (case ht => rfl); (case hd => decide); (case hcd => decide)) | ((with_reducible refine de_name (x := "lost") (i := 1) (s := ?s) ?hN ?hv ?ht ?q ?hd ?hcd); (case hN => rfl); (case hv => walk_at "vis"); (case ht => rfl); (case hd => decide); (case hcd => decide)) | ((with_reducible refine de_name (x := "schedule") (i := 2) (s := ?s) ?hN ?hv ?ht ?q ?hd ?hcd); (case hN => rfl); (case hv => walk_at "vis"); (case ht => rfl); (case hd => decide); (case hcd => decide)) | ((with_reducible refine de_name (x := "index") (i := 3) (s := ?s) ?hN ?hv ?ht ?q ?hd ?hcd); (case hN => rfl); (case hv => walk_at "vis"); (case ht => rfl); (case hd => decide); (case hcd => decide)) | ((with_reducible refine de_name (x := "writer") (i := 4) (s := ?s) ?hN ?hv ?ht ?q ?hd ?hcd); (case hN => rfl); (case hv => walk_at "vis"); (case ht => rfl); (case hd => decide); (case hcd => decide)) | ((with_reducible refine de_name (x := "first") (i := 5) (s := ?s) ?hN ?hv ?ht ?q ?hd ?hcd); (case hN => rfl); (case hv => walk_at "vis"); (case ht => rfl); (case hd => decide); (case hcd => decide)) | ((with_reducible refine de_name (x := "last") (i := 6) (s := ?s) ?hN ?hv ?ht ?q ?hd ?hcd); (case hN => rfl); (case hv => walk_at "vis"); (case ht => rfl); (case hd => decide); (case hcd => decide)) | ((with_reducible refine de_name (x := "left") (i := 7) (s := ?s) ?hN ?hv ?ht ?q ?hd ?hcd); (case hN => rfl); (case hv => walk_at "vis"); (case ht => rfl); (case hd => decide); (case hcd => decide)))


def R_sched : Rr := fun _ ss M Q => ∃ (s : Sl) (c : List Y.Run) (D : Addr) (es : Gd) (k : Nat), ss = [s, .c D] ∧ isTup s = false ∧ seqOf M s = some (c.map sRun) ∧ (∀ r ∈ c, r.2.1 ≤ r.2.2) ∧ M D = some (.k (kvG es)) ∧ (es.map (·.1)).Nodup ∧ (∀ e ∈ es, M e.2.1 = some (.l (e.2.2.map .d)) ∧ e.2.2 ≠ [] ∧ e.2.2.length ≤ k) ∧ k ≤ 1000 ∧ c.length ≤ 1000 ∧ ∀ (p : Addr) (M' : Cs), Sub M M' → M p = none → M' p = some (.l ((schd (fun i => getG es (.inl i)) c c.length).map .d)) → Q (.c p) M'
set_option maxHeartbeats 4000000 in
theorem ok_schedule_of_runs (F : FunAt K mg "schedule_of_runs" s_schedule_of_runs ["runs", "lost"]) (b1 : mg "enumerate" = none) : Cal P w K mg base "schedule_of_runs" 1 ["runs", "lost"] R_sched := by
  refine cal_of F sc_schedule_of_runs (fun _ ss _ _ ⟨s, c, D, es, k, h, _⟩ => by rw [h]; rfl) (fun f cdv A outer s H E L us M Q hr h => ?_)
  obtain ⟨x, c, D, es, kk, rfl, hT, hs, hle, mD, ndk, hes, hkk, hl, q⟩ := h
  refine db_cons (ds_set (i := 2) sc_schedule_of_runs.nd rfl (.inl rfl) (de_lstC (da_nil ⟨Nat.zero_le _, fun pf hpf => ?_⟩)))
  have sub_M1 : Sub M (updC M pf (.l [])) := (Sub.refl _).new hpf
  have m_pf : updC M pf (.l []) pf = some (.l []) := updC_same
  generalize updC M pf (.l []) = M1 at sub_M1 m_pf
  have gl : ∀ k, (getG es k).length ≤ kk := fun k => by
    unfold getG
    cases e : es.find? fun e => decide (e.1 = k) with
    | none => exact Nat.zero_le _
    | some e0 => exact (hes e0 (List.mem_of_find?_eq_some e)).2.2
  generalize hlk : (fun i => getG es (.inl i)) = lk at q
  have gl2 : ∀ i, (lk i).length ≤ kk := fun i => by rw [← hlk]; exact gl _
  have sl : ∀ n, (schd lk c n).length ≤ n * 1003 := fun n => by
    induction n with
    | zero => exact Nat.le_refl 0
    | succ n ih =>
      cases e : c[n]? with
      | none =>
        have : schd lk c (n + 1) = schd lk c n := by
          unfold schd
          rw [List.range_succ, List.flatMap_append, List.flatMap_cons, List.flatMap_nil, List.append_nil, e, List.append_nil]
        rw [this]
        omega
      | some r =>
        rw [schd_succ e, List.length_append]
        have := blkS_len (lk (n : Int)) r
        have := gl2 (n : Int)
        omega
  refine db_consJ (fun τ' M' => ∃ y3 y4 y5 y6 y7, τ' = [some x, some (.c D), some (.c pf), y3, y4, y5, y6, y7] ∧ Sub M M' ∧ M' pf = some (.l ((schd lk c c.length).map .d))) (ds_for PassesOwn.never rfl (di_enum (by rfl) b1 ?_)) ?_
  · walk_at "nm"
    refine ⟨c.map sRun, hT, seqOf_sub hs sub_M1, ?_⟩
    refine ⟨fun i τ' M' => ∃ y3 y4 y5 y6 y7, τ' = [some x, some (.c D), some (.c pf), y3, y4, y5, y6, y7] ∧ Sub M M' ∧ M' pf = some (.l ((schd lk c i).map .d)), ⟨none, none, none, none, none, rfl, sub_M1, m_pf⟩, fun i τ' M' ⟨_, _, _, _, _, _, sb, _⟩ => seqOf_sub hs sb, ?_, ?_⟩
    · rintro i y τ' M2 hi ⟨z, hz, rfl⟩ ⟨y3, y4, y5, y6, y7, rfl, sub2, m2⟩
      rw [List.length_map] at hi
      have hgi : c[i]? = some c[i] := List.getElem?_eq_getElem hi
      have hz' : z = sRun c[i] := by
        rw [List.getElem?_map, hgi] at hz
        exact (Option.some.inj hz).symm
      subst hz'
      have hsc := schd_succ (lk := lk) hgi
      have hle1 := hle _ (List.getElem_mem hi)
      generalize c[i] = r at hsc hle1
      obtain ⟨wr, fi, la⟩ := r
      have hle1 : fi ≤ la := hle1
      have hlen := sl i
      have hlen1 := gl2 (i : Int)
      generalize schd lk c i = pre at m2 hsc hlen
      refine dg_of (pg_tup rfl (pgs_cons (pg_name (i := 3) sc_schedule_of_runs.nd rfl (.inl rfl)) (pgs_cons (pg_tup rfl (pgs_cons (pg_name (i := 4) sc_schedule_of_runs.nd rfl (.inl rfl)) (pgs_cons (pg_name (i := 5) sc_schedule_of_runs.nd rfl (.inl rfl)) (pgs_cons (pg_name (i := 6) sc_schedule_of_runs.nd rfl (.inl rfl)) pgs_nil)))) pgs_nil)))
        (wg_tup rfl rfl rfl (wgs_cons (wg_name (wgs_cons (wg_tup rfl rfl rfl (wgs_cons (wg_name (wgs_cons (wg_name (wgs_cons (wg_name (wgs_nil (wgs_nil ?_)))))))))))))
      refine db_cons (ds_set (i := 7) sc_schedule_of_runs.nd rfl (.inl rfl) (de_add (de_sub ?_)))
      walk_at "nm"
      walk_at "nm"
      refine ⟨_, _, rfl, rfl, de_int ⟨_, _, rfl, rfl, ?_⟩⟩
      refine db_consJ (fun τ' M' => ∃ (rest : List PyData) (lft : Int), τ' = [some x, some (.c D), some (.c pf), some (dI (i : Int)), some (.d (.str wr)), some (.d (.int fi)), some (.d (.int la)), some (dI lft)] ∧ Sub M M' ∧ M' pf = some (.l ((pre ++ rest).map .d)) ∧ rest.length ≤ 1003 ∧ blkS (lk (i : Int)) (wr, fi, la) = rest ++ (if 0 < lft then [dApp wr lft] else [])) (ds_if (dt_din (hu_of hr) ?_ (by with_unfolding_all rfl))) ?_
      · walk_at "nm"
        walk_at "nm"
        have mD2 := sub2 _ _ mD
        refine ⟨.inl (i : Int), kvG es, rfl, .c mD2, fun h1 => ?_, fun h1 => ?_⟩
        · rw [valS_G] at h1
          obtain ⟨sv, hsv⟩ := Option.isSome_iff_exists.mp h1
          obtain ⟨en, hen, _⟩ := Option.map_eq_some_iff.mp hsv
          have hm := List.mem_of_find?_eq_some hen
          obtain ⟨c1, c2, c3⟩ := hes en hm
          have elk : lk (i : Int) = en.2.2 := by
            rw [← hlk]
            show getG es (.inl (i : Int)) = _
            unfold getG
            rw [hen]
            rfl
          have hv : valS (kvG es) (.inl (i : Int)) = some (.c en.2.1) := by rw [valS_G, hen]; rfl
          refine db_cons (ds_append ?_)
          walk_at "nm"
          refine ⟨⟨rfl, _, by simp only [seqOf, m2]; rfl⟩, de_tupD (da_cons (de_str (da_cons ?_)))⟩
          walk_at "nm"
          refine da_nil ⟨[.str "read", .str wr], rfl, (by show 2 ≤ sizeLine; decide), pf, _, rfl, m2, by rw [List.length_map, sizeLine_eq]; omega, ?_⟩
          have npf : en.2.1 ≠ pf := fun e => by rw [e, hpf] at c1; cases c1
          have m3 : updC M2 pf (.l (pre.map .d ++ [.d (.tuple [.str "read", .str wr])])) pf = some (.l ((pre ++ [dRead wr]).map .d)) := by rw [updC_same, List.map_append]; rfl
          have sub3 : Sub M (updC M2 pf (.l (pre.map .d ++ [.d (.tuple [.str "read", .str wr])]))) := sub_put sub2 hpf
          generalize updC M2 pf (.l (pre.map .d ++ [.d (.tuple [.str "read", .str wr])])) = M3 at m3 sub3
          refine db_cons (ds_extend ?_)
          walk_at "nm"
          refine ⟨⟨rfl, _, by simp only [seqOf, m3]; rfl⟩, de_dget (hu_of hr) ?_⟩
          walk_at "nm"
          walk_at "nm"
          refine ⟨kvG es, .inl (i : Int), .c en.2.1, .c (sub3 _ _ mD), rfl, hv, pf, en.2.1, _, _, rfl, rfl, m3, sub3 _ _ c1, ?_, ?_⟩
          · rw [List.length_map, List.length_map, List.length_append, sizeLine_eq]
            show _ + 1 + _ ≤ _
            omega
          rw [← List.map_append]
          have m4 : updC M3 pf (.l ((pre ++ [dRead wr] ++ en.2.2).map .d)) pf = some (.l ((pre ++ [dRead wr] ++ en.2.2).map .d)) := updC_same
          have sub4 : Sub M (updC M3 pf (.l ((pre ++ [dRead wr] ++ en.2.2).map .d))) := sub_put sub3 hpf
          generalize updC M3 pf (.l ((pre ++ [dRead wr] ++ en.2.2).map .d)) = M4 at m4 sub4
          refine db_cons (ds_append ?_)
          walk_at "nm"
          refine ⟨⟨rfl, _, by simp only [seqOf, m4]; rfl⟩, de_tupD (da_cons (de_str (da_cons ?_)))⟩
          walk_at "nm"
          refine da_nil ⟨[.str "save", .str wr], rfl, (by show 2 ≤ sizeLine; decide), pf, _, rfl, m4, ?_, ?_⟩
          · rw [List.length_map, List.length_append, List.length_append, sizeLine_eq]
            show _ + 1 + _ < _
            omega
          have m5 : updC M4 pf (.l ((pre ++ [dRead wr] ++ en.2.2).map .d ++ [.d (.tuple [.str "save", .str wr])])) pf = some (.l ((pre ++ (dRead wr :: (en.2.2 ++ [dSave wr]))).map .d)) := by
            rw [updC_same]
            simp only [List.map_append, List.map_cons, List.map_nil, List.append_assoc, List.cons_append, List.nil_append]
            rfl
          have sub5 : Sub M (updC M4 pf (.l ((pre ++ [dRead wr] ++ en.2.2).map .d ++ [.d (.tuple [.str "save", .str wr])]))) := sub_put sub4 hpf
          generalize updC M4 pf (.l ((pre ++ [dRead wr] ++ en.2.2).map .d ++ [.d (.tuple [.str "save", .str wr])])) = M5 at m5 sub5
          refine db_cons (ds_aug (i := 7) sc_schedule_of_runs.nd rfl (.inl rfl) ip_sub rfl (de_int ?_))
          refine k_int (f := fun i j => i - j) (db_nil ?_)
          refine ⟨dRead wr :: (en.2.2 ++ [dSave wr]), la - fi + 1 - 1, rfl, sub5, m5, ?_, ?_⟩
          · rw [List.length_cons, List.length_append]
            show _ + 1 + 1 ≤ _
            omega
          · unfold blkS
            rw [elk, if_neg (by rw [List.isEmpty_iff]; exact c2)]
            have e0 : la - fi + 1 - 1 = la - fi := by omega
            rw [e0]
            simp only [List.cons_append, List.append_assoc, List.nil_append]
        · rw [valS_G] at h1
          have hno : es.find? (fun e => decide (e.1 = .inl (i : Int))) = none := by
            cases e : es.find? (fun e => decide (e.1 = .inl (i : Int))) with
            | none => rfl
            | some e0 => rw [e] at h1; cases h1
          have elk : lk (i : Int) = [] := by
            rw [← hlk]
            show getG es (.inl (i : Int)) = _
            unfold getG
            rw [hno]
            rfl
          refine db_nil ⟨[], la - fi + 1, rfl, sub2, by rw [List.append_nil]; exact m2, Nat.zero_le _, ?_⟩
          unfold blkS
          rw [elk, if_pos (show ([] : List PyData).isEmpty = true from rfl), if_pos (by omega)]
          rfl
      rintro τ' M3 ⟨rest, lft, rfl, sub3, m3, hrl, he⟩
      refine db_cons (ds_if (dt_cmp op_gt ?_ (by with_unfolding_all rfl)))
      walk_at "nm"
      refine de_int (k_bool ⟨_, rfl, fun h1 => db_cons (ds_append ?_), fun h1 => db_nil (db_nil ⟨_, _, _, _, _, rfl, sub3, ?_⟩)⟩)
      · walk_at "nm"
        refine ⟨⟨rfl, _, by simp only [seqOf, m3]; rfl⟩, de_tupD (da_cons (de_str (da_cons ?_)))⟩
        walk_at "nm"
        refine da_cons ?_
        walk_at "nm"
        refine da_nil ⟨[.str "append", .str wr, .int lft], rfl, (by show 3 ≤ sizeLine; decide), pf, _, rfl, m3, ?_, db_nil (db_nil ⟨_, _, _, _, _, rfl, sub_put sub3 hpf, ?_⟩)⟩
        · rw [List.length_map, List.length_append, sizeLine_eq]
          omega
        · rw [updC_same, hsc, he, if_pos (by simpa using h1), ← List.append_assoc, List.map_append (l₂ := [dApp wr lft])]
          rfl
      · rw [m3, hsc, he, if_neg (by simpa using h1), List.append_nil]
    · rintro τ' M2 ⟨y3, y4, y5, y6, y7, rfl, sub2, m2⟩
      rw [List.length_map] at m2
      exact ⟨_, _, _, _, _, rfl, sub2, m2⟩
  rintro τ' M2 ⟨y3, y4, y5, y6, y7, rfl, sub2, m2⟩
  refine db_cons (ds_ret ?_)
  walk_at "nm"
  exact q pf M2 sub2 hpf m2

end

end Pg

namespace Pg
open PySem L2 Y PyProof.Rows

local macro_rules | `(tactic| walk_at "vis") => `(tactic| first | exact Or.inl rfl | exact Or.inr (Or.inl rfl) | exact Or.inr (Or.inr rfl))
local macro_rules | `(tactic| walk_at "e1") => `(tactic| first | walk_at "nm" | refine de_int ?_ | refine de_add ?_ | refine de_sub ?_ | refine de_str ?_ | refine de_non ?_ | refine de_bl ?_)
local macro_rules | `(tactic| walk_at "go") => `(tactic| repeat (first | ((with_reducible show DE _ _ _ _ _ _); walk_at "e1") | ((with_reducible show DA _ _ _ _ _ _); refine da_cons ?_) | refine ⟨_, _, rfl, rfl, ?_⟩))


theorem getG_mem {es : Gd} (nd : (es.map (·.1)).Nodup) {e : Key × Addr × List PyData} (h : e ∈ es) : getG es e.1 = e.2.2 := by
  obtain ⟨pre, post, rfl⟩ := List.append_of_mem h
  obtain ⟨k, a, l⟩ := e
  exact getG_self nd
/-- the schedule for a content -/
def stT (gs : List Gap) : List Int := (tkG gs).map hiG
def schG (cs : Cnt) (c : List Y.Run) : List PyData := schd (lkG (gapsA cs c) (stT (gapsA cs c))) c c.length
section
variable {P : Program} {w : World} {K : PySem.W.Frag} {mg : Str → Option Value} {base : Heap}

local macro_rules | `(tactic| walk_at "nm") => `(tactic| first | ((with_reducible refine de_name (x := "line_counts") (i := 0) (s := ?s) ?hN ?hv ?ht ?q ?hd ?hcd); (case hN => rfl); (case hv => walk_at "vis"); (case ht => rfl); (case hd => decide); (case hcd => decide)) | ((with_reducible refine de_name (x := "content") (i := 1) (s := ?s) ?hN ?hv ?ht ?q ?hd ?hcd); (case hN => rfl); (case hv => walk_at "vis"); (case ht => rfl); (case hd => decide); (case hcd => decide)) | ((with_reducible refine de_name (x := "counts") (i := 2) (s := ?s) ?hN ?hv ?ht ?q ?hd ?hcd); (case hN => rfl); (case hv => walk_at "vis"); (case ht => rfl); (case hd => decide); (case hcd => decide)) | ((with_reducible refine de_name (x := "runs") (i := 3) (s := ?s) ?hN ?hv ?ht ?q ?hd ?hcd); (case hN => rfl); (case hv => walk_at "vis"); (case ht => rfl); (case hd => decide); (case hcd => decide)) | ((with_reducible refine de_name (x := "found") (i := 4) (s := ?s) ?hN ?hv ?ht ?q ?hd ?hcd); (case hN => rfl); (case hv => walk_at "vis"); (case ht => rfl); (case hd => decide); (case hcd => decide)) | ((with_reducible refine de_name (x := "stops") (i := 5) (s := ?s) ?hN ?hv ?ht ?q ?hd ?hcd); (case hN => rfl); (case hv => walk_at "vis"); (case ht => rfl); (case hd => decide); (case hcd => decide)) | ((with_reducible refine de_name (x := "lost") (i := 6) (s := ?s) ?hN ?hv ?ht ?q ?hd ?hcd); (case hN => rfl); (case hv => walk_at "vis"); (case ht => rfl); (case hd => decide); (case hcd => decide)) | ((with_reducible refine de_name (x := "writer") (i := 7) (s := ?s) ?hN ?hv ?ht ?q ?hd ?hcd); (case hN => rfl); (case hv => walk_at "vis"); (case ht => rfl); (case hd => decide); (case hcd => decide)) | ((with_reducible refine de_name (x := "first") (i := 8) (s := ?s) ?hN ?hv ?ht ?q ?hd ?hcd); (case hN => rfl); (case hv => walk_at "vis"); (case ht => rfl); (case hd => decide); (case hcd => decide)) | ((with_reducible refine de_name (x := "last") (i := 9) (s := ?s) ?hN ?hv ?ht ?q ?hd ?hcd); (case hN => rfl); (case hv => walk_at "vis"); (case ht => rfl); (case hd => decide); (case hcd => decide)) | ((with_reducible refine de_name (x := "start") (i := 10) (s := ?s) ?hN ?hv ?ht ?q ?hd ?hcd); (case hN => rfl); (case hv => walk_at "vis"); (case ht => rfl); (case hd => decide); (case hcd => decide)) | ((with_reducible refine de_name (x := "stop") (i := 11) (s := ?s) ?hN ?hv ?ht ?q ?hd ?hcd); (case hN => rfl); (case hv => walk_at "vis"); (case ht => rfl); (case hd => decide); (case hcd => decide)) | ((with_reducible refine de_name (x := "covering") (i := 12) (s := ?s) ?hN ?hv ?ht ?q ?hd ?hcd); (case hN => rfl); (case hv => walk_at "vis"); (case ht => rfl); (case hd => decide); (case hcd => decide)) | ((with_reducible refine de_name (x := "index") (i := 13) (s := ?s) ?hN ?hv ?ht ?q ?hd ?hcd); (case hN => rfl); (case hv => walk_at "vis"); (case ht => rfl); (case hd => decide); (case hcd => decide)))


def R_swm : Rr := fun L ss M Q => ∃ (cs : Cnt) (s : Sl) (c : List Y.Run), NoDK L ∧ ss = [.d (eCnt cs), s] ∧ okCnt cs ∧ LT M s (c.map sRun) ∧ okC (some cs) c ∧ c.length ≤ 900 ∧ (isNone (.d (finA cs c)) = false → Q (.d .none) M) ∧ (isNone (.d (finA cs c)) = true → ∀ (p : Addr) (M' : Cs), Sub M M' → M p = none → M' p = some (.l ((schG cs c).map .d)) → Q (.c p) M')
set_option maxHeartbeats 8000000 in
theorem ok_schedule_with_min_overwrites (F : FunAt K mg "schedule_with_min_overwrites" s_schedule_with_min_overwrites ["line_counts", "content"]) (c1 : Cal P w K mg base "checked_line_counts" 4 ["value"] R_plain_line_counts) (c2 : Cal P w K mg base "checked_content" 6 ["line_counts", "value"] R_plain_content) (c3 : Cal P w K mg base "gaps" 8 ["line_counts", "content"] R_gaps) (c4 : Cal P w K mg base "covering_stops" 5 ["found"] R_cstops) (c5 : Cal P w K mg base "schedule_of_runs" 1 ["runs", "lost"] R_sched) : Cal P w K mg base "schedule_with_min_overwrites" 9 ["line_counts", "content"] R_swm := by
  refine cal_of F sc_schedule_with_min_overwrites (fun _ ss _ _ ⟨cs, s, c, _, h, _⟩ => by rw [h]; rfl) (fun f cdv A outer s H E L ss M Q hr h => ?_)
  obtain ⟨cs, x, c, hL, rfl, okc, lt, ok, hl, qn, q⟩ := h
  have hgl := gapsA_lenT (cs := cs) (c := c)
  have l12 := okc.2.1
  have hnm := gap_name okc (fun r hr => (ok.1 r hr).1)
  refine db_cons (ds_set (i := 2) sc_schedule_with_min_overwrites.nd rfl (.inl rfl) (de_callC (c1.up (by decide)) hr (by rfl) ?_))
  walk_at "go"
  refine da_nil ⟨cs, hL, rfl, okc, fun cs' hs' => ?_⟩
  have ok' := okC_sorted okc hs' ok
  have okc' := okCnt_perm hs'.1 okc
  refine db_cons (ds_set (i := 3) sc_schedule_with_min_overwrites.nd rfl (.inl rfl) (de_callC (c2.up (by decide)) hr (by rfl) ?_))
  walk_at "go"
  refine da_nil ⟨some cs', x, c, rfl, lt, ok', by omega, fun p hp => ?_⟩
  have sub_M1 : Sub M (updC M p (.l (c.map sRun))) := (Sub.refl _).new hp
  have m_p : updC M p (.l (c.map sRun)) p = some (.l (c.map sRun)) := updC_same
  generalize updC M p (.l (c.map sRun)) = M1 at sub_M1 m_p
  refine db_cons (ds_set (i := 4) sc_schedule_with_min_overwrites.nd rfl (.inl rfl) (de_callC (c3.up (by decide)) hr (by rfl) ?_))
  walk_at "go"
  refine da_nil ⟨cs', .c p, c, hL, rfl, okc', LT.cell m_p, ok', by omega, fun hf p2 M2 sub2 hp2 m2 => ?_, fun hf => ?_⟩
  rotate_left
  · rw [finA_perm hs'.1 okc.2.2.1] at hf
    refine db_cons (ds_ifT (dt_cmp op_isN ?_ (nomark _)) (db_cons (ds_ret (de_gc (de_non ⟨M, sub_M1, qn hf⟩)))))
    walk_at "nm"
    exact de_non (k_isN ⟨_, rfl, rfl, rfl⟩)
  rw [finA_perm hs'.1 okc.2.2.1] at hf
  have q := q hf
  have hle := gap_le okc hf
  rw [gapsA_perm hs'.1] at m2
  have m2p := sub2 _ _ m_p
  have sub2M := Sub.trans sub_M1 sub2
  refine db_cons (ds_ifF (dt_cmp op_isN ?_ (nomark _)) (db_nil ?_))
  · walk_at "nm"
    exact de_non (k_isN ⟨_, rfl, rfl, rfl⟩)
  obtain ⟨t1, t2, t3⟩ := tkG_ok (gs := gapsA cs c) hle
  obtain ⟨m1', m2', m3', -⟩ := k22_math (n := c.length) (fun g hg => ⟨(gap_bds g hg).1, hle g hg, (gap_bds g hg).2.2⟩) t1 t2 t3 (disG_perm cs c) (sorted_gaps _) (sorted_gaps _)
  have htl := tkG_len (gapsA cs c)
  have hTl : (stT (gapsA cs c)).length ≤ 1000 := by
    unfold stT
    rw [List.length_map]
    omega
  have hcov : ∀ g ∈ gapsA cs c, covT (stT (gapsA cs c)) g ≠ [] := fun g hg z => by
    obtain ⟨k, hk, hi⟩ := m3' g hg
    exact (List.filter_eq_nil_iff.mp z) k hk hi
  have hle2 : ∀ r ∈ c, r.2.1 ≤ r.2.2 := fun r hr => (ok.1 r hr).2.2.1
  unfold schG at q
  clear m1' m2' m3' t1 t2 t3 hle htl
  refine db_cons (ds_set (i := 5) sc_schedule_with_min_overwrites.nd rfl (.inl rfl) (de_frz (de_callC (c4.up (by decide)) hr (by rfl) (da_cons ?_))))
  walk_at "nm"
  refine da_nil ⟨.c p2, gapsA cs c, rfl, rfl, by simp only [seqOf, m2], by omega, hnm, fun p3 M3 sub3 hp3 m3 => ⟨p3, (stT (gapsA cs c)).map PyData.int, rfl, ?_, ?_⟩⟩
  · rw [m3, List.map_map]
    unfold stT
    rw [List.map_map]
    rfl
  generalize hgs : gapsA cs c = gs at *
  generalize hTT : stT gs = T at *
  have m3g : delC M3 p3 p2 = some (.l (gs.map sGap)) := by rw [delC_ne (neC m2 hp3)]; exact sub3 _ _ m2
  have m3p : delC M3 p3 p = some (.l (c.map sRun)) := by rw [delC_ne (neC m2p hp3)]; exact sub3 _ _ m2p
  have sub3M : Sub M (delC M3 p3) := (Sub.trans sub2M sub3).del (sub2M.none hp3)
  generalize delC M3 p3 = M4 at m3g m3p sub3M
  clear m3 sub3 hp3 m2 m2p sub2 sub2M hp2 sub_M1 hp m_p
  refine db_cons (ds_set (i := 6) sc_schedule_with_min_overwrites.nd rfl (.inl rfl) (de_dictC fun D hD => ?_))
  have nDp : p ≠ D := neC m3p hD
  refine db_consJ (fun τ' M' => ∃ (es : Gd) (y7 y8 y9 y10 y11 y12 : Option Sl), τ' = [some (.d (eCnt cs)), some x, some (.d (eCnt cs')), some (.c p), some (.c p2), some (.d (.list (T.map PyData.int))), some (.c D), y7, y8, y9, y10, y11, y12, none] ∧ Sub M4 M' ∧ M' D = some (.k (kvG es)) ∧ GdOk M4 M' D es ∧ (∀ i, getG es (.inl i) = lkG gs T i) ∧ (∀ k, k ∈ es.map (·.1) ↔ ∃ i, k = .inl i ∧ lkG gs T i ≠ [])) (ds_for PassesOwn.never rfl (di_seq ?_)) ?_
  · walk_at "nm"
    refine ⟨gs.map sGap, by simp only [seqOf, updC_ne (neC m3g hD), m3g], ?_⟩
    refine ⟨fun i τ' M' => ∃ (es : Gd) (y7 y8 y9 y10 y11 y12 : Option Sl), τ' = [some (.d (eCnt cs)), some x, some (.d (eCnt cs')), some (.c p), some (.c p2), some (.d (.list (T.map PyData.int))), some (.c D), y7, y8, y9, y10, y11, y12, none] ∧ Sub M4 M' ∧ M' D = some (.k (kvG es)) ∧ GdOk M4 M' D es ∧ (∀ j, getG es (.inl j) = lkG (gs.take i) T j) ∧ (∀ k, k ∈ es.map (·.1) ↔ ∃ j, k = .inl j ∧ lkG (gs.take i) T j ≠ []) ∧ es.length ≤ i, ⟨[], none, none, none, none, none, none, rfl, (Sub.refl M4).new hD, updC_same, ⟨List.nodup_nil, List.nodup_nil, fun _ h => (nomatch h)⟩, fun _ => rfl, fun k => ⟨fun h => (nomatch h), fun ⟨j, _, z⟩ => absurd rfl z⟩, Nat.le_refl _⟩, ?_, ?_, ?_⟩
    · rintro i τ' M' ⟨_, _, _, _, _, _, _, _, sb, _⟩
      simp only [seqOf, sb _ _ m3g]
    · rintro i y τ' M5 hi hy ⟨es, y7, y8, y9, y10, y11, y12, rfl, sub5, m5D, ok5, hg5, hk5, hl5⟩
      rw [List.length_map] at hi
      have hgi : gs[i]? = some gs[i] := List.getElem?_eq_getElem hi
      have hy' : y = sGap gs[i] := by
        rw [List.getElem?_map, hgi] at hy
        exact (Option.some.inj hy).symm
      subst hy'
      have htk : gs.take (i + 1) = gs.take i ++ [gs[i]] := by rw [List.take_add_one, hgi]; rfl
      have hcv := hcov _ (List.getElem_mem hi)
      have hpl := List.length_take (i := i) (l := gs)
      generalize gs[i] = g at htk hcv
      generalize gs.take i = pre at htk hg5 hk5 hpl
      obtain ⟨wr, fi, la, lo, hi2⟩ := g
      refine dg_of (pg_tup rfl (pgs_cons (pg_name (i := 7) sc_schedule_with_min_overwrites.nd rfl (.inl rfl)) (pgs_cons (pg_name (i := 8) sc_schedule_with_min_overwrites.nd rfl (.inl rfl)) (pgs_cons (pg_name (i := 9) sc_schedule_with_min_overwrites.nd rfl (.inl rfl)) (pgs_cons (pg_name (i := 10) sc_schedule_with_min_overwrites.nd rfl (.inr rfl)) (pgs_cons (pg_name (i := 11) sc_schedule_with_min_overwrites.nd rfl (.inr rfl)) pgs_nil)))))) (wg_tup rfl rfl rfl (wgs_cons (wg_name (wgs_cons (wg_name (wgs_cons (wg_name (wgs_cons (wg_name (wgs_cons (wg_name (wgs_nil ?_))))))))))))
      refine db_cons (ds_setLc1 (i := 12) (own := [("index", 13)]) (g := gName 13) rfl sc_schedule_with_min_overwrites.nd rfl rfl (by with_unfolding_all rfl) (blkOk_by (own := [("index", 13)]) (N := ["line_counts", "content", "counts", "runs", "found", "stops", "lost", "writer", "first", "last", "start", "stop", "covering", "index"]) (sc := defScope s_schedule_with_min_overwrites) (by decide +kernel)) (fun _ _ _ _ _ => pg_name (i := 13) sc_schedule_with_min_overwrites.nd rfl (.inl rfl)) (di_seq ?_))
      walk_at "nm"
      refine ⟨(T.map PyData.int).map .d, rfl, fun D3 hD3 => ?_⟩
      refine ⟨fun j M' => Sub M5 M' ∧ M' D3 = some (.l ((((T.take j).filter (inG (wr, fi, la, lo, hi2))).map PyData.int).map .d)), ⟨(Sub.refl _).new hD3, updC_same⟩, fun _ _ _ => rfl, ?_, ?_⟩
      · rintro j y M6 hj hy ⟨sub6, m6D⟩
        rw [List.length_map, List.length_map] at hj
        have hnj : T[j]? = some T[j] := List.getElem?_eq_getElem hj
        have hy' : y = dI T[j] := by
          rw [List.getElem?_map, List.getElem?_map, hnj] at hy
          exact (Option.some.inj hy).symm
        subst hy'
        have htt := take_filter T (inG (wr, fi, la, lo, hi2)) hnj
        have hfl := List.length_filter_le (inG (wr, fi, la, lo, hi2)) (T.take j)
        rw [List.length_take] at hfl
        generalize T[j] = k at htt
        generalize (T.take j).filter (inG (wr, fi, la, lo, hi2)) = fk at htt hfl m6D
        refine wgw_name (by simp) ?_
        intro s1 H1 C1 cl1 fp1
        refine dt_chain op_le op_le ?_
        walk_at "nm"
        walk_at "nm"
        refine k_bool ⟨_, rfl, fun h1 => ?_, fun h1 => ⟨fun z => (nomatch z), fun _ => ⟨sub6, ?_⟩⟩⟩
        · walk_at "nm"
          refine k_bool ⟨_, rfl, fun h2 => ?_, fun h2 => ⟨sub6, ?_⟩⟩
          · intro s0 H0 C cl fp
            walk_at "nm"
            refine ⟨_, m6D, ?_, sub_put sub6 hD3, ?_⟩
            · rw [List.length_map, List.length_map, sizeLine_eq]
              omega
            · rw [updC_same, htt, if_pos (by unfold inG; show (decide (lo ≤ k) && decide (k ≤ hi2)) = true; rw [h1, h2]; rfl), List.map_append, List.map_append]
              rfl
          · rw [m6D, htt, if_neg (by unfold inG; show ¬ (decide (lo ≤ k) && decide (k ≤ hi2)) = true; rw [h1, h2]; exact Bool.false_ne_true), List.append_nil]
        · rw [m6D, htt, if_neg (by unfold inG; show ¬ (decide (lo ≤ k) && decide (k ≤ hi2)) = true; rw [h1]; exact Bool.false_ne_true), List.append_nil]
      rintro M6 ⟨sub6, m6D⟩
      rw [List.length_map, List.length_map, List.take_length] at m6D
      refine db_frz (j := 12) rfl m6D ?_
      refine db_gc (sub6.del hD3) ?_
      have hcv : T.filter (inG (wr, fi, la, lo, hi2)) ≠ [] := hcv
      obtain ⟨k0, kr, hkr⟩ := List.exists_cons_of_ne_nil hcv
      rw [hkr]
      have hd0 : (covT T (wr, fi, la, lo, hi2)).head? = some k0 := by unfold covT; rw [hkr]; rfl
      refine db_cons (ds_group (M0 := M4) (D := D) (es := es) (k := .inl k0) (v := dApp wr (la - fi + 1)) sub5 m5D ok5 (by omega) (fun e he => ?_) ?_ ?_ (fun M7 => ?_) (fun M7 es7 fr7 m7 ok7 hg7 hk7 hl7 => db_nil ⟨es7, _, _, _, _, _, _, rfl, fun a c h => ?_, m7, ok7, fun j => ?_, fun k => ?_, by omega⟩))
      · rw [← getG_mem ok5.ndk he]
        obtain ⟨j, hj, _⟩ := (hk5 e.1).mp (List.mem_map_of_mem he)
        rw [hj, hg5]
        have := lkG_len pre T j
        omega
      · walk_at "nm"
        exact ⟨rfl, rfl⟩
      · refine de_ix ?_
        walk_at "nm"
        exact de_int ⟨_, 0, dI k0, rfl, rfl, Y.atI_0 rfl, rfl, rfl⟩
      · refine de_tupD ?_
        refine da_cons ?_
        refine de_str ?_
        refine da_cons ?_
        walk_at "nm"
        refine da_cons ?_
        refine de_add (de_sub ?_)
        walk_at "nm"
        walk_at "nm"
        exact ⟨_, _, rfl, rfl, de_int ⟨_, _, rfl, rfl, da_nil ⟨[.str "append", .str wr, .int (la - fi + 1)], rfl, (by show 3 ≤ sizeLine; decide), rfl, rfl⟩⟩⟩
      · have : a ≠ D := fun z => by rw [z, hD] at h; cases h
        exact fr7 a c this h
      · rw [hg7, htk, lkG_snoc, hd0, hg5, hg5]
        by_cases e : k0 = j
        · subst e
          rw [if_pos rfl, if_pos rfl]
        · rw [if_neg (fun z => e (Sum.inl.inj z).symm), if_neg (fun z => e (Option.some.inj z)), List.append_nil]
      · rw [hk7, hk5, htk]
        constructor
        · rintro (⟨j, hj, hne⟩ | hk)
          · exact ⟨j, hj, by rw [lkG_snoc]; exact fun z => hne (List.append_eq_nil_iff.mp z).1⟩
          · exact ⟨k0, hk, by rw [lkG_snoc, if_pos hd0]; simp⟩
        · rintro ⟨j, hj, hne⟩
          rw [lkG_snoc] at hne
          by_cases e : (covT T (wr, fi, la, lo, hi2)).head? = some j
          · rw [hd0] at e
            exact .inr (by rw [hj, Option.some.inj e])
          · rw [if_neg e, List.append_nil] at hne
            exact .inl ⟨j, hj, hne⟩
    · rintro τ' M5 ⟨es, y7, y8, y9, y10, y11, y12, rfl, sub5, m5D, ok5, hg5, hk5, hl5⟩
      rw [List.length_map, List.take_length] at hg5 hk5
      exact ⟨es, _, _, _, _, _, _, rfl, sub5, m5D, ok5, hg5, hk5⟩
  rintro τ' M5 ⟨es, y7, y8, y9, y10, y11, y12, rfl, sub5, m5D, ok5, hg5, hk5⟩
  refine db_cons (ds_ret (de_callC (c5.up (by decide)) hr (by rfl) (da_cons ?_)))
  walk_at "nm"
  refine da_cons ?_
  walk_at "nm"
  refine da_nil ⟨.c p, c, D, es, 920, rfl, rfl, by simp only [seqOf, sub5 _ _ m3p], hle2, m5D, ok5.ndk, fun e he => ?_, by decide, by omega, fun p9 M9 sub9 hp9 m9 => ?_⟩
  · obtain ⟨j1, _, _⟩ := ok5.cel e he
    obtain ⟨j, hj, hne⟩ := (hk5 e.1).mp (List.mem_map_of_mem he)
    have := getG_mem ok5.ndk he
    rw [hj, hg5] at this
    refine ⟨j1, by rw [← this]; exact hne, ?_⟩
    rw [← this]
    have := lkG_len gs T j
    omega
  · have e : (fun i => getG es (.inl i)) = lkG gs T := funext hg5
    rw [e] at m9
    have sub59 := Sub.trans sub3M sub5
    exact q p9 M9 (Sub.trans sub59 sub9) (sub59.none hp9) m9

end

end Pg

namespace Pg
open PySem L2 Y PyProof.Rows

local macro_rules | `(tactic| walk_at "vis") => `(tactic| first | exact Or.inl rfl | exact Or.inr (Or.inl rfl) | exact Or.inr (Or.inr rfl))
local macro_rules | `(tactic| walk_at "e1") => `(tactic| first | walk_at "nm" | refine de_int ?_ | refine de_add ?_ | refine de_sub ?_ | refine de_str ?_ | refine de_non ?_ | refine de_bl ?_)
local macro_rules | `(tactic| walk_at "go") => `(tactic| repeat (first | ((with_reducible show DE _ _ _ _ _ _); walk_at "e1") | ((with_reducible show DA _ _ _ _ _ _); refine da_cons ?_) | refine ⟨_, _, rfl, rfl, ?_⟩))


/-! the desk of the law: saved counts, page, copies, overwrites, most copies -/
structure Dk where
  S : Cnt
  pg : List Y.Run
  cp : List (Str × List Y.Run)
  ov : Int
  mx : Int
def kdPg (cp : List (Str × List Y.Run)) : List (Key × PyData) := cp.map fun e => (.inr e.1, .list (e.2.map eRun))
def DkAt (M : Cs) (d a0 a2 : Addr) (t : Dk) : Prop := M d = some (.l [.c a0, .d (.list (t.pg.map eRun)), .c a2, dI t.ov, dI t.mx]) ∧ M a0 = some (.k (slK (kdC t.S))) ∧ M a2 = some (.k (slK (kdPg t.cp))) ∧ a0 ≠ d ∧ a2 ≠ d ∧ a0 ≠ a2
def Fr3 (d a0 a2 : Addr) (M M' : Cs) : Prop := ∀ a c, a ≠ d → a ≠ a0 → a ≠ a2 → M a = some c → M' a = some c
theorem Fr3.refl {d a0 a2 : Addr} (M : Cs) : Fr3 d a0 a2 M M := fun _ _ _ _ _ h => h
theorem Fr3.trans {d a0 a2 : Addr} {A B C : Cs} (h : Fr3 d a0 a2 A B) (k : Fr3 d a0 a2 B C) : Fr3 d a0 a2 A C := fun a c h1 h2 h3 e => k a c h1 h2 h3 (h a c h1 h2 h3 e)
theorem Fr3.put {d a0 a2 x : Addr} {A B : Cs} {c : Cell} (h : Fr3 d a0 a2 A B) (hx : x = d ∨ x = a0 ∨ x = a2) : Fr3 d a0 a2 A (updC B x c) := fun a e h1 h2 h3 k => by
  rw [updC_ne (by rcases hx with rfl | rfl | rfl; exact h1; exact h2; exact h3)]
  exact h a e h1 h2 h3 k
theorem DkAt.setD {M : Cs} {d a0 a2 : Addr} {t : Dk} (h : DkAt M d a0 a2 t) {pg : List Y.Run} {ov mx : Int} : DkAt (updC M d (.l [.c a0, .d (.list (pg.map eRun)), .c a2, dI ov, dI mx])) d a0 a2 ⟨t.S, pg, t.cp, ov, mx⟩ := by
  obtain ⟨h1, h2, h3, h4, h5, h6⟩ := h
  exact ⟨updC_same, by rw [updC_ne h4]; exact h2, by rw [updC_ne h5]; exact h3, h4, h5, h6⟩
theorem DkAt.setS {M : Cs} {d a0 a2 : Addr} {t : Dk} (h : DkAt M d a0 a2 t) {S : Cnt} : DkAt (updC M a0 (.k (slK (kdC S)))) d a0 a2 ⟨S, t.pg, t.cp, t.ov, t.mx⟩ := by
  obtain ⟨h1, h2, h3, h4, h5, h6⟩ := h
  exact ⟨by rw [updC_ne h4.symm]; exact h1, updC_same, by rw [updC_ne h6.symm]; exact h3, h4, h5, h6⟩
theorem DkAt.setP {M : Cs} {d a0 a2 : Addr} {t : Dk} (h : DkAt M d a0 a2 t) {cp : List (Str × List Y.Run)} : DkAt (updC M a2 (.k (slK (kdPg cp)))) d a0 a2 ⟨t.S, t.pg, cp, t.ov, t.mx⟩ := by
  obtain ⟨h1, h2, h3, h4, h5, h6⟩ := h
  exact ⟨by rw [updC_ne h5.symm]; exact h1, by rw [updC_ne h6]; exact h2, updC_same, h4, h5, h6⟩
theorem DkAt.sub {M M' : Cs} {d a0 a2 : Addr} {t : Dk} (h : DkAt M d a0 a2 t) (s : Sub M M') : DkAt M' d a0 a2 t := by
  obtain ⟨h1, h2, h3, h4, h5, h6⟩ := h
  exact ⟨s _ _ h1, s _ _ h2, s _ _ h3, h4, h5, h6⟩
def zerC (cs : Cnt) : Cnt := cs.map fun p => (p.1, 0)
theorem zerC_keys (cs : Cnt) : (zerC cs).map (·.1) = cs.map (·.1) := by unfold zerC; rw [List.map_map]; rfl
inductive Dd where
  | r (z : Str) | s (z : Str) | a (z : Str) (n : Int)
def eDd : Dd → PyData
  | .r z => .tuple [.str "read", .str z]
  | .s z => .tuple [.str "save", .str z]
  | .a z n => .tuple [.str "append", .str z, .int n]
/-- a deed that is possible, and the desk behind it -/
inductive StepOk (rows : Cnt) : Dk → Dd → Dk → Prop
  | r {t : Dk} {z : Str} {v s0 : Int} : getC rows z = some v → getC t.S z = some s0 → s0 < v → t.cp = [] → StepOk rows t (.r z) ⟨t.S, t.pg, [(z, t.pg)], t.ov, if 1 > t.mx then 1 else t.mx⟩
  | s {t : Dk} {z : Str} {v s0 : Int} {p : List Y.Run} : getC rows z = some v → getC t.S z = some s0 → s0 + 1 ≤ v → t.cp = [(z, p)] → StepOk rows t (.s z) ⟨putC t.S z (s0 + 1), withRun p (z, s0 + 1, s0 + 1), [], t.ov + (if p = t.pg then 0 else 1), t.mx⟩
  | a {t : Dk} {z : Str} {v s0 n : Int} : getC rows z = some v → getC t.S z = some s0 → 1 ≤ n → s0 + n ≤ v → (∀ e ∈ t.cp, e.1 ≠ z) → StepOk rows t (.a z n) ⟨putC t.S z (s0 + n), withRun t.pg (z, s0 + 1, s0 + n), t.cp, t.ov, t.mx⟩
theorem valS_Pg (z : Str) : ∀ cp : List (Str × List Y.Run), (∀ e ∈ cp, e.1 ≠ z) → valS (slK (kdPg cp)) (.inr z) = none
  | [], _ => rfl
  | e :: r, h => by
    have ih := valS_Pg z r fun x hx => h x (List.mem_cons_of_mem _ hx)
    unfold valS slK kdPg at ih ⊢
    rw [List.map_cons, List.map_cons, List.find?_cons, show decide ((Sum.inr e.1 : Key) = Sum.inr z) = false from decide_eq_false (fun q => h e List.mem_cons_self (Sum.inr.inj q))]
    exact ih
section
variable {P : Program} {w : World} {K : PySem.W.Frag} {mg : Str → Option Value} {base : Heap}

local macro_rules | `(tactic| walk_at "nm") => `(tactic| first | ((with_reducible refine de_name (x := "runs") (i := 0) (s := ?s) ?hN ?hv ?ht ?q ?hd ?hcd); (case hN => rfl); (case hv => walk_at "vis"); (case ht => rfl); (case hd => decide); (case hcd => decide)) | ((with_reducible refine de_name (x := "run") (i := 1) (s := ?s) ?hN ?hv ?ht ?q ?hd ?hcd); (case hN => rfl); (case hv => walk_at "vis"); (case ht => rfl); (case hd => decide); (case hcd => decide)))


def R_putS : Rr := fun _ ss M Q => ∃ s c r, ss = [s, sRun r] ∧ isTup s = false ∧ seqOf M s = some (c.map sRun) ∧ lstOf M s = some (c.map sRun) ∧ IsD M s (.list (c.map eRun)) ∧ (∀ x ∈ c, okName x.1 = true) ∧ c.length < 1000000 ∧ ∀ p2, M p2 = none → Q (.c p2) (updC M p2 (.l ((withRun c r).map sRun)))
theorem ok_law_put (F : FunAt K mg "_law_put" s__law_put ["runs", "run"]) : Cal P w K mg base "_law_put" 1 ["runs", "run"] R_putS := by
  refine cal_of F sc__law_put (fun _ ss _ _ ⟨s, c, r, h, _⟩ => by rw [h]; rfl) (fun f cdv A outer s H E L ss M Q hr h => ?_)
  obtain ⟨x, c, r, rfl, hT, hs, hx, hI, hn, hl, q⟩ := h
  have tst : ∀ {p1 p2 : Pos} {QB : Bool → Cs → Prop}, QB (!decide (c = [])) M → R2k (cxF P w K mg base ["runs", "run"] "_law_put" s__law_put f cdv A outer s H E).K L (rNeD K) x (.d (.list [])) M (BoolQ QB) := fun q => by
    refine k_neD (hI) (.d (.list [])) (shaped_runs c hn) (by decide +kernel) ?_
    rw [show PyData.eqv (.list (c.map eRun)) (.list []) = decide (c = []) from eqv_list eRun eqv_run c []]
    exact ⟨_, rfl, q⟩
  have other : withRun c r = c ++ [r] → DB (cxF P w K mg base ["runs", "run"] "_law_put" s__law_put f cdv A outer s H E) L ((defBody s__law_put).tail) [some x, some (sRun r)] M { nx := fun _ M' => Q (.d .none) M', rt := Q } := fun e => by
    refine db_cons (ds_ret (de_gc (de_cat ?_)))
    walk_at "nm"
    refine de_lstC (da_cons ?_)
    walk_at "nm"
    refine da_nil ⟨(by show 1 ≤ sizeLine; decide), fun p hp => ⟨c.map sRun, [sRun r], lstOf_updC hx hp, by simp only [lstOf, updC_same], (by rw [List.length_map, sizeLine_eq]; simp; omega), fun p2 hp2 => ?_⟩⟩
    have hs1 : Sub M (updC M p (.l [sRun r])) := (Sub.refl M).new hp
    refine ⟨updC M p2 (.l ((withRun c r).map sRun)), ?_, q p2 (hs1.none hp2)⟩
    rw [e, List.map_append]
    exact hs1.cong
  cases hlast : c.getLast? with
  | none =>
    have hc : c = [] := List.getLast?_eq_none_iff.mp hlast
    refine db_cons (ds_ifF (dt_and3 (dt_cmp (op_neD hr.units) ?_ (nomark _))) (db_nil (other (by unfold withRun; rw [hlast]))))
    walk_at "nm"
    refine de_lstD (da_nil ⟨[], rfl, Nat.zero_le _, tst (p1 := ⟨0,0,0,0⟩) (p2 := ⟨0,0,0,0⟩) ⟨fun z => absurd z (by simp [hc]), fun _ => ⟨rfl, rfl⟩⟩⟩)
  | some l =>
    have hne : c ≠ [] := fun e => by rw [e] at hlast; cases hlast
    have hlastS : (c.map sRun).getLast? = some (sRun l) := by rw [List.getLast?_map, hlast]; rfl
    refine db_cons (ds_ifB (cont l r) (dt_and3 (dt_cmp (op_neD hr.units) ?_ (nomark _))) (fun h1 => ?_) (fun h1 => db_nil (other (by unfold withRun; rw [hlast]; simp only [h1]; rw [if_neg Bool.false_ne_true]))))
    · walk_at "nm"
      refine de_lstD (da_nil ⟨[], rfl, Nat.zero_le _, tst (p1 := ⟨0,0,0,0⟩) (p2 := ⟨0,0,0,0⟩) ⟨fun _ => dt_cmp op_eq (de_ix (de_ix ?_)) (nomark _), fun z => absurd z (by simp [hne])⟩⟩)
      walk_at "nm"
      refine de_neg (de_int ⟨1, rfl, c.map sRun, _, sRun l, hs, rfl, atI_l hlastS, de_int ⟨_, _, .d (.str l.1), rfl, rfl, rfl, de_ix ?_⟩⟩)
      walk_at "nm"
      refine de_int ⟨_, _, .d (.str r.1), rfl, rfl, rfl, k_eqS ⟨_, rfl, fun h2 => dt_cmp op_eq (de_add (de_ix (de_ix ?_))) (nomark _), fun h2 => ⟨?_, rfl⟩⟩⟩
      · walk_at "nm"
        refine de_neg (de_int ⟨1, rfl, c.map sRun, _, sRun l, hs, rfl, atI_l hlastS, de_int ⟨_, _, .d (.int l.2.2), rfl, rfl, rfl, de_int ⟨_, _, rfl, rfl, de_ix ?_⟩⟩⟩)
        walk_at "nm"
        refine de_int ⟨_, _, .d (.int r.2.1), rfl, rfl, rfl, k_eqI ⟨_, rfl, ?_, rfl⟩⟩
        rw [decide_eq_true_eq] at h2
        unfold cont
        rw [decide_eq_true h2.symm, Bool.true_and]
        by_cases e : l.2.2 + 1 = r.2.1
        · rw [decide_eq_true e, decide_eq_true e.symm]
        · rw [decide_eq_false e, decide_eq_false (fun z => e z.symm)]
      · rw [decide_eq_false_iff_not] at h2
        unfold cont
        rw [decide_eq_false (fun z => h2 z.symm), Bool.false_and]
    · refine db_cons (ds_ret (de_gc (de_cat (de_slHi ?_))))
      walk_at "nm"
      refine de_neg (de_int ⟨1, rfl, _, rfl, c.map sRun, hT, hs, fun p hp => de_lstC (da_cons (de_tupD (da_cons (de_ix ?_))))⟩)
      walk_at "nm"
      refine de_int ⟨_, _, .d (.str r.1), rfl, rfl, rfl, da_cons (de_ix (de_ix ?_))⟩
      walk_at "nm"
      refine de_neg (de_int ⟨1, rfl, c.map sRun, _, sRun l, seqOf_updC hs hp, rfl, atI_l hlastS, de_int ⟨_, _, .d (.int l.2.1), rfl, rfl, rfl, da_cons (de_ix ?_)⟩⟩)
      walk_at "nm"
      refine de_int ⟨_, _, .d (.int r.2.2), rfl, rfl, rfl, da_nil ⟨[.str r.1, .int l.2.1, .int r.2.2], rfl, (by show 3 ≤ sizeLine; decide), da_nil ⟨(by show 1 ≤ sizeLine; decide), fun p2 hp2 => ?_⟩⟩⟩
      have np : p ≠ p2 := fun e => by rw [← e, updC_same] at hp2; cases hp2
      refine ⟨(c.dropLast).map sRun, [sRun (r.1, l.2.1, r.2.2)], ?_, by simp only [lstOf, updC_same]; rfl, ?_, fun p3 hp3 => ?_⟩
      · simp only [lstOf, updC_ne np, updC_same]
        rw [dropLast_cut, List.map_dropLast]
      · rw [List.length_map, List.length_dropLast, sizeLine_eq]
        simp
        omega
      · have hs1 : Sub M (updC (updC M p (.l (cutG (c.map sRun) none (some (-1))))) p2 (.l [sRun (r.1, l.2.1, r.2.2)])) := ((Sub.refl M).new hp).new hp2
        refine ⟨updC M p3 (.l ((withRun c r).map sRun)), ?_, q p3 (hs1.none hp3)⟩
        have e : (withRun c r).map sRun = (c.dropLast).map sRun ++ [sRun (r.1, l.2.1, r.2.2)] := by
          unfold withRun
          rw [hlast]
          simp only [h1, if_true]
          rw [List.map_append]
          rfl
        rw [e]
        exact hs1.cong

local macro_rules | `(tactic| walk_at "nm") => `(tactic| first | ((with_reducible refine de_name (x := "rows") (i := 0) (s := ?s) ?hN ?hv ?ht ?q ?hd ?hcd); (case hN => rfl); (case hv => walk_at "vis"); (case ht => rfl); (case hd => decide); (case hcd => decide)) | ((with_reducible refine de_name (x := "writer") (i := 1) (s := ?s) ?hN ?hv ?ht ?q ?hd ?hcd); (case hN => rfl); (case hv => walk_at "vis"); (case ht => rfl); (case hd => decide); (case hcd => decide)))


def R_begun : Rr := fun L ss M Q => ∃ rows : Cnt, NoDK L ∧ ss = [.d (eCnt rows)] ∧ okCnt rows ∧ ∀ (d a0 a2 : Addr) (M' : Cs), Sub M M' → M d = none → M a0 = none → M a2 = none → DkAt M' d a0 a2 ⟨zerC rows, [], [], 0, 0⟩ → Q (.c d) M'
theorem ok_law_begun (F : FunAt K mg "_law_begun" s__law_begun ["rows"]) (b1 : mg "dict" = none) : Cal P w K mg base "_law_begun" 1 ["rows"] R_begun := by
  refine cal_of F sc__law_begun (fun _ ss _ _ ⟨rows, _, h, _⟩ => by rw [h]; rfl) (fun f cdv A outer s H E L us M Q hr h => ?_)
  obtain ⟨cs, hL, rfl, okc, fin⟩ := h
  obtain ⟨l1, l12, nd, okp⟩ := okc
  have hkl : (kdC cs).length = cs.length := by unfold kdC; rw [List.length_map]
  refine db_cons (ds_ret (de_lstC (da_cons (de_callT (call_dictP rfl) (by rfl) b1 bt_dict (da_cons (de_lcKeysN (i := 0) (kd := kdC cs) (own := [("writer", 1)]) (g := gName 1) rfl sc__law_begun.nd (blkOk_by (own := [("writer", 1)]) (N := ["rows", "writer"]) (sc := defScope s__law_begun) (by decide +kernel)) (fun _ _ _ _ _ => pg_name (i := 1) sc__law_begun.nd rfl (.inl rfl)) hL rfl (by walk_at "vis") rfl fun D hD => ?_))))))
  refine ⟨fun i M' => M' = updC M D (.l ((kdC (zerC (cs.take i))).map Y.prD)), rfl, fun x hx i k d M' hi hM => ?_, fun M' hM => ?_⟩
  · subst hM
    unfold kdC at hi
    rw [List.getElem?_map] at hi
    obtain ⟨⟨z, v⟩, hpz, epz⟩ := Option.map_eq_some_iff.mp hi
    cases epz
    refine wgw_name (by simp) ?_
    intro s0 H0 C cl fp
    refine de_tupD (da_cons ?_)
    walk_at "nm"
    refine da_cons (de_int (da_nil ⟨[.str z, .int 0], rfl, (by show 2 ≤ sizeLine; decide), _, updC_same, ?_, ?_⟩))
    · unfold kdC zerC
      rw [List.length_map, List.length_map, List.length_map, List.length_take, sizeLine_eq]
      omega
    · show updC _ _ _ = updC _ _ _
      have e : zerC (cs.take (i + 1)) = zerC (cs.take i) ++ [(z, 0)] := by
        unfold zerC
        rw [List.take_add_one, hpz, List.map_append]
        rfl
      rw [updC_updC, e]
      unfold kdC
      simp only [List.map_append]
      rfl
  subst hM
  rw [hkl, List.take_length]
  have ndz : ((zerC cs).map (·.1)).Nodup := by rw [zerC_keys]; exact nd
  refine da_nil (k_dictP (kd := kdC (zerC cs)) rfl (by simp only [seqOf, updC_same]) fun pl hpl => ?_)
  rw [merge_cnt ndz]
  have sub1 : Sub M (updC M D (.l ((kdC (zerC cs)).map Y.prD))) := (Sub.refl M).new hD
  generalize updC M D (.l ((kdC (zerC cs)).map Y.prD)) = M1 at sub1 hpl
  refine da_cons (de_lstD (da_nil ⟨[], rfl, Nat.zero_le _, da_cons (de_dictC fun pc hpc => da_cons (de_int (da_cons (de_int (da_nil ⟨(by show 5 ≤ sizeLine; decide), fun d hd => ?_⟩)))))⟩))
  have n1 : pl ≠ pc := fun e => by rw [← e, updC_same] at hpc; cases hpc
  have hpc1 : M1 pc = none := by rw [updC_ne n1.symm] at hpc; exact hpc
  have n2 : pc ≠ d := fun e => by rw [← e, updC_same] at hd; cases hd
  have hd2 : updC M1 pl (.k (slK (kdC (zerC cs)))) d = none := by rw [updC_ne n2.symm] at hd; exact hd
  have n3 : pl ≠ d := fun e => by rw [← e, updC_same] at hd2; cases hd2
  have hd1 : M1 d = none := by rw [updC_ne n3.symm] at hd2; exact hd2
  refine fin d pl pc _ (((sub1.new hpl).new hpc).new hd) (sub1.none hd1) (sub1.none hpl) (sub1.none hpc1) ⟨updC_same, ?_, ?_, n3, n2, n1⟩
  · rw [updC_ne n3, updC_ne n1, updC_same]
  · rw [updC_ne n2, updC_same]
    rfl

local macro_rules | `(tactic| walk_at "nm") => `(tactic| first | ((with_reducible refine de_name (x := "desk") (i := 0) (s := ?s) ?hN ?hv ?ht ?q ?hd ?hcd); (case hN => rfl); (case hv => walk_at "vis"); (case ht => rfl); (case hd => decide); (case hcd => decide)) | ((with_reducible refine de_name (x := "rows") (i := 1) (s := ?s) ?hN ?hv ?ht ?q ?hd ?hcd); (case hN => rfl); (case hv => walk_at "vis"); (case ht => rfl); (case hd => decide); (case hcd => decide)) | ((with_reducible refine de_name (x := "writer") (i := 2) (s := ?s) ?hN ?hv ?ht ?q ?hd ?hcd); (case hN => rfl); (case hv => walk_at "vis"); (case ht => rfl); (case hd => decide); (case hcd => decide)) | ((with_reducible refine de_name (x := "many") (i := 3) (s := ?s) ?hN ?hv ?ht ?q ?hd ?hcd); (case hN => rfl); (case hv => walk_at "vis"); (case ht => rfl); (case hd => decide); (case hcd => decide)) | ((with_reducible refine de_name (x := "first") (i := 4) (s := ?s) ?hN ?hv ?ht ?q ?hd ?hcd); (case hN => rfl); (case hv => walk_at "vis"); (case ht => rfl); (case hd => decide); (case hcd => decide)))


def R_laid : Rr := fun _ ss M Q => ∃ (d a0 a2 : Addr) (t : Dk) (rows : Cnt) (z : Str) (n s0 v : Int), ss = [.c d, .d (eCnt rows), dS z, dI n] ∧ DkAt M d a0 a2 t ∧ getC t.S z = some s0 ∧ getC rows z = some v ∧ 1 ≤ n ∧ s0 + n ≤ v ∧ (∀ x ∈ t.pg, okName x.1 = true) ∧ t.pg.length < 900000 ∧ t.S.length ≤ 100 ∧ ∀ M', Fr3 d a0 a2 M M' → DkAt M' d a0 a2 ⟨putC t.S z (s0 + n), withRun t.pg (z, s0 + 1, s0 + n), t.cp, t.ov, t.mx⟩ → Q (.d (.bool true)) M'
set_option maxHeartbeats 4000000 in
theorem ok_law_laid (F : FunAt K mg "_law_laid" s__law_laid ["desk", "rows", "writer", "many"]) (c1 : Cal P w K mg base "_law_put" 1 ["runs", "run"] R_putS) : Cal P w K mg base "_law_laid" 2 ["desk", "rows", "writer", "many"] R_laid := by
  refine cal_of F sc__law_laid (fun _ ss _ _ ⟨d, a0, a2, t, rows, z, n, s0, v, h, _⟩ => by rw [h]; rfl) (fun f cdv A outer s H E L us M Q hr h => ?_)
  obtain ⟨d, a0, a2, t, rows, z, n, s0, v, rfl, dk, hs0, hv, h1, h2, hnm, hpl, hSl, fin⟩ := h
  obtain ⟨md, m0, m2, n0, n2, n02⟩ := id dk
  refine db_cons (ds_set (i := 4) sc__law_laid.nd rfl (.inl rfl) (de_add (de_dget (hu_of hr) (de_ix ?_))))
  walk_at "nm"
  refine de_int ⟨_, 0, .c a0, by simp only [seqOf, md]; rfl, rfl, rfl, ?_⟩
  walk_at "nm"
  refine ⟨_, .inr z, dI s0, .c m0, rfl, by rw [valS_C, hs0]; rfl, de_int ⟨_, _, rfl, rfl, ?_⟩⟩
  refine db_cons (ds_ifF (dt_or2 (dt_cmp op_lt ?_ (by with_unfolding_all rfl))) (db_nil ?_))
  · walk_at "nm"
    refine de_int (k_bool ⟨_, rfl, fun z => absurd (of_decide_eq_true z) (by omega), fun _ => dt_cmp op_gt (de_sub (de_add ?_)) (by with_unfolding_all rfl)⟩)
    walk_at "nm"
    walk_at "nm"
    refine ⟨_, _, rfl, rfl, de_int ⟨_, _, rfl, rfl, de_dget (hu_of hr) ?_⟩⟩
    walk_at "nm"
    walk_at "nm"
    refine ⟨_, .inr z, dI v, .d (kdC rows), rfl, by rw [valS_C, hv]; rfl, k_bool ⟨_, rfl, decide_eq_false (by omega), rfl⟩⟩
  have e1 : s0 + 1 + n - 1 = s0 + n := by omega
  refine db_cons (ds_asg (de_frz (de_callC (c1.up (by decide)) hr (by rfl) (da_cons (de_ix ?_)))))
  walk_at "nm"
  refine de_int ⟨_, 1, .d (.list (t.pg.map eRun)), by simp only [seqOf, md]; rfl, rfl, rfl, da_cons (de_tupD (da_cons ?_))⟩
  walk_at "nm"
  refine da_cons ?_
  walk_at "nm"
  refine da_cons (de_sub (de_add ?_))
  walk_at "nm"
  walk_at "nm"
  refine ⟨_, _, rfl, rfl, de_int ⟨_, _, rfl, rfl, da_nil ⟨[.str z, .int (s0 + 1), .int (s0 + 1 + n - 1)], rfl, (by show 3 ≤ sizeLine; decide), da_nil ⟨.d (.list (t.pg.map eRun)), t.pg, (z, s0 + 1, s0 + 1 + n - 1), rfl, rfl, by simp only [seqOf, List.map_map]; rfl, by simp only [lstOf, List.map_map]; rfl, .d _, hnm, by omega, fun p2 hp2 => ⟨p2, (withRun t.pg (z, s0 + 1, s0 + 1 + n - 1)).map eRun, rfl, by rw [updC_same, List.map_map]; rfl, ?_⟩⟩⟩⟩⟩
  rw [delC_updC hp2, e1]
  refine dg_subL ?_
  walk_at "nm"
  refine de_int ⟨d, _, 1, 1, rfl, md, rfl, rfl, ?_⟩
  have dk2 : DkAt (updC M d (.l [.c a0, .d (.list ((withRun t.pg (z, s0 + 1, s0 + n)).map eRun)), .c a2, dI t.ov, dI t.mx])) d a0 a2 ⟨t.S, withRun t.pg (z, s0 + 1, s0 + n), t.cp, t.ov, t.mx⟩ := dk.setD
  have fr2 : Fr3 d a0 a2 M (updC M d (.l [.c a0, .d (.list ((withRun t.pg (z, s0 + 1, s0 + n)).map eRun)), .c a2, dI t.ov, dI t.mx])) := (Fr3.refl M).put (.inl rfl)
  show DB _ _ _ _ (updC M d (.l [.c a0, .d (.list ((withRun t.pg (z, s0 + 1, s0 + n)).map eRun)), .c a2, dI t.ov, dI t.mx])) _
  generalize updC M d (.l [.c a0, .d (.list ((withRun t.pg (z, s0 + 1, s0 + n)).map eRun)), .c a2, dI t.ov, dI t.mx]) = M2 at dk2 fr2
  obtain ⟨md', m0', m2', -⟩ := id dk2
  refine db_cons (ds_dput (hu_of hr) (de_sub (de_add ?_)))
  walk_at "nm"
  walk_at "nm"
  refine ⟨_, _, rfl, rfl, de_int ⟨_, _, rfl, rfl, de_ix ?_⟩⟩
  walk_at "nm"
  refine de_int ⟨_, 0, .c a0, by simp only [seqOf, md']; rfl, rfl, rfl, ?_⟩
  walk_at "nm"
  refine ⟨a0, _, .inr z, rfl, m0', rfl, ?_, db_cons (ds_ret (de_bl (fin _ (fr2.put (.inr (.inl rfl))) ?_)))⟩
  · unfold slK kdC
    rw [List.length_map, List.length_map, sizeLine_eq]
    show t.S.length < _
    omega
  · rw [e1, show (Sl.d (PyData.int (s0 + n))) = dI (s0 + n) from rfl, putS_put]
    exact dk2.setS

end

end Pg

namespace Pg
open PySem L2 Y PyProof.Rows

local macro_rules | `(tactic| walk_at "vis") => `(tactic| first | exact Or.inl rfl | exact Or.inr (Or.inl rfl) | exact Or.inr (Or.inr rfl))
local macro_rules | `(tactic| walk_at "e1") => `(tactic| first | walk_at "nm" | refine de_int ?_ | refine de_add ?_ | refine de_sub ?_ | refine de_str ?_ | refine de_non ?_ | refine de_bl ?_)
local macro_rules | `(tactic| walk_at "go") => `(tactic| repeat (first | ((with_reducible show DE _ _ _ _ _ _); walk_at "e1") | ((with_reducible show DA _ _ _ _ _ _); refine da_cons ?_) | refine ⟨_, _, rfl, rfl, ?_⟩))


theorem putS_one (z : Str) (l : List Y.Run) : putS (slK (kdPg [])) (.inr z) (.d (.list (l.map eRun))) = slK (kdPg [(z, l)]) := rfl
theorem drop_one (z : Str) (l : List Y.Run) : dropS (slK (kdPg [(z, l)])) (.inr z) = slK (kdPg []) := by
  simp [dropS, slK, kdPg]
theorem val_one (z : Str) (l : List Y.Run) : valS (slK (kdPg [(z, l)])) (.inr z) = some (.d (.list (l.map eRun))) := by
  simp [valS, slK, kdPg]
section
variable {P : Program} {w : World} {K : PySem.W.Frag} {mg : Str → Option Value} {base : Heap}

local macro_rules | `(tactic| walk_at "nm") => `(tactic| first | ((with_reducible refine de_name (x := "desk") (i := 0) (s := ?s) ?hN ?hv ?ht ?q ?hd ?hcd); (case hN => rfl); (case hv => walk_at "vis"); (case ht => rfl); (case hd => decide); (case hcd => decide)) | ((with_reducible refine de_name (x := "rows") (i := 1) (s := ?s) ?hN ?hv ?ht ?q ?hd ?hcd); (case hN => rfl); (case hv => walk_at "vis"); (case ht => rfl); (case hd => decide); (case hcd => decide)) | ((with_reducible refine de_name (x := "deed") (i := 2) (s := ?s) ?hN ?hv ?ht ?q ?hd ?hcd); (case hN => rfl); (case hv => walk_at "vis"); (case ht => rfl); (case hd => decide); (case hcd => decide)) | ((with_reducible refine de_name (x := "word") (i := 3) (s := ?s) ?hN ?hv ?ht ?q ?hd ?hcd); (case hN => rfl); (case hv => walk_at "vis"); (case ht => rfl); (case hd => decide); (case hcd => decide)) | ((with_reducible refine de_name (x := "writer") (i := 4) (s := ?s) ?hN ?hv ?ht ?q ?hd ?hcd); (case hN => rfl); (case hv => walk_at "vis"); (case ht => rfl); (case hd => decide); (case hcd => decide)) | ((with_reducible refine de_name (x := "copy") (i := 5) (s := ?s) ?hN ?hv ?ht ?q ?hd ?hcd); (case hN => rfl); (case hv => walk_at "vis"); (case ht => rfl); (case hd => decide); (case hcd => decide)))


def R_step : Rr := fun _ ss M Q => ∃ (d a0 a2 : Addr) (t : Dk) (rows : Cnt) (dd : Dd) (t' : Dk), ss = [.c d, .d (eCnt rows), .d (eDd dd)] ∧ DkAt M d a0 a2 t ∧ StepOk rows t dd t' ∧ (∀ x ∈ t.pg, okName x.1 = true) ∧ (∀ e ∈ t.cp, ∀ x ∈ e.2, okName x.1 = true) ∧ t.pg.length < 900000 ∧ (∀ e ∈ t.cp, e.2.length < 900000) ∧ t.S.length ≤ 100 ∧ ∀ M', Fr3 d a0 a2 M M' → DkAt M' d a0 a2 t' → Q (.d (.bool true)) M'
set_option maxHeartbeats 8000000 in
theorem ok_law_step (F : FunAt K mg "_law_step" s__law_step ["desk", "rows", "deed"]) (c1 : Cal P w K mg base "_law_laid" 2 ["desk", "rows", "writer", "many"] R_laid) (b1 : mg "int" = none) (b2 : mg "list" = none) (b3 : mg "max" = none) (b4 : mg "len" = none) : Cal P w K mg base "_law_step" 3 ["desk", "rows", "deed"] R_step := by
  refine cal_of F sc__law_step (fun _ ss _ _ ⟨d, a0, a2, t, rows, dd, t', h, _⟩ => by rw [h]; rfl) (fun f cdv A outer s H E L us M Q hr h => ?_)
  obtain ⟨d, a0, a2, t, rows, dd, t', rfl, dk, ok, hnm, hcm, hpl, hcl, hSl, fin⟩ := h
  obtain ⟨md, m0, m2, n0, n2, n02⟩ := id dk
  have hd5 : seqOf M (.c d) = some [.c a0, .d (.list (t.pg.map eRun)), .c a2, dI t.ov, dI t.mx] := by simp only [seqOf, md]
  have two : ∃ (w0 z : Str) (rest : List PyData), eDd dd = .tuple (.str w0 :: .str z :: rest) := by
    cases dd with
    | r z => exact ⟨_, z, _, rfl⟩
    | s z => exact ⟨_, z, _, rfl⟩
    | a z n => exact ⟨_, z, _, rfl⟩
  obtain ⟨w0, z0, rest, hdd⟩ := two
  refine db_cons (ds_asg (de_slTHiA ?_))
  walk_at "nm"
  refine de_int ⟨2, .str w0 :: .str z0 :: rest, rfl, by rw [hdd], dg_of (pg_tup rfl (pgs_cons (pg_name (i := 3) sc__law_step.nd rfl (.inl rfl)) (pgs_cons (pg_name (i := 4) sc__law_step.nd rfl (.inl rfl)) pgs_nil))) (wg_tup (ss := [dS w0, dS z0]) rfl rfl rfl (wgs_cons (wg_name (wgs_cons (wg_name (wgs_nil ?_))))))⟩
  have hv0 : ∃ v, getC rows z0 = some v := by
    cases ok with
    | r h1 _ _ _ => cases hdd; exact ⟨_, h1⟩
    | s h1 _ _ _ => cases hdd; exact ⟨_, h1⟩
    | a h1 _ _ _ _ => cases hdd; exact ⟨_, h1⟩
  obtain ⟨v0, hv0⟩ := hv0
  refine db_cons (ds_ifF (dt_dnotin (hu_of hr) ?_ (by with_unfolding_all rfl)) (db_nil ?_))
  · walk_at "nm"
    walk_at "nm"
    exact ⟨.inr z0, _, rfl, .d (kdC rows), by rw [valS_C, hv0]; rfl, rfl⟩
  cases ok with
  | @r z v s0 h1 h2 h3 h4 =>
    cases hdd
    refine db_cons (ds_ifF (dt_cmp op_eq ?_ (by with_unfolding_all rfl)) (db_nil ?_))
    · walk_at "nm"
      exact de_str (k_eqS ⟨_, rfl, by decide +kernel, rfl⟩)
    refine db_cons (ds_ifF (dt_or2 (dt_din (hu_of hr) ?_ (by with_unfolding_all rfl))) (db_nil ?_))
    · walk_at "nm"
      refine de_ix ?_
      walk_at "nm"
      refine de_int ⟨_, 2, .c a2, hd5, rfl, rfl, .inr z0, _, rfl, .c m2, fun zz => ?_, fun _ => dt_cmp op_ge (de_dget (hu_of hr) (de_ix ?_)) (by with_unfolding_all rfl)⟩
      · rw [valS_Pg z0 t.cp (fun e he => by rw [h4] at he; cases he)] at zz
        cases zz
      walk_at "nm"
      refine de_int ⟨_, 0, .c a0, hd5, rfl, rfl, ?_⟩
      walk_at "nm"
      refine ⟨_, .inr z0, dI s0, .c m0, rfl, by rw [valS_C, h2]; rfl, de_dget (hu_of hr) ?_⟩
      walk_at "nm"
      walk_at "nm"
      exact ⟨_, .inr z0, dI v, .d (kdC rows), rfl, by rw [valS_C, h1]; rfl, k_bool ⟨_, rfl, decide_eq_false (by omega), rfl⟩⟩
    refine db_cons (ds_ifF (dt_cmp op_eq ?_ (by with_unfolding_all rfl)) (db_nil ?_))
    · walk_at "nm"
      exact de_str (k_eqS ⟨_, rfl, by decide +kernel, rfl⟩)
    refine db_cons (ds_dput (hu_of hr) (de_frz (de_callT call_list_of (by rfl) b2 bt_list (da_cons (de_ix ?_)))))
    walk_at "nm"
    refine de_int ⟨_, 1, .d (.list (t.pg.map eRun)), hd5, rfl, rfl, da_nil (k_list (ss := (t.pg.map eRun).map .d) rfl fun p hp => ⟨p, t.pg.map eRun, rfl, updC_same, ?_⟩)⟩
    rw [delC_updC hp]
    refine de_ix ?_
    walk_at "nm"
    refine de_int ⟨_, 2, .c a2, hd5, rfl, rfl, ?_⟩
    walk_at "nm"
    refine ⟨a2, slK (kdPg t.cp), .inr z0, rfl, m2, rfl, ?_, ?_⟩
    · rw [h4]
      show 0 < sizeLine
      decide
    rw [h4, putS_one]
    have dk2 : DkAt (updC M a2 (.k (slK (kdPg [(z0, t.pg)])))) d a0 a2 ⟨t.S, t.pg, [(z0, t.pg)], t.ov, t.mx⟩ := dk.setP
    have fr2 : Fr3 d a0 a2 M (updC M a2 (.k (slK (kdPg [(z0, t.pg)])))) := (Fr3.refl M).put (.inr (.inr rfl))
    generalize updC M a2 (.k (slK (kdPg [(z0, t.pg)]))) = M2 at dk2 fr2
    obtain ⟨md', m0', m2', -⟩ := id dk2
    have hd6 : seqOf M2 (.c d) = some [.c a0, .d (.list (t.pg.map eRun)), .c a2, dI t.ov, dI t.mx] := by simp only [seqOf, md']
    refine db_cons (ds_asg (de_callB (call_max2 rfl) (by rfl) b3 bt_max (da_cons (de_ix ?_))))
    walk_at "nm"
    refine de_int ⟨_, 4, dI t.mx, hd6, rfl, rfl, da_cons (de_callB call_lenR (by rfl) b4 bt_len (da_cons (de_ix ?_)))⟩
    walk_at "nm"
    refine de_int ⟨_, 2, .c a2, hd6, rfl, rfl, da_nil (k_lenD (.c m2') (da_nil (k_max2 (dg_subL ?_))))⟩
    walk_at "nm"
    refine de_int ⟨d, _, 4, 4, rfl, md', rfl, rfl, ?_⟩
    have dk3 := dk2.setD (pg := t.pg) (ov := t.ov) (mx := if 1 > t.mx then 1 else t.mx)
    refine db_cons (ds_ret (de_cmp op_eq ?_ (by with_unfolding_all rfl)))
    walk_at "nm"
    refine de_str (k_eqS ?_)
    rw [decide_eq_true rfl]
    exact fin _ (fr2.put (.inl rfl)) dk3
  | @s z v s0 p h1 h2 h3 h4 =>
    cases hdd
    have hpn : ∀ x ∈ p, okName x.1 = true := hcm (z0, p) (by rw [h4]; exact List.mem_cons_self)
    have hpl2 : p.length < 900000 := hcl (z0, p) (by rw [h4]; exact List.mem_cons_self)
    refine db_cons (ds_ifT (dt_cmp op_eq ?_ (by with_unfolding_all rfl)) ?_)
    · walk_at "nm"
      exact de_str (k_eqS ⟨_, rfl, decide_eq_true rfl, rfl⟩)
    rw [h4] at m2
    refine db_cons (ds_ifF (dt_dnotin (hu_of hr) ?_ (by with_unfolding_all rfl)) (db_nil ?_))
    · walk_at "nm"
      refine de_ix ?_
      walk_at "nm"
      exact de_int ⟨_, 2, .c a2, hd5, rfl, rfl, .inr z0, _, rfl, .c m2, by rw [val_one]; rfl, rfl⟩
    refine db_cons (ds_set (i := 5) sc__law_step.nd rfl (.inl rfl) (de_dpop (de_ix ?_)))
    walk_at "nm"
    refine de_int ⟨_, 2, .c a2, hd5, rfl, rfl, ⟨a2, _, rfl, m2⟩, ?_⟩
    walk_at "nm"
    refine ⟨a2, _, .inr z0, .d (.list (p.map eRun)), rfl, m2, rfl, val_one z0 p, ?_⟩
    rw [drop_one]
    have dk2 : DkAt (updC M a2 (.k (slK (kdPg [])))) d a0 a2 ⟨t.S, t.pg, [], t.ov, t.mx⟩ := dk.setP
    have fr2 : Fr3 d a0 a2 M (updC M a2 (.k (slK (kdPg [])))) := (Fr3.refl M).put (.inr (.inr rfl))
    generalize updC M a2 (.k (slK (kdPg []))) = M2 at dk2 fr2
    obtain ⟨md', m0', m2', -⟩ := id dk2
    have hd6 : seqOf M2 (.c d) = some [.c a0, .d (.list (t.pg.map eRun)), .c a2, dI t.ov, dI t.mx] := by simp only [seqOf, md']
    refine db_cons (ds_asg (de_add (de_ix ?_)))
    walk_at "nm"
    refine de_int ⟨_, 3, dI t.ov, hd6, rfl, rfl, de_callT call_int1 (by rfl) b1 bt_int (da_cons (de_cmp (op_neD hr.units) ?_ (by with_unfolding_all rfl)))⟩
    walk_at "nm"
    refine de_ix ?_
    walk_at "nm"
    refine de_int ⟨_, 1, .d (.list (t.pg.map eRun)), hd6, rfl, rfl, k_neD (.d _) (.d _) (shaped_runs p hpn) (shaped_runs t.pg hnm) (da_nil (k_intB ⟨_, _, rfl, rfl, dg_subL ?_⟩))⟩
    walk_at "nm"
    refine de_int ⟨d, _, 3, 3, rfl, md', rfl, rfl, ?_⟩
    have eov : (if (!PyData.eqv (.list (p.map eRun)) (.list (t.pg.map eRun))) = true then (1 : Int) else 0) = if p = t.pg then 0 else 1 := by
      rw [eqv_list eRun eqv_run p t.pg]
      by_cases e : p = t.pg
      · rw [decide_eq_true e, if_pos e]
        rfl
      · rw [decide_eq_false e, if_neg e]
        rfl
    rw [eov]
    have dk3 := dk2.setD (pg := t.pg) (ov := t.ov + if p = t.pg then 0 else 1) (mx := t.mx)
    have fr3 := fr2.put (x := d) (c := .l [.c a0, .d (.list (t.pg.map eRun)), .c a2, dI (t.ov + if p = t.pg then 0 else 1), dI t.mx]) (.inl rfl)
    show DB _ _ _ _ (updC M2 d (.l [.c a0, .d (.list (t.pg.map eRun)), .c a2, dI (t.ov + if p = t.pg then 0 else 1), dI t.mx])) _
    generalize updC M2 d (.l [.c a0, .d (.list (t.pg.map eRun)), .c a2, dI (t.ov + if p = t.pg then 0 else 1), dI t.mx]) = M3 at dk3 fr3
    obtain ⟨md3, -⟩ := id dk3
    refine db_cons (ds_asg ?_)
    walk_at "nm"
    refine dg_subL ?_
    walk_at "nm"
    refine de_int ⟨d, _, 1, 1, rfl, md3, rfl, rfl, ?_⟩
    have dk4 := dk3.setD (pg := p) (ov := t.ov + if p = t.pg then 0 else 1) (mx := t.mx)
    have fr4 := fr3.put (x := d) (c := .l [.c a0, .d (.list (p.map eRun)), .c a2, dI (t.ov + if p = t.pg then 0 else 1), dI t.mx]) (.inl rfl)
    show DB _ _ _ _ (updC M3 d (.l [.c a0, .d (.list (p.map eRun)), .c a2, dI (t.ov + if p = t.pg then 0 else 1), dI t.mx])) _
    generalize updC M3 d (.l [.c a0, .d (.list (p.map eRun)), .c a2, dI (t.ov + if p = t.pg then 0 else 1), dI t.mx]) = M4 at dk4 fr4
    refine db_cons (ds_ret (de_callC (c1.up (by decide)) hr (by rfl) (da_cons ?_)))
    walk_at "nm"
    refine da_cons ?_
    walk_at "nm"
    refine da_cons ?_
    walk_at "nm"
    refine da_cons (de_int (da_nil ⟨d, a0, a2, _, rows, z0, 1, s0, v, rfl, dk4, h2, h1, by decide, h3, hpn, hpl2, hSl, fun M5 fr5 dk5 => ?_⟩))
    exact fin M5 (fr4.trans fr5) dk5
  | @a z v s0 n h1 h2 h3 h4 h5 =>
    cases hdd
    refine db_cons (ds_ifF (dt_cmp op_eq ?_ (by with_unfolding_all rfl)) (db_nil ?_))
    · walk_at "nm"
      exact de_str (k_eqS ⟨_, rfl, by decide +kernel, rfl⟩)
    refine db_cons (ds_ifF (dt_or2 (dt_din (hu_of hr) ?_ (by with_unfolding_all rfl))) (db_nil ?_))
    · walk_at "nm"
      refine de_ix ?_
      walk_at "nm"
      refine de_int ⟨_, 2, .c a2, hd5, rfl, rfl, .inr z0, _, rfl, .c m2, fun zz => ?_, fun _ => dt_cmp op_ge (de_dget (hu_of hr) (de_ix ?_)) (by with_unfolding_all rfl)⟩
      · rw [valS_Pg z0 t.cp h5] at zz
        cases zz
      walk_at "nm"
      refine de_int ⟨_, 0, .c a0, hd5, rfl, rfl, ?_⟩
      walk_at "nm"
      refine ⟨_, .inr z0, dI s0, .c m0, rfl, by rw [valS_C, h2]; rfl, de_dget (hu_of hr) ?_⟩
      walk_at "nm"
      walk_at "nm"
      exact ⟨_, .inr z0, dI v, .d (kdC rows), rfl, by rw [valS_C, h1]; rfl, k_bool ⟨_, rfl, decide_eq_false (by omega), rfl⟩⟩
    refine db_cons (ds_ifT (dt_cmp op_eq ?_ (by with_unfolding_all rfl)) ?_)
    · walk_at "nm"
      exact de_str (k_eqS ⟨_, rfl, decide_eq_true rfl, rfl⟩)
    refine db_cons (ds_ret (de_callC (c1.up (by decide)) hr (by rfl) (da_cons ?_)))
    walk_at "nm"
    refine da_cons ?_
    walk_at "nm"
    refine da_cons ?_
    walk_at "nm"
    refine da_cons (de_ix ?_)
    walk_at "nm"
    refine de_int ⟨_, 2, dI n, rfl, rfl, rfl, da_nil ⟨d, a0, a2, _, rows, z0, n, s0, v, rfl, dk, h2, h1, h3, h4, hnm, hpl, hSl, fun M5 fr5 dk5 => ?_⟩⟩
    exact fin M5 fr5 dk5

end

end Pg

namespace Pg
open PySem L2 Y PyProof.Rows

local macro_rules | `(tactic| walk_at "vis") => `(tactic| first | exact Or.inl rfl | exact Or.inr (Or.inl rfl) | exact Or.inr (Or.inr rfl))
local macro_rules | `(tactic| walk_at "e1") => `(tactic| first | walk_at "nm" | refine de_int ?_ | refine de_add ?_ | refine de_sub ?_ | refine de_str ?_ | refine de_non ?_ | refine de_bl ?_)
local macro_rules | `(tactic| walk_at "go") => `(tactic| repeat (first | ((with_reducible show DE _ _ _ _ _ _); walk_at "e1") | ((with_reducible show DA _ _ _ _ _ _); refine da_cons ?_) | refine ⟨_, _, rfl, rfl, ?_⟩))


/-! where gaps lie -/
theorem stAt_keep (c : List Y.Run) (z : Str) : ∀ (i n : Nat), (stAt c i z).2 < (n : Int) → n ≤ i → stAt c n z = stAt c i z
  | 0, n, _, h => by rw [Nat.le_zero.mp h]
  | i + 1, n, h1, h2 => by
    by_cases e : n = i + 1
    · rw [e]
    · have hn : n ≤ i := by omega
      cases hc : c[i]? with
      | none =>
        have : stAt c (i + 1) z = stAt c i z := by
          show (match c[i]? with | some r => if r.1 = z then (r.2.2, (i : Int)) else stAt c i z | none => stAt c i z) = _
          rw [hc]
        rw [this] at h1 ⊢
        exact stAt_keep c z i n h1 hn
      | some r =>
        rw [stAt_succ hc] at h1 ⊢
        split at h1
        · exact absurd h1 (by show ¬ (i : Int) < (n : Int); omega)
        · rename_i hne
          rw [if_neg hne]
          exact stAt_keep c z i n h1 hn
theorem mem_gaps2 {cs : Cnt} {c : List Y.Run} {g : Gap} : g ∈ gapsA cs c ↔ (∃ i r, c[i]? = some r ∧ (stAt c i r.1).1 + 1 < r.2.1 ∧ g = (r.1, (stAt c i r.1).1 + 1, r.2.1 - 1, (stAt c i r.1).2 + 1, (i : Int) - 1)) ∨ ∃ p ∈ cs, (stAt c c.length p.1).1 < p.2 ∧ g = (p.1, (stAt c c.length p.1).1 + 1, p.2, (stAt c c.length p.1).2 + 1, (c.length : Int) - 1) := by
  rw [show g ∈ gapsA cs c ↔ g ∈ rawAll cs c from (List.mergeSort_perm _ _).mem_iff]
  unfold rawAll rawA
  rw [List.mem_append, List.mem_flatMap, List.mem_flatMap]
  refine or_congr ⟨?_, ?_⟩ ⟨?_, ?_⟩
  · rintro ⟨i, hi, hm⟩
    unfold emA at hm
    cases e : c[i]? with
    | none => rw [e] at hm; cases hm
    | some r =>
      rw [e] at hm
      dsimp only at hm
      split at hm
      · rename_i h
        exact ⟨i, r, e, h, List.mem_singleton.mp hm⟩
      · cases hm
  · rintro ⟨i, r, e, h, rfl⟩
    refine ⟨i, List.mem_range.mpr (List.getElem?_eq_some_iff.mp e).1, ?_⟩
    unfold emA
    rw [e]
    dsimp only
    rw [if_pos h]
    exact List.mem_singleton.mpr rfl
  · rintro ⟨p, hp, hm⟩
    unfold tlA at hm
    split at hm
    · rename_i h
      exact ⟨p, hp, h, List.mem_singleton.mp hm⟩
    · cases hm
  · rintro ⟨p, hp, h, rfl⟩
    refine ⟨p, hp, ?_⟩
    unfold tlA
    rw [if_pos h]
    exact List.mem_singleton.mpr rfl
def Act (g : Gap) (n : Nat) : Prop := loG g ≤ (n : Int) ∧ (n : Int) ≤ hiG g + 1
theorem act_st {cs : Cnt} {c : List Y.Run} {g : Gap} (h : g ∈ gapsA cs c) {n : Nat} (ha : Act g n) : stAt c n g.1 = (g.2.1 - 1, loG g - 1) := by
  rcases mem_gaps2.mp h with ⟨i, r, e, h1, rfl⟩ | ⟨p, hp, h1, rfl⟩
  · have h2 : (stAt c i r.1).2 + 1 ≤ (n : Int) := ha.1
    have h3 : (n : Int) ≤ (i : Int) - 1 + 1 := ha.2
    rw [stAt_keep c r.1 i n (by omega) (by omega)]
    show _ = ((stAt c i r.1).1 + 1 - 1, (stAt c i r.1).2 + 1 - 1)
    rw [Int.add_sub_cancel, Int.add_sub_cancel]
  · have h2 : (stAt c c.length p.1).2 + 1 ≤ (n : Int) := ha.1
    have h3 : (n : Int) ≤ (c.length : Int) - 1 + 1 := ha.2
    rw [stAt_keep c p.1 c.length n (by omega) (by omega)]
    show _ = ((stAt c c.length p.1).1 + 1 - 1, (stAt c c.length p.1).2 + 1 - 1)
    rw [Int.add_sub_cancel, Int.add_sub_cancel]
theorem act_end {cs : Cnt} {c : List Y.Run} {g : Gap} (h : g ∈ gapsA cs c) {n : Nat} {r : Y.Run} (hr : c[n]? = some r) (e : hiG g + 1 = (n : Int)) : r.1 = g.1 ∧ r.2.1 = g.2.2.1 + 1 := by
  rcases mem_gaps2.mp h with ⟨i, r', e', h1, rfl⟩ | ⟨p, hp, h1, rfl⟩
  · have e : (i : Int) - 1 + 1 = (n : Int) := e
    have : i = n := by omega
    subst this
    rw [hr] at e'
    cases e'
    exact ⟨rfl, by show r.2.1 = r.2.1 - 1 + 1; omega⟩
  · have e : (c.length : Int) - 1 + 1 = (n : Int) := e
    have := (List.getElem?_eq_some_iff.mp hr).1
    omega
theorem act_tail {cs : Cnt} {c : List Y.Run} (nd : (cs.map (·.1)).Nodup) {g : Gap} (h : g ∈ gapsA cs c) (e : hiG g + 1 = (c.length : Int)) : getC cs g.1 = some g.2.2.1 := by
  rcases mem_gaps2.mp h with ⟨i, r', e', h1, rfl⟩ | ⟨p, hp, h1, rfl⟩
  · have e : (i : Int) - 1 + 1 = (c.length : Int) := e
    have := (List.getElem?_eq_some_iff.mp e').1
    omega
  · exact getC_mem nd hp
theorem act_not {cs : Cnt} {c : List Y.Run} {g : Gap} (h : g ∈ gapsA cs c) {k : Nat} {r : Y.Run} (hr : c[k]? = some r) (h1 : loG g ≤ (k : Int)) (h2 : (k : Int) ≤ hiG g) : r.1 ≠ g.1 := fun e => by
  have := act_st h (n := k + 1) ⟨by omega, by omega⟩
  rw [stAt_succ hr, if_pos e] at this
  have := congrArg Prod.snd this
  have this : (k : Int) = loG g - 1 := this
  omega
theorem act_one {cs : Cnt} {c : List Y.Run} (nd : (cs.map (·.1)).Nodup) {g g' : Gap} (h : g ∈ gapsA cs c) (h' : g' ∈ gapsA cs c) (ez : g.1 = g'.1) {n : Nat} (ha : Act g n) (ha' : Act g' n) : g = g' := by
  have e1 := act_st h ha
  have e2 := act_st h' ha'
  rw [ez, e2] at e1
  have el : loG g' = loG g := by
    have := congrArg Prod.snd e1
    have this : loG g' - 1 = loG g - 1 := this
    omega
  have ef : g'.2.1 = g.2.1 := by
    have := congrArg Prod.fst e1
    have this : g'.2.1 - 1 = g.2.1 - 1 := this
    omega
  have hh : ¬ hiG g < hiG g' := fun z => by
    rcases mem_gaps2.mp h with ⟨i, r, e, _, rfl⟩ | ⟨p, hp, _, rfl⟩
    · have hz : (i : Int) - 1 < hiG g' := z
      have ha1 : (n : Int) ≤ (i : Int) - 1 + 1 := ha.2
      have := ha'.1
      exact act_not h' e (by omega) (by omega) ez
    · rcases mem_gaps2.mp h' with ⟨i, r, e, _, rfl⟩ | ⟨p', hp', _, rfl⟩
      · have hz : (c.length : Int) - 1 < (i : Int) - 1 := z
        have := (List.getElem?_eq_some_iff.mp e).1
        omega
      · exact absurd z (Int.lt_irrefl _)
  have hh' : ¬ hiG g' < hiG g := fun z => by
    rcases mem_gaps2.mp h' with ⟨i, r, e, _, rfl⟩ | ⟨p, hp, _, rfl⟩
    · have hz : (i : Int) - 1 < hiG g := z
      have ha1 : (n : Int) ≤ (i : Int) - 1 + 1 := ha'.2
      have := ha.1
      exact act_not h e (by omega) (by omega) ez.symm
    · rcases mem_gaps2.mp h with ⟨i, r, e, _, rfl⟩ | ⟨p', hp', _, rfl⟩
      · have hz : (c.length : Int) - 1 < (i : Int) - 1 := z
        have := (List.getElem?_eq_some_iff.mp e).1
        omega
      · exact absurd z (Int.lt_irrefl _)
  have eh : hiG g = hiG g' := by omega
  have el2 : g.2.2.1 = g'.2.2.1 := by
    by_cases hc : hiG g + 1 = (c.length : Int)
    · have t1 := act_tail nd h hc
      have t2 := act_tail nd h' (by rw [← eh]; exact hc)
      rw [ez, t2] at t1
      exact (Option.some.inj t1).symm
    · have hn : ∃ k : Nat, hiG g + 1 = (k : Int) := by
        have := ha.2
        exact ⟨(hiG g + 1).toNat, by omega⟩
      obtain ⟨k, hk⟩ := hn
      have hkl : k < c.length := by
        have := (gap_bds g h).2.2
        have this : hiG g < (c.length : Int) := this
        omega
      have q1 := (act_end h (List.getElem?_eq_getElem hkl) hk).2
      have q2 := (act_end h' (List.getElem?_eq_getElem hkl) (by rw [← eh]; exact hk)).2
      omega
  obtain ⟨a1, a2, a3, a4, a5⟩ := g
  obtain ⟨b1, b2, b3, b4, b5⟩ := g'
  have ez : a1 = b1 := ez
  have ef : b2 = a2 := ef
  have el2 : a3 = b3 := el2
  have el : b4 = a4 := el
  have eh : a5 = b5 := eh
  rw [ez, ← ef, el2, ← el, eh]
theorem gapsA_nd {cs : Cnt} {c : List Y.Run} (nd : (cs.map (·.1)).Nodup) : (gapsA cs c).Nodup := by
  refine (List.mergeSort_perm _ _).nodup_iff.mpr ?_
  have hem : ∀ n, ∀ g ∈ emA c n, hiG g + 1 = (n : Int) := fun n g hg => by
    unfold emA at hg
    split at hg
    · split at hg
      · rw [List.mem_singleton.mp hg]
        show (n : Int) - 1 + 1 = _
        omega
      · cases hg
    · cases hg
  have hr : ∀ n, (rawA c n).Pairwise (fun a b => hiG a < hiG b) ∧ ∀ g ∈ rawA c n, hiG g + 1 < (n : Int) := fun n => by
    induction n with
    | zero => exact ⟨List.Pairwise.nil, fun g hg => (nomatch hg)⟩
    | succ n ih =>
      obtain ⟨i1, i2⟩ := ih
      have hem1 : (emA c n).Pairwise (fun a b => hiG a < hiG b) := by
        unfold emA
        split
        · split
          · exact List.pairwise_singleton _ _
          · exact List.Pairwise.nil
        · exact List.Pairwise.nil
      rw [rawA_succ]
      refine ⟨List.pairwise_append.mpr ⟨i1, hem1, fun a ha b hb => ?_⟩, fun g hg => ?_⟩
      · have := i2 a ha
        have := hem n b hb
        omega
      · rcases List.mem_append.mp hg with hg | hg
        · have := i2 g hg
          omega
        · have := hem n g hg
          omega
  obtain ⟨r1, r2⟩ := hr c.length
  have htl : ∀ p : Str × Int, ∀ g ∈ tlA c p, g.1 = p.1 ∧ hiG g + 1 = (c.length : Int) := fun p g hg => by
    unfold tlA at hg
    split at hg
    · rw [List.mem_singleton.mp hg]
      exact ⟨rfl, by show (c.length : Int) - 1 + 1 = _; omega⟩
    · cases hg
  have ht : ∀ l : Cnt, (l.map (·.1)).Nodup → (l.flatMap (tlA c)).Nodup := fun l => by
    induction l with
    | nil => exact fun _ => List.nodup_nil
    | cons p r ih =>
      intro hn
      rw [List.map_cons] at hn
      obtain ⟨n1, n2⟩ := List.nodup_cons.mp hn
      rw [List.flatMap_cons]
      refine List.nodup_append.mpr ⟨?_, ih n2, fun a ha b hb e => ?_⟩
      · unfold tlA
        split
        · exact List.nodup_cons.mpr ⟨List.not_mem_nil, List.nodup_nil⟩
        · exact List.nodup_nil
      · obtain ⟨q, hq, hb⟩ := List.mem_flatMap.mp hb
        have e1 := (htl p a ha).1
        have e2 := (htl q b hb).1
        rw [e, e2] at e1
        exact n1 (by rw [← e1]; exact List.mem_map_of_mem hq)
  unfold rawAll
  refine List.nodup_append.mpr ⟨r1.imp fun {a b} h e => by rw [e] at h; exact absurd h (Int.lt_irrefl _), ht cs nd, fun a ha b hb e => ?_⟩
  obtain ⟨q, hq, hb⟩ := List.mem_flatMap.mp hb
  have h1 := r2 a ha
  have h2 := (htl q b hb).2
  rw [e] at h1
  omega
theorem app_take {a b : List Y.Run} : App (a ++ b) → App a := by
  refine snoc_ind (p := fun b => App (a ++ b) → App a) ?_ ?_ b
  · intro h
    rwa [List.append_nil] at h
  · intro l r ih h
    rw [← List.append_assoc] at h
    exact ih (App_snoc.mp h).1
theorem cnt_lt (n : Int) : ∀ T : List Int, T.Pairwise (· < ·) → ((T.filter fun k => decide (k < n + 1)).length : Int) = ((T.filter fun k => decide (k < n)).length : Int) + (if n ∈ T then 1 else 0)
  | [], _ => rfl
  | x :: T, h => by
    obtain ⟨h1, h2⟩ := List.pairwise_cons.mp h
    have ih := cnt_lt n T h2
    rw [List.filter_cons, List.filter_cons]
    by_cases e : x = n
    · subst e
      have hn : x ∉ T := fun z => absurd (h1 x z) (Int.lt_irrefl _)
      rw [if_neg hn] at ih
      rw [if_pos (decide_eq_true (by omega)), if_neg (by simp), if_pos List.mem_cons_self, List.length_cons]
      omega
    · have hm : n ∈ x :: T ↔ n ∈ T := ⟨fun z => (List.mem_cons.mp z).resolve_left fun q => e q.symm, List.mem_cons_of_mem _⟩
      have hi : (if n ∈ x :: T then (1 : Int) else 0) = if n ∈ T then 1 else 0 := by
        by_cases z : n ∈ T
        · rw [if_pos z, if_pos (hm.mpr z)]
        · rw [if_neg z, if_neg (fun q => z (hm.mp q))]
      rw [hi]
      by_cases l : x < n
      · rw [if_pos (decide_eq_true (by omega)), if_pos (decide_eq_true l), List.length_cons, List.length_cons]
        omega
      · rw [if_neg (by simp; omega), if_neg (by simp; omega)]
        exact ih
theorem act_ex {cs : Cnt} {c : List Y.Run} {n : Nat} {r : Y.Run} (hr : c[n]? = some r) (h : (stAt c n r.1).1 + 1 < r.2.1) : ∃ g ∈ gapsA cs c, Act g n ∧ g.1 = r.1 := by
  have hn := (List.getElem?_eq_some_iff.mp hr).1
  refine ⟨_, mem_gaps2.mpr (.inl ⟨n, r, hr, h, rfl⟩), ⟨?_, ?_⟩, rfl⟩
  · have := stAt_lt c r.1 n (by omega)
    show (stAt c n r.1).2 + 1 ≤ (n : Int)
    omega
  · show (n : Int) ≤ (n : Int) - 1 + 1
    omega
theorem act_exT {cs : Cnt} {c : List Y.Run} {p : Str × Int} (hp : p ∈ cs) (h : (stAt c c.length p.1).1 < p.2) : ∃ g ∈ gapsA cs c, Act g c.length ∧ g.1 = p.1 := by
  refine ⟨_, mem_gaps2.mpr (.inr ⟨p, hp, h, rfl⟩), ⟨?_, ?_⟩, rfl⟩
  · have := stAt_lt c p.1 c.length (Nat.le_refl _)
    show (stAt c c.length p.1).2 + 1 ≤ (c.length : Int)
    omega
  · show (c.length : Int) ≤ (c.length : Int) - 1 + 1
    omega
/-! running through -/
inductive Sim (rows : Cnt) : Dk → List Dd → Dk → Prop
  | nil (t : Dk) : Sim rows t [] t
  | cons {t t1 t2 : Dk} {d : Dd} {ds : List Dd} : StepOk rows t d t1 → Sim rows t1 ds t2 → Sim rows t (d :: ds) t2
theorem Sim.app {rows : Cnt} {t t1 t2 : Dk} {ds es : List Dd} (h : Sim rows t ds t1) (k : Sim rows t1 es t2) : Sim rows t (ds ++ es) t2 := by
  induction h with
  | nil t => exact k
  | cons h1 _ ih => exact .cons h1 (ih k)
theorem nL_with (c : List Y.Run) (r : Y.Run) : nLines (withRun c r) = nLines c + (r.2.2 - r.2.1 + 1) := by
  unfold withRun nLines
  cases e : c.getLast? with
  | none => rw [List.getLast?_eq_none_iff.mp e]; simp
  | some l =>
    have hne : c ≠ [] := fun z => by rw [z] at e; cases e
    have hc : c = c.dropLast ++ [l] := by
      have := List.dropLast_concat_getLast hne
      rw [List.getLast?_eq_some_getLast hne] at e
      rw [Option.some.inj e] at this
      exact this.symm
    dsimp only
    split
    · rename_i hcont
      have h2 : r.2.1 = l.2.2 + 1 := by
        unfold cont at hcont
        simp only [Bool.and_eq_true, decide_eq_true_eq] at hcont
        exact hcont.2
      conv => rhs; rw [hc]
      rw [List.map_append, List.map_append, List.sum_append, List.sum_append]
      simp
      omega
    · rw [List.map_append, List.sum_append]
      simp
def lostD (G : List Gap) : List Dd := G.map fun g => .a g.1 (g.2.2.1 - g.2.1 + 1)
theorem sim_lost {rows : Cnt} : ∀ (G : List Gap) (t : Dk), G.Pairwise (fun a b => a.1 ≠ b.1) → (∀ g ∈ G, getC t.S g.1 = some (g.2.1 - 1) ∧ g.2.1 ≤ g.2.2.1 ∧ ∃ v, getC rows g.1 = some v ∧ g.2.2.1 ≤ v) → (∀ e ∈ t.cp, ∀ g ∈ G, e.1 ≠ g.1) → ∃ t', Sim rows t (lostD G) t' ∧ t'.cp = t.cp ∧ t'.ov = t.ov ∧ t'.mx = t.mx ∧ (∀ g ∈ G, getC t'.S g.1 = some g.2.2.1) ∧ (∀ z, (∀ g ∈ G, g.1 ≠ z) → getC t'.S z = getC t.S z) ∧ nLines t.pg ≤ nLines t'.pg ∧ (G ≠ [] → nLines t.pg < nLines t'.pg)
  | [], t, _, _, _ => ⟨t, .nil t, rfl, rfl, rfl, fun _ h => (nomatch h), fun _ _ => rfl, Int.le_refl _, fun z => absurd rfl z⟩
  | g :: G, t, hp, hg, hcp => by
    obtain ⟨p1, p2⟩ := List.pairwise_cons.mp hp
    obtain ⟨s0, hle, v, hv, hgv⟩ := hg g List.mem_cons_self
    have st : StepOk rows t (.a g.1 (g.2.2.1 - g.2.1 + 1)) ⟨putC t.S g.1 (g.2.1 - 1 + (g.2.2.1 - g.2.1 + 1)), withRun t.pg (g.1, g.2.1 - 1 + 1, g.2.1 - 1 + (g.2.2.1 - g.2.1 + 1)), t.cp, t.ov, t.mx⟩ := .a hv s0 (by omega) (by omega) (fun e he => hcp e he g List.mem_cons_self)
    have e1 : g.2.1 - 1 + (g.2.2.1 - g.2.1 + 1) = g.2.2.1 := by omega
    rw [e1] at st
    obtain ⟨t', h1, h2, h3, h4, h5, h6, h7, h8⟩ := sim_lost G ⟨putC t.S g.1 g.2.2.1, withRun t.pg (g.1, g.2.1 - 1 + 1, g.2.2.1), t.cp, t.ov, t.mx⟩ p2 (fun x hx => by
      obtain ⟨a1, a2⟩ := hg x (List.mem_cons_of_mem _ hx)
      refine ⟨?_, a2⟩
      show getC (putC t.S g.1 g.2.2.1) x.1 = _
      rw [getC_put, if_neg (fun z => p1 x hx z.symm)]
      exact a1) (fun e he x hx => hcp e he x (List.mem_cons_of_mem _ hx))
    have hnl : nLines (withRun t.pg (g.1, g.2.1 - 1 + 1, g.2.2.1)) = nLines t.pg + (g.2.2.1 - (g.2.1 - 1 + 1) + 1) := nL_with _ _
    have h7 : nLines (withRun t.pg (g.1, g.2.1 - 1 + 1, g.2.2.1)) ≤ nLines t'.pg := h7
    refine ⟨t', .cons st h1, h2, h3, h4, fun x hx => ?_, fun z hz => ?_, by omega, fun _ => by omega⟩
    · rcases List.mem_cons.mp hx with rfl | hx
      · rw [h6 x.1 (fun y hy z => p1 y hy z.symm)]
        show getC (putC t.S x.1 x.2.2.1) x.1 = _
        rw [getC_put, if_pos rfl]
      · exact h5 x hx
    · rw [h6 z fun y hy => hz y (List.mem_cons_of_mem _ hy)]
      show getC (putC t.S g.1 g.2.2.1) z = _
      rw [getC_put, if_neg (fun q => hz g List.mem_cons_self q.symm)]
def filG (gs : List Gap) (T : List Int) (i : Int) : List Gap := gs.filter fun g => decide ((covT T g).head? = some i)
def blkD (G : List Gap) (r : Y.Run) : List Dd := if G.isEmpty = true then [.a r.1 (r.2.2 - r.2.1 + 1)] else .r r.1 :: (lostD G ++ (.s r.1 :: (if 0 < r.2.2 - r.2.1 then [.a r.1 (r.2.2 - r.2.1)] else [])))
theorem blkD_map (gs : List Gap) (T : List Int) (i : Int) (r : Y.Run) : (blkD (filG gs T i) r).map eDd = blkS (lkG gs T i) r := by
  have e : lkG gs T i = (lostD (filG gs T i)).map eDd := by
    unfold lkG lostD filG
    rw [List.map_map]
    rfl
  have e2 : (lkG gs T i).isEmpty = (filG gs T i).isEmpty := by
    rw [e]
    unfold lostD
    rw [List.map_map]
    cases filG gs T i <;> rfl
  unfold blkD blkS
  rw [e2]
  split
  · rfl
  · rw [e, List.map_cons, List.map_append, List.map_cons]
    split <;> rfl
theorem isE {α : Type} {l : List α} : l.isEmpty = false → l ≠ [] := fun h z => by rw [z] at h; cases h
/-- one block of deeds -/
theorem sim_blk {rows : Cnt} {G : List Gap} {r : Y.Run} {t : Dk} {v : Int} (hv : getC rows r.1 = some v) (hs : getC t.S r.1 = some (r.2.1 - 1)) (h1 : r.2.1 ≤ r.2.2) (h2 : r.2.2 ≤ v) (hcp : t.cp = []) (hm0 : 0 ≤ t.mx) (hm1 : t.mx ≤ 1) (hl : ∀ l, t.pg.getLast? = some l → l.1 ≠ r.1)
    (hp : G.Pairwise (fun a b => a.1 ≠ b.1)) (hg : ∀ g ∈ G, getC t.S g.1 = some (g.2.1 - 1) ∧ g.2.1 ≤ g.2.2.1 ∧ ∃ v, getC rows g.1 = some v ∧ g.2.2.1 ≤ v) (hr : ∀ g ∈ G, r.1 ≠ g.1) :
    ∃ t', Sim rows t (blkD G r) t' ∧ t'.cp = [] ∧ 0 ≤ t'.mx ∧ t'.mx ≤ 1 ∧ t'.pg = t.pg ++ [r] ∧ t'.ov = t.ov + (if G.isEmpty = true then 0 else 1) ∧ getC t'.S r.1 = some r.2.2 ∧ (∀ g ∈ G, getC t'.S g.1 = some g.2.2.1) ∧ ∀ z, z ≠ r.1 → (∀ g ∈ G, g.1 ≠ z) → getC t'.S z = getC t.S z := by
  obtain ⟨w, f, l⟩ := r
  dsimp only at hv hs h1 h2 hl hr ⊢
  have nocont : ∀ b, withRun t.pg (w, f, b) = t.pg ++ [(w, f, b)] := fun b => by
    unfold withRun
    cases e : t.pg.getLast? with
    | none => rfl
    | some x =>
      dsimp only
      rw [if_neg]
      unfold cont
      rw [decide_eq_false (fun z => hl x e z.symm)]
      exact Bool.false_ne_true
  unfold blkD
  by_cases hG : G.isEmpty = true
  · rw [if_pos hG, if_pos hG]
    have hG0 : G = [] := List.isEmpty_iff.mp hG
    have st : StepOk rows t (.a w (l - f + 1)) ⟨putC t.S w (f - 1 + (l - f + 1)), withRun t.pg (w, f - 1 + 1, f - 1 + (l - f + 1)), t.cp, t.ov, t.mx⟩ := .a hv hs (by omega) (by omega) (fun e he => by rw [hcp] at he; cases he)
    have e1 : f - 1 + (l - f + 1) = l := by omega
    have e2 : f - 1 + 1 = f := by omega
    rw [e1, e2, nocont] at st
    refine ⟨_, .cons st (.nil _), hcp, hm0, hm1, rfl, (Int.add_zero _).symm, ?_, fun g hg => (by rw [hG0] at hg; cases hg), fun z hz _ => ?_⟩
    · show getC (putC t.S w l) w = _
      rw [getC_put, if_pos rfl]
    · show getC (putC t.S w l) z = _
      rw [getC_put, if_neg hz]
  · rw [if_neg hG, if_neg hG]
    have hGne : G ≠ [] := fun z => hG (by rw [z]; rfl)
    have st1 : StepOk rows t (.r w) ⟨t.S, t.pg, [(w, t.pg)], t.ov, if 1 > t.mx then 1 else t.mx⟩ := .r hv hs (by omega) hcp
    obtain ⟨t2, q1, q2, q3, q4, q5, q6, _, q8⟩ := sim_lost (rows := rows) G ⟨t.S, t.pg, [(w, t.pg)], t.ov, if 1 > t.mx then 1 else t.mx⟩ hp hg (fun e he g hg => by rw [List.mem_singleton.mp he]; exact hr g hg)
    have hne : t.pg ≠ t2.pg := fun z => by
      have := q8 hGne
      have this : nLines t.pg < nLines t2.pg := this
      rw [z] at this
      exact absurd this (Int.lt_irrefl _)
    have hs2 : getC t2.S w = some (f - 1) := by
      rw [q6 w fun g hg z => hr g hg z.symm]
      exact hs
    have st3 : StepOk rows t2 (.s w) ⟨putC t2.S w (f - 1 + 1), withRun t.pg (w, f - 1 + 1, f - 1 + 1), [], t2.ov + (if t.pg = t2.pg then 0 else 1), t2.mx⟩ := .s hv hs2 (by omega) q2
    have e2 : f - 1 + 1 = f := by omega
    rw [e2, nocont, if_neg hne] at st3
    have q4 : t2.mx = if 1 > t.mx then 1 else t.mx := q4
    have q3 : t2.ov = t.ov := q3
    have hmx : 0 ≤ t2.mx ∧ t2.mx ≤ 1 := by
      rw [q4]
      split <;> omega
    have keyS : ∀ z, z ≠ w → (∀ g ∈ G, g.1 ≠ z) → getC t2.S z = getC t.S z := fun z _ hz => q6 z hz
    by_cases hlf : 0 < l - f
    · rw [if_pos hlf]
      have st4 : StepOk rows ⟨putC t2.S w f, t.pg ++ [(w, f, f)], [], t2.ov + 1, t2.mx⟩ (.a w (l - f)) ⟨putC (putC t2.S w f) w (f + (l - f)), withRun (t.pg ++ [(w, f, f)]) (w, f + 1, f + (l - f)), [], t2.ov + 1, t2.mx⟩ := .a hv (by show getC (putC t2.S w f) w = _; rw [getC_put, if_pos rfl]) (by omega) (by omega) (fun e he => (nomatch he))
      have e3 : f + (l - f) = l := by omega
      have e4 : withRun (t.pg ++ [(w, f, f)]) (w, f + 1, l) = t.pg ++ [(w, f, l)] := by
        unfold withRun
        rw [List.getLast?_concat]
        dsimp only
        rw [if_pos (by simp [cont]), List.dropLast_concat]
      rw [e3, e4] at st4
      refine ⟨_, .cons st1 (q1.app (.cons st3 (.cons st4 (.nil _)))), rfl, hmx.1, hmx.2, rfl, by show t2.ov + 1 = _; rw [q3], ?_, fun g hg => ?_, fun z hz hz2 => ?_⟩
      · show getC (putC (putC t2.S w f) w l) w = _
        rw [getC_put, if_pos rfl]
      · show getC (putC (putC t2.S w f) w l) g.1 = _
        rw [getC_put, if_neg (fun z => hr g hg z.symm), getC_put, if_neg (fun z => hr g hg z.symm)]
        exact q5 g hg
      · show getC (putC (putC t2.S w f) w l) z = _
        rw [getC_put, if_neg hz, getC_put, if_neg hz]
        exact q6 z hz2
    · rw [if_neg hlf]
      have e3 : l = f := by omega
      subst e3
      refine ⟨_, .cons st1 (q1.app (.cons st3 (.nil _))), rfl, hmx.1, hmx.2, rfl, by show t2.ov + 1 = _; rw [q3], ?_, fun g hg => ?_, fun z hz hz2 => ?_⟩
      · show getC (putC t2.S w l) w = _
        rw [getC_put, if_pos rfl]
      · show getC (putC t2.S w l) g.1 = _
        rw [getC_put, if_neg (fun z => hr g hg z.symm)]
        exact q5 g hg
      · show getC (putC t2.S w l) z = _
        rw [getC_put, if_neg hz]
        exact q6 z hz2
def schDd (gs : List Gap) (T : List Int) (c : List Y.Run) (n : Nat) : List Dd := (List.range n).flatMap fun i : Nat => match c[i]? with
  | some r => blkD (filG gs T (i : Int)) r
  | none => []
theorem schDd_succ {gs : List Gap} {T : List Int} {c : List Y.Run} {n : Nat} {r : Y.Run} (h : c[n]? = some r) : schDd gs T c (n + 1) = schDd gs T c n ++ blkD (filG gs T (n : Int)) r := by
  unfold schDd
  rw [List.range_succ, List.flatMap_append, List.flatMap_cons, List.flatMap_nil, List.append_nil, h]
theorem schDd_map (gs : List Gap) (T : List Int) (c : List Y.Run) : ∀ n, n ≤ c.length → (schDd gs T c n).map eDd = schd (lkG gs T) c n
  | 0, _ => rfl
  | n + 1, h => by
    have hn : c[n]? = some c[n] := List.getElem?_eq_getElem (by omega)
    rw [schDd_succ hn, schd_succ hn, List.map_append, schDd_map gs T c n (by omega), blkD_map]
def covO (T : List Int) (g : Gap) : Int := ((covT T g).head?).getD 0
/-- all deeds -/
theorem sim_all {rows : Cnt} {c : List Y.Run} (okr : okCnt rows) (okc : okC (some rows) c) (hfin : isNone (.d (finA rows c)) = true) : ∃ t', Sim rows ⟨zerC rows, [], [], 0, 0⟩ (schDd (gapsA rows c) (stT (gapsA rows c)) c c.length) t' ∧ t'.pg = c ∧ t'.cp = [] ∧ 0 ≤ t'.mx ∧ t'.mx ≤ 1 ∧ t'.ov = ((stT (gapsA rows c)).length : Int) ∧ ∀ p ∈ rows, getC t'.S p.1 = some p.2 := by
  have nd := okr.2.2.1
  have asc := finA_asc okc hfin
  have hle := gap_le okr hfin
  obtain ⟨t1, t2, t3⟩ := tkG_ok (gs := gapsA rows c) hle
  obtain ⟨m1, m2, m3, -⟩ := k22_math (n := c.length) (fun g hg => ⟨(gap_bds g hg).1, hle g hg, (gap_bds g hg).2.2⟩) t1 t2 t3 (disG_perm rows c) (sorted_gaps _) (sorted_gaps _)
  have gnd := gapsA_nd (c := c) nd
  have app : c ≠ [] → App c := fun hne => by
    refine obsA_none ?_
    unfold finA at hfin
    rw [if_neg (by cases c with | nil => exact absurd rfl hne | cons x r => exact Bool.false_ne_true)] at hfin
    by_cases e : isNone (.d (obsA c)) = false
    · rw [if_pos e] at hfin
      rw [hfin] at e
      cases e
    · simpa using e
  have hnames : ∀ g ∈ gapsA rows c, ∃ p ∈ rows, p.1 = g.1 := fun g hg => by
    rcases mem_gaps2.mp hg with ⟨i, r, e, _, rfl⟩ | ⟨p, hp, _, rfl⟩
    · obtain ⟨p, hp, e2⟩ := List.mem_map.mp (okC_in okc r (List.mem_of_getElem? e))
      exact ⟨p, hp, e2⟩
    · exact ⟨p, hp, rfl⟩
  have hT : stT (gapsA rows c) = (tkG (gapsA rows c)).map hiG := rfl
  rw [← hT] at m1 m2 m3
  have hcov : ∀ g ∈ gapsA rows c, (covT (stT (gapsA rows c)) g).head? = some (covO (stT (gapsA rows c)) g) ∧ loG g ≤ covO (stT (gapsA rows c)) g ∧ covO (stT (gapsA rows c)) g ≤ hiG g ∧ covO (stT (gapsA rows c)) g ∈ stT (gapsA rows c) := fun g hg => by
    obtain ⟨k, hk, hi⟩ := m3 g hg
    have hne : covT (stT (gapsA rows c)) g ≠ [] := fun z => (List.filter_eq_nil_iff.mp z) k hk hi
    obtain ⟨k0, kr, e⟩ := List.exists_cons_of_ne_nil hne
    have hm : k0 ∈ covT (stT (gapsA rows c)) g := by rw [e]; exact List.mem_cons_self
    have hm2 := List.mem_filter.mp hm
    have e2 : covO (stT (gapsA rows c)) g = k0 := by unfold covO; rw [e]; rfl
    have hin := hm2.2
    unfold inG at hin
    simp only [Bool.and_eq_true, decide_eq_true_eq] at hin
    rw [e2]
    exact ⟨by rw [e]; rfl, hin.1, hin.2, hm2.1⟩
  have hself : ∀ g ∈ tkG (gapsA rows c), covO (stT (gapsA rows c)) g = hiG g := fun g hg => by
    have hgm := t1 g hg
    obtain ⟨c1, c2, c3, c4⟩ := hcov g hgm
    have c4 : covO (stT (gapsA rows c)) g ∈ (tkG (gapsA rows c)).map hiG := c4
    obtain ⟨g', hg', e⟩ := List.mem_map.mp c4
    by_cases eq : g' = g
    · rw [← e, eq]
    · have hle' : ∀ g ∈ gapsA rows c, loG g ≤ hiG g := hle
      have hpw : ∀ a ∈ tkG (gapsA rows c), ∀ b ∈ tkG (gapsA rows c), a ≠ b → hiG a < loG b ∨ hiG b < loG a := fun a ha b hb ne => by
        obtain ⟨i, hi, ea⟩ := List.getElem_of_mem ha
        obtain ⟨j, hj, eb⟩ := List.getElem_of_mem hb
        have hij : i ≠ j := fun z => by
          subst z
          exact ne (ea.symm.trans eb)
        rcases Nat.lt_or_gt_of_ne hij with h | h
        · have := List.pairwise_iff_getElem.mp t2 i j hi hj h
          rw [ea, eb] at this
          exact .inl this
        · have := List.pairwise_iff_getElem.mp t2 j i hj hi h
          rw [ea, eb] at this
          exact .inr this
      have := hle' g' (t1 g' hg')
      rcases hpw g' hg' g hg eq with h | h
      · omega
      · omega
  generalize hgs : gapsA rows c = gs at *
  generalize hTT : stT gs = T at *
  have hTlt : ∀ k ∈ T, 0 ≤ k ∧ k < (c.length : Int) := fun k hk => idxI_mem.mp (m2.subset hk)
  have hpos : ∀ g ∈ gs, g.2.1 ≤ g.2.2.1 ∧ ∃ v, getC rows g.1 = some v ∧ g.2.2.1 ≤ v := fun g hg => by
    rcases mem_gaps2.mp (hgs ▸ hg) with ⟨i, r, e, h1, rfl⟩ | ⟨p, hp, h1, rfl⟩
    · obtain ⟨_, _, o3, o4⟩ := okc.1 r (List.mem_of_getElem? e)
      have o4 : r.2.2 ≤ (getC rows r.1).getD 0 := o4
      obtain ⟨q, hq, e2⟩ := List.mem_map.mp (okC_in okc r (List.mem_of_getElem? e))
      have hv : getC rows r.1 = some q.2 := by rw [← e2]; exact getC_mem nd hq
      rw [hv] at o4
      have o4 : r.2.2 ≤ q.2 := o4
      refine ⟨?_, q.2, hv, ?_⟩
      · show (stAt c i r.1).1 + 1 ≤ r.2.1 - 1
        omega
      · show r.2.1 - 1 ≤ q.2
        omega
    · refine ⟨?_, p.2, getC_mem nd hp, Int.le_refl _⟩
      show (stAt c c.length p.1).1 + 1 ≤ p.2
      omega
  have hcount : ∀ n : Nat, ((T.filter fun k => decide (k < (n : Int))).length : Int) + (if (filG gs T (n : Int)).isEmpty = true then 0 else 1) = ((T.filter fun k => decide (k < ((n + 1 : Nat) : Int))).length : Int) := fun n => by
    have h1 := cnt_lt (n : Int) T m1
    have e : ((n + 1 : Nat) : Int) = (n : Int) + 1 := by omega
    rw [e, h1]
    congr 1
    by_cases z : (n : Int) ∈ T
    · rw [if_pos z, if_neg]
      intro q
      have z2 : (n : Int) ∈ stT gs := by rw [hTT]; exact z
      obtain ⟨g, hg, eg⟩ := List.mem_map.mp z2
      have hgm := t1 g hg
      have := hself g hg
      have hm : g ∈ filG gs T (n : Int) := List.mem_filter.mpr ⟨hgm, decide_eq_true (by rw [(hcov g hgm).1, this, eg])⟩
      rw [List.isEmpty_iff.mp q] at hm
      cases hm
    · rw [if_neg z, if_pos]
      refine List.isEmpty_iff.mpr (List.eq_nil_iff_forall_not_mem.mpr fun g hg => ?_)
      obtain ⟨f1, f2⟩ := List.mem_filter.mp hg
      have f2 := of_decide_eq_true f2
      obtain ⟨c1, _, _, c4⟩ := hcov g f1
      rw [c1] at f2
      rw [Option.some.inj f2] at c4
      exact z c4
  have main : ∀ n, n ≤ c.length → ∃ t, Sim rows ⟨zerC rows, [], [], 0, 0⟩ (schDd gs T c n) t ∧ t.pg = c.take n ∧ t.cp = [] ∧ 0 ≤ t.mx ∧ t.mx ≤ 1 ∧ t.ov = ((T.filter fun k => decide (k < (n : Int))).length : Int) ∧ ∀ p ∈ rows, ∃ s, getC t.S p.1 = some s ∧ (∀ g ∈ gs, g.1 = p.1 → Act g n → s = if covO T g < (n : Int) then g.2.2.1 else g.2.1 - 1) ∧ ((∀ g ∈ gs, g.1 = p.1 → ¬ Act g n) → s = (stAt c n p.1).1) := fun n => by
    induction n with
    | zero =>
      intro _
      refine ⟨_, .nil _, rfl, rfl, Int.le_refl _, (by show (0 : Int) ≤ 1; decide), ?_, fun p hp => ⟨0, ?_, fun g hg ez ha => ?_, fun _ => rfl⟩⟩
      · rw [List.filter_eq_nil_iff.mpr fun k hk => by have := (hTlt k hk).1; simp; omega]
        rfl
      · have : (p.1, (0 : Int)) ∈ zerC rows := List.mem_map.mpr ⟨p, hp, rfl⟩
        exact getC_mem (by rw [zerC_keys]; exact nd) this
      · have e := act_st (hgs ▸ hg) ha
        have e1 : (0 : Int) = g.2.1 - 1 := congrArg Prod.fst e
        have hc := (hcov g hg).2.1
        have h0 := (gap_bds g (hgs ▸ hg)).1
        have h0 : 0 ≤ loG g := h0
        rw [if_neg (by show ¬ covO T g < ((0 : Nat) : Int); omega)]
        exact e1
    | succ n ih =>
      intro hn
      obtain ⟨t, s1, s2, s3, s4, s5, s6, s7⟩ := ih (by omega)
      have hr : c[n]? = some c[n] := List.getElem?_eq_getElem (by omega)
      have hrm : c[n] ∈ c := List.getElem_mem (by omega)
      obtain ⟨o1, o2, o3, o4⟩ := okc.1 _ hrm
      have o4 : c[n].2.2 ≤ (getC rows c[n].1).getD 0 := o4
      have hlast : ∀ l, (c.take n).getLast? = some l → l.1 ≠ c[n].1 := fun l hl => by
        have hc : c = (c.take n ++ [c[n]]) ++ c.drop (n + 1) := by
          rw [List.append_assoc]
          show c = c.take n ++ (c[n] :: c.drop (n + 1))
          rw [← List.drop_eq_getElem_cons (by omega), List.take_append_drop]
        have ap : App (c.take n ++ [c[n]]) := by
          refine app_take (b := c.drop (n + 1)) ?_
          rw [← hc]
          exact app (List.ne_nil_of_mem hrm)
        exact (App_snoc.mp ap).2.2.2 l hl
      obtain ⟨pw, hpw, ew⟩ := List.mem_map.mp (okC_in okc _ hrm)
      have hvw : getC rows c[n].1 = some pw.2 := by rw [← ew]; exact getC_mem nd hpw
      rw [hvw] at o4
      have o4 : c[n].2.2 ≤ pw.2 := o4
      have hst := asc n _ hr
      generalize hrr : c[n] = r at *
      -- what the run's writer has saved
      have hs0 : getC t.S r.1 = some (r.2.1 - 1) := by
        obtain ⟨s, a1, a2, a3⟩ := s7 pw hpw
        rw [ew] at a1 a2 a3
        rw [a1]
        by_cases hx : ∃ g ∈ gs, g.1 = r.1 ∧ Act g n
        · obtain ⟨g, hg, ez, ha⟩ := hx
          have hc := hcov g hg
          have hnin : hiG g + 1 = (n : Int) := by
            have h1 := ha.1
            have h2 := ha.2
            by_cases q : (n : Int) ≤ hiG g
            · exact absurd ez.symm (act_not (hgs ▸ hg) hr h1 q)
            · omega
          have := (act_end (hgs ▸ hg) hr hnin).2
          rw [a2 g hg ez ha, if_pos (by omega)]
          congr 1
          omega
        · have hx2 : ∀ g ∈ gs, g.1 = r.1 → ¬ Act g n := fun g hg ez ha => hx ⟨g, hg, ez, ha⟩
          rw [a3 hx2]
          by_cases q : (stAt c n r.1).1 + 1 < r.2.1
          · obtain ⟨g, hg, ha, ez⟩ := act_ex (cs := rows) hr q
            exact absurd ha (hx2 g (hgs ▸ hg) ez)
          · congr 1
            have := hst.1
            omega
      have hfm : ∀ g ∈ filG gs T (n : Int), g ∈ gs ∧ covO T g = (n : Int) ∧ Act g n := fun g hg => by
        obtain ⟨f1, f2⟩ := List.mem_filter.mp hg
        have f2 := of_decide_eq_true f2
        obtain ⟨c1, c2, c3, _⟩ := hcov g f1
        rw [c1] at f2
        have e := Option.some.inj f2
        exact ⟨f1, e, by omega, by omega⟩
      have hpair : (filG gs T (n : Int)).Pairwise (fun a b => a.1 ≠ b.1) := by
        have h1 : (filG gs T (n : Int)).Nodup := gnd.sublist List.filter_sublist
        refine List.Pairwise.imp_of_mem (fun {a b} ha hb hne ez => ?_) h1
        exact hne (act_one nd (hgs ▸ (hfm a ha).1) (hgs ▸ (hfm b hb).1) ez (hfm a ha).2.2 (hfm b hb).2.2)
      obtain ⟨t', b1, b2, b3, b4, b5, b6, b7, b8, b9⟩ := sim_blk (rows := rows) (G := filG gs T (n : Int)) (r := r) (t := t) (v := pw.2) hvw hs0 o3 o4 s3 s4 s5 (fun l hl => hlast l (by rw [← s2]; exact hl)) hpair (fun g hg => by
        obtain ⟨f1, f2, f3⟩ := hfm g hg
        obtain ⟨p, hp, ep⟩ := hnames g f1
        obtain ⟨s, a1, a2, _⟩ := s7 p hp
        rw [ep] at a1 a2
        exact ⟨by rw [a1, a2 g f1 rfl f3, if_neg (by omega)], hpos g f1⟩) (fun g hg => by
        obtain ⟨f1, f2, f3⟩ := hfm g hg
        obtain ⟨_, c2, c3, _⟩ := hcov g f1
        exact act_not (hgs ▸ f1) hr (by omega) (by omega))
      refine ⟨t', ?_, ?_, b2, b3, b4, ?_, fun p hp => ?_⟩
      · rw [schDd_succ hr]
        exact s1.app b1
      · rw [b5, s2, List.take_add_one, hr]
        rfl
      · rw [b6, s6]
        exact hcount n
      · obtain ⟨s, a1, a2, a3⟩ := s7 p hp
        by_cases ez : p.1 = r.1
        · refine ⟨r.2.2, by rw [ez]; exact b7, fun g hg eg ha => ?_, fun _ => ?_⟩
          · have e := act_st (hgs ▸ hg) ha
            rw [eg, ez, stAt_succ hr, if_pos rfl] at e
            have e1 : r.2.2 = g.2.1 - 1 := congrArg Prod.fst e
            have e2 : (n : Int) = loG g - 1 := congrArg Prod.snd e
            have := (hcov g hg).2.1
            rw [if_neg (by omega)]
            exact e1
          · rw [ez, stAt_succ hr, if_pos rfl]
        · have ez' : ¬ r.1 = p.1 := fun q => ez q.symm
          by_cases hin : ∃ g ∈ filG gs T (n : Int), g.1 = p.1
          · obtain ⟨g0, hg0, eg0⟩ := hin
            obtain ⟨f1, f2, f3⟩ := hfm g0 hg0
            obtain ⟨_, c2, c3, _⟩ := hcov g0 f1
            have act' : Act g0 (n + 1) := ⟨by have := f3.1; omega, by omega⟩
            refine ⟨g0.2.2.1, by rw [← eg0]; exact b8 g0 hg0, fun g hg eg ha => ?_, fun hno => absurd act' (hno g0 f1 eg0)⟩
            have : g = g0 := act_one nd (hgs ▸ hg) (hgs ▸ f1) (eg.trans eg0.symm) ha act'
            rw [this, if_pos (by omega)]
          · have hz2 : ∀ g ∈ filG gs T (n : Int), g.1 ≠ p.1 := fun g hg q => hin ⟨g, hg, q⟩
            refine ⟨s, by rw [b9 p.1 ez hz2]; exact a1, fun g hg eg ha => ?_, fun hno => ?_⟩
            · have hlo : loG g ≤ (n : Int) := by
                have h1 := ha.1
                by_cases q : loG g = (n : Int) + 1
                · have e := act_st (hgs ▸ hg) ha
                  rw [eg, stAt_succ hr, if_neg ez'] at e
                  have e2 : (stAt c n p.1).2 = loG g - 1 := congrArg Prod.snd e
                  have := stAt_lt c p.1 n (by omega)
                  omega
                · omega
              have ha2 : Act g n := ⟨hlo, by have := ha.2; omega⟩
              rw [a2 g hg eg ha2]
              have hne : covO T g ≠ (n : Int) := fun q => hz2 g (List.mem_filter.mpr ⟨hg, decide_eq_true (by rw [(hcov g hg).1, q])⟩) eg
              by_cases q : covO T g < (n : Int)
              · rw [if_pos q, if_pos (by omega)]
              · rw [if_neg q, if_neg (by omega)]
            · rw [stAt_succ hr, if_neg ez']
              refine a3 fun g hg eg ha => ?_
              have h2 := ha.2
              by_cases q : (n : Int) ≤ hiG g
              · exact hno g hg eg ⟨by have := ha.1; omega, by omega⟩
              · exact ez' ((act_end (hgs ▸ hg) hr (by omega)).1.trans eg)
  obtain ⟨t, s1, s2, s3, s4, s5, s6, s7⟩ := main c.length (Nat.le_refl _)
  refine ⟨t, s1, by rw [s2, List.take_length], s3, s4, s5, ?_, fun p hp => ?_⟩
  · rw [s6, List.filter_eq_self.mpr fun k hk => decide_eq_true (hTlt k hk).2]
  · obtain ⟨s, a1, a2, a3⟩ := s7 p hp
    rw [a1]
    by_cases hx : ∃ g ∈ gs, g.1 = p.1 ∧ Act g c.length
    · obtain ⟨g, hg, ez, ha⟩ := hx
      have hh : hiG g + 1 = (c.length : Int) := by
        have := (gap_bds g (hgs ▸ hg)).2.2
        have this : hiG g < (c.length : Int) := this
        have := ha.2
        omega
      have := act_tail nd (hgs ▸ hg) hh
      rw [ez, getC_mem nd hp] at this
      have := (hcov g hg).2.2.1
      rw [a2 g hg ez ha, if_pos (by omega)]
      symm
      assumption
    · have hx2 : ∀ g ∈ gs, g.1 = p.1 → ¬ Act g c.length := fun g hg ez ha => hx ⟨g, hg, ez, ha⟩
      rw [a3 hx2]
      by_cases q : (stAt c c.length p.1).1 < p.2
      · obtain ⟨g, hg, ha, ez⟩ := act_exT (cs := rows) hp q
        exact absurd ha (hx2 g (hgs ▸ hg) ez)
      · have h1 : ∀ i, i ≤ c.length → (stAt c i p.1).1 ≤ p.2 := fun i => by
          induction i with
          | zero => exact fun _ => (okr.2.2.2 p hp).2.1
          | succ i ih =>
            intro hi
            have hr : c[i]? = some c[i] := List.getElem?_eq_getElem (by omega)
            rw [stAt_succ hr]
            by_cases ez : c[i].1 = p.1
            · rw [if_pos ez]
              obtain ⟨_, _, _, o4⟩ := okc.1 _ (List.getElem_mem (show i < c.length by omega))
              have o4 : c[i].2.2 ≤ (getC rows c[i].1).getD 0 := o4
              rw [ez, getC_mem nd hp] at o4
              exact o4
            · rw [if_neg ez]
              exact ih (by omega)
        have := h1 c.length (Nat.le_refl _)
        congr 1
        omega
/-- what the desk keeps to -/
structure Good (rows : Cnt) (N : Nat) (t : Dk) : Prop where
  keys : t.S.map (·.1) = rows.map (·.1)
  pgn : ∀ x ∈ t.pg, okName x.1 = true
  cpn : ∀ e ∈ t.cp, ∀ x ∈ e.2, okName x.1 = true
  pgl : t.pg.length ≤ N
  cpl : ∀ e ∈ t.cp, e.2.length ≤ N
theorem with_mem {c : List Y.Run} {r x : Y.Run} (h : x ∈ withRun c r) : x.1 = r.1 ∨ x ∈ c := by
  unfold withRun at h
  split at h
  · split at h
    · rcases List.mem_append.mp h with h | h
      · exact .inr (List.dropLast_subset _ h)
      · rw [List.mem_singleton.mp h]
        exact .inl rfl
    · rcases List.mem_append.mp h with h | h
      · exact .inr h
      · rw [List.mem_singleton.mp h]
        exact .inl rfl
  · rcases List.mem_append.mp h with h | h
    · exact .inr h
    · rw [List.mem_singleton.mp h]
      exact .inl rfl
theorem with_len (c : List Y.Run) (r : Y.Run) : (withRun c r).length ≤ c.length + 1 := by
  unfold withRun
  split
  · split
    · rw [List.length_append, List.length_dropLast]
      show _ + 1 ≤ _
      omega
    · rw [List.length_append]
      exact Nat.le_refl _
  · rw [List.length_append]
    exact Nat.le_refl _
theorem put_keys {S : Cnt} {z : Str} {s v : Int} (h : getC S z = some s) : (putC S z v).map (·.1) = S.map (·.1) := by
  obtain ⟨p, hp, e, _⟩ := getC_some h
  unfold putC
  rw [if_pos (List.any_eq_true.mpr ⟨p, hp, decide_eq_true e⟩), List.map_map]
  apply List.map_congr_left
  intro q _
  show (if q.1 = z then (q.1, v) else q).1 = q.1
  split <;> rfl
theorem step_good {rows : Cnt} {N : Nat} {t t' : Dk} {d : Dd} (hn : ∀ p ∈ rows, okName p.1 = true) (g : Good rows N t) (h : StepOk rows t d t') : Good rows (N + 1) t' := by
  have nm : ∀ {z : Str} {v : Int}, getC rows z = some v → okName z = true := fun {z v} e => by
    obtain ⟨p, hp, e1, _⟩ := getC_some e
    rw [← e1]
    exact hn p hp
  obtain ⟨g1, g2, g3, g4, g5⟩ := g
  cases h with
  | r h1 h2 h3 h4 =>
    refine ⟨g1, g2, fun e he => ?_, Nat.le_succ_of_le g4, fun e he => ?_⟩
    · rw [List.mem_singleton.mp he]
      exact g2
    · rw [List.mem_singleton.mp he]
      exact Nat.le_succ_of_le g4
  | @s z v s0 p h1 h2 h3 h4 =>
    have hp : (z, p) ∈ t.cp := by rw [h4]; exact List.mem_cons_self
    refine ⟨(put_keys h2).trans g1, fun x hx => ?_, fun e he => (nomatch he), ?_, fun e he => (nomatch he)⟩
    · rcases with_mem hx with e | hx
      · rw [e]
        exact nm h1
      · exact g3 _ hp x hx
    · have := with_len p (z, s0 + 1, s0 + 1)
      have := g5 _ hp
      show (withRun p (z, s0 + 1, s0 + 1)).length ≤ _
      have this : p.length ≤ N := this
      omega
  | @a z v s0 n h1 h2 h3 h4 h5 =>
    refine ⟨(put_keys h2).trans g1, fun x hx => ?_, g3, ?_, fun e he => Nat.le_succ_of_le (g5 e he)⟩
    · rcases with_mem hx with e | hx
      · rw [e]
        exact nm h1
      · exact g2 x hx
    · have := with_len t.pg (z, s0 + 1, s0 + n)
      show (withRun t.pg (z, s0 + 1, s0 + n)).length ≤ _
      omega

end Pg

namespace Pg
open PySem L2 Y PyProof.Rows

local macro_rules | `(tactic| walk_at "vis") => `(tactic| first | exact Or.inl rfl | exact Or.inr (Or.inl rfl) | exact Or.inr (Or.inr rfl))
local macro_rules | `(tactic| walk_at "e1") => `(tactic| first | walk_at "nm" | refine de_int ?_ | refine de_add ?_ | refine de_sub ?_ | refine de_str ?_ | refine de_non ?_ | refine de_bl ?_)
local macro_rules | `(tactic| walk_at "go") => `(tactic| repeat (first | ((with_reducible show DE _ _ _ _ _ _); walk_at "e1") | ((with_reducible show DA _ _ _ _ _ _); refine da_cons ?_) | refine ⟨_, _, rfl, rfl, ?_⟩))

theorem fitXs_map {α : Type} (f : α → PyData) : ∀ c : List α, (∀ x ∈ c, fitX (f x) = true) → fitXs (c.map f) = true
  | [], _ => by simp [fitXs]
  | x :: r, h => by rw [List.map_cons]; simp only [fitXs, h x List.mem_cons_self, fitXs_map f r fun y hy => h y (List.mem_cons_of_mem _ hy), Bool.and_self]
theorem small_name {z : Str} (h : okName z = true) : small z = true := by
  unfold okName at h
  simp only [Bool.and_eq_true, decide_eq_true_eq] at h
  have h1 : Txt.isascii z = true := h.2.2.1
  have h2 := h.2.1
  unfold small
  rw [h1, decide_eq_true (by omega)]
  rfl
theorem fit_run {r : Y.Run} (h : okRun none r) : fitX (eRun r) = true := by
  obtain ⟨o1, o2, o3, o4⟩ := h
  have o4 : r.2.2 ≤ 10 ^ 30 := o4
  unfold eRun
  simp only [fitX, fitXs, small_name o1, Bool.true_and, Bool.and_true, Bool.and_eq_true, decide_eq_true_eq]
  omega
theorem wtXs_map {α : Type} (f : α → PyData) (k : Nat) : ∀ c : List α, (∀ x, wtX (f x) = k) → wtXs (c.map f) = k * c.length
  | [], _ => by simp [wtXs]
  | x :: r, h => by rw [List.map_cons]; simp only [wtXs, h x, wtXs_map f k r h, List.length_cons]; rw [Nat.mul_add, Nat.mul_one, Nat.add_comm]
theorem wt_run (r : Y.Run) : wtX (eRun r) = 4 := by unfold eRun; simp [wtX, wtXs]
theorem fit_txt {c : List Y.Run} (tup : Bool) (h : okC none c) : fitX (txt tup c) = true := by
  have := fitXs_map eRun c fun r hr => fit_run (h.1 r hr)
  unfold txt
  split <;> (simp only [fitX]; exact this)
theorem wt_txt (tup : Bool) (c : List Y.Run) : wtX (txt tup c) = 1 + 4 * c.length := by
  have := wtXs_map eRun 4 c wt_run
  unfold txt
  split <;> (simp only [wtX]; rw [this])
theorem depth_txt (tup : Bool) (c : List Y.Run) : (txt tup c).depth ≤ 2 := by
  have := depthAll_map eRun 1 c fun r _ => Nat.le_refl 1
  unfold txt
  split <;> (show PyData.depthAll _ + 1 ≤ 2; omega)
theorem fit_cnt {cs : Cnt} (h : okCnt cs) : fitX (eCnt cs) = true := by
  have : ∀ l : Cnt, (∀ p ∈ l, okName p.1 = true ∧ 0 ≤ p.2 ∧ p.2 ≤ 10 ^ 30) → fitXk (encK (kdC l)) = true := fun l => by
    induction l with
    | nil => intro _; rfl
    | cons p r ih =>
      intro h
      obtain ⟨o1, o2, o3⟩ := h p List.mem_cons_self
      have e : encK (kdC (p :: r)) = (.str p.1, .int p.2) :: encK (kdC r) := rfl
      rw [e]
      simp only [fitXk, fitX, small_name o1, ih fun x hx => h x (List.mem_cons_of_mem _ hx), Bool.true_and, Bool.and_true, decide_eq_true_eq]
      omega
  unfold eCnt
  simp only [fitX]
  exact this cs h.2.2.2
theorem wt_cnt (cs : Cnt) : wtX (eCnt cs) = 1 + 2 * cs.length := by
  have : ∀ l : Cnt, wtXk (encK (kdC l)) = 2 * l.length := fun l => by
    induction l with
    | nil => rfl
    | cons p r ih =>
      have e : encK (kdC (p :: r)) = (.str p.1, .int p.2) :: encK (kdC r) := rfl
      rw [e]
      simp only [wtXk, wtX, ih, List.length_cons]
      omega
  unfold eCnt
  simp only [wtX, this]
theorem depth_cnt (cs : Cnt) : (eCnt cs).depth ≤ 1 := by
  have : ∀ l : Cnt, PyData.depthKv (encK (kdC l)) = 0 := fun l => by
    induction l with
    | nil => rfl
    | cons p r ih =>
      have e : encK (kdC (p :: r)) = (.str p.1, .int p.2) :: encK (kdC r) := rfl
      rw [e]
      simp only [PyData.depthKv, PyData.depth, ih]
      rfl
  unfold eCnt
  simp only [PyData.depth, this]
  omega
/-- [line counts, content] -/
def pairD (rows : Cnt) (tup : Bool) (c : List Y.Run) : PyData := .list [eCnt rows, txt tup c]
theorem fit_pair {rows : Cnt} {tup : Bool} {c : List Y.Run} (h1 : okCnt rows) (h2 : okC none c) : fitX (pairD rows tup c) = true := by
  unfold pairD
  simp only [fitX, fitXs, fit_cnt h1, fit_txt tup h2, Bool.and_self]
theorem wt_pair (rows : Cnt) (tup : Bool) (c : List Y.Run) : wtX (pairD rows tup c) = 3 + 2 * rows.length + 4 * c.length := by
  unfold pairD
  simp only [wtX, wtXs, wt_cnt, wt_txt]
  omega
theorem depth_pair (rows : Cnt) (tup : Bool) (c : List Y.Run) : (pairD rows tup c).depth ≤ 60 := by
  have h1 := depth_cnt rows
  have h2 := depth_txt tup c
  unfold pairD
  simp only [PyData.depth, PyData.depthAll]
  omega

theorem st_nn {cs : Cnt} {c : List Y.Run} (ok : okC (some cs) c) (z : Str) : ∀ i, i ≤ c.length → 0 ≤ (stAt c i z).1
  | 0, _ => Int.le_refl 0
  | i + 1, h => by
    have hi : c[i]? = some c[i] := List.getElem?_eq_getElem (by omega)
    obtain ⟨_, o2, o3, _⟩ := ok.1 _ (List.getElem_mem (show i < c.length by omega))
    rw [stAt_succ hi]
    split
    · show 0 ≤ c[i].2.2
      omega
    · exact st_nn ok z i (by omega)
theorem gap_num {cs : Cnt} {c : List Y.Run} (okc : okCnt cs) (ok : okC (some cs) c) : ∀ g ∈ gapsA cs c, 0 ≤ g.2.1 ∧ g.2.1 ≤ 10 ^ 30 ∧ 0 ≤ g.2.2.1 ∧ g.2.2.1 ≤ 10 ^ 30 := fun g hg => by
  have hm : g ∈ rawAll cs c := (List.mergeSort_perm _ _).mem_iff.mp hg
  have hv : ∀ z, (getC cs z).getD 0 ≤ 10 ^ 30 := fun z => by
    cases e : getC cs z with
    | none => decide
    | some v =>
      obtain ⟨p, hp, _, e2⟩ := getC_some e
      rw [← e2]
      exact (okc.2.2.2 p hp).2.2
  unfold rawAll at hm
  rcases List.mem_append.mp hm with hm | hm
  · unfold rawA at hm
    obtain ⟨i, hi, hm⟩ := List.mem_flatMap.mp hm
    have hi := List.mem_range.mp hi
    obtain ⟨_, o2, o3, o4⟩ := ok.1 _ (List.getElem_mem hi)
    have o4 : c[i].2.2 ≤ (getC cs c[i].1).getD 0 := o4
    have h1 := st_nn ok c[i].1 i (by omega)
    have h2 := hv c[i].1
    unfold emA at hm
    rw [List.getElem?_eq_getElem hi] at hm
    dsimp only at hm
    split at hm
    · rw [List.mem_singleton.mp hm]
      show 0 ≤ (stAt c i c[i].1).1 + 1 ∧ (stAt c i c[i].1).1 + 1 ≤ 10 ^ 30 ∧ 0 ≤ c[i].2.1 - 1 ∧ c[i].2.1 - 1 ≤ 10 ^ 30
      omega
    · cases hm
  · obtain ⟨p, hp, hm⟩ := List.mem_flatMap.mp hm
    have h1 := st_nn ok p.1 c.length (Nat.le_refl _)
    have h2 := (okc.2.2.2 p hp).2
    unfold tlA at hm
    split at hm
    · rw [List.mem_singleton.mp hm]
      show 0 ≤ (stAt c c.length p.1).1 + 1 ∧ (stAt c c.length p.1).1 + 1 ≤ 10 ^ 30 ∧ 0 ≤ p.2 ∧ p.2 ≤ 10 ^ 30
      omega
    · cases hm
theorem small_int {i : Int} (h0 : 0 ≤ i) (h1 : i ≤ 10 ^ 30) : decide (i.natAbs < 10 ^ 45) = true := by
  refine decide_eq_true ?_
  have : (10 : Int) ^ 30 < 10 ^ 45 := by decide
  have h2 : (i.natAbs : Int) < ((10 ^ 45 : Nat) : Int) := by
    rw [Int.natAbs_of_nonneg h0]
    have : ((10 ^ 45 : Nat) : Int) = 10 ^ 45 := by decide
    omega
  omega


def isApp : Dd → Bool
  | .a _ _ => true
  | _ => false
theorem split_len {gs : List Gap} {f : Gap → Option Int} (n : Nat) : (gs.filter fun g => match f g with | some k => decide (0 ≤ k ∧ k < ((n + 1 : Nat) : Int)) | none => false).length = (gs.filter fun g => match f g with | some k => decide (0 ≤ k ∧ k < (n : Int)) | none => false).length + (gs.filter fun g => decide (f g = some (n : Int))).length := by
  induction gs with
  | nil => rfl
  | cons g r ih =>
    rw [List.filter_cons, List.filter_cons, List.filter_cons]
    cases e : f g with
    | none =>
      rw [if_neg Bool.false_ne_true, if_neg Bool.false_ne_true, if_neg (by simp)]
      exact ih
    | some k =>
      dsimp only
      by_cases e1 : k = (n : Int)
      · subst e1
        rw [if_pos (decide_eq_true (by omega)), if_neg (by simp), if_pos (decide_eq_true rfl), List.length_cons, List.length_cons, ih]
        omega
      · by_cases e2 : 0 ≤ k ∧ k < (n : Int)
        · rw [if_pos (decide_eq_true (by omega)), if_pos (decide_eq_true e2), if_neg (by simp; exact e1), List.length_cons, List.length_cons, ih]
          omega
        · rw [if_neg (by simp; omega), if_neg (by simp; omega), if_neg (by simp; exact e1)]
          exact ih
theorem schd_len (gs : List Gap) (T : List Int) (c : List Y.Run) : ∀ n, n ≤ c.length → (schd (lkG gs T) c n).length ≤ 3 * n + (gs.filter fun g => match (covT T g).head? with | some k => decide (0 ≤ k ∧ k < (n : Int)) | none => false).length
  | 0, _ => Nat.zero_le _
  | n + 1, h => by
    have ih := schd_len gs T c n (by omega)
    have hn : c[n]? = some c[n] := List.getElem?_eq_getElem (by omega)
    rw [schd_succ hn, List.length_append, split_len (f := fun g => (covT T g).head?)]
    have := blkS_len (lkG gs T (n : Int)) c[n]
    have e : (lkG gs T (n : Int)).length = (gs.filter fun g => decide ((covT T g).head? = some (n : Int))).length := by
      unfold lkG
      rw [List.length_map]
    omega
theorem schG_len (cs : Cnt) (c : List Y.Run) : (schG cs c).length ≤ 3 * c.length + (gapsA cs c).length := by
  have h1 := schd_len (gapsA cs c) (stT (gapsA cs c)) c c.length (Nat.le_refl _)
  have h2 := List.length_filter_le (fun g => match (covT (stT (gapsA cs c)) g).head? with | some k => decide (0 ≤ k ∧ k < (c.length : Int)) | none => false) (gapsA cs c)
  unfold schG
  omega
theorem schG_all {P : PyData → Prop} {cs : Cnt} {c : List Y.Run} (h1 : ∀ r ∈ c, P (dRead r.1) ∧ P (dSave r.1) ∧ P (dApp r.1 (r.2.2 - r.2.1 + 1)) ∧ P (dApp r.1 (r.2.2 - r.2.1))) (h2 : ∀ g ∈ gapsA cs c, P (dApp g.1 (g.2.2.1 - g.2.1 + 1))) : ∀ d ∈ schG cs c, P d := fun d hd => by
  obtain ⟨i, _, hm⟩ := List.mem_flatMap.mp hd
  cases e : c[i]? with
  | none => rw [e] at hm; cases hm
  | some r =>
    rw [e] at hm
    obtain ⟨a1, a2, a3, a4⟩ := h1 r (List.mem_of_getElem? e)
    have hm : d ∈ blkS (lkG (gapsA cs c) (stT (gapsA cs c)) (i : Int)) r := hm
    unfold blkS at hm
    split at hm
    · rw [List.mem_singleton.mp hm]
      exact a3
    · rcases List.mem_cons.mp hm with rfl | hm
      · exact a1
      rcases List.mem_append.mp hm with hm | hm
      · obtain ⟨g, hg, rfl⟩ := List.mem_map.mp hm
        exact h2 g (List.mem_filter.mp hg).1
      rcases List.mem_cons.mp hm with rfl | hm
      · exact a2
      split at hm
      · rw [List.mem_singleton.mp hm]
        exact a4
      · cases hm
theorem fit_dApp {z : Str} {n : Int} (hz : okName z = true) (h0 : 0 ≤ n) (h1 : n ≤ 10 ^ 30 + 1) : fitX (dApp z n) = true := by
  show (small "append" && (small z && (decide (n.natAbs < 10 ^ 45) && true))) = true
  rw [small_name hz, decide_eq_true (by have : (10 : Int) ^ 30 + 1 < 10 ^ 45 := by decide
                                        have e : ((10 ^ 45 : Nat) : Int) = 10 ^ 45 := by decide
                                        omega)]
  decide +kernel
theorem fitXs_of2 {l : List PyData} : (∀ d ∈ l, fitX d = true) → fitX (.list l) = true := fun h => by
  have := fitXs_map (fun x : PyData => x) l h
  rw [List.map_id'] at this
  exact this
theorem fit_sch {cs : Cnt} {c : List Y.Run} (okc : okCnt cs) (ok : okC (some cs) c) (ok0 : okC none c) : fitX (.list (schG cs c)) = true := by
  refine fitXs_of2 (schG_all (fun r hr => ?_) fun g hg => ?_)
  · obtain ⟨o1, o2, o3, o4⟩ := ok0.1 r hr
    have o4 : r.2.2 ≤ 10 ^ 30 := o4
    refine ⟨?_, ?_, fit_dApp o1 (by omega) (by omega), fit_dApp o1 (by omega) (by omega)⟩
    · show (small "read" && (small r.1 && true)) = true
      rw [small_name o1]
      decide +kernel
    · show (small "save" && (small r.1 && true)) = true
      rw [small_name o1]
      decide +kernel
  · obtain ⟨a1, a2, a3, a4⟩ := gap_num okc ok g hg
    have n1 := gap_name okc (fun r hr => (ok.1 r hr).1) g hg
    by_cases e : g.2.1 ≤ g.2.2.1 + 1
    · exact fit_dApp n1 (by omega) (by omega)
    · show (small "append" && (small g.1 && (decide ((g.2.2.1 - g.2.1 + 1).natAbs < 10 ^ 45) && true))) = true
      rw [small_name n1, decide_eq_true (by have : (10 : Int) ^ 30 + 1 < 10 ^ 45 := by decide
                                            have e : ((10 ^ 45 : Nat) : Int) = 10 ^ 45 := by decide
                                            omega)]
      decide +kernel
theorem wt_sch {cs : Cnt} {c : List Y.Run} (hl : (schG cs c).length ≤ 1100) : wtX (.list (schG cs c)) ≤ 20000 := by
  have : ∀ l : List PyData, (∀ d ∈ l, wtX d ≤ 4) → wtXs l ≤ 4 * l.length := fun l => by
    induction l with
    | nil => exact fun _ => Nat.le_refl 0
    | cons d r ih =>
      intro h
      have := h d List.mem_cons_self
      have := ih fun x hx => h x (List.mem_cons_of_mem _ hx)
      simp only [wtXs, List.length_cons]
      omega
  have h := this (schG cs c) (schG_all (P := fun d => wtX d ≤ 4) (fun r _ => ⟨by simp [dRead, wtX, wtXs], by simp [dSave, wtX, wtXs], by simp [dApp, wtX, wtXs], by simp [dApp, wtX, wtXs]⟩) fun g _ => by simp [dApp, wtX, wtXs])
  show 1 + wtXs (schG cs c) ≤ _
  omega
theorem dep_sch (cs : Cnt) (c : List Y.Run) : (PyData.list (schG cs c)).depth ≤ 60 := by
  have h := depthAll_map (fun x : PyData => x) 5 (schG cs c) (schG_all (P := fun d => d.depth ≤ 5) (fun r _ => ⟨by simp [dRead, PyData.depth, PyData.depthAll], by simp [dSave, PyData.depth, PyData.depthAll], by simp [dApp, PyData.depth, PyData.depthAll], by simp [dApp, PyData.depth, PyData.depthAll]⟩) fun g _ => by simp [dApp, PyData.depth, PyData.depthAll])
  rw [List.map_id'] at h
  simp only [PyData.depth]
  omega
theorem schG_perm {cs cs' : Cnt} (h : cs'.Perm cs) (c : List Y.Run) : schG cs' c = schG cs c := by
  unfold schG
  rw [gapsA_perm h]
theorem hu65 {n : Nat} {A : Around} (h : Room n A) : A.units + 65 < cLine := by
  have := h.un
  omega
section
variable {P : Program} {w : World} {K : PySem.W.Frag} {mg : Str → Option Value} {base : Heap}

local macro_rules | `(tactic| walk_at "nm") => `(tactic| first | ((with_reducible refine de_name (x := "rows") (i := 0) (s := ?s) ?hN ?hv ?ht ?q ?hd ?hcd); (case hN => rfl); (case hv => walk_at "vis"); (case ht => rfl); (case hd => decide); (case hcd => decide)) | ((with_reducible refine de_name (x := "runs") (i := 1) (s := ?s) ?hN ?hv ?ht ?q ?hd ?hcd); (case hN => rfl); (case hv => walk_at "vis"); (case ht => rfl); (case hd => decide); (case hcd => decide)) | ((with_reducible refine de_name (x := "kept") (i := 2) (s := ?s) ?hN ?hv ?ht ?q ?hd ?hcd); (case hN => rfl); (case hv => walk_at "vis"); (case ht => rfl); (case hd => decide); (case hcd => decide)) | ((with_reducible refine de_name (x := "deeds") (i := 3) (s := ?s) ?hN ?hv ?ht ?q ?hd ?hcd); (case hN => rfl); (case hv => walk_at "vis"); (case ht => rfl); (case hd => decide); (case hcd => decide)) | ((with_reducible refine de_name (x := "desk") (i := 4) (s := ?s) ?hN ?hv ?ht ?q ?hd ?hcd); (case hN => rfl); (case hv => walk_at "vis"); (case ht => rfl); (case hd => decide); (case hcd => decide)) | ((with_reducible refine de_name (x := "deed") (i := 5) (s := ?s) ?hN ?hv ?ht ?q ?hd ?hcd); (case hN => rfl); (case hv => walk_at "vis"); (case ht => rfl); (case hd => decide); (case hcd => decide)) | ((with_reducible refine de_name (x := "told") (i := 6) (s := ?s) ?hN ?hv ?ht ?q ?hd ?hcd); (case hN => rfl); (case hv => walk_at "vis"); (case ht => rfl); (case hd => decide); (case hcd => decide)) | ((with_reducible refine de_name (x := "other") (i := 7) (s := ?s) ?hN ?hv ?ht ?q ?hd ?hcd); (case hN => rfl); (case hv => walk_at "vis"); (case ht => rfl); (case hd => decide); (case hcd => decide)) | ((with_reducible refine de_name (x := "name") (i := 8) (s := ?s) ?hN ?hv ?ht ?q ?hd ?hcd); (case hN => rfl); (case hv => walk_at "vis"); (case ht => rfl); (case hd => decide); (case hcd => decide)))


def R_right25 : Rr := fun L ss M Q => ∃ (rows : Cnt) (c : List Y.Run), NoDK L ∧ ss = [.d (eCnt rows), .d (.list (c.map eRun))] ∧ okCnt rows ∧ okC (some rows) c ∧ c.length ≤ 250 ∧ isNone (.d (finA rows c)) = true ∧ Q (.d (.bool true)) M
set_option maxHeartbeats 16000000 in
theorem ok_law_right (S : Sys base) (F : FunAt K mg "_law_right" s__law_right ["rows", "runs"]) (c1 : Cal P w K mg base "_law_begun" 1 ["rows"] R_begun) (c2 : Cal P w K mg base "_law_step" 3 ["desk", "rows", "deed"] R_step) (c3 : Cal P w K mg base "min_overwrites" 9 ["line_counts", "content"] R_mino) (c5 : Cal P w K mg base "schedule_with_min_overwrites" 9 ["line_counts", "content"] R_swm)
    (b1 : mg "isinstance" = none) (b2 : mg "tuple" = none) (b3 : mg "len" = none) (b4 : mg "sorted" = none) (b5 : mg "repr" = none) (b6 : mg "int" = none) (b9 : mg "dict" = none) : CalG P w K mg base "_law_right" 10 ["rows", "runs"] R_right25 := by
  refine calG_of F sc__law_right (fun _ ss _ _ ⟨rows, c, _, h, _⟩ => by rw [h]; rfl) (fun f cdv A outer s H E L us M Q hr noG h => ?_)
  obtain ⟨rows, c, hL, rfl, okr, okc, hl, hfin, fin⟩ := h
  have okc0 := okC_none okr okc
  have nd := okr.2.2.1
  have l12 : rows.length ≤ 12 := okr.2.1
  have tcm : ∀ M' : Cs, seqOf M' (.d (.list (c.map eRun))) = some (c.map sRun) := fun M' => by simp only [seqOf, List.map_map]; rfl
  have ltc : ∀ M' : Cs, LT M' (.d (.list (c.map eRun))) (c.map sRun) := fun M' => LT_txt M' false c
  have ltt : ∀ M' : Cs, LT M' (.d (.tuple (c.map eRun))) (c.map sRun) := fun M' => LT_txt M' true c
  have hgl := gapsA_lenT (cs := rows) (c := c)
  have nmc : ∀ r ∈ c, okName r.1 = true := fun r hr => (okc.1 r hr).1
  have hsl := schG_len rows c
  have hsl2 : (schG rows c).length ≤ 1100 := by omega
  have f1 := fit_sch okr okc okc0
  have w1 := wt_sch (cs := rows) (c := c) hsl2
  have d1 := dep_sch rows c
  obtain ⟨tE, sim, pgE, cpE, mx0, mx1, ovE, SE⟩ := sim_all okr okc hfin
  have hds : (schDd (gapsA rows c) (stT (gapsA rows c)) c c.length).map eDd = schG rows c := schDd_map _ _ c c.length (Nat.le_refl _)
  generalize schDd (gapsA rows c) (stT (gapsA rows c)) c c.length = ds at sim hds
  have hdl : ds.length = (schG rows c).length := by rw [← hds, List.length_map]
  -- kept
  refine db_cons (ds_set (i := 2) sc__law_right.nd rfl (.inl rfl) (de_callB (call_showX S noG hr.units) (by rfl) b5 bt_repr (da_cons (de_lstD (da_cons ?_)))))
  walk_at "nm"
  refine da_cons ?_
  walk_at "nm"
  refine da_nil ⟨[eCnt rows, .list (c.map eRun)], rfl, (by show 2 ≤ sizeLine; decide), da_nil (k_showX (d := pairD rows false c) (.d _) rfl (fit_pair okr okc0) (by rw [wt_pair]; omega) (depth_pair rows false c) ?_)⟩
  -- deeds
  refine db_cons (ds_set (i := 3) sc__law_right.nd rfl (.inl rfl) (de_callC (c5.up (by decide)) hr (by rfl) ?_))
  walk_at "go"
  refine da_nil ⟨rows, .d (.list (c.map eRun)), c, hL, rfl, okr, ltc M, okc, by omega, fun z => (by rw [hfin] at z; cases z), fun _ p3 M3 sub3 hp3 m3 => ?_⟩
  -- desk
  refine db_cons (ds_set (i := 4) sc__law_right.nd rfl (.inl rfl) (de_callC (c1.up (by decide)) hr (by rfl) ?_))
  walk_at "go"
  refine da_nil ⟨rows, hL, rfl, okr, fun d a0 a2 M4 sub4 hd h0 h2 dk4 => ?_⟩
  have m4 := sub4 _ _ m3
  have nd3 : p3 ≠ d ∧ p3 ≠ a0 ∧ p3 ≠ a2 := ⟨neC m3 hd, neC m3 h0, neC m3 h2⟩
  have sub4M := Sub.trans sub3 sub4
  have out3 : ∀ a cc, M a = some cc → a ≠ d ∧ a ≠ a0 ∧ a ≠ a2 := fun a cc h => ⟨neC (sub3 _ _ h) hd, neC (sub3 _ _ h) h0, neC (sub3 _ _ h) h2⟩
  rw [← hds, List.map_map] at m4
  refine db_consJ (fun τ' M' => ∃ y5, τ' = [some (.d (eCnt rows)), some (.d (.list (c.map eRun))), some (.d (.str (pairD rows false c).shown)), some (.c p3), some (.c d), y5, none, none, none] ∧ Sub M M' ∧ M' p3 = some (.l ((schG rows c).map .d)) ∧ DkAt M' d a0 a2 tE ∧ tE.S.map (·.1) = rows.map (·.1)) (ds_for PassesOwn.never rfl (di_seq ?_)) ?_
  · walk_at "nm"
    refine ⟨ds.map (Sl.d ∘ eDd), by simp only [seqOf, m4], ?_⟩
    refine ⟨fun i τ' M' => ∃ y5 t, τ' = [some (.d (eCnt rows)), some (.d (.list (c.map eRun))), some (.d (.str (pairD rows false c).shown)), some (.c p3), some (.c d), y5, none, none, none] ∧ Fr3 d a0 a2 M4 M' ∧ DkAt M' d a0 a2 t ∧ Sim rows t (ds.drop i) tE ∧ Good rows i t, ⟨none, _, rfl, Fr3.refl M4, dk4, sim, ⟨zerC_keys rows, fun _ h => (nomatch h), fun _ h => (nomatch h), Nat.le_refl _, fun _ h => (nomatch h)⟩⟩, ?_, ?_, ?_⟩
    · rintro i τ' M' ⟨_, _, _, fr, _⟩
      have := fr p3 _ nd3.1 nd3.2.1 nd3.2.2 m4
      simp only [seqOf, this]
    · rintro i y τ' M5 hi hy ⟨y5, t, rfl, fr5, dk5, sim5, good5⟩
      rw [List.length_map] at hi
      have hgi : ds[i]? = some ds[i] := List.getElem?_eq_getElem hi
      have hy' : y = .d (eDd ds[i]) := by
        rw [List.getElem?_map, hgi] at hy
        exact (Option.some.inj hy).symm
      subst hy'
      rw [List.drop_eq_getElem_cons hi] at sim5
      generalize ds[i] = dd at sim5
      cases sim5 with
      | @cons _ t1 _ _ _ st sim6 =>
      have good6 := step_good (fun p hp => (okr.2.2.2 p hp).1) good5 st
      have h3l : ∃ ls, eDd dd = .tuple ls ∧ ls.length = 2 + (if isApp dd = true then 1 else 0) ∧ ∃ w0 z0 rest, ls = .str w0 :: .str z0 :: rest ∧ decide (w0 = "append") = isApp dd := by
        cases dd with
        | r z => exact ⟨_, rfl, rfl, _, _, _, rfl, by show decide (("read" : Str) = "append") = false; decide +kernel⟩
        | s z => exact ⟨_, rfl, rfl, _, _, _, rfl, by show decide (("save" : Str) = "append") = false; decide +kernel⟩
        | a z n => exact ⟨_, rfl, rfl, _, _, _, rfl, by show decide (("append" : Str) = "append") = true; decide +kernel⟩
      obtain ⟨ls, el, ell, w0, z0, rest, els, ew⟩ := h3l
      have htE : isaTup (eDd dd) = true := by rw [el]; rfl
      refine dg_of (pg_name (i := 5) sc__law_right.nd rfl (.inl rfl)) (wg_name ?_)
      refine db_cons (ds_ifF (dt_or2 (dt_not (dt_val (de_callB call_isi (by rfl) b1 bt_isinstance (da_cons ?_))))) (db_nil ?_))
      · walk_at "nm"
        refine da_cons (de_type (by rfl) b2 bt_tuple (da_nil (k_isaTup ⟨_, rfl, fun z => ?_, fun _ => dt_cmp op_ne (de_callB call_len_seq (by rfl) b3 bt_len (da_cons ?_)) (by with_unfolding_all rfl)⟩)))
        · rw [htE] at z
          cases z
        walk_at "nm"
        refine da_nil (k_len (ss := ls.map .d) (by rw [el]; rfl) (de_add (de_int (de_callT call_int1 (by rfl) b6 bt_int (da_cons (de_cmp op_eq (de_ix ?_) (by with_unfolding_all rfl)))))))
        walk_at "nm"
        refine de_int ⟨ls.map .d, 0, dS w0, by rw [el]; rfl, rfl, by rw [els]; exact Y.atI_0 rfl, de_str (k_eqS (da_nil (k_intB ⟨_, _, rfl, rfl, k_neI ⟨_, rfl, ?_, rfl⟩⟩)))⟩
        rw [ew, List.length_map, ell]
        simp
        split <;> rfl
      refine db_cons (ds_if (dt_not (dt_val (de_callC (c2.up (by decide)) hr (by rfl) ?_))))
      walk_at "go"
      refine da_nil ⟨d, a0, a2, t, rows, dd, t1, rfl, dk5, st, good5.pgn, good5.cpn, by have := good5.pgl; omega, fun e he => by have := good5.cpl e he; omega, ?_, fun M6 fr6 dk6 => ⟨true, rfl, fun z => (nomatch z), fun _ => db_nil (db_nil ⟨_, t1, rfl, fr5.trans fr6, dk6, sim6, good6⟩)⟩⟩
      have := congrArg List.length good5.keys
      rw [List.length_map, List.length_map] at this
      omega
    · rintro τ' M5 ⟨y5, t, rfl, fr5, dk5, sim5, good5⟩
      rw [List.length_map, List.drop_length] at sim5
      cases sim5
      refine ⟨_, rfl, fun a cc h => ?_, ?_, dk5, good5.keys⟩
      · obtain ⟨n1, n2, n3⟩ := out3 a cc h
        exact fr5 a cc n1 n2 n3 (sub4M _ _ h)
      · rw [fr5 p3 _ nd3.1 nd3.2.1 nd3.2.2 m4, ← hds, List.map_map]
  rintro τ' M5 ⟨y5, rfl, sub5, m5, dk5, keysE⟩
  obtain ⟨S0, pg0, cp0, ov0, mx0'⟩ := tE
  dsimp only at pgE cpE mx0 mx1 ovE SE keysE
  subst pgE cpE ovE
  obtain ⟨md, ms, mp, n0, n2, n02⟩ := id dk5
  have hd5 : seqOf M5 (.c d) = some [.c a0, .d (.list (pg0.map eRun)), .c a2, dI ((stT (gapsA rows pg0)).length : Int), dI mx0'] := by simp only [seqOf, md]
  clear dk4 m4 sub4 sub3 m3 sim h0 h2 hd nd3 out3
  -- the desk
  refine db_cons (ds_if (dt_imp (QB2 := fun k M' => k = false ∧ Sub M5 M') (dt_or4 (dt_cmp (op_neK (hu65 hr)) (de_ix ?_) (by with_unfolding_all rfl))) ?_))
  · walk_at "nm"
    refine de_int ⟨_, 0, .c a0, hd5, rfl, rfl, ?_⟩
    walk_at "nm"
    have ndS : (S0.map (·.1)).Nodup := by rw [keysE]; exact nd
    refine k_keyD (.c ms) (.d (kdC rows)) ?_ (fun p hp => ?_) ⟨_, rfl, fun z => (nomatch z), fun _ => dt_cmp (op_neD hr.units) (de_ix ?_) (by with_unfolding_all rfl)⟩
    · have := congrArg List.length keysE
      rw [List.length_map, List.length_map] at this
      unfold slK kdC
      rw [List.length_map, List.length_map, List.length_map, List.length_map]
      exact this
    · unfold slK kdC at hp
      rw [List.map_map] at hp
      obtain ⟨⟨z, s⟩, hzs, rfl⟩ := List.mem_map.mp hp
      have hz : z ∈ rows.map (·.1) := by rw [← keysE]; exact List.mem_map_of_mem hzs
      obtain ⟨q, hq, eq⟩ := List.mem_map.mp hz
      have e1 := SE q hq
      rw [eq, getC_mem ndS hzs] at e1
      have e1 := Option.some.inj e1
      have e2 := getC_mem nd hq
      rw [eq] at e2
      refine ⟨dI q.2, by show valS (slK (kdC rows)) (.inr z) = _; rw [valS_C, e2]; rfl, .int s, .int q.2, .d _, .d _, rfl, rfl, ?_⟩
      rw [eqv_int]
      exact decide_eq_true e1
    walk_at "nm"
    refine de_int ⟨_, 1, .d (.list (pg0.map eRun)), hd5, rfl, rfl, ?_⟩
    walk_at "nm"
    refine k_neD (.d _) (.d _) (shaped_runs pg0 nmc) (shaped_runs pg0 nmc) ?_
    rw [eqv_list eRun eqv_run, decide_eq_true rfl]
    refine ⟨_, rfl, fun z => (nomatch z), fun _ => dt_cmp (op_neK (hu65 hr)) (de_ix ?_) (by with_unfolding_all rfl)⟩
    walk_at "nm"
    refine de_int ⟨_, 2, .c a2, hd5, rfl, rfl, de_dictC fun p hp => ?_⟩
    have sub6 : Sub M5 (updC M5 p (.k [])) := (Sub.refl _).new hp
    refine k_keyD (ks := slK (kdPg [])) (ls := []) (.c (sub6 _ _ mp)) (.c updC_same) rfl (fun p hp => (nomatch hp)) ⟨_, rfl, fun z => (nomatch z), fun _ => dt_cmp op_gt (de_ix ?_) (by with_unfolding_all rfl)⟩
    walk_at "nm"
    refine de_int ⟨_, 4, dI mx0', seqOf_sub hd5 sub6, rfl, rfl, de_int (k_bool ⟨_, rfl, decide_eq_false (by omega), sub6⟩)⟩
  rintro k M6 ⟨rfl, sub6⟩
  refine ⟨fun z => (nomatch z), fun _ => db_nil ?_⟩
  have hd6 := seqOf_sub hd5 sub6
  have m6 := sub6 _ _ m5
  have sub6M := Sub.trans sub5 sub6
  have hk45 : fitX (.int ((tkG (gapsA rows pg0)).length : Int)) = true := by
    have := tkG_len (gapsA rows pg0)
    exact decide_eq_true (by have : (1000 : Nat) < 10 ^ 45 := by decide
                             omega)
  have hstl : ((stT (gapsA rows pg0)).length : Int) = ((tkG (gapsA rows pg0)).length : Int) := by unfold stT; rw [List.length_map]
  refine db_cons (ds_ifF (dt_or2 (dt_cmp op_ne (de_callB (call_showT S noG hr.units) (by rfl) b5 bt_repr (da_cons (de_callC (c3.up (by decide)) hr (by rfl) ?_))) (by with_unfolding_all rfl))) (db_nil ?_))
  · walk_at "go"
    refine da_nil ⟨rows, .d (.list (pg0.map eRun)), pg0, hL, rfl, okr, ltc M6, okc, by omega, fun _ => da_nil (k_showT (.d _) hk45 (by simp [wtX]) (by simp [PyData.depth]) (de_callB (call_showT S noG hr.units) (by rfl) b5 bt_repr (da_cons (de_ix ?_)))), fun z => (by rw [hfin] at z; cases z)⟩
    walk_at "nm"
    refine de_int ⟨_, 3, dI ((stT (gapsA rows pg0)).length : Int), hd6, rfl, rfl, da_nil (k_showT (.d _) (by rw [hstl]; exact hk45) (by simp [wtX]) (by simp [PyData.depth]) (k_neS ⟨_, rfl, fun z => ?_, fun _ => dt_cmp op_ne (de_callB (call_showX S noG hr.units) (by rfl) b5 bt_repr (da_cons (de_lstD (da_cons ?_)))) (by with_unfolding_all rfl)⟩))⟩
    · rw [hstl, decide_eq_true rfl] at z
      cases z
    walk_at "nm"
    refine da_cons ?_
    walk_at "nm"
    refine da_nil ⟨[eCnt rows, .list (pg0.map eRun)], rfl, (by show 2 ≤ sizeLine; decide), da_nil (k_showX (d := pairD rows false pg0) (.d _) rfl (fit_pair okr okc0) (by rw [wt_pair]; omega) (depth_pair rows false pg0) ?_)⟩
    walk_at "nm"
    refine k_neS ?_
    rw [decide_eq_true rfl]
    exact ⟨_, rfl, rfl, rfl⟩
  -- told
  refine db_cons (ds_set (i := 6) sc__law_right.nd rfl (.inl rfl) (de_callB (call_showX S noG hr.units) (by rfl) b5 bt_repr (da_cons ?_)))
  walk_at "nm"
  refine da_nil (k_showX (d := .list (schG rows pg0)) (IsX.cell m6) rfl f1 w1 d1 ?_)
  refine db_cons (ds_append ?_)
  walk_at "nm"
  refine ⟨⟨rfl, _, by simp only [seqOf, m6]; rfl⟩, de_tupD ?_⟩
  refine da_cons ?_
  refine de_str ?_
  refine da_cons ?_
  refine de_str ?_
  refine da_nil ⟨[.str "read", .str "a"], rfl, (by show 2 ≤ sizeLine; decide), p3, _, rfl, m6, ?_, ?_⟩
  · rw [List.length_map, sizeLine_eq]
    omega
  have sub9M := sub_put (c := .l ((schG rows pg0).map .d ++ [.d (.tuple [.str "read", .str "a"])])) sub6M hp3
  generalize updC M6 p3 (.l ((schG rows pg0).map .d ++ [.d (.tuple [.str "read", .str "a"])])) = M9 at sub9M
  clear m6 hd6 sub6M sub6 m5 hd5 md ms mp dk5 sub5
  refine db_cons (ds_set (i := 7) sc__law_right.nd rfl (.inl rfl) (de_frzK (de_callT (call_dictP rfl) (by rfl) b9 bt_dict (da_cons (de_lc0 (own := [("name", 8)]) (g := gName 8) rfl sc__law_right.nd (blkOk_by (own := [("name", 8)]) (N := ["rows", "runs", "kept", "deeds", "desk", "deed", "told", "other", "name"]) (sc := defScope s__law_right) (by decide +kernel)) (fun _ _ _ _ _ => pg_name (i := 8) sc__law_right.nd rfl (.inl rfl)) (di_seq (de_rev (de_callB (call_sortedD rfl) (by rfl) b4 bt_sorted (da_cons ?_)))))))))
  walk_at "nm"
  refine da_nil (k_sortedD (.d (kdC rows)) (keys_C rows) (by rw [List.length_map]; omega) fun zs py hpermz hsortz hpy => ⟨zs.map dS, rfl, by simp only [seqOf, updC_same], fun pz hpz => ?_⟩)
  have sub_M17 : Sub M9 (updC M9 py (.l (zs.map dS))) := (Sub.refl _).new hpy
  generalize updC M9 py (.l (zs.map dS)) = M17 at sub_M17 hpz
  rw [← List.map_reverse]
  have sub_M18 : Sub M17 (updC M17 pz (.l (zs.reverse.map dS))) := (Sub.refl _).new hpz
  have m_pz : updC M17 pz (.l (zs.reverse.map dS)) pz = some (.l (zs.reverse.map dS)) := updC_same
  generalize updC M17 pz (.l (zs.reverse.map dS)) = M18 at sub_M18 m_pz
  have ndy : zs.Nodup := hpermz.nodup_iff.mpr nd
  have hzl : zs.length = rows.length := by rw [hpermz.length_eq, List.length_map]
  obtain ⟨other, eo⟩ : ∃ other : Cnt, other = zs.reverse.map fun z => (z, (getC rows z).getD 0) := ⟨_, rfl⟩
  have hself : rows = (rows.map (·.1)).map fun z => (z, (getC rows z).getD 0) := by
    rw [List.map_map]
    conv => lhs; rw [← List.map_id rows]
    apply List.map_congr_left
    intro x hx
    show x = (x.1, (getC rows x.1).getD 0)
    rw [getC_mem nd hx]
    rfl
  have hpo : other.Perm rows := by
    rw [eo]
    conv => rhs; rw [hself]
    exact (((List.reverse_perm zs).trans hpermz).map _)
  have gpo := getC_perm hpo nd
  have okO := okCnt_perm hpo okr
  have okcO : okC (some other) pg0 := ⟨fun r hr => by
    obtain ⟨o1, o2, o3, o4⟩ := okc.1 r hr
    exact ⟨o1, o2, o3, by show r.2.2 ≤ (getC other r.1).getD 0; rw [gpo]; exact o4⟩, okc.2⟩
  refine ⟨zs.reverse.map dS, by simp only [seqOf, m_pz], fun D hD => ?_⟩
  refine ⟨fun i M' => M' = updC M18 D (.l ((kdC (other.take i)).map Y.prD)), by show updC M18 D (.l []) = updC M18 D (.l ((kdC (other.take 0)).map Y.prD)); rw [List.take_zero]; rfl, ?_, ?_, ?_⟩
  · rintro i M' rfl
    exact seqOf_updC (by simp only [seqOf, m_pz]) hD
  · rintro i y M' hi hy rfl
    rw [List.length_map] at hi
    have hy' : y = dS zs.reverse[i] := by
      rw [List.getElem?_map, List.getElem?_eq_getElem hi] at hy
      exact (Option.some.inj hy).symm
    subst hy'
    obtain ⟨x, hx, ex0⟩ := List.mem_map.mp (hpermz.mem_iff.mp (List.mem_reverse.mp (List.getElem_mem hi)))
    have hv := getC_mem nd hx
    rw [ex0] at hv
    have hil := hi
    rw [List.length_reverse] at hil
    have hoi : other[i]? = some (zs.reverse[i], x.2) := by
      rw [eo, List.getElem?_map, List.getElem?_eq_getElem hi]
      show some (zs.reverse[i], (getC rows zs.reverse[i]).getD 0) = _
      rw [hv]
      rfl
    have hlen : ((kdC (other.take i)).map Y.prD).length < sizeLine := by
      unfold kdC
      rw [List.length_map, List.length_map, List.length_take, sizeLine_eq]
      omega
    have hend : (kdC (other.take (i + 1))).map Y.prD = (kdC (other.take i)).map Y.prD ++ [.d (.tuple [.str zs.reverse[i], .int x.2])] := by
      unfold kdC
      rw [List.take_add_one, hoi, List.map_append, List.map_append]
      rfl
    generalize zs.reverse[i] = z at hv hend
    refine wgw_name (by simp) ?_
    intro s0 H0 C cl fp
    refine de_tupD (da_cons ?_)
    walk_at "nm"
    refine da_cons (de_dget (hu_of hr) ?_)
    walk_at "nm"
    walk_at "nm"
    refine ⟨_, .inr z, dI x.2, .d (kdC rows), rfl, by rw [valS_C, hv]; rfl, da_nil ⟨[.str z, .int x.2], rfl, (by show 2 ≤ sizeLine; decide), _, updC_same, hlen, ?_⟩⟩
    show updC _ _ _ = updC _ _ _
    rw [updC_updC, hend]
  rintro M' rfl
  have hol : other.length = zs.length := by rw [eo, List.length_map, List.length_reverse]
  rw [List.length_map, List.length_reverse, ← hol, List.take_length]
  have sub_M19 : Sub M18 (updC M18 D (.l ((kdC other).map Y.prD))) := (Sub.refl _).new hD
  have m19 : updC M18 D (.l ((kdC other).map Y.prD)) D = some (.l ((kdC other).map Y.prD)) := updC_same
  generalize updC M18 D (.l ((kdC other).map Y.prD)) = M19 at sub_M19 m19
  refine da_nil (k_dictP (kd := kdC other) rfl (by simp only [seqOf, m19]) fun p12 hp12 => ⟨p12, kdC other, rfl, by rw [updC_same, merge_cnt okO.2.2.1], ?_⟩)
  rw [delC_updC hp12]
  have sub19 : Sub M9 M19 := Sub.trans sub_M17 (Sub.trans sub_M18 sub_M19)
  have sub19M := Sub.trans sub9M sub19
  have hfinO : isNone (.d (finA other pg0)) = true := by rw [finA_perm hpo nd]; exact hfin
  have hsO := schG_perm hpo pg0
  refine db_cons (ds_if (dt_imp (QB2 := fun k M' => k = false ∧ Sub M M') (dt_cmp op_ne (de_callB (call_showX S noG hr.units) (by rfl) b5 bt_repr (da_cons (de_callC (c5.up (by decide)) hr (by rfl) ?_))) (by with_unfolding_all rfl)) ?_))
  · walk_at "go"
    refine da_nil ⟨other, .d (.list (pg0.map eRun)), pg0, hL, rfl, okO, ltc M19, okcO, by omega, fun z => (by rw [hfinO] at z; cases z), fun _ p20 M20 sub20 hp20 m20 => da_nil (k_showX (d := .list (schG rows pg0)) (IsX.cell (by rw [m20, hsO])) rfl f1 w1 d1 ?_)⟩
    walk_at "nm"
    refine k_neS ?_
    rw [decide_eq_true rfl]
    exact ⟨_, rfl, rfl, Sub.trans sub19M sub20⟩
  rintro k M21 ⟨rfl, sub21⟩
  refine ⟨fun z => (nomatch z), fun _ => db_nil ?_⟩
  refine db_cons (ds_ret (de_gc (de_cmp op_eq (de_callB (call_showX S noG hr.units) (by rfl) b5 bt_repr (da_cons (de_callC (c5.up (by decide)) hr (by rfl) (da_cons ?_)))) (by with_unfolding_all rfl))))
  walk_at "nm"
  refine da_cons (de_callT call_tuple_of (by rfl) b2 bt_tuple (da_cons ?_))
  walk_at "nm"
  refine da_nil (k_tupleD rfl (by rw [tcm M21, List.map_map]; rfl) (da_nil ⟨rows, .d (.tuple (pg0.map eRun)), pg0, hL, rfl, okr, ltt M21, okc, by omega, fun z => (by rw [hfin] at z; cases z), fun _ p22 M22 sub22 hp22 m22 => da_nil (k_showX (d := .list (schG rows pg0)) (IsX.cell m22) rfl f1 w1 d1 ?_)⟩))
  walk_at "nm"
  refine k_eqS ?_
  rw [decide_eq_true rfl]
  exact ⟨M, Sub.trans sub21 sub22, fin⟩

end

end Pg

namespace Pg
open PySem L2 Y PyProof.Rows

local macro_rules | `(tactic| walk_at "vis") => `(tactic| first | exact Or.inl rfl | exact Or.inr (Or.inl rfl) | exact Or.inr (Or.inr rfl))
local macro_rules | `(tactic| walk_at "e1") => `(tactic| first | walk_at "nm" | refine de_int ?_ | refine de_add ?_ | refine de_sub ?_ | refine de_str ?_ | refine de_non ?_ | refine de_bl ?_)
local macro_rules | `(tactic| walk_at "go") => `(tactic| repeat (first | ((with_reducible show DE _ _ _ _ _ _); walk_at "e1") | ((with_reducible show DA _ _ _ _ _ _); refine da_cons ?_) | refine ⟨_, _, rfl, rfl, ?_⟩))

theorem okA_one (v : Int) (h0 : 0 ≤ v) (h1 : v ≤ 10 ^ 30) : okCnt [("a", v)] := ⟨Nat.le_refl 1, (by show 1 ≤ 12; decide), by simp, fun p hp => by
  rw [List.mem_singleton.mp hp]
  exact ⟨(by show okName "a" = true; decide +kernel), h0, h1⟩⟩


def lateR : List Y.Run := [("a", 2, 2)]
theorem late_ok : okC (some [("a", 2)]) lateR := by
  show okC (some [("a", 2)]) (([] : List Y.Run) ++ [(("a", 2, 2) : Y.Run)])
  refine okC_snoc (okC_nil _) ?_ fun l hl => (nomatch hl)
  exact ⟨by decide +kernel, by decide, by decide, by decide +kernel⟩
section
variable {P : Program} {w : World} {K : PySem.W.Frag} {mg : Str → Option Value} {base : Heap}

local macro_rules | `(tactic| walk_at "nm") => `(tactic| first | ((with_reducible refine de_name (x := "script") (i := 0) (s := ?s) ?hN ?hv ?ht ?q ?hd ?hcd); (case hN => rfl); (case hv => walk_at "vis"); (case ht => rfl); (case hd => decide); (case hcd => decide)) | ((with_reducible refine de_name (x := "bowl") (i := 1) (s := ?s) ?hN ?hv ?ht ?q ?hd ?hcd); (case hN => rfl); (case hv => walk_at "vis"); (case ht => rfl); (case hd => decide); (case hcd => decide)) | ((with_reducible refine de_name (x := "turn") (i := 2) (s := ?s) ?hN ?hv ?ht ?q ?hd ?hcd); (case hN => rfl); (case hv => walk_at "vis"); (case ht => rfl); (case hd => decide); (case hcd => decide)) | ((with_reducible refine de_name (x := "rows") (i := 3) (s := ?s) ?hN ?hv ?ht ?q ?hd ?hcd); (case hN => rfl); (case hv => walk_at "vis"); (case ht => rfl); (case hd => decide); (case hcd => decide)) | ((with_reducible refine de_name (x := "size") (i := 4) (s := ?s) ?hN ?hv ?ht ?q ?hd ?hcd); (case hN => rfl); (case hv => walk_at "vis"); (case ht => rfl); (case hd => decide); (case hcd => decide)))


def R_law : Rr := fun L ss M Q => ∃ (s : Sl) (ns : List Int), NoDK L ∧ ss = [s] ∧ (∀ M', seqOf M' s = some (ns.map dI)) ∧ ns.length ≤ 63 ∧ ∀ M', Q (.d (.bool true)) M'
set_option maxHeartbeats 8000000 in
theorem ok_law (S : Sys base) {f : Addr} {fd : FuncData} (F : Fun K "law" "law" s_law f fd) (c1 : Cal P w K mg base "_law_bowl" 1 ["script"] R_bowl) (c2 : Cal P w K mg base "_law_dip" 1 ["bowl", "many"] R_dip) (c3 : Cal P w K mg base "_law_rows" 2 ["bowl", "most", "great"] R_rowsC) (c4 : Cal P w K mg base "_law_last" 2 ["bowl", "rows", "most"] R_last)
    (c7 : CalG P w K mg base "_law_right" 10 ["rows", "runs"] R_right25) (c8 : Cal P w K mg base "schedule_with_min_overwrites" 9 ["line_counts", "content"] R_swm) (b1 : mg "range" = none) (b2 : mg "min" = none) (b3 : mg "len" = none) (b4 : mg "int" = none) : Calm P w K mg base 11 f fd ["script"] (Spk K R_law) := by
  refine calm_of F sc_law (fun _ ss _ _ ⟨s, ns, _, h, _⟩ => by rw [h]; rfl) (fun cdv A outer s H E L ss M Q hr noG h => ?_)
  obtain ⟨x, ns, hL, rfl, hs, hl, fin⟩ := h
  refine db_cons (ds_set (i := 1) sc_law.nd rfl (.inl rfl) (de_callC (c1.up (by decide)) hr (by rfl) ?_))
  walk_at "go"
  refine da_nil ⟨x, ns, rfl, hs M, by omega, fun b q M1 hs1 hb hq bw => ?_⟩
  refine db_cons (ds_for PassesOwn.never rfl (di_range1 (by rfl) b1 (de_add (de_int (de_callB (call_min2 rfl) (by rfl) b2 bt_min (da_cons (de_int (da_cons (de_callB call_len_seq (by rfl) b3 bt_len (da_cons ?_))))))))))
  walk_at "nm"
  refine da_nil (k_len (hs M1) (da_nil (k_min2 ⟨_, _, rfl, rfl, _, rfl, ?_⟩)))
  have hk : ∃ k : Nat, (2 + (if ((ns.map dI).length : Int) < 8 then ((ns.map dI).length : Int) else 8)) = (k : Int) ∧ k ≤ 10 := by
    by_cases h : ((ns.map dI).length : Int) < 8
    · exact ⟨2 + (ns.map dI).length, by rw [if_pos h]; omega, by omega⟩
    · exact ⟨10, by rw [if_neg h]; rfl, Nat.le_refl _⟩
  obtain ⟨k, ek, hk⟩ := hk
  rw [ek]
  refine ⟨by omega, by omega, ?_⟩
  refine ⟨fun i τ' M' => ∃ y2 y3 y4, τ' = [some x, some (.c b), y2, y3, y4] ∧ Bowl M' b q (5000 * i), ⟨none, none, none, rfl, bw⟩, fun _ _ _ _ => trivial, ?_, ?_⟩
  · rintro i y τ' M2 hi rfl ⟨y2, y3, y4, rfl, bw2⟩
    have hi : i < 10 := by omega
    refine dg_of (pg_name (i := 2) sc_law.nd rfl (.inl rfl)) (wg_name ?_)
    refine db_cons (ds_set (i := 3) sc_law.nd rfl (.inl rfl) (de_frzK (de_callC (c3.up (by decide)) hr (by rfl) (da_cons ?_))))
    walk_at "nm"
    refine da_cons (de_int (da_cons (de_ix (de_lstD (da_cons (de_int (da_cons (de_pow (de_int (de_int ⟨_, _, rfl, rfl, powW (k := 4) (by decide) (by decide) (by decide), da_nil ⟨[.int 9, .int (10 ^ (30 : Int).toNat)], rfl, (by show 2 ≤ sizeLine; decide), de_callC (c2.up (by decide)) hr (by rfl) (da_cons ?_)⟩⟩))))))))))
    walk_at "nm"
    refine da_cons (de_int (da_nil ⟨b, q, _, 2, rfl, bw2, by omega, by decide, by decide, fun M3 r3 fr3 bw3 h30 h31 => ?_⟩))
    have e3 : ∃ v : Int, 0 < v ∧ v ≤ 10 ^ 30 ∧ atI ([.int 9, .int (10 ^ (30 : Int).toNat)].map Sl.d) r3 = some (dI v) := by
      have c3 : r3 = 0 ∨ r3 = 1 := by omega
      rcases c3 with rfl | rfl
      · exact ⟨9, by decide, by decide, rfl⟩
      · exact ⟨10 ^ (30 : Int).toNat, by decide, by decide, rfl⟩
    obtain ⟨v, v0, v1, ev⟩ := e3
    refine ⟨_, r3, dI v, rfl, rfl, ev, da_nil ⟨b, q, _, 12, v, rfl, bw3, by omega, by decide, by decide, v0, v1, fun rows a M4 fx4 ab aq a0 ma4 bw4 okr inp => ⟨a, kdC rows, rfl, ma4, ?_⟩⟩⟩
    have bw5 := bw4.del ab aq
    generalize delC M4 a = M5 at bw5
    refine db_cons (ds_set (i := 4) sc_law.nd rfl (.inl rfl) (de_ix (de_lstD ?_)))
    refine da_cons ?_
    refine de_int ?_
    refine da_cons ?_
    refine de_int ?_
    refine da_cons ?_
    refine de_int ?_
    refine da_cons ?_
    refine de_int ?_
    refine da_nil ⟨[.int 4, .int 12, .int 60, .int 198], rfl, (by show 4 ≤ sizeLine; decide), ?_⟩
    refine de_callC (c2.up (by decide)) hr (by rfl) (da_cons ?_)
    walk_at "nm"
    refine da_cons ?_
    refine de_ix (de_lstD ?_)
    refine da_cons ?_
    refine de_int ?_
    refine da_cons ?_
    refine de_int ?_
    refine da_nil ⟨[.int 3, .int 4], rfl, (by show 2 ≤ sizeLine; decide), ?_⟩
    refine de_callT call_int1 (by rfl) b4 bt_int (da_cons (de_cmp op_eq ?_ (by with_unfolding_all rfl)))
    walk_at "nm"
    refine de_int (k_eqI (da_nil (k_intB ?_)))
    have e6 : ∃ mm : Int, 3 ≤ mm ∧ mm ≤ 4 ∧ atI ([.int 3, .int 4].map Sl.d) (if decide ((i : Int) = 0) = true then 1 else 0) = some (dI mm) := by
      by_cases z : (i : Int) = 0
      · rw [decide_eq_true z]
        exact ⟨4, by decide, by decide, rfl⟩
      · rw [decide_eq_false z]
        exact ⟨3, by decide, by decide, rfl⟩
    obtain ⟨mm, mm0, mm1, em⟩ := e6
    refine ⟨[.int 3, .int 4].map .d, _, dI mm, rfl, rfl, em, da_nil ⟨b, q, _, mm, rfl, bw5, by omega, by omega, by omega, fun M6 r6 fr6 bw6 h60 h61 => ?_⟩⟩
    have e7 : ∃ sz : Int, 0 < sz ∧ sz ≤ 200 ∧ atI ([.int 4, .int 12, .int 60, .int 198].map Sl.d) r6 = some (dI sz) := by
      have c6 : r6 = 0 ∨ r6 = 1 ∨ r6 = 2 ∨ r6 = 3 := by omega
      rcases c6 with rfl | rfl | rfl | rfl
      · exact ⟨4, by decide, by decide, rfl⟩
      · exact ⟨12, by decide, by decide, rfl⟩
      · exact ⟨60, by decide, by decide, rfl⟩
      · exact ⟨198, by decide, by decide, rfl⟩
    obtain ⟨sz, sz0, sz1, es⟩ := e7
    refine ⟨[.int 4, .int 12, .int 60, .int 198].map .d, r6, dI sz, rfl, rfl, es, ?_⟩
    refine db_cons (ds_if (dt_not (dt_val (de_callG c7 (hr.mono (by decide)) noG (by rfl) (da_cons ?_)))))
    walk_at "nm"
    refine da_cons (de_frz (de_callC (c4.up (by decide)) hr (by rfl) (da_cons ?_)))
    walk_at "nm"
    refine da_cons ?_
    walk_at "nm"
    refine da_cons ?_
    walk_at "nm"
    refine da_nil ⟨b, q, _, rows, sz, rfl, bw6, by omega, okr, sz0, sz1, fun pr u1 M7 fx7 prb prq pr0 mr7 bw7 lc1 okc1 fin1 => ⟨pr, u1.map eRun, rfl, by rw [mr7, List.map_map]; rfl, ?_⟩⟩
    have bw8 := bw7.del prb prq
    generalize delC M7 pr = M8 at bw8
    exact da_nil ⟨rows, u1, hL, rfl, okr, okc1, by omega, fin1, true, rfl, no1, fun _ => db_nil (db_nil ⟨_, _, _, rfl, bw8.mono (by omega)⟩)⟩
  · rintro τ' M2 ⟨y2, y3, y4, rfl, bw2⟩
    refine db_cons (ds_if (dt_cmp (op_neD hr.units) (de_callC (c8.up (by decide)) hr (by rfl) (da_cons (de_frzK (de_dictSI fun p hp => ⟨p, [(.inr "a", .int 0)], rfl, updC_same, ?_⟩)))) (by with_unfolding_all rfl)))
    rw [delC_updC hp]
    refine da_cons ?_
    refine de_lstD (da_nil ⟨[], rfl, Nat.zero_le _, ?_⟩)
    refine da_nil ⟨[("a", 0)], .d (.list []), [], hL, rfl, okA_one 0 (by decide) (by decide), LT.list _ [], okC_nil _, by decide, fun z => absurd z (by decide +kernel), fun _ p2 M3 sub3 hp2 m3 => ?_⟩
    refine de_lstD (da_nil ⟨[], rfl, Nat.zero_le _, k_neD (d := .list []) (IsD.cell (ds := []) m3) (.d (.list [])) shaped_nil shaped_nil ⟨false, rfl, fun z => (nomatch z), fun _ => db_nil ?_⟩⟩)
    refine db_cons (ds_ret (de_cmp op_isN (de_callC (c8.up (by decide)) hr (by rfl) (da_cons (de_frzK (de_dictSI fun p4 hp4 => ⟨p4, [(.inr "a", .int 2)], rfl, updC_same, ?_⟩)))) (nomark _)))
    rw [delC_updC hp4]
    refine da_cons (de_lstD (da_cons (de_tupD ?_)))
    refine da_cons ?_
    refine de_str ?_
    refine da_cons ?_
    refine de_int ?_
    refine da_cons ?_
    refine de_int ?_
    refine da_nil ⟨[.str "a", .int 2, .int 2], rfl, (by show 3 ≤ sizeLine; decide), da_nil ⟨lateR.map eRun, rfl, (by show 1 ≤ sizeLine; decide), ?_⟩⟩
    refine da_nil ⟨[("a", 2)], .d (.list (lateR.map eRun)), lateR, hL, rfl, okA_one 2 (by decide) (by decide), LT_txt M3 false lateR, late_ok, (by show 1 ≤ 900; decide), fun _ => ?_, fun z => absurd z (by decide +kernel)⟩
    refine de_non (k_isN ?_)
    exact fin _

end

end Pg

namespace Pg
open PySem L2 Y PyProof.Rows
theorem fa_mk {K : PySem.W.Frag} {h : Heap} {mg : Str → Option Value} {x : Str} {st : Stmt} {ps : List Str} {f : Addr} {oc : Value} {od an : Option Addr} {osl : Array (Option Value)} {kV doc pm cdv ct : Value} (X : K.In h) (G : h.Ns mainGlobals mg) (a : PySem.W.nsIn K mainGlobals x = some (some (.ref f))) (l : K.lookup f = some ⟨oc, od, .func (PySem.W.fnOf x x (defArgs st) (defBody st) (defScope st) .none kV doc pm an cdv ct), osl⟩)
    (c : PySem.W.codeIn K cdv x = true) (k : PySem.W.keepIn K (.ref f) = true) (b : ∀ (kV doc pm : Value) (an : Option Addr) (cdv ct : Value) (us : List Value), us.length = ps.length → bindArgs (PySem.W.fnOf x x (defArgs st) (defBody st) (defScope st) .none kV doc pm an cdv ct) ⟨us, []⟩ = pure (ps.zip us)) : FunAt K mg x st ps :=
  ⟨f, _, PySem.W.mg_of X G a |> fun m => ⟨fun_mk l c k, m, (fun_mk l c k).binds b⟩⟩
theorem sp_law {K : PySem.W.Frag} {H : Hp} {a : Addr} {ns : List Int} (hl : ns.length ≤ 63) (hO : Only H) (hS : SqL K H a (ns.map V.int)) : Spk K R_law [.ref a] H (fun v _ => v = .bl true) fun _ _ _ => False := by
  have ret : ∀ {L : Lk} {G : Hp}, Ret K L G (fun s _ => s = .d (.bool true)) (fun v _ => v = .bl true) := fun s M' v G' H' h _ _ a => by
    subst h
    exact sl_bl a
  rcases hS with (h | ⟨o, h⟩) | h
  · rcases hO a with z | ⟨o, xs, z⟩
    · rw [h] at z; cases z
    · rw [h] at z; cases z
  · refine ⟨[(a, o, .lst (ns.map V.int))], fun _ => none, fun b => if b = a then some (.lst (ns.map V.int)) else none, [.s ns], fun s _ => s = .d (.bool true), ⟨fun b u e => ?_, fun b c e => (nomatch e), fun x hx => ?_⟩, .cons (.s (.inl (if_pos rfl))) .nil, ⟨.s ns, ns, fun x hx kvs e => ?_, rfl, fun _ => rfl, hl, fun _ => rfl⟩, ret⟩
    · by_cases hb : b = a
      · subst hb
        have e' : some (HO.lst (ns.map V.int)) = some u := (if_pos rfl).symm.trans e
        cases e'
        exact .inr ⟨_, List.mem_cons_self, rfl, rfl⟩
      · have e' : none = some u := (if_neg hb).symm.trans e
        cases e'
    · rw [List.mem_singleton.mp hx]
      exact h
    · rw [List.mem_singleton.mp hx] at e
      cases e
  · exact ⟨[], fun _ => none, fun _ => none, [.s ns], fun s _ => s = .d (.bool true), ⟨fun b u e => (nomatch e), fun b c e => (nomatch e), fun x hx => (nomatch hx)⟩, .cons (.s (.inr h)) .nil, ⟨.s ns, ns, fun x hx kvs e => (nomatch hx), rfl, fun _ => rfl, hl, fun _ => rfl⟩, ret⟩

theorem all_mk {l : PySem.W.OpenLaw} {w : World} {K : PySem.W.Frag} {h : Heap} {mg : Str → Option Value} {fa fl : Addr} {oc kV doc pm cd ct : Value} {od an : Option Addr} {osl : Array (Option Value)} (X : K.In h) (G : h.Ns mainGlobals mg) (hfa : mg "law" = some (.ref fa))
    (F_plain_integer : FunAt K mg "plain_integer" s_plain_integer ["value"])
    (F_plain_text : FunAt K mg "plain_text" s_plain_text ["value"])
    (F_plain_writer : FunAt K mg "plain_writer" s_plain_writer ["value"])
    (F_highest_number : FunAt K mg "highest_number" s_highest_number ["line_counts", "writer"])
    (F_plain_lines : FunAt K mg "plain_lines" s_plain_lines ["line_counts", "writer", "first", "last"])
    (F_plain_run : FunAt K mg "plain_run" s_plain_run ["line_counts", "value"])
    (F_continues : FunAt K mg "continues" s_continues ["run", "following"])
    (F_plain_content : FunAt K mg "plain_content" s_plain_content ["line_counts", "value"])
    (F_checked_content : FunAt K mg "checked_content" s_checked_content ["line_counts", "value"])
    (F_plain_line_counts : FunAt K mg "plain_line_counts" s_plain_line_counts ["value"])
    (F_checked_line_counts : FunAt K mg "checked_line_counts" s_checked_line_counts ["value"])
    (F__law_dip : FunAt K mg "_law_dip" s__law_dip ["bowl", "many"])
    (F__law_bowl : FunAt K mg "_law_bowl" s__law_bowl ["script"])
    (F__law_rows : FunAt K mg "_law_rows" s__law_rows ["bowl", "most", "great"])
    (F_appearing_obstruction : FunAt K mg "appearing_obstruction" s_appearing_obstruction ["runs"])
    (F_final_obstruction : FunAt K mg "final_obstruction" s_final_obstruction ["line_counts", "content"])
    (F_gaps_of_runs : FunAt K mg "gaps_of_runs" s_gaps_of_runs ["counts", "runs"])
    (F_gaps : FunAt K mg "gaps" s_gaps ["line_counts", "content"])
    (F__law_last : FunAt K mg "_law_last" s__law_last ["bowl", "rows", "most"])
    (F_stop_of_gap : FunAt K mg "stop_of_gap" s_stop_of_gap ["gap"])
    (F_gaps_that_share_no_run : FunAt K mg "gaps_that_share_no_run" s_gaps_that_share_no_run ["found"])
    (F_covering_stops : FunAt K mg "covering_stops" s_covering_stops ["found"])
    (F_min_overwrites : FunAt K mg "min_overwrites" s_min_overwrites ["line_counts", "content"])
    (F_schedule_of_runs : FunAt K mg "schedule_of_runs" s_schedule_of_runs ["runs", "lost"])
    (F_schedule_with_min_overwrites : FunAt K mg "schedule_with_min_overwrites" s_schedule_with_min_overwrites ["line_counts", "content"])
    (F__law_put : FunAt K mg "_law_put" s__law_put ["runs", "run"])
    (F__law_begun : FunAt K mg "_law_begun" s__law_begun ["rows"])
    (F__law_laid : FunAt K mg "_law_laid" s__law_laid ["desk", "rows", "writer", "many"])
    (F__law_step : FunAt K mg "_law_step" s__law_step ["desk", "rows", "deed"])
    (F__law_right : FunAt K mg "_law_right" s__law_right ["rows", "runs"])
    (z0_isinstance : PySem.W.nsIn K mainGlobals "isinstance" = some none)
    (z0_int : PySem.W.nsIn K mainGlobals "int" = some none)
    (z0_bool : PySem.W.nsIn K mainGlobals "bool" = some none)
    (z0_str : PySem.W.nsIn K mainGlobals "str" = some none)
    (z0_len : PySem.W.nsIn K mainGlobals "len" = some none)
    (z0_type : PySem.W.nsIn K mainGlobals "type" = some none)
    (z0_tuple : PySem.W.nsIn K mainGlobals "tuple" = some none)
    (z0_list : PySem.W.nsIn K mainGlobals "list" = some none)
    (z0_dict : PySem.W.nsIn K mainGlobals "dict" = some none)
    (z0_sorted : PySem.W.nsIn K mainGlobals "sorted" = some none)
    (z0_abs : PySem.W.nsIn K mainGlobals "abs" = some none)
    (z0_range : PySem.W.nsIn K mainGlobals "range" = some none)
    (z0_enumerate : PySem.W.nsIn K mainGlobals "enumerate" = some none)
    (z0_sum : PySem.W.nsIn K mainGlobals "sum" = some none)
    (z0_min : PySem.W.nsIn K mainGlobals "min" = some none)
    (z0_max : PySem.W.nsIn K mainGlobals "max" = some none)
    (z0_repr : PySem.W.nsIn K mainGlobals "repr" = some none)
    {i_LONGEST_NAME : Int} {t_LONGEST_NAME : Tok} (g0_LONGEST_NAME : PySem.W.nsIn K mainGlobals "LONGEST_NAME" = some (some (.int i_LONGEST_NAME t_LONGEST_NAME))) (g1_LONGEST_NAME : i_LONGEST_NAME = 8)
    {i_LARGEST_NUMBER : Int} {t_LARGEST_NUMBER : Tok} (g0_LARGEST_NUMBER : PySem.W.nsIn K mainGlobals "LARGEST_NUMBER" = some (some (.int i_LARGEST_NUMBER t_LARGEST_NUMBER))) (g1_LARGEST_NUMBER : i_LARGEST_NUMBER = (10 ^ 30))
    {i_MOST_WRITERS : Int} {t_MOST_WRITERS : Tok} (g0_MOST_WRITERS : PySem.W.nsIn K mainGlobals "MOST_WRITERS" = some (some (.int i_MOST_WRITERS t_MOST_WRITERS))) (g1_MOST_WRITERS : i_MOST_WRITERS = 12)
    (a0 : PySem.W.nsIn K mainGlobals "law" = some (some (.ref fl))) (l0 : K.lookup fl = some ⟨oc, od, .func (PySem.W.fnOf "law" "law" (defArgs s_law) (defBody s_law) (defScope s_law) .none kV doc pm an cd ct), osl⟩) (c0 : PySem.W.codeIn K cd "law" = true) (k0 : PySem.W.keepIn K (.ref fl) = true) :
    ∃ fd : FuncData, (∀ (s : Shared) (v : Value), BindsTo s fd ⟨[v], []⟩ [("script", v)]) ∧ ∀ base : Heap, K.In base → base.Ns mainGlobals mg → Sys base → Calm l.prog w K mg base 11 fa fd ["script"] (Spk K R_law) := by
  have e := hfa.symm.trans (PySem.W.mg_of X G a0)
  cases e

  have z_isinstance : mg "isinstance" = none := PySem.W.mg_none_of X G z0_isinstance
  have z_int : mg "int" = none := PySem.W.mg_none_of X G z0_int
  have z_bool : mg "bool" = none := PySem.W.mg_none_of X G z0_bool
  have z_str : mg "str" = none := PySem.W.mg_none_of X G z0_str
  have z_len : mg "len" = none := PySem.W.mg_none_of X G z0_len
  have z_type : mg "type" = none := PySem.W.mg_none_of X G z0_type
  have z_tuple : mg "tuple" = none := PySem.W.mg_none_of X G z0_tuple
  have z_list : mg "list" = none := PySem.W.mg_none_of X G z0_list
  have z_dict : mg "dict" = none := PySem.W.mg_none_of X G z0_dict
  have z_sorted : mg "sorted" = none := PySem.W.mg_none_of X G z0_sorted
  have z_abs : mg "abs" = none := PySem.W.mg_none_of X G z0_abs
  have z_range : mg "range" = none := PySem.W.mg_none_of X G z0_range
  have z_enumerate : mg "enumerate" = none := PySem.W.mg_none_of X G z0_enumerate
  have z_sum : mg "sum" = none := PySem.W.mg_none_of X G z0_sum
  have z_min : mg "min" = none := PySem.W.mg_none_of X G z0_min
  have z_max : mg "max" = none := PySem.W.mg_none_of X G z0_max
  have z_repr : mg "repr" = none := PySem.W.mg_none_of X G z0_repr
  have g_LONGEST_NAME : ∃ t, mg "LONGEST_NAME" = some (.int 8 t) := ⟨t_LONGEST_NAME, by rw [← g1_LONGEST_NAME]; exact PySem.W.mg_of X G g0_LONGEST_NAME⟩
  have g_LARGEST_NUMBER : ∃ t, mg "LARGEST_NUMBER" = some (.int (10 ^ 30) t) := ⟨t_LARGEST_NUMBER, by rw [← g1_LARGEST_NUMBER]; exact PySem.W.mg_of X G g0_LARGEST_NUMBER⟩
  have g_MOST_WRITERS : ∃ t, mg "MOST_WRITERS" = some (.int 12 t) := ⟨t_MOST_WRITERS, by rw [← g1_MOST_WRITERS]; exact PySem.W.mg_of X G g0_MOST_WRITERS⟩
  refine ⟨PySem.W.fnOf "law" "law" (defArgs s_law) (defBody s_law) (defScope s_law) .none kV doc pm an cd ct, fun s v => .of_eq rfl, fun base _ _ S0 => ?_⟩
  have c_plain_integer : Cal l.prog w K mg base "plain_integer" 1 ["value"] R_plain_integer := ok_plain_integer F_plain_integer z_isinstance z_int z_bool
  have c_plain_text : Cal l.prog w K mg base "plain_text" 1 ["value"] R_plain_text := ok_plain_text F_plain_text z_isinstance z_str
  have c_plain_writer : Cal l.prog w K mg base "plain_writer" 2 ["value"] R_plain_writer := ok_plain_writer F_plain_writer c_plain_text z_len g_LONGEST_NAME
  have c_highest_number : Cal l.prog w K mg base "highest_number" 1 ["line_counts", "writer"] R_highest_number := ok_highest_number F_highest_number g_LARGEST_NUMBER
  have c_plain_lines : Cal l.prog w K mg base "plain_lines" 3 ["line_counts", "writer", "first", "last"] R_plain_lines := ok_plain_lines F_plain_lines c_plain_writer c_plain_integer c_highest_number
  have c_plain_run : Cal l.prog w K mg base "plain_run" 4 ["line_counts", "value"] R_plain_run := ok_plain_run F_plain_run c_plain_lines z_type z_tuple z_len
  have c_continues : Cal l.prog w K mg base "continues" 1 ["run", "following"] R_continues := ok_continues F_continues
  have c_plain_content : Cal l.prog w K mg base "plain_content" 5 ["line_counts", "value"] R_plain_content := ok_plain_content F_plain_content c_plain_run c_continues z_type z_tuple z_list
  have c_checked_content : Cal l.prog w K mg base "checked_content" 6 ["line_counts", "value"] R_plain_content := ok_checked_content F_checked_content c_plain_content
  have c_plain_line_counts : Cal l.prog w K mg base "plain_line_counts" 3 ["value"] R_plain_line_counts := ok_plain_line_counts F_plain_line_counts c_plain_writer c_plain_integer z_isinstance z_dict z_len z_sorted g_MOST_WRITERS g_LARGEST_NUMBER
  have c_checked_line_counts : Cal l.prog w K mg base "checked_line_counts" 4 ["value"] R_plain_line_counts := ok_checked_line_counts F_checked_line_counts c_plain_line_counts
  have c_law_dip : Cal l.prog w K mg base "_law_dip" 1 ["bowl", "many"] R_dip := ok_law_dip F__law_dip
  have c_law_bowl : Cal l.prog w K mg base "_law_bowl" 1 ["script"] R_bowl := ok_law_bowl F__law_bowl z_abs
  have c_law_rows : Cal l.prog w K mg base "_law_rows" 2 ["bowl", "most", "great"] R_rowsC := ok_law_rows F__law_rows c_law_dip z_list z_range z_len
  have c_appearing_obstruction : Cal l.prog w K mg base "appearing_obstruction" 1 ["runs"] R_appearing := ok_appearing_obstruction F_appearing_obstruction z_enumerate
  have c_final_obstruction : Cal l.prog w K mg base "final_obstruction" 7 ["line_counts", "content"] R_final := ok_final_obstruction F_final_obstruction c_checked_line_counts c_checked_content c_appearing_obstruction z_sum
  have c_gaps_of_runs : Cal l.prog w K mg base "gaps_of_runs" 1 ["counts", "runs"] R_gapsR := ok_gaps_of_runs F_gaps_of_runs z_enumerate z_len z_sorted
  have c_gaps : Cal l.prog w K mg base "gaps" 8 ["line_counts", "content"] R_gaps := ok_gaps F_gaps c_checked_line_counts c_checked_content c_final_obstruction c_gaps_of_runs
  have c_law_last : Cal l.prog w K mg base "_law_last" 2 ["bowl", "rows", "most"] R_last := ok_law_last F__law_last c_law_dip z_sorted z_len z_dict z_int z_min z_range
  have c_stop_of_gap : Cal l.prog w K mg base "stop_of_gap" 1 ["gap"] R_stop := ok_stop_of_gap F_stop_of_gap
  have c_gaps_that_share_no_run : Cal l.prog w K mg base "gaps_that_share_no_run" 4 ["found"] R_gsnr := ok_gaps_that_share_no_run F_gaps_that_share_no_run F_stop_of_gap z_sorted
  have c_covering_stops : Cal l.prog w K mg base "covering_stops" 5 ["found"] R_cstops := ok_covering_stops F_covering_stops c_gaps_that_share_no_run c_stop_of_gap
  have c_min_overwrites : Cal l.prog w K mg base "min_overwrites" 9 ["line_counts", "content"] R_mino := ok_min_overwrites F_min_overwrites c_gaps c_gaps_that_share_no_run z_len
  have c_schedule_of_runs : Cal l.prog w K mg base "schedule_of_runs" 1 ["runs", "lost"] R_sched := ok_schedule_of_runs F_schedule_of_runs z_enumerate
  have c_schedule_with_min_overwrites : Cal l.prog w K mg base "schedule_with_min_overwrites" 9 ["line_counts", "content"] R_swm := ok_schedule_with_min_overwrites F_schedule_with_min_overwrites c_checked_line_counts c_checked_content c_gaps c_covering_stops c_schedule_of_runs
  have c_law_put : Cal l.prog w K mg base "_law_put" 1 ["runs", "run"] R_putS := ok_law_put F__law_put
  have c_law_begun : Cal l.prog w K mg base "_law_begun" 1 ["rows"] R_begun := ok_law_begun F__law_begun z_dict
  have c_law_laid : Cal l.prog w K mg base "_law_laid" 2 ["desk", "rows", "writer", "many"] R_laid := ok_law_laid F__law_laid c_law_put
  have c_law_step : Cal l.prog w K mg base "_law_step" 3 ["desk", "rows", "deed"] R_step := ok_law_step F__law_step c_law_laid z_int z_list z_max z_len
  have c_law_right : CalG l.prog w K mg base "_law_right" 10 ["rows", "runs"] R_right25 := ok_law_right S0 F__law_right c_law_begun c_law_step c_min_overwrites c_schedule_with_min_overwrites z_isinstance z_tuple z_len z_sorted z_repr z_int z_dict
  exact ok_law S0 (fun_mk l0 c0 k0) c_law_bowl c_law_dip c_law_rows c_law_last c_law_right c_schedule_with_min_overwrites z_range z_min z_len z_int
end Pg
set_option maxHeartbeats 0 in
theorem PySem.Challenge.cw_lastcopy_k25_schedules_with_min_overwrit_holds : PySem.Challenge.rw_lastcopy_k25_schedules_with_min_overwrit.Holds := by
  w_on; o_law; k_head; (case hw => w_witness2)
  k_fill
  refine Y.walk_calmS (l := PySem.Challenge.rw_lastcopy_k25_schedules_with_min_overwrit) (n := 63) (k := 11) (x := "script") (R := Pg.R_law) rfl (by decide) rfl (by decide +kernel) ⟨rfl, by decide, by decide⟩ (fun w h Y => PySem.W.kIn_of Y) ?F (fun _ _ a ns hl hO hS => Pg.sp_law hl hO hS)
  case F =>
    intro w mg fa h KX G hmg
    refine' Pg.all_mk KX G hmg ?F_plain_integer ?F_plain_text ?F_plain_writer ?F_highest_number ?F_plain_lines ?F_plain_run ?F_continues ?F_plain_content ?F_checked_content ?F_plain_line_counts ?F_checked_line_counts ?F__law_dip ?F__law_bowl ?F__law_rows ?F_appearing_obstruction ?F_final_obstruction ?F_gaps_of_runs ?F_gaps ?F__law_last ?F_stop_of_gap ?F_gaps_that_share_no_run ?F_covering_stops ?F_min_overwrites ?F_schedule_of_runs ?F_schedule_with_min_overwrites ?F__law_put ?F__law_begun ?F__law_laid ?F__law_step ?F__law_right ?z0_isinstance ?z0_int ?z0_bool ?z0_str ?z0_len ?z0_type ?z0_tuple ?z0_list ?z0_dict ?z0_sorted ?z0_abs ?z0_range ?z0_enumerate ?z0_sum ?z0_min ?z0_max ?z0_repr ?g0_LONGEST_NAME ?g1_LONGEST_NAME ?g0_LARGEST_NUMBER ?g1_LARGEST_NUMBER ?g0_MOST_WRITERS ?g1_MOST_WRITERS ?a0 ?l0 ?c0 ?k0
    case F_plain_integer =>
      refine' Pg.fa_mk KX G ?a ?l ?c ?k ?b
      (case a => k_is); (case l => k_is); (case c => k_is); (case k => k_is)
      case b => exact fun _ _ _ _ _ _ us hl => match us, hl with | [_], _ => rfl
    case F_plain_text =>
      refine' Pg.fa_mk KX G ?a ?l ?c ?k ?b
      (case a => k_is); (case l => k_is); (case c => k_is); (case k => k_is)
      case b => exact fun _ _ _ _ _ _ us hl => match us, hl with | [_], _ => rfl
    case F_plain_writer =>
      refine' Pg.fa_mk KX G ?a ?l ?c ?k ?b
      (case a => k_is); (case l => k_is); (case c => k_is); (case k => k_is)
      case b => exact fun _ _ _ _ _ _ us hl => match us, hl with | [_], _ => rfl
    case F_highest_number =>
      refine' Pg.fa_mk KX G ?a ?l ?c ?k ?b
      (case a => k_is); (case l => k_is); (case c => k_is); (case k => k_is)
      case b => exact fun _ _ _ _ _ _ us hl => match us, hl with | [_, _], _ => rfl
    case F_plain_lines =>
      refine' Pg.fa_mk KX G ?a ?l ?c ?k ?b
      (case a => k_is); (case l => k_is); (case c => k_is); (case k => k_is)
      case b => exact fun _ _ _ _ _ _ us hl => match us, hl with | [_, _, _, _], _ => rfl
    case F_plain_run =>
      refine' Pg.fa_mk KX G ?a ?l ?c ?k ?b
      (case a => k_is); (case l => k_is); (case c => k_is); (case k => k_is)
      case b => exact fun _ _ _ _ _ _ us hl => match us, hl with | [_, _], _ => rfl
    case F_continues =>
      refine' Pg.fa_mk KX G ?a ?l ?c ?k ?b
      (case a => k_is); (case l => k_is); (case c => k_is); (case k => k_is)
      case b => exact fun _ _ _ _ _ _ us hl => match us, hl with | [_, _], _ => rfl
    case F_plain_content =>
      refine' Pg.fa_mk KX G ?a ?l ?c ?k ?b
      (case a => k_is); (case l => k_is); (case c => k_is); (case k => k_is)
      case b => exact fun _ _ _ _ _ _ us hl => match us, hl with | [_, _], _ => rfl
    case F_checked_content =>
      refine' Pg.fa_mk KX G ?a ?l ?c ?k ?b
      (case a => k_is); (case l => k_is); (case c => k_is); (case k => k_is)
      case b => exact fun _ _ _ _ _ _ us hl => match us, hl with | [_, _], _ => rfl
    case F_plain_line_counts =>
      refine' Pg.fa_mk KX G ?a ?l ?c ?k ?b
      (case a => k_is); (case l => k_is); (case c => k_is); (case k => k_is)
      case b => exact fun _ _ _ _ _ _ us hl => match us, hl with | [_], _ => rfl
    case F_checked_line_counts =>
      refine' Pg.fa_mk KX G ?a ?l ?c ?k ?b
      (case a => k_is); (case l => k_is); (case c => k_is); (case k => k_is)
      case b => exact fun _ _ _ _ _ _ us hl => match us, hl with | [_], _ => rfl
    case F__law_dip =>
      refine' Pg.fa_mk KX G ?a ?l ?c ?k ?b
      (case a => k_is); (case l => k_is); (case c => k_is); (case k => k_is)
      case b => exact fun _ _ _ _ _ _ us hl => match us, hl with | [_, _], _ => rfl
    case F__law_bowl =>
      refine' Pg.fa_mk KX G ?a ?l ?c ?k ?b
      (case a => k_is); (case l => k_is); (case c => k_is); (case k => k_is)
      case b => exact fun _ _ _ _ _ _ us hl => match us, hl with | [_], _ => rfl
    case F__law_rows =>
      refine' Pg.fa_mk KX G ?a ?l ?c ?k ?b
      (case a => k_is); (case l => k_is); (case c => k_is); (case k => k_is)
      case b => exact fun _ _ _ _ _ _ us hl => match us, hl with | [_, _, _], _ => rfl
    case F_appearing_obstruction =>
      refine' Pg.fa_mk KX G ?a ?l ?c ?k ?b
      (case a => k_is); (case l => k_is); (case c => k_is); (case k => k_is)
      case b => exact fun _ _ _ _ _ _ us hl => match us, hl with | [_], _ => rfl
    case F_final_obstruction =>
      refine' Pg.fa_mk KX G ?a ?l ?c ?k ?b
      (case a => k_is); (case l => k_is); (case c => k_is); (case k => k_is)
      case b => exact fun _ _ _ _ _ _ us hl => match us, hl with | [_, _], _ => rfl
    case F_gaps_of_runs =>
      refine' Pg.fa_mk KX G ?a ?l ?c ?k ?b
      (case a => k_is); (case l => k_is); (case c => k_is); (case k => k_is)
      case b => exact fun _ _ _ _ _ _ us hl => match us, hl with | [_, _], _ => rfl
    case F_gaps =>
      refine' Pg.fa_mk KX G ?a ?l ?c ?k ?b
      (case a => k_is); (case l => k_is); (case c => k_is); (case k => k_is)
      case b => exact fun _ _ _ _ _ _ us hl => match us, hl with | [_, _], _ => rfl
    case F__law_last =>
      refine' Pg.fa_mk KX G ?a ?l ?c ?k ?b
      (case a => k_is); (case l => k_is); (case c => k_is); (case k => k_is)
      case b => exact fun _ _ _ _ _ _ us hl => match us, hl with | [_, _, _], _ => rfl
    case F_stop_of_gap =>
      refine' Pg.fa_mk KX G ?a ?l ?c ?k ?b
      (case a => k_is); (case l => k_is); (case c => k_is); (case k => k_is)
      case b => exact fun _ _ _ _ _ _ us hl => match us, hl with | [_], _ => rfl
    case F_gaps_that_share_no_run =>
      refine' Pg.fa_mk KX G ?a ?l ?c ?k ?b
      (case a => k_is); (case l => k_is); (case c => k_is); (case k => k_is)
      case b => exact fun _ _ _ _ _ _ us hl => match us, hl with | [_], _ => rfl
    case F_covering_stops =>
      refine' Pg.fa_mk KX G ?a ?l ?c ?k ?b
      (case a => k_is); (case l => k_is); (case c => k_is); (case k => k_is)
      case b => exact fun _ _ _ _ _ _ us hl => match us, hl with | [_], _ => rfl
    case F_min_overwrites =>
      refine' Pg.fa_mk KX G ?a ?l ?c ?k ?b
      (case a => k_is); (case l => k_is); (case c => k_is); (case k => k_is)
      case b => exact fun _ _ _ _ _ _ us hl => match us, hl with | [_, _], _ => rfl
    case F_schedule_of_runs =>
      refine' Pg.fa_mk KX G ?a ?l ?c ?k ?b
      (case a => k_is); (case l => k_is); (case c => k_is); (case k => k_is)
      case b => exact fun _ _ _ _ _ _ us hl => match us, hl with | [_, _], _ => rfl
    case F_schedule_with_min_overwrites =>
      refine' Pg.fa_mk KX G ?a ?l ?c ?k ?b
      (case a => k_is); (case l => k_is); (case c => k_is); (case k => k_is)
      case b => exact fun _ _ _ _ _ _ us hl => match us, hl with | [_, _], _ => rfl
    case F__law_put =>
      refine' Pg.fa_mk KX G ?a ?l ?c ?k ?b
      (case a => k_is); (case l => k_is); (case c => k_is); (case k => k_is)
      case b => exact fun _ _ _ _ _ _ us hl => match us, hl with | [_, _], _ => rfl
    case F__law_begun =>
      refine' Pg.fa_mk KX G ?a ?l ?c ?k ?b
      (case a => k_is); (case l => k_is); (case c => k_is); (case k => k_is)
      case b => exact fun _ _ _ _ _ _ us hl => match us, hl with | [_], _ => rfl
    case F__law_laid =>
      refine' Pg.fa_mk KX G ?a ?l ?c ?k ?b
      (case a => k_is); (case l => k_is); (case c => k_is); (case k => k_is)
      case b => exact fun _ _ _ _ _ _ us hl => match us, hl with | [_, _, _, _], _ => rfl
    case F__law_step =>
      refine' Pg.fa_mk KX G ?a ?l ?c ?k ?b
      (case a => k_is); (case l => k_is); (case c => k_is); (case k => k_is)
      case b => exact fun _ _ _ _ _ _ us hl => match us, hl with | [_, _, _], _ => rfl
    case F__law_right =>
      refine' Pg.fa_mk KX G ?a ?l ?c ?k ?b
      (case a => k_is); (case l => k_is); (case c => k_is); (case k => k_is)
      case b => exact fun _ _ _ _ _ _ us hl => match us, hl with | [_, _], _ => rfl
    case z0_isinstance => k_is
    case z0_int => k_is
    case z0_bool => k_is
    case z0_str => k_is
    case z0_len => k_is
    case z0_type => k_is
    case z0_tuple => k_is
    case z0_list => k_is
    case z0_dict => k_is
    case z0_sorted => k_is
    case z0_abs => k_is
    case z0_range => k_is
    case z0_enumerate => k_is
    case z0_sum => k_is
    case z0_min => k_is
    case z0_max => k_is
    case z0_repr => k_is
    case g0_LONGEST_NAME => k_is
    case g1_LONGEST_NAME => rfl
    case g0_LARGEST_NUMBER => k_is
    case g1_LARGEST_NUMBER => rfl
    case g0_MOST_WRITERS => k_is
    case g1_MOST_WRITERS => rfl
    case a0 => k_is
    case l0 => k_is
    case c0 => k_is
    case k0 => k_is

