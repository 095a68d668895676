import PyProof.Rows.All
import Wide.All
import OpenK.AllK
import Wide.FinOn
import HandS.ForMost
import HandS.ForExc
import HandS.Steps
import HandS.Star
import HandS.Conv
import HandS.WideBits
import HandS.Codes
import HandS.ExcInit
import HandS.SetKeys
import HandS.Walk
import HandS.ExcCtx
import HandS.HotCalls
import HandS.Wide
import HandS.IsInst
import HandS.TupAny
import HandS.SortInts
import HandS.Gcd
import KE.SortData
import KE.DataCmp
import KE.KDictDisplayH
import HandS.TryOnly
import HandS.Text
import HandS.SetBool
import HandS.SetTxt0
import HandS.ExcIs
import HandS.ExcInitHot
import HandS.TupLen
import HandS.Dict
import HandS.HeadHook2
import HandS.HeadHook1
import HandS.HeadEnd
import HandS.Head3
import HandS.Ends
import HandS.ListItems
import KE.KDictPairs
import HandS.DictComp
import HandS.Flow
import HandS.ExcField
import HandS.ExcValue
import KE.KExcIs
import KE.KExcInit
import HandS.Comp
import PyProof.Rows.StrCase
import PySem.Challenge.RW_joinpast_k04_row_sets
set_option Elab.async false
set_option linter.all false
set_option maxRecDepth 100000
set_option maxHeartbeats 1000000
/-! Plain data over the abstract heap: what a value stands for, how the heap grows, what slots hold. -/
namespace DL
open PySem L2
/-- plain data -/
inductive D where
  | non | bl (b : Bool) | int (i : Int) | str (x : Str)
  | lst (ds : List D) | tup (ds : List D)
  | dk (ks : List Key) (ds : List D)
  | dt (ks : List (List Key)) (ds : List D)
  | ins (C : Addr) (ns : List Str) (ds : List D)
  | scr (ns : List Int)
  | ty (n : String)
  | cls (C : Addr)
  | tupZ (ds : List D)
  | exc (C : Addr) (ns : List Str) (ds : List D)
  | hx (a : Addr) (d : Option Addr) (ns : List Str) (ds : List D)
  | any
/-- an object that is a plain tuple -/
def GoodT (o : Obj) : Prop := o.cls = .type "tuple" ∧ o.dict = none ∧ ∃ its n, o.data = .seq its n
def Ex (H H' : Hp) : Prop := ∀ a o, H a = some o → H' a = some o
theorem Ex.refl (H : Hp) : Ex H H := fun _ _ h => h
theorem Ex.trans {H H1 H2 : Hp} (a : Ex H H1) (b : Ex H1 H2) : Ex H H2 := fun x o h => b x o (a x o h)
theorem Ex.back {H H1 : Hp} (a : Ex H H1) {p : Addr} (h : H1 p = none) : H p = none := by
  cases e : H p with
  | none => rfl
  | some o => rw [a p o e] at h; cases h
theorem Ex.rd {H H' : Hp} {a : Addr} {u : HO} (e : Ex H H') (h : Rd H a u) : Rd H' a u := by
  rcases h with h | ⟨o, h⟩
  · exact Or.inl (e a _ h)
  · exact Or.inr ⟨o, e a _ h⟩
theorem Ex.sl {K : PySem.W.Frag} {H H' : Hp} {a : Addr} {xs : List V} (e : Ex H H') (h : SqL K H a xs) : SqL K H' a xs := by
  rcases h with h | h
  · exact Or.inl (e.rd h)
  · exact Or.inr h
theorem Ex.st {K : PySem.W.Frag} {H H' : Hp} {a : Addr} {xs : List V} (e : Ex H H') (h : SqT K H a xs) : SqT K H' a xs := by
  rcases h with h | h
  · exact Or.inl (e.rd h)
  · exact Or.inr h
/-- a dict that a loop has locked is the same dict -/
def str1 : HO → HO
  | .frz _ (.dK k) => .dK k
  | .frz _ (.dT k) => .dT k
  | o => o
def tupO : HO → Bool
  | .tup _ => true
  | .xd _ => true
  | _ => false
theorem str1_frzT {o : HO} {ob : Obj} {xs : List V} (h : str1 o = .frz ob (.tup xs)) : o = .frz ob (.tup xs) := by
  unfold str1 at h; split at h <;> first | exact h | cases h
def Tol (H H' : Hp) : Prop := ∀ a o, H a = some o → ∃ o', H' a = some o' ∧ str1 o' = str1 o
theorem Ex.tol {H H' : Hp} (e : Ex H H') : Tol H H' := fun a o h => ⟨o, e a o h, rfl⟩
theorem str1_lst {o : HO} {xs : List V} (h : str1 o = .lst xs) : o = .lst xs := by
  unfold str1 at h; split at h <;> first | exact h | cases h
theorem str1_tup {o : HO} {xs : List V} (h : str1 o = .tup xs) : o = .tup xs := by
  unfold str1 at h; split at h <;> first | exact h | cases h
theorem str1_ins {o : HO} {C dx : Addr} {xs : List (Str × V)} (h : str1 o = .ins C dx xs) : o = .ins C dx xs := by
  unfold str1 at h; split at h <;> first | exact h | cases h
theorem str1_ext {o : HO} {φ : Heap → Prop} (h : str1 o = .ext φ) : o = .ext φ := by
  unfold str1 at h; split at h <;> first | exact h | cases h
theorem str1_xd {o : HO} {fv : List (Str × V)} (h : str1 o = .xd fv) : o = .xd fv := by
  unfold str1 at h; split at h <;> first | exact h | cases h
theorem str1_scr {o : HO} {ob : Obj} {xs : List V} (h : str1 o = .frz ob (.lst xs)) : o = .frz ob (.lst xs) := by
  unfold str1 at h; split at h <;> first | exact h | cases h
theorem Tol.lst {H H' : Hp} (e : Tol H H') {a : Addr} {xs : List V} (h : H a = some (.lst xs)) : H' a = some (.lst xs) := by
  obtain ⟨o, h1, h2⟩ := e a _ h; rw [h1, str1_lst h2]
theorem Tol.tup {H H' : Hp} (e : Tol H H') {a : Addr} {xs : List V} (h : H a = some (.tup xs)) : H' a = some (.tup xs) := by
  obtain ⟨o, h1, h2⟩ := e a _ h; rw [h1, str1_tup h2]
theorem Tol.frzT {H H' : Hp} (e : Tol H H') {a : Addr} {ob : Obj} {xs : List V} (h : H a = some (.frz ob (.tup xs))) : H' a = some (.frz ob (.tup xs)) := by
  obtain ⟨o, h1, h2⟩ := e a _ h; rw [h1, str1_frzT h2]
theorem Tol.ins {H H' : Hp} (e : Tol H H') {a C dx : Addr} {xs : List (Str × V)} (h : H a = some (.ins C dx xs)) : H' a = some (.ins C dx xs) := by
  obtain ⟨o, h1, h2⟩ := e a _ h; rw [h1, str1_ins h2]
theorem Tol.ext {H H' : Hp} (e : Tol H H') {a : Addr} {φ : Heap → Prop} (h : H a = some (.ext φ)) : H' a = some (.ext φ) := by
  obtain ⟨o, h1, h2⟩ := e a _ h; rw [h1, str1_ext h2]
theorem Tol.xd {H H' : Hp} (e : Tol H H') {a : Addr} {fv : List (Str × V)} (h : H a = some (.xd fv)) : H' a = some (.xd fv) := by
  obtain ⟨o, h1, h2⟩ := e a _ h; rw [h1, str1_xd h2]
theorem Tol.sl {K : PySem.W.Frag} {H H' : Hp} {a : Addr} {xs : List V} (e : Tol H H') (h : SqL K H a xs) : SqL K H' a xs := by
  rcases h with (h | ⟨ob, h⟩) | h
  · exact .inl (.inl (e.lst h))
  · obtain ⟨o, h1, h2⟩ := e a _ h
    rw [str1_scr h2] at h1
    exact .inl (.inr ⟨ob, h1⟩)
  · exact .inr h
mutual
/-- the value v stands for the datum, over the frozen heap F -/
inductive Rep (K : PySem.W.Frag) (F : Hp) : V → D → Prop
  | non : Rep K F .non .non
  | bl (b : Bool) : Rep K F (.bl b) (.bl b)
  | int (i : Int) : Rep K F (.int i) (.int i)
  | str (x : Str) : Rep K F (.str x) (.str x)
  | ty (n : String) : Rep K F (.ty n) (.ty n)
  | cls (C : Addr) : Rep K F (.ref C) (.cls C)
  | lst {a : Addr} {vs : List V} {ds : List D} (h : F a = some (.lst vs)) (r : Reps K F vs ds) : Rep K F (.ref a) (.lst ds)
  | scr {a : Addr} {ns : List Int} (h : SqL K F a (ns.map V.int)) : Rep K F (.ref a) (.scr ns)
  | tup {a : Addr} {vs : List V} {ds : List D} (h : F a = some (.tup vs)) (r : Reps K F vs ds) : Rep K F (.ref a) (.tup ds)
  | tupZ {a : Addr} {ob : Obj} {vs : List V} {ds : List D} (h : F a = some (.frz ob (.tup vs))) (g : GoodT ob) (r : Reps K F vs ds) : Rep K F (.ref a) (.tupZ ds)
  | dk {a : Addr} {o : HO} {ks : List Key} {vs : List V} {ds : List D} (h : F a = some o) (hs : str1 o = .dK (ks.zip vs)) (l : ks.length = vs.length) (r : Reps K F vs ds) : Rep K F (.ref a) (.dk ks ds)
  | dt {a : Addr} {o : HO} {ks : List (List Key)} {vs : List V} {ds : List D} (h : F a = some o) (hs : str1 o = .dT (ks.zip vs)) (l : ks.length = vs.length) (r : Reps K F vs ds) : Rep K F (.ref a) (.dt ks ds)
  | ins {a C dx : Addr} {ns : List Str} {vs : List V} {ds : List D} (h : F a = some (.ins C dx (ns.zip vs))) (l : ns.length = vs.length) (r : Reps K F vs ds) : Rep K F (.ref a) (.ins C ns ds)
  | exc0 {a C : Addr} (h : F a = some (exo a C none)) : Rep K F (.ref a) (.exc C [] [])
  | exc {a C dx : Addr} {ns : List Str} {vs : List V} {ds : List D} (h : F a = some (exo a C (some dx))) (h' : F dx = some (exd dx (ns.zip vs))) (l : ns.length = vs.length) (r : Reps K F vs ds) : Rep K F (.ref a) (.exc C ns ds)
  | hx0 {a : Addr} : Rep K F (.ref a) (.hx a none [] [])
  | hx {a dx : Addr} {fv : List (Str × V)} {ns : List Str} {vs : List V} {ds : List D} (h : F dx = some (.xd fv)) (hl : ∀ (i : Nat) (f : Str) (v : V), ns[i]? = some f → vs[i]? = some v → fv.lookup f = some v) (l : ns.length = vs.length) (r : Reps K F vs ds) : Rep K F (.ref a) (.hx a (some dx) ns ds)
  | any (v : V) : Rep K F v .any
inductive Reps (K : PySem.W.Frag) (F : Hp) : List V → List D → Prop
  | nil : Reps K F [] []
  | cons {v : V} {d : D} {vs : List V} {ds : List D} (h : Rep K F v d) (r : Reps K F vs ds) : Reps K F (v :: vs) (d :: ds)
end
section
variable {K : PySem.W.Frag} {F F' : Hp}
mutual
theorem Rep.tol (e : Tol F F') : ∀ {v : V} {d : D}, Rep K F v d → Rep K F' v d
  | _, _, .non => .non
  | _, _, .bl b => .bl b
  | _, _, .int i => .int i
  | _, _, .str x => .str x
  | _, _, .ty n => .ty n
  | _, _, .cls C => .cls C
  | _, _, .lst h r => .lst (e.lst h) (Reps.tol e r)
  | _, _, .scr h => .scr (e.sl h)
  | _, _, .tup h r => .tup (e.tup h) (Reps.tol e r)
  | _, _, .tupZ h g r => .tupZ (e.frzT h) g (Reps.tol e r)
  | _, _, .dk h hs l r => by
    obtain ⟨o', h1, h2⟩ := e _ _ h
    exact .dk h1 (h2.trans hs) l (Reps.tol e r)
  | _, _, .dt h hs l r => by
    obtain ⟨o', h1, h2⟩ := e _ _ h
    exact .dt h1 (h2.trans hs) l (Reps.tol e r)
  | _, _, .ins h l r => .ins (e.ins h) l (Reps.tol e r)
  | _, _, .exc0 h => .exc0 (e.ext h)
  | _, _, .exc h h' l r => .exc (e.ext h) (e.ext h') l (Reps.tol e r)
  | _, _, .hx0 => .hx0
  | _, _, .hx h hl l r => .hx (e.xd h) hl l (Reps.tol e r)
  | _, _, .any v => .any v
theorem Reps.tol (e : Tol F F') : ∀ {vs : List V} {ds : List D}, Reps K F vs ds → Reps K F' vs ds
  | _, _, .nil => .nil
  | _, _, .cons h r => .cons (Rep.tol e h) (Reps.tol e r)
end
theorem Rep.mono (e : Ex F F') {v : V} {d : D} (h : Rep K F v d) : Rep K F' v d := h.tol e.tol
theorem Reps.mono (e : Ex F F') {vs : List V} {ds : List D} (h : Reps K F vs ds) : Reps K F' vs ds := h.tol e.tol
theorem Reps.length : ∀ {vs : List V} {ds : List D}, Reps K F vs ds → vs.length = ds.length
  | _, _, .nil => rfl
  | _, _, .cons _ r => congrArg (· + 1) r.length
theorem Reps.append : ∀ {vs us : List V} {ds es : List D}, Reps K F vs ds → Reps K F us es → Reps K F (vs ++ us) (ds ++ es)
  | _, _, _, _, .nil, s => s
  | _, _, _, _, .cons h r, s => .cons h (r.append s)
theorem Reps.get : ∀ {vs : List V} {ds : List D}, Reps K F vs ds → ∀ {i : Nat} {v : V}, vs[i]? = some v → ∃ d, ds[i]? = some d ∧ Rep K F v d
  | _, _, .nil, i, v, h => by simp at h
  | _, _, .cons (d := d) h r, 0, v, e => by
    simp at e; subst e; exact ⟨d, rfl, h⟩
  | _, _, .cons h r, i + 1, v, e => by
    obtain ⟨d, e1, e2⟩ := r.get (i := i) (by simpa using e)
    exact ⟨d, by simpa using e1, e2⟩
theorem Reps.getD : ∀ {vs : List V} {ds : List D}, Reps K F vs ds → ∀ {i : Nat} {d : D}, ds[i]? = some d → ∃ v, vs[i]? = some v ∧ Rep K F v d
  | _, _, .nil, i, v, h => by simp at h
  | _, _, .cons (v := v) h r, 0, d, e => by
    simp at e; subst e; exact ⟨v, rfl, h⟩
  | _, _, .cons h r, i + 1, v, e => by
    obtain ⟨d, e1, e2⟩ := r.getD (i := i) (by simpa using e)
    exact ⟨d, by simpa using e1, e2⟩
theorem Reps.take : ∀ {vs : List V} {ds : List D} (n : Nat), Reps K F vs ds → Reps K F (vs.take n) (ds.take n)
  | _, _, 0, _ => by simp; exact .nil
  | _, _, n + 1, .nil => by simp; exact .nil
  | _, _, n + 1, .cons h r => by simp; exact .cons h (r.take n)
theorem Reps.drop : ∀ {vs : List V} {ds : List D} (n : Nat), Reps K F vs ds → Reps K F (vs.drop n) (ds.drop n)
  | _, _, 0, r => by simpa using r
  | _, _, n + 1, .nil => by simp; exact .nil
  | _, _, n + 1, .cons h r => by simp; exact r.drop n
theorem Reps.set {v : V} {d : D} (h0 : Rep K F v d) : ∀ {vs : List V} {ds : List D} (n : Nat), Reps K F vs ds → Reps K F (vs.set n v) (ds.set n d)
  | _, _, _, .nil => .nil
  | _, _, 0, .cons h r => .cons h0 r
  | _, _, n + 1, .cons h r => .cons h (Reps.set h0 n r)
theorem Reps.ints {ns : List Int} : Reps K F (ns.map V.int) (ns.map D.int) := by
  induction ns with
  | nil => exact .nil
  | cons n r ih => exact .cons (.int n) ih
theorem Reps.ints_inv : ∀ {vs : List V} {ns : List Int}, Reps K F vs (ns.map D.int) → vs = ns.map V.int
  | vs, [], h => by
    cases h; rfl
  | vs, n :: ns, h => by
    cases h with
    | cons h r =>
      cases h
      rw [r.ints_inv]; rfl
theorem Reps.strs {ns : List Str} : Reps K F (ns.map V.str) (ns.map D.str) := by
  induction ns with
  | nil => exact .nil
  | cons n r ih => exact .cons (.str n) ih
theorem Reps.strs_inv : ∀ {vs : List V} {ns : List Str}, Reps K F vs (ns.map D.str) → vs = ns.map V.str
  | vs, [], h => by
    cases h; rfl
  | vs, n :: ns, h => by
    cases h with
    | cons h r =>
      cases h
      rw [r.strs_inv]; rfl
end
/-! ### pairs of keys and values -/
/-- a pair list with values, and with data -/
inductive KR {κ : Type} (K : PySem.W.Frag) (F : Hp) : List (κ × V) → List (κ × D) → Prop
  | nil : KR K F [] []
  | cons {k : κ} {v : V} {d : D} {ws : List (κ × V)} {kvs : List (κ × D)} (h : Rep K F v d) (r : KR K F ws kvs) : KR K F ((k, v) :: ws) ((k, d) :: kvs)
/-- in its place, or at the end; what stands under a key -/
def gput {κ β : Type} [DecidableEq κ] : List (κ × β) → κ → β → List (κ × β)
  | [], k, b => [(k, b)]
  | p :: r, k, b => if p.1 = k then (k, b) :: r else p :: gput r k b
def gget {κ β : Type} [DecidableEq κ] : List (κ × β) → κ → Option β
  | [], _ => none
  | p :: r, k => if p.1 = k then some p.2 else gget r k
theorem zip_self {α β : Type} : ∀ l : List (α × β), (l.map (·.1)).zip (l.map (·.2)) = l
  | [] => rfl
  | p :: r => by rw [List.map_cons, List.map_cons, List.zip_cons_cons, zip_self r]
section
variable {κ : Type} {K : PySem.W.Frag} {F F' : Hp}
theorem KR.tol (e : Tol F F') : ∀ {ws : List (κ × V)} {kvs : List (κ × D)}, KR K F ws kvs → KR K F' ws kvs
  | _, _, .nil => .nil
  | _, _, .cons h r => .cons (h.tol e) (r.tol e)
theorem KR.mono (e : Ex F F') {ws : List (κ × V)} {kvs : List (κ × D)} (h : KR K F ws kvs) : KR K F' ws kvs := h.tol e.tol
theorem KR.keys : ∀ {ws : List (κ × V)} {kvs : List (κ × D)}, KR K F ws kvs → ws.map (·.1) = kvs.map (·.1)
  | _, _, .nil => rfl
  | _, _, .cons h r => by rw [List.map_cons, List.map_cons, r.keys]
theorem KR.vals : ∀ {ws : List (κ × V)} {kvs : List (κ × D)}, KR K F ws kvs → Reps K F (ws.map (·.2)) (kvs.map (·.2))
  | _, _, .nil => .nil
  | _, _, .cons h r => .cons h r.vals
theorem KR.length {ws : List (κ × V)} {kvs : List (κ × D)} (h : KR K F ws kvs) : ws.length = kvs.length := by
  have := congrArg List.length h.keys; simpa using this
theorem KR.at : ∀ {ws : List (κ × V)} {kvs : List (κ × D)}, KR K F ws kvs → ∀ {i : Nat} {k : κ} {v : V}, ws[i]? = some (k, v) → ∃ d, kvs[i]? = some (k, d) ∧ Rep K F v d
  | _, _, .nil, i, k, v, h => by simp at h
  | _, _, .cons (d := d) h r, 0, k, v, e => by
    simp at e; obtain ⟨rfl, rfl⟩ := e; exact ⟨d, rfl, h⟩
  | _, _, .cons h r, i + 1, k, v, e => by
    obtain ⟨d, e1, e2⟩ := r.at (i := i) (by simpa using e)
    exact ⟨d, by simpa using e1, e2⟩
theorem KR.of : ∀ {ks : List κ} {vs : List V} {ds : List D}, ks.length = vs.length → Reps K F vs ds → KR K F (ks.zip vs) (ks.zip ds)
  | [], vs, ds, _, _ => .nil
  | k :: ks, _, _, l, .nil => by cases l
  | k :: ks, _, _, l, .cons h r => .cons h (KR.of (by simpa using l) r)
theorem putK_eq [DecidableEq κ] (k : κ) (v : V) : ∀ ws : List (κ × V), (ws.map (·.1)).Nodup → putK ws k v = gput ws k v
  | [], _ => rfl
  | p :: r, nd => by
    have nd' := List.nodup_cons.mp nd
    have ih := putK_eq k v r nd'.2
    unfold putK at ih ⊢
    by_cases e : p.1 = k
    · have no : ∀ q ∈ r, ¬ q.1 = k := fun q hq z => nd'.1 (by show p.1 ∈ _; rw [e, ← z]; exact List.mem_map_of_mem hq)
      have id : r.map (fun kv => if kv.1 = k then (kv.1, v) else kv) = r := by
        clear ih nd nd'
        induction r with
        | nil => rfl
        | cons q r ih2 => rw [List.map_cons, if_neg (no q List.mem_cons_self), ih2 fun x hx => no x (List.mem_cons_of_mem _ hx)]
      rw [List.any_cons, decide_eq_true e, Bool.true_or, if_pos rfl, List.map_cons, if_pos e, id]
      unfold gput
      rw [if_pos e, e]
    · rw [List.any_cons, decide_eq_false e, Bool.false_or, List.map_cons, if_neg e]
      unfold gput
      rw [if_neg e, ← ih]
      split <;> rfl
theorem valV_eq [DecidableEq κ] (k : κ) : ∀ ws : List (κ × V), valV ws k = gget ws k
  | [] => rfl
  | p :: r => by
    by_cases e : p.1 = k
    · rw [valV_pos e]; unfold gget; rw [if_pos e]
    · rw [valV_neg e, valV_eq k r]; conv => rhs; unfold gget; rw [if_neg e]
theorem KR.put [DecidableEq κ] {k : κ} {v : V} {d : D} (h : Rep K F v d) : ∀ {ws : List (κ × V)} {kvs : List (κ × D)}, KR K F ws kvs → KR K F (gput ws k v) (gput kvs k d)
  | _, _, .nil => .cons h .nil
  | _, _, .cons (k := k') h' r => by
    unfold gput
    by_cases e : k' = k
    · rw [if_pos e, if_pos e]; exact .cons h r
    · rw [if_neg e, if_neg e]; exact .cons h' (KR.put h r)
theorem KR.get [DecidableEq κ] {k : κ} : ∀ {ws : List (κ × V)} {kvs : List (κ × D)}, KR K F ws kvs → (gget ws k = none ∧ gget kvs k = none) ∨ ∃ v d, gget ws k = some v ∧ gget kvs k = some d ∧ Rep K F v d
  | _, _, .nil => .inl ⟨rfl, rfl⟩
  | _, _, .cons (k := k') h' r => by
    unfold gget
    by_cases e : k' = k
    · rw [if_pos e, if_pos e]; exact .inr ⟨_, _, rfl, rfl, h'⟩
    · rw [if_neg e, if_neg e]; exact r.get
theorem gput_keys {β : Type} [DecidableEq κ] (k : κ) (b : β) : ∀ kvs : List (κ × β), (kvs.map (·.1)).Nodup → ((gput kvs k b).map (·.1)).Nodup ∧ ∀ x, x ∈ (gput kvs k b).map (·.1) ↔ x = k ∨ x ∈ kvs.map (·.1)
  | [], _ => ⟨by simp [gput], fun x => by simp [gput]⟩
  | p :: r, nd => by
    have nd' := List.nodup_cons.mp nd
    obtain ⟨h1, h2⟩ := gput_keys k b r nd'.2
    unfold gput
    by_cases e : p.1 = k
    · rw [if_pos e]
      refine ⟨by rw [List.map_cons]; exact List.nodup_cons.mpr ⟨by show k ∉ _; rw [← e]; exact nd'.1, nd'.2⟩, fun x => ?_⟩
      rw [List.map_cons, List.map_cons, List.mem_cons, List.mem_cons, e]
      constructor
      · rintro (h | h)
        · exact .inl h
        · exact .inr (.inr h)
      · rintro (h | h | h)
        · exact .inl h
        · exact .inl h
        · exact .inr h
    · rw [if_neg e]
      refine ⟨?_, fun x => ?_⟩
      · rw [List.map_cons]
        refine List.nodup_cons.mpr ⟨fun z => ?_, h1⟩
        rcases (h2 _).mp z with z | z
        · exact e z
        · exact nd'.1 z
      · rw [List.map_cons, List.map_cons, List.mem_cons, List.mem_cons, h2]
        constructor
        · rintro (h | h | h)
          · exact .inr (.inl h)
          · exact .inl h
          · exact .inr (.inr h)
        · rintro (h | h | h)
          · exact .inr (.inl h)
          · exact .inl h
          · exact .inr (.inr h)
theorem gput_length {β : Type} [DecidableEq κ] (k : κ) (b : β) : ∀ kvs : List (κ × β), (gput kvs k b).length ≤ kvs.length + 1
  | [] => by simp [gput]
  | p :: r => by
    have := gput_length k b r
    unfold gput
    split
    · simp
    · simp; exact this
end
/-- the frozen part F and the heap H grow: new frozen objects are new; what is tracked stays -/
structure Gr (F H F' H' : Hp) : Prop where
  f : Ex F F'
  h : Ex H H'
  s : Ex F' H'
  n : ∀ p o, H p = some o → tupO o = false → F p = none → F' p = none
theorem Gr.refl {F H : Hp} (e : Ex F H) : Gr F H F H := ⟨Ex.refl F, Ex.refl H, e, fun _ _ _ _ h => h⟩
theorem Gr.trans {F H F1 H1 F2 H2 : Hp} (a : Gr F H F1 H1) (b : Gr F1 H1 F2 H2) : Gr F H F2 H2 :=
  ⟨a.f.trans b.f, a.h.trans b.h, b.s, fun p o h1 t h2 => b.n p o (a.h p o h1) t (a.n p o h1 t h2)⟩
theorem Ex.updB {F H : Hp} (e : Ex F H) {p : Addr} {o : HO} : Ex (upd F p o) (upd H p o) := fun a u h => by
  by_cases z : a = p
  · subst z; rw [upd_same] at h ⊢; exact h
  · rw [upd_ne z] at h ⊢; exact e a u h
theorem Ex.new {H : Hp} {p : Addr} {o : HO} (h : H p = none) : Ex H (L2.upd H p o) := fun a u e => by
  rw [upd_ne (ne_of_none e h)]; exact e
theorem Ex.mut {H H' : Hp} {p : Addr} {o : HO} (e : Ex H H') (h : H p = none) : Ex H (L2.upd H' p o) := fun a u ha => by
  rw [upd_ne (ne_of_none ha h)]; exact e a u ha
theorem Gr.new {F H : Hp} (e : Ex F H) {p : Addr} {o : HO} (h : H p = none) : Gr F H (upd F p o) (upd H p o) :=
  ⟨Ex.new (e.back h), Ex.new h, e.updB, fun q u h1 _ h2 => by rw [upd_ne (ne_of_none h1 h)]; exact h2⟩
/-- a new object that is not frozen -/
theorem Gr.own {F H : Hp} (e : Ex F H) {p : Addr} {o : HO} (h : H p = none) : Gr F H F (upd H p o) :=
  ⟨Ex.refl F, Ex.new h, e.mut (e.back h), fun q u _ _ h2 => h2⟩
/-- a new object is frozen later -/
theorem Gr.freeze {F H F' H' : Hp} (g : Gr F H F' H') {p : Addr} {o : HO} (h : H p = none) (hf : F' p = none) (h' : H' p = some o) : Gr F H (upd F' p o) H' :=
  ⟨g.f.trans (Ex.new hf), g.h, fun a u e => by
    by_cases z : a = p
    · subst z; rw [upd_same] at e; cases e; exact h'
    · rw [upd_ne z] at e; exact g.s a u e, fun q u h1 t h2 => by rw [upd_ne (ne_of_none h1 h)]; exact g.n q u h1 t h2⟩
/-- a tuple that stands is known -/
theorem Gr.tup {F H : Hp} (e : Ex F H) {q : Addr} {vs : List V} (h : H q = some (.tup vs)) : ∃ F', Gr F H F' H ∧ F' q = some (.tup vs) := by
  cases z : F q with
  | some o =>
    have := e q o z
    rw [h] at this; cases this
    exact ⟨F, .refl e, z⟩
  | none =>
    refine ⟨L2.upd F q (.tup vs), ⟨Ex.new z, Ex.refl H, fun a u w => ?_, fun p o h1 t h2 => ?_⟩, upd_same⟩
    · by_cases y : a = q
      · subst y; rw [upd_same] at w; cases w; exact h
      · rw [upd_ne y] at w; exact e a u w
    · by_cases y : p = q
      · subst y; rw [h] at h1; cases h1; cases t
      · rw [upd_ne y]; exact h2
/-- an exception's dict that stands is known -/
theorem Gr.xd {F H : Hp} (e : Ex F H) {q : Addr} {vs : List (Str × V)} (h : H q = some (.xd vs)) : ∃ F', Gr F H F' H ∧ F' q = some (.xd vs) := by
  cases z : F q with
  | some o =>
    have := e q o z
    rw [h] at this; cases this
    exact ⟨F, .refl e, z⟩
  | none =>
    refine ⟨L2.upd F q (.xd vs), ⟨Ex.new z, Ex.refl H, fun a u w => ?_, fun p o h1 t h2 => ?_⟩, upd_same⟩
    · by_cases y : a = q
      · subst y; rw [upd_same] at w; cases w; exact h
      · rw [upd_ne y] at w; exact e a u w
    · by_cases y : p = q
      · subst y; rw [h] at h1; cases h1; cases t
      · rw [upd_ne y]; exact h2
/-- what a slot holds: nothing known, a datum, an own list or dict that still changes -/
inductive Sl where
  | no | d (x : D) | ol (xs : List D) | ok (kvs : List (Key × D)) | ot (kvs : List (List Key × D)) | oo (f : Addr → HO)
def Sl.own : Sl → Bool
  | .ol _ => true
  | .ok _ => true
  | .ot _ => true
  | .oo _ => true
  | _ => false
def OwnR (K : PySem.W.Frag) (H0 F H : Hp) (p : Addr) : Sl → Prop
  | .ol xs => H0 p = none ∧ F p = none ∧ ∃ vs, H p = some (.lst vs) ∧ Reps K F vs xs
  | .ok kvs => H0 p = none ∧ F p = none ∧ ∃ ws, H p = some (.dK ws) ∧ (kvs.map (·.1)).Nodup ∧ KR K F ws kvs
  | .ot kvs => H0 p = none ∧ F p = none ∧ ∃ ws, H p = some (.dT ws) ∧ (kvs.map (·.1)).Nodup ∧ KR K F ws kvs
  | .oo f => H0 p = none ∧ F p = none ∧ H p = some (f p) ∧ tupO (f p) = false
  | _ => False
def SlR (K : PySem.W.Frag) (H0 F H : Hp) (o : Option V) : Sl → Prop
  | .no => True
  | .d x => ∃ v, o = some v ∧ Rep K F v x
  | .ol xs => ∃ p, o = some (.ref p) ∧ OwnR K H0 F H p (.ol xs)
  | .ok kvs => ∃ p, o = some (.ref p) ∧ OwnR K H0 F H p (.ok kvs)
  | .ot kvs => ∃ p, o = some (.ref p) ∧ OwnR K H0 F H p (.ot kvs)
  | .oo f => ∃ p, o = some (.ref p) ∧ OwnR K H0 F H p (.oo f)
theorem SlR.own {K : PySem.W.Frag} {H0 F H : Hp} {o : Option V} {x : Sl} (h : x.own = true) : SlR K H0 F H o x ↔ ∃ p, o = some (.ref p) ∧ OwnR K H0 F H p x := by
  cases x <;> first | exact Iff.rfl | cases h
/-- the state of a def's body: (F0, H0) at its entry, (F, H) now, the slots -/
structure RelS (K : PySem.W.Frag) (F0 H0 F H : Hp) (σ : St) (ρ : List Sl) : Prop where
  gr : Gr F0 H0 F H
  len : σ.length = ρ.length
  sl : ∀ (i : Nat) (x : Sl) (o : Option V), ρ[i]? = some x → σ[i]? = some o → SlR K H0 F H o x
  ne : ∀ (i j : Nat) (x y : Sl) (p : Addr), ρ[i]? = some x → ρ[j]? = some y → x.own = true → y.own = true → σ[i]? = some (some (.ref p)) → σ[j]? = some (some (.ref p)) → i = j
section
variable {K : PySem.W.Frag} {F0 H0 F H F' H' : Hp} {σ : St} {ρ : List Sl}
theorem OwnR.grow (g : Gr F H F' H') {p : Addr} {x : Sl} (h : OwnR K H0 F H p x) : OwnR K H0 F' H' p x := by
  cases x with
  | no => exact h
  | d x => exact h
  | ol xs => obtain ⟨a, b, vs, c, d⟩ := h; exact ⟨a, g.n p _ c rfl b, vs, g.h p _ c, d.mono g.f⟩
  | ok kvs => obtain ⟨a, b, vs, c, n, d⟩ := h; exact ⟨a, g.n p _ c rfl b, vs, g.h p _ c, n, d.mono g.f⟩
  | ot kvs => obtain ⟨a, b, vs, c, n, d⟩ := h; exact ⟨a, g.n p _ c rfl b, vs, g.h p _ c, n, d.mono g.f⟩
  | oo f => obtain ⟨a, b, c, t⟩ := h; exact ⟨a, g.n p _ c t b, g.h p _ c, t⟩
theorem SlR.grow (g : Gr F H F' H') {o : Option V} {x : Sl} (h : SlR K H0 F H o x) : SlR K H0 F' H' o x := by
  cases x with
  | no => trivial
  | d x => obtain ⟨v, e, r⟩ := h; exact ⟨v, e, r.mono g.f⟩
  | ol xs => obtain ⟨p, e, r⟩ := h; exact ⟨p, e, r.grow g⟩
  | ok kvs => obtain ⟨p, e, r⟩ := h; exact ⟨p, e, r.grow g⟩
  | ot kvs => obtain ⟨p, e, r⟩ := h; exact ⟨p, e, r.grow g⟩
  | oo f => obtain ⟨p, e, r⟩ := h; exact ⟨p, e, r.grow g⟩
theorem RelS.grow (r : RelS K F0 H0 F H σ ρ) (g : Gr F H F' H') : RelS K F0 H0 F' H' σ ρ :=
  ⟨r.gr.trans g, r.len, fun i x o h1 h2 => (r.sl i x o h1 h2).grow g, r.ne⟩
theorem RelS.at (r : RelS K F0 H0 F H σ ρ) {i : Nat} {x : Sl} (h : ρ[i]? = some x) : ∃ o, σ[i]? = some o ∧ SlR K H0 F H o x := by
  have hi : i < σ.length := by rw [r.len]; exact (List.getElem?_eq_some_iff.mp h).1
  exact ⟨σ[i], List.getElem?_eq_getElem hi, r.sl i x _ h (List.getElem?_eq_getElem hi)⟩
theorem RelS.get (r : RelS K F0 H0 F H σ ρ) {i : Nat} {x : D} (h : ρ[i]? = some (.d x)) : ∃ v, σ[i]? = some (some v) ∧ Rep K F v x := by
  obtain ⟨o, h1, v, rfl, h2⟩ := r.at h
  exact ⟨v, h1, h2⟩
theorem RelS.getOwn (r : RelS K F0 H0 F H σ ρ) {i : Nat} {x : Sl} (h : ρ[i]? = some x) (hx : x.own = true) : ∃ p, σ[i]? = some (some (.ref p)) ∧ OwnR K H0 F H p x := by
  obtain ⟨o, h1, h2⟩ := r.at h
  obtain ⟨p, rfl, h3⟩ := (SlR.own hx).mp h2
  exact ⟨p, h1, h3⟩
theorem get_set {α : Type} {l : List α} {i j : Nat} {a b : α} (h : (l.set i a)[j]? = some b) : (i = j ∧ a = b) ∨ (i ≠ j ∧ l[j]? = some b) := by
  by_cases e : i = j
  · subst e
    by_cases hi : i < l.length
    · rw [List.getElem?_set_self hi] at h; cases h; exact .inl ⟨rfl, rfl⟩
    · rw [List.getElem?_eq_none (by rw [List.length_set]; omega)] at h; cases h
  · rw [List.getElem?_set_ne e] at h; exact .inr ⟨e, h⟩
/-- a slot is given a datum -/
theorem RelS.set (r : RelS K F0 H0 F H σ ρ) (i : Nat) {v : V} {x : D} (h : Rep K F v x) : RelS K F0 H0 F H (σ.set i (some v)) (ρ.set i (.d x)) := by
  refine ⟨r.gr, by rw [List.length_set, List.length_set]; exact r.len, fun j y o h1 h2 => ?_, fun j k y z p h1 h2 o1 o2 h3 h4 => ?_⟩
  · rcases get_set h1 with ⟨e, rfl⟩ | ⟨e, h1⟩
    · rcases get_set h2 with ⟨_, rfl⟩ | ⟨e', _⟩
      · exact ⟨v, rfl, h⟩
      · exact absurd e e'
    · rcases get_set h2 with ⟨e', _⟩ | ⟨_, h2⟩
      · exact absurd e' e
      · exact r.sl j y o h1 h2
  · rcases get_set h1 with ⟨e, rfl⟩ | ⟨e, h1⟩
    · cases o1
    · rcases get_set h2 with ⟨e, rfl⟩ | ⟨e', h2⟩
      · cases o2
      · rcases get_set h3 with ⟨e3, _⟩ | ⟨_, h3⟩
        · exact absurd e3 e
        · rcases get_set h4 with ⟨e4, _⟩ | ⟨_, h4⟩
          · exact absurd e4 e'
          · exact r.ne j k y z p h1 h2 o1 o2 h3 h4
/-- a slot is given a new own object that no other slot owns -/
theorem RelS.setOwn (r : RelS K F0 H0 F H σ ρ) (i : Nat) {p : Addr} {x : Sl} (hx : x.own = true) (h : OwnR K H0 F H p x) (hp : ∀ (j : Nat) (y : Sl), ρ[j]? = some y → y.own = true → j ≠ i → σ[j]? ≠ some (some (.ref p))) :
    RelS K F0 H0 F H (σ.set i (some (.ref p))) (ρ.set i x) := by
  refine ⟨r.gr, by rw [List.length_set, List.length_set]; exact r.len, fun j y o h1 h2 => ?_, fun j k y z q h1 h2 o1 o2 h3 h4 => ?_⟩
  · rcases get_set h1 with ⟨e, rfl⟩ | ⟨e, h1⟩
    · rcases get_set h2 with ⟨_, rfl⟩ | ⟨e', _⟩
      · exact (SlR.own hx).mpr ⟨p, rfl, h⟩
      · exact absurd e e'
    · rcases get_set h2 with ⟨e', _⟩ | ⟨_, h2⟩
      · exact absurd e' e
      · exact r.sl j y o h1 h2
  · rcases get_set h3 with ⟨e3, e3'⟩ | ⟨e3, h3⟩
    · rcases get_set h4 with ⟨e4, _⟩ | ⟨e4, h4⟩
      · omega
      · rcases get_set h2 with ⟨e2, _⟩ | ⟨_, h2⟩
        · exact absurd e2 e4
        · cases e3'
          exact absurd h4 (hp k z h2 o2 (Ne.symm e4))
    · rcases get_set h1 with ⟨e1, _⟩ | ⟨_, h1⟩
      · exact absurd e1 e3
      · rcases get_set h4 with ⟨e4, e4'⟩ | ⟨e4, h4⟩
        · cases e4'
          exact absurd h3 (hp j y h1 o1 (Ne.symm e3))
        · rcases get_set h2 with ⟨e2, _⟩ | ⟨_, h2⟩
          · exact absurd e2 e4
          · exact r.ne j k y z q h1 h2 o1 o2 h3 h4
theorem OwnR.tells {p : Addr} {x : Sl} (h : OwnR K H0 F H p x) : H0 p = none ∧ F p = none ∧ ∃ o, H p = some o := by
  cases x with
  | no => exact h.elim
  | d x => exact h.elim
  | ol xs => obtain ⟨a, b, vs, c, _⟩ := h; exact ⟨a, b, _, c⟩
  | ok kvs => obtain ⟨a, b, vs, c, _⟩ := h; exact ⟨a, b, _, c⟩
  | ot kvs => obtain ⟨a, b, vs, c, _⟩ := h; exact ⟨a, b, _, c⟩
  | oo f => obtain ⟨a, b, c, _⟩ := h; exact ⟨a, b, _, c⟩
theorem RelS.ex (r : RelS K F0 H0 F H σ ρ) : Ex F H := r.gr.s
/-- another object at p: what does not own p stands -/
theorem OwnR.other {p q : Addr} {o : HO} (e : q ≠ p) {x : Sl} (h : OwnR K H0 F H q x) : OwnR K H0 F (upd H p o) q x := by
  cases x with
  | no => exact h
  | d x => exact h
  | ol xs => obtain ⟨a, b, vs, c, d⟩ := h; exact ⟨a, b, vs, by rw [upd_ne e]; exact c, d⟩
  | ok _ => obtain ⟨a, b, vs, c, d⟩ := h; exact ⟨a, b, vs, by rw [upd_ne e]; exact c, d⟩
  | ot _ => obtain ⟨a, b, vs, c, d⟩ := h; exact ⟨a, b, vs, by rw [upd_ne e]; exact c, d⟩
  | oo _ => obtain ⟨a, b, c, t⟩ := h; exact ⟨a, b, by rw [upd_ne e]; exact c, t⟩
/-- the own object of slot i changes -/
theorem RelS.mut (r : RelS K F0 H0 F H σ ρ) {i : Nat} {p : Addr} {x y : Sl} {o : HO} (hx : ρ[i]? = some x) (ox : x.own = true) (hp : σ[i]? = some (some (.ref p))) (oy : y.own = true) (hy : OwnR K H0 F (upd H p o) p y) :
    RelS K F0 H0 F (upd H p o) σ (ρ.set i y) := by
  obtain ⟨q, hq, hown⟩ := r.getOwn hx ox
  rw [hp] at hq; cases hq
  obtain ⟨n0, nf, _, _⟩ := hown.tells
  have hi : i < ρ.length := (List.getElem?_eq_some_iff.mp hx).1
  have step : ∀ (j : Nat) (z : Sl) (u : Option V), i ≠ j → ρ[j]? = some z → σ[j]? = some u → SlR K H0 F (upd H p o) u z := fun j z u e h1 h2 => by
    have q := r.sl j z u h1 h2
    by_cases oz : z.own = true
    · obtain ⟨b, rfl, hb⟩ := (SlR.own oz).mp q
      refine (SlR.own oz).mpr ⟨b, rfl, hb.other fun z' => ?_⟩
      subst z'
      exact e (r.ne i j x z b hx h1 ox oz hp h2)
    · cases z with
      | no => trivial
      | d z => exact q
      | ol _ => exact absurd rfl oz
      | ok _ => exact absurd rfl oz
      | ot _ => exact absurd rfl oz
      | oo _ => exact absurd rfl oz
  refine ⟨⟨r.gr.f, r.gr.h.mut n0, r.gr.s.mut nf, r.gr.n⟩, by rw [List.length_set]; exact r.len, fun j z u h1 h2 => ?_, fun j k z w q h1 h2 o1 o2 h3 h4 => ?_⟩
  · rcases get_set h1 with ⟨e, rfl⟩ | ⟨e, h1⟩
    · subst e
      rw [hp] at h2; cases h2
      exact (SlR.own oy).mpr ⟨p, rfl, hy⟩
    · exact step j z u e h1 h2
  · have w1 : ∃ z', ρ[j]? = some z' ∧ z'.own = true := by
      rcases get_set h1 with ⟨e, _⟩ | ⟨e, h1⟩
      · subst e; exact ⟨x, hx, ox⟩
      · exact ⟨z, h1, o1⟩
    have w2 : ∃ z', ρ[k]? = some z' ∧ z'.own = true := by
      rcases get_set h2 with ⟨e, _⟩ | ⟨e, h2⟩
      · subst e; exact ⟨x, hx, ox⟩
      · exact ⟨w, h2, o2⟩
    obtain ⟨z1, a1, b1⟩ := w1
    obtain ⟨z2, a2, b2⟩ := w2
    exact r.ne j k z1 z2 q a1 a2 b1 b2 h3 h4
/-- a new object at p, known to none yet -/
theorem RelS.fresh (r : RelS K F0 H0 F H σ ρ) {p : Addr} (hp : H p = none) : ∀ (j : Nat) (y : Sl), ρ[j]? = some y → y.own = true → σ[j]? ≠ some (some (.ref p)) := fun j y h1 h2 h3 => by
  obtain ⟨q, hq, ho⟩ := r.getOwn h1 h2
  rw [h3] at hq; cases hq
  obtain ⟨_, _, o, e⟩ := ho.tells
  rw [hp] at e; cases e
/-- slots forgotten -/
theorem RelS.forget (r : RelS K F0 H0 F H σ ρ) (i : Nat) (o : Option V) : RelS K F0 H0 F H (σ.set i o) (ρ.set i .no) := by
  refine ⟨r.gr, by rw [List.length_set, List.length_set]; exact r.len, fun j y u h1 h2 => ?_, fun j k y z p h1 h2 o1 o2 h3 h4 => ?_⟩
  · rcases get_set h1 with ⟨e, rfl⟩ | ⟨e, h1⟩
    · trivial
    · rcases get_set h2 with ⟨e', _⟩ | ⟨_, h2⟩
      · exact absurd e' e
      · exact r.sl j y u h1 h2
  · rcases get_set h1 with ⟨e, rfl⟩ | ⟨e, h1⟩
    · cases o1
    · rcases get_set h2 with ⟨e, rfl⟩ | ⟨e', h2⟩
      · cases o2
      · rcases get_set h3 with ⟨e3, _⟩ | ⟨_, h3⟩
        · exact absurd e3 e
        · rcases get_set h4 with ⟨e4, _⟩ | ⟨_, h4⟩
          · exact absurd e4 e'
          · exact r.ne j k y z p h1 h2 o1 o2 h3 h4
/-- the own object of slot i is frozen -/
def Sl.frz : Sl → D
  | .ol xs => .lst xs
  | .ok kvs => .dk (kvs.map (·.1)) (kvs.map (·.2))
  | .ot kvs => .dt (kvs.map (·.1)) (kvs.map (·.2))
  | .d x => x
  | .oo _ => .any
  | .no => .non
theorem OwnR.frz {p : Addr} {x : Sl} (h : OwnR K H0 F H p x) : ∃ o, H p = some o ∧ Rep K (upd F p o) (.ref p) x.frz := by
  cases x with
  | no => exact h.elim
  | d x => exact h.elim
  | ol xs => obtain ⟨a, b, vs, c, d⟩ := h; exact ⟨_, c, .lst upd_same (d.mono (Ex.new b))⟩
  | ok kvs =>
    obtain ⟨a, b, ws, c, n, d⟩ := h
    exact ⟨_, c, .dk (vs := ws.map (·.2)) upd_same (by rw [← d.keys, zip_self]; rfl) (by rw [← d.keys]; simp) (d.mono (Ex.new b)).vals⟩
  | ot kvs =>
    obtain ⟨a, b, ws, c, n, d⟩ := h
    exact ⟨_, c, .dt (vs := ws.map (·.2)) upd_same (by rw [← d.keys, zip_self]; rfl) (by rw [← d.keys]; simp) (d.mono (Ex.new b)).vals⟩
  | oo f => obtain ⟨a, b, c, _⟩ := h; exact ⟨_, c, .any _⟩
theorem RelS.freeze (r : RelS K F0 H0 F H σ ρ) {i : Nat} {x : Sl} (hx : ρ[i]? = some x) (ox : x.own = true) : ∃ F', Ex F F' ∧ RelS K F0 H0 F' H σ (ρ.set i (.d x.frz)) := by
  obtain ⟨p, hp, hown⟩ := r.getOwn hx ox
  obtain ⟨n0, nf, _⟩ := hown.tells
  obtain ⟨o, ho, hr⟩ := hown.frz
  have ex : Ex F (upd F p o) := Ex.new nf
  have others : ∀ (j : Nat) (z : Sl) (u : Option V), i ≠ j → ρ[j]? = some z → σ[j]? = some u → SlR K H0 (upd F p o) H u z := fun j z u e h1 h2 => by
    have q := r.sl j z u h1 h2
    by_cases oz : z.own = true
    · obtain ⟨b, rfl, hb⟩ := (SlR.own oz).mp q
      have nb : b ≠ p := fun z' => by
        subst z'
        exact e (r.ne i j x z b hx h1 ox oz hp h2)
      refine (SlR.own oz).mpr ⟨b, rfl, ?_⟩
      cases z with
      | no => exact hb
      | d z => exact hb
      | ol xs => obtain ⟨a, b', vs, c, d⟩ := hb; exact ⟨a, by rw [upd_ne nb]; exact b', vs, c, d.mono ex⟩
      | ok kvs => obtain ⟨a, b', vs, c, n, d⟩ := hb; exact ⟨a, by rw [upd_ne nb]; exact b', vs, c, n, d.mono ex⟩
      | ot kvs => obtain ⟨a, b', vs, c, n, d⟩ := hb; exact ⟨a, by rw [upd_ne nb]; exact b', vs, c, n, d.mono ex⟩
      | oo f => obtain ⟨a, b', c, t⟩ := hb; exact ⟨a, by rw [upd_ne nb]; exact b', c, t⟩
    · cases z with
      | no => trivial
      | d z => obtain ⟨v, e, q⟩ := q; exact ⟨v, e, q.mono ex⟩
      | ol _ => exact absurd rfl oz
      | ok _ => exact absurd rfl oz
      | ot _ => exact absurd rfl oz
      | oo _ => exact absurd rfl oz
  refine ⟨upd F p o, ex, r.gr.freeze n0 nf ho, by rw [List.length_set]; exact r.len, fun j z u h1 h2 => ?_, fun j k z w q h1 h2 o1 o2 h3 h4 => ?_⟩
  · rcases get_set h1 with ⟨e, rfl⟩ | ⟨e, h1⟩
    · subst e
      rw [hp] at h2; cases h2
      exact ⟨_, rfl, hr⟩
    · exact others j z u e h1 h2
  · rcases get_set h1 with ⟨e, rfl⟩ | ⟨e, h1⟩
    · cases o1
    · rcases get_set h2 with ⟨e, rfl⟩ | ⟨e', h2⟩
      · cases o2
      · exact r.ne j k z w q h1 h2 o1 o2 h3 h4
end
end DL
set_option Elab.async false
set_option linter.all false
set_option maxRecDepth 100000
set_option maxHeartbeats 1000000
/-! What readings come to, over plain data: expressions. -/
namespace DL
open PySem L2
section
variable (K : PySem.W.Frag)
def EvD (te : TE) (ρ : List Sl) (d : D) : Prop := ∀ (F0 H0 F H : Hp) (σ : St), RelS K F0 H0 F H σ ρ → ∀ Q : VK, (∀ v F' H', Gr F H F' H' → Rep K F' v d → Q v H') → te σ H Q
/-- a new list that nobody else knows -/
def EvL (te : TE) (ρ : List Sl) (xs : List D) : Prop := ∀ (F0 H0 F H : Hp) (σ : St), RelS K F0 H0 F H σ ρ → ∀ Q : VK,
  (∀ p vs F' H', Gr F H F' H' → H p = none → F' p = none → H' p = some (.lst vs) → Reps K F' vs xs → Q (.ref p) H') → te σ H Q
def TvD (tt : TT) (ρ : List Sl) (b : Bool) : Prop := ∀ (F0 H0 F H : Hp) (σ : St), RelS K F0 H0 F H σ ρ → ∀ Q : Bool → Hp → Prop, (∀ F' H', Gr F H F' H' → Q b H') → tt σ H Q
def AvD (ta : TA) (ρ : List Sl) (ds : List D) : Prop := ∀ (F0 H0 F H : Hp) (σ : St), RelS K F0 H0 F H σ ρ → ∀ Q : List V → Hp → Prop, (∀ vs F' H', Gr F H F' H' → Reps K F' vs ds → Q vs H') → ta σ H Q
/-- a list, or a tuple, that is only read here -/
def EvSL (te : TE) (ρ : List Sl) (ds : List D) : Prop := ∀ (F0 H0 F H : Hp) (σ : St), RelS K F0 H0 F H σ ρ → ∀ Q : VK, (∀ p vs F' H', Gr F H F' H' → SqL K H' p vs → Reps K F' vs ds → Q (.ref p) H') → te σ H Q
def EvST (te : TE) (ρ : List Sl) (ds : List D) : Prop := ∀ (F0 H0 F H : Hp) (σ : St), RelS K F0 H0 F H σ ρ → ∀ Q : VK, (∀ p vs F' H', Gr F H F' H' → SqT K H' p vs → Reps K F' vs ds → Q (.ref p) H') → te σ H Q
/-- operations by values -/
def RvD (r : R2) (x y z : D) : Prop := ∀ (F H : Hp), Ex F H → ∀ (v u : V), Rep K F v x → Rep K F u y → ∀ Q : VK, (∀ w F' H', Gr F H F' H' → Rep K F' w z → Q w H') → r v u H Q
def RvL (r : R2) (x y : D) (zs : List D) : Prop := ∀ (F H : Hp), Ex F H → ∀ (v u : V), Rep K F v x → Rep K F u y → ∀ Q : VK, (∀ p vs F' H', Gr F H F' H' → H p = none → F' p = none → H' p = some (.lst vs) → Reps K F' vs zs → Q (.ref p) H') → r v u H Q
def RcD (r : List V → Hp → VK → Prop) (ds : List D) (z : D) : Prop := ∀ (F H : Hp), Ex F H → ∀ vs, Reps K F vs ds → ∀ Q : VK, (∀ w F' H', Gr F H F' H' → Rep K F' w z → Q w H') → r vs H Q
def RcL (r : List V → Hp → VK → Prop) (ds : List D) (zs : List D) : Prop := ∀ (F H : Hp), Ex F H → ∀ vs, Reps K F vs ds → ∀ Q : VK, (∀ p vs F' H', Gr F H F' H' → H p = none → F' p = none → H' p = some (.lst vs) → Reps K F' vs zs → Q (.ref p) H') → r vs H Q
end
section
variable {K : PySem.W.Frag} {ρ : List Sl} {te ta tb : TE} {d x y z : D} {r r' : R2} {xs ys ds zs : List D} {tt tu : TT} {t : TA}
theorem ev_of_L (h : EvL K te ρ xs) : EvD K te ρ (.lst xs) := fun F0 H0 F H σ R Q q => h F0 H0 F H σ R Q fun p vs F' H' g hp hf h' rs =>
  q _ (upd F' p (.lst vs)) H' (g.freeze hp hf h') (.lst upd_same (rs.mono (Ex.new hf)))
theorem ev_var {i : Nat} (h : ρ[i]? = some (.d x)) : EvD K (tVar i) ρ x := fun F0 H0 F H σ R Q q => by
  obtain ⟨v, h1, h2⟩ := R.get h
  exact ⟨v, h1, q v F H (.refl R.ex) h2⟩
theorem ev_int {i : Int} : EvD K (tC (.int i)) ρ (.int i) := fun F0 H0 F H σ R Q q => q _ F H (.refl R.ex) (.int i)
theorem ev_str {s : Str} : EvD K (tC (.str s)) ρ (.str s) := fun F0 H0 F H σ R Q q => q _ F H (.refl R.ex) (.str s)
theorem ev_bl {b : Bool} : EvD K (tC (.bl b)) ρ (.bl b) := fun F0 H0 F H σ R Q q => q _ F H (.refl R.ex) (.bl b)
theorem ev_non : EvD K (tC .non) ρ .non := fun F0 H0 F H σ R Q q => q _ F H (.refl R.ex) .non
theorem ev_eq (h : EvD K te ρ x) (e : x = y) : EvD K te ρ y := e ▸ h
theorem ev_op (ha : EvD K ta ρ x) (hb : EvD K tb ρ y) (hr : RvD K r x y z) : EvD K (tOp r ta tb) ρ z := fun F0 H0 F H σ R Q q =>
  ha F0 H0 F H σ R _ fun v F1 H1 g1 r1 => hb F0 H0 F1 H1 σ (R.grow g1) _ fun u F2 H2 g2 r2 => hr F2 H2 g2.s v u (r1.mono g2.f) r2 Q fun w F3 H3 g3 r3 => q w F3 H3 ((g1.trans g2).trans g3) r3
theorem evl_op (ha : EvD K ta ρ x) (hb : EvD K tb ρ y) (hr : RvL K r x y zs) : EvL K (tOp r ta tb) ρ zs := fun F0 H0 F H σ R Q q =>
  ha F0 H0 F H σ R _ fun v F1 H1 g1 r1 => hb F0 H0 F1 H1 σ (R.grow g1) _ fun u F2 H2 g2 r2 => hr F2 H2 g2.s v u (r1.mono g2.f) r2 Q fun p vs F3 H3 g3 a b c e => by
    refine q p vs F3 H3 ((g1.trans g2).trans g3) ?_ b c e
    exact g1.h.back (g2.h.back a)
theorem ev_un {ru : V → Hp → VK → Prop} {f : Int → Int} {i : Int} (ha : EvD K ta ρ (.int i)) (hr : ∀ H Q, Q (.int (f i)) H → ru (.int i) H Q) : EvD K (tUn ru ta) ρ (.int (f i)) := fun F0 H0 F H σ R Q q =>
  ha F0 H0 F H σ R _ fun v F1 H1 g1 r1 => by
    cases r1
    exact hr H1 Q (q _ F1 H1 g1 (.int _))
theorem ev_neg {i : Int} (ha : EvD K ta ρ (.int i)) : EvD K (tUn (rU fun i => .int (-i)) ta) ρ (.int (-i)) := ev_un (f := fun i => -i) ha fun H Q q => ⟨i, rfl, q⟩
/-! ### operations -/
theorem rvD_l (h : RvD K r x y z) : RvD K (fun x y H Q => r x y H Q ∨ r' x y H Q) x y z := fun F H e v u a b Q q => .inl (h F H e v u a b Q q)
theorem rvD_r (h : RvD K r' x y z) : RvD K (fun x y H Q => r x y H Q ∨ r' x y H Q) x y z := fun F H e v u a b Q q => .inr (h F H e v u a b Q q)
theorem rvL_l (h : RvL K r x y zs) : RvL K (fun x y H Q => r x y H Q ∨ r' x y H Q) x y zs := fun F H e v u a b Q q => .inl (h F H e v u a b Q q)
theorem rvL_r (h : RvL K r' x y zs) : RvL K (fun x y H Q => r x y H Q ∨ r' x y H Q) x y zs := fun F H e v u a b Q q => .inr (h F H e v u a b Q q)
theorem rv_I0 {g : Int → Int → Int} {i j : Int} : RvD K (rI0 fun i j => .int (g i j)) (.int i) (.int j) (.int (g i j)) := fun F H e v u a b Q q => by
  cases a; cases b
  exact ⟨i, j, rfl, rfl, q _ F H (.refl e) (.int _)⟩
theorem rv_I {C : Int → Int → Prop} {g : Int → Int → Int} {i j : Int} (hc : C i j) : RvD K (rI C fun i j => .int (g i j)) (.int i) (.int j) (.int (g i j)) := fun F H e v u a b Q q => by
  cases a; cases b
  exact ⟨i, j, rfl, rfl, hc, q _ F H (.refl e) (.int _)⟩
theorem rv_B0 {g : Int → Int → Bool} {i j : Int} : RvD K (rI0 fun i j => .bl (g i j)) (.int i) (.int j) (.bl (g i j)) := fun F H e v u a b Q q => by
  cases a; cases b
  exact ⟨i, j, rfl, rfl, q _ F H (.refl e) (.bl _)⟩
theorem rv_addS {s t : Str} (hl : s.length + t.length ≤ 100000) : RvD K (fun x y H Q => ∃ i j, x = .str i ∧ y = .str j ∧ i.length + j.length ≤ sizeLine ∧ Q (.str (i ++ j)) H) (.str s) (.str t) (.str (s ++ t)) := fun F H e v u a b Q q => by
  cases a; cases b
  exact ⟨s, t, rfl, rfl, Nat.le_trans hl (by decide), q _ F H (.refl e) (.str _)⟩
theorem sz_of {n : Nat} (h : n ≤ 16777216) : n ≤ sizeLine := by rw [sizeLine_eq]; exact h
theorem rv_cat (hl : xs.length + ys.length ≤ 16777216) : RvL K rCat (.lst xs) (.lst ys) (xs ++ ys) := fun F H e v u a b Q q => by
  cases a with
  | lst ha ra =>
    cases b with
    | lst hb rb =>
      refine ⟨_, _, _, _, rfl, rfl, e _ _ ha, e _ _ hb, ?_, fun p hp => ?_⟩
      · rw [ra.length, rb.length]; exact sz_of hl
      · exact q p _ F _ (.own e hp) hp (e.back hp) upd_same (ra.append rb)
theorem reps_rep {x : List D} {vs : List V} {F : Hp} (h : Reps K F vs x) : ∀ n : Nat, Reps K F (List.replicate n vs).flatten (List.replicate n x).flatten
  | 0 => .nil
  | n + 1 => by
    rw [List.replicate_succ, List.replicate_succ, List.flatten_cons, List.flatten_cons]
    exact h.append (reps_rep h n)
theorem rv_rep {k : Int} (h1 : -(2 ^ 63) ≤ k) (h2 : k < 2 ^ 63) (hl : xs.length * k.toNat ≤ 16777216) : RvL K rRep (.lst xs) (.int k) (List.replicate k.toNat xs).flatten := fun F H e v u a b Q q => by
  cases a with
  | lst ha ra =>
    cases b
    refine ⟨_, _, _, rfl, rfl, e _ _ ha, h1, h2, ?_, fun p hp => ?_⟩
    · rw [ra.length]; exact sz_of hl
    · exact q p _ F _ (.own e hp) hp (e.back hp) upd_same (reps_rep ra _)
mutual
/-- plain data as the library's data -/
def D.py : D → PyData
  | .non => .none
  | .bl b => .bool b
  | .int i => .int i
  | .str x => .str x
  | .lst ds => .list (D.pys ds)
  | .tup ds => .tuple (D.pys ds)
  | .tupZ ds => .tuple (D.pys ds)
  | .scr ns => .list (ns.map PyData.int)
  | .dk _ _ => .none
  | .dt _ _ => .none
  | .ins _ _ _ => .none
  | .ty _ => .none
  | .cls _ => .none
  | .exc _ _ _ => .none
  | .hx _ _ _ _ => .none
  | .any => .none
def D.pys : List D → List PyData
  | [] => []
  | d :: ds => d.py :: D.pys ds
end
mutual
/-- none of dicts and instances within -/
def D.pl : D → Bool
  | .lst ds => D.pls ds
  | .tup ds => D.pls ds
  | .tupZ ds => D.pls ds
  | .dk _ _ => false
  | .dt _ _ => false
  | .ins _ _ _ => false
  | .ty _ => false
  | .cls _ => false
  | .exc _ _ _ => false
  | .hx _ _ _ _ => false
  | .any => false
  | _ => true
def D.pls : List D → Bool
  | [] => true
  | d :: ds => d.pl && D.pls ds
end
theorem dp_ints {F : Hp} : ∀ ns : List Int, DpAll K F (ns.map V.int) (ns.map PyData.int)
  | [] => .nil
  | n :: ns => .cons (.int n) (dp_ints ns)
mutual
theorem Rep.dp {F : Hp} : ∀ {v : V} {d : D}, Rep K F v d → d.pl = true → Dp K F v d.py
  | _, _, .non, _ => .non
  | _, _, .bl b, _ => .bl b
  | _, _, .int i, _ => .int i
  | _, _, .str x, _ => .str x
  | _, _, .lst h r, p => .lst (SqL.of h) (Reps.dp r p)
  | _, _, .tup h r, p => .tup (SqT.of h) (Reps.dp r p)
  | _, _, .tupZ h _ r, p => .tup (.inl (.inr ⟨_, h⟩)) (Reps.dp r p)
  | _, _, .scr h, _ => .lst h (dp_ints _)
  | _, _, .dk _ _ _ _, p => nomatch p
  | _, _, .dt _ _ _ _, p => nomatch p
  | _, _, .ins _ _ _, p => nomatch p
  | _, _, .ty _, p => nomatch p
  | _, _, .cls _, p => nomatch p
  | _, _, .exc0 _, p => nomatch p
  | _, _, .exc _ _ _ _, p => nomatch p
  | _, _, .hx0, p => nomatch p
  | _, _, .hx _ _ _ _, p => nomatch p
  | _, _, .any _, p => nomatch p
theorem Reps.dp {F : Hp} : ∀ {vs : List V} {ds : List D}, Reps K F vs ds → D.pls ds = true → DpAll K F vs (D.pys ds)
  | _, _, .nil, _ => .nil
  | _, _, .cons h r, p => by
    have p' := Bool.and_eq_true_iff.mp p
    exact .cons (Rep.dp h p'.1) (Reps.dp r p'.2)
end
mutual
theorem Dp.up {F H : Hp} (e : Ex F H) : ∀ {v : V} {d : PyData}, Dp K F v d → Dp K H v d
  | _, _, .non => .non
  | _, _, .bl b => .bl b
  | _, _, .int i => .int i
  | _, _, .str x => .str x
  | _, _, .lst h r => .lst (e.sl h) (DpAll.up e r)
  | _, _, .tup h r => .tup (e.st h) (DpAll.up e r)
theorem DpAll.up {F H : Hp} (e : Ex F H) : ∀ {vs : List V} {ds : List PyData}, DpAll K F vs ds → DpAll K H vs ds
  | _, _, .nil => .nil
  | _, _, .cons h r => .cons (Dp.up e h) (DpAll.up e r)
end
def D.ok (d : D) : Bool := d.pl && SeqAt.shaped d.py
theorem rv_eqD (hx : x.ok = true) (hy : y.ok = true) : RvD K (rEqD K) x y (.bl (PyData.eqv x.py y.py)) := fun F H e v u a b Q q => by
  have h1 := Bool.and_eq_true_iff.mp hx
  have h2 := Bool.and_eq_true_iff.mp hy
  exact ⟨x.py, y.py, Dp.up e (a.dp h1.1), Dp.up e (b.dp h2.1), h1.2, h2.2, q _ F H (.refl e) (.bl _)⟩
theorem rv_neD (hx : x.ok = true) (hy : y.ok = true) : RvD K (rNeD K) x y (.bl (!PyData.eqv x.py y.py)) := fun F H e v u a b Q q => by
  have h1 := Bool.and_eq_true_iff.mp hx
  have h2 := Bool.and_eq_true_iff.mp hy
  exact ⟨x.py, y.py, Dp.up e (a.dp h1.1), Dp.up e (b.dp h2.1), h1.2, h2.2, q _ F H (.refl e) (.bl _)⟩
/-! ### sequences that are read -/
theorem sl_d (h : EvD K te ρ (.lst ds)) : EvSL K te ρ ds := fun F0 H0 F H σ R Q q => h F0 H0 F H σ R Q fun v F' H' g r => by
  cases r with
  | lst h rs => exact q _ _ F' H' g (SqL.of (g.s _ _ h)) rs
theorem sl_scr {ns : List Int} (h : EvD K te ρ (.scr ns)) : EvSL K te ρ (ns.map D.int) := fun F0 H0 F H σ R Q q => h F0 H0 F H σ R Q fun v F' H' g r => by
  cases r with
  | scr h => exact q _ _ F' H' g (g.s.sl h) Reps.ints
theorem sl_own {i : Nat} (h : ρ[i]? = some (.ol ds)) : EvSL K (tVar i) ρ ds := fun F0 H0 F H σ R Q q => by
  obtain ⟨p, h1, n0, nf, vs, h2, rs⟩ := R.getOwn h rfl
  exact ⟨_, h1, q p vs F H (.refl R.ex) (SqL.of h2) rs⟩
theorem st_d (h : EvD K te ρ (.tup ds)) : EvST K te ρ ds := fun F0 H0 F H σ R Q q => h F0 H0 F H σ R Q fun v F' H' g r => by
  cases r with
  | tup h rs => exact q _ _ F' H' g (SqT.of (g.s _ _ h)) rs
theorem st_dZ (h : EvD K te ρ (.tupZ ds)) : EvST K te ρ ds := fun F0 H0 F H σ R Q q => h F0 H0 F H σ R Q fun v F' H' g r => by
  cases r with
  | tupZ h _ rs => exact q _ _ F' H' g (.inl (.inr ⟨_, g.s _ _ h⟩)) rs
theorem atI_reps {F : Hp} {vs : List V} {ds : List D} (r : Reps K F vs ds) {i : Int} {d : D} (h : atI ds i = some d) : ∃ v, atI vs i = some v ∧ Rep K F v d := by
  unfold atI at h ⊢
  rw [r.length]
  cases e : ixN ds.length i with
  | none => rw [e] at h; cases h
  | some j =>
    rw [e] at h
    exact r.getD h
/-- x[i] of a list, a tuple, a text -/
def rIxA (K : PySem.W.Frag) : R2 := fun x y H Q => rIxL K x y H Q ∨ rIxT K x y H Q ∨ rIxS x y H Q
theorem ix_any {X : Cx} : IxR X (rIxA X.K) := ix_list.or (ix_tup.or ix_str)
theorem ev_ixL {i : Int} (ha : EvSL K ta ρ ds) (hb : EvD K tb ρ (.int i)) (h : atI ds i = some d) : EvD K (tOp (rIxA K) ta tb) ρ d := fun F0 H0 F H σ R Q q =>
  ha F0 H0 F H σ R _ fun p vs F1 H1 g1 s1 r1 => hb F0 H0 F1 H1 σ (R.grow g1) _ fun u F2 H2 g2 r2 => by
    cases r2
    obtain ⟨v, e, rv⟩ := atI_reps (r1.mono g2.f) h
    exact .inl ⟨p, vs, i, v, rfl, rfl, g2.h.sl s1, e, q v F2 H2 (g1.trans g2) rv⟩
theorem ev_ixT {i : Int} (ha : EvST K ta ρ ds) (hb : EvD K tb ρ (.int i)) (h : atI ds i = some d) : EvD K (tOp (rIxA K) ta tb) ρ d := fun F0 H0 F H σ R Q q =>
  ha F0 H0 F H σ R _ fun p vs F1 H1 g1 s1 r1 => hb F0 H0 F1 H1 σ (R.grow g1) _ fun u F2 H2 g2 r2 => by
    cases r2
    obtain ⟨v, e, rv⟩ := atI_reps (r1.mono g2.f) h
    exact .inr (.inl ⟨p, vs, i, v, rfl, rfl, g2.h.st s1, e, q v F2 H2 (g1.trans g2) rv⟩)
theorem ev_ixS {i : Int} {s : Str} {c : Nat} (ha : EvD K ta ρ (.str s)) (hb : EvD K tb ρ (.int i)) (hl : s.length ≤ 100000) (h : atI s.cps.toList i = some c) : EvD K (tOp (rIxA K) ta tb) ρ (.str ⟨#[c]⟩) := fun F0 H0 F H σ R Q q =>
  ha F0 H0 F H σ R _ fun v F1 H1 g1 r1 => hb F0 H0 F1 H1 σ (R.grow g1) _ fun u F2 H2 g2 r2 => by
    cases r1; cases r2
    exact .inr (.inr ⟨s, i, c, rfl, rfl, Nat.le_trans hl (by decide), h, q _ F2 H2 (g1.trans g2) (.str _)⟩)
/-! ### argument lists, displays, calls -/
theorem av_nil : AvD K tNil ρ [] := fun F0 H0 F H σ R Q q => q _ F H (.refl R.ex) .nil
theorem av_cons (h : EvD K te ρ d) (hr : AvD K t ρ ds) : AvD K (tCons te t) ρ (d :: ds) := fun F0 H0 F H σ R Q q =>
  h F0 H0 F H σ R _ fun v F1 H1 g1 r1 => hr F0 H0 F1 H1 σ (R.grow g1) _ fun vs F2 H2 g2 r2 => q _ F2 H2 (g1.trans g2) (.cons (r1.mono g2.f) r2)
theorem av_starL (h : EvSL K te ρ xs) (hr : AvD K t ρ ds) : AvD K (StX.tStar K te t) ρ (xs ++ ds) := fun F0 H0 F H σ R Q q =>
  h F0 H0 F H σ R _ fun p us F1 H1 g1 s1 r1 => ⟨p, us, rfl, .inr s1, hr F0 H0 F1 H1 σ (R.grow g1) _ fun vs F2 H2 g2 r2 => q _ F2 H2 (g1.trans g2) ((r1.mono g2.f).append r2)⟩
theorem av_starT (h : EvST K te ρ xs) (hr : AvD K t ρ ds) : AvD K (StX.tStar K te t) ρ (xs ++ ds) := fun F0 H0 F H σ R Q q =>
  h F0 H0 F H σ R _ fun p us F1 H1 g1 s1 r1 => ⟨p, us, rfl, .inl s1, hr F0 H0 F1 H1 σ (R.grow g1) _ fun vs F2 H2 g2 r2 => q _ F2 H2 (g1.trans g2) ((r1.mono g2.f).append r2)⟩
theorem ev_tup (h : AvD K t ρ ds) (hl : ds.length ≤ 16777216) : EvD K (tTup t) ρ (.tup ds) := fun F0 H0 F H σ R Q q =>
  h F0 H0 F H σ R _ fun vs F1 H1 g1 r1 => ⟨by rw [r1.length]; exact sz_of hl, fun p hp => q _ (upd F1 p (.tup vs)) _ (g1.trans (.new g1.s hp)) (.tup upd_same (r1.mono (Ex.new (g1.s.back hp))))⟩
theorem evl_lst (h : AvD K t ρ ds) (hl : ds.length ≤ 16777216) : EvL K (tLst t) ρ ds := fun F0 H0 F H σ R Q q =>
  h F0 H0 F H σ R _ fun vs F1 H1 g1 r1 => ⟨by rw [r1.length]; exact sz_of hl, fun p hp => q p vs F1 _ (g1.trans (.own g1.s hp)) (g1.h.back hp) (g1.s.back hp) upd_same r1⟩
theorem ev_cb {rc : List V → Hp → VK → Prop} (h : AvD K t ρ ds) (hr : RcD K rc ds z) : EvD K (tCB rc t) ρ z := fun F0 H0 F H σ R Q q =>
  h F0 H0 F H σ R _ fun vs F1 H1 g1 r1 => hr F1 H1 g1.s vs r1 Q fun w F2 H2 g2 r2 => q w F2 H2 (g1.trans g2) r2
theorem evl_cb {rc : List V → Hp → VK → Prop} (h : AvD K t ρ ds) (hr : RcL K rc ds zs) : EvL K (tCB rc t) ρ zs := fun F0 H0 F H σ R Q q =>
  h F0 H0 F H σ R _ fun vs F1 H1 g1 r1 => hr F1 H1 g1.s vs r1 Q fun p us F2 H2 g2 a b c e => q p us F2 H2 (g1.trans g2) (g1.h.back a) b c e
/-- a call on one sequence that is only read -/
theorem ev_cbSL {rc : List V → Hp → VK → Prop} (h : EvSL K te ρ ds) (hr : ∀ (F H : Hp), Ex F H → ∀ p vs, SqL K H p vs → Reps K F vs ds → ∀ Q : VK, (∀ w F' H', Gr F H F' H' → Rep K F' w z → Q w H') → rc [.ref p] H Q) : EvD K (tCB rc (tCons te tNil)) ρ z := fun F0 H0 F H σ R Q q =>
  h F0 H0 F H σ R _ fun p vs F1 H1 g1 s1 r1 => hr F1 H1 g1.s p vs s1 r1 Q fun w F2 H2 g2 r2 => q w F2 H2 (g1.trans g2) r2
theorem evl_cbSL {rc : List V → Hp → VK → Prop} (h : EvSL K te ρ ds) (hr : ∀ (F H : Hp), Ex F H → ∀ p vs, SqL K H p vs → Reps K F vs ds → ∀ Q : VK, (∀ p vs F' H', Gr F H F' H' → H p = none → F' p = none → H' p = some (.lst vs) → Reps K F' vs zs → Q (.ref p) H') → rc [.ref p] H Q) : EvL K (tCB rc (tCons te tNil)) ρ zs := fun F0 H0 F H σ R Q q =>
  h F0 H0 F H σ R _ fun p vs F1 H1 g1 s1 r1 => hr F1 H1 g1.s p vs s1 r1 Q fun w us F2 H2 g2 a b c e => q w us F2 H2 (g1.trans g2) (g1.h.back a) b c e
/-! ### tests, ifs, truth -/
theorem tv_test {b : Bool} (h : EvD K te ρ (.bl b)) : TvD K (tTest te) ρ b := fun F0 H0 F H σ R Q q => h F0 H0 F H σ R _ fun v F1 H1 g1 r1 => by
  cases r1
  exact ⟨b, rfl, q F1 H1 g1⟩
theorem tv_B {b : Bool} (h : EvD K te ρ (.bl b)) : TvD K (tB te) ρ b := fun F0 H0 F H σ R Q q => h F0 H0 F H σ R _ fun v F1 H1 g1 r1 => by
  cases r1
  exact ⟨b, rfl, q F1 H1 g1⟩
theorem tv_eq {a b : Bool} (h : TvD K tt ρ a) (e : a = b) : TvD K tt ρ b := e ▸ h
theorem tv_not {b : Bool} (h : TvD K tt ρ b) : TvD K (tNot tt) ρ (!b) := fun F0 H0 F H σ R Q q => h F0 H0 F H σ R _ fun F1 H1 g1 => q F1 H1 g1
theorem tv_and {a b : Bool} (h1 : TvD K tt ρ a) (h2 : a = true → TvD K tu ρ b) : TvD K (tAnd tt tu) ρ (a && b) := fun F0 H0 F H σ R Q q => h1 F0 H0 F H σ R _ fun F1 H1 g1 => by
  cases a with
  | true =>
    show tu σ H1 Q
    exact h2 rfl F0 H0 F1 H1 σ (R.grow g1) Q fun F2 H2 g2 => q F2 H2 (g1.trans g2)
  | false => exact q F1 H1 g1
theorem tv_or {a b : Bool} (h1 : TvD K tt ρ a) (h2 : a = false → TvD K tu ρ b) : TvD K (tOr tt tu) ρ (a || b) := fun F0 H0 F H σ R Q q => h1 F0 H0 F H σ R _ fun F1 H1 g1 => by
  cases a with
  | true => exact q F1 H1 g1
  | false =>
    show tu σ H1 Q
    exact h2 rfl F0 H0 F1 H1 σ (R.grow g1) Q fun F2 H2 g2 => q F2 H2 (g1.trans g2)
theorem ev_andV {a b : Bool} (h1 : EvD K ta ρ (.bl a)) (h2 : a = true → EvD K tb ρ (.bl b)) : EvD K (tAndV ta tb) ρ (.bl (a && b)) := fun F0 H0 F H σ R Q q => h1 F0 H0 F H σ R _ fun v F1 H1 g1 r1 => by
  cases r1
  refine ⟨a, rfl, ?_⟩
  cases a with
  | true =>
    show tb σ H1 Q
    exact h2 rfl F0 H0 F1 H1 σ (R.grow g1) Q fun w F2 H2 g2 r2 => q w F2 H2 (g1.trans g2) r2
  | false => exact q _ F1 H1 g1 (.bl _)
theorem ev_orV {a b : Bool} (h1 : EvD K ta ρ (.bl a)) (h2 : a = false → EvD K tb ρ (.bl b)) : EvD K (tOrV ta tb) ρ (.bl (a || b)) := fun F0 H0 F H σ R Q q => h1 F0 H0 F H σ R _ fun v F1 H1 g1 r1 => by
  cases r1
  refine ⟨a, rfl, ?_⟩
  cases a with
  | true => exact q _ F1 H1 g1 (.bl _)
  | false =>
    show tb σ H1 Q
    exact h2 rfl F0 H0 F1 H1 σ (R.grow g1) Q fun w F2 H2 g2 r2 => q w F2 H2 (g1.trans g2) r2
theorem ev_notV {a : Bool} (h1 : EvD K ta ρ (.bl a)) : EvD K (tNotV ta) ρ (.bl (!a)) := fun F0 H0 F H σ R Q q => h1 F0 H0 F H σ R _ fun v F1 H1 g1 r1 => by
  cases r1
  exact ⟨a, rfl, q _ F1 H1 g1 (.bl _)⟩
theorem ev_if {b : Bool} (h : TvD K tt ρ b) (h1 : b = true → EvD K ta ρ d) (h2 : b = false → EvD K tb ρ d) : EvD K (tIf tt ta tb) ρ d := fun F0 H0 F H σ R Q q => h F0 H0 F H σ R _ fun F1 H1 g1 => by
  cases b with
  | true =>
    show ta σ H1 Q
    exact h1 rfl F0 H0 F1 H1 σ (R.grow g1) Q fun w F2 H2 g2 r2 => q w F2 H2 (g1.trans g2) r2
  | false =>
    show tb σ H1 Q
    exact h2 rfl F0 H0 F1 H1 σ (R.grow g1) Q fun w F2 H2 g2 r2 => q w F2 H2 (g1.trans g2) r2
/-- len of a list, a tuple, a text -/
def rLenA (K : PySem.W.Frag) : List V → Hp → VK → Prop := fun xs H Q => (∃ p ys, xs = [.ref p] ∧ (SqL K H p ys ∨ SqT K H p ys) ∧ Q (.int ys.length) H)
theorem cr_lenA {X : Cx} : CallR X (.builtin "len") (rLenA X.K) := call_len_seq
theorem ev_lenL (h : EvSL K te ρ ds) : EvD K (tCB (rLenA K) (tCons te tNil)) ρ (.int (ds.length : Int)) := ev_cbSL h fun F H e p vs s r Q q => ⟨p, vs, rfl, .inl s, by rw [r.length]; exact q _ F H (.refl e) (.int _)⟩
theorem ev_lenT (h : EvST K te ρ ds) : EvD K (tCB (rLenA K) (tCons te tNil)) ρ (.int (ds.length : Int)) := fun F0 H0 F H σ R Q q =>
  h F0 H0 F H σ R _ fun p vs F1 H1 g1 s1 r1 => ⟨p, vs, rfl, .inr s1, by rw [r1.length]; exact q _ F1 H1 g1 (.int _)⟩
end
end DL
set_option Elab.async false
set_option linter.all false
set_option maxRecDepth 100000
set_option maxHeartbeats 1000000
/-! What readings come to, over plain data: statements, loops, comprehensions, calls. -/
namespace DL
open PySem L2
/-- how a statement ends -/
inductive Out where
  | nx (ρ : List Sl) | rt (d : D) | bk (ρ : List Sl) | ct (ρ : List Sl) | er (C : Addr) (fs : List (Str × D)) (ρ : List Sl)
/-- the fields of an exception -/
def XR (K : PySem.W.Frag) (F H : Hp) (od : Option Addr) (fs : List (Str × D)) : Prop :=
  (fs = [] ∧ od = none) ∨ fs ≠ [] ∧ ∃ d fv, od = some d ∧ H d = some (.xd fv) ∧ ∀ f x, fs.lookup f = some x → ∃ v, fv.lookup f = some v ∧ Rep K F v x
def Post (K : PySem.W.Frag) (F0 H0 F : Hp) (E : Ends) (W : WX) : Out → Prop
  | .nx ρ => ∀ σ F' H', Ex F F' → RelS K F0 H0 F' H' σ ρ → E.nx σ H'
  | .rt d => ∀ v F' H', Ex F F' → Gr F0 H0 F' H' → Rep K F' v d → E.rt v H'
  | .bk ρ => ∀ σ F' H', Ex F F' → RelS K F0 H0 F' H' σ ρ → E.bk σ H'
  | .ct ρ => ∀ σ F' H', Ex F F' → RelS K F0 H0 F' H' σ ρ → E.ct σ H'
  | .er C fs ρ => ∀ od σ F' H', Ex F F' → RelS K F0 H0 F' H' σ ρ → XR K F' H' od fs → W (.ref C) od σ H'
theorem Post.up {K : PySem.W.Frag} {F0 H0 F F1 : Hp} {E : Ends} {W : WX} {o : Out} (e : Ex F F1) (p : Post K F0 H0 F E W o) : Post K F0 H0 F1 E W o := by
  cases o with
  | nx ρ => exact fun σ F' H' x r => p σ F' H' (e.trans x) r
  | rt d => exact fun v F' H' x g r => p v F' H' (e.trans x) g r
  | bk ρ => exact fun σ F' H' x r => p σ F' H' (e.trans x) r
  | ct ρ => exact fun σ F' H' x r => p σ F' H' (e.trans x) r
  | er C fs ρ => exact fun od σ F' H' x g r => p od σ F' H' (e.trans x) g r
def SvD (K : PySem.W.Frag) (W : WX) (ts : TS) (ρ : List Sl) (o : Out) : Prop :=
  ∀ (E : Ends) (F0 H0 F H : Hp) (σ : St), RelS K F0 H0 F H σ ρ → Post K F0 H0 F E W o → ts E σ H
def Out.stops : Out → Bool
  | .nx _ => false
  | _ => true
section
variable {K : PySem.W.Frag} {W : WX} {ρ ρ' : List Sl} {te ta tb : TE} {d x y z : D} {xs ys ds zs : List D} {tt tu : TT} {t u : TS} {o : Out} {i : Nat}
theorem sv_next : SvD K W tNext ρ (.nx ρ) := fun E F0 H0 F H σ R p => p σ F H (Ex.refl F) R
theorem sv_seq (h1 : SvD K W t ρ (.nx ρ')) (h2 : SvD K W u ρ' o) : SvD K W (tSeq t u) ρ o := fun E F0 H0 F H σ R p =>
  h1 _ F0 H0 F H σ R fun σ' F' H' e R' => h2 E F0 H0 F' H' σ' R' (p.up e)
theorem sv_stop (h1 : SvD K W t ρ o) (hs : o.stops = true := by rfl) : SvD K W (tSeq t u) ρ o := fun E F0 H0 F H σ R p =>
  h1 _ F0 H0 F H σ R (by cases o with
    | nx ρ => cases hs
    | rt d => exact p
    | bk ρ => exact p
    | ct ρ => exact p
    | er C fs ρ => exact p)
theorem sv_asg (h : EvD K te ρ d) : SvD K W (tAsg te (gName i)) ρ (.nx (ρ.set i (.d d))) := fun E F0 H0 F H σ R p =>
  h F0 H0 F H σ R _ fun v F1 H1 g1 r1 => p _ F1 H1 g1.f ((R.grow g1).set i r1)
theorem sv_asgL (h : EvL K te ρ xs) : SvD K W (tAsg te (gName i)) ρ (.nx (ρ.set i (.ol xs))) := fun E F0 H0 F H σ R p =>
  h F0 H0 F H σ R _ fun a vs F1 H1 g1 hp hf h1 r1 => p _ F1 H1 g1.f ((R.grow g1).setOwn i rfl ⟨R.gr.h.back hp, hf, vs, h1, r1⟩ fun j y h2 h3 _ h4 => R.fresh hp j y h2 h3 h4)
theorem sv_asgDK : SvD K W (tAsg tDNewK (gName i)) ρ (.nx (ρ.set i (.ok []))) := fun E F0 H0 F H σ R p => fun a ha =>
  p _ F _ (Ex.refl F) ((R.grow (.own R.ex ha)).setOwn i rfl ⟨R.gr.h.back ha, R.ex.back ha, [], upd_same, .nil, .nil⟩ fun j y h2 h3 _ h4 => R.fresh ha j y h2 h3 h4)
theorem sv_asgDT : SvD K W (tAsg tDNewT (gName i)) ρ (.nx (ρ.set i (.ot []))) := fun E F0 H0 F H σ R p => fun a ha =>
  p _ F _ (Ex.refl F) ((R.grow (.own R.ex ha)).setOwn i rfl ⟨R.gr.h.back ha, R.ex.back ha, [], upd_same, .nil, .nil⟩ fun j y h2 h3 _ h4 => R.fresh ha j y h2 h3 h4)
theorem sv_if {b : Bool} (h : TvD K tt ρ b) (h1 : b = true → SvD K W t ρ o) (h2 : b = false → SvD K W u ρ o) : SvD K W (tIfS tt t u) ρ o := fun E F0 H0 F H σ R p =>
  h F0 H0 F H σ R _ fun F1 H1 g1 => by
    cases b with
    | true =>
      show t E σ H1
      exact h1 rfl E F0 H0 F1 H1 σ (R.grow g1) (p.up g1.f)
    | false =>
      show u E σ H1
      exact h2 rfl E F0 H0 F1 H1 σ (R.grow g1) (p.up g1.f)
theorem sv_ifT (h : TvD K tt ρ true) (h1 : SvD K W t ρ o) : SvD K W (tIfS tt t u) ρ o := sv_if h (fun _ => h1) (fun e => nomatch e)
theorem sv_ifF (h : TvD K tt ρ false) (h2 : SvD K W u ρ o) : SvD K W (tIfS tt t u) ρ o := sv_if h (fun e => nomatch e) (fun _ => h2)
theorem sv_ret (h : EvD K te ρ d) : SvD K W (tRet te) ρ (.rt d) := fun E F0 H0 F H σ R p =>
  h F0 H0 F H σ R _ fun v F1 H1 g1 r1 => p v F1 H1 g1.f (R.gr.trans g1) r1
theorem sv_retE (h : EvD K te ρ d) (e : d = x) : SvD K W (tRet te) ρ (.rt x) := e ▸ sv_ret h
theorem sv_retN : SvD K W tRetN ρ (.rt .non) := fun E F0 H0 F H σ R p => p .non F H (Ex.refl F) R.gr .non
theorem sv_drop (h : EvD K te ρ d) : SvD K W (tDrop te) ρ (.nx ρ) := fun E F0 H0 F H σ R p =>
  h F0 H0 F H σ R _ fun v F1 H1 g1 r1 => p σ F1 H1 g1.f (R.grow g1)
theorem sv_brk : SvD K W tBreak ρ (.bk ρ) := fun E F0 H0 F H σ R p => p σ F H (Ex.refl F) R
theorem sv_cont : SvD K W tCont ρ (.ct ρ) := fun E F0 H0 F H σ R p => p σ F H (Ex.refl F) R
theorem sv_to {o' : Out} (h : SvD K W t ρ o) (e : o = o') : SvD K W t ρ o' := e ▸ h
theorem sv_from {ρ1 : List Sl} (h : SvD K W t ρ1 o) (e : ρ = ρ1) : SvD K W t ρ o := e ▸ h
/-- the own object of slot i is frozen -/
theorem sv_frz {s : Sl} (i : Nat) (hx : ρ[i]? = some s) (ox : s.own = true) (h : SvD K W t (ρ.set i (.d s.frz)) o) : SvD K W t ρ o := fun E F0 H0 F H σ R p => by
  obtain ⟨F1, e, R1⟩ := R.freeze hx ox
  exact h E F0 H0 F1 H σ R1 (p.up e)
/-- slots forgotten -/
theorem set_same {α : Type} : ∀ {l : List α} {i : Nat} {a : α}, l[i]? = some a → l.set i a = l
  | [], i, a, h => by simp at h
  | b :: l, 0, a, h => by
    simp at h; subst h; rfl
  | b :: l, i + 1, a, h => by
    rw [List.set_cons_succ, set_same (l := l) (by simpa using h)]
theorem sv_forget (i : Nat) (h : SvD K W t (ρ.set i .no) o) : SvD K W t ρ o := fun E F0 H0 F H σ R p => by
  cases e : σ[i]? with
  | none =>
    have hl : ρ.length ≤ i := by rw [← R.len]; exact List.getElem?_eq_none_iff.mp e
    have q : ρ.set i .no = ρ := List.set_eq_of_length_le hl
    rw [q] at h
    exact h E F0 H0 F H σ R p
  | some v =>
    have R1 := R.forget i v
    rw [set_same e] at R1
    exact h E F0 H0 F H σ R1 p
/-! ### own lists and dicts change -/
theorem sv_app (hx : ρ[i]? = some (.ol xs)) (h : EvD K te ρ d) (hl : xs.length < 16777216) : SvD K W (tDrop (tBM K "list" rAppend (tVar i) (tCons te tNil))) ρ (.nx (ρ.set i (.ol (xs ++ [d])))) := fun E F0 H0 F H σ R p => by
  obtain ⟨a, h1, n0, nf, vs, h2, rs⟩ := R.getOwn hx rfl
  refine ⟨_, h1, Or.inl ⟨rfl, _, Or.inl (Or.inl h2)⟩, ?_⟩
  refine h F0 H0 F H σ R _ fun v F1 H1 g1 r1 => ?_
  refine ⟨a, vs, v, rfl, rfl, g1.h _ _ h2, ?_, ?_⟩
  · rw [rs.length]; exact sz_of hl
  · refine p _ F1 _ g1.f ((R.grow g1).mut hx rfl h1 (y := .ol (xs ++ [d])) rfl ⟨n0, g1.n a _ h2 rfl nf, _, upd_same, (rs.mono g1.f).append (.cons r1 .nil)⟩)
/-! ### dicts -/
def kD : Key → D
  | .inl i => .int i
  | .inr s => .str s
def EvDK (K : PySem.W.Frag) (te : TE) (ρ : List Sl) (kvs : List (Key × D)) : Prop := ∀ (F0 H0 F H : Hp) (σ : St), RelS K F0 H0 F H σ ρ → ∀ Q : VK, (∀ a ws F' H', Gr F H F' H' → Rd H' a (.dK ws) → KR K F' ws kvs → Q (.ref a) H') → te σ H Q
def EvDT (K : PySem.W.Frag) (te : TE) (ρ : List Sl) (kvs : List (List Key × D)) : Prop := ∀ (F0 H0 F H : Hp) (σ : St), RelS K F0 H0 F H σ ρ → ∀ Q : VK, (∀ a ws F' H', Gr F H F' H' → Rd H' a (.dT ws) → KR K F' ws kvs → Q (.ref a) H') → te σ H Q
theorem rd_str {F H : Hp} {a : Addr} {o : HO} (e : Ex F H) (h : F a = some o) : (∀ k, str1 o = .dK k → Rd H a (.dK k)) ∧ ∀ k, str1 o = .dT k → Rd H a (.dT k) := by
  have h' := e a o h
  refine ⟨fun k z => ?_, fun k z => ?_⟩
  · unfold str1 at z
    split at z
    · cases z; exact .inr ⟨_, h'⟩
    · cases z
    · subst z; exact .inl h'
  · unfold str1 at z
    split at z
    · cases z
    · cases z; exact .inr ⟨_, h'⟩
    · subst z; exact .inl h'
theorem dk_d {ks : List Key} (h : EvD K te ρ (.dk ks ds)) : EvDK K te ρ (ks.zip ds) := fun F0 H0 F H σ R Q q => h F0 H0 F H σ R Q fun v F' H' g r => by
  cases r with
  | dk h hs l rs => exact q _ _ F' H' g ((rd_str g.s h).1 _ hs) (KR.of l rs)
theorem dt_d {ks : List (List Key)} (h : EvD K te ρ (.dt ks ds)) : EvDT K te ρ (ks.zip ds) := fun F0 H0 F H σ R Q q => h F0 H0 F H σ R Q fun v F' H' g r => by
  cases r with
  | dt h hs l rs => exact q _ _ F' H' g ((rd_str g.s h).2 _ hs) (KR.of l rs)
theorem dk_own {kvs : List (Key × D)} (h : ρ[i]? = some (.ok kvs)) : EvDK K (tVar i) ρ kvs := fun F0 H0 F H σ R Q q => by
  obtain ⟨p, h1, n0, nf, ws, h2, nd, rs⟩ := R.getOwn h rfl
  exact ⟨_, h1, q p ws F H (.refl R.ex) (.inl h2) rs⟩
theorem dt_own {kvs : List (List Key × D)} (h : ρ[i]? = some (.ot kvs)) : EvDT K (tVar i) ρ kvs := fun F0 H0 F H σ R Q q => by
  obtain ⟨p, h1, n0, nf, ws, h2, nd, rs⟩ := R.getOwn h rfl
  exact ⟨_, h1, q p ws F H (.refl R.ex) (.inl h2) rs⟩
theorem rep_kD {F : Hp} {v : V} {k : Key} (h : Rep K F v (kD k)) : v = kV k := by
  cases k with
  | inl i => cases h; rfl
  | inr s => cases h; rfl
theorem rep_key {F : Hp} (k : Key) : Rep K F (kV k) (kD k) := by
  cases k with
  | inl i => exact .int i
  | inr s => exact .str s
theorem reps_keys {F : Hp} : ∀ ks : List Key, Reps K F (ks.map kV) (ks.map kD)
  | [] => .nil
  | k :: ks => .cons (rep_key k) (reps_keys ks)
theorem reps_kD {F : Hp} : ∀ {vs : List V} {ks : List Key}, Reps K F vs (ks.map kD) → vs = ks.map kV
  | vs, [], h => by cases h; rfl
  | vs, k :: ks, h => by
    cases h with
    | cons h r => rw [rep_kD h, reps_kD r]; rfl
theorem rep_kT {F : Hp} {v : V} {ks : List Key} (h : Rep K F v (.tup (ks.map kD))) : ∃ b, v = .ref b ∧ F b = some (.tup (ks.map kV)) := by
  cases h with
  | tup h r => rw [reps_kD r] at h; exact ⟨_, rfl, h⟩
theorem rd_ex {H H' : Hp} (e : Ex H H') {a : Addr} {u : HO} (h : Rd H a u) : Rd H' a u := e.rd h
theorem ev_dgetK {k : Key} {kvs : List (Key × D)} (ha : EvDK K ta ρ kvs) (hb : EvD K tb ρ (kD k)) (h : gget kvs k = some d) : EvD K (tDGet ta tb) ρ d := fun F0 H0 F H σ R Q q =>
  ha F0 H0 F H σ R _ fun a ws F1 H1 g1 s1 r1 => hb F0 H0 F1 H1 σ (R.grow g1) _ fun u F2 H2 g2 r2 => by
    rcases (r1.mono g2.f).get (k := k) with ⟨_, z⟩ | ⟨v, d', z1, z2, z3⟩
    · rw [h] at z; cases z
    · rw [h] at z2; cases z2
      refine ⟨a, v, rfl, .inl ⟨ws, k, g2.h.rd s1, rep_kD r2, ?_⟩, q v F2 H2 (g1.trans g2) z3⟩
      rw [valV_eq]; exact z1.symm
theorem ev_dgetT {k : List Key} {kvs : List (List Key × D)} (ha : EvDT K ta ρ kvs) (hb : EvD K tb ρ (.tup (k.map kD))) (h : gget kvs k = some d) : EvD K (tDGet ta tb) ρ d := fun F0 H0 F H σ R Q q =>
  ha F0 H0 F H σ R _ fun a ws F1 H1 g1 s1 r1 => hb F0 H0 F1 H1 σ (R.grow g1) _ fun u F2 H2 g2 r2 => by
    rcases (r1.mono g2.f).get (k := k) with ⟨_, z⟩ | ⟨v, d', z1, z2, z3⟩
    · rw [h] at z; cases z
    · rw [h] at z2; cases z2
      obtain ⟨b, rfl, hb2⟩ := rep_kT r2
      refine ⟨a, v, rfl, .inr ⟨ws, k, b, g2.h.rd s1, rfl, g2.s _ _ hb2, ?_⟩, q v F2 H2 (g1.trans g2) z3⟩
      rw [valV_eq]; exact z1.symm
theorem isD_k {H : Hp} {a : Addr} {ws : List (Key × V)} (h : Rd H a (.dK ws)) : IsD H a := .inl ⟨ws, h⟩
theorem isD_t {H : Hp} {a : Addr} {ws : List (List Key × V)} (h : Rd H a (.dT ws)) : IsD H a := .inr ⟨ws, h⟩
theorem ev_get2K {k : Key} {kvs : List (Key × D)} {tc : TE} (ha : EvDK K ta ρ kvs) (hb : EvD K tb ρ (kD k)) (hc : EvD K tc ρ x) : EvD K (tDGet2 ta tb tc) ρ ((gget kvs k).getD x) := fun F0 H0 F H σ R Q q =>
  ha F0 H0 F H σ R _ fun a ws F1 H1 g1 s1 r1 => ⟨a, rfl, isD_k s1, hb F0 H0 F1 H1 σ (R.grow g1) _ fun u F2 H2 g2 r2 => hc F0 H0 F2 H2 σ (R.grow (g1.trans g2)) _ fun w F3 H3 g3 r3 => by
    refine ⟨valV ws k, .inl ⟨ws, k, (g2.trans g3).h.rd s1, rep_kD r2, rfl⟩, ?_⟩
    rcases (r1.mono (g2.trans g3).f).get (k := k) with ⟨z1, z2⟩ | ⟨v, d', z1, z2, z3⟩
    · rw [valV_eq, z1]; rw [z2] at q; exact q w F3 H3 ((g1.trans g2).trans g3) r3
    · rw [valV_eq, z1]; rw [z2] at q; exact q v F3 H3 ((g1.trans g2).trans g3) z3⟩
theorem ev_get2T {k : List Key} {kvs : List (List Key × D)} {tc : TE} (ha : EvDT K ta ρ kvs) (hb : EvD K tb ρ (.tup (k.map kD))) (hc : EvD K tc ρ x) : EvD K (tDGet2 ta tb tc) ρ ((gget kvs k).getD x) := fun F0 H0 F H σ R Q q =>
  ha F0 H0 F H σ R _ fun a ws F1 H1 g1 s1 r1 => ⟨a, rfl, isD_t s1, hb F0 H0 F1 H1 σ (R.grow g1) _ fun u F2 H2 g2 r2 => hc F0 H0 F2 H2 σ (R.grow (g1.trans g2)) _ fun w F3 H3 g3 r3 => by
    obtain ⟨b, rfl, hb2⟩ := rep_kT r2
    refine ⟨valV ws k, .inr ⟨ws, k, b, (g2.trans g3).h.rd s1, rfl, g3.h _ _ (g2.s _ _ hb2), rfl⟩, ?_⟩
    rcases (r1.mono (g2.trans g3).f).get (k := k) with ⟨z1, z2⟩ | ⟨v, d', z1, z2, z3⟩
    · rw [valV_eq, z1]; rw [z2] at q; exact q w F3 H3 ((g1.trans g2).trans g3) r3
    · rw [valV_eq, z1]; rw [z2] at q; exact q v F3 H3 ((g1.trans g2).trans g3) z3⟩
theorem sv_putK {k : Key} {kvs : List (Key × D)} (hx : ρ[i]? = some (.ok kvs)) (hv : EvD K ta ρ d) (hk : EvD K tb ρ (kD k)) (hl : kvs.length < 16777216) :
    SvD K W (sDPut (tVar i) tb ta) ρ (.nx (ρ.set i (.ok (gput kvs k d)))) := fun E F0 H0 F H σ R p => by
  refine hv F0 H0 F H σ R _ fun v F1 H1 g1 r1 => ?_
  obtain ⟨a, h1, n0, nf, ws, h2, nd, rs⟩ := (R.grow g1).getOwn hx rfl
  refine ⟨_, h1, hk F0 H0 F1 H1 σ (R.grow g1) _ fun u F2 H2 g2 r2 => ?_⟩
  refine ⟨a, _, rfl, .inl ⟨ws, k, g2.h _ _ h2, rep_kD r2, by rw [rs.length]; exact sz_of hl, rfl⟩, ?_⟩
  have R2 := (R.grow (g1.trans g2))
  refine p _ F2 _ (g1.trans g2).f (R2.mut hx rfl h1 (y := .ok (gput kvs k d)) rfl ⟨n0, g2.n a _ h2 rfl nf, gput ws k v, ?_, (gput_keys k d kvs nd).1, KR.put (r1.mono g2.f) (rs.mono g2.f)⟩)
  rw [upd_same, putK_eq k v ws (by rw [rs.keys]; exact nd)]
theorem sv_putT {k : List Key} {kvs : List (List Key × D)} (hx : ρ[i]? = some (.ot kvs)) (hv : EvD K ta ρ d) (hk : EvD K tb ρ (.tup (k.map kD))) (hl : kvs.length < 16777216) :
    SvD K W (sDPut (tVar i) tb ta) ρ (.nx (ρ.set i (.ot (gput kvs k d)))) := fun E F0 H0 F H σ R p => by
  refine hv F0 H0 F H σ R _ fun v F1 H1 g1 r1 => ?_
  obtain ⟨a, h1, n0, nf, ws, h2, nd, rs⟩ := (R.grow g1).getOwn hx rfl
  refine ⟨_, h1, hk F0 H0 F1 H1 σ (R.grow g1) _ fun u F2 H2 g2 r2 => ?_⟩
  obtain ⟨b, rfl, hb2⟩ := rep_kT r2
  refine ⟨a, _, rfl, .inr ⟨ws, k, b, g2.h _ _ h2, rfl, g2.s _ _ hb2, by rw [rs.length]; exact sz_of hl, rfl⟩, ?_⟩
  have R2 := (R.grow (g1.trans g2))
  refine p _ F2 _ (g1.trans g2).f (R2.mut hx rfl h1 (y := .ot (gput kvs k d)) rfl ⟨n0, g2.n a _ h2 rfl nf, gput ws k v, ?_, (gput_keys k d kvs nd).1, KR.put (r1.mono g2.f) (rs.mono g2.f)⟩)
  rw [upd_same, putK_eq k v ws (by rw [rs.keys]; exact nd)]
/-! ### targets -/
/-- a target takes the datum d: the slots behind; only the slots is change -/
def TgD (K : PySem.W.Frag) (g : TG) (is : List Nat) (d : D) (ρ ρ' : List Sl) : Prop := (∀ (j : Nat) (y : Sl), ρ'[j]? = some y → y.own = true → j ∉ is ∧ ρ[j]? = some y) ∧ ∀ (F0 H0 F H : Hp) (σ : St) (v : V), RelS K F0 H0 F H σ ρ → Rep K F v d → ∀ Q : St → Hp → Prop,
  (∀ σ', RelS K F0 H0 F H σ' ρ' → σ'.length = σ.length → (∀ j, j ∉ is → σ'[j]? = σ[j]?) → Q σ' H) → g v σ H Q
def TgsD (K : PySem.W.Frag) (g : TGs) (is : List Nat) (ds : List D) (ρ ρ' : List Sl) : Prop := (∀ (j : Nat) (y : Sl), ρ'[j]? = some y → y.own = true → j ∉ is ∧ ρ[j]? = some y) ∧ ∀ (F0 H0 F H : Hp) (σ : St) (vs : List V), RelS K F0 H0 F H σ ρ → Reps K F vs ds → ∀ Q : St → Hp → Prop,
  (∀ σ', RelS K F0 H0 F H σ' ρ' → σ'.length = σ.length → (∀ j, j ∉ is → σ'[j]? = σ[j]?) → Q σ' H) → g vs σ H Q
theorem tg_name : TgD K (gName i) [i] d ρ (ρ.set i (.d d)) := ⟨fun j y h o => by
    rcases get_set h with ⟨e, rfl⟩ | ⟨e, h⟩
    · cases o
    · exact ⟨by simpa using fun z => e z.symm, h⟩, fun F0 H0 F H σ v R r Q q => q _ (R.set i r) (List.length_set ..) fun j hj => by
    rw [List.getElem?_set_ne (by simpa using (fun z => hj (by simp [z])))]⟩
theorem tgs_nil : TgsD K gNil [] [] ρ ρ := ⟨fun j y h o => ⟨by simp, h⟩, fun F0 H0 F H σ vs R r Q q => by
  cases r
  exact ⟨rfl, q σ R rfl fun _ _ => rfl⟩⟩
theorem tgs_cons {g : TG} {gs : TGs} {is js : List Nat} {ρ1 : List Sl} (h1 : TgD K g is d ρ ρ1) (h2 : TgsD K gs js ds ρ1 ρ') : TgsD K (gCons g gs) (is ++ js) (d :: ds) ρ ρ' := ⟨fun j y h o => by
    obtain ⟨n2, e2⟩ := h2.1 j y h o
    obtain ⟨n1, e1⟩ := h1.1 j y e2 o
    exact ⟨by rw [List.mem_append]; rintro (z | z); exact n1 z; exact n2 z, e1⟩, fun F0 H0 F H σ vs R r Q q => by
  cases r with
  | cons hv rv =>
    refine ⟨_, _, rfl, h1.2 F0 H0 F H σ _ R hv _ fun σ1 R1 l1 k1 => h2.2 F0 H0 F H σ1 _ R1 rv _ fun σ2 R2 l2 k2 => q σ2 R2 (l2.trans l1) fun j hj => ?_⟩
    rw [List.mem_append] at hj
    exact (k2 j fun z => hj (.inr z)).trans (k1 j fun z => hj (.inl z))⟩
theorem tg_tup {gs : TGs} {is : List Nat} {n : Nat} (h : TgsD K gs is ds ρ ρ') (hn : ds.length = n) : TgD K (gTup K n gs) is (.tup ds) ρ ρ' := ⟨h.1, fun F0 H0 F H σ v R r Q q => by
  cases r with
  | tup h1 rs => exact ⟨_, _, rfl, SqT.of (R.ex _ _ h1), by rw [rs.length]; exact hn, h.2 F0 H0 F H σ _ R rs Q q⟩⟩
theorem sv_asgT {g : TG} {is : List Nat} (h : EvD K te ρ d) (hg : TgD K g is d ρ ρ') : SvD K W (tAsg te g) ρ (.nx ρ') := fun E F0 H0 F H σ R p =>
  h F0 H0 F H σ R _ fun v F1 H1 g1 r1 => hg.2 F0 H0 F1 H1 σ v (R.grow g1) r1 _ fun σ' R' _ _ => p σ' F1 H1 g1.f R'
/-! ### loops -/
/-- the turns of a for, one item after the other -/
inductive Run (step : D → List Sl → Out → Prop) : List D → List Sl → Out → Prop
  | nil {ρ : List Sl} : Run step [] ρ (.nx ρ)
  | go {d : D} {ds : List D} {ρ ρ' : List Sl} {o : Out} (h : step d ρ (.nx ρ')) (r : Run step ds ρ' o) : Run step (d :: ds) ρ o
  | ct {d : D} {ds : List D} {ρ ρ' : List Sl} {o : Out} (h : step d ρ (.ct ρ')) (r : Run step ds ρ' o) : Run step (d :: ds) ρ o
  | bk {d : D} {ds : List D} {ρ ρ' : List Sl} (h : step d ρ (.bk ρ')) : Run step (d :: ds) ρ (.nx ρ')
  | rt {d x : D} {ds : List D} {ρ : List Sl} (h : step d ρ (.rt x)) : Run step (d :: ds) ρ (.rt x)
  | er {d : D} {ds : List D} {ρ ρ' : List Sl} {C : Addr} {fs : List (Str × D)} (h : step d ρ (.er C fs ρ')) : Run step (d :: ds) ρ (.er C fs ρ')
/-- one turn: the target, the body -/
def Turn1 (K : PySem.W.Frag) (W : WX) (g : TG) (tb : TS) : D → List Sl → Out → Prop := fun d ρ o => ∃ is ρ1, TgD K g is d ρ ρ1 ∧ SvD K W tb ρ1 o
theorem t1_name {tb : TS} (h : SvD K W tb (ρ.set i (.d d)) o) : Turn1 K W (gName i) tb d ρ o := ⟨_, _, tg_name, h⟩
end
end DL
set_option Elab.async false
set_option linter.all false
set_option maxRecDepth 100000
set_option maxHeartbeats 1000000
/-! What readings come to, over plain data: loops, comprehensions. -/
namespace DL
open PySem L2
/-- an iterator that yields the data ds, while A holds of the frozen part -/
structure Src (K : PySem.W.Frag) (J : It) (ds : List D) (A : Hp → Prop) : Prop where
  keep : ∀ F F', A F → Ex F F' → A F'
  go : ∀ i F H, i < ds.length → A F → Ex F H → J.go i H
  stop : ∀ F H, A F → Ex F H → J.stop ds.length H
  yld : ∀ i F H x H' d, ds[i]? = some d → A F → Ex F H → J.yld i H x H' → ∃ F', Gr F H F' H' ∧ Rep K F' x d
def WiD (K : PySem.W.Frag) (wi : TI) (ρ : List Sl) (ds : List D) : Prop := ∀ (F0 H0 F H : Hp) (σ : St), RelS K F0 H0 F H σ ρ → ∀ R : It → Hp → Prop, (∀ J A F' H', Gr F H F' H' → Src K J ds A → A F' → R J H') → wi σ H R
section
variable {K : PySem.W.Frag} {W : WX} {ρ ρ' : List Sl} {te ta tb : TE} {d x y z : D} {xs ys ds zs : List D} {tt tu : TT} {t u : TS} {o : Out} {i : Nat}
theorem src_list {a : Addr} {vs : List V} : Src K (Itl K a) ds (fun F => F a = some (.lst vs) ∧ Reps K F vs ds) where
  keep := fun F F' h e => ⟨e _ _ h.1, h.2.mono e⟩
  go := fun i F H hi h e => walk_list.goes i H (by rw [h.2.length]; exact hi) (SqL.of (e _ _ h.1))
  stop := fun F H h e => by rw [← h.2.length]; exact walk_list.stops H (SqL.of (e _ _ h.1))
  yld := fun i F H x H' d hd h e y => by
    have hi : i < vs.length := by rw [h.2.length]; exact (List.getElem?_eq_some_iff.mp hd).1
    obtain ⟨rfl, hx⟩ := walk_list.yields i H x H' hi (SqL.of (e _ _ h.1)) y
    obtain ⟨d', h1, h2⟩ := h.2.get hx
    rw [hd] at h1; cases h1
    exact ⟨F, .refl e, h2⟩
theorem src_scr {a : Addr} {ns : List Int} : Src K (Itl K a) (ns.map D.int) (fun F => SqL K F a (ns.map V.int)) where
  keep := fun F F' h e => e.sl h
  go := fun i F H hi h e => walk_list.goes i H (by simpa using hi) (e.sl h)
  stop := fun F H h e => by
    have := walk_list.stops H (e.sl h)
    simpa using this
  yld := fun i F H x H' d hd h e y => by
    have hi : i < (ns.map V.int).length := by simpa using (List.getElem?_eq_some_iff.mp hd).1
    obtain ⟨rfl, hx⟩ := walk_list.yields i H x H' hi (e.sl h) y
    rw [List.getElem?_map] at hx hd
    cases e1 : ns[i]? with
    | none => rw [e1] at hx; cases hx
    | some n =>
      rw [e1] at hx hd
      cases hx; cases hd
      exact ⟨F, .refl e, .int n⟩
theorem src_tup {a : Addr} {vs : List V} : Src K (Itt K a) ds (fun F => F a = some (.tup vs) ∧ Reps K F vs ds) where
  keep := fun F F' h e => ⟨e _ _ h.1, h.2.mono e⟩
  go := fun i F H hi h e => walk_tup.goes i H (by rw [h.2.length]; exact hi) (SqT.of (e _ _ h.1))
  stop := fun F H h e => by rw [← h.2.length]; exact walk_tup.stops H (SqT.of (e _ _ h.1))
  yld := fun i F H x H' d hd h e y => by
    have hi : i < vs.length := by rw [h.2.length]; exact (List.getElem?_eq_some_iff.mp hd).1
    obtain ⟨rfl, hx⟩ := walk_tup.yields i H x H' hi (SqT.of (e _ _ h.1)) y
    obtain ⟨d', h1, h2⟩ := h.2.get hx
    rw [hd] at h1; cases h1
    exact ⟨F, .refl e, h2⟩
/-- lo, lo + 1, .. -/
def rngD (lo : Int) (n : Nat) : List D := (List.range n).map fun (i : Nat) => D.int (lo + i)
theorem rngD_length (lo : Int) (n : Nat) : (rngD lo n).length = n := by simp [rngD]
theorem rngD_get {lo : Int} {n i : Nat} {d : D} (h : (rngD lo n)[i]? = some d) : d = .int (lo + i) := by
  unfold rngD at h
  rw [List.getElem?_map] at h
  cases e : (List.range n)[i]? with
  | none => rw [e] at h; cases h
  | some j =>
    rw [e] at h
    have := List.getElem?_eq_some_iff.mp e
    obtain ⟨h1, h2⟩ := this
    rw [List.getElem_range] at h2
    subst h2
    cases h; rfl
theorem src_range {lo : Int} {n : Nat} : Src K (Itr lo n) (rngD lo n) (fun _ => True) where
  keep := fun _ _ _ _ => trivial
  go := fun i F H hi _ _ => walk_range.goes i H (by rw [rngD_length] at hi; exact hi) trivial
  stop := fun F H _ _ => by rw [rngD_length]; exact walk_range.stops H trivial
  yld := fun i F H x H' d hd _ e y => by
    have hi : i < n := by have := (List.getElem?_eq_some_iff.mp hd).1; rw [rngD_length] at this; exact this
    obtain ⟨rfl, hx⟩ := walk_range.yields i H x H' hi trivial y
    subst hx
    rw [rngD_get hd]
    exact ⟨F, .refl e, .int _⟩
theorem src_rangeC {lo c : Int} {n : Nat} : Src K (Itc lo c n) ((List.range n).map fun (i : Nat) => D.int (lo + (i : Nat) * c)) (fun _ => True) where
  keep := fun _ _ _ _ => trivial
  go := fun i F H hi _ _ => walk_rangeC.goes i H (by simpa using hi) trivial
  stop := fun F H _ _ => by
    have := walk_rangeC (lo := lo) (c := c) (n := n).stops H trivial
    simpa using this
  yld := fun i F H x H' d hd _ e y => by
    have hi : i < n := by have := (List.getElem?_eq_some_iff.mp hd).1; simpa using this
    obtain ⟨rfl, hx⟩ := walk_rangeC.yields i H x H' hi trivial y
    subst hx
    rw [List.getElem?_map] at hd
    have e1 : (List.range n)[i]? = some i := by rw [List.getElem?_range hi]
    rw [e1] at hd
    cases hd
    exact ⟨F, .refl e, .int _⟩
theorem src_keys {a : Addr} {ob : Obj} {ws : List (Key × V)} : Src K (Itk a ob ws) (ws.map fun kv => kD kv.1) (fun F => F a = some (.frz ob (.dK ws))) where
  keep := fun F F' h e => e _ _ h
  go := fun i F H hi h e => walk_keys.goes i H (by simpa using hi) (e _ _ h)
  stop := fun F H h e => by
    have := walk_keys.stops H (e _ _ h)
    simpa using this
  yld := fun i F H x H' d hd h e y => by
    have hi : i < ws.length := by have := (List.getElem?_eq_some_iff.mp hd).1; simpa using this
    obtain ⟨rfl, k, v, h1, rfl⟩ := walk_keys.yields i H x H' hi (e _ _ h) y
    rw [List.getElem?_map, h1] at hd
    cases hd
    exact ⟨F, .refl e, rep_key k⟩
theorem src_keysT {a : Addr} {ob : Obj} {ws : List (List Key × V)} : Src K (Itkt a ob ws) (ws.map fun kv => D.tup (kv.1.map kD)) (fun F => F a = some (.frz ob (.dT ws))) where
  keep := fun F F' h e => e _ _ h
  go := fun i F H hi h e => walk_keysT.goes i H (by simpa using hi) (e _ _ h)
  stop := fun F H h e => by
    have := walk_keysT.stops H (e _ _ h)
    simpa using this
  yld := fun i F H x H' d hd h e y => by
    have hi : i < ws.length := by have := (List.getElem?_eq_some_iff.mp hd).1; simpa using this
    obtain ⟨rfl, k, v, q, h1, rfl, h2⟩ := walk_keysT.yields i H x H' hi (e _ _ h) y
    rw [List.getElem?_map, h1] at hd
    cases hd
    obtain ⟨F', g, hq⟩ := Gr.tup e h2
    exact ⟨F', g, .tup hq (reps_keys k)⟩
theorem wi_list (h : EvD K te ρ (.lst ds)) : WiD K (iList K te) ρ ds := fun F0 H0 F H σ R Q q => h F0 H0 F H σ R _ fun v F1 H1 g1 r1 => by
  cases r1 with
  | lst h1 rs => exact ⟨_, rfl, ⟨_, SqL.of (g1.s _ _ h1)⟩, q _ _ F1 H1 g1 src_list ⟨h1, rs⟩⟩
theorem wi_scr {ns : List Int} (h : EvD K te ρ (.scr ns)) : WiD K (iList K te) ρ (ns.map D.int) := fun F0 H0 F H σ R Q q => h F0 H0 F H σ R _ fun v F1 H1 g1 r1 => by
  cases r1 with
  | scr h1 => exact ⟨_, rfl, ⟨_, g1.s.sl h1⟩, q _ _ F1 H1 g1 src_scr h1⟩
theorem wi_tup (h : EvD K te ρ (.tup ds)) : WiD K (iTup K te) ρ ds := fun F0 H0 F H σ R Q q => h F0 H0 F H σ R _ fun v F1 H1 g1 r1 => by
  cases r1 with
  | tup h1 rs => exact ⟨_, rfl, ⟨_, SqT.of (g1.s _ _ h1)⟩, q _ _ F1 H1 g1 src_tup ⟨h1, rs⟩⟩
theorem wi_rng1 {ta : TA} {j : Int} (h : AvD K ta ρ [.int j]) (h1 : -(2 ^ 62) ≤ j) (h2 : j < 2 ^ 62) : WiD K (iRng1 ta) ρ (rngD 0 j.toNat) := fun F0 H0 F H σ R Q q => h F0 H0 F H σ R _ fun vs F1 H1 g1 r1 => by
  cases r1 with
  | cons a r =>
    cases a; cases r
    exact ⟨j, rfl, h1, h2, q _ _ F1 H1 g1 src_range trivial⟩
theorem wi_rng2 {ta : TA} {i j : Int} (h : AvD K ta ρ [.int i, .int j]) (h1 : -(2 ^ 62) ≤ i ∧ i < 2 ^ 62) (h2 : -(2 ^ 62) ≤ j ∧ j < 2 ^ 62) : WiD K (iRng2 ta) ρ (rngD i (j - i).toNat) := fun F0 H0 F H σ R Q q => h F0 H0 F H σ R _ fun vs F1 H1 g1 r1 => by
  cases r1 with
  | cons a r =>
    cases a
    cases r with
    | cons b r =>
      cases b; cases r
      exact ⟨i, j, rfl, ⟨h1.1, h1.2, h2.1, h2.2⟩, q _ _ F1 H1 g1 src_range trivial⟩
theorem run_get {step : D → List Sl → Out → Prop} {ds : List D} {ρ : List Sl} {o : Out} (r : Run step ds ρ o) : (ds = [] ∧ o = .nx ρ) ∨ ∃ d r', ds = d :: r' ∧ ((∃ ρ', step d ρ (.nx ρ') ∧ Run step r' ρ' o) ∨ (∃ ρ', step d ρ (.ct ρ') ∧ Run step r' ρ' o) ∨ (∃ ρ', step d ρ (.bk ρ') ∧ o = .nx ρ') ∨ (∃ x, step d ρ (.rt x) ∧ o = .rt x) ∨ ∃ C fs ρ', step d ρ (.er C fs ρ') ∧ o = .er C fs ρ') := by
  cases r with
  | nil => exact .inl ⟨rfl, rfl⟩
  | go h r => exact .inr ⟨_, _, rfl, .inl ⟨_, h, r⟩⟩
  | ct h r => exact .inr ⟨_, _, rfl, .inr (.inl ⟨_, h, r⟩)⟩
  | bk h => exact .inr ⟨_, _, rfl, .inr (.inr (.inl ⟨_, h, rfl⟩))⟩
  | rt h => exact .inr ⟨_, _, rfl, .inr (.inr (.inr (.inl ⟨_, h, rfl⟩)))⟩
  | er h => exact .inr ⟨_, _, rfl, .inr (.inr (.inr (.inr ⟨_, _, _, h, rfl⟩)))⟩
theorem drop_get {α : Type} {l : List α} {i : Nat} {a : α} {r : List α} (h : l.drop i = a :: r) : l[i]? = some a ∧ l.drop (i + 1) = r ∧ i < l.length := by
  have h1 : (l.drop i)[0]? = some a := by rw [h]; rfl
  rw [List.getElem?_drop] at h1
  have h2 : l[i]? = some a := by simpa using h1
  refine ⟨h2, ?_, (List.getElem?_eq_some_iff.mp h2).1⟩
  rw [← List.drop_drop, h]; rfl
theorem for_at {wi : TI} {g : TG} {tb : TS} {E : Ends} {F0 H0 F H : Hp} {σ : St} (R : RelS K F0 H0 F H σ ρ) (hw : ∀ R' : It → Hp → Prop, (∀ J A F' H', Gr F H F' H' → Src K J ds A → A F' → R' J H') → wi σ H R') (hr : Run (Turn1 K W g tb) ds ρ o)
    (p : Post K F0 H0 F E W o) : tFor wi g tb E σ H :=
  hw _ fun J A F1 H1 g1 src a1 => by
    refine ⟨fun i m σ' H' => ∃ ρ' F', m = ds.length - i ∧ i ≤ ds.length ∧ RelS K F0 H0 F' H' σ' ρ' ∧ Run (Turn1 K W g tb) (ds.drop i) ρ' o ∧ Ex F1 F', ⟨ds.length, ρ, F1, rfl, Nat.zero_le _, R.grow g1, hr, Ex.refl F1⟩, ?_⟩
    rintro i m σ' H' ⟨ρ', F', rfl, hi, R', hr', ex⟩
    have a' := src.keep _ _ a1 ex
    have pF : Post K F0 H0 F' E W o := p.up (g1.f.trans ex)
    rcases run_get hr' with ⟨e, rfl⟩ | ⟨d, r, e, h⟩
    · have hi' : i = ds.length := by
        have := List.drop_eq_nil_iff.mp e
        omega
      subst hi'
      exact .inl ⟨src.stop _ _ a' R'.ex, pF σ' F' H' (Ex.refl F') R'⟩
    · obtain ⟨hd, hn, hlt⟩ := drop_get e
      refine .inr ⟨src.go i F' H' hlt a' R'.ex, ?_⟩
      rcases h with ⟨ρ2, h, r2⟩ | ⟨ρ2, h, r2⟩ | ⟨ρ2, h, rfl⟩ | ⟨x, h, rfl⟩ | ⟨C, fs, ρe, h, rfl⟩
      · refine ⟨fun σ2 H2 => ∃ F2, RelS K F0 H0 F2 H2 σ2 ρ2 ∧ Ex F1 F2, fun σ2 H2 ⟨F2, R2, e2⟩ => ⟨ds.length - (i + 1), by omega, ρ2, F2, rfl, hlt, R2, by rw [hn]; exact r2, e2⟩, fun x H2 y => ?_⟩
        obtain ⟨F2, g2, rx⟩ := src.yld i F' H' x H2 d hd a' R'.ex y
        obtain ⟨is, ρ3, tg, sb⟩ := h
        exact tg.2 F0 H0 F2 H2 σ' x (R'.grow g2) rx _ fun σ3 R3 _ _ => sb _ F0 H0 F2 H2 σ3 R3 fun σ4 F4 H4 e4 R4 => ⟨F4, R4, (ex.trans g2.f).trans e4⟩
      · refine ⟨fun σ2 H2 => ∃ F2, RelS K F0 H0 F2 H2 σ2 ρ2 ∧ Ex F1 F2, fun σ2 H2 ⟨F2, R2, e2⟩ => ⟨ds.length - (i + 1), by omega, ρ2, F2, rfl, hlt, R2, by rw [hn]; exact r2, e2⟩, fun x H2 y => ?_⟩
        obtain ⟨F2, g2, rx⟩ := src.yld i F' H' x H2 d hd a' R'.ex y
        obtain ⟨is, ρ3, tg, sb⟩ := h
        exact tg.2 F0 H0 F2 H2 σ' x (R'.grow g2) rx _ fun σ3 R3 _ _ => sb _ F0 H0 F2 H2 σ3 R3 fun σ4 F4 H4 e4 R4 => ⟨F4, R4, (ex.trans g2.f).trans e4⟩
      · refine ⟨fun _ _ => False, fun _ _ z => z.elim, fun x H2 y => ?_⟩
        obtain ⟨F2, g2, rx⟩ := src.yld i F' H' x H2 d hd a' R'.ex y
        obtain ⟨is, ρ3, tg, sb⟩ := h
        exact tg.2 F0 H0 F2 H2 σ' x (R'.grow g2) rx _ fun σ3 R3 _ _ => sb _ F0 H0 F2 H2 σ3 R3 fun σ4 F4 H4 e4 R4 => pF σ4 F4 H4 (g2.f.trans e4) R4
      · refine ⟨fun _ _ => False, fun _ _ z => z.elim, fun x H2 y => ?_⟩
        obtain ⟨F2, g2, rx⟩ := src.yld i F' H' x H2 d hd a' R'.ex y
        obtain ⟨is, ρ3, tg, sb⟩ := h
        exact tg.2 F0 H0 F2 H2 σ' x (R'.grow g2) rx _ fun σ3 R3 _ _ => sb _ F0 H0 F2 H2 σ3 R3 fun v F4 H4 e4 g4 r4 => pF v F4 H4 (g2.f.trans e4) g4 r4
      · refine ⟨fun _ _ => False, fun _ _ z => z.elim, fun x H2 y => ?_⟩
        obtain ⟨F2, g2, rx⟩ := src.yld i F' H' x H2 d hd a' R'.ex y
        obtain ⟨is, ρ3, tg, sb⟩ := h
        exact tg.2 F0 H0 F2 H2 σ' x (R'.grow g2) rx _ fun σ3 R3 _ _ => sb _ F0 H0 F2 H2 σ3 R3 fun od σ4 F4 H4 e4 g4 r4 => pF od σ4 F4 H4 (g2.f.trans e4) g4 r4
theorem sv_for {wi : TI} {g : TG} {tb : TS} (hw : WiD K wi ρ ds) (hr : Run (Turn1 K W g tb) ds ρ o) : SvD K W (tFor wi g tb) ρ o := fun E F0 H0 F H σ R p => for_at R (hw F0 H0 F H σ R) hr p
/-! ### comprehensions -/
def wipeS (ρ : List Sl) : List Nat → List Sl
  | [] => ρ
  | v :: vs => (wipeS ρ vs).set v .no
theorem RelS.wipe {F0 H0 F H : Hp} {σ : St} (R : RelS K F0 H0 F H σ ρ) : ∀ vs : List Nat, RelS K F0 H0 F H (wipe σ vs) (wipeS ρ vs)
  | [] => R
  | v :: vs => (R.wipe vs).forget v none
theorem wipe_get (σ : St) (j : Nat) : ∀ vs : List Nat, (wipe σ vs)[j]? = if j ∈ vs then (σ[j]?).map (fun _ => none) else σ[j]?
  | [] => by simp [L2.wipe]
  | v :: vs => by
    unfold L2.wipe
    by_cases e : v = j
    · subst e
      by_cases h : v < (L2.wipe σ vs).length
      · have h' := h
        rw [wipe_length] at h'
        rw [List.getElem?_set_self h, if_pos List.mem_cons_self, List.getElem?_eq_getElem h']; rfl
      · have h' := h
        rw [wipe_length] at h'
        rw [List.getElem?_eq_none (by rw [List.length_set]; omega), if_pos List.mem_cons_self, List.getElem?_eq_none (by omega)]; rfl
    · rw [List.getElem?_set_ne e, wipe_get σ j vs]
      by_cases m : j ∈ vs
      · rw [if_pos m, if_pos (List.mem_cons_of_mem _ m)]
      · rw [if_neg m, if_neg (by rintro (_ | ⟨_, z⟩); exact e rfl; exact m (by assumption))]
theorem wipe_same {σ σ' : St} {vs is : List Nat} (hl : σ'.length = σ.length) (h : ∀ j, j ∉ is → σ'[j]? = σ[j]?) (hs : ∀ j ∈ is, j ∈ vs) : L2.wipe σ' vs = L2.wipe σ vs := by
  apply List.ext_getElem?
  intro j
  rw [wipe_get, wipe_get]
  by_cases m : j ∈ vs
  · rw [if_pos m, if_pos m]
    by_cases hj : j < σ.length
    · rw [List.getElem?_eq_getElem hj, List.getElem?_eq_getElem (by omega)]; rfl
    · rw [List.getElem?_eq_none (by omega), List.getElem?_eq_none (by omega)]
  · rw [if_neg m, if_neg m]
    exact h j fun z => m (hs j z)
theorem wipe_wipe {σ : St} {vs : List Nat} : L2.wipe (L2.wipe σ vs) vs = L2.wipe σ vs := by
  apply List.ext_getElem?
  intro j
  rw [wipe_get, wipe_get]
  by_cases m : j ∈ vs
  · rw [if_pos m, if_pos m]
    cases σ[j]? <;> rfl
  · rw [if_neg m, if_neg m]
/-- an object that is nobody's (a comprehension's list) changes -/
theorem Gr.side {F H F' H' : Hp} (g : Gr F H F' H') {p : Addr} {o : HO} (h : H p = none) (hf : F' p = none) : Gr F H F' (upd H' p o) :=
  ⟨g.f, g.h.mut h, g.s.mut hf, g.n⟩
theorem RelS.side {F0 H0 F H : Hp} {σ : St} (R : RelS K F0 H0 F H σ ρ) {p : Addr} {o : HO} (h0 : H0 p = none) (hf : F p = none) (hp : ∀ (j : Nat) (y : Sl), ρ[j]? = some y → y.own = true → σ[j]? ≠ some (some (.ref p))) : RelS K F0 H0 F (upd H p o) σ ρ := by
  refine ⟨R.gr.side h0 hf, R.len, fun j z u h1 h2 => ?_, R.ne⟩
  have q := R.sl j z u h1 h2
  by_cases oz : z.own = true
  · obtain ⟨b, rfl, hb⟩ := (SlR.own oz).mp q
    refine (SlR.own oz).mpr ⟨b, rfl, hb.other fun z' => ?_⟩
    subst z'
    exact hp j z h1 oz h2
  · cases z with
    | no => trivial
    | d z => exact q
    | ol _ => exact absurd rfl oz
    | ok _ => exact absurd rfl oz
    | ot _ => exact absurd rfl oz
    | oo _ => exact absurd rfl oz
/-- one turn of a comprehension: its target, its test, its element (or none) -/
def Cmp1 (K : PySem.W.Frag) (g : TG) (tt : TT) (te : TE) (vs : List Nat) (ρ : List Sl) (d : D) (r : Option D) : Prop :=
  ∃ is ρ1 b, TgD K g is d ρ ρ1 ∧ (∀ j ∈ is, j ∈ vs) ∧ TvD K tt ρ1 b ∧ (b = true → ∃ y, r = some y ∧ EvD K te ρ1 y) ∧ (b = false → r = none)
theorem filterMap_take {α β : Type} {f : α → Option β} {l : List α} {i : Nat} {a : α} (h : l[i]? = some a) : (l.take (i + 1)).filterMap f = (l.take i).filterMap f ++ (f a).toList := by
  rw [List.take_add_one, List.filterMap_append, h]
  cases e : f a <;> simp [e]
theorem lc_at {wi : TI} {g : TG} {tt : TT} {te : TE} {vs : List Nat} {f : D → Option D} {F0 H0 F H : Hp} {σ : St} (R : RelS K F0 H0 F H σ ρ) (hw : ∀ R' : It → Hp → Prop, (∀ J A F' H', Gr F H F' H' → Src K J ds A → A F' → R' J H') → wi σ H R')
    (hs : ∀ d ∈ ds, Cmp1 K g tt te vs (wipeS ρ vs) d (f d)) (hl : ds.length ≤ 16777215) {Q : VK} (q : ∀ p ws F' H', Gr F H F' H' → H p = none → F' p = none → H' p = some (.lst ws) → Reps K F' ws (ds.filterMap f) → Q (.ref p) H') : tLc wi g tt te vs σ H Q :=
  hw _ fun J A F1 H1 g1 src a1 => fun Dl hD => by
    have hD0 : H Dl = none := g1.h.back hD
    have hDF1 : F1 Dl = none := g1.s.back hD
    have hD00 : H0 Dl = none := R.gr.h.back hD0
    have Rw : RelS K F0 H0 F1 H1 (L2.wipe σ vs) (wipeS ρ vs) := (R.grow g1).wipe vs
    have fr := Rw.fresh hD
    refine ⟨fun i m H' => ∃ F' acc, m = ds.length - i ∧ i ≤ ds.length ∧ Gr F H F' H' ∧ RelS K F0 H0 F' H' (L2.wipe σ vs) (wipeS ρ vs) ∧ Ex F1 F' ∧ F' Dl = none ∧ H' Dl = some (.lst acc) ∧ Reps K F' acc ((ds.take i).filterMap f),
      ⟨ds.length, F1, [], rfl, Nat.zero_le _, g1.side hD0 hDF1, Rw.side hD00 hDF1 fr, Ex.refl F1, hDF1, upd_same, .nil⟩, ?_⟩
    rintro i m H' ⟨F', acc, rfl, hi, g', R', ex, hDF, hDH, ra⟩
    have a' := src.keep _ _ a1 ex
    by_cases hlt : i < ds.length
    · refine .inr ⟨src.go i F' H' hlt a' R'.ex, fun H2 => ∃ F2 acc, Gr F H F2 H2 ∧ RelS K F0 H0 F2 H2 (L2.wipe σ vs) (wipeS ρ vs) ∧ Ex F1 F2 ∧ F2 Dl = none ∧ H2 Dl = some (.lst acc) ∧ Reps K F2 acc ((ds.take (i + 1)).filterMap f),
        fun H2 ⟨F2, acc, x1, x2, x3, x4, x5, x6⟩ => ⟨ds.length - (i + 1), by omega, F2, acc, rfl, hlt, x1, x2, x3, x4, x5, x6⟩, fun x H2 y => ?_⟩
      obtain ⟨d, hd⟩ : ∃ d, ds[i]? = some d := ⟨ds[i], List.getElem?_eq_getElem hlt⟩
      obtain ⟨F2, g2, rx⟩ := src.yld i F' H' x H2 d hd a' R'.ex y
      obtain ⟨is, ρ1, b, tg, sub, tv, ht, hf⟩ := hs d (List.mem_of_getElem? hd)
      refine tg.2 F0 H0 F2 H2 _ x (R'.grow g2) rx _ fun σ3 R3 l3 k3 => ⟨?_, ?_⟩
      · rw [wipe_same l3 k3 sub, wipe_wipe]
      · refine tv F0 H0 F2 H2 σ3 R3 _ fun F3 H3 g3 => ?_
        have gA := (g'.trans g2).trans g3
        have RA := (R'.grow g2).grow g3
        have nD : F3 Dl = none := g3.n _ _ (g2.h _ _ hDH) rfl (g2.n _ _ hDH rfl hDF)
        cases b with
        | false =>
          show ∃ F2 acc, _
          refine ⟨F3, acc, gA, RA, (ex.trans g2.f).trans g3.f, nD, g3.h _ _ (g2.h _ _ hDH), ?_⟩
          rw [filterMap_take hd, hf rfl]
          simpa using (ra.mono g2.f).mono g3.f
        | true =>
          obtain ⟨yv, ey, hy⟩ := ht rfl
          show te σ3 H3 _
          refine hy F0 H0 F3 H3 σ3 (R3.grow g3) _ fun v F4 H4 g4 r4 => ?_
          have nD4 : F4 Dl = none := g4.n _ _ (g3.h _ _ (g2.h _ _ hDH)) rfl nD
          have hD4 : H4 Dl = some (.lst acc) := g4.h _ _ (g3.h _ _ (g2.h _ _ hDH))
          have rA := ((ra.mono g2.f).mono g3.f).mono g4.f
          refine ⟨acc, hD4, ?_, F4, acc ++ [v], (gA.trans g4).side hD0 nD4, (RA.grow g4).side hD00 nD4 fr, ((ex.trans g2.f).trans g3.f).trans g4.f, nD4, upd_same, ?_⟩
          · rw [rA.length, sizeLine_eq]
            have l1 := List.length_filterMap_le f (ds.take i)
            have l2 := List.length_take_le i ds
            omega
          · rw [filterMap_take hd, ey]
            exact rA.append (.cons r4 .nil)
    · have e : i = ds.length := by omega
      subst e
      refine .inl ⟨src.stop _ _ a' R'.ex, q Dl acc F' H' g' hD0 hDF hDH ?_⟩
      rw [List.take_length] at ra
      exact ra
theorem ev_lc {wi : TI} {g : TG} {tt : TT} {te : TE} {vs : List Nat} {f : D → Option D} (hw : WiD K wi ρ ds) (hs : ∀ d ∈ ds, Cmp1 K g tt te vs (wipeS ρ vs) d (f d)) (hl : ds.length ≤ 16777215) :
    EvL K (tLc wi g tt te vs) ρ (ds.filterMap f) := fun F0 H0 F H σ R Q q => lc_at R (hw F0 H0 F H σ R) hs hl q
end
end DL
set_option Elab.async false
set_option linter.all false
set_option maxRecDepth 100000
set_option maxHeartbeats 1000000
/-! Defs over plain data: their promises, their calls. -/
namespace DL
open PySem PySem.Spec PyProof.Rows L2
/-- what a def comes to -/
inductive Res where
  | ok (d : D) | er (C : Addr) (fs : List (Str × D))
def Res.out : Res → Out
  | .ok d => .rt d
  | .er C fs => .er C fs []
/-- the promise: on the data ds it comes to r, where f ds r -/
def SpF (K : PySem.W.Frag) (n : Nat) (f : List D → Res → Prop) : Sp := fun vs H Q E => ∃ F ds r, Ex F H ∧ Reps K F vs ds ∧ vs.length = n ∧ f ds r ∧
  match r with
  | .ok d => ∀ v F' H', Gr F H F' H' → Rep K F' v d → Q v H'
  | .er C fs => ∀ od F' H', Gr F H F' H' → XR K F' H' od fs → E (.ref C) od H'
section
variable {K : PySem.W.Frag} {W : WX} {ρ ρ' : List Sl} {te ta tb : TE} {d x y z : D} {xs ys ds zs : List D} {t : TA} {i n : Nat} {f : List D → Res → Prop}
theorem ev_call {Es : L2.St → XK} (h : AvD K t ρ ds) (hf : f ds (.ok d)) (hn : ds.length = n := by rfl) : EvD K (tCallS (SpF K n f) Es t) ρ d := fun F0 H0 F H σ R Q q =>
  h F0 H0 F H σ R _ fun vs F1 H1 g1 r1 => ⟨F1, ds, .ok d, g1.s, r1, by rw [r1.length]; exact hn, hf, fun v F2 H2 g2 r2 => q v F2 H2 (g1.trans g2) r2⟩
/-- the slots at a def's entry -/
def entry (N : List Str) (ds : List D) : List Sl := ds.map Sl.d ++ List.replicate (N.length - ds.length) .no
theorem entry_rel {N : List Str} {F H : Hp} {vs : List V} (e : Ex F H) (r : Reps K F vs ds) : RelS K F H F H (L2.start N vs) (entry N ds) := by
  have hl := r.length
  have own : ∀ (j : Nat) (y : Sl), (entry N ds)[j]? = some y → y.own = false := fun j y h => by
    unfold entry at h
    by_cases hj : j < (ds.map Sl.d).length
    · rw [List.getElem?_append_left hj, List.getElem?_map] at h
      cases e : ds[j]? with
      | none => rw [e] at h; cases h
      | some d => rw [e] at h; cases h; rfl
    · rw [List.getElem?_append_right (by omega), List.getElem?_replicate] at h
      split at h
      · cases h; rfl
      · cases h
  refine ⟨.refl e, by unfold entry L2.start; simp [hl], fun j y o h1 h2 => ?_, fun j k y z p h1 _ o1 _ _ _ => ?_⟩
  · unfold entry at h1
    unfold L2.start at h2
    by_cases hj : j < ds.length
    · rw [List.getElem?_append_left (by simpa using hj), List.getElem?_map] at h1
      rw [List.getElem?_append_left (by simpa [hl] using hj), List.getElem?_map] at h2
      cases e1 : ds[j]? with
      | none => rw [e1] at h1; cases h1
      | some d =>
        rw [e1] at h1; cases h1
        obtain ⟨v, e2, rv⟩ := r.getD e1
        rw [e2] at h2; cases h2
        exact ⟨v, rfl, rv⟩
    · rw [List.getElem?_append_right (by simpa using hj), List.getElem?_replicate] at h1
      split at h1
      · cases h1; trivial
      · cases h1
  · rw [own j y h1] at o1; cases o1
/-- how a def's body ends: by its result, or behind its last row (None) -/
def FnEnd (K : PySem.W.Frag) (W : WX) (t : TS) (ρ : List Sl) (r : Res) : Prop := (match r with
  | .ok d => SvD K W t ρ (.rt d)
  | .er C fs => ∃ ρ', SvD K W t ρ (.er C fs ρ')) ∨ (r = .ok .non ∧ ∃ ρ', SvD K W t ρ (.nx ρ'))
end
section
variable {P : Program} {w : World} {K : PySem.W.Frag} {mg : Str → Option Value} {base : Heap}
abbrev cxD (P : Program) (w : World) (K : PySem.W.Frag) (mg : Str → Option Value) (base : Heap) (N : List Str) (qual : Str) (st : Stmt) (f : Addr) (cdv : Value) (A : Around) (outer : List Env) (s : Shared) (H : Hp) (E : XK) : Cx :=
  cxOf (L2N.CX P w) P w K mg base N qual (defScope st) f cdv A outer s H E
abbrev wD (E : XK) : WX := fun cls d _ H => E cls d H
/-- nothing is let out -/
theorem takesN {X : Cx} : L2N.Takes X (fun _ _ _ _ => False) := fun _ _ x => by
  obtain ⟨_, _, _, _, _, _, _, _, _, _, _, _, _, _, _, _, no⟩ := x
  exact no.elim
/-- THE RULE for a def -/
theorem fnD {x qual : Str} {st : Stmt} {f : Addr} {fd : FuncData} {N ps : List Str} {k : Nat} (F : Fun K x qual st f fd) (S : FnScope N ps (defScope st)) (fr : List D → Res → Prop)
    (hbody : ∀ (cdv : Value) (A : Around) (outer : List Env) (s : Shared) (H : Hp) (E : XK), Room k (A.deeper (envOfC qual (defScope st) s.heap.objs.size f cdv)) →
      ∃ t, PSs (cxD P w K mg base N qual st f cdv A outer s H E) (defBody st) t ∧ ∀ ds r, fr ds r → ds.length = ps.length → FnEnd K (wD E) t (entry N ds) r) : FnOk P w K mg base (L2N.CX P w) (k + 1) f fd ps (SpF K ps.length fr) := by
  obtain ⟨oc, od, kV, doc, pm, an, cdv, ct, osl, rfl, lk, hcd⟩ := F.ex
  refine fn_of lk hcd S (fun vs H Q E h => ?_) fun A outer s H vs Q E hr h => ?_
  · obtain ⟨_, _, _, _, _, h, _⟩ := h
    exact h
  · obtain ⟨t, ht, hs⟩ := hbody cdv A outer s H E hr
    obtain ⟨F1, ds, r, ex, rs, hl, hf, q⟩ := h
    refine ⟨t, ht, ?_⟩
    have R := entry_rel (N := N) ex rs
    rcases hs ds r hf (by rw [← rs.length]; exact hl) with h | ⟨rfl, ρ', h⟩
    · cases r with
      | ok d => exact h _ F1 H F1 H _ R fun v F' H' _ g rv => q v F' H' g rv
      | er C fs =>
        obtain ⟨ρ', h⟩ := h
        exact h _ F1 H F1 H _ R fun od σ F' H' _ g rv => q od F' H' g.gr rv
    · exact h _ F1 H F1 H _ R fun σ F' H' _ R' => q .non F' H' R'.gr .non
end
end DL
set_option Elab.async false
set_option linter.all false
set_option maxRecDepth 100000
set_option maxHeartbeats 1000000
/-! Rules of syntax that leave the kind of the operands open, and their readings over plain data. -/
namespace DL
open PySem PySem.Spec PyProof.Rows L2
section
variable {X : Cx} {K : PySem.W.Frag}
abbrev rS2 : R2 := fun x y H Q => ∃ i j, x = .str i ∧ y = .str j ∧ i.length + j.length ≤ sizeLine ∧ Q (.str (i ++ j)) H
def rAddA (K : PySem.W.Frag) : R2 := fun x y H Q => rI0 (fun i j => .int (i + j)) x y H Q ∨ (fun x y H Q => rS2 x y H Q ∨ (fun x y H Q => rCat x y H Q ∨ rCatA K x y H Q) x y H Q) x y H Q
theorem opA_add : OpR X (binaryOp .Add) (rAddA X.K) := OpR.or op_add (OpR.or op_add_str (OpR.or op_cat op_catA))
def rMulA : R2 := fun x y H Q => rI CMulX (fun i j => .int (i * j)) x y H Q ∨ rRep x y H Q
theorem opA_mul : OpR X (binaryOp .Mult) rMulA := OpR.or op_mulX op_rep
/-- // by any divisor below 2 ^ 9000 -/
def CDivX (_ j : Int) : Prop := j ≠ 0 ∧ j.natAbs.log2 < 9000
theorem op_fdivX : OpR X (binaryOp .FloorDiv) (rI CDivX fun i j => .int (i.fdiv j)) := opI fun _ _ _ _ _ _ _ hc q => floordiv_int hc.1 q (.inl (PyProof.noPylong_of_log2 hc.2))
def rDivA : R2 := fun x y H Q => rI CDiv (fun i j => .int (i / j)) x y H Q ∨ (fun x y H Q => rI CDivW (fun i j => .int (i / j)) x y H Q ∨ rI CDivX (fun i j => .int (i.fdiv j)) x y H Q) x y H Q
theorem opA_div : OpR X (binaryOp .FloorDiv) rDivA := OpR.or op_fdiv (OpR.or op_fdivW op_fdivX)
abbrev rLtS : R2 := fun x y H Q => ∃ i j, x = .str i ∧ y = .str j ∧ Q (.bl (decide (i.cps.toList < j.cps.toList))) H
/-- a call of a def of the module -/
def Cal (P : Program) (w : World) (K : PySem.W.Frag) (mg : Str → Option Value) (base : Heap) (k : Nat) (x : Str) (ps : List Str) (fr : List D → Res → Prop) : Prop :=
  ∃ f fd, mg x = some (.ref f) ∧ PySem.W.keepIn K (.ref f) = true ∧ Binds K fd ps [] ∧ FnOk P w K mg base (L2N.CX P w) k f fd ps (SpF K ps.length fr)
theorem pe_callD {x : Str} {p pos : Pos} {e : Expr} {es : List Expr} {t : TA} {W : WX} {k : Nat} {ps : List Str} {fr : List D → Res → Prop} (C : Cal X.prog X.w X.K X.mg X.base k x ps fr) (hr : Room k X.A) (hg : Gl X x) (tk : L2N.Takes X W) (ha : PA X (e :: es) t)
    (hdb : (x == ("__debug__" : Str)) = false := by decide) (he : starEach (e :: es) X.env = (false, eval e X.env) :: starEach es X.env := by rfl) (hpl : (backTo pos (starEach es X.env)).any (·.1) = false := by rfl) :
    PE X (.Call (.Name x p) (e :: es) [] pos) (tCallS (SpF X.K ps.length fr) (WE W) t) := by
  obtain ⟨f, fd, h1, h2, h3, h4⟩ := C
  exact pe_callS h4 hr hg h1 h2 h3 (fun σ => L2N.passAt tk σ) ha hdb he hpl
/-- where a def of the text stands -/
def FunAt (K : PySem.W.Frag) (mg : Str → Option Value) (x : Str) (st : Stmt) (ps : List Str) : Prop := ∃ f fd, mg x = some (.ref f) ∧ Fun K x x st f fd ∧ Binds K fd ps []
theorem cal_of {P : Program} {w : World} {mg : Str → Option Value} {base : Heap} {k : Nat} {x : Str} {st : Stmt} {N ps : List Str} (A : FunAt K mg x st ps) (S : FnScope N ps (defScope st)) (fr : List D → Res → Prop)
    (hbody : ∀ (f : Addr) (cdv : Value) (A : Around) (outer : List Env) (s : Shared) (H : Hp) (E : XK), Room k (A.deeper (envOfC x (defScope st) s.heap.objs.size f cdv)) →
      ∃ t, PSs (cxD P w K mg base N x st f cdv A outer s H E) (defBody st) t ∧ ∀ ds r, fr ds r → ds.length = ps.length → FnEnd K (wD E) t (entry N ds) r) : Cal P w K mg base (k + 1) x ps fr := by
  obtain ⟨f, fd, h1, h2, h3⟩ := A
  exact ⟨f, fd, h1, h2.kp, h3, fnD h2 S fr (hbody f)⟩
/-- iteration over a list, a tuple, a dict's keys -/
def iSeq (K : PySem.W.Frag) (te : TE) : TI := fun σ H R => iList K te σ H R ∨ iTup K te σ H R ∨ iKeys te σ H R
theorem pi_seq {tg l : Expr} {tl : TE} (hl : PE X l tl) : PI X tg l (iSeq X.K tl) := by
  refine ⟨fun pins s σ H R I h => ?_⟩
  rcases h with h | h | h
  · exact (pi_list hl).run pins s σ H R I h
  · exact (pi_tup hl).run pins s σ H R I h
  · exact (pi_keys hl).run pins s σ H R I h
theorem pt_truth2 {a : Expr} {ta : TE} (ha : PE X a ta) (he : ∀ whole, isTrue a X.env whole = (do let v ← whole; standAt a.pos; holding [v] (truthy v)) := by intro _; rfl) : PT X a (tTru X.K ta) := pt_truth ha he
/-- whatever sequence is called tuple, list -/
abbrev rTupC (K : PySem.W.Frag) : List V → Hp → VK → Prop := fun xs H Q => ∃ p ys, xs = [.ref p] ∧ ((SqL K H p ys ∧ ∀ l, H l = none → Q (.ref l) (upd H l (.tup ys))) ∨ (SqT K H p ys ∧ Q (.ref p) H))
abbrev rLstC (K : PySem.W.Frag) : List V → Hp → VK → Prop := fun xs H Q => ∃ p ys, xs = [.ref p] ∧ (SqL K H p ys ∨ SqT K H p ys) ∧ ∀ l, H l = none → Q (.ref l) (upd H l (.lst ys))
theorem CallR.or {f : Value} {r r' : List V → Hp → VK → Prop} (h : CallR X f r) (h' : CallR X f r') : CallR X f (fun xs H Q => r xs H Q ∨ r' xs H Q) := by
  intro pins s σ H xs us Q I rv q
  rcases q with q | q
  · exact h pins s σ H xs us Q I rv q
  · exact h' pins s σ H xs us Q I rv q
def rIntC : List V → Hp → VK → Prop := fun xs H Q => (∃ i, xs = [.int i] ∧ Q (.int i) H) ∨ ∃ k, xs = [.bl k] ∧ Q (.int (if k then 1 else 0)) H
theorem cr_int : CallR X (.type "int") rIntC := call_int1
def rAbsC : List V → Hp → VK → Prop := fun xs H Q => ∃ i, xs = [.int i] ∧ Q (.int (if i < 0 then -i else i)) H
theorem cr_abs : CallR X (.builtin "abs") rAbsC := call_abs
end
section
variable {K : PySem.W.Frag} {W : WX} {ρ ρ' : List Sl} {te ta tb tl : TE} {d x y z : D} {xs ys ds zs : List D} {t : TA} {i j : Int} {n : Nat}
theorem ev_addI (ha : EvD K ta ρ (.int i)) (hb : EvD K tb ρ (.int j)) : EvD K (tOp (rAddA K) ta tb) ρ (.int (i + j)) := ev_op ha hb (rvD_l rv_I0)
theorem ev_addS {s t : Str} (ha : EvD K ta ρ (.str s)) (hb : EvD K tb ρ (.str t)) (hl : s.length + t.length ≤ 100000) : EvD K (tOp (rAddA K) ta tb) ρ (.str (s ++ t)) := ev_op ha hb (rvD_r (rvD_l (rv_addS hl)))
theorem evl_addL (ha : EvD K ta ρ (.lst xs)) (hb : EvD K tb ρ (.lst ys)) (hl : xs.length + ys.length ≤ 16777216) : EvL K (tOp (rAddA K) ta tb) ρ (xs ++ ys) := evl_op ha hb (rvL_r (rvL_r (rvL_l (rv_cat hl))))
theorem ev_subI (ha : EvD K ta ρ (.int i)) (hb : EvD K tb ρ (.int j)) : EvD K (tOp (rI0 fun i j => .int (i - j)) ta tb) ρ (.int (i - j)) := ev_op ha hb rv_I0
theorem ev_mulI (ha : EvD K ta ρ (.int i)) (hb : EvD K tb ρ (.int j)) (hc : CMulX i j) : EvD K (tOp rMulA ta tb) ρ (.int (i * j)) := ev_op ha hb (rvD_l (rv_I hc))
theorem evl_rep (ha : EvD K ta ρ (.lst xs)) (hb : EvD K tb ρ (.int i)) (h1 : -(2 ^ 63) ≤ i) (h2 : i < 2 ^ 63) (hl : xs.length * i.toNat ≤ 16777216) : EvL K (tOp rMulA ta tb) ρ (List.replicate i.toNat xs).flatten := evl_op ha hb (rvL_r (rv_rep h1 h2 hl))
theorem ev_divI (ha : EvD K ta ρ (.int i)) (hb : EvD K tb ρ (.int j)) (hc : CDiv i j) : EvD K (tOp rDivA ta tb) ρ (.int (i / j)) := ev_op ha hb (rvD_l (rv_I hc))
theorem ev_divW (ha : EvD K ta ρ (.int i)) (hb : EvD K tb ρ (.int j)) (hc : CDivW i j) : EvD K (tOp rDivA ta tb) ρ (.int (i / j)) := ev_op ha hb (rvD_r (rvD_l (rv_I hc)))
theorem ev_divX (ha : EvD K ta ρ (.int i)) (hb : EvD K tb ρ (.int j)) (hc : CDivX i j) : EvD K (tOp rDivA ta tb) ρ (.int (i.fdiv j)) := ev_op ha hb (rvD_r (rvD_r (rv_I hc)))
theorem divX_of {i j : Int} (h : j ≠ 0) (b : Nat) (hb : j.natAbs < 2 ^ b) (h0 : 0 < b) (h9 : b ≤ 9000) : CDivX i j := ⟨h, Nat.lt_of_lt_of_le (PySem.Flt.log2_lt_of h0 hb) h9⟩
theorem ev_modI (ha : EvD K ta ρ (.int i)) (hb : EvD K tb ρ (.int j)) (hc : 0 < j) : EvD K (tOp (rI (fun _ j => 0 < j) fun i j => .int (i % j)) ta tb) ρ (.int (i % j)) := ev_op ha hb (rv_I hc)
theorem ev_powI (ha : EvD K ta ρ (.int i)) (hb : EvD K tb ρ (.int j)) (hc : CPow i j) : EvD K (tOp (rI CPow fun i j => .int (i ^ j.toNat)) ta tb) ρ (.int (i ^ j.toNat)) := ev_op ha hb (rv_I hc)
theorem tv_cmpI {g : Int → Int → Bool} (ha : EvD K ta ρ (.int i)) (hb : EvD K tb ρ (.int j)) : TvD K (tTest (tOp (rI0 fun i j => .bl (g i j)) ta tb)) ρ (g i j) := tv_test (ev_op ha hb rv_B0)
theorem tv_cmpIl {g : Int → Int → Bool} {r' : R2} (ha : EvD K ta ρ (.int i)) (hb : EvD K tb ρ (.int j)) : TvD K (tTest (tOp (fun x y H Q => rI0 (fun i j => .bl (g i j)) x y H Q ∨ r' x y H Q) ta tb)) ρ (g i j) := tv_test (ev_op ha hb (rvD_l rv_B0))
theorem tv_eqD (ha : EvD K ta ρ x) (hb : EvD K tb ρ y) (hx : x.ok = true) (hy : y.ok = true) : TvD K (tTest (tOp (rEqD K) ta tb)) ρ (PyData.eqv x.py y.py) := tv_test (ev_op ha hb (rv_eqD hx hy))
theorem tv_neD (ha : EvD K ta ρ x) (hb : EvD K tb ρ y) (hx : x.ok = true) (hy : y.ok = true) : TvD K (tTest (tOp (rNeD K) ta tb)) ρ (!PyData.eqv x.py y.py) := tv_test (ev_op ha hb (rv_neD hx hy))
theorem tv_eqI (ha : EvD K ta ρ (.int i)) (hb : EvD K tb ρ (.int j)) : TvD K (tTest (tOp (rEqD K) ta tb)) ρ (i == j) := tv_eq (tv_eqD ha hb rfl rfl) rfl
theorem tv_neI (ha : EvD K ta ρ (.int i)) (hb : EvD K tb ρ (.int j)) : TvD K (tTest (tOp (rNeD K) ta tb)) ρ (!(i == j)) := tv_eq (tv_neD ha hb rfl rfl) rfl
theorem ev_intC (ha : EvD K ta ρ (.int i)) : EvD K (tCB rIntC (tCons ta tNil)) ρ (.int i) := ev_cb (av_cons ha av_nil) fun F H e vs r Q q => by
  cases r with
  | cons a r =>
    cases a; cases r
    exact .inl ⟨i, rfl, q _ F H (.refl e) (.int i)⟩
theorem ev_absC (ha : EvD K ta ρ (.int i)) : EvD K (tCB rAbsC (tCons ta tNil)) ρ (.int (if i < 0 then -i else i)) := ev_cb (av_cons ha av_nil) fun F H e vs r Q q => by
  cases r with
  | cons a r =>
    cases a; cases r
    exact ⟨i, rfl, q _ F H (.refl e) (.int _)⟩
theorem ev_tupL (h : EvSL K te ρ ds) : EvD K (tCB (rTupC K) (tCons te tNil)) ρ (.tup ds) := ev_cbSL h fun F H e p vs s r Q q =>
  ⟨p, vs, rfl, .inl ⟨s, fun l hl => q _ (upd F l (.tup vs)) _ (.new e hl) (.tup upd_same (r.mono (Ex.new (e.back hl))))⟩⟩
theorem ev_tupT (h : EvD K te ρ (.tup ds)) : EvD K (tCB (rTupC K) (tCons te tNil)) ρ (.tup ds) := ev_cb (av_cons h av_nil) fun F H e vs r Q q => by
  cases r with
  | cons a r =>
    cases r
    cases a with
    | tup h1 rs => exact ⟨_, _, rfl, .inr ⟨SqT.of (e _ _ h1), q _ F H (.refl e) (.tup h1 rs)⟩⟩
theorem evl_lstL (h : EvSL K te ρ ds) : EvL K (tCB (rLstC K) (tCons te tNil)) ρ ds := evl_cbSL h fun F H e p vs s r Q q =>
  ⟨p, vs, rfl, .inl s, fun l hl => q l vs F _ (.own e hl) hl (e.back hl) upd_same r⟩
theorem evl_lstT (h : EvST K te ρ ds) : EvL K (tCB (rLstC K) (tCons te tNil)) ρ ds := fun F0 H0 F H σ R Q q =>
  h F0 H0 F H σ R _ fun p vs F1 H1 g1 s1 r1 => ⟨p, vs, rfl, .inr s1, fun l hl => q l vs F1 _ (g1.trans (.own g1.s hl)) (g1.h.back hl) (g1.s.back hl) upd_same r1⟩
theorem wi_seqL (h : WiD K (iList K te) ρ ds) : WiD K (iSeq K te) ρ ds := fun F0 H0 F H σ R Q q => .inl (h F0 H0 F H σ R Q q)
theorem wi_seqT (h : WiD K (iTup K te) ρ ds) : WiD K (iSeq K te) ρ ds := fun F0 H0 F H σ R Q q => .inr (.inl (h F0 H0 F H σ R Q q))
theorem ev_ty {n : String} : EvD K (tC (.ty n)) ρ (.ty n) := fun F0 H0 F H σ R Q q => q _ F H (.refl R.ex) (.ty n)
/-- a datum's built-in class -/
def D.tyN : D → String
  | .non => "NoneType" | .bl _ => "bool" | .int _ => "int" | .str _ => "str" | .lst _ => "list" | .tup _ => "tuple" | .tupZ _ => "tuple" | .scr _ => "list" | .dk _ _ => "dict" | .dt _ _ => "dict"
  | _ => ""
end
end DL
set_option Elab.async false
set_option linter.all false
set_option maxRecDepth 100000
set_option maxHeartbeats 1000000
/-! sorted of data; slices; locks; comprehensions with two fors. -/
namespace DL
open PySem PySem.Spec PyProof.Rows L2
/-- what may be sorted here -/
structure SortOk (ds : List PyData) : Prop where
  al : PySem.W.AllAlike ds
  so : PySem.W.Sortable ds
  dp : ∀ d ∈ ds, d.depth ≤ 8
  sz : ds.length ≤ 16777216
abbrev srtP (bs : List (V × PyData)) : List (V × PyData) := bs.mergeSort (PySem.W.dataLe false (·.2))
def rSortA (K : PySem.W.Frag) : List V → Hp → VK → Prop := fun xs H Q => ∃ (a : Addr) (bs : List (V × PyData)), xs = [.ref a] ∧ SqL K H a (bs.map (·.1)) ∧ (∀ b ∈ bs, Dp K H b.1 b.2) ∧ SortOk (bs.map (·.2)) ∧
  ∀ p, H p = none → Q (.ref p) (upd H p (.lst ((srtP bs).map (·.1))))
/-- a dict's keys, sorted -/
def keyPy : Key → PyData
  | .inl i => .int i
  | .inr s => .str s
def rSortK : List V → Hp → VK → Prop := fun xs H Q => ∃ (a : Addr) (ws : List (Key × V)), xs = [.ref a] ∧ Rd H a (.dK ws) ∧ SortOk (ws.map fun kv => keyPy kv.1) ∧
  ∀ p, H p = none → Q (.ref p) (upd H p (.lst ((srtP (ws.map fun kv => (kV kv.1, keyPy kv.1))).map (·.1))))
def rSortT : List V → Hp → VK → Prop := fun xs H Q => ∃ (a : Addr) (ws : List (List Key × V)), xs = [.ref a] ∧ Rd H a (.dT ws) ∧ SortOk (ws.map fun kv => PyData.tuple (kv.1.map keyPy)) ∧
  ∀ (p : Addr) (bs : List (V × PyData)), H p = none → bs.map (·.2) = (ws.map fun kv => PyData.tuple (kv.1.map keyPy)) → (∀ b ∈ bs, ∃ (q : Addr) (k : List Key), b.1 = V.ref q ∧ H q = some (.tup (k.map kV)) ∧ b.2 = PyData.tuple (k.map keyPy)) →
    Q (.ref p) (upd H p (.lst ((srtP bs).map (·.1))))
section
variable {X : Cx} {pins : List (Addr × Obj)} {σ : L2.St} {H : Hp} {s : Shared}
/-- the pairs of a value and its datum, each with the machine's value -/
theorem each_of (I : Inv X pins σ H s) : ∀ {bs : List (V × PyData)} {us : List Value}, Vals (bs.map (·.1)) us → (∀ b ∈ bs, Dp X.K H b.1 b.2) →
    PySem.W.EachIs (fun (u : Value) (b : V × PyData) => RelV b.1 u) us bs ∧ PySem.W.EachIs (fun (u : Value) (b : V × PyData) => ∃ as, Reads s.heap u b.2 as) us bs
  | [], us, r, _ => by
    cases r
    exact ⟨.nil, .nil⟩
  | b :: bs, us, r, h => by
    cases r with
    | cons r1 r2 =>
      obtain ⟨e1, e2⟩ := each_of I r2 fun x hx => h x (List.mem_cons_of_mem _ hx)
      exact ⟨.cons r1 e1, .cons (Dp.reads I _ _ _ (h b List.mem_cons_self) r1) e2⟩
theorem vals_each : ∀ {us : List Value} {bs : List (V × PyData)}, PySem.W.EachIs (fun (u : Value) (b : V × PyData) => RelV b.1 u) us bs → Vals (bs.map (·.1)) us
  | _, _, .nil => .nil
  | _, _, .cons h r => .cons h (vals_each r)
theorem cr_sortL (hu : X.A.units + 64 < cLine) : CallR X (.builtin "sorted") (rSortA X.K) := by
  intro pins s σ H vs us Q I r h
  obtain ⟨a, bs, rfl, hs, hd, so, q⟩ := h
  obtain ⟨its, rv, hl, hz⟩ := I.list hs
  rw [Vals.ref1 r]
  obtain ⟨e1, e2⟩ := each_of I rv hd
  refine PySem.W.sorted_data (enc := fun b : V × PyData => b.2) hl.isList e1 e2 so.al so.so ?_ (fun b hb => ?_) fun out ho eo => ?_
  · have := so.sz; rw [List.length_map] at this; exact sz_of this
  · have := so.dp b.2 (List.mem_map_of_mem hb); omega
  · obtain ⟨ep, he'⟩ := sortedAll_at s.heap its out.toArray
    have rv' := vals_each eo
    refine ⟨.ref _, upd H (s.heap.objs.size + 1) (.lst ((srtP bs).map (·.1))), I.laid (t' := s.toks) (fun _ _ => sortedAll_old) (Nat.le_succ _) ⟨?_, out, ep, rv', he'⟩, rfl, q _ (I.hok.fresh (Nat.le_succ _))⟩
    rw [List.length_map, List.length_mergeSort]
    have := so.sz; rw [List.length_map] at this; exact sz_of this
/-- keys hold no list -/
theorem reads_key {h : Heap} {v : Value} : ∀ {k : Key} {as : List Addr}, Reads h v (keyPy k) as → as = []
  | .inl i, as, r => by
    have r' : Reads h v (.int i) as := r
    cases r'; rfl
  | .inr z, as, r => by
    have r' : Reads h v (.str z) as := r
    cases r'; rfl
theorem readsAll_key {h : Heap} : ∀ {ks : List Key} {vs : List Value} {as : List Addr}, ReadsAll h vs (ks.map keyPy) as → as = []
  | [], vs, as, r => by
    have r' : ReadsAll h vs [] as := r
    cases r'; rfl
  | k :: ks, vs, as, r => by
    have r' : ReadsAll h vs (keyPy k :: ks.map keyPy) as := r
    cases r' with
    | cons r1 r2 => rw [reads_key r1, readsAll_key r2]; rfl
theorem reads_keyT {h : Heap} {v : Value} {ks : List Key} {as : List Addr} (r : Reads h v (.tuple (ks.map keyPy)) as) : as = [] := by
  cases r with
  | tuple _ _ _ r => exact readsAll_key r
/-- data without lists -/
def NoL (d : PyData) : Prop := ∀ h v as, Reads h v d as → as = []
theorem noL_key (k : Key) : NoL (keyPy k) := fun _ _ _ r => reads_key r
theorem noL_keyT (ks : List Key) : NoL (.tuple (ks.map keyPy)) := fun _ _ _ r => reads_keyT r
theorem each_noL {h : Heap} {a : Addr} {us : List Value} {bs : List (V × PyData)} (e : PySem.W.EachIs (fun (u : Value) (b : V × PyData) => ∃ as, Reads h u b.2 as) us bs) (n : ∀ b ∈ bs, NoL b.2) :
    PySem.W.EachIs (fun (u : Value) (b : V × PyData) => ∃ as, Reads h u b.2 as ∧ a ∉ as) us bs := by
  induction e with
  | nil => exact .nil
  | @cons u b us bs h1 t ih =>
    obtain ⟨as, r⟩ := h1
    exact .cons ⟨as, r, by rw [n b List.mem_cons_self _ _ _ r]; simp⟩ (ih fun x hx => n x (List.mem_cons_of_mem _ hx))
theorem each_keep {h h' : Heap} (k : ∀ b o, h.get? b = some o → h'.get? b = some o) {us : List Value} {bs : List (V × PyData)} (e : PySem.W.EachIs (fun (u : Value) (b : V × PyData) => ∃ as, Reads h u b.2 as) us bs) :
    PySem.W.EachIs (fun (u : Value) (b : V × PyData) => ∃ as, Reads h' u b.2 as) us bs := by
  induction e with
  | nil => exact .nil
  | @cons u b us bs h1 t ih =>
    obtain ⟨as, r⟩ := h1
    exact .cons ⟨as, Reads.keeps k r⟩ ih
/-- the new list of a dict's keys is sorted: what follows the collecting -/
theorem sort_tail {us : List Value} {bs : List (V × PyData)} {h' : Heap} {tk : Nat} {Q : VK} {R : Unit → Shared → Prop} (hu : X.A.units + 64 < cLine) (I1 : Inv X pins σ H { s with heap := h', toks := tk }) (rv : Vals (bs.map (·.1)) us) (hd : ∀ b ∈ bs, Dp X.K H b.1 b.2)
    (so : SortOk (bs.map (·.2))) (nl : ∀ b ∈ bs, NoL b.2) (q : ∀ p, H p = none → Q (.ref p) (upd H p (.lst ((srtP bs).map (·.1)))))
    (hR : ∀ s', EP X pins σ Q (.ref h'.objs.size) s' → R () s') (A : Around) (hA : A.units ≤ X.A.units + 40) :
    wpAny (model X.prog X.w) A (call (.builtin "list.sort") [.ref h'.objs.size]) (fun _ s' => R () s') X.xe { s with heap := h'.push (seqObj "list" us.toArray 0), toks := tk } := by
  have hb : bs.length ≤ sizeLine := by have := so.sz; rw [List.length_map] at this; exact sz_of this
  have hoL : (h'.push (seqObj "list" us.toArray 0)).get? h'.objs.size = some (seqObj "list" us.toArray 0) := Heap.get?_push_size _ rfl
  obtain ⟨e1, e2⟩ := each_of I1 rv hd
  have e3 := each_keep (h' := h'.push (seqObj "list" us.toArray 0)) (fun b o e => Heap.get?_push_of_some _ e) e2
  refine PySem.W.list_sort_data (enc := fun b : V × PyData => b.2) (s := { s with heap := h'.push (seqObj "list" us.toArray 0), toks := tk }) hoL e1 (each_noL e3 nl) so.al so.so hb (fun b hb => ?_) fun out ho eo => ?_
  · have := so.dp b.2 (List.mem_map_of_mem hb); omega
  · obtain ⟨ep, he'⟩ := sortedHeap_at (vs := us) (out := out.toArray) hoL
    have rv' := vals_each eo
    refine hR _ ⟨.ref h'.objs.size, upd H h'.objs.size (.lst ((srtP bs).map (·.1))), I1.laid (t' := tk) (fun b u e => ?_) (Nat.le_refl _) ⟨?_, out, ep, rv', he'⟩, rfl, q _ (I1.hok.fresh (Nat.le_refl _))⟩
    · have hb : b < h'.objs.size := Heap.lt_size e
      rw [sortedHeap_old (Nat.ne_of_lt hb) (by rw [size_push']; exact Nat.lt_succ_of_lt hb)]
      exact Heap.get?_push_of_some _ e
    · rw [List.length_map, List.length_mergeSort]; exact hb
theorem cr_sortT (hc : X.calm = true) (hu : X.A.units + 64 < cLine) : CallR X (.builtin "sorted") rSortT := by
  intro pins s σ H xs us Q I r h
  obtain ⟨a, ws, rfl, hd, so, q⟩ := h
  obtain ⟨u, rfl, rx⟩ := r.one
  cases rx
  obtain ⟨z, hs, ks, pr, o, es, ep, ho, hx, hdt, he, hn⟩ := (show ObjOk X.prog X.w H s.heap a (.dT ws) from hd.ok I.hok)
  have l1 : es.size = ks.length := size_of_entries he
  have l2 : ws.length = ks.length := Paired.length pr
  refine Calls.call_function_entry kind_sorted plain_sorted entry_sorted (args_sorted1 _) ?_
  unfold Builtin.«sorted»
  refine wpAny_bind (m := checkCount "sorted" 1 1 _) (wpAny_pure ?_)
  refine wpAny_bind (PySem.W.kdu_collect (A := X.A.in1) (kdl_raw hs hx hdt) (I.ok.hd hc) ho (by omega) fun h' tk acc hk hacc => ?_)
  have keysAre : ∀ {kv : List (List Key × V)} {ys : List (List Key × Addr × Value)}, Paired (fun (p : List Key × V) (q : List Key × Addr × Value) => p.1 = q.1 ∧ H q.2.1 = some (.tup (p.1.map kV)) ∧ RelV p.2 q.2.2) kv ys →
      (ys.map fun x => (V.ref x.2.1, PyData.tuple (x.1.map keyPy))).map (·.2) = kv.map (fun kv => PyData.tuple (kv.1.map keyPy)) ∧
        ∀ b ∈ ys.map fun x => (V.ref x.2.1, PyData.tuple (x.1.map keyPy)), ∃ (q : Addr) (k : List Key), b.1 = V.ref q ∧ H q = some (.tup (k.map kV)) ∧ b.2 = PyData.tuple (k.map keyPy) := by
    intro kv ys p
    induction p with
    | nil => exact ⟨rfl, fun _ z => nomatch z⟩
    | cons h t ih =>
      refine ⟨?_, fun b hb => ?_⟩
      · rw [List.map_cons, List.map_cons, List.map_cons, ih.1, h.1]
      · rw [List.map_cons] at hb
        rcases List.mem_cons.mp hb with e | e
        · rw [e]; exact ⟨_, _, rfl, h.2.1, by rw [h.1]⟩
        · exact ih.2 b e
  have ea : acc.toList = (ks.map fun x => x.2.1).map Value.ref := by
    apply List.ext_getElem?
    intro j
    rw [List.map_map, List.getElem?_map]
    cases hj : acc.toList[j]? with
    | none =>
      have h1 := List.getElem?_eq_none_iff.mp hj
      rw [Array.length_toList, hacc.1] at h1
      rw [List.getElem?_eq_none (by omega)]; rfl
    | some v =>
      obtain ⟨en, hen, hv⟩ := hacc.2 j v (by rw [← Array.getElem?_toList]; exact hj)
      have qe := entry_at he j
      rw [hen] at qe
      cases hb : ks[j]? with
      | none => rw [hb] at qe; cases qe
      | some b =>
        rw [hb] at qe
        have e2 : en = entryOfKey (tupleKind (mixKind X.prog X.w)) b := Option.some.inj qe
        rw [hv, e2]; rfl
  obtain ⟨k1, k2⟩ := keysAre pr
  have rv : Vals ((ks.map fun x => (V.ref x.2.1, PyData.tuple (x.1.map keyPy))).map (·.1)) acc.toList := by
    rw [ea, List.map_map]
    have := vals_refs (ks.map fun x => x.2.1)
    rw [List.map_map] at this
    exact this
  have I1 : Inv X pins σ H { s with heap := h', toks := tk } := I.kept hk
  have dpk : ∀ ks : List Key, DpAll X.K H (ks.map kV) (ks.map keyPy) := fun ks => by
    induction ks with
    | nil => exact .nil
    | cons k r ih =>
      cases k with
      | inl i => exact .cons (.int i) ih
      | inr z => exact .cons (.str z) ih
  refine wpAny_bind (wpAny_newList ?_ (by rw [Array.length_toList, hacc.1]; omega))
  show wpAny _ _ _ _ _ { s with heap := h'.push (seqObj "list" acc.toList.toArray 0), toks := tk }
  refine wpAny_bind (wpAny_holding (wpAny_mono (sort_tail (X := X) (pins := pins) (σ := σ) (s := s) (Q := Q) (R := fun _ s' => EP X pins σ Q (.ref h'.objs.size) s') hu I1 rv (fun b hb => ?_) (by rw [k1]; exact so) (fun b hb => ?_) (fun p hp => q p _ hp k1 k2) (fun s' h => h) _ (by show X.A.units + 1 ≤ _; omega)) (fun _ s' h => ?_) fun _ _ h => h))
  · obtain ⟨t, k, e1, e2, e3⟩ := k2 b hb
    rw [e1, e3]; exact .tup (SqT.of e2) (dpk k)
  · obtain ⟨t, k, e1, e2, e3⟩ := k2 b hb
    rw [e3]; exact noL_keyT k
  · exact wpAny_pure ⟨_, rfl, h⟩
end
end DL
set_option Elab.async false
set_option linter.all false
set_option maxRecDepth 100000
set_option maxHeartbeats 1000000
/-! Slices, locked dicts, comprehensions with two fors, over plain data. -/
namespace DL
open PySem PySem.Spec PyProof.Rows L2
section
variable {X : Cx} {K : PySem.W.Frag}
def rSlAny (K : PySem.W.Frag) : V → Option Int → Option Int → Hp → VK → Prop := fun x lo hi H Q => rSlL K x lo hi H Q ∨ (fun x lo hi H Q => rSlA K x lo hi H Q ∨ rSlS x lo hi H Q) x lo hi H Q
theorem sl_any : L2.SlR X (rSlAny X.K) := L2.SlR.or sl_list (L2.SlR.or sl_tupA sl_str)
/-- a for over a name that may be an unlocked dict -/
def tLockA (t : TS) : TS := fun D σ H => tLock t D σ H ∨ t D σ H
theorem ps_lockA {st : Stmt} {t : TS} (h : PS X st t) : PS X st (tLockA t) := by
  refine ⟨fun pins s σ H D I q => ?_⟩
  rcases q with q | q
  · exact (ps_lock h).run pins s σ H D I q
  · exact h.run pins s σ H D I q
def tLockEA (t : TE) : TE := fun σ H Q => tLockE t σ H Q ∨ t σ H Q
theorem pe_lockA {e : Expr} {t : TE} (h : PE X e t) : PE X e (tLockEA t) := by
  refine ⟨fun pins s σ H D I q => ?_⟩
  rcases q with q | q
  · exact (pe_lock h).run pins s σ H D I q
  · exact h.run pins s σ H D I q
end
section
variable {K : PySem.W.Frag} {W : WX} {ρ ρ' : List Sl} {te ta tb tl : TE} {d x y z : D} {xs ys ds zs : List D} {t : TA} {i j : Int} {n : Nat} {o : Out}
/-! ### slices -/
def PoD (K : PySem.W.Frag) (to : TO) (ρ : List Sl) (o : Option Int) : Prop := ∀ (F0 H0 F H : Hp) (σ : L2.St), RelS K F0 H0 F H σ ρ → ∀ Q : Option Int → Hp → Prop, (∀ F' H', Gr F H F' H' → Q o H') → to σ H Q
theorem po_no : PoD K tNoPart ρ none := fun F0 H0 F H σ R Q q => q F H (.refl R.ex)
theorem po_is (h : EvD K te ρ (.int i)) : PoD K (tPart te) ρ (some i) := fun F0 H0 F H σ R Q q => h F0 H0 F H σ R _ fun v F1 H1 g1 r1 => by
  cases r1
  exact ⟨i, rfl, q F1 H1 g1⟩
/-- a piece of a list -/
def cutD {α : Type} (xs : List α) (lo hi : Option Int) : List α := (xs.drop (HT.sIx xs.length 0 lo)).take (HT.sIx xs.length xs.length hi - HT.sIx xs.length 0 lo)
theorem reps_cut {F : Hp} {vs : List V} (r : Reps K F vs ds) (lo hi : Option Int) : Reps K F (cutV vs lo hi) (cutD ds lo hi) := by
  show Reps K F ((vs.drop _).take _) _
  unfold cutD
  rw [← r.length]
  exact (r.drop _).take _
theorem evl_slL {tlo thi : TO} {lo hi : Option Int} (h : EvSL K te ρ ds) (h1 : PoD K tlo ρ lo) (h2 : PoD K thi ρ hi) : EvL K (tSl (rSlAny K) te tlo thi) ρ (cutD ds lo hi) := fun F0 H0 F H σ R Q q =>
  h F0 H0 F H σ R _ fun p vs F1 H1 g1 s1 r1 => h1 F0 H0 F1 H1 σ (R.grow g1) _ fun F2 H2 g2 => h2 F0 H0 F2 H2 σ (R.grow (g1.trans g2)) _ fun F3 H3 g3 =>
    .inl ⟨p, vs, rfl, (g2.trans g3).h.sl s1, fun l hl => q l _ F3 _ ((g1.trans (g2.trans g3)).trans (.own g3.s hl)) ((g1.trans (g2.trans g3)).h.back hl) (g3.s.back hl) upd_same (reps_cut (r1.mono (g2.trans g3).f) lo hi)⟩
theorem ev_slT {tlo thi : TO} {lo hi : Option Int} (h : EvD K te ρ (.tup ds)) (h1 : PoD K tlo ρ lo) (h2 : PoD K thi ρ hi) : EvD K (tSl (rSlAny K) te tlo thi) ρ (.tup (cutD ds lo hi)) := fun F0 H0 F H σ R Q q =>
  h F0 H0 F H σ R _ fun v F1 H1 g1 r1 => h1 F0 H0 F1 H1 σ (R.grow g1) _ fun F2 H2 g2 => h2 F0 H0 F2 H2 σ (R.grow (g1.trans g2)) _ fun F3 H3 g3 => by
    cases r1 with
    | @tup a vs _ ha ra =>
      have gA := g1.trans (g2.trans g3)
      have ha3 := (g2.trans g3).f _ _ ha
      have ra3 := ra.mono (g2.trans g3).f
      refine .inr (.inl ⟨a, vs, rfl, SqT.of (g3.s _ _ ha3), fun hw => q _ F3 H3 gA ?_, fun _ l hl => q _ (upd F3 l (.tup (cutV vs lo hi))) _ (gA.trans (.new g3.s hl)) (.tup upd_same ((reps_cut ra3 lo hi).mono (Ex.new (g3.s.back hl))))⟩)
      have e : cutD ds lo hi = ds := by
        unfold cutD
        rw [← ra.length, hw.1, hw.2, List.drop_zero, Nat.sub_zero, ra.length, List.take_length]
      rw [e]
      exact .tup ha3 ra3
theorem ev_slS {tlo thi : TO} {lo hi : Option Int} {s : PySem.Str} (h : EvD K te ρ (.str s)) (h1 : PoD K tlo ρ lo) (h2 : PoD K thi ρ hi) (hl : s.length ≤ 100000) : EvD K (tSl (rSlAny K) te tlo thi) ρ (.str (cutS s lo hi)) := fun F0 H0 F H σ R Q q =>
  h F0 H0 F H σ R _ fun v F1 H1 g1 r1 => h1 F0 H0 F1 H1 σ (R.grow g1) _ fun F2 H2 g2 => h2 F0 H0 F2 H2 σ (R.grow (g1.trans g2)) _ fun F3 H3 g3 => by
    cases r1
    exact .inr (.inr ⟨s, rfl, Nat.le_trans hl (by decide), q _ F3 H3 (g1.trans (g2.trans g3)) (.str _)⟩)
/-! ### locked dicts -/
/-- the dict at a is locked, where it stands -/
def lk (a : Addr) (u l : HO) (H : Hp) : Hp := fun b => if b = a then (match H b with | some _ => some l | none => none) else H b
theorem lk_ne {a b : Addr} {u l : HO} {H : Hp} (e : b ≠ a) : lk a u l H b = H b := if_neg e
theorem lk_at {a : Addr} {u l o : HO} {H : Hp} (h : H a = some o) : lk a u l H a = some l := by
  unfold lk; rw [if_pos rfl, h]
theorem lk_no {a : Addr} {u l : HO} {H : Hp} (h : H a = none) : lk a u l H a = none := by
  unfold lk; rw [if_pos rfl, h]
theorem lk_upd {a : Addr} {u l o : HO} {H : Hp} (h : H a = some o) : lk a u l H = upd H a l := by
  funext b
  by_cases e : b = a
  · subst e; rw [lk_at h, upd_same]
  · rw [lk_ne e, upd_ne e]
theorem lk_ex {a : Addr} {u l : HO} {F H : Hp} (e : Ex F H) : Ex (lk a u l F) (lk a u l H) := fun b o h => by
  by_cases z : b = a
  · subst z
    cases h1 : F b with
    | none => rw [lk_no h1] at h; cases h
    | some o1 => rw [lk_at h1] at h; cases h; exact lk_at (e b o1 h1)
  · rw [lk_ne z] at h ⊢; exact e b o h
theorem lk_tol {a : Addr} {u l : HO} {F : Hp} (hu : ∀ o, F a = some o → str1 l = str1 o) : Tol F (lk a u l F) := fun b o h => by
  by_cases z : b = a
  · subst z; exact ⟨l, lk_at h, hu o h⟩
  · exact ⟨o, by rw [lk_ne z]; exact h, rfl⟩
theorem own_lk {a p : Addr} {u l : HO} {H0 F H : Hp} {x : Sl} (hne : p ≠ a) (hu : ∀ o, F a = some o → str1 l = str1 o) (h : OwnR K H0 F H p x) : OwnR K (lk a u l H0) (lk a u l F) (lk a u l H) p x := by
  have t := lk_tol (u := u) hu
  cases x with
  | no => exact h
  | d x => exact h
  | ol xs => obtain ⟨h1, h2, vs, h3, h4⟩ := h; exact ⟨by rw [lk_ne hne]; exact h1, by rw [lk_ne hne]; exact h2, vs, by rw [lk_ne hne]; exact h3, h4.tol t⟩
  | ok xs => obtain ⟨h1, h2, vs, h3, n, h4⟩ := h; exact ⟨by rw [lk_ne hne]; exact h1, by rw [lk_ne hne]; exact h2, vs, by rw [lk_ne hne]; exact h3, n, h4.tol t⟩
  | ot xs => obtain ⟨h1, h2, vs, h3, n, h4⟩ := h; exact ⟨by rw [lk_ne hne]; exact h1, by rw [lk_ne hne]; exact h2, vs, by rw [lk_ne hne]; exact h3, n, h4.tol t⟩
  | oo f => obtain ⟨h1, h2, h3, t⟩ := h; exact ⟨by rw [lk_ne hne]; exact h1, by rw [lk_ne hne]; exact h2, by rw [lk_ne hne]; exact h3, t⟩
/-- the whole state with the frozen dict at a locked (or unlocked) -/
theorem RelS.lk {F0 H0 F H : Hp} {σ : L2.St} (R : RelS K F0 H0 F H σ ρ) {a : Addr} {u l : HO} (ha : F a = some u) (hs : str1 l = str1 u) (hu : tupO u = false) : RelS K (DL.lk a u l F0) (DL.lk a u l H0) (DL.lk a u l F) (DL.lk a u l H) σ ρ := by
  have hul : ∀ o, F a = some o → str1 l = str1 o := fun o h => by rw [ha] at h; cases h; exact hs
  refine ⟨⟨lk_ex R.gr.f, lk_ex R.gr.h, lk_ex R.gr.s, fun p o h1 t h2 => ?_⟩, R.len, fun i x v h1 h2 => ?_, R.ne⟩
  · by_cases z : p = a
    · subst z
      exfalso
      cases e0 : F0 p with
      | some o0 => rw [lk_at e0] at h2; cases h2
      | none =>
        cases e1 : H0 p with
        | none => rw [lk_no e1] at h1; cases h1
        | some o1 =>
          have hH : H p = some u := R.ex _ _ ha
          have := R.gr.h _ _ e1
          rw [hH] at this; cases this
          have := R.gr.n p _ e1 hu e0
          rw [ha] at this; cases this
    · rw [lk_ne z] at h1 h2 ⊢; exact R.gr.n p o h1 t h2
  · have q := R.sl i x v h1 h2
    by_cases ox : x.own = true
    · obtain ⟨p, rfl, hp⟩ := (DL.SlR.own ox).mp q
      refine (DL.SlR.own ox).mpr ⟨p, rfl, own_lk (fun z => ?_) hul hp⟩
      subst z
      rw [hp.tells.2.1] at ha; cases ha
    · cases x with
      | no => trivial
      | d x => obtain ⟨v', e, r⟩ := q; exact ⟨v', e, r.tol (lk_tol hul)⟩
      | ol _ => exact absurd rfl ox
      | ok _ => exact absurd rfl ox
      | ot _ => exact absurd rfl ox
      | oo _ => exact absurd rfl ox
/-- locked and unlocked again -/
theorem lk_back {a : Addr} {u l u' l' : HO} {F0 : Hp} (h : ∀ o, F0 a = some o → o = l') : DL.lk a u' l' (DL.lk a u l F0) = F0 := by
  funext b
  by_cases z : b = a
  · subst z
    cases e : F0 b with
    | none => rw [lk_no (lk_no e)]
    | some o => rw [lk_at (lk_at e), h o e]
  · rw [lk_ne z, lk_ne z]
theorem mut_dict {u : HO} (h : (∃ k, u = .dK k) ∨ ∃ k, u = .dT k) : Mut (some u) := by
  rcases h with ⟨k, rfl⟩ | ⟨k, rfl⟩ <;> trivial
/-- what a slot's dict is, and its keys -/
def KeysD (u : D) (ds : List D) : Prop := (∃ ks es, u = .dk ks es ∧ ds = ks.map kD) ∨ ∃ ks es, u = .dt ks es ∧ ds = ks.map fun k => D.tup (k.map kD)
def Locked (F : Hp) (a : Addr) (ds : List D) : Prop := ∃ ob, (∃ ws : List (Key × V), F a = some (.frz ob (.dK ws)) ∧ ds = ws.map fun kv => kD kv.1) ∨ ∃ ws : List (List Key × V), F a = some (.frz ob (.dT ws)) ∧ ds = ws.map fun kv => D.tup (kv.1.map kD)
theorem wi_locked {F H : Hp} {σ : L2.St} {s : Nat} {a : Addr} (e : Ex F H) (h1 : σ[s]? = some (some (.ref a))) (h : Locked F a ds) (R' : It → Hp → Prop) (hR : ∀ J A F' H', Gr F H F' H' → Src K J ds A → A F' → R' J H') : iSeq K (tVar s) σ H R' := by
  obtain ⟨ob, ⟨ws, h2, rfl⟩ | ⟨ws, h2, rfl⟩⟩ := h
  · exact .inr (.inr ⟨_, h1, a, ob, rfl, .inl ⟨ws, e _ _ h2, hR _ _ F H (.refl e) src_keys h2⟩⟩)
  · exact .inr (.inr ⟨_, h1, a, ob, rfl, .inr ⟨ws, e _ _ h2, hR _ _ F H (.refl e) src_keysT h2⟩⟩)
theorem map_zip_fst {α β γ : Type} (f : α → γ) : ∀ {l : List α} {m : List β}, l.length = m.length → (l.zip m).map (fun p => f p.1) = l.map f
  | [], _, _ => rfl
  | a :: l, [], h => by cases h
  | a :: l, b :: m, h => by rw [List.zip_cons_cons, List.map_cons, List.map_cons, map_zip_fst f (by simpa using h)]
/-- a slot's dict is locked already, or it can be locked -/
theorem dict_state {F : Hp} {v : V} {u0 : D} (r : Rep K F v u0) (h : KeysD u0 ds) : ∃ a, v = .ref a ∧ (Locked F a ds ∨ ∃ u, F a = some u ∧ Mut (some u) ∧ tupO u = false ∧ (∀ ob, str1 (.frz ob u) = str1 u) ∧ (∀ ob, ∀ F' : Hp, F' a = some (.frz ob u) → Locked F' a ds)) := by
  rcases h with ⟨ks, es, rfl, rfl⟩ | ⟨ks, es, rfl, rfl⟩
  · cases r with
    | @dk a o _ vs _ h1 hs l rs =>
      refine ⟨a, rfl, ?_⟩
      unfold str1 at hs
      split at hs
      · cases hs; exact .inl ⟨_, .inl ⟨_, h1, (map_zip_fst kD l).symm⟩⟩
      · cases hs
      · subst hs; exact .inr ⟨_, h1, trivial, rfl, fun _ => rfl, fun ob F' h' => ⟨ob, .inl ⟨_, h', (map_zip_fst kD l).symm⟩⟩⟩
  · cases r with
    | @dt a o _ vs _ h1 hs l rs =>
      refine ⟨a, rfl, ?_⟩
      unfold str1 at hs
      split at hs
      · cases hs
      · cases hs; exact .inl ⟨_, .inr ⟨_, h1, (map_zip_fst (fun k => D.tup (List.map kD k)) l).symm⟩⟩
      · subst hs; exact .inr ⟨_, h1, trivial, rfl, fun _ => rfl, fun ob F' h' => ⟨ob, .inr ⟨_, h', (map_zip_fst (fun k => D.tup (List.map kD k)) l).symm⟩⟩⟩
theorem ex_unlk {a : Addr} {u l : HO} {F F2 : Hp} (hl : F a = some u) (e : Ex (DL.lk a u l F) F2) : Ex F (upd F2 a u) := fun b o h => by
  by_cases z : b = a
  · subst z; rw [hl] at h; cases h; exact upd_same
  · rw [upd_ne z]; exact e b o (by rw [lk_ne z]; exact h)
/-- a state behind the lock, unlocked -/
theorem RelS.unlk {F0 H0 F H F2 H2 : Hp} {σ σ' : L2.St} {ρ0 : List Sl} (R : RelS K F0 H0 F H σ ρ0) {a : Addr} {u : HO} {ob : Obj} (ha : F a = some u) (hs : str1 (.frz ob u) = str1 u) (hu : tupO u = false) (R2 : RelS K (DL.lk a u (.frz ob u) F0) (DL.lk a u (.frz ob u) H0) F2 H2 σ' ρ) (e : F2 a = some (.frz ob u)) :
    RelS K F0 H0 (upd F2 a u) (upd H2 a u) σ' ρ := by
  have R3 := R2.lk (u := .frz ob u) (l := u) e hs.symm rfl
  have hH : H a = some u := R.ex _ _ ha
  have f0 : ∀ o, F0 a = some o → o = u := fun o h => by
    have := R.gr.f _ _ h
    rw [ha] at this; exact (Option.some.inj this).symm
  have h0 : ∀ o, H0 a = some o → o = u := fun o h => by
    have := R.gr.h _ _ h
    rw [hH] at this; exact (Option.some.inj this).symm
  rw [lk_back f0, lk_back h0, lk_upd e, lk_upd (R2.ex _ _ e)] at R3
  exact R3
/-- a loop over the keys of the dict in slot s -/
theorem sv_forKeys {s : Nat} {g : TG} {tb : TS} {u0 : D} (hs : ρ[s]? = some (.d u0)) (hd : KeysD u0 ds) (hr : Run (Turn1 K W g tb) ds ρ o) (hne : ∀ C fs ρ', o ≠ .er C fs ρ') : SvD K W (tLockA (tFor (iSeq K (tVar s)) g tb)) ρ o := fun E F0 H0 F H σ R p => by
  obtain ⟨v, h1, rv⟩ := R.get hs
  obtain ⟨a, rfl, hk | ⟨u, ha, hm, hu, hst, hL⟩⟩ := dict_state rv hd
  · exact .inr (for_at R (fun R' hR => wi_locked R.ex h1 hk R' hR) hr p)
  · refine .inl ⟨a, u, R.ex _ _ ha, hm, fun ob => ?_⟩
    have hH : H a = some u := R.ex _ _ ha
    have R1 := R.lk (u := u) (l := .frz ob u) ha (hst ob) hu
    have eF : DL.lk a u (.frz ob u) F a = some (.frz ob u) := lk_at ha
    have eH : DL.lk a u (.frz ob u) H = upd H a (.frz ob u) := lk_upd hH
    rw [← eH]
    refine for_at R1 (fun R' hR => wi_locked R1.ex h1 (hL ob _ eF) R' hR) hr ?_
    have back : ∀ {F2 H2 : Hp} {σ' : L2.St} {ρ'' : List Sl}, Ex (DL.lk a u (.frz ob u) F) F2 → RelS K (DL.lk a u (.frz ob u) F0) (DL.lk a u (.frz ob u) H0) F2 H2 σ' ρ'' → H2 a = some (.frz ob u) ∧ Ex F (upd F2 a u) ∧ RelS K F0 H0 (upd F2 a u) (upd H2 a u) σ' ρ'' := fun {F2 H2 σ' ρ''} e R2 =>
      ⟨R2.ex _ _ (e _ _ eF), ex_unlk ha e, R.unlk ha (hst ob) hu R2 (e _ _ eF)⟩
    cases o with
    | nx ρ' => exact fun σ' F2 H2 e R2 => let ⟨x1, x2, x3⟩ := back e R2; ⟨x1, p σ' _ _ x2 x3⟩
    | bk ρ' => exact fun σ' F2 H2 e R2 => let ⟨x1, x2, x3⟩ := back e R2; ⟨x1, p σ' _ _ x2 x3⟩
    | ct ρ' => exact fun σ' F2 H2 e R2 => let ⟨x1, x2, x3⟩ := back e R2; ⟨x1, p σ' _ _ x2 x3⟩
    | rt d =>
      refine fun v' F2 H2 e g2 r2 => ?_
      have Rr : RelS K (DL.lk a u (.frz ob u) F0) (DL.lk a u (.frz ob u) H0) F2 H2 [some v'] [.d d] := ⟨g2, rfl, fun i x o h3 h4 => by
        cases i with
        | zero => simp at h3 h4; subst h3; subst h4; exact ⟨v', rfl, r2⟩
        | succ i => simp at h3, fun i j x y q h3 _ h5 _ _ _ => by
        cases i with
        | zero => simp at h3; subst h3; cases h5
        | succ i => simp at h3⟩
      obtain ⟨x1, x2, x3⟩ := back e Rr
      obtain ⟨v2, h3, h4⟩ := x3.get (i := 0) (x := d) rfl
      simp at h3; subst h3
      exact ⟨x1, p v' _ _ x2 x3.gr h4⟩
    | er C fs ρ' => exact absurd rfl (hne C fs ρ')
end
end DL
set_option Elab.async false
set_option linter.all false
set_option maxRecDepth 100000
set_option maxHeartbeats 1000000
/-! Comprehensions over dicts and with two fors; sorted, list of dicts; order of data. -/
namespace DL
open PySem PySem.Spec PyProof.Rows L2
section
variable {K : PySem.W.Frag} {W : WX} {ρ ρ' : List Sl} {te ta tb tl : TE} {d x y z : D} {xs ys ds zs : List D} {t : TA} {i j : Int} {n : Nat} {o : Out}
/-- a comprehension over the keys of the dict in slot s -/
theorem evl_lcKeys {s : Nat} {g : TG} {tt : TT} {vs : List Nat} {f : D → Option D} {u0 : D} (hs : ρ[s]? = some (.d u0)) (hd : KeysD u0 ds) (hf : ∀ d ∈ ds, Cmp1 K g tt te vs (wipeS ρ vs) d (f d)) (hl : ds.length ≤ 16777215) :
    EvL K (tLockEA (tLc (iSeq K (tVar s)) g tt te vs)) ρ (ds.filterMap f) := fun F0 H0 F H σ R Q q => by
  obtain ⟨v, h1, rv⟩ := R.get hs
  obtain ⟨a, rfl, hk | ⟨u, ha, hm, hu, hst, hL⟩⟩ := dict_state rv hd
  · exact .inr (lc_at R (fun R' hR => wi_locked R.ex h1 hk R' hR) hf hl q)
  · refine .inl ⟨a, u, R.ex _ _ ha, hm, fun ob => ?_⟩
    have hH : H a = some u := R.ex _ _ ha
    have R1 := R.lk (u := u) (l := .frz ob u) ha (hst ob) hu
    have eF : DL.lk a u (.frz ob u) F a = some (.frz ob u) := lk_at ha
    have eH : DL.lk a u (.frz ob u) H = upd H a (.frz ob u) := lk_upd hH
    rw [← eH]
    refine lc_at R1 (fun R' hR => wi_locked R1.ex h1 (hL ob _ eF) R' hR) hf hl fun p ws F2 H2 g2 hp hf2 h2 r2 => ?_
    have e2 : F2 a = some (.frz ob u) := g2.f _ _ eF
    have pa : p ≠ a := fun z => by
      subst z
      rw [e2] at hf2; cases hf2
    have hpH : H p = none := by rw [eH, upd_ne pa] at hp; exact hp
    have R2 : RelS K (DL.lk a u (.frz ob u) F0) (DL.lk a u (.frz ob u) H0) F2 H2 σ ρ := R1.grow g2
    have R3 := R.unlk ha (hst ob) hu R2 e2
    have tol : Tol F2 (upd F2 a u) := fun b o h => by
      by_cases z : b = a
      · subst z; rw [e2] at h; cases h; exact ⟨u, upd_same, (hst ob).symm⟩
      · exact ⟨o, by rw [upd_ne z]; exact h, rfl⟩
    refine ⟨g2.h _ _ (by rw [eH]; exact upd_same), q p ws (upd F2 a u) (upd H2 a u) ⟨ex_unlk ha g2.f, ?_, ?_, ?_⟩ hpH (by rw [upd_ne pa]; exact hf2) (by rw [upd_ne pa]; exact h2) (r2.tol tol)⟩
    · exact ex_unlk (l := .frz ob u) hH g2.h
    · exact g2.s.updB
    · intro b o h1 t h2
      by_cases z : b = a
      · subst z; rw [ha] at h2; cases h2
      · rw [upd_ne z]
        exact g2.n b o (by rw [lk_ne z]; exact h1) t (by rw [lk_ne z]; exact h2)
/-- one turn of the inner for of a comprehension with two: rows for the items of the outer one -/
def Cmp2 (K : PySem.W.Frag) (g : TG) (tt : TT) (wi1 : TI) (g1 : TG) (tt1 : TT) (te : TE) (vs vs1 : List Nat) (ρ : List Sl) (d : D) (r : List D) : Prop :=
  ∃ is ρ1 b, TgD K g is d ρ ρ1 ∧ (∀ j ∈ is, j ∈ vs) ∧ TvD K tt ρ1 b ∧ (b = false → r = []) ∧
    (b = true → ∃ (es : List D) (f : D → Option D), WiD K wi1 ρ1 es ∧ r = es.filterMap f ∧ (∀ j ∈ vs1, j ∈ vs) ∧ ∀ e ∈ es, Cmp1 K g1 tt1 te vs1 (wipeS ρ1 vs1) e (f e))
theorem flatMap_take {α β : Type} {f : α → List β} {l : List α} {i : Nat} {a : α} (h : l[i]? = some a) : (l.take (i + 1)).flatMap f = (l.take i).flatMap f ++ f a := by
  rw [List.take_add_one, List.flatMap_append, h]
  simp
theorem len_flatMap_take {α β : Type} (f : α → List β) (l : List α) (i : Nat) : ((l.take i).flatMap f).length ≤ (l.flatMap f).length := by
  conv => rhs; rw [← List.take_append_drop i l]
  rw [List.flatMap_append, List.length_append]
  omega
theorem wipeS_own {ρ : List Sl} : ∀ (vs : List Nat) {j : Nat} {y : Sl}, (wipeS ρ vs)[j]? = some y → y.own = true → j ∉ vs ∧ ρ[j]? = some y
  | [], j, y, h, o => ⟨by simp, h⟩
  | v :: vs, j, y, h, o => by
    unfold wipeS at h
    rcases get_set h with ⟨e, rfl⟩ | ⟨e, h⟩
    · cases o
    · obtain ⟨h1, h2⟩ := wipeS_own vs h o
      exact ⟨by rw [List.mem_cons]; rintro (z | z); exact e z.symm; exact h1 z, h2⟩
theorem ev_lc2 {wi wi1 : TI} {g g1 : TG} {tt tt1 : TT} {vs vs1 : List Nat} {f : D → List D} (hw : WiD K wi ρ ds) (hs : ∀ d ∈ ds, Cmp2 K g tt wi1 g1 tt1 te vs vs1 (wipeS ρ vs) d (f d)) (hl : (ds.flatMap f).length ≤ 16777215) :
    EvL K (tLc2 wi g tt wi1 g1 tt1 te vs vs1) ρ (ds.flatMap f) := fun F0 H0 F H σ R Q q =>
  hw F0 H0 F H σ R _ fun J A F1 H1 gr1 src a1 => fun Dl hD => by
    have hD0 : H Dl = none := gr1.h.back hD
    have hDF1 : F1 Dl = none := gr1.s.back hD
    have hD00 : H0 Dl = none := R.gr.h.back hD0
    have Rw : RelS K F0 H0 F1 H1 (L2.wipe σ vs) (wipeS ρ vs) := (R.grow gr1).wipe vs
    have fr := Rw.fresh hD
    refine ⟨fun i m H' => ∃ F' acc, m = ds.length - i ∧ i ≤ ds.length ∧ Gr F H F' H' ∧ RelS K F0 H0 F' H' (L2.wipe σ vs) (wipeS ρ vs) ∧ Ex F1 F' ∧ F' Dl = none ∧ H' Dl = some (.lst acc) ∧ Reps K F' acc ((ds.take i).flatMap f),
      ⟨ds.length, F1, [], rfl, Nat.zero_le _, gr1.side hD0 hDF1, Rw.side hD00 hDF1 fr, Ex.refl F1, hDF1, upd_same, .nil⟩, ?_⟩
    rintro i m H' ⟨F', acc, rfl, hi, g', R', ex, hDF, hDH, ra⟩
    have a' := src.keep _ _ a1 ex
    by_cases hlt : i < ds.length
    · refine .inr ⟨src.go i F' H' hlt a' R'.ex, fun H2 => ∃ F2 acc, Gr F H F2 H2 ∧ RelS K F0 H0 F2 H2 (L2.wipe σ vs) (wipeS ρ vs) ∧ Ex F1 F2 ∧ F2 Dl = none ∧ H2 Dl = some (.lst acc) ∧ Reps K F2 acc ((ds.take (i + 1)).flatMap f),
        fun H2 ⟨F2, acc, x1, x2, x3, x4, x5, x6⟩ => ⟨ds.length - (i + 1), by omega, F2, acc, rfl, hlt, x1, x2, x3, x4, x5, x6⟩, fun x H2 y => ?_⟩
      obtain ⟨d, hd⟩ : ∃ d, ds[i]? = some d := ⟨ds[i], List.getElem?_eq_getElem hlt⟩
      obtain ⟨F2, g2, rx⟩ := src.yld i F' H' x H2 d hd a' R'.ex y
      obtain ⟨is, ρ1, b, tg, sub, tv, hf, ht⟩ := hs d (List.mem_of_getElem? hd)
      refine tg.2 F0 H0 F2 H2 _ x (R'.grow g2) rx _ fun σ3 R3 l3 k3 => ⟨?_, ?_⟩
      · rw [wipe_same l3 k3 sub, wipe_wipe]
      · refine tv F0 H0 F2 H2 σ3 R3 _ fun F3 H3 g3 => ?_
        have gA := (g'.trans g2).trans g3
        have RA := (R'.grow g2).grow g3
        have nD : F3 Dl = none := g3.n _ _ (g2.h _ _ hDH) rfl (g2.n _ _ hDH rfl hDF)
        have hD3 := g3.h _ _ (g2.h _ _ hDH)
        have ra3 := (ra.mono g2.f).mono g3.f
        have ex3 := (ex.trans g2.f).trans g3.f
        cases b with
        | false =>
          show ∃ F2 acc, _
          refine ⟨F3, acc, gA, RA, ex3, nD, hD3, ?_⟩
          rw [flatMap_take hd, hf rfl, List.append_nil]
          exact ra3
        | true =>
          obtain ⟨es, fe, hw1, er, sub1, hi1⟩ := ht rfl
          have R3' := R3.grow g3
          show wi1 σ3 H3 _
          refine hw1 F0 H0 F3 H3 σ3 R3' _ fun J1 A1 F4 H4 g4 src1 a4 => ?_
          have R4 := R3'.grow g4
          have R4w := R4.wipe vs1
          have gB := gA.trans g4
          have nD4 : F4 Dl = none := g4.n _ _ hD3 rfl nD
          have hD4 : H4 Dl = some (.lst acc) := g4.h _ _ hD3
          have ra4 := ra3.mono g4.f
          have RB := RA.grow g4
          have fr4 : ∀ (j : Nat) (y : Sl), (wipeS ρ1 vs1)[j]? = some y → y.own = true → (L2.wipe σ3 vs1)[j]? ≠ some (some (.ref Dl)) := fun j y h1 h2 h3 => by
            have q0 := (wipe_some h3)
            obtain ⟨z1, z2⟩ := wipeS_own vs1 h1 h2
            obtain ⟨nj, e1⟩ := tg.1 j y z2 h2
            exact fr j y e1 h2 ((k3 j nj).symm.trans q0.1)
          refine ⟨fun k m H' => ∃ F' acc', m = es.length - k ∧ k ≤ es.length ∧ Gr F H F' H' ∧ RelS K F0 H0 F' H' (L2.wipe σ vs) (wipeS ρ vs) ∧ RelS K F0 H0 F' H' (L2.wipe σ3 vs1) (wipeS ρ1 vs1) ∧ Ex F4 F' ∧ F' Dl = none ∧ H' Dl = some (.lst acc') ∧ Reps K F' acc' ((ds.take i).flatMap f ++ (es.take k).filterMap fe),
            ⟨es.length, F4, acc, rfl, Nat.zero_le _, gB, RB, R4w, Ex.refl F4, nD4, hD4, by simpa using ra4⟩, ?_⟩
          rintro k m H5 ⟨F5, acc5, rfl, hk, g5, R5, R5w, ex5, hDF5, hDH5, ra5⟩
          have a5 := src1.keep _ _ a4 ex5
          by_cases hlt1 : k < es.length
          · refine .inr ⟨src1.go k F5 H5 hlt1 a5 R5w.ex, fun H' => ∃ F' acc', Gr F H F' H' ∧ RelS K F0 H0 F' H' (L2.wipe σ vs) (wipeS ρ vs) ∧ RelS K F0 H0 F' H' (L2.wipe σ3 vs1) (wipeS ρ1 vs1) ∧ Ex F4 F' ∧ F' Dl = none ∧ H' Dl = some (.lst acc') ∧ Reps K F' acc' ((ds.take i).flatMap f ++ (es.take (k + 1)).filterMap fe),
              fun H' ⟨F', acc', x1, x2, x3, x4, x5, x6, x7⟩ => ⟨es.length - (k + 1), by omega, F', acc', rfl, hlt1, x1, x2, x3, x4, x5, x6, x7⟩, fun x6 H6 y6 => ?_⟩
            obtain ⟨e, he⟩ : ∃ e, es[k]? = some e := ⟨es[k], List.getElem?_eq_getElem hlt1⟩
            obtain ⟨F6, g6, rx6⟩ := src1.yld k F5 H5 x6 H6 e he a5 R5w.ex y6
            obtain ⟨js, ρ2, b2, tg2, sub2, tv2, ht2, hf2⟩ := hi1 e (List.mem_of_getElem? he)
            refine tg2.2 F0 H0 F6 H6 _ x6 (R5w.grow g6) rx6 _ fun σ7 R7 l7 k7 => ⟨?_, ?_⟩
            · rw [wipe_same l7 k7 sub2, wipe_wipe]
            · refine tv2 F0 H0 F6 H6 σ7 R7 _ fun F7 H7 g7 => ?_
              have gC := (g5.trans g6).trans g7
              have RC := (R5.grow g6).grow g7
              have RCw := (R5w.grow g6).grow g7
              have nD7 : F7 Dl = none := g7.n _ _ (g6.h _ _ hDH5) rfl (g6.n _ _ hDH5 rfl hDF5)
              have hD7 := g7.h _ _ (g6.h _ _ hDH5)
              have ra7 := (ra5.mono g6.f).mono g7.f
              have ex7 := (ex5.trans g6.f).trans g7.f
              cases b2 with
              | false =>
                show ∃ F' acc', _
                refine ⟨F7, acc5, gC, RC, RCw, ex7, nD7, hD7, ?_⟩
                rw [filterMap_take he, hf2 rfl]
                simpa using ra7
              | true =>
                obtain ⟨yv, ey, hy⟩ := ht2 rfl
                show te σ7 H7 _
                refine hy F0 H0 F7 H7 σ7 (R7.grow g7) _ fun v8 F8 H8 g8 r8 => ?_
                have nD8 : F8 Dl = none := g8.n _ _ hD7 rfl nD7
                have hD8 : H8 Dl = some (.lst acc5) := g8.h _ _ hD7
                have ra8 := ra7.mono g8.f
                refine ⟨acc5, hD8, ?_, F8, acc5 ++ [v8], (gC.trans g8).side hD0 nD8, (RC.grow g8).side hD00 nD8 fr, (RCw.grow g8).side hD00 nD8 fr4, ex7.trans g8.f, nD8, upd_same, ?_⟩
                · rw [ra8.length, sizeLine_eq, List.length_append]
                  have l1 := len_flatMap_take f ds (i + 1)
                  rw [flatMap_take hd, List.length_append, er] at l1
                  have l2 : ((es.take (k + 1)).filterMap fe).length ≤ (es.filterMap fe).length := by
                    conv => rhs; rw [← List.take_append_drop (k + 1) es]
                    rw [List.filterMap_append, List.length_append]; omega
                  rw [filterMap_take he, List.length_append] at l2
                  omega
                · rw [filterMap_take he, ey, ← List.append_assoc]
                  exact ra8.append (.cons r8 .nil)
          · have ek : k = es.length := by omega
            subst ek
            refine .inl ⟨src1.stop _ _ a5 R5w.ex, F5, acc5, g5, R5, (ex3.trans g4.f).trans ex5, hDF5, hDH5, ?_⟩
            rw [flatMap_take hd, er]
            rw [List.take_length] at ra5
            exact ra5
    · have e : i = ds.length := by omega
      subst e
      refine .inl ⟨src.stop _ _ a' R'.ex, q Dl acc F' H' g' hD0 hDF hDH ?_⟩
      rw [List.take_length] at ra
      exact ra
end
end DL
set_option Elab.async false
set_option linter.all false
set_option maxRecDepth 100000
set_option maxHeartbeats 1000000
/-! Small rules, folds of loops, isinstance. -/
namespace DL
open PySem PySem.Spec PyProof.Rows L2
section
variable {K : PySem.W.Frag} {W : WX} {ρ ρ' ρ1 : List Sl} {te ta tb tl : TE} {d x y z : D} {xs ys ds zs : List D} {t u : TS} {i j : Int} {n : Nat} {o : Out} {tt : TT}
theorem RelS.wipeK {F0 H0 F H : Hp} {σ : L2.St} {ρ : List Sl} (R : RelS K F0 H0 F H σ ρ) : ∀ is : List Nat, RelS K F0 H0 F H σ (wipeS ρ is)
  | [] => R
  | i :: is => by
    have R1 := R.wipeK is
    unfold wipeS
    cases e : σ[i]? with
    | none =>
      rw [List.set_eq_of_length_le (by rw [← R1.len]; exact List.getElem?_eq_none_iff.mp e)]
      exact R1
    | some v =>
      have R2 := R1.forget i v
      rw [set_same e] at R2
      exact R2
/-- slots forgotten at the end -/
theorem sv_wipe (is : List Nat) (h : SvD K W t ρ (.nx ρ1)) : SvD K W t ρ (.nx (wipeS ρ1 is)) := fun E F0 H0 F H σ R p =>
  h E F0 H0 F H σ R fun σ' F' H' e R' => p σ' F' H' e (R'.wipeK is)
theorem sv_nx (h : SvD K W t ρ (.nx ρ1)) (is : List Nat) (e : wipeS ρ1 is = ρ') : SvD K W t ρ (.nx ρ') := e ▸ sv_wipe is h
/-- a loop that goes through, its state a fold -/
theorem run_fold {S : Type} {step : D → List Sl → Out → Prop} (enc : S → List Sl) (f : S → D → S) (I : S → Prop) : ∀ (ds : List D) (s : S), (∀ s d, d ∈ ds → I s → step d (enc s) (.nx (enc (f s d))) ∧ I (f s d)) → I s → Run step ds (enc s) (.nx (enc (ds.foldl f s)))
  | [], s, _, _ => .nil
  | d :: ds, s, h, hI => .go (h s d List.mem_cons_self hI).1 (run_fold enc f I ds (f s d) (fun s' d' hd hs => h s' d' (List.mem_cons_of_mem _ hd) hs) (h s d List.mem_cons_self hI).2)
/-- .. by the turn's number -/
theorem run_steps {step : D → List Sl → Out → Prop} (R : Nat → List Sl) (ds : List D) : ∀ (k : Nat), k ≤ ds.length → (∀ i d, k ≤ i → ds[i]? = some d → step d (R i) (.nx (R (i + 1)))) → Run step (ds.drop k) (R k) (.nx (R ds.length)) := by
  intro k hk h
  generalize hm : ds.length - k = m
  induction m generalizing k with
  | zero =>
    have e : k = ds.length := by omega
    subst e
    rw [List.drop_length]; exact .nil
  | succ m ih =>
    have hlt : k < ds.length := by omega
    rw [List.drop_eq_getElem_cons hlt]
    exact .go (h k _ (Nat.le_refl _) (List.getElem?_eq_getElem hlt)) (ih (k + 1) hlt (fun i d hi hd => h i d (by omega) hd) (by omega))
theorem run_all {step : D → List Sl → Out → Prop} (R : Nat → List Sl) (ds : List D) (h : ∀ i d, ds[i]? = some d → step d (R i) (.nx (R (i + 1)))) : Run step ds (R 0) (.nx (R ds.length)) := by
  have := run_steps R ds 0 (Nat.zero_le _) fun i d _ hd => h i d hd
  rwa [List.drop_zero] at this
/-- the built-in class is known -/
def D.tyOk : D → Bool
  | .non => true | .bl _ => true | .int _ => true | .str _ => true | .lst _ => true | .tup _ => true | .tupZ _ => true | .dk _ _ => true
  | _ => false
theorem tyx_of {F H : Hp} {v : V} (e : Ex F H) (r : Rep K F v d) (h : d.tyOk = true) : TyX K H v (.type d.tyN) := by
  cases r with
  | non => exact .base .non
  | bl b => exact .base (.bl b)
  | int i => exact .base (.int i)
  | str z => exact .base (.str z)
  | ty n => cases h
  | cls C => cases h
  | lst ha _ => exact .base (.lst (e _ _ ha))
  | scr _ => cases h
  | tup ha _ => exact .base (.tup (e _ _ ha))
  | tupZ ha _ _ => exact .fTuple (e _ _ ha)
  | dk ha hs _ _ =>
    have h1 := e _ _ ha
    unfold str1 at hs
    split at hs
    · exact .fDict h1
    · cases hs
    · subst hs; exact .base (.dK h1)
  | dt _ _ _ _ => cases h
  | ins _ _ _ => cases h
  | exc0 _ => cases h
  | exc _ _ _ _ => cases h
  | hx0 => cases h
  | hx _ _ _ _ => cases h
  | any _ => cases h
theorem ev_isi {nm : String} {b : Bool} (h : EvD K ta ρ d) (hd : d.tyOk = true) (hb : kitB d.tyN nm = some b) : EvD K (tCB (rIsi K) (tCons ta (tCons (tC (.ty nm)) tNil))) ρ (.bl b) := fun F0 H0 F H σ R Q q =>
  h F0 H0 F H σ R _ fun v F1 H1 g1 r1 => ⟨v, .ty nm, .type d.tyN, .type nm, b, rfl, .ty nm, tyx_of g1.s r1 hd, kit_ty hb, q _ F1 H1 g1 (.bl b)⟩
theorem mul_ok {i j : Int} (a b : Nat) (ha : i.natAbs < 2 ^ a) (hb : j.natAbs < 2 ^ b) (h : a + b ≤ 134217728) : CMulX i j := mulx_ok ha hb h
/-- bounds by numbers below 2 ^ 64 -/
theorem mul_s {i j : Int} (h1 : -18446744073709551616 < i ∧ i < 18446744073709551616) (h2 : -18446744073709551616 < j ∧ j < 18446744073709551616) : CMulX i j := mulx_ok (a := 64) (b := 64) (by omega) (by omega) (by omega)
end
/-! ### what isinstance answers -/
def isInt : D → Bool
  | .int _ => true
  | _ => false
def isBl : D → Bool
  | .bl _ => true
  | _ => false
def isTup : D → Bool
  | .tup _ => true
  | .tupZ _ => true
  | _ => false
def isLst : D → Bool
  | .lst _ => true
  | _ => false
def isStr : D → Bool
  | .str _ => true
  | _ => false
theorem kit_int {d : D} (h : d.tyOk = true) : kitB d.tyN "int" = some (isInt d || isBl d) := by
  cases d with
  | non  => exact (by decide +kernel : kitB "NoneType" "int" = some false)
  | bl _ => exact (by decide +kernel : kitB "bool" "int" = some true)
  | int _ => exact (by decide +kernel : kitB "int" "int" = some true)
  | str _ => exact (by decide +kernel : kitB "str" "int" = some false)
  | lst _ => exact (by decide +kernel : kitB "list" "int" = some false)
  | tup _ => exact (by decide +kernel : kitB "tuple" "int" = some false)
  | tupZ _ => exact (by decide +kernel : kitB "tuple" "int" = some false)
  | dk _ _ => exact (by decide +kernel : kitB "dict" "int" = some false)
  | dt _ _ => cases h
  | ins _ _ _ => cases h
  | scr _ => cases h
  | ty _ => cases h
  | cls _ => cases h
  | exc _ _ _ => cases h
  | hx _ _ _ _ => cases h
  | any => cases h
theorem kit_bool {d : D} (h : d.tyOk = true) : kitB d.tyN "bool" = some (isBl d) := by
  cases d with
  | non  => exact (by decide +kernel : kitB "NoneType" "bool" = some false)
  | bl _ => exact (by decide +kernel : kitB "bool" "bool" = some true)
  | int _ => exact (by decide +kernel : kitB "int" "bool" = some false)
  | str _ => exact (by decide +kernel : kitB "str" "bool" = some false)
  | lst _ => exact (by decide +kernel : kitB "list" "bool" = some false)
  | tup _ => exact (by decide +kernel : kitB "tuple" "bool" = some false)
  | tupZ _ => exact (by decide +kernel : kitB "tuple" "bool" = some false)
  | dk _ _ => exact (by decide +kernel : kitB "dict" "bool" = some false)
  | dt _ _ => cases h
  | ins _ _ _ => cases h
  | scr _ => cases h
  | ty _ => cases h
  | cls _ => cases h
  | exc _ _ _ => cases h
  | hx _ _ _ _ => cases h
  | any => cases h
theorem kit_tuple {d : D} (h : d.tyOk = true) : kitB d.tyN "tuple" = some (isTup d) := by
  cases d with
  | non  => exact (by decide +kernel : kitB "NoneType" "tuple" = some false)
  | bl _ => exact (by decide +kernel : kitB "bool" "tuple" = some false)
  | int _ => exact (by decide +kernel : kitB "int" "tuple" = some false)
  | str _ => exact (by decide +kernel : kitB "str" "tuple" = some false)
  | lst _ => exact (by decide +kernel : kitB "list" "tuple" = some false)
  | tup _ => exact (by decide +kernel : kitB "tuple" "tuple" = some true)
  | tupZ _ => exact (by decide +kernel : kitB "tuple" "tuple" = some true)
  | dk _ _ => exact (by decide +kernel : kitB "dict" "tuple" = some false)
  | dt _ _ => cases h
  | ins _ _ _ => cases h
  | scr _ => cases h
  | ty _ => cases h
  | cls _ => cases h
  | exc _ _ _ => cases h
  | hx _ _ _ _ => cases h
  | any => cases h
theorem kit_list {d : D} (h : d.tyOk = true) : kitB d.tyN "list" = some (isLst d) := by
  cases d with
  | non  => exact (by decide +kernel : kitB "NoneType" "list" = some false)
  | bl _ => exact (by decide +kernel : kitB "bool" "list" = some false)
  | int _ => exact (by decide +kernel : kitB "int" "list" = some false)
  | str _ => exact (by decide +kernel : kitB "str" "list" = some false)
  | lst _ => exact (by decide +kernel : kitB "list" "list" = some true)
  | tup _ => exact (by decide +kernel : kitB "tuple" "list" = some false)
  | tupZ _ => exact (by decide +kernel : kitB "tuple" "list" = some false)
  | dk _ _ => exact (by decide +kernel : kitB "dict" "list" = some false)
  | dt _ _ => cases h
  | ins _ _ _ => cases h
  | scr _ => cases h
  | ty _ => cases h
  | cls _ => cases h
  | exc _ _ _ => cases h
  | hx _ _ _ _ => cases h
  | any => cases h
theorem kit_str {d : D} (h : d.tyOk = true) : kitB d.tyN "str" = some (isStr d) := by
  cases d with
  | non  => exact (by decide +kernel : kitB "NoneType" "str" = some false)
  | bl _ => exact (by decide +kernel : kitB "bool" "str" = some false)
  | int _ => exact (by decide +kernel : kitB "int" "str" = some false)
  | str _ => exact (by decide +kernel : kitB "str" "str" = some true)
  | lst _ => exact (by decide +kernel : kitB "list" "str" = some false)
  | tup _ => exact (by decide +kernel : kitB "tuple" "str" = some false)
  | tupZ _ => exact (by decide +kernel : kitB "tuple" "str" = some false)
  | dk _ _ => exact (by decide +kernel : kitB "dict" "str" = some false)
  | dt _ _ => cases h
  | ins _ _ _ => cases h
  | scr _ => cases h
  | ty _ => cases h
  | cls _ => cases h
  | exc _ _ _ => cases h
  | hx _ _ _ _ => cases h
  | any => cases h
end DL
set_option Elab.async false
set_option linter.all false
set_option maxRecDepth 100000
set_option maxHeartbeats 1000000
/-! Order of data, list of a dict, join, max, a display with a tuple key, targets over lists. -/
namespace DL
open PySem PySem.Spec PyProof.Rows L2
section
variable {X : Cx}
/-- a sequence's items into targets -/
def gSeqA (K : PySem.W.Frag) (n : Nat) (t : TGs) : TG := fun v σ H Q => gTup K n t v σ H Q ∨ gLst K n t v σ H Q
theorem pg_seqA {es : List Expr} {k : Nat} {pos : Pos} {t : TGs} {n : Nat} (hc : X.calm = true) (h : PGs X es t)
    (hn : (assignEach es X.env).length = n := by rfl) (hst : (assignEach es X.env).findIdx? (·.1) = none := by rfl) : PG X (.Tuple es k pos) (gSeqA X.K n t) := by
  refine ⟨fun pins s σ H v u Q I r hw => ?_⟩
  rcases hw with hw | hw
  · exact (pg_tup hc h hn hst).run pins s σ H v u Q I r hw
  · exact (pg_lst hc h hn hst).run pins s σ H v u Q I r hw
/-- x >= y of plain data -/
def rGeD (K : PySem.W.Frag) : R2 := fun x y H Q => ∃ dx dy, Dp K H x dx ∧ Dp K H y dy ∧ PySem.W.alike dx dy = true ∧ dx ≠ .none ∧ dx.depth ≤ 8 ∧ Q (.bl (!PySem.W.dataLt dx dy)) H
theorem op_geD (hu : X.A.units + 64 < cLine) : OpR X (compareOp .GtE) (rGeD X.K) := by
  intro pins s σ H x y v u Q I rx ry h
  obtain ⟨dx, dy, hx, hy, al, ne, dep, q⟩ := h
  obtain ⟨as, r1⟩ := Dp.reads I dx x v hx rx
  obtain ⟨bs, r2⟩ := Dp.reads I dy y u hy ry
  exact PySem.W.ge_data r1 r2 al ne (by omega) ⟨.bl _, H, I, rfl, q⟩
/-- list(x) of a sequence or a dict -/
def rLstDT : List V → Hp → VK → Prop := fun xs H Q => ∃ d kvs, xs = [V.ref d] ∧ Rd H d (.dT kvs) ∧ ∀ p bs, H p = none → IsKeys H kvs bs → Q (.ref p) (upd H p (.lst (bs.map V.ref)))
def rLstA (K : PySem.W.Frag) : List V → Hp → VK → Prop := fun xs H Q => rLstC K xs H Q ∨ (fun xs H Q => rListD xs H Q ∨ rLstDT xs H Q) xs H Q
theorem cr_lstA (hc : X.calm = true) : CallR X (.type "list") (rLstA X.K) := CallR.or call_list_of (CallR.or (call_list_dK hc) (call_list_dT hc))
/-- {k: v} with a tuple of ints and texts -/
def tDisp1T (tk tv : TE) : TE := fun σ H Q => ∀ p, H p = none → tk σ (upd H p (.dT [])) fun x H1 => tv σ H1 fun y H2 => ∃ (b : Addr) (k : List Key), x = .ref b ∧ H2 b = some (.tup (k.map kV)) ∧ H2 p = some (.dT []) ∧ Q (.ref p) (upd H2 p (.dT [(k, y)]))
theorem pe_disp1T {ke ve : Expr} {pos : Pos} {tk tv : TE} (hu : X.A.units + 1 < cLine) (hk : PE X ke tk) (hv : PE X ve tv) (hk1 : evalEachOpt [some ke] X.env = [some (eval ke X.env)] := by rfl) (hv1 : evalEach [ve] X.env = [eval ve X.env] := by rfl) :
    PE X (.Dict [some ke] [ve] pos) (tDisp1T tk tv) := by
  refine ⟨fun pins s σ H Q I q => ?_⟩
  have hn := I.hok.fresh (Nat.le_refl s.heap.objs.size)
  have I1 := I.laid (a := s.heap.objs.size) (o := .dT []) (h' := s.heap.push { cls := .type "dict", data := .dict #[] }) (t' := s.toks) (fun _ _ q => Heap.get?_push_of_some _ q) (Nat.le_refl _) (dt_empty s.heap I.big)
  have hsh : (evalEachOpt [some ke] X.env).zip ((evalEach [ve] X.env).map fun v => do let x ← v; standAt pos; pure x) = [(eval ke X.env, do let x ← eval ve X.env; standAt pos; pure x)].map fun p => (some p.1, p.2) := by rw [hk1, hv1]; rfl
  rw [arm_eval_Dict, hsh, dictDisplay_pairs _ (by simp) (by simp)]
  refine wpAny_bind (wpAny_standAt (wpAny_bind (wpAny_subDictH (knd := tupleKind (mixKind X.prog X.w)) (show (tupleKind (mixKind X.prog X.w)).room X.A from (by show X.A.units < cLine; omega)) (by simp) ?_)))
  refine evalPairs_cons (thn (hk.run pins _ σ _ _ I1 (q _ hn)) fun kv s2 ⟨x, H2, I2, rx, q2⟩ => wpAny_bind (thn (hv.run pins s2 σ H2 _ I2 q2) fun vv s3 ⟨y, H3, I3, ry, b, k, ex, hb, hp, q3⟩ => wpAny_bind (wpAny_standAt (wpAny_pure (evalPairs_nil ?_)))))
  subst ex
  cases (show kv = Value.ref b from rx)
  obtain ⟨z, hd, xs, rel, dd⟩ := dt_of I3.hok hp
  cases rel
  refine ⟨[(k, b, vv)], ⟨rfl, rfl, key_of I3.hok hb, trivial⟩, dd, fun h' tk' dd' hs => wpAny_pure ⟨.ref s.heap.objs.size, _, ?_, rfl, q3⟩⟩
  obtain ⟨o, es, ep, ho, h2, h3, h4, _, h5⟩ := dd'
  refine d_write I3 (by rw [hp]; exact True.intro) hs ⟨o, ho⟩ ⟨by simp [sizeLine_eq], hd, [(k, b, vv)], .cons ⟨rfl, ?_, ry⟩ .nil, o, es, ep, ho, h2, h3, h4, h5⟩
  rw [upd_ne (ne_of hb hp (fun z => nomatch z))]
  exact hb
end
section
variable {K : PySem.W.Frag} {W : WX} {ρ ρ' : List Sl} {te ta tb tl : TE} {d x y z : D} {xs ys ds zs : List D} {t : TA} {i j : Int} {n : Nat} {o : Out}
theorem tg_seqT {gs : TGs} {is : List Nat} (h : TgsD K gs is ds ρ ρ') (hn : ds.length = n) : TgD K (gSeqA K n gs) is (.tup ds) ρ ρ' := ⟨h.1, fun F0 H0 F H σ v R r Q q => .inl ((tg_tup h hn).2 F0 H0 F H σ v R r Q q)⟩
theorem tg_seqL {gs : TGs} {is : List Nat} (h : TgsD K gs is ds ρ ρ') (hn : ds.length = n) : TgD K (gSeqA K n gs) is (.lst ds) ρ ρ' := ⟨h.1, fun F0 H0 F H σ v R r Q q => by
  cases r with
  | lst h1 rs => exact .inr ⟨_, _, rfl, SqL.of (R.ex _ _ h1), by rw [rs.length]; exact hn, h.2 F0 H0 F H σ _ R rs Q q⟩⟩
theorem tv_geD (ha : EvD K ta ρ x) (hb : EvD K tb ρ y) (hx : x.pl = true) (hy : y.pl = true) (al : PySem.W.alike x.py y.py = true) (ne : x.py ≠ .none) (dep : x.py.depth ≤ 8) : TvD K (tTest (tOp (rGeD K) ta tb)) ρ (!PySem.W.dataLt x.py y.py) :=
  tv_test (ev_op ha hb fun F H e v u a b Q q => ⟨x.py, y.py, Dp.up e (a.dp hx), Dp.up e (b.dp hy), al, ne, dep, q _ F H (.refl e) (.bl _)⟩)
theorem evl_lstAL (h : EvSL K te ρ ds) : EvL K (tCB (rLstA K) (tCons te tNil)) ρ ds := evl_cbSL h fun F H e p vs s r Q q =>
  .inl ⟨p, vs, rfl, .inl s, fun l hl => q l vs F _ (.own e hl) hl (e.back hl) upd_same r⟩
theorem evl_lstAT (h : EvST K te ρ ds) : EvL K (tCB (rLstA K) (tCons te tNil)) ρ ds := fun F0 H0 F H σ R Q q =>
  h F0 H0 F H σ R _ fun p vs F1 H1 g1 s1 r1 => .inl ⟨p, vs, rfl, .inr s1, fun l hl => q l vs F1 _ (g1.trans (.own g1.s hl)) (g1.h.back hl) (g1.s.back hl) upd_same r1⟩
theorem reps_krKeys {F : Hp} : ∀ {ws : List (Key × V)} {kvs : List (Key × D)}, KR K F ws kvs → Reps K F (ws.map fun kv => kV kv.1) (kvs.map fun kv => kD kv.1)
  | _, _, .nil => .nil
  | _, _, .cons _ r => .cons (rep_key _) (reps_krKeys r)
theorem evl_lstDK {s : Nat} {kvs : List (Key × D)} (hx : ρ[s]? = some (.ok kvs)) : EvL K (tCB (rLstA K) (tCons (tVar s) tNil)) ρ (kvs.map fun kv => kD kv.1) := fun F0 H0 F H σ R Q q => by
  obtain ⟨p, h1, n0, nf, ws, h2, nd, rs⟩ := R.getOwn hx rfl
  exact ⟨_, h1, .inr (.inl ⟨p, ws, rfl, h2, fun l hl => q l _ F _ (.own R.ex hl) hl (R.ex.back hl) upd_same (reps_krKeys rs)⟩)⟩
/-- the key tuples become known -/
theorem keys_known {κ : Type} {F H : Hp} {ws : List (List Key × V)} (e : Ex F H) {f : κ → Addr} : ∀ {bs : List (κ × List Key)}, (∀ b ∈ bs, H (f b.1) = some (.tup (b.2.map kV))) → ∃ F', Gr F H F' H ∧ Reps K F' (bs.map fun b => .ref (f b.1)) (bs.map fun b => .tup (b.2.map kD))
  | [], _ => ⟨F, .refl e, .nil⟩
  | b :: bs, h => by
    obtain ⟨F1, g1, r1⟩ := keys_known e (ws := ws) (f := f) fun c hc => h c (List.mem_cons_of_mem _ hc)
    obtain ⟨F2, g2, h2⟩ := Gr.tup g1.s (h b List.mem_cons_self)
    exact ⟨F2, g1.trans g2, .cons (.tup h2 (reps_keys b.2)) (r1.mono g2.f)⟩
theorem isKeys_pairs {H : Hp} {ws : List (List Key × V)} {bs : List Addr} (h : IsKeys H ws bs) : ∃ ps : List (Addr × List Key), bs = ps.map (·.1) ∧ ws.map (·.1) = ps.map (·.2) ∧ ∀ p ∈ ps, H p.1 = some (.tup (p.2.map kV)) := by
  unfold IsKeys at h
  induction h with
  | nil => exact ⟨[], rfl, rfl, fun _ z => nomatch z⟩
  | @cons p b ps bs h t ih =>
    obtain ⟨qs, e1, e2, e3⟩ := ih
    refine ⟨(b, p.1) :: qs, by rw [e1]; rfl, by rw [List.map_cons, e2]; rfl, fun q hq => ?_⟩
    rcases List.mem_cons.mp hq with e | e
    · rw [e]; exact h
    · exact e3 q e
theorem evl_lstDT {kvs : List (List Key × D)} (h : EvDT K te ρ kvs) : EvL K (tCB (rLstA K) (tCons te tNil)) ρ (kvs.map fun kv => .tup (kv.1.map kD)) := fun F0 H0 F H σ R Q q =>
  h F0 H0 F H σ R _ fun a ws F1 H1 g1 s1 r1 => .inr (.inr ⟨a, ws, rfl, s1, fun p bs hp hk => by
    obtain ⟨ps, e1, e2, e3⟩ := isKeys_pairs hk
    obtain ⟨F2, g2, r2⟩ := keys_known (K := K) g1.s (ws := ws) (f := id) (bs := ps) e3
    have ek := r1.keys
    have e4 : (kvs.map fun kv => D.tup (kv.1.map kD)) = ps.map fun b => D.tup (b.2.map kD) := by
      have : (kvs.map (·.1)).map (fun k => D.tup (List.map kD k)) = (ps.map (·.2)).map (fun k => D.tup (List.map kD k)) := by rw [← ek, e2]
      rw [List.map_map, List.map_map] at this; exact this
    rw [e4] at q
    have g3 := g1.trans g2
    refine q p _ F2 _ (g3.trans (.own g2.s hp)) (g1.h.back hp) (g2.s.back hp) upd_same ?_
    rw [e1, List.map_map]
    exact r2⟩)
/-! ### sorted -/
/-- data in order -/
def sortD (ds : List D) : List D := ds.mergeSort (PySem.W.dataLe false D.py)
theorem reps_zip {F : Hp} : ∀ {vs : List V} {ds : List D}, Reps K F vs ds → ∃ cs : List (V × D), vs = cs.map (·.1) ∧ ds = cs.map (·.2) ∧ ∀ c ∈ cs, Rep K F c.1 c.2
  | _, _, .nil => ⟨[], rfl, rfl, fun _ z => nomatch z⟩
  | _, _, .cons (v := v) (d := d) h r => by
    obtain ⟨cs, e1, e2, e3⟩ := reps_zip r
    refine ⟨(v, d) :: cs, by rw [e1]; rfl, by rw [e2]; rfl, fun c hc => ?_⟩
    rcases List.mem_cons.mp hc with e | e
    · rw [e]; exact h
    · exact e3 c e
theorem reps_of {F : Hp} : ∀ {cs : List (V × D)}, (∀ c ∈ cs, Rep K F c.1 c.2) → Reps K F (cs.map (·.1)) (cs.map (·.2))
  | [], _ => .nil
  | c :: cs, h => .cons (h c List.mem_cons_self) (reps_of fun d hd => h d (List.mem_cons_of_mem _ hd))
theorem reps_sorted {F : Hp} {cs : List (V × D)} (h : ∀ c ∈ cs, Rep K F c.1 c.2) : Reps K F ((srtP (cs.map fun c => (c.1, c.2.py))).map (·.1)) (sortD (cs.map (·.2))) := by
  have e1 : (srtP (cs.map fun c => (c.1, c.2.py))) = (cs.mergeSort fun a b => PySem.W.dataLe false D.py a.2 b.2).map fun c => (c.1, c.2.py) := by
    rw [List.map_mergeSort (s := PySem.W.dataLe false (·.2))]
    intro a _ b _; rfl
  have e2 : sortD (cs.map (·.2)) = (cs.mergeSort fun a b => PySem.W.dataLe false D.py a.2 b.2).map (·.2) := by
    unfold sortD
    rw [List.map_mergeSort (s := PySem.W.dataLe false D.py)]
    intro a _ b _; rfl
  rw [e1, e2, List.map_map]
  exact reps_of fun c hc => h c ((List.mergeSort_perm _ _).mem_iff.mp hc)
theorem pys_map : ∀ ds : List D, D.pys ds = ds.map D.py
  | [] => rfl
  | d :: ds => by rw [D.pys, pys_map ds]; rfl
theorem pls_mem : ∀ {ds : List D}, D.pls ds = true → ∀ d ∈ ds, d.pl = true
  | d :: ds, h, e, he => by
    have p := Bool.and_eq_true_iff.mp h
    rcases List.mem_cons.mp he with z | z
    · rw [z]; exact p.1
    · exact pls_mem p.2 e z
theorem evl_sortL (h : EvSL K te ρ ds) (hp : D.pls ds = true) (so : SortOk (ds.map D.py)) : EvL K (tCB (rSortA K) (tCons te tNil)) ρ (sortD ds) := evl_cbSL h fun F H e p vs s r Q q => by
  obtain ⟨cs, e1, e2, e3⟩ := reps_zip r
  subst e1; subst e2
  refine ⟨p, cs.map fun c => (c.1, c.2.py), rfl, by rw [List.map_map]; exact s, fun b hb => ?_, by rw [List.map_map]; rw [List.map_map] at so; exact so, fun l hl => ?_⟩
  · obtain ⟨c, hc, rfl⟩ := List.mem_map.mp hb
    exact Dp.up e ((e3 c hc).dp (pls_mem hp _ (List.mem_map_of_mem hc)))
  · exact q l _ F _ (.own e hl) hl (e.back hl) upd_same (reps_sorted e3)
theorem py_kD (k : Key) : (kD k).py = keyPy k := by cases k <;> rfl
theorem py_kT (k : List Key) : (D.tup (k.map kD)).py = .tuple (k.map keyPy) := by
  show PyData.tuple (D.pys (k.map kD)) = _
  rw [pys_map, List.map_map]
  congr 1
  exact List.map_congr_left fun a _ => py_kD a
theorem evl_sortT {kvs : List (List Key × D)} (h : EvDT K te ρ kvs) (so : SortOk (kvs.map fun kv => PyData.tuple (kv.1.map keyPy))) : EvL K (tCB rSortT (tCons te tNil)) ρ (sortD (kvs.map fun kv => .tup (kv.1.map kD))) := fun F0 H0 F H σ R Q q =>
  h F0 H0 F H σ R _ fun a ws F1 H1 g1 s1 r1 => by
    have ek := r1.keys
    have e0 : (ws.map fun kv => PyData.tuple (kv.1.map keyPy)) = kvs.map fun kv => PyData.tuple (kv.1.map keyPy) := by
      have : (ws.map (·.1)).map (fun k => PyData.tuple (List.map keyPy k)) = (kvs.map (·.1)).map (fun k => PyData.tuple (List.map keyPy k)) := by rw [ek]
      rw [List.map_map, List.map_map] at this; exact this
    refine ⟨a, ws, rfl, s1, by rw [e0]; exact so, fun p bs hp hb hk => ?_⟩
    rw [e0] at hb
    have mk : ∀ bs : List (V × PyData), (∀ b ∈ bs, ∃ (q : Addr) (k : List Key), b.1 = V.ref q ∧ H1 q = some (.tup (k.map kV)) ∧ b.2 = PyData.tuple (k.map keyPy)) → ∃ ps : List (Addr × List Key), bs = ps.map (fun p => (V.ref p.1, PyData.tuple (p.2.map keyPy))) ∧ ∀ p ∈ ps, H1 p.1 = some (.tup (p.2.map kV)) := by
      intro bs
      induction bs with
      | nil => intro _; exact ⟨[], rfl, fun _ z => nomatch z⟩
      | cons b bs ih =>
        intro h
        obtain ⟨ps, e1, e2⟩ := ih fun c hc => h c (List.mem_cons_of_mem _ hc)
        obtain ⟨q, k, e3, e4, e5⟩ := h b List.mem_cons_self
        refine ⟨(q, k) :: ps, by rw [e1, List.map_cons, ← e3, ← e5], fun p hp => ?_⟩
        rcases List.mem_cons.mp hp with z | z
        · rw [z]; exact e4
        · exact e2 p z
    obtain ⟨ps, e1, e2⟩ := mk bs hk
    obtain ⟨F2, g2, r2⟩ := keys_known (K := K) g1.s (ws := ws) (f := id) (bs := ps) e2
    have inj : ∀ {k l : List Key}, k.map keyPy = l.map keyPy → k = l := fun {k l} h => by
      refine (List.map_inj_right (fun a b e => ?_)).mp h
      cases a <;> cases b <;> first | (injection e with e; rw [e]) | cases e
    have e4 : (kvs.map fun kv => D.tup (kv.1.map kD)) = ps.map fun b => D.tup (b.2.map kD) := by
      rw [e1, List.map_map] at hb
      have k1 : ps.map (·.2) = kvs.map (·.1) := by
        refine (List.map_inj_right (f := fun k : List Key => PyData.tuple (k.map keyPy)) (fun a b e => ?_)).mp (by rw [List.map_map, List.map_map]; exact hb)
        injection e with e
        exact inj e
      have : (kvs.map (·.1)).map (fun k => D.tup (List.map kD k)) = (ps.map (·.2)).map (fun k => D.tup (List.map kD k)) := by rw [k1]
      rw [List.map_map, List.map_map] at this; exact this
    have g3 := g1.trans g2
    refine q p _ F2 _ (g3.trans (.own g2.s hp)) (g1.h.back hp) (g2.s.back hp) upd_same ?_
    rw [e4, e1]
    have e5 : (ps.map fun p => (V.ref p.1, PyData.tuple (p.2.map keyPy))) = (ps.map fun p => (V.ref p.1, D.tup (p.2.map kD))).map fun c => (c.1, c.2.py) := by
      rw [List.map_map]
      refine List.map_congr_left fun a _ => ?_
      show _ = (V.ref a.1, (D.tup (a.2.map kD)).py)
      rw [py_kT]
    have e6 : (ps.map fun b => D.tup (b.2.map kD)) = (ps.map fun p => (V.ref p.1, D.tup (p.2.map kD))).map (·.2) := by rw [List.map_map]; rfl
    rw [e5, e6]
    refine reps_sorted fun c hc => ?_
    obtain ⟨p, hp, rfl⟩ := List.mem_map.mp hc
    exact (let rec go : ∀ {ps : List (Addr × List Key)}, Reps K F2 (ps.map fun b => V.ref (id b.1)) (ps.map fun b => D.tup (b.2.map kD)) → p ∈ ps → Rep K F2 (V.ref p.1) (D.tup (p.2.map kD))
      | [], _, z => nomatch z
      | a :: ps, .cons h r, z => by
        rcases List.mem_cons.mp z with e | e
        · rw [e]; exact h
        · exact go r e
      go r2 hp)
/-! ### join, max, a display -/
theorem ev_join {s : Str} {ss : List Str} (ha : EvD K ta ρ (.str s)) (hb : EvSL K tb ρ (ss.map D.str)) (hl : (ss.map (·.length)).sum + ss.length * s.length ≤ 16777216) :
    EvD K (tM1 (fun x xs H Q => ∃ a p, ∃ ys : List Str, x = .str a ∧ xs = [.ref p] ∧ (SqL K H p (ys.map V.str) ∨ SqT K H p (ys.map V.str)) ∧ (ys.map (·.length)).sum + ys.length * a.length ≤ 16777216 ∧ Q (.str (Txt.join a ys)) H) ta tb) ρ (.str (Txt.join s ss)) := fun F0 H0 F H σ R Q q =>
  ha F0 H0 F H σ R _ fun v F1 H1 g1 r1 => by
    cases r1
    refine ⟨⟨s, rfl⟩, hb F0 H0 F1 H1 σ (R.grow g1) _ fun p vs F2 H2 g2 s2 r2 => ?_⟩
    have e := r2.strs_inv
    subst e
    exact ⟨s, p, ss, rfl, rfl, .inl s2, hl, q _ F2 H2 (g1.trans g2) (.str _)⟩
theorem ev_maxL {ns : List Int} {m : Int} (h : EvSL K te ρ (ns.map D.int)) (hm : m ∈ ns) (hy : ∀ y ∈ ns, y ≤ m) : EvD K (tCB (rMax K) (tCons te tNil)) ρ (.int m) := ev_cbSL h fun F H e p vs s r Q q => by
  have e1 := r.ints_inv
  subst e1
  refine ⟨p, ns, rfl, s, List.length_pos_of_mem hm, fun m' h1 h2 => ?_⟩
  have a := hy m' h1
  have b := h2 m hm
  have : m' = m := by omega
  subst this
  exact q _ F H (.refl e) (.int _)
theorem sv_asgDisp1T {s : Nat} {k : List Key} (hk : EvD K ta (ρ) (.tup (k.map kD))) (hv : EvD K tb ρ d) : SvD K W (tAsg (tDisp1T ta tb) (gName s)) ρ (.nx (ρ.set s (.ot [(k, d)]))) := fun E F0 H0 F H σ R P => fun p hp => by
  have g0 : Gr F H F (upd H p (.dT [])) := .own R.ex hp
  have fp : F p = none := R.ex.back hp
  refine hk F0 H0 F _ σ (R.grow g0) _ fun x F1 H1 g1 r1 => hv F0 H0 F1 H1 σ (R.grow (g0.trans g1)) _ fun y F2 H2 g2 r2 => ?_
  obtain ⟨b, rfl, hb⟩ := rep_kT r1
  have gA := (g0.trans g1).trans g2
  have h2 : H2 p = some (.dT []) := (g1.trans g2).h _ _ upd_same
  have f2 : F2 p = none := (g1.trans g2).n p _ upd_same rfl fp
  have hp0 : H0 p = none := R.gr.h.back hp
  have RA := R.grow gA
  refine ⟨b, k, rfl, gA.s _ _ (g2.f _ _ hb), h2, ?_⟩
  refine P _ F2 _ gA.f ((RA.side hp0 f2 fun j y h3 h4 h5 => ?_).setOwn s rfl ⟨hp0, f2, [(k, y)], upd_same, by simp, .cons r2 .nil⟩ fun j y h3 h4 _ h5 => ?_)
  · exact (R.fresh hp j y h3 h4) h5
  · exact (R.fresh hp j y h3 h4) h5
end
end DL
namespace DL
open PySem L2
/-- sep.join(xs) -/
abbrev tJoin (K : PySem.W.Frag) (to te : TE) : TE := tM1 (fun x xs H Q => ∃ a p, ∃ ys : List Str, x = .str a ∧ xs = [.ref p] ∧ (SqL K H p (ys.map V.str) ∨ SqT K H p (ys.map V.str)) ∧ (ys.map (·.length)).sum + ys.length * a.length ≤ 16777216 ∧ Q (.str (Txt.join a ys)) H) to te
end DL
set_option Elab.async false
set_option linter.all false
set_option maxRecDepth 100000
set_option maxHeartbeats 2000000
/-! Sets of texts that are made by a comprehension and sorted. -/
namespace DL
open PySem PySem.Spec PyProof.Rows L2 PySem.Froz
/-- the set at a holds the texts l; its table rises and can be walked -/
structure STx (P : Program) (w : World) (a : Addr) (l : List Str) (h : Heap) : Prop where
  ob : ∃ D : SD, h.get? a = some (sObj "set" D) ∧ TxOk P w D l ∧ Ris D.2.2.place.toList ∧ (w.params.followText "set-order" = true ∨ D.2.2.led = true)
  nd : l.Nodup
  sz : l.length < scanBound
section
variable {P : Program} {w : World} {A : Around} {E : Value → Shared → Prop} {s : Shared} {a : Addr} {l : List Str}
theorem STx.keep {h h' : Heap} (R : STx P w a l h) (k : ∀ o, h.get? a = some o → h'.get? a = some o) : STx P w a l h' := by
  obtain ⟨⟨D, h1, h2⟩, nd, z⟩ := R
  exact ⟨⟨D, k _ h1, h2⟩, nd, z⟩
theorem ris_tail {ep : Nat} {es1 : Array (Int × Value)} {t2 : SetTable} {b : Bool} (h : Ris t2.place.toList) : Ris (tailTx ep es1 t2 b).2.2.place.toList := by
  unfold tailTx
  split
  · exact relayAll_ris _ _ _
  · exact h
theorem led_tail {ep : Nat} {es1 : Array (Int × Value)} {t2 : SetTable} {b : Bool} : (tailTx ep es1 t2 b).2.2.led = t2.led := by
  unfold tailTx
  split
  · exact relayAll_led _ _ _
  · rfl
theorem ris_add {h : Int} {v : Value} {D : SD} (r : Ris D.2.2.place.toList) : Ris (addTx h v D).2.2.place.toList := by
  unfold addTx
  refine ris_tail ?_
  have q := layNew_ris D.2.2 D.1 h v r
  split <;> exact q
theorem led_add {h : Int} {v : Value} {D : SD} : (addTx h v D).2.2.led = D.2.2.led := by
  unfold addTx
  rw [led_tail]
  have q := layNew_led D.2.2 D.1 h v
  split <;> exact q
/-- a text that is there already -/
theorem there_x {D : SD} {k : Str} {u : Tok} {Q : Bool → Shared → Prop} (ho : s.heap.get? a = some (sObj "set" D)) (F : TxOk P w D l) (hk : k ∈ l) (hb : l.length < scanBound) (h : Q false s) : wpAny (model P w) A (setAddHashed a (.str k u) (hashStr w k)) Q E s := by
  obtain ⟨els, ep, tb⟩ := D
  have hel : ElemsOf (strKind P w) els.toList := F.el
  have hb0 : els.size < scanBound := by have := F.sz; simp only at this; omega
  have hkey : (strKind P w).is k (.str k u) = true := is_str k u
  unfold setAddHashed setAddHashedIn
  refine wpAny_holding (wpAny_bind (wpAny_setState_of ho rfl F.fit ?_))
  dsimp only
  rw [byScan_of rfl hb0 hel]
  simp only [↓reduceIte]
  unfold setAddByScan
  refine wpAny_bind (wpAny_bind (wpAny_rule (wpAny_bind (wpAny_setScan_of (knd := strKind P w) (k := k) hkey ho rfl F.fit hel ?_))))
  cases hfi : List.findIdx? (fun e => (strKind P w).is k e.2) els.toList with
  | some j => exact wpAny_pure (wpAny_pure h)
  | none =>
    obtain ⟨e, he, q⟩ := (F.mem k).mp hk
    have c := List.findIdx?_eq_none_iff.mp hfi e he
    rw [q] at c; cases c
theorem stx_add {k : Str} {u : Tok} {Q : Value → Shared → Prop} (R : STx P w a l s.heap) (room : l.length + 1 < scanBound)
    (hQ : ∀ h', Heap.SameBut a s.heap h' → STx P w a (if k ∈ l then l else k :: l) h' → Q .none { s with heap := h', toks := s.toks + 1 }) : wpAny (model P w) A (call (.builtin "set.add") [.ref a, .str k u]) Q E s := by
  have R0 := R
  obtain ⟨⟨D, ho, F, hr, hl⟩, nd, hz⟩ := R
  refine wpAny_call_entry PySem.F.slot_set_add ⟨_, ho, rfl⟩ PySem.F.entry_set_add ?_ (PySem.F.args_set_add_2 _ _)
  unfold Builtin.«set.add» Builtin.Frozenset.oneOther
  simp only [List.isEmpty_nil, bind_assoc]
  unfold Builtin.Frozenset.addrOf setAdd
  refine wpAny_bind (wpAny_pure ?_)
  try dsimp only
  refine wpAny_bind (wpAny_pure ?_)
  try dsimp only
  refine wpAny_bind (wpAny_holding (wpAny_bind ((strKind P w).pyHash (is_str k u) ?_)))
  by_cases hk : k ∈ l
  · rw [if_pos hk] at hQ
    refine there_x (s := { s with toks := s.toks + 1 }) ho F hk hz ?_
    show wpAny _ _ (ret Value.none) _ _ _
    exact wpAny_pure ⟨_, rfl, hQ s.heap (Heap.SameBut.refl a s.heap) R0⟩
  · rw [if_neg hk] at hQ
    refine add_x (s := { s with toks := s.toks + 1 }) ho F hk room ?_
    show wpAny _ _ (ret Value.none) _ _ _
    refine wpAny_pure ⟨_, rfl, hQ _ (Heap.SameBut.update s.heap a _) ⟨⟨_, get_upd _ ho rfl, add_ok u F, ris_add hr, hl.imp id fun z => by rw [led_add]; exact z⟩, List.nodup_cons.mpr ⟨hk, nd⟩, by rw [List.length_cons]; exact room⟩⟩
theorem stx_new (w : World) (h : Heap) : STx P w h.objs.size [] (h.push { cls := .type "set", dict := none, data := .set #[] 0 (.fresh 0 0 (!w.params.followText "set-order")) }) :=
  ⟨⟨(#[], 0, .fresh 0 0 (!w.params.followText "set-order")), Heap.get?_push_size _ rfl, .nil rfl, List.Pairwise.nil, by
    show _ ∨ (!w.params.followText "set-order") = true
    cases w.params.followText "set-order"
    · exact .inr rfl
    · exact .inl rfl⟩, List.nodup_nil, by decide⟩
end
/-- .. as a tracked thing -/
def SetTO (P : Program) (w : World) (a : Addr) (l : List Str) : HO := .ext fun h => STx P w a l h
section
variable {X : Cx} {pins : List (Addr × Obj)} {σ : L2.St} {H : Hp} {s : Shared}
theorem stO_ok {P : Program} {w : World} {h : Heap} {a : Addr} {l : List Str} (R : STx P w a l h) : ObjOk P w H h a (SetTO P w a l) := by
  have ⟨⟨D, h1, _⟩, _, _⟩ := R
  exact ⟨R, ⟨_, h1⟩, fun _ _ p k => p.keep k⟩
theorem stO_at {a : Addr} {l : List Str} (I : Inv X pins σ H s) (ha : H a = some (SetTO X.prog X.w a l)) : STx X.prog X.w a l s.heap := (I.hok a _ ha).1
theorem stO_add {E : Value → Shared → Prop} {D : Addr} {l : List Str} {k : Str} {u : Tok} {Q : Value → Shared → Prop} (I : Inv X pins σ H s) (hD : H D = some (SetTO X.prog X.w D l)) (room : l.length + 1 < scanBound)
    (h : ∀ s', Inv X pins σ (upd H D (SetTO X.prog X.w D (if k ∈ l then l else k :: l))) s' → Q .none s') : wpAny (model X.prog X.w) X.A (call (.builtin "set.add") [.ref D, .str k u]) Q E s :=
  stx_add (stO_at I hD) room fun h' sb new => by
    have ⟨⟨D', h1, _⟩, _, _⟩ := new
    exact h _ (I.write (e := D) (t' := s.toks + 1) (by rw [hD]; trivial) (.inl rfl) (fun b u hb hu => (sb.2 b hb).trans hu) ⟨_, h1⟩ (stO_ok new))
/-- {elt for target in iter}, elt a text -/
def tScT (P : Program) (w : World) (wi : TI) (g : TG) (te : TE) (vs : List Nat) : TE := fun σ H Q => wi σ H fun J H1 => ∀ D, H1 D = none → ∃ Z : Nat → Nat → Hp → Prop, (∃ m, Z 0 m (upd H1 D (SetTO P w D []))) ∧ ∀ i m H, Z i m H →
  (J.stop i H ∧ Q (.ref D) H) ∨ (J.go i H ∧ ∃ Nx : Hp → Prop, (∀ H', Nx H' → ∃ m', m' < m ∧ Z (i + 1) m' H') ∧ ∀ x H', J.yld i H x H' → g x (wipe σ vs) H' fun σ2 H2 => wipe σ2 vs = wipe σ vs ∧
    te σ2 H2 fun y H4 => ∃ (k : Str) (l : List Str), y = .str k ∧ H4 D = some (SetTO P w D l) ∧ l.length + 1 < scanBound ∧ Nx (upd H4 D (SetTO P w D (if k ∈ l then l else k :: l))))
theorem pe_scT {elt tg iter : Expr} {scope : Scope} {own : List (PySem.Str × Nat)} {pos : Pos} {wi : TI} {g : TG} {te : TE} (hc : X.calm = true) (hN : X.N.Nodup) (hi : PI X tg iter wi) (ok : BlkOk X.N X.env.scope scope own)
    (hg : ∀ (s : Shared) (H : Hp) (C : Addr) (cl : List (PySem.Str × Addr)) (fp : List Addr), PG (X.blk s H scope (compEnvC scope cl C X.env) fp) tg g)
    (he : ∀ (s : Shared) (H : Hp) (C : Addr) (cl : List (PySem.Str × Addr)) (fp : List Addr), PE (X.blk s H scope (compEnvC scope cl C X.env) fp) elt te) (hs : ∀ x, foldedSetIterable iter X.env x = pure x := by intro _; rfl) :
    PE X (.SetComp elt [⟨tg, iter, [], 0⟩] scope pos) (tScT X.prog X.w wi g te (own.map (·.2))) := by
  refine ⟨fun pins s σ H Q I h => ?_⟩
  rw [PpSet.eval_SetComp]
  have free : ∀ y ∈ scope.names, y.2 = .free → ∃ c, X.env.cells.lookup y.1 = some c := fun y hy e => (ok.free y hy e).elim (fun k => I.ok.has _ (.inl k)) fun k => I.ok.has _ (.inr k)
  refine wpAny_comprehension_free (use := none) rfl hs (closure_ok free) ok.kind (fun y hy e => by rw [ok.uniq y hy, e]) (thn (hi.run pins s σ H _ I h) fun xv s1 hx => thn hx fun itv s2 h2 => ?_)
  obtain ⟨it, fp, tn, J, H2, rfl, I2, T, st2, f2, q⟩ := h2
  refine PpSet.newSet_ok (newEnv_comp ?_)
  obtain ⟨D, hD⟩ : ∃ D, D = s2.heap.objs.size := ⟨_, rfl⟩
  rw [← hD]
  have free2 : H2 D = none := I2.hok.fresh (Nat.le_of_eq hD.symm)
  obtain ⟨Z, ⟨m0, z0⟩, turn⟩ := q D free2
  obtain ⟨s3, hs3⟩ : ∃ s3 : Shared, s3 = { s2 with heap := s2.heap.push { cls := .type "set", dict := none, data := .set #[] 0 (.fresh 0 0 (!X.w.params.followText "set-order")) } } := ⟨_, rfl⟩
  have e3 : s3.heap = s2.heap.push { cls := .type "set", dict := none, data := .set #[] 0 (.fresh 0 0 (!X.w.params.followText "set-order")) } := by rw [hs3]
  have I3 : Inv X pins σ (upd H2 D (SetTO X.prog X.w D [])) s3 := by
    rw [hs3]
    refine I2.laid (t' := s2.toks) (fun b o e => Heap.get?_push_of_some _ e) (Nat.le_of_eq hD.symm) ?_
    rw [hD]
    exact stO_ok (stx_new X.w s2.heap)
  have small : ∀ b ∈ fp, b < s2.heap.objs.size := fun b hb => (T.obj _ _ st2 b hb).elim fun o e => Heap.lt_size e.1
  have f3 : ∀ b ∈ fp, FpOk X pins (upd H2 D (SetTO X.prog X.w D [])) b ∧ b < s3.heap.objs.size := fun b hb => by
    have lt := small b hb
    exact ⟨⟨by rw [upd_ne (by rw [hD]; exact Nat.ne_of_lt lt)]; exact (f2 b hb).1, (f2 b hb).2⟩, by rw [e3, Heap.size_push]; exact Nat.lt_succ_of_lt lt⟩
  have st3 : tn 0 s3.heap := T.keep _ _ _ st2 fun b _ o e => by rw [e3]; exact Heap.get?_push_of_some _ e
  have I4 := block_start I3 ok hN f3
  rw [← hs3]
  have pg := hg s3 (upd H2 D (SetTO X.prog X.w D [])) s3.heap.objs.size (cellsFrom (s3.heap.objs.size + 1) scope.names (cloFrom X.env.cells scope.names [])) fp
  have pe := he s3 (upd H2 D (SetTO X.prog X.w D [])) s3.heap.objs.size (cellsFrom (s3.heap.objs.size + 1) scope.names (cloFrom X.env.cells scope.names [])) fp
  show codeAny _ _ (.compStart (.SetComp elt [⟨tg, iter, [], 0⟩] scope pos) 0 (.ref it) (.ref D) (compEnvC scope (cellsFrom (s3.heap.objs.size + 1) scope.names (cloFrom X.env.cells scope.names [])) s3.heap.objs.size X.env)) (compPost (model X.prog X.w) X.A X.xe none _ (.ref D) s3.heap.objs.size) { s3 with heap := pushCells (s3.heap.push { cls := .type "dict", data := .dict #[] }) scope.names }
  have nfp : ∀ b ∈ fp, (upd H2 D (SetTO X.prog X.w D [])) b = none := fun b hb => (f3 b hb).1.1
  obtain ⟨ce, hce⟩ : ∃ ce, ce = compEnvC scope (cellsFrom (s3.heap.objs.size + 1) scope.names (cloFrom X.env.cells scope.names [])) s3.heap.objs.size X.env := ⟨_, rfl⟩
  rw [← hce] at I4 pg pe ⊢
  have cL : ce.locals = s3.heap.objs.size := by rw [hce]; rfl
  obtain ⟨H3, hH3⟩ : ∃ H3, H3 = upd H2 D (SetTO X.prog X.w D []) := ⟨_, rfl⟩
  rw [← hH3] at I3 I4 pg pe z0 nfp f3
  obtain ⟨s4, hs4⟩ : ∃ s4 : Shared, s4 = { s3 with heap := pushCells (s3.heap.push { cls := .type "dict", data := .dict #[] }) scope.names } := ⟨_, rfl⟩
  rw [← hs4] at I4 ⊢
  have st4 : tn 0 s4.heap := T.keep _ _ _ st3 fun b _ o e => by rw [hs4]; exact pushCells_keeps _ _ _ _ (Heap.get?_push_of_some _ e)
  have stay : ∀ {σ' : L2.St} {H' : Hp} {s' : Shared}, Inv (X.blk s3 H3 scope ce fp) [] σ' H' s' → (∀ b ∈ fp, H' b = none) → ∀ b ∈ fp, FpOk (X.blk s3 H3 scope ce fp) [] H' b := fun {σ' H' s'} I' hn b hb =>
    ⟨hn b hb, (I'.ok.exf b hb).1, I'.ok.exfs b hb, .inl hb, fun x c e => (I'.ok.exf b hb).2 x c e, fun p hp => nomatch (show p ∈ ([] : List (Addr × Obj)) from hp)⟩
  refine PpSet.codeAny_compStart_set ?_ (T.self X.A 0 _ _ _ st4 ?_)
  all_goals
    refine PpSet.compLoopS_any (fun n s' => ∃ i H', Inv (X.blk s3 H3 scope ce fp) [] (wipe σ (own.map (·.2))) H' s' ∧ tn i s'.heap ∧ (∀ b ∈ fp, H' b = none) ∧ Z i n H') ?_ m0 ⟨0, H3, I4, st4, nfp, z0⟩
    rintro n s5 ⟨i, H5, I5, st5, n5, z5⟩
    rcases turn i n H5 z5 with ⟨stop, fin⟩ | ⟨go, Nx, hNx, step⟩
    · refine thnF (T.done (X.blk s3 H3 scope ce fp) rfl rfl rfl hc i [] s5 _ H5 (fun _ _ => False) I5 (stay I5 n5) st5 stop) fun r s6 ⟨hr, I6⟩ => ?_
      subst hr
      have I7 : Inv X pins σ H5 s6 := I3.call' (ch := fp) I6.os I6.base I6.hok I6.bare fun b hb => ⟨(f3 b hb).1.2.2.2.1, (f3 b hb).1.2.1, (f3 b hb).1.2.2.2.2.1, (f3 b hb).1.2.2.2.2.2⟩
      have nC : H5 s3.heap.objs.size = none := by
        have z : H5 ce.locals = none := I6.free
        rwa [cL] at z
      obtain ⟨m, hm, _⟩ := I6.loc
      have hm : s6.heap.Ns ce.locals m := hm
      rw [cL] at hm
      refine ⟨m, hm, fun h'' sb => ?_⟩
      obtain ⟨p0, p1, p2, p3, p4, p5⟩ := I3.fpOk (Nat.le_refl _) nC
      exact ⟨.ref D, H5, I7.turned (t' := s6.toks) (fun b o hb e => (sb.2 b hb).trans e) p0 p1 p3 p4 p5, rfl, fin⟩
    · refine thnF (T.item (X.blk s3 H3 scope ce fp) rfl rfl rfl hc i [] s5 _ H5 (fun _ _ => False) I5 (stay I5 n5) st5 go) fun r s6 ⟨u, hr, h6⟩ => ?_
      subst hr
      refine thnF h6 fun _ s7 ⟨x, H7, I7, r7, y7, st7, n7⟩ => ?_
      have J7 := I7.pinned (stay I7 n7) (T.obj _ _ st7)
      refine thnF (pg.run _ s7 _ H7 x u _ J7 r7 (step x H7 y7)) fun _ s8 ⟨σ8, H8, I8, w8, q8⟩ => ?_
      show wpAny _ _ (pure true) _ _ s8
      refine wpAny_pure ?_
      simp only [if_true]
      refine thnF (pe.run _ s8 σ8 H8 _ I8 q8) fun v s10 ⟨yv, H10, I10, r10, k, l, ey, hl, room, nx⟩ => ?_
      subst ey
      obtain ⟨tk, rfl⟩ := (show ∃ t, v = Value.str k t from r10)
      refine stO_add (X := X.blk s3 H3 scope ce fp) I10 hl room fun s11 I11 => ?_
      obtain ⟨m', hm, z'⟩ := hNx _ nx
      have pin : ∀ b ∈ fp, ∀ o, s7.heap.get? b = some o → s11.heap.get? b = some o ∧ (upd H10 D (SetTO X.prog X.w D (if k ∈ l then l else k :: l))) b = none := fun b hb o e =>
        have z := I11.pin (b, o) (List.mem_append_right _ (List.mem_append_right _ (mem_pinsAt hb e)))
        ⟨z.1, z.2.1⟩
      have hlen : (wipe σ (own.map (·.2))).length = σ8.length := by rw [← w8, wipe_length]
      refine ⟨m', hm, i + 1, _, (I11.unpinned (pins := [])).weak hlen (fun j v e => ?_), T.keep _ _ _ st7 fun b hb o e => (pin b hb o e).1, fun b hb => ?_, z'⟩
      · rw [← w8] at e
        exact (wipe_some e).1
      · obtain ⟨o, e, _⟩ := T.obj _ _ st7 b hb
        exact (pin b hb o e).2
end
end DL
set_option Elab.async false
set_option linter.all false
set_option maxRecDepth 100000
set_option maxHeartbeats 2000000
/-! sorted of a set of texts; a set comprehension over plain data. -/
namespace DL
open PySem PySem.Spec PyProof.Rows L2 PySem.Froz
def leX (a b : Str) : Bool := decide (a.cps.toList ≤ b.cps.toList)
def rSortTx (P : Program) (w : World) : List V → Hp → VK → Prop := fun xs H Q => ∃ (a : Addr) (l : List Str), xs = [.ref a] ∧ H a = some (SetTO P w a l) ∧ ∀ (p : Addr) (ss : List Str), H p = none → ss.Perm l → ss.Pairwise (fun a b => leX a b = true) → Q (.ref p) (upd H p (.lst (ss.map V.str)))
def txOf : Value → Str
  | .str x _ => x
  | _ => Str.empty
section
variable {X : Cx}
theorem perm_sub {α : Type} [DecidableEq α] : ∀ (l m : List α), l.Nodup → (∀ a ∈ l, a ∈ m) → m.length = l.length → m.Perm l
  | [], m, _, _, h => by rw [List.eq_nil_of_length_eq_zero h]
  | a :: l, m, nd, h, e => by
    obtain ⟨n1, n2⟩ := List.nodup_cons.mp nd
    have ha := h a List.mem_cons_self
    refine (List.perm_cons_erase ha).trans (List.Perm.cons a (perm_sub l (m.erase a) n2 (fun b hb => (List.mem_erase_of_ne (fun e => n1 (by rw [← e]; exact hb))).mpr (h b (List.mem_cons_of_mem _ hb))) ?_))
    rw [List.length_erase_of_mem ha, e, List.length_cons]; rfl
theorem leX_trans (a b c : Str) (h1 : leX a b = true) (h2 : leX b c = true) : leX a c = true := by
  unfold leX at *
  simp only [decide_eq_true_eq] at *
  exact List.le_trans h1 h2
theorem leX_total (a b : Str) : (leX a b || leX b a) = true := by
  unfold leX
  rw [Bool.or_eq_true, decide_eq_true_eq, decide_eq_true_eq]
  exact List.le_total _ _
theorem cr_sortTx (hc : X.calm = true) (hu : X.A.units + 64 < cLine) : CallR X (.builtin "sorted") (rSortTx X.prog X.w) := by
  intro pins s σ H xs us Q I r h
  obtain ⟨a, l, rfl, ha, q⟩ := h
  obtain ⟨u, rfl, rx⟩ := r.one
  cases rx
  obtain ⟨⟨D, ho, F, hr, hl⟩, nd, hz⟩ := stO_at I ha
  have hsz : D.1.size < scanBound := by have := F.sz; omega
  refine Calls.call_function_entry kind_sorted plain_sorted entry_sorted (args_sorted1 _) ?_
  unfold Builtin.«sorted»
  refine wpAny_bind (m := checkCount "sorted" 1 1 _) (wpAny_pure ?_)
  refine wpAny_bind (collect_set (A := X.A.in1) (I.ok.hd hc) ⟨_, ho, rfl, rfl⟩ F.fit hsz hr hl fun s1 vs k1 hs1 g1 o1 pm => ?_)
  have I1 : Inv X pins σ H s1 := I.call' (ch := []) o1 (Un.kept k1) (I.hok.kept k1) (by rw [g1]; exact I.bare) (fun _ z => nomatch z)
  -- the values are texts, as many as l, none twice
  have shape : ∀ v ∈ vs, ∃ k t, v = Value.str k t ∧ k ∈ l := fun v hv => by
    obtain ⟨e, he, rfl⟩ := List.mem_map.mp (pm.mem_iff.mp hv)
    obtain ⟨⟨k, hk, _⟩, _⟩ := F.el e he
    obtain ⟨t, ht⟩ := Value.isStrOf_shape (x := k) (v := e.2) hk
    exact ⟨k, t, ht, (F.mem k).mpr ⟨e, he, hk⟩⟩
  have hlen : vs.length = l.length := by rw [pm.length_eq, List.length_map, Array.length_toList, F.sz]
  have sub : ∀ k ∈ l, k ∈ vs.map txOf := fun k hk => by
    obtain ⟨e, he, q⟩ := (F.mem k).mp hk
    obtain ⟨t, ht⟩ := Value.isStrOf_shape (x := k) (v := e.2) q
    exact List.mem_map.mpr ⟨e.2, pm.mem_iff.mpr (List.mem_map_of_mem he), by rw [ht]; rfl⟩
  have perm : (vs.map txOf).Perm l := perm_sub l (vs.map txOf) nd sub (by rw [List.length_map, hlen])
  have rv : Vals (((vs.map txOf).map fun t => (V.str t, PyData.str t)).map (·.1)) vs := by
    rw [List.map_map, List.map_map]
    have go : ∀ us : List Value, (∀ v ∈ us, ∃ k t, v = Value.str k t ∧ k ∈ l) → Vals (us.map fun v => V.str (txOf v)) us := by
      intro us
      induction us with
      | nil => intro _; exact .nil
      | cons v us ih =>
        intro h
        obtain ⟨k, t, e, _⟩ := h v List.mem_cons_self
        refine .cons ?_ (ih fun x hx => h x (List.mem_cons_of_mem _ hx))
        rw [e]; exact ⟨t, rfl⟩
    exact go vs shape
  have so : SortOk (((vs.map txOf).map fun t => (V.str t, PyData.str t)).map (·.2)) := by
    rw [List.map_map]
    refine ⟨fun d hd e he => ?_, .inr fun d hd => ?_, fun d hd => ?_, ?_⟩
    · obtain ⟨x, _, rfl⟩ := List.mem_map.mp hd
      obtain ⟨y, _, rfl⟩ := List.mem_map.mp he
      rfl
    · obtain ⟨x, _, rfl⟩ := List.mem_map.mp hd
      exact ⟨(fun z => nomatch z), fun xs z => nomatch z⟩
    · obtain ⟨x, _, rfl⟩ := List.mem_map.mp hd
      show (PyData.str x).depth ≤ 8
      simp [PyData.depth]
    · rw [List.length_map, List.length_map, hlen]
      have : scanBound = 4096 := rfl
      omega
  refine wpAny_bind (wpAny_newList ?_ (by rw [hlen]; exact fits_of_scanBound hz))
  have tail := sort_tail (X := X) (pins := pins) (σ := σ) (s := s1) (h' := s1.heap) (tk := s1.toks) (Q := Q) (R := fun _ s' => EP X pins σ Q (.ref s1.heap.objs.size) s') hu I1 rv (fun b hb => by
    obtain ⟨t, _, rfl⟩ := List.mem_map.mp hb
    exact .str t) so (fun b hb => by
    obtain ⟨t, _, rfl⟩ := List.mem_map.mp hb
    exact noL_key (.inr t)) (fun p hp => by
    have e1 : (srtP ((vs.map txOf).map fun t => (V.str t, PyData.str t))).map (·.1) = ((vs.map txOf).mergeSort leX).map V.str := by
      have e2 : srtP ((vs.map txOf).map fun t => (V.str t, PyData.str t)) = ((vs.map txOf).mergeSort leX).map fun t => (V.str t, PyData.str t) := by
        rw [List.map_mergeSort (s := PySem.W.dataLe false (·.2))]
        intro a _ b _
        have := congrFun (congrFun (PySem.W.dataLe_str (fun t : Str => t)) a) b
        exact this.symm
      rw [e2, List.map_map]; rfl
    rw [e1]
    exact q p _ hp ((List.mergeSort_perm _ _).trans perm) (List.pairwise_mergeSort leX_trans leX_total _)) (fun s' h => h) (X.A.in1) (by show X.A.units + 1 ≤ _; omega)
  refine wpAny_bind (wpAny_holding (wpAny_mono tail (fun _ s' h => wpAny_pure ⟨_, rfl, h⟩) fun _ _ h => h))
end
section
variable {K : PySem.W.Frag} {W : WX} {ρ : List Sl} {te : TE} {ds : List D}
def insM (acc : List Str) (k : Str) : List Str := if k ∈ acc then acc else k :: acc
def setM (l : List Str) : List Str := l.foldl insM []
theorem setM_take {l : List Str} {i : Nat} {k : Str} (h : l[i]? = some k) : setM (l.take (i + 1)) = insM (setM (l.take i)) k := by
  unfold setM
  rw [List.take_add_one, List.foldl_append, h]; rfl
theorem evl_sortSet {P : Program} {w : World} {wi : TI} {g : TG} {vs : List Nat} {fs : D → Str} (hw : WiD K wi ρ ds) (hs : ∀ d ∈ ds, ∃ is ρ1, TgD K g is d (wipeS ρ vs) ρ1 ∧ (∀ j ∈ is, j ∈ vs) ∧ EvD K te ρ1 (.str (fs d))) (hb : ∀ i, (setM ((ds.map fs).take i)).length + 1 < scanBound)
    {ss : List Str} (hu : ∀ l : List Str, l.Perm (setM (ds.map fs)) → l.Pairwise (fun a b => leX a b = true) → l = ss) : EvL K (tCB (rSortTx P w) (tCons (tScT P w wi g te vs) tNil)) ρ (ss.map D.str) := fun F0 H0 F H σ R Q q =>
  hw F0 H0 F H σ R _ fun J A F1 H1 g1 src a1 => fun Dl hD => by
    have hD0 : H Dl = none := g1.h.back hD
    have hDF1 : F1 Dl = none := g1.s.back hD
    have hD00 : H0 Dl = none := R.gr.h.back hD0
    have Rw : RelS K F0 H0 F1 H1 (L2.wipe σ vs) (wipeS ρ vs) := (R.grow g1).wipe vs
    have fr := Rw.fresh hD
    refine ⟨fun i m H' => ∃ F', m = ds.length - i ∧ i ≤ ds.length ∧ Gr F H F' H' ∧ RelS K F0 H0 F' H' (L2.wipe σ vs) (wipeS ρ vs) ∧ Ex F1 F' ∧ F' Dl = none ∧ H' Dl = some (SetTO P w Dl (setM ((ds.map fs).take i))),
      ⟨ds.length, F1, rfl, Nat.zero_le _, g1.side hD0 hDF1, Rw.side hD00 hDF1 fr, Ex.refl F1, hDF1, upd_same⟩, ?_⟩
    rintro i m H' ⟨F', rfl, hi, g', R', ex, hDF, hDH⟩
    have a' := src.keep _ _ a1 ex
    by_cases hlt : i < ds.length
    · refine .inr ⟨src.go i F' H' hlt a' R'.ex, fun H2 => ∃ F2, Gr F H F2 H2 ∧ RelS K F0 H0 F2 H2 (L2.wipe σ vs) (wipeS ρ vs) ∧ Ex F1 F2 ∧ F2 Dl = none ∧ H2 Dl = some (SetTO P w Dl (setM ((ds.map fs).take (i + 1)))),
        fun H2 ⟨F2, x1, x2, x3, x4, x5⟩ => ⟨ds.length - (i + 1), by omega, F2, rfl, hlt, x1, x2, x3, x4, x5⟩, fun x H2 y => ?_⟩
      obtain ⟨d, hd⟩ : ∃ d, ds[i]? = some d := ⟨ds[i], List.getElem?_eq_getElem hlt⟩
      obtain ⟨F2, g2, rx⟩ := src.yld i F' H' x H2 d hd a' R'.ex y
      obtain ⟨is, ρ1, tg, sub, hy⟩ := hs d (List.mem_of_getElem? hd)
      refine tg.2 F0 H0 F2 H2 _ x (R'.grow g2) rx _ fun σ3 R3 l3 k3 => ⟨?_, ?_⟩
      · rw [wipe_same l3 k3 sub, wipe_wipe]
      · refine hy F0 H0 F2 H2 σ3 R3 _ fun v F4 H4 g4 r4 => ?_
        cases r4
        have gA := (g'.trans g2).trans g4
        have RA := (R'.grow g2).grow g4
        have nD4 : F4 Dl = none := g4.n _ _ (g2.h _ _ hDH) rfl (g2.n _ _ hDH rfl hDF)
        have hD4 : H4 Dl = some (SetTO P w Dl (setM ((ds.map fs).take i))) := g4.h _ _ (g2.h _ _ hDH)
        have hk : (ds.map fs)[i]? = some (fs d) := by rw [List.getElem?_map, hd]; rfl
        refine ⟨fs d, _, rfl, hD4, hb i, F4, gA.side hD0 nD4, RA.side hD00 nD4 fr, (ex.trans g2.f).trans g4.f, nD4, ?_⟩
        rw [upd_same, setM_take hk]; rfl
    · have e : i = ds.length := by omega
      subst e
      have ht : (ds.map fs).take ds.length = ds.map fs := by rw [← List.length_map (f := fs), List.take_length]
      rw [ht] at hDH
      refine .inl ⟨src.stop _ _ a' R'.ex, ⟨Dl, _, rfl, hDH, fun p l hp h1 h2 => ?_⟩⟩
      have e2 := hu l h1 h2
      subst e2
      exact q p _ F' _ (g'.trans (.own g'.s hp)) (g'.h.back hp) (g'.s.back hp) upd_same Reps.strs
end
end DL
set_option Elab.async false
set_option linter.all false
set_option maxRecDepth 100000
set_option maxHeartbeats 1000000
/-! Exceptions over plain data: raise of an own class without arguments, a call that raises, try .. except X as e. -/
namespace DL
open PySem PySem.Spec PyProof.Rows L2
section
variable {X : Cx} {C : Addr} {bmB : List Value} {B newId initId : String}
/-- X() -/
theorem pmk_none {x : Str} {p pos : Pos} (F : ExcBaseFacts B newId initId bmB) (q : PySem.W.excIn X.K C bmB newId = true) (gC : X.mg x = some (.ref C)) (kC : PySem.W.keepIn X.K (.ref C) = true) (r : Raises X (.ref C)) (hg : Gl X x)
    (hdb : (x == ("__debug__" : Str)) = false := by decide) : L2N.PMk X (.Call (.Name x p) [] [] pos) (fun _ H Q => Q (.ref C) none H) := by
  intro pins s σ H Q I h
  refine wpAny_Call_Name_kw (ld_glob I hg gC ?_ hdb)
  refine PySem.W.callWith_K0 I.kIn kC ?_
  show wpAny _ _ (call (.ref C) []) _ _ _
  obtain ⟨bm, N, nm, qn, bs, hdct, sn, sub, ab, col, dd, k0, k1, k2, k3, k5, mN, hC, hN, hni, T⟩ := exc_obj I.kIn q
  refine wpAny_call_exc_subT F T hC hN hni (fun h' e hm => ?_) (by show 0 ≤ sizeLine; exact Nat.zero_le _)
  exact L2N.mk_of I hm r h (I.hok.gone hm.new)
end
section
variable {K : PySem.W.Frag} {W : WX} {ρ ρ' : List Sl} {te : TE} {t u : TS} {o : Out} {ds : List D} {ta : TA} {i n : Nat} {f : List D → Res → Prop}
/-- raise X() -/
theorem sv_raise {C : Addr} : SvD K W (fun _ σ H => W (.ref C) none σ H) ρ (.er C [] ρ) := fun E F0 H0 F H σ R p => p none σ F H (Ex.refl F) R (.inl ⟨rfl, rfl⟩)
/-- a call that raises, as a statement -/
theorem sv_callEr {C : Addr} {fs : List (Str × D)} (h : AvD K ta ρ ds) (hf : f ds (.er C fs)) (hn : ds.length = n := by rfl) : SvD K W (tDrop (tCallS (SpF K n f) (WE W) ta)) ρ (.er C fs ρ) := fun E F0 H0 F H σ R p =>
  h F0 H0 F H σ R _ fun vs F1 H1 g1 r1 => ⟨F1, ds, .er C fs, g1.s, r1, by rw [r1.length]; exact hn, hf, fun od F2 H2 g2 x => p od σ F2 H2 (g1.trans g2).f (R.grow (g1.trans g2)) x⟩
/-- try: body, except c as (slot i): suite -/
def tTryAs (K : PySem.W.Frag) (c : Value) (i : Nat) (tb : WX → TS) (ts : Addr → Value → Option Addr → TS) (Wout : WX) : TS := fun D σ H => tb (wAs K c i ts Wout D) D σ H
theorem sv_tryOk {c : Value} {tb : WX → TS} {ts : Addr → Value → Option Addr → TS} (h : ∀ W', SvD K W' (tb W') ρ o) (hne : ∀ C fs ρ', o ≠ .er C fs ρ') : SvD K W (tTryAs K c i tb ts W) ρ o := fun E F0 H0 F H σ R p =>
  h _ E F0 H0 F H σ R (by cases o with
    | nx ρ => exact p
    | rt d => exact p
    | bk ρ => exact p
    | ct ρ => exact p
    | er C fs ρ' => exact absurd rfl (hne C fs ρ'))
/-- the slot of the name is emptied behind the suite -/
def Out.gone (i : Nat) : Out → Out
  | .nx ρ => .nx (ρ.set i .no)
  | .bk ρ => .bk (ρ.set i .no)
  | .ct ρ => .ct (ρ.set i .no)
  | o => o
theorem sv_tryEr {c : Value} {tb : WX → TS} {ts : Addr → Value → Option Addr → TS} {C : Addr} {fs : List (Str × D)} {ρ1 : List Sl} (h : ∀ W', SvD K W' (tb W') ρ (.er C fs ρ1)) (hx : PySem.W.exmOne K (.ref C) c = some true)
    (hs : ∀ (a : Addr) (od : Option Addr), SvD K W (ts a (.ref C) od) (ρ1.set i (.d (.cls a))) o) (hne : ∀ C fs ρ', o ≠ .er C fs ρ') : SvD K W (tTryAs K c i tb ts W) ρ (o.gone i) := fun E F0 H0 F H σ R p =>
  h _ E F0 H0 F H σ R fun od σ1 F1 H1 e1 R1 xr => ⟨true, hx, fun _ a ha => hs a od _ F0 H0 F1 H1 (σ1.set i (some (.ref a))) (R1.set i (.cls a)) (by
    cases o with
    | nx ρ => exact fun σ2 F2 H2 e2 R2 => p _ F2 H2 (e1.trans e2) (R2.forget i none)
    | rt d => exact fun v F2 H2 e2 g2 r2 => p v F2 H2 (e1.trans e2) g2 r2
    | bk ρ => exact fun σ2 F2 H2 e2 R2 => p _ F2 H2 (e1.trans e2) (R2.forget i none)
    | ct ρ => exact fun σ2 F2 H2 e2 R2 => p _ F2 H2 (e1.trans e2) (R2.forget i none)
    | er C fs ρ' => exact absurd rfl (hne C fs ρ')), fun z => nomatch z⟩
end
end DL
set_option Elab.async false
set_option linter.all false
set_option maxRecDepth 100000
set_option maxHeartbeats 1000000
/-! A def that is called in a suite and handed the exception that is handled there; isinstance of it. -/
namespace DL
open PySem PySem.Spec PyProof.Rows L2
/-- what such a def promises: the promise may speak of the handled exception p -/
structure FnX (P : Program) (w : World) (K : PySem.W.Frag) (mg : Str → Option Value) (base : Heap) (CX : CXT) (k : Nat) (f : Addr) (fd : FuncData) (ps : List Str) (sp : Addr × Obj → Sp) : Prop where
  len : ∀ p vs H Q E, sp p vs H Q E → vs.length = ps.length
  run : ∀ (A : Around) (outer : List Env) (s : Shared) (H : Hp) (args : Args) (us : List Value) (vs : List V) (Q : VK) (E : XK) (p : Addr × Obj), L2H.RoomH k A → L2H.Hot1 A p → L2H.PinOk outer H s p → Env0 P w K mg base A outer s H → BindsTo s fd args (ps.zip us) → Vals vs us → sp p vs H Q E →
    codeAny (model P w) A (.call (.ref f) args) (CR CX outer P w H s Q E) s
theorem fnX_of {CX : CXT} {P : Program} {w : World} {K : PySem.W.Frag} {mg : Str → Option Value} {base : Heap} {k : Nat} {x qual : Str} {st : Stmt} {f : Addr} {fd : FuncData} {N ps : List Str} {sp : Addr × Obj → Sp} (F : Fun K x qual st f fd) (S : FnScope N ps (defScope st))
    (len : ∀ p vs H Q E, sp p vs H Q E → vs.length = ps.length)
    (body : ∀ (cdv : Value) (A : Around) (outer : List Env) (s : Shared) (H : Hp) (vs : List V) (Q : VK) (E : XK) (p : Addr × Obj), L2H.Hot1 A p → L2H.RoomH k (A.deeper (envOfC qual (defScope st) s.heap.objs.size f cdv)) → sp p vs H Q E →
      ∃ t, PSs (L2H.cxH CX P w K mg base N qual (defScope st) f cdv A outer s H E p) (defBody st) t ∧ t { nx := fun _ H' => Q .non H', rt := Q } (L2.start N vs) H) : FnX P w K mg base CX (k + 1) f fd ps sp := by
  obtain ⟨oc, od, kV, doc, pm, an, cdv, ct, osl, rfl, lk, hcd⟩ := F.ex
  refine ⟨len, fun A outer s H args us vs Q E p room hot pin e0 bnd rv h => ?_⟩
  have hl := len _ _ _ _ _ h
  have kin : K.In s.heap := e0.mod.kin.keeps fun b o e => (e0.bs b o e).1
  have nolim : s.heap.NoLimit := e0.mod.nolimit.keeps fun b o e => (e0.bs b o e).1
  have kinds : ∀ y ∈ ps.zip us, (defScope st).names.lookup y.1 = some .local ∨ ((defScope st).names.lookup y.1 = some .cell ∧ ((cellsFrom (s.heap.objs.size + 1) (defScope st).names []).lookup y.1).isSome = true) := fun y hy =>
    (S.par y.1 (List.of_mem_zip hy).1).imp id fun q => ⟨q, PySem.W.cellsFrom_some _ _ _ (.inl q)⟩
  refine codeAny_call_function room.depth (kin _ _ lk) rfl S.co S.gen rfl (PySem.W.codeRec_of kin hcd) (bnd _ _ _ _ ?_)
  refine wpAny_newFunctionEnv_cells S.kind kinds fun env he s1 z => ?_
  subst he
  refine ⟨nolim.keeps z.toInCall.keep, codeAny_func ?_⟩
  obtain ⟨t, ht, hq⟩ := body cdv A outer s H vs Q E p hot (room.deeper _) h
  refine wpAny_mono (ht.run [] s1 (L2.start N vs) H _ (L2H.inv_startH S pin e0 hl rv z) hq) (fun fl s' hs => ?_) fun e s' hs => hs
  cases fl with
  | ret u =>
    obtain ⟨v, σ', H', J, rw, q⟩ := hs
    exact ⟨v, H', J.os, J.bare, J.base, J.hok, rw, q⟩
  | next =>
    obtain ⟨σ', H', J, q⟩ := hs
    exact ⟨.non, H', J.os, J.bare, J.base, J.hok, rfl, q⟩
  | brk => obtain ⟨_, _, _, q⟩ := hs; exact q.elim
  | cont => obtain ⟨_, _, _, q⟩ := hs; exact q.elim
theorem vals_refs_eq : ∀ {cs : List Addr} {us : List Value}, Vals (cs.map V.ref) us → us = cs.map Value.ref
  | [], us, h => by cases h; rfl
  | c :: cs, us, h => by
    cases h with
    | cons h r =>
      cases h
      rw [vals_refs_eq r]; rfl
section
variable {X : Cx} {CX : CXT} {k : Nat} {f : Addr} {fd : FuncData} {ps : List Str} {sp : Addr × Obj → Sp} {E : L2.St → XK} {x : Str} {q pos : Pos} {e : Expr} {es : List Expr} {t : TA} {p : Addr × Obj}
theorem pe_callX (F : FnX X.prog X.w X.K X.mg X.base CX k f fd ps sp) (hr : L2H.RoomH k X.A) (hot : L2H.Hot1 X.A p) (hp : p ∈ X.pn) (hg : Gl X x) (hm : X.mg x = some (.ref f)) (hk : PySem.W.keepIn X.K (.ref f) = true) (hb : Binds X.K fd ps []) (hx : ∀ σ, PassesAt CX X σ (E σ))
    (ha : PA X (e :: es) t) (hdb : (x == ("__debug__" : Str)) = false := by decide) (he : starEach (e :: es) X.env = (false, eval e X.env) :: starEach es X.env := by rfl) (hpl : (backTo pos (starEach es X.env)).any (·.1) = false := by rfl) :
    PE X (.Call (.Name x q) (e :: es) [] pos) (tCallS (sp p) E t) := by
  refine ⟨fun pins s σ H Q I h => ?_⟩
  refine wpAny_Call_Name_kw (ld_glob I hg hm ?_ hdb)
  refine PySem.W.callWith_K (h₀ := X.base) I.ok.mod.kin hk (thn (ha.run pos pins s σ H _ I h) fun us s1 ⟨vs, H1, I1, r, q⟩ => ⟨I1.kIn, ?_⟩) he hpl
  have hl : us.length = ps.length := by rw [← r.length]; exact F.len _ _ _ _ _ q
  have b := hb s1 us I1.kIn (by rw [List.append_nil]; exact hl)
  rw [List.append_nil] at b
  have P1 := I1.pin p (List.mem_append_left _ hp)
  have pin : L2H.PinOk X.stack H1 s1 p := ⟨P1.1, P1.2.1, fun hm => (List.mem_cons.mp (I1.stkSub p.1 hm)).elim P1.2.2.1 P1.2.2.2.1, P1.2.2.2.2⟩
  refine wpAny_call (codeAny_mono (F.run X.A X.stack s1 H1 ⟨us, []⟩ us vs Q (E σ) p hr hot pin I1.env0 b r q) fun r s' hq => ?_)
  cases r with
  | error e => exact hx σ pins H1 s1 e s' I1 hq
  | ok fl =>
    cases fl with
    | ret u => exact I1.after hq
    | next => exact hq.elim
    | brk => exact hq.elim
    | cont => exact hq.elim
/-- isinstance of the pinned exception (a, oe), one class or a tuple of classes -/
def rIsX (K : PySem.W.Frag) (p : Addr × Obj) : List V → Hp → VK → Prop := fun xs H Q => ∃ (D : Addr) (b : Bool), p.2.cls = .ref D ∧ p.2.dict = none ∧ (∃ vs, p.2.data = .fields vs) ∧ ExcC K D ∧
  ((∃ (c : V) (cv : Value), xs = [.ref p.1, c] ∧ (∀ u, RelV c u → u = cv) ∧ PySem.W.kitOne K (.ref D) cv = some b ∧ Q (.bl b) H) ∨
   ∃ (tp : Addr) (cs : List Addr), xs = [.ref p.1, .ref tp] ∧ H tp = some (.tup (cs.map V.ref)) ∧ PySem.W.kitAny K (.ref D) (cs.map Value.ref) = some b ∧ Q (.bl b) H)
theorem cr_isX (hp : p ∈ X.pn) : CallR X (.builtin "isinstance") (rIsX X.K p) := by
  intro pins s σ H xs us Q I r h
  obtain ⟨D, b, h1, h2, ⟨vs, hv⟩, C, h⟩ := h
  obtain ⟨a, oc, od, oda, osl⟩ := p
  dsimp only at h1 h2 hv h
  subst h1 h2 hv
  have get := (I.pin _ (List.mem_append_left _ hp)).1
  have J : PySem.W.InstAt s.heap a ⟨.ref D, none, .fields vs, osl⟩ D none := ⟨get, rfl, rfl, trivial⟩
  have Z := PySem.W.handS_kitx_exc (x := a) (ox := ⟨.ref D, none, .fields vs, osl⟩) C.hg C.hk C.hs C.hd C.ha C.hn C.ht C.hm
  rcases h with ⟨c, cv, rfl, hcv, e, q⟩ | ⟨tp, cs, rfl, ht, e, q⟩
  · cases r with
    | cons rx rr =>
      cases rr with
      | cons rt rr =>
        cases rr
        cases rx
        have ec := hcv _ rt
        subst ec
        exact PySem.W.kia_one Z I.kIn J e (fun z => nomatch z) fun tk => ⟨.bl b, H, I.kept (t' := tk) fun _ _ z => z, rfl, q⟩
  · cases r with
    | cons rx rr =>
      cases rr with
      | cons rt rr =>
        cases rr
        cases rx
        cases rt
        obtain ⟨_, its, rv, ⟨tc, td, tda, tsl⟩, g1, g2, n, g3⟩ := (show ObjOk X.prog X.w H s.heap tp (.tup (cs.map V.ref)) from I.hok tp _ ht)
        dsimp only at g2 g3
        subst g2 g3
        have ei : its = cs.map Value.ref := vals_refs_eq rv
        subst ei
        exact PySem.W.kia_tup Z I.kIn J g1 e (fun z => nomatch z) fun tk => ⟨.bl b, H, I.kept (t' := tk) fun _ _ z => z, rfl, q⟩
end
end DL
set_option Elab.async false
set_option linter.all false
set_option maxRecDepth 100000
set_option maxHeartbeats 1000000
/-! Exceptions without fields over plain data: raise, try .. except C as e, isinstance(e, ..), a def that is handed e. -/
namespace DL
open PySem PySem.Spec PyProof.Rows L2
/-! ### the rules of syntax -/
def tRaise (C : Addr) (W : WX) : TS := fun _ σ H => W (.ref C) none σ H
/-- what the written part says of a class that is raised without arguments -/
structure ErrF (K : PySem.W.Frag) (C : Addr) : Prop where
  ex : PySem.W.excIn K C He.veBase "ValueError.__new__" = true
  kp : PySem.W.keepIn K (.ref C) = true
  sb : PySem.W.subIn K (.ref C) (.type "BaseException") = some true
  ty : PySem.W.typeIn K (.ref C) = some (.type "type")
theorem errF_ok {K : PySem.W.Frag} {x : Str} (c : (He.Fa.exc x).ok K = true) : ErrF K (He.ga K x) := by
  obtain ⟨a, b, c, d⟩ := He.exc_ok c
  exact ⟨a, b, c, d⟩
section
variable {X : Cx} {C : Addr} {x : Str} {p pos pos2 : Pos} {W : WX}
theorem ps_raiseD (hc : X.calm = true) (tk : L2N.Takes X W) (e : ErrF X.K C) (gC : X.mg x = some (.ref C)) (hg : Gl X x) (hdb : (x == ("__debug__" : Str)) = false := by decide) :
    PS X (.Raise (some (.Call (.Name x p) [] [] pos)) none pos2) (tRaise C W) :=
  L2N.ps_raise hc tk (pmk_none F.excBase_ValueError e.ex gC e.kp (raises_own e.sb e.ty) hg hdb)
end
section
variable {X : Cx} {x n : Str} {c : Value} {i : Nat} {body suite : List Stmt} {b₀ : Stmt} {np pos pos' : Pos} {tb : WX → TS} {ts : Addr → Value → Option Addr → TS} {Wout : WX}
theorem ps_tryD (i : Nat) (hs : X.stack = X.env :: X.outer) (hf : X.env.frame = some X.env.locals) (hN : X.N.Nodup) (hi : X.N[i]? = some n) (hln : X.env.kindOf n = some .local) (hc : L2.Names X x c) (tk : L2N.Takes X Wout)
    (hb : ∀ (W : WX) (pn : List (Addr × Obj)) (xe : Value → Shared → Prop), L2N.Takes (X.tr pn xe) W → PassesOwn (model X.prog X.w) X.A X.env xe → PSs (X.tr pn xe) body (tb W))
    (hsu : ∀ (a : Addr) (oe : Obj) (cls : Value) (d : Option Addr) (pn : List (Addr × Obj)), L2N.Zn cls d oe → (∃ vs, oe.data = .fields vs) → PSs (X.suite a ((a, oe) :: pn)) (b₀ :: suite) (ts a cls d)) :
    PS X (.Try body [.ExceptHandler (some (.Name x np)) (some n) (b₀ :: suite) pos'] [] [] pos) (tTryAs X.K c i tb ts Wout) :=
  L2N.ps_try_as hs hf hN hi hln hc tk hb hsu
end
/-- isinstance of the handled exception: at a, of class cls, dict d -/
def rIsY (K : PySem.W.Frag) (a : Addr) (cls : Value) (d : Option Addr) : List V → Hp → VK → Prop := fun xs H Q => ∃ (D : Addr) (b : Bool), cls = .ref D ∧ d = none ∧ ExcC K D ∧
  ((∃ (c : V) (cv : Value), xs = [.ref a, c] ∧ (∀ u, RelV c u → u = cv) ∧ PySem.W.kitOne K (.ref D) cv = some b ∧ Q (.bl b) H) ∨
   ∃ (tp : Addr) (cs : List Addr), xs = [.ref a, .ref tp] ∧ H tp = some (.tup (cs.map V.ref)) ∧ PySem.W.kitAny K (.ref D) (cs.map Value.ref) = some b ∧ Q (.bl b) H)
theorem cr_isY {X : Cx} {a : Addr} {cls : Value} {d : Option Addr} {oe : Obj} (hp : (a, oe) ∈ X.pn) (hz : oe.cls = cls ∧ oe.dict = d) (hf : ∃ vs, oe.data = .fields vs) : CallR X (.builtin "isinstance") (rIsY X.K a cls d) := fun pins s σ H xs us Q I r h => by
  obtain ⟨D, b, h1, h2, C, h⟩ := h
  exact cr_isX hp pins s σ H xs us Q I r ⟨D, b, hz.1.trans h1, hz.2.trans h2, hf, C, h⟩
/-- the promise of a def that is handed the exception -/
def SpY (K : PySem.W.Frag) (n : Nat) (fr : Addr → Addr → List D → Res → Prop) (a : Addr) (cls : Value) (d : Option Addr) : Sp := fun vs H Q E => ∃ D : Addr, cls = .ref D ∧ d = none ∧ SpF K n (fr a D) vs H Q E
def CalX (P : Program) (w : World) (K : PySem.W.Frag) (mg : Str → Option Value) (base : Heap) (k : Nat) (x : Str) (ps : List Str) (fr : Addr → Addr → List D → Res → Prop) : Prop :=
  ∃ f fd, mg x = some (.ref f) ∧ PySem.W.keepIn K (.ref f) = true ∧ Binds K fd ps [] ∧ FnX P w K mg base (L2N.CX P w) k f fd ps (fun p => SpY K ps.length fr p.1 p.2.cls p.2.dict)
theorem pe_callY {X : Cx} {x : Str} {q pos : Pos} {e : Expr} {es : List Expr} {t : TA} {W : WX} {k : Nat} {ps : List Str} {fr : Addr → Addr → List D → Res → Prop} {a : Addr} {oe : Obj} {cls : Value} {d : Option Addr}
    (C : CalX X.prog X.w X.K X.mg X.base k x ps fr) (hr : L2H.RoomH k X.A) (hh : X.A.handled = some (.ref a)) (hp : (a, oe) ∈ X.pn) (hz : L2N.Zn cls d oe) (hf : ∃ vs, oe.data = .fields vs) (hg : Gl X x) (tk : L2N.Takes X W) (ha : PA X (e :: es) t)
    (hdb : (x == ("__debug__" : Str)) = false := by decide) (he : starEach (e :: es) X.env = (false, eval e X.env) :: starEach es X.env := by rfl) (hpl : (backTo pos (starEach es X.env)).any (·.1) = false := by rfl) :
    PE X (.Call (.Name x q) (e :: es) [] pos) (tCallS (SpY X.K ps.length fr a cls d) (WE W) t) := by
  obtain ⟨f, fd, h1, h2, h3, h4⟩ := C
  obtain ⟨vs, hv⟩ := hf
  have z := pe_callX (q := q) (p := (a, oe)) h4 hr ⟨hh, vs, hv, hz.2.2 vs hv⟩ hp hg h1 h2 h3 (fun σ => L2N.passAt tk σ) ha hdb he hpl
  have e1 : oe.cls = cls := hz.1
  have e2 : oe.dict = d := hz.2.1
  rw [← e1, ← e2]
  exact z
theorem calX_of {P : Program} {w : World} {K : PySem.W.Frag} {mg : Str → Option Value} {base : Heap} {k : Nat} {x : Str} {st : Stmt} {N ps : List Str} (A : FunAt K mg x st ps) (S : FnScope N ps (defScope st)) (fr : Addr → Addr → List D → Res → Prop)
    (hbody : ∀ (f : Addr) (cdv : Value) (A : Around) (outer : List Env) (s : Shared) (H : Hp) (E : XK) (p : Addr × Obj), L2H.Hot1 A p → L2H.RoomH k (A.deeper (envOfC x (defScope st) s.heap.objs.size f cdv)) → (∃ vs, p.2.data = .fields vs) →
      ∃ t, PSs (L2H.cxH (L2N.CX P w) P w K mg base N x (defScope st) f cdv A outer s H E p) (defBody st) t ∧ ∀ C, p.2.cls = .ref C → p.2.dict = none → ∀ ds r, fr p.1 C ds r → ds.length = ps.length → FnEnd K (wD E) t (entry N ds) r) : CalX P w K mg base (k + 1) x ps fr := by
  obtain ⟨f, fd, h1, h2, h3⟩ := A
  refine ⟨f, fd, h1, h2.kp, h3, fnX_of h2 S (fun p vs H Q E h => ?_) fun cdv A outer s H vs Q E p hot hr h => ?_⟩
  · obtain ⟨_, _, _, _, _, _, _, _, h, _⟩ := h
    exact h
  · have hf : ∃ vs, p.2.data = .fields vs := by obtain ⟨_, vs, e, _⟩ := hot; exact ⟨vs, e⟩
    obtain ⟨t, ht, hs⟩ := hbody f cdv A outer s H E p hot hr hf
    obtain ⟨C, hC, hd, F1, ds, r, ex, rs, hl, hfr, q⟩ := h
    refine ⟨t, ht, ?_⟩
    have R := entry_rel (N := N) ex rs
    rcases hs C hC hd ds r hfr (by rw [← rs.length]; exact hl) with h | ⟨rfl, ρ', h⟩
    · cases r with
      | ok d => exact h _ F1 H F1 H _ R fun v F' H' _ g rv => q v F' H' g rv
      | er C fs =>
        obtain ⟨ρ', h⟩ := h
        exact h _ F1 H F1 H _ R fun od σ F' H' _ g rv => q od F' H' g.gr rv
    · exact h _ F1 H F1 H _ R fun σ F' H' _ R' => q .non F' H' R'.gr .non
/-! ### over plain data -/
section
variable {K : PySem.W.Frag} {W : WX} {ρ ρ' : List Sl} {te ta tb : TE} {t u : TS} {o : Out} {d : D} {ds : List D} {tg : TA} {i n : Nat} {f : List D → Res → Prop} {C : Addr}
theorem sv_raiseD : SvD K W (tRaise C W) ρ (.er C [] ρ) := sv_raise
/-- the body ends well -/
theorem sv_tryOkD {c : Value} {tb : WX → TS} {ts : Addr → Value → Option Addr → TS} (h : ∀ W', SvD K W' (tb W') ρ o) (hne : ∀ C fs ρ', o ≠ .er C fs ρ') : SvD K W (tTryAs K c i tb ts W) ρ o := sv_tryOk h hne
/-- the body raises C(), the clause takes it -/
theorem sv_tryErD {c : Value} {tb : WX → TS} {ts : Addr → Value → Option Addr → TS} {ρ1 : List Sl} (h : ∀ W', SvD K W' (tb W') ρ (.er C [] ρ1)) (hx : PySem.W.exmOne K (.ref C) c = some true)
    (hs : ∀ a : Addr, SvD K (fun _ _ _ _ => False) (ts a (.ref C) none) (ρ1.set i (.d (.cls a))) o) (hne : ∀ C fs ρ', o ≠ .er C fs ρ') : SvD K W (tTryAs K c i tb ts W) ρ (o.gone i) := fun E F0 H0 F H σ R p =>
  h _ E F0 H0 F H σ R fun od σ1 F1 H1 e1 R1 xr => by
    have hod : od = none := by
      rcases xr with ⟨_, e⟩ | ⟨z, _⟩
      · exact e
      · exact absurd rfl z
    subst hod
    exact ⟨true, hx, fun _ a ha => hs a _ F0 H0 F1 H1 (σ1.set i (some (.ref a))) (R1.set i (.cls a)) (by
      cases o with
      | nx ρ => exact fun σ2 F2 H2 e2 R2 => p _ F2 H2 (e1.trans e2) (R2.forget i none)
      | rt d => exact fun v F2 H2 e2 g2 r2 => p v F2 H2 (e1.trans e2) g2 r2
      | bk ρ => exact fun σ2 F2 H2 e2 R2 => p _ F2 H2 (e1.trans e2) (R2.forget i none)
      | ct ρ => exact fun σ2 F2 H2 e2 R2 => p _ F2 H2 (e1.trans e2) (R2.forget i none)
      | er C fs ρ' => exact absurd rfl (hne C fs ρ')), fun z => nomatch z⟩
/-- the body raises C(..), the clause lets it pass -/
theorem sv_tryNoD {c : Value} {tb : WX → TS} {ts : Addr → Value → Option Addr → TS} {fs : List (Str × D)} {ρ1 : List Sl} (h : ∀ W', SvD K W' (tb W') ρ (.er C fs ρ1)) (hx : PySem.W.exmOne K (.ref C) c = some false) : SvD K W (tTryAs K c i tb ts W) ρ (.er C fs ρ1) := fun E F0 H0 F H σ R p =>
  h _ E F0 H0 F H σ R fun od σ1 F1 H1 e1 R1 xr => ⟨false, hx, (fun z => nomatch z), fun _ => p od σ1 F1 H1 e1 R1 xr⟩
/-- a call that raises, in an expression's place: as a statement that gives a name, that returns -/
theorem sv_asgEr {g : TG} (h : AvD K tg ρ ds) {fs : List (Str × D)} (hf : f ds (.er C fs)) (hn : ds.length = n := by rfl) : SvD K W (tAsg (tCallS (SpF K n f) (WE W) tg) g) ρ (.er C fs ρ) := fun E F0 H0 F H σ R p =>
  h F0 H0 F H σ R _ fun vs F1 H1 g1 r1 => ⟨F1, ds, .er C fs, g1.s, r1, by rw [r1.length]; exact hn, hf, fun od F2 H2 g2 x => p od σ F2 H2 (g1.trans g2).f (R.grow (g1.trans g2)) x⟩
theorem sv_retEr (h : AvD K tg ρ ds) {fs : List (Str × D)} (hf : f ds (.er C fs)) (hn : ds.length = n := by rfl) : SvD K W (tRet (tCallS (SpF K n f) (WE W) tg)) ρ (.er C fs ρ) := fun E F0 H0 F H σ R p =>
  h F0 H0 F H σ R _ fun vs F1 H1 g1 r1 => ⟨F1, ds, .er C fs, g1.s, r1, by rw [r1.length]; exact hn, hf, fun od F2 H2 g2 x => p od σ F2 H2 (g1.trans g2).f (R.grow (g1.trans g2)) x⟩
theorem ev_cls {C : Addr} : EvD K (tC (.ref C)) ρ (.cls C) := fun F0 H0 F H σ R Q q => q _ F H (.refl R.ex) (.cls C)
theorem ev_isC {a D : Addr} {b : Bool} (ha : EvD K ta ρ (.cls a)) (e : ExcC K D) (hk : PySem.W.kitOne K (.ref D) (.ref C) = some b) : EvD K (tCB (rIsY K a (.ref D) none) (tCons ta (tCons (tC (.ref C)) tNil))) ρ (.bl b) :=
  ev_cb (av_cons ha (av_cons ev_cls av_nil)) fun F H ex vs r Q q => by
    cases r with
    | cons r1 r =>
      cases r with
      | cons r2 r =>
        cases r1; cases r2; cases r
        exact ⟨D, b, rfl, rfl, e, .inl ⟨_, .ref C, rfl, fun u h => h, hk, q _ F H (.refl ex) (.bl b)⟩⟩
theorem ev_isT {a D : Addr} {b : Bool} {nm : String} (ha : EvD K ta ρ (.cls a)) (e : ExcC K D) (hk : PySem.W.kitOne K (.ref D) (.type nm) = some b) : EvD K (tCB (rIsY K a (.ref D) none) (tCons ta (tCons (tC (.ty nm)) tNil))) ρ (.bl b) :=
  ev_cb (av_cons ha (av_cons ev_ty av_nil)) fun F H ex vs r Q q => by
    cases r with
    | cons r1 r =>
      cases r with
      | cons r2 r =>
        cases r1; cases r2; cases r
        exact ⟨D, b, rfl, rfl, e, .inl ⟨_, .type nm, rfl, fun u h => h, hk, q _ F H (.refl ex) (.bl b)⟩⟩
theorem reps_cls {F : Hp} : ∀ {vs : List V} {cs : List Addr}, Reps K F vs (cs.map D.cls) → vs = cs.map V.ref
  | vs, [], h => by cases h; rfl
  | vs, c :: cs, h => by
    cases h with
    | cons h r =>
      cases h
      rw [reps_cls r]; rfl
theorem ev_isN {a C : Addr} {b : Bool} {cs : List Addr} (ha : EvD K ta ρ (.cls a)) (e : ExcC K C) (ht : EvD K tb ρ (.tup (cs.map D.cls))) (hk : PySem.W.kitAny K (.ref C) (cs.map Value.ref) = some b) : EvD K (tCB (rIsY K a (.ref C) none) (tCons ta (tCons tb tNil))) ρ (.bl b) :=
  ev_cb (av_cons ha (av_cons ht av_nil)) fun F H ex vs r Q q => by
    cases r with
    | cons r1 r =>
      cases r with
      | cons r2 r =>
        cases r1; cases r
        cases r2 with
        | tup h rs =>
          rw [reps_cls rs] at h
          exact ⟨C, b, rfl, rfl, e, .inr ⟨_, cs, rfl, ex _ _ h, hk, q _ F H (.refl ex) (.bl b)⟩⟩
theorem ev_callY {fr : Addr → Addr → List D → Res → Prop} {a : Addr} {Es : L2.St → XK} (h : AvD K tg ρ ds) (hf : fr a C ds (.ok d)) (hn : ds.length = n := by rfl) : EvD K (tCallS (SpY K n fr a (.ref C) none) Es tg) ρ d := fun F0 H0 F H σ R Q q =>
  h F0 H0 F H σ R _ fun vs F1 H1 g1 r1 => ⟨C, rfl, rfl, F1, ds, .ok d, g1.s, r1, by rw [r1.length]; exact hn, hf, fun v F2 H2 g2 r2 => q v F2 H2 (g1.trans g2) r2⟩
/-- all classes of a tuple -/
theorem av_clss : ∀ (cs : List Addr), AvD K (cs.foldr (fun c t => tCons (tC (.ref c)) t) tNil) ρ (cs.map D.cls)
  | [] => av_nil
  | c :: cs => av_cons ev_cls (av_clss cs)
theorem ev_gcd {i j : Int} (ha : EvD K ta ρ (.int i)) (hb : EvD K tb ρ (.int j)) : EvD K (tCB rGcd (tCons ta (tCons tb tNil))) ρ (.int ((Nat.gcd i.natAbs j.natAbs : Nat) : Int)) := ev_cb (av_cons ha (av_cons hb av_nil)) fun F H e vs r Q q => by
  cases r with
  | cons a r =>
    cases r with
    | cons b r =>
      cases a; cases b; cases r
      exact ⟨i, j, rfl, q _ F H (.refl e) (.int _)⟩
end
end DL
namespace DL
open PySem PySem.Spec PyProof.Rows L2
/-- a name is given a comprehension over a dict that is locked meanwhile -/
theorem sv_lockAsg {K : PySem.W.Frag} {W : WX} {te : TE} {i : Nat} {ρ : List Sl} {o : Out} (h : SvD K W (tAsg (tLockEA te) (gName i)) ρ o) : SvD K W (tLockA (tAsg te (gName i))) ρ o := fun E F0 H0 F H σ R p => h E F0 H0 F H σ R p
/-- len of a dict -/
theorem ev_minL {K : PySem.W.Frag} {te : TE} {ρ : List Sl} {ns : List Int} {m : Int} (h : EvSL K te ρ (ns.map D.int)) (hm : m ∈ ns) (hy : ∀ y ∈ ns, m ≤ y) : EvD K (tCB (rMin K) (tCons te tNil)) ρ (.int m) := ev_cbSL h fun F H e p vs s r Q q => by
  have e1 := r.ints_inv
  subst e1
  refine ⟨p, ns, rfl, s, List.length_pos_of_mem hm, fun m' h1 h2 => ?_⟩
  have a := hy m' h1
  have b := h2 m hm
  have : m' = m := by omega
  subst this
  exact q _ F H (.refl e) (.int _)
end DL
namespace DL
open PySem PySem.Spec PyProof.Rows L2
/-- len of a dict, locked or not -/
def rLenD : List V → Hp → VK → Prop := fun xs H Q => ∃ a : Addr, xs = [.ref a] ∧ ((∃ ws : List (Key × V), Rd H a (.dK ws) ∧ Q (.int ((ws.length : Nat) : Int)) H) ∨ ∃ ws : List (List Key × V), Rd H a (.dT ws) ∧ Q (.int ((ws.length : Nat) : Int)) H)
theorem cr_lenD {X : Cx} : CallR X (.builtin "len") rLenD := by
  intro pins s σ H xs us Q I r h
  obtain ⟨a, rfl, h⟩ := h
  obtain ⟨u, rfl, rx⟩ := vals1 r
  obtain rfl : u = .ref a := rx
  rcases h with ⟨ws, hp, q⟩ | ⟨ws, hp, q⟩
  · exact d_len I hp fun t s' I' => ⟨.int ws.length, H, I', ⟨t, rfl⟩, q⟩
  · obtain ⟨z, hd, ys, rel, dd⟩ := dt_rd I.hok hp
    have hl : ws.length = ys.length := Paired.length rel
    refine call_len_dictH hd dd (by rw [← hl]; rw [sizeLine_eq] at z; omega) ?_
    rw [← hl]
    exact ⟨.int ((ws.length : Nat) : Int), H, I.tok _, ⟨_, rfl⟩, q⟩
theorem ev_lenDT {K : PySem.W.Frag} {te : TE} {ρ : List Sl} {kvs : List (List Key × D)} (h : EvDT K te ρ kvs) : EvD K (tCB rLenD (tCons te tNil)) ρ (.int (kvs.length : Int)) := fun F0 H0 F H σ R Q q =>
  h F0 H0 F H σ R _ fun a ws F1 H1 g1 s1 r1 => ⟨a, rfl, .inr ⟨ws, s1, by rw [r1.length]; exact q _ F1 H1 g1 (.int _)⟩⟩
theorem ev_lenDK {K : PySem.W.Frag} {te : TE} {ρ : List Sl} {kvs : List (Key × D)} (h : EvDK K te ρ kvs) : EvD K (tCB rLenD (tCons te tNil)) ρ (.int (kvs.length : Int)) := fun F0 H0 F H σ R Q q =>
  h F0 H0 F H σ R _ fun a ws F1 H1 g1 s1 r1 => ⟨a, rfl, .inl ⟨ws, s1, by rw [r1.length]; exact q _ F1 H1 g1 (.int _)⟩⟩
end DL
set_option Elab.async false
set_option linter.all false
set_option maxRecDepth 100000
set_option maxHeartbeats 2000000
/-! The head by facts: defs, classes, built-ins of other modules; a law's end over it. -/
namespace DL
open PySem PySem.Spec PyProof.Rows L2
/-! ### facts beside the library's -/
def ifTrue (o : Option Bool) : Bool := match o with
  | some b => b
  | none => false
theorem ifTrue_ok {o : Option Bool} (h : ifTrue o = true) : o = some true := by
  cases o with
  | none => cases h
  | some b =>
    have e : b = true := h
    rw [e]
def ifFalse (o : Option Bool) : Bool := match o with
  | some b => !b
  | none => false
theorem ifFalse_ok {o : Option Bool} (h : ifFalse o = true) : o = some false := by
  cases o with
  | none => cases h
  | some b =>
    cases b with
    | false => rfl
    | true => cases h
/-- isinstance asks instances of the class C rightly -/
def excB (K : PySem.W.Frag) (C : Addr) : Bool :=
  He.eqO (PySem.W.findIn K (.ref C) "__getattribute__") (some (some (.builtin "BaseException.__getattribute__"))) && (He.eqO (PySem.W.findIn K (.ref C) "__getattr__") (some none) &&
  (ifTrue (PySem.W.subIn K (.ref C) (.type "BaseException")) && (PySem.W.hasDictIn K C && (He.eqO (PySem.W.findIn K (.ref C) "__class__") (some (some (.builtin "object.__class__"))) &&
  (He.eqO (PySem.W.specialIn K (.builtin "object.__class__") "__get__") (some (some (.builtin "getset_descriptor.__get__"))) && (ifTrue (PySem.W.takesIn K (.builtin "object.__class__")) && ifTrue (PySem.W.mroIn K C (.type "object"))))))))
theorem excB_ok {K : PySem.W.Frag} {C : Addr} (h : excB K C = true) : ExcC K C := by
  obtain ⟨h1, h⟩ := He.ba h
  obtain ⟨h2, h⟩ := He.ba h
  obtain ⟨h3, h⟩ := He.ba h
  obtain ⟨h4, h⟩ := He.ba h
  obtain ⟨h5, h⟩ := He.ba h
  obtain ⟨h6, h⟩ := He.ba h
  obtain ⟨h7, h8⟩ := He.ba h
  exact ⟨He.eqO_ok h1, He.eqO_ok h2, ifTrue_ok h3, h4, He.eqO_ok h5, He.eqO_ok h6, ifTrue_ok h7, ifTrue_ok h8⟩
/-- the module's name x stands for a built-in function -/
def gloB (K : PySem.W.Frag) (x : Str) (id : String) : Bool := He.eqO (PySem.W.nsIn K mainGlobals x) (some (some (.builtin id)))
theorem gloB_ok {K : PySem.W.Frag} {h : Heap} {mg : Str → Option Value} (X : K.In h) (G : h.Ns mainGlobals mg) {x : Str} {id : String} (c : gloB K x id = true) : mg x = some (.builtin id) := PySem.W.mg_of X G (He.eqO_ok c)
/-! ### the Hook -/
abbrev AlF : Type := He.AlD × Bool
def obsF (fa : List He.Fa) (fn : List He.DefD) (ex : PySem.W.Frag → Bool) (K : PySem.W.Frag) : AlF := (He.obsD fa fn K, ex K)
def obsFG (n : Nat) (fa : List He.Fa) (fn : List He.DefD) (ex : PySem.W.Frag → Bool) (g : Addr → Option Obj) : AlF := obsF fa fn ex (He.frG g (He.asD g n))
def SaysF (fa : List He.Fa) (fn : List He.DefD) (ex : PySem.W.Frag → Bool) (K : PySem.W.Frag) : Prop := He.SaysD fa fn K ∧ ex K = true
def hookF (n : Nat) (fa : List He.Fa) (fn : List He.DefD) (ex : PySem.W.Frag → Bool) : PySem.W.Hook where
  α := AlF
  obs := fun s => obsFG n fa fn ex s.heap.get?
  val := fun _ => (He.valD fn, true)
  says := fun _ h => ∃ K : PySem.W.Frag, K.In h ∧ SaysF fa fn ex K
  of := fun _ s e => ⟨_, He.frG_in, (Prod.mk.inj e).1, (Prod.mk.inj e).2⟩
  keeps := fun _ _ _ ⟨K, hK, c⟩ k => ⟨K, PySem.W.Frag.In.keeps hK k, c⟩
theorem obsF_eq {n : Nat} {fa : List He.Fa} {fn : List He.DefD} {ex : PySem.W.Frag → Bool} {g : Addr → Option Obj} {s : Shared} (h : ∀ a, g a = s.heap.get? a) : obsFG n fa fn ex g = (hookF n fa fn ex).obs s := by
  have e : g = s.heap.get? := funext h
  rw [e] <;> rfl
/-! ### defs -/
/-- a def of the module, no defaults -/
def defD (x : Str) (st : Stmt) : He.DefD := ⟨(x, none), x, x, defArgs st, defBody st, defScope st, [], []⟩
section
variable {K : PySem.W.Frag} {h : Heap} {mg : Str → Option Value} {x : Str} {st : Stmt} {fd : FuncData} {f : Addr}
theorem fun_ofD (F : FunD K x x (defArgs st) (defBody st) (defScope st) [] [] f fd) : Fun K x x st f fd := by
  obtain ⟨oc, od, dV, kV, doc, pm, an, cdv, ct, osl, rfl, lk, hcd, hD, _⟩ := F.ex
  rcases hD with ⟨_, rfl⟩ | ⟨e, _⟩
  · exact ⟨⟨oc, od, kV, doc, pm, an, cdv, ct, osl, rfl, lk, hcd⟩, F.kp⟩
  · exact absurd rfl e
theorem funAt_of {fa : List He.Fa} {fn : List He.DefD} (X : K.In h) (G : h.Ns mainGlobals mg) (c : He.SaysD fa fn K) (i j : Nat) (hd : fn[i]? = some (defD x st)) (hf : fa[j]? = some (.glo x)) (ps : List Str)
    (hb : ∀ (kV doc pm : Value) (an : Option Addr) (cdv ct : Value) (us : List Value), us.length = ps.length → bindArgs (PySem.W.fnOf x x (defArgs st) (defBody st) (defScope st) .none kV doc pm an cdv ct) ⟨us, []⟩ = pure (ps.zip us)) : FunAt K mg x st ps := by
  obtain ⟨fd, F⟩ := c.def_ i hd
  exact ⟨_, fd, He.glo_ok X G (c.fact j hf), fun_ofD F, F.bindsN hb⟩
end
/-! ### the end -/
theorem walk_ofW {l : PySem.W.OpenLaw} {n k : Nat} {q : Program} {loose : List Str} {XP : (Str → Option Value) → Heap → Prop} {YP : World → Heap → Prop} {d : DefRec} {CX : World → CXT} {x : Str} (hn : l.most = some n) (hn2 : n ≤ sizeLine)
    (hdf : d.params.defaults = []) (hr : Room k callerA)
    (F : ∀ (w : World) (mg : Str → Option Value) (f : Addr) (h : Heap), YP w h → h.Ns mainGlobals mg → mg d.name = some (.ref f) → ∃ (K : PySem.W.Frag) (fd : FuncData) (sp : Sp),
        K.In h ∧ (∀ (s : Shared) (u : Value), BindsTo s fd ⟨[u], []⟩ [(x, u)]) ∧ (∀ (H : Hp) (a : Addr) (ns : List Int), ns.length ≤ n → SqL K H a (ns.map V.int) → sp [.ref a] H (fun v _ => v = .bl true) fun _ _ _ => False) ∧
          ∀ base : Heap, K.In base → base.Ns mainGlobals mg → FnOk l.prog w K mg base (CX w) k f fd [x] sp)
    (hCX : ∀ (w : World) (H : Hp) (s : Shared) (e : Value) (s' : Shared), CX w [] H s (fun _ _ _ => False) e s' → False) : PySem.W.WalkO q loose XP YP l.row.toRowW d [] (fun f vs => PySem.call f vs) := by
  refine Att.attach_call hn hdf fun w s0 s1 mg mb f o pm cd doc a vs ns G Y ho hd hcd hmg hobj hints hlen hg => ?_
  obtain ⟨K, fd, sp, X, hb, hsp, hF⟩ := F w mg f _ Y G.T.g hmg
  refine law_call X G.T.g G.T.b G.T.builtins G.T.nolimit hg hobj hints (Nat.le_trans hlen hn2) hr hF hb (fun H _ hS => hsp H a ns hlen hS) fun H e s' => hCX w H s1 e s'
end DL
set_option Elab.async false
set_option linter.all false
set_option maxRecDepth 100000
set_option maxHeartbeats 1000000
/-! Facts of the head: classes with their own __init__; what the classes of errors inherit. -/
namespace DL
open PySem PySem.Spec PyProof.Rows L2
def oexC (K : PySem.W.Frag) (C : Addr) : Bool := match K.lookup C with
  | some ⟨.type "type", _, .cls cd, sl⟩ => (match cd.mro, sl.toList with
    | .ref C' :: bm, [_, _, _, _, some (.builtin n), _] => C' == C && (n == "ValueError.__new__" && (!cd.hasDel && (cd.hasDict && PySem.HandSPX.refsVE bm)))
    | _, _ => false)
  | _ => false
def oexAll (K : PySem.W.Frag) (C : Addr) : Bool := oexC K C && (He.eqO (PySem.W.findIn K (.ref C) "__setattr__") (some (some (.builtin "object.__setattr__"))) && (decide (PySem.W.subIn K (.ref C) (.type "BaseException") = some true) && (decide (PySem.W.typeIn K (.ref C) = some (.type "type")) && PySem.W.keepIn K (.ref C))))
def ownIB (K : PySem.W.Frag) (C : Addr) : Bool := oexAll K C && (He.eqO (PySem.W.findIn K (.ref C) "__init__") (some (some (.ref (He.ma K C "__init__")))) && decide (PySem.W.typeIn K (.ref (He.ma K C "__init__")) = some (.type "function")))
/-- C is made of the class R of errors alone, R of ValueError -/
def mroB (K : PySem.W.Frag) (R C : Addr) : Bool := match K.lookup C with
  | some ⟨.type "type", _, .cls cd, _⟩ => decide (cd.mro = [.ref C, .ref R, .type "ValueError", .type "Exception", .type "BaseException", .type "object"])
  | _ => false
structure MroC (K : PySem.W.Frag) (R C : Addr) : Prop where
  ex : ∃ dd cd sl, K.lookup C = some ⟨.type "type", dd, .cls cd, sl⟩ ∧ cd.mro = [.ref C, .ref R, .type "ValueError", .type "Exception", .type "BaseException", .type "object"]
theorem mroB_ok {K : PySem.W.Frag} {R C : Addr} (h : mroB K R C = true) : MroC K R C := by
  unfold mroB at h
  split at h
  · exact ⟨⟨_, _, _, by assumption, of_decide_eq_true h⟩⟩
  · cases h
section
variable {K : PySem.W.Frag} {R C D : Addr}
theorem MroC.cls (m : MroC K R C) : (PySem.W.clsIn K C).isSome = true ∧ PySem.W.typeIn K (.ref C) = some (.type "type") := by
  obtain ⟨dd, cd, sl, h, _⟩ := m.ex
  have e1 : PySem.W.clsIn K C = some cd := by unfold PySem.W.clsIn; rw [h]
  have e2 : (K.lookup C).map (·.cls) = some (.type "type") := by rw [h]; rfl
  exact ⟨by rw [e1]; rfl, e2⟩
theorem MroC.sub (m : MroC K R C) (b : Value) : PySem.W.subIn K (.ref C) b = some (([.ref C, .ref R, .type "ValueError", .type "Exception", .type "BaseException", .type "object"] : List Value).contains b) := by
  obtain ⟨dd, cd, sl, h, e⟩ := m.ex
  have e1 : PySem.W.clsIn K C = some cd := by unfold PySem.W.clsIn; rw [h]
  show PySem.W.mroIn K C b = _
  unfold PySem.W.mroIn
  rw [e1]
  show (if cd.mro.isEmpty = true then none else some (cd.mro.contains b)) = _
  rw [e]
  rfl
theorem kitR (hc : (PySem.W.clsIn K D).isSome = true) (ht : PySem.W.typeIn K (.ref D) = some (.type "type")) (t : Value) : PySem.W.kitCls K t (.ref D) = PySem.W.subIn K t (.ref D) := by
  unfold PySem.W.kitCls
  simp only [hc, ht]
  rfl
theorem beq_ref {a b : Addr} : ((Value.ref a) == (Value.ref b)) = decide (a = b) := by
  by_cases h : a = b
  · subst h; simp
  · simp [h]
theorem MroC.ref (m : MroC K R C) : PySem.W.subIn K (.ref C) (.ref D) = some (decide (D = C) || decide (D = R)) := by
  rw [m.sub]
  congr 1
  simp only [List.contains, List.elem_cons, List.elem_nil, beq_ref]
  have e : ∀ n : String, (Value.ref D == Value.type n) = false := fun n => by simp
  simp only [e]
  cases decide (D = C) <;> cases decide (D = R) <;> rfl
theorem MroC.kit (m : MroC K R C) (hc : (PySem.W.clsIn K D).isSome = true) (ht : PySem.W.typeIn K (.ref D) = some (.type "type")) : PySem.W.kitOne K (.ref C) (.ref D) = some (decide (D = C) || decide (D = R)) := by
  unfold PySem.W.kitOne
  rw [kitR hc ht, m.ref, beq_ref]
  by_cases h : C = D
  · subst h; simp
  · simp [h]
theorem MroC.ve (m : MroC K R C) (hm : PySem.W.kitMeta "ValueError" = true) : PySem.W.kitOne K (.ref C) (.type "ValueError") = some true := by
  unfold PySem.W.kitOne
  have e : (Value.ref C == Value.type "ValueError") = false := by simp
  rw [e]
  show (if PySem.W.kitMeta "ValueError" = true then PySem.W.subIn K (.ref C) (.type "ValueError") else none) = some true
  rw [if_pos hm, m.sub]
  congr 1
theorem MroC.exm (m : MroC K R C) (hs : PySem.W.subIn K (.ref D) (.type "BaseException") = some true) (hc : (PySem.W.clsIn K D).isSome = true) (ht : PySem.W.typeIn K (.ref D) = some (.type "type")) : PySem.W.exmOne K (.ref C) (.ref D) = some (decide (D = C) || decide (D = R)) := by
  unfold PySem.W.exmOne
  rw [hs, kitR hc ht, m.ref]
  rfl
end
end DL
set_option Elab.async false
set_option linter.all false
set_option maxRecDepth 100000
set_option maxHeartbeats 0
namespace Go
open PySem PySem.Spec PyProof.Rows L2 DL
abbrev W0 : WX := fun _ _ _ _ => False
abbrev topS (i : Nat) : Stmt := (PySem.Challenge.pw_joinpast_k04_row_sets).main.body.getD i (.Pass ⟨0, 0, 0, 0⟩)
abbrev sis_row_name : Stmt := topS 36
abbrev Nis_row_name : List Str := ["value", "sign"]
abbrev Pis_row_name : List Str := ["value"]
theorem scis_row_name : FnScope Nis_row_name Pis_row_name (defScope sis_row_name) := ⟨rfl, rfl, rfl, by decide +kernel, rfl, by decide +kernel, by decide +kernel⟩
abbrev srow_set : Stmt := topS 37
abbrev Nrow_set : List Str := ["names"]
abbrev Prow_set : List Str := ["names"]
theorem scrow_set : FnScope Nrow_set Prow_set (defScope srow_set) := ⟨rfl, rfl, rfl, by decide +kernel, rfl, by decide +kernel, by decide +kernel⟩
abbrev sdifferent_names : Stmt := topS 38
abbrev Ndifferent_names : List Str := ["names", "name", "seen"]
abbrev Pdifferent_names : List Str := ["names"]
theorem scdifferent_names : FnScope Ndifferent_names Pdifferent_names (defScope sdifferent_names) := ⟨rfl, rfl, rfl, by decide +kernel, rfl, by decide +kernel, by decide +kernel⟩
abbrev s_law_cell : Stmt := topS 40
abbrev N_law_cell : List Str := ["script", "k", "seed", "cell"]
abbrev P_law_cell : List Str := ["script", "k"]
theorem sc_law_cell : FnScope N_law_cell P_law_cell (defScope s_law_cell) := ⟨rfl, rfl, rfl, by decide +kernel, rfl, by decide +kernel, by decide +kernel⟩
abbrev s_law_digits : Stmt := topS 41
abbrev N_law_digits : List Str := ["cell", "sizes", "row", "rest", "size", "seed", "k", "twice"]
abbrev P_law_digits : List Str := ["cell", "sizes"]
theorem sc_law_digits : FnScope N_law_digits P_law_digits (defScope s_law_digits) := ⟨rfl, rfl, rfl, by decide +kernel, rfl, by decide +kernel, by decide +kernel⟩
abbrev s_law_signs : Stmt := topS 42
abbrev N_law_signs : List Str := ["signs"]
abbrev P_law_signs : List Str := []
theorem sc_law_signs : FnScope N_law_signs P_law_signs (defScope s_law_signs) := ⟨rfl, rfl, rfl, by decide +kernel, rfl, by decide +kernel, by decide +kernel⟩
abbrev s_law_string : Stmt := topS 43
abbrev N_law_string : List Str := ["row", "clean", "letters", "signs", "full", "k", "name", "at", "sign", "kind", "odd"]
abbrev P_law_string : List Str := ["row", "clean"]
theorem sc_law_string : FnScope N_law_string P_law_string (defScope s_law_string) := ⟨rfl, rfl, rfl, by decide +kernel, rfl, by decide +kernel, by decide +kernel⟩
abbrev s_law_strings : Stmt := topS 44
abbrev N_law_strings : List Str := ["script", "at", "head", "strings", "k", "row"]
abbrev P_law_strings : List Str := ["script", "at"]
theorem sc_law_strings : FnScope N_law_strings P_law_strings (defScope s_law_strings) := ⟨rfl, rfl, rfl, by decide +kernel, rfl, by decide +kernel, by decide +kernel⟩
abbrev s_law_good : Stmt := topS 45
abbrev N_law_good : List Str := ["name", "k"]
abbrev P_law_good : List Str := ["name"]
theorem sc_law_good : FnScope N_law_good P_law_good (defScope s_law_good) := ⟨rfl, rfl, rfl, by decide +kernel, rfl, by decide +kernel, by decide +kernel⟩
abbrev s_law_kinds : Stmt := topS 46
abbrev N_law_kinds : List Str := ["e", "row", "k"]
abbrev P_law_kinds : List Str := ["e"]
theorem sc_law_kinds : FnScope N_law_kinds P_law_kinds (defScope s_law_kinds) := ⟨rfl, rfl, rfl, by decide +kernel, rfl, by decide +kernel, by decide +kernel⟩
abbrev s_law_due : Stmt := topS 47
abbrev N_law_due : List Str := ["names", "name", "k"]
abbrev P_law_due : List Str := ["names"]
theorem sc_law_due : FnScope N_law_due P_law_due (defScope s_law_due) := ⟨rfl, rfl, rfl, by decide +kernel, rfl, by decide +kernel, by decide +kernel⟩
abbrev s_law_asked : Stmt := topS 48
abbrev N_law_asked : List Str := ["names", "e"]
abbrev P_law_asked : List Str := ["names"]
theorem sc_law_asked : FnScope N_law_asked P_law_asked (defScope s_law_asked) := ⟨rfl, rfl, rfl, by decide +kernel, rfl, by decide +kernel, by decide +kernel⟩
abbrev s_law_caught : Stmt := topS 49
abbrev N_law_caught : List Str := ["names", "e"]
abbrev P_law_caught : List Str := ["names"]
theorem sc_law_caught : FnScope N_law_caught P_law_caught (defScope s_law_caught) := ⟨rfl, rfl, rfl, by decide +kernel, rfl, by decide +kernel, by decide +kernel⟩
abbrev s_law_equal : Stmt := topS 50
abbrev N_law_equal : List Str := ["told", "due", "k"]
abbrev P_law_equal : List Str := ["told", "due"]
theorem sc_law_equal : FnScope N_law_equal P_law_equal (defScope s_law_equal) := ⟨rfl, rfl, rfl, by decide +kernel, rfl, by decide +kernel, by decide +kernel⟩
abbrev s_law_right : Stmt := topS 51
abbrev N_law_right : List Str := ["strings", "due", "passed", "told"]
abbrev P_law_right : List Str := ["strings"]
theorem sc_law_right : FnScope N_law_right P_law_right (defScope s_law_right) := ⟨rfl, rfl, rfl, by decide +kernel, rfl, by decide +kernel, by decide +kernel⟩
abbrev s_law_created : Stmt := topS 52
abbrev N_law_created : List Str := ["name", "rows", "others", "terms", "numbers", "n", "m", "errors", "k", "told", "due"]
abbrev P_law_created : List Str := ["name", "rows", "others", "terms", "numbers"]
theorem sc_law_created : FnScope N_law_created P_law_created (defScope s_law_created) := ⟨rfl, rfl, rfl, by decide +kernel, rfl, by decide +kernel, by decide +kernel⟩
abbrev s_law_errors_right : Stmt := topS 53
abbrev N_law_errors_right : List Str := ["cell", "row", "names", "rows", "j", "others", "terms"]
abbrev P_law_errors_right : List Str := ["cell"]
theorem sc_law_errors_right : FnScope N_law_errors_right P_law_errors_right (defScope s_law_errors_right) := ⟨rfl, rfl, rfl, by decide +kernel, rfl, by decide +kernel, by decide +kernel⟩
abbrev slaw : Stmt := topS 54
abbrev Nlaw : List Str := ["script", "many", "k", "strings", "name", "answer", "j"]
abbrev Plaw : List Str := ["script"]
theorem sclaw : FnScope Nlaw Plaw (defScope slaw) := ⟨rfl, rfl, rfl, by decide +kernel, rfl, by decide +kernel, by decide +kernel⟩
abbrev initS (i : Nat) : Stmt := match topS i with
  | .ClassDef _ _ _ body _ _ _ _ _ _ _ => body.getD 0 (.Pass ⟨0, 0, 0, 0⟩)
  | s => s
def kindH : List Str := ["NoQuotient", "ZeroPolynomial", "ZeroSum", "NoRows", "BadName", "RowTwice", "UnknownRow", "RowsDiffer", "SpotTwice", "BadStretch", "ShortStretch", "TooLong", "CannotStand", "Broken", "NotFinite", "BadParts", "Barred", "NotCourse", "BreaksOwnRule", "NotBlocked", "Unsure", "Contradiction", "NotStricter", "NoFamilies", "NotLet", "NotFree", "NotTimely", "NotEntered", "NothingToUndo", "BadNotation"]
def fieldH : List Str := ["name", "one", "two", "row", "place", "count", "span", "longest", "terms", "index", "rows", "line"]
def initH : List Str := ["BadName", "BadNotation", "BadParts", "BadStretch", "Barred", "BreaksOwnRule", "Broken", "CannotStand", "NotBlocked", "NotCourse", "NotEntered", "NotFree", "NotLet", "NotStricter", "NotTimely", "RowTwice", "RowsDiffer", "ShortStretch", "SpotTwice", "TooLong", "UnknownRow"]
def fnL : List He.DefD := [defD "is_row_name" sis_row_name, defD "row_set" srow_set, defD "different_names" sdifferent_names, defD "_law_cell" s_law_cell, defD "_law_digits" s_law_digits, defD "_law_signs" s_law_signs, defD "_law_string" s_law_string, defD "_law_strings" s_law_strings, defD "_law_good" s_law_good, defD "_law_kinds" s_law_kinds, defD "_law_due" s_law_due, defD "_law_asked" s_law_asked, defD "_law_caught" s_law_caught, defD "_law_equal" s_law_equal, defD "_law_right" s_law_right, defD "_law_created" s_law_created, defD "_law_errors_right" s_law_errors_right, defD "law" slaw, ⟨("BadName", some "__init__"), "__init__", "BadName.__init__", defArgs (initS 6), defBody (initS 6), defScope (initS 6), [], []⟩, ⟨("BadNotation", some "__init__"), "__init__", "BadNotation.__init__", defArgs (initS 31), defBody (initS 31), defScope (initS 31), [], []⟩, ⟨("BadParts", some "__init__"), "__init__", "BadParts.__init__", defArgs (initS 17), defBody (initS 17), defScope (initS 17), [], []⟩, ⟨("BadStretch", some "__init__"), "__init__", "BadStretch.__init__", defArgs (initS 11), defBody (initS 11), defScope (initS 11), [], []⟩, ⟨("Barred", some "__init__"), "__init__", "Barred.__init__", defArgs (initS 18), defBody (initS 18), defScope (initS 18), [], []⟩, ⟨("BreaksOwnRule", some "__init__"), "__init__", "BreaksOwnRule.__init__", defArgs (initS 20), defBody (initS 20), defScope (initS 20), [], []⟩, ⟨("Broken", some "__init__"), "__init__", "Broken.__init__", defArgs (initS 15), defBody (initS 15), defScope (initS 15), [], []⟩, ⟨("CannotStand", some "__init__"), "__init__", "CannotStand.__init__", defArgs (initS 14), defBody (initS 14), defScope (initS 14), [], []⟩, ⟨("NotBlocked", some "__init__"), "__init__", "NotBlocked.__init__", defArgs (initS 21), defBody (initS 21), defScope (initS 21), [], []⟩, ⟨("NotCourse", some "__init__"), "__init__", "NotCourse.__init__", defArgs (initS 19), defBody (initS 19), defScope (initS 19), [], []⟩, ⟨("NotEntered", some "__init__"), "__init__", "NotEntered.__init__", defArgs (initS 29), defBody (initS 29), defScope (initS 29), [], []⟩, ⟨("NotFree", some "__init__"), "__init__", "NotFree.__init__", defArgs (initS 27), defBody (initS 27), defScope (initS 27), [], []⟩, ⟨("NotLet", some "__init__"), "__init__", "NotLet.__init__", defArgs (initS 26), defBody (initS 26), defScope (initS 26), [], []⟩, ⟨("NotStricter", some "__init__"), "__init__", "NotStricter.__init__", defArgs (initS 24), defBody (initS 24), defScope (initS 24), [], []⟩, ⟨("NotTimely", some "__init__"), "__init__", "NotTimely.__init__", defArgs (initS 28), defBody (initS 28), defScope (initS 28), [], []⟩, ⟨("RowTwice", some "__init__"), "__init__", "RowTwice.__init__", defArgs (initS 7), defBody (initS 7), defScope (initS 7), [], []⟩, ⟨("RowsDiffer", some "__init__"), "__init__", "RowsDiffer.__init__", defArgs (initS 9), defBody (initS 9), defScope (initS 9), [], []⟩, ⟨("ShortStretch", some "__init__"), "__init__", "ShortStretch.__init__", defArgs (initS 12), defBody (initS 12), defScope (initS 12), [], []⟩, ⟨("SpotTwice", some "__init__"), "__init__", "SpotTwice.__init__", defArgs (initS 10), defBody (initS 10), defScope (initS 10), [], []⟩, ⟨("TooLong", some "__init__"), "__init__", "TooLong.__init__", defArgs (initS 13), defBody (initS 13), defScope (initS 13), [], []⟩, ⟨("UnknownRow", some "__init__"), "__init__", "UnknownRow.__init__", defArgs (initS 8), defBody (initS 8), defScope (initS 8), [], []⟩]
def faL : List He.Fa := [.glo "is_row_name", .glo "row_set", .glo "different_names", .glo "_law_cell", .glo "_law_digits", .glo "_law_signs", .glo "_law_string", .glo "_law_strings", .glo "_law_good", .glo "_law_kinds", .glo "_law_due", .glo "_law_asked", .glo "_law_caught", .glo "_law_equal", .glo "_law_right", .glo "_law_created", .glo "_law_errors_right", .glo "law", .free "ValueError", .free "all", .free "bool", .free "int", .free "isinstance", .free "len", .free "list", .free "range", .free "set", .free "sorted", .free "str", .free "tuple", .glo "BadName", .glo "BadNotation", .glo "BadParts", .glo "BadStretch", .glo "Barred", .glo "BreaksOwnRule", .glo "Broken", .glo "CannotStand", .glo "Contradiction", .glo "NoFamilies", .glo "NoQuotient", .glo "NoRows", .glo "NotBlocked", .glo "NotCourse", .glo "NotEntered", .glo "NotFinite", .glo "NotFree", .glo "NotLet", .glo "NotStricter", .glo "NotTimely", .glo "NothingToUndo", .glo "RowError", .glo "RowTwice", .glo "RowsDiffer", .glo "ShortStretch", .glo "SpotTwice", .glo "TooLong", .glo "UnknownRow", .glo "Unsure", .glo "ZeroPolynomial", .glo "ZeroSum", .exc "Contradiction", .exc "NoFamilies", .exc "NoQuotient", .exc "NoRows", .exc "NotFinite", .exc "NothingToUndo", .exc "Unsure", .exc "ZeroPolynomial", .exc "ZeroSum", .str "DIGITS" "0123456789", .str "LETTERS" "abcdefghijklmnopqrstuvwxyz", .int "LONGEST_NAME" 10]
def kfB (K : PySem.W.Frag) : Bool := (kindH.all fun x => excB K (He.ga K x) && mroB K (He.ga K "RowError") (He.ga K x)) && (decide ((He.ga K "RowError" :: kindH.map (He.ga K)).Nodup) && ((PySem.W.clsIn K (He.ga K "RowError")).isSome && (decide (PySem.W.typeIn K (.ref (He.ga K "RowError")) = some (.type "type")) && (decide (PySem.W.subIn K (.ref (He.ga K "RowError")) (.type "BaseException") = some true) && kindH.all fun x => fieldH.all fun f => He.eqO (PySem.W.findIn K (.ref (He.ga K x)) f) (some none)))))
def exL (K : PySem.W.Frag) : Bool := kfB K && initH.all fun x => ownIB K (He.ga K x)
abbrev hkL : PySem.W.Hook := hookF 4 faL fnL exL
def obL (s : PySem.W.SharedT) : AlF := obsFG 4 faL fnL exL (HandSHeadRun.getT s)
theorem obL_eq (s : PySem.W.SharedT) : obL s = hkL.obs s.abs := obsF_eq (HandSHeadRun.getT_eq s)
abbrev RL : PySem.W.OpenRow := PySem.W.OpenLaw.row PySem.Challenge.rw_joinpast_k04_row_sets
def looseL0 : List Str := ["DIGITS", "LETTERS", "LONGEST_NAME", "RowError", "NoQuotient", "ZeroPolynomial", "ZeroSum", "NoRows", "BadName", "RowTwice", "UnknownRow", "RowsDiffer", "SpotTwice", "BadStretch", "ShortStretch", "TooLong", "CannotStand", "Broken", "NotFinite", "BadParts", "Barred", "NotCourse", "BreaksOwnRule", "NotBlocked", "Unsure", "Contradiction", "NotStricter", "NoFamilies", "NotLet", "NotFree"]
def looseL1 : List Str := ["NotTimely", "NotEntered", "NothingToUndo", "BadNotation", "is_row_name", "row_set", "different_names", "_law_cell", "_law_digits", "_law_signs", "_law_string", "_law_strings", "_law_good", "_law_kinds", "_law_due", "_law_asked", "_law_caught", "_law_equal", "_law_right", "_law_created", "_law_errors_right"]
def looseL : List Str := looseL0 ++ looseL1
theorem runL (w : World) : HandSHeadRun.RunEq RL (PySem.W.view RL.prog [54]) hkL obL 20000 looseL w := by
  intro os
  kernel_rfl
end Go
set_option Elab.async false
set_option linter.all false
set_option maxRecDepth 100000
set_option maxHeartbeats 1000000
/-! Comprehensions whose elements are told item by item. -/
namespace DL
open PySem PySem.Spec PyProof.Rows L2
section
variable {K : PySem.W.Frag} {W : WX} {ρ ρ' : List Sl} {te ta tb : TE} {d x y z : D} {xs ds zs : List D} {tt tu : TT} {t u : TS} {o : Out} {i : Nat}
theorem tv_yesD : TvD K tYes ρ true := fun F0 H0 F H σ R Q q => q F H (.refl R.ex)
theorem fm_take {α : Type} {l : List (Option α)} {i : Nat} {a : Option α} (h : l[i]? = some a) : (l.take (i + 1)).filterMap id = (l.take i).filterMap id ++ a.toList := by
  rw [List.take_add_one, List.filterMap_append, h]
  cases a <;> simp
theorem lc_atI {wi : TI} {g : TG} {vs : List Nat} {ys : List (Option D)} {F0 H0 F H : Hp} {σ : L2.St} (R : RelS K F0 H0 F H σ ρ) (hw : ∀ R' : It → Hp → Prop, (∀ J A F' H', Gr F H F' H' → Src K J ds A → A F' → R' J H') → wi σ H R')
    (hs : ∀ (i : Nat) (d : D) (r : Option D), ds[i]? = some d → ys[i]? = some r → Cmp1 K g tt te vs (wipeS ρ vs) d r) (hy : ys.length = ds.length) (hl : ds.length ≤ 16777215) {Q : VK} (q : ∀ p ws F' H', Gr F H F' H' → H p = none → F' p = none → H' p = some (.lst ws) → Reps K F' ws (ys.filterMap id) → Q (.ref p) H') : tLc wi g tt te vs σ H Q :=
  hw _ fun J A F1 H1 g1 src a1 => fun Dl hD => by
    have hD0 : H Dl = none := g1.h.back hD
    have hDF1 : F1 Dl = none := g1.s.back hD
    have hD00 : H0 Dl = none := R.gr.h.back hD0
    have Rw : RelS K F0 H0 F1 H1 (L2.wipe σ vs) (wipeS ρ vs) := (R.grow g1).wipe vs
    have fr := Rw.fresh hD
    refine ⟨fun i m H' => ∃ F' acc, m = ds.length - i ∧ i ≤ ds.length ∧ Gr F H F' H' ∧ RelS K F0 H0 F' H' (L2.wipe σ vs) (wipeS ρ vs) ∧ Ex F1 F' ∧ F' Dl = none ∧ H' Dl = some (.lst acc) ∧ Reps K F' acc ((ys.take i).filterMap id),
      ⟨ds.length, F1, [], rfl, Nat.zero_le _, g1.side hD0 hDF1, Rw.side hD00 hDF1 fr, Ex.refl F1, hDF1, upd_same, .nil⟩, ?_⟩
    rintro i m H' ⟨F', acc, rfl, hi, g', R', ex, hDF, hDH, ra⟩
    have a' := src.keep _ _ a1 ex
    by_cases hlt : i < ds.length
    · refine .inr ⟨src.go i F' H' hlt a' R'.ex, fun H2 => ∃ F2 acc, Gr F H F2 H2 ∧ RelS K F0 H0 F2 H2 (L2.wipe σ vs) (wipeS ρ vs) ∧ Ex F1 F2 ∧ F2 Dl = none ∧ H2 Dl = some (.lst acc) ∧ Reps K F2 acc ((ys.take (i + 1)).filterMap id),
        fun H2 ⟨F2, acc, x1, x2, x3, x4, x5, x6⟩ => ⟨ds.length - (i + 1), by omega, F2, acc, rfl, hlt, x1, x2, x3, x4, x5, x6⟩, fun x H2 y => ?_⟩
      obtain ⟨d, hd⟩ : ∃ d, ds[i]? = some d := ⟨ds[i], List.getElem?_eq_getElem hlt⟩
      obtain ⟨ri, hri⟩ : ∃ r, ys[i]? = some r := ⟨ys[i], List.getElem?_eq_getElem (by omega)⟩
      obtain ⟨F2, g2, rx⟩ := src.yld i F' H' x H2 d hd a' R'.ex y
      obtain ⟨is, ρ1, b, tg, sub, tv, ht, hf⟩ := hs i d ri hd hri
      refine tg.2 F0 H0 F2 H2 _ x (R'.grow g2) rx _ fun σ3 R3 l3 k3 => ⟨?_, ?_⟩
      · rw [wipe_same l3 k3 sub, wipe_wipe]
      · refine tv F0 H0 F2 H2 σ3 R3 _ fun F3 H3 g3 => ?_
        have gA := (g'.trans g2).trans g3
        have RA := (R'.grow g2).grow g3
        have nD : F3 Dl = none := g3.n _ _ (g2.h _ _ hDH) rfl (g2.n _ _ hDH rfl hDF)
        cases b with
        | false =>
          show ∃ F2 acc, _
          refine ⟨F3, acc, gA, RA, (ex.trans g2.f).trans g3.f, nD, g3.h _ _ (g2.h _ _ hDH), ?_⟩
          rw [fm_take hri, hf rfl]
          simpa using (ra.mono g2.f).mono g3.f
        | true =>
          obtain ⟨yv, ey, hy⟩ := ht rfl
          show te σ3 H3 _
          refine hy F0 H0 F3 H3 σ3 (R3.grow g3) _ fun v F4 H4 g4 r4 => ?_
          have nD4 : F4 Dl = none := g4.n _ _ (g3.h _ _ (g2.h _ _ hDH)) rfl nD
          have hD4 : H4 Dl = some (.lst acc) := g4.h _ _ (g3.h _ _ (g2.h _ _ hDH))
          have rA := ((ra.mono g2.f).mono g3.f).mono g4.f
          refine ⟨acc, hD4, ?_, F4, acc ++ [v], (gA.trans g4).side hD0 nD4, (RA.grow g4).side hD00 nD4 fr, ((ex.trans g2.f).trans g3.f).trans g4.f, nD4, upd_same, ?_⟩
          · rw [rA.length, sizeLine_eq]
            have l1 := List.length_filterMap_le id (ys.take i)
            have l2 := List.length_take_le i ys
            omega
          · rw [fm_take hri, ey]
            exact rA.append (.cons r4 .nil)
    · have e : i = ds.length := by omega
      subst e
      refine .inl ⟨src.stop _ _ a' R'.ex, q Dl acc F' H' g' hD0 hDF hDH ?_⟩
      rw [← hy, List.take_length] at ra
      exact ra
theorem ev_lcI {wi : TI} {g : TG} {vs : List Nat} {ys : List (Option D)} (hw : WiD K wi ρ ds) (hs : ∀ (i : Nat) (d : D) (r : Option D), ds[i]? = some d → ys[i]? = some r → Cmp1 K g tt te vs (wipeS ρ vs) d r) (hy : ys.length = ds.length) (hl : ds.length ≤ 16777215) :
    EvL K (tLc wi g tt te vs) ρ (ys.filterMap id) := fun F0 H0 F H σ R Q q => lc_atI R (hw F0 H0 F H σ R) hs hy hl q
theorem fm_some {α β : Type} (f : α → β) : ∀ l : List α, (l.map fun a => some (f a)).filterMap id = l.map f
  | [] => rfl
  | a :: l => by rw [List.map_cons, List.filterMap_cons]; exact congrArg _ (fm_some f l)
theorem fm_if {α β : Type} (p : α → Bool) (f : α → β) : ∀ l : List α, (l.map fun a => if p a then some (f a) else none).filterMap id = (l.filter p).map f
  | [] => rfl
  | a :: l => by
    rw [List.map_cons, List.filterMap_cons]
    cases e : p a with
    | true => rw [List.filter_cons, e]; exact congrArg _ (fm_if p f l)
    | false => rw [List.filter_cons, e]; exact fm_if p f l
/-- [y(a) for a in xs] -/
theorem evl_map {α : Type} {wi : TI} {g : TG} {vs : List Nat} {e : α → D} {as : List α} (f : α → D) (hw : WiD K wi ρ (as.map e)) (h : ∀ a ∈ as, ∃ is ρ1, TgD K g is (e a) (wipeS ρ vs) ρ1 ∧ (∀ j ∈ is, j ∈ vs) ∧ EvD K te ρ1 (f a)) (hl : as.length ≤ 16777215) :
    EvL K (tLc wi g tYes te vs) ρ (as.map f) := by
  have z := ev_lcI (K := K) (tt := tYes) (te := te) (g := g) (vs := vs) (ys := as.map fun a => some (f a)) hw (fun i d r h1 h2 => by
    rw [List.getElem?_map] at h1 h2
    cases q : as[i]? with
    | none => rw [q] at h1; cases h1
    | some a =>
      rw [q] at h1 h2
      cases h1; cases h2
      obtain ⟨is, ρ1, x1, x2, x3⟩ := h a (List.mem_of_getElem? q)
      exact ⟨is, ρ1, true, x1, x2, tv_yesD, fun _ => ⟨_, rfl, x3⟩, fun z => nomatch z⟩) (by simp) (by simpa using hl)
  rw [fm_some] at z
  exact z
/-- [y(a) for a in xs if p(a)] -/
theorem evl_filter {α : Type} {wi : TI} {g : TG} {vs : List Nat} {e : α → D} {as : List α} (p : α → Bool) (f : α → D) (hw : WiD K wi ρ (as.map e)) (h : ∀ a ∈ as, ∃ is ρ1, TgD K g is (e a) (wipeS ρ vs) ρ1 ∧ (∀ j ∈ is, j ∈ vs) ∧ TvD K tt ρ1 (p a) ∧ (p a = true → EvD K te ρ1 (f a))) (hl : as.length ≤ 16777215) :
    EvL K (tLc wi g tt te vs) ρ ((as.filter p).map f) := by
  have z := ev_lcI (K := K) (tt := tt) (te := te) (g := g) (vs := vs) (ys := as.map fun a => if p a then some (f a) else none) hw (fun i d r h1 h2 => by
    rw [List.getElem?_map] at h1 h2
    cases q : as[i]? with
    | none => rw [q] at h1; cases h1
    | some a =>
      rw [q] at h1 h2
      cases h1; cases h2
      obtain ⟨is, ρ1, x1, x2, x3, x4⟩ := h a (List.mem_of_getElem? q)
      exact ⟨is, ρ1, p a, x1, x2, x3, fun z => ⟨_, by show (if p a = true then some (f a) else none) = _; rw [if_pos z], x4 z⟩, fun z => by show (if p a = true then some (f a) else none) = _; rw [if_neg (by rw [z]; simp)]⟩) (by simp) (by simpa using hl)
  rw [fm_if] at z
  exact z
/-- over the keys of the dict in slot s, which may be locked meanwhile -/
theorem evl_lcKeysI {s : Nat} {g : TG} {vs : List Nat} {ys : List (Option D)} {u0 : D} (hs : ρ[s]? = some (.d u0)) (hd : KeysD u0 ds) (hf : ∀ (i : Nat) (d : D) (r : Option D), ds[i]? = some d → ys[i]? = some r → Cmp1 K g tt te vs (wipeS ρ vs) d r) (hy : ys.length = ds.length) (hl : ds.length ≤ 16777215) :
    EvL K (tLockEA (tLc (iSeq K (tVar s)) g tt te vs)) ρ (ys.filterMap id) := fun F0 H0 F H σ R Q q => by
  obtain ⟨v, h1, rv⟩ := R.get hs
  obtain ⟨a, rfl, hk | ⟨u, ha, hm, hu, hst, hL⟩⟩ := dict_state rv hd
  · exact .inr (lc_atI R (fun R' hR => wi_locked R.ex h1 hk R' hR) hf hy hl q)
  · refine .inl ⟨a, u, R.ex _ _ ha, hm, fun ob => ?_⟩
    have hH : H a = some u := R.ex _ _ ha
    have R1 := R.lk (u := u) (l := .frz ob u) ha (hst ob) hu
    have eF : DL.lk a u (.frz ob u) F a = some (.frz ob u) := lk_at ha
    have eH : DL.lk a u (.frz ob u) H = upd H a (.frz ob u) := lk_upd hH
    rw [← eH]
    refine lc_atI R1 (fun R' hR => wi_locked R1.ex h1 (hL ob _ eF) R' hR) hf hy hl fun p ws F2 H2 g2 hp hf2 h2 r2 => ?_
    have e2 : F2 a = some (.frz ob u) := g2.f _ _ eF
    have pa : p ≠ a := fun z => by
      subst z
      rw [e2] at hf2; cases hf2
    have hpH : H p = none := by rw [eH, upd_ne pa] at hp; exact hp
    have R2 : RelS K (DL.lk a u (.frz ob u) F0) (DL.lk a u (.frz ob u) H0) F2 H2 σ ρ := R1.grow g2
    have R3 := R.unlk ha (hst ob) hu R2 e2
    have tol : Tol F2 (upd F2 a u) := fun b o h => by
      by_cases z : b = a
      · subst z; rw [e2] at h; cases h; exact ⟨u, upd_same, (hst ob).symm⟩
      · exact ⟨o, by rw [upd_ne z]; exact h, rfl⟩
    refine ⟨g2.h _ _ (by rw [eH]; exact upd_same), q p ws (upd F2 a u) (upd H2 a u) ⟨ex_unlk ha g2.f, ?_, ?_, ?_⟩ hpH (by rw [upd_ne pa]; exact hf2) (by rw [upd_ne pa]; exact h2) (r2.tol tol)⟩
    · exact ex_unlk (l := .frz ob u) hH g2.h
    · exact g2.s.updB
    · intro b o h1 t h2
      by_cases z : b = a
      · subst z; rw [ha] at h2; cases h2
      · rw [upd_ne z]
        exact g2.n b o (by rw [lk_ne z]; exact h1) t (by rw [lk_ne z]; exact h2)
theorem evl_mapKeys {α : Type} {s : Nat} {g : TG} {vs : List Nat} {e : α → D} {as : List α} {u0 : D} (f : α → D) (hs : ρ[s]? = some (.d u0)) (hd : KeysD u0 (as.map e)) (h : ∀ a ∈ as, ∃ is ρ1, TgD K g is (e a) (wipeS ρ vs) ρ1 ∧ (∀ j ∈ is, j ∈ vs) ∧ EvD K te ρ1 (f a)) (hl : as.length ≤ 16777215) :
    EvL K (tLockEA (tLc (iSeq K (tVar s)) g tYes te vs)) ρ (as.map f) := by
  have z := evl_lcKeysI (K := K) (tt := tYes) (te := te) (g := g) (vs := vs) (ys := as.map fun a => some (f a)) hs hd (fun i d r h1 h2 => by
    rw [List.getElem?_map] at h1 h2
    cases q : as[i]? with
    | none => rw [q] at h1; cases h1
    | some a =>
      rw [q] at h1 h2
      cases h1; cases h2
      obtain ⟨is, ρ1, x1, x2, x3⟩ := h a (List.mem_of_getElem? q)
      exact ⟨is, ρ1, true, x1, x2, tv_yesD, fun _ => ⟨_, rfl, x3⟩, fun z => nomatch z⟩) (by simp) (by simpa using hl)
  rw [fm_some] at z
  exact z
end
end DL
namespace DL
open PySem PySem.Spec PyProof.Rows L2
section
variable {K : PySem.W.Frag} {W : WX} {ρ : List Sl} {te : TE} {ds : List D}
theorem reps_empty {F : Hp} {vs : List V} (r : Reps K F vs ds) : vs.isEmpty = ds.isEmpty := by
  cases r <;> rfl
theorem tv_truT (h : EvD K te ρ (.tup ds)) : TvD K (tTru K te) ρ (!ds.isEmpty) := fun F0 H0 F H σ R Q q => h F0 H0 F H σ R _ fun v F1 H1 g1 r1 => by
  cases r1 with
  | tup h1 rs =>
    refine ⟨_, .inr (.inl ⟨_, SqT.of (g1.s _ _ h1), rfl⟩), ?_⟩
    rw [reps_empty rs]
    exact q F1 H1 g1
theorem tv_truL (h : EvSL K te ρ ds) : TvD K (tTru K te) ρ (!ds.isEmpty) := fun F0 H0 F H σ R Q q => h F0 H0 F H σ R _ fun p vs F1 H1 g1 s1 rs => by
  refine ⟨_, .inl ⟨_, s1, rfl⟩, ?_⟩
  rw [reps_empty rs]
  exact q F1 H1 g1
end
end DL
set_option Elab.async false
set_option linter.all false
set_option maxRecDepth 100000
set_option maxHeartbeats 1000000
/-! list(d.items()), displays of dicts with int and text keys, over plain data. -/
namespace DL
open PySem PySem.Spec PyProof.Rows L2
/-! ### the rules of syntax -/
/-- list(x.items()), x a dict, locked or not -/
def tItemsR (te : TE) : TE := fun σ H Q => te σ H fun x H1 => ∃ (d : Addr) (kvs : List (Key × V)), x = .ref d ∧ Rd H1 d (.dK kvs) ∧
  ∀ (H' : Hp) (p : Addr) (ts : List Addr), (∀ b o, H1 b = some o → H' b = some o) → H1 p = none → (∀ t ∈ ts, H1 t = none) → p ∉ ts → H' p = some (.lst (ts.map V.ref)) → Paired (fun (t : Addr) (q : Key × V) => H' t = some (.tup [kV q.1, q.2])) ts kvs → Q (.ref p) H'
section
variable {X : Cx} {e : Expr} {te : TE} {p apos cpos pos : Pos}
theorem pe_itemsR (hc : X.calm = true) (he : PE X e te) (hg : Gl X "list") (hm : X.mg "list" = none) (hv : bootBuiltins "list" = some (.type "list")) (hbase : attributeBase e "items" X.env (eval e X.env) = eval e X.env := by rfl)
    (hline : (apos.endLine == cpos.line) = true := by rfl) (hs : starEach [.Call (.Attribute e "items" apos) [] [] cpos] X.env = (false, eval (.Call (.Attribute e "items" apos) [] [] cpos) X.env) :: starEach [] X.env := by rfl) : PE X (.Call (.Name "list" p) [.Call (.Attribute e "items" apos) [] [] cpos] [] pos) (tItemsR te) := by
  refine ⟨fun pins s σ H Q I hq => wpAny_Call_Name_kw (ld_blt I hg hm hv (PyProof.Rows.callWith_type1 ?_ hs rfl))⟩
  rw [hs]
  show wpAny _ _ (spliced ((false, eval (.Call (.Attribute e "items" apos) [] [] cpos) X.env) :: backTo pos (starEach [] X.env))) _ _ s
  refine Calls.spliced_cons (wpAny_Call_method (T := "dict") (id := "dict.items") hbase rfl hline F.plainAttrs_dict F.slot_dict_items F.type_dict_items (thn (he.run pins s σ H _ I hq) fun u s1 ⟨x, H1, I1, rx, d, kvs, ex, hd, q⟩ => ?_))
  subst ex; obtain rfl : u = Value.ref d := rx
  obtain ⟨hz, hs0, vs, kv, hdo⟩ := dk_rd I1.hok hd
  obtain ⟨ep, hat⟩ := hdo.dictAt
  have lk : kvs.length = vs.length := Paired.length kv
  have I2 := I1.kept (h' := s1.heap.push { cls := .type "dict_items", data := .fields #[.ref d] }) (t' := s1.toks) fun b ob q => Heap.get?_push_of_some _ q
  refine ⟨hdo.typeIs, hdo.mapOf.noDict, ?_⟩
  show wpAny _ _ (callWith cpos (.builtin "dict.items") [.ref d] [] []) _ X.xe s1
  refine method_meetsIn F.slot_dict_items F.entry_dict_items rfl (PySem.evalArgs_none ⟨rfl, hdo.typeIs, F.args_dict_items_1 _, _, meets_dict_items (mixKind X.prog X.w) d hs0, ⟨vs, hdo⟩, Calls.spliced_nil ?_⟩)
  refine PySem.W.kdx_call (knd := mixKind X.prog X.w) (kvs := vs) (ep := ep) (I1.ok.hd hc) ⟨_, Heap.get?_push_size _ rfl, rfl, rfl⟩ (hat.push _) (by omega) fun h' tk acc c as hk hS hl hG hacc => ?_
  obtain ⟨H', k1, k2, k3, k4, k5, k6, J⟩ := LiI.items_laid (tk := tk) I2 hz kv hk hS hl hG hacc; exact ⟨.ref _, H', J, rfl, q H' _ as k1 k2 k3 k4 k5 k6⟩
end
/-! ### over plain data -/
section
variable {K : PySem.W.Frag} {W : WX} {ρ ρ' : List Sl} {te ta tb : TE} {d x y z : D} {xs ds zs : List D} {i : Nat}
theorem items_known {F H : Hp} (e : Ex F H) : ∀ {ts : List Addr} {ws : List (Key × V)} {kvs : List (Key × D)}, Paired (fun (t : Addr) (q : Key × V) => H t = some (.tup [kV q.1, q.2])) ts ws → KR K F ws kvs → ∃ F', Gr F H F' H ∧ Reps K F' (ts.map V.ref) (kvs.map fun kv => .tup [kD kv.1, kv.2])
  | _, _, _, .nil, .nil => ⟨F, .refl e, .nil⟩
  | t :: _, (k, v) :: _, (_, d) :: _, .cons h hs, .cons hr rs => by
    obtain ⟨F1, g1, r1⟩ := items_known e hs rs
    obtain ⟨F2, g2, h2⟩ := Gr.tup g1.s h
    exact ⟨F2, g1.trans g2, .cons (.tup h2 (.cons (rep_key k) (.cons (hr.mono (g1.trans g2).f) .nil))) (r1.mono g2.f)⟩
theorem evl_items {kvs : List (Key × D)} (h : EvDK K te ρ kvs) : EvL K (tItemsR te) ρ (kvs.map fun kv => .tup [kD kv.1, kv.2]) := fun F0 H0 F H σ R Q q =>
  h F0 H0 F H σ R _ fun a ws F1 H1 g1 s1 r1 => ⟨a, ws, rfl, s1, fun H' p ts k1 k2 k3 k4 k5 k6 => by
    have g2 : Gr F1 H1 F1 H' := ⟨Ex.refl _, k1, g1.s.trans k1, fun _ _ _ _ h => h⟩
    obtain ⟨F2, g3, r3⟩ := items_known (K := K) g2.s k6 r1
    have gA := g1.trans (g2.trans g3)
    have fp : F2 p = none := g3.n p _ k5 rfl (g1.s.back k2)
    exact q p _ F2 H' gA (g1.h.back k2) fp k5 r3⟩
theorem ev_dnewK : EvD K tDNewK ρ (.dk [] []) := fun F0 H0 F H σ R Q q => fun a ha => q (.ref a) (upd F a (.dK [])) (upd H a (.dK [])) (.new R.ex ha) (.dk upd_same rfl rfl .nil)
theorem ev_disp1K {k : Key} (hk : EvD K ta ρ (kD k)) (hv : EvD K tb ρ d) : EvD K (tDisp [(ta, tb)]) ρ (.dk [k] [d]) := fun F0 H0 F H σ R Q q => fun p hp => by
  have g0 : Gr F H F (upd H p (.dK [])) := .own R.ex hp
  have fp : F p = none := R.ex.back hp
  refine hk F0 H0 F _ σ (R.grow g0) _ fun x F1 H1 g1 r1 => hv F0 H0 F1 H1 σ (R.grow (g0.trans g1)) _ fun y F2 H2 g2 r2 => ?_
  have ex := rep_kD r1
  subst ex
  have gA := (g0.trans g1).trans g2
  have h2 : H2 p = some (.dK []) := (g1.trans g2).h _ _ upd_same
  have f2 : F2 p = none := (g1.trans g2).n p _ upd_same rfl fp
  refine ⟨h2, [(k, y)], rfl, by show 1 ≤ 15; decide, ?_⟩
  refine q (.ref p) (upd F2 p (.dK [(k, y)])) (upd H2 p (.dK [(k, y)])) ⟨gA.f.trans (Ex.new f2), gA.h.mut hp, gA.s.updB, fun b o h1 t h3 => ?_⟩ (.dk (vs := [y]) upd_same rfl rfl (.cons (r2.mono (Ex.new f2)) .nil))
  rw [upd_ne (ne_of_none h1 hp)]
  exact gA.n b o h1 t h3
end
/-! ### sorted(d), list(d): a dict with int and text keys, locked or not -/
section
variable {X : Cx}
theorem cr_sortK (hc : X.calm = true) (hu : X.A.units + 64 < cLine) : CallR X (.builtin "sorted") rSortK := by
  intro pins s σ H xs us Q I r h
  obtain ⟨a, ws, rfl, hd, so, q⟩ := h
  obtain ⟨u, rfl, rx⟩ := r.one
  cases rx
  obtain ⟨z, hs, vs, kv, hdo⟩ := dk_rd I.hok hd
  obtain ⟨ep, hat⟩ := hdo.dictAt
  have hl : ws.length = vs.length := Paired.length kv
  refine Calls.call_function_entry kind_sorted plain_sorted entry_sorted (args_sorted1 _) ?_
  unfold Builtin.«sorted»
  refine wpAny_bind (m := checkCount "sorted" 1 1 _) (wpAny_pure ?_)
  refine wpAny_bind (PySem.W.kdu_collect (A := X.A.in1) (PySem.W.kdl_dict (knd := mixKind X.prog X.w) (kvs := vs) (ep := ep) hs) (I.ok.hd hc) hat (by omega) fun h' tk acc hk hacc => ?_)
  have I1 : Inv X pins σ H { s with heap := h', toks := tk } := I.kept hk
  have rv : Vals ((ws.map fun kv => (kV kv.1, keyPy kv.1)).map (·.1)) acc.toList := by
    rw [List.map_map]
    have el : acc.toList.length = acc.size := by simp
    refine vals_of_at (by rw [List.length_map, el, hacc.1, hl]) fun j x w h1 h2 => ?_
    obtain ⟨k, y, hky, hi⟩ := hacc.2 j w (by rw [← Array.getElem?_toList]; exact h2)
    have e1 : (ws.map (·.1))[j]? = some k := by
      rw [KV.keys kv, List.getElem?_map, hky] <;> rfl
    have e2 : (ws.map ((·.1) ∘ fun kv : Key × V => (kV kv.1, keyPy kv.1)))[j]? = some (kV k) := by
      have e3 : (ws.map ((·.1) ∘ fun kv : Key × V => (kV kv.1, keyPy kv.1))) = (ws.map (·.1)).map kV := by rw [List.map_map] <;> rfl
      rw [e3, List.getElem?_map, e1] <;> rfl
    rw [e2] at h1
    cases h1
    exact keyIs_rel hi
  refine wpAny_bind (wpAny_newList ?_ (by rw [Array.length_toList, hacc.1]; omega))
  show wpAny _ _ _ _ _ { s with heap := h'.push (seqObj "list" acc.toList.toArray 0), toks := tk }
  refine wpAny_bind (wpAny_holding (wpAny_mono (sort_tail (X := X) (pins := pins) (σ := σ) (s := s) (Q := Q) (R := fun _ s' => EP X pins σ Q (.ref h'.objs.size) s') hu I1 rv (fun b hb => ?_) (by rw [List.map_map]; exact so) (fun b hb => ?_) (fun p hp => q p hp) (fun s' h => h) _ (by show X.A.units + 1 ≤ _; omega)) (fun _ s' h => ?_) fun _ _ h => h))
  · obtain ⟨w, _, rfl⟩ := List.mem_map.mp hb
    cases w.1 with
    | inl i => exact .int i
    | inr z => exact .str z
  · obtain ⟨w, _, rfl⟩ := List.mem_map.mp hb
    exact noL_key w.1
  · exact wpAny_pure ⟨_, rfl, h⟩
def rListRd : List V → Hp → VK → Prop := fun xs H Q => ∃ (p : Addr) (kvs : List (Key × V)), xs = [.ref p] ∧ Rd H p (.dK kvs) ∧ ∀ q, H q = none → Q (.ref q) (upd H q (.lst (kvs.map fun kv => kV kv.1)))
theorem cr_listRd (hc : X.calm = true) : CallR X (.type "list") rListRd := by
  intro pins s σ H xs us Q I r h
  obtain ⟨p, kvs, e, hk, q⟩ := h
  subst e
  obtain ⟨u, rfl, rx⟩ := r.one
  cases rx
  obtain ⟨z, lo, vs, rk, hd⟩ := dk_rd I.hok hk
  obtain ⟨ep, hat⟩ := hd.dictAt
  have hl : kvs.length = vs.length := Paired.length rk
  refine PySem.W.kdl_call (PySem.W.kdl_dict (knd := mixKind X.prog X.w) (kvs := vs) (ep := ep) lo) (I.ok.hd hc) hat (by rw [← hl]; exact z) fun h' tk acc' c' hkeep hS hacc => ?_
  refine ⟨.ref s.heap.objs.size, upd H s.heap.objs.size (.lst (kvs.map fun kv => kV kv.1)), I.laid hkeep (Nat.le_refl _) (show ObjOk X.prog X.w _ _ _ (.lst (kvs.map fun kv => kV kv.1)) from ⟨?_, acc'.toList, c', ?_, ?_⟩), rfl, q _ (I.hok.fresh (Nat.le_refl _))⟩
  · rw [List.length_map]; exact z
  · have el : acc'.toList.length = acc'.size := by simp
    refine vals_of_at (by rw [List.length_map, el, hacc.1, hl]) fun j x w h1 h2 => ?_
    obtain ⟨k, y, hky, hi⟩ := hacc.2 j w (by rw [← Array.getElem?_toList]; exact h2)
    have e1 : (kvs.map (·.1))[j]? = some k := by
      rw [KV.keys rk, List.getElem?_map, hky] <;> rfl
    have e2 : (kvs.map fun kv => kV kv.1)[j]? = some (kV k) := by
      have e3 : (kvs.map fun kv => kV kv.1) = (kvs.map (·.1)).map kV := by rw [List.map_map] <;> rfl
      rw [e3, List.getElem?_map, e1] <;> rfl
    rw [e2] at h1
    cases h1
    exact keyIs_rel hi
  · rw [Array.toArray_toList]; exact hS
end
section
variable {K : PySem.W.Frag} {W : WX} {ρ ρ' : List Sl} {te ta tb : TE} {d x y z : D} {xs ds zs : List D} {i : Nat}
theorem zipK {F : Hp} : ∀ {ws : List (Key × V)} {kvs : List (Key × D)}, KR K F ws kvs → ∃ cs : List (V × D), (ws.map fun kv => (kV kv.1, keyPy kv.1)) = cs.map (fun c => (c.1, c.2.py)) ∧ (kvs.map fun kv => kD kv.1) = cs.map (·.2) ∧ ∀ c ∈ cs, Rep K F c.1 c.2
  | _, _, .nil => ⟨[], rfl, rfl, fun _ z => nomatch z⟩
  | (k, v) :: _, (_, d) :: _, .cons hr rs => by
    obtain ⟨cs, e1, e2, e3⟩ := zipK rs
    refine ⟨(kV k, kD k) :: cs, ?_, ?_, fun c hc => ?_⟩
    · rw [List.map_cons, e1, List.map_cons, py_kD]
    · rw [List.map_cons, e2, List.map_cons]
    · rcases List.mem_cons.mp hc with e | e
      · rw [e]; exact rep_key k
      · exact e3 c e
theorem evl_sortK {kvs : List (Key × D)} (h : EvDK K te ρ kvs) (so : SortOk (kvs.map fun kv => keyPy kv.1)) : EvL K (tCB rSortK (tCons te tNil)) ρ (sortD (kvs.map fun kv => kD kv.1)) := fun F0 H0 F H σ R Q q =>
  h F0 H0 F H σ R _ fun a ws F1 H1 g1 s1 r1 => by
    have ek := r1.keys
    have e0 : (ws.map fun kv => keyPy kv.1) = kvs.map fun kv => keyPy kv.1 := by
      have : (ws.map (·.1)).map keyPy = (kvs.map (·.1)).map keyPy := by rw [ek]
      rw [List.map_map, List.map_map] at this; exact this
    obtain ⟨cs, c1, c2, c3⟩ := zipK r1
    refine ⟨a, ws, rfl, s1, by rw [e0]; exact so, fun p hp => ?_⟩
    have rr := reps_sorted c3
    rw [← c2] at rr
    rw [c1]
    exact q p _ F1 _ (g1.trans (.own g1.s hp)) (g1.h.back hp) (g1.s.back hp) upd_same rr
theorem evl_listRd {kvs : List (Key × D)} (h : EvDK K te ρ kvs) : EvL K (tCB rListRd (tCons te tNil)) ρ (kvs.map fun kv => kD kv.1) := fun F0 H0 F H σ R Q q =>
  h F0 H0 F H σ R _ fun a ws F1 H1 g1 s1 r1 => ⟨a, ws, rfl, s1, fun l hl => q l _ F1 _ (g1.trans (.own g1.s hl)) (g1.h.back hl) (g1.s.back hl) upd_same (reps_krKeys r1)⟩
end
end DL
set_option Elab.async false
set_option linter.all false
set_option maxRecDepth 100000
set_option maxHeartbeats 1000000
/-! Tuples whose object is known; dict(p) of such a tuple of pairs; dict comprehensions; range with a step of -1. -/
namespace DL
open PySem PySem.Spec PyProof.Rows L2
/-! ### the rules of syntax -/
def rTupZ (K : PySem.W.Frag) : List V → Hp → VK → Prop := fun xs H Q => ∃ p ys, xs = [.ref p] ∧ SqL K H p ys ∧ ∀ l o, GoodT o → H l = none → Q (.ref l) (upd H l (.frz o (.tup ys)))
def rDictT (K : PySem.W.Frag) : List V → Hp → VK → Prop := fun xs H Q => ∃ (a : Addr) (ob : Obj) (ps : List Addr) (kvs : List (Key × V)), xs = [.ref a] ∧ H a = some (.frz ob (.tup (ps.map V.ref))) ∧ GoodT ob ∧ Paired (fun p kv => SqT K H p [kV kv.1, kv.2]) ps kvs ∧
  ∀ p, H p = none → Q (.ref p) (upd H p (.dK (mergeK [] kvs)))
section
variable {X : Cx}
theorem call_tuple_ofZ : CallR X (.type "tuple") (rTupZ X.K) := by
  intro pins s σ H xs us Q I r h
  obtain ⟨p, ys, rfl, hq, q⟩ := h
  obtain ⟨u, rfl, rx⟩ := r.one
  cases rx
  obtain ⟨its, r', pl, hz⟩ := I.list hq
  have hlen := r'.length
  refine call_tuple_list pl.isList (fun h' kp => ?_) (by simp only [List.size_toArray] <;> omega)
  have I1 : Inv X pins σ H { s with heap := h' } := I.kept (t' := s.toks) kp
  have I2 : Inv X pins σ (upd H h'.objs.size (.frz { cls := .type "tuple", data := .seq its.toArray } (.tup ys))) { s with heap := h'.push { cls := .type "tuple", data := .seq its.toArray } } :=
    I1.laid (t' := s.toks) (fun b o e => Heap.get?_push_of_some _ e) (Nat.le_refl _) (show ObjOk X.prog X.w _ _ _ (.frz { cls := .type "tuple", data := .seq its.toArray } (.tup ys)) from ⟨Heap.get?_push_size _ rfl, hz, its, r', IsTup.new _ _⟩)
  exact ⟨.ref h'.objs.size, _, I2, rfl, q _ _ ⟨rfl, rfl, _, _, rfl⟩ (I1.hok.fresh (Nat.le_refl _))⟩
theorem pairs_ofV {pins : List (Addr × Obj)} {σ : L2.St} {H : Hp} {s : Shared} (I : Inv X pins σ H s) : ∀ {ps : List Addr} {kvs : List (Key × V)}, Paired (fun p kv => SqT X.K H p [kV kv.1, kv.2]) ps kvs →
    ∃ (prs : List (Key × Value)) (us : List (Value × Value)), KV kvs prs ∧ prs.length = ps.length ∧ us.length = ps.length ∧ ∀ (j : Nat) (k v : Value), us[j]? = some (k, v) → ∃ (b : Addr) (q : Key), ps[j]? = some b ∧ prs[j]? = some (q, v) ∧ IsTup s.heap b #[k, v] ∧ keyIs q k = true
  | _, _, .nil => ⟨[], [], .nil, rfl, rfl, fun j k v e => by simp at e⟩
  | _, _, .cons (a := p) (b := kv) h t => by
    obtain ⟨prs, us, r, hl, hu, hp⟩ := pairs_ofV I t
    obtain ⟨its, rv, ht, _⟩ := I.tuple h
    obtain ⟨u, y, ei, ru, ry⟩ := vals2 rv
    subst ei
    refine ⟨(kv.1, y) :: prs, (u, y) :: us, .cons ⟨rfl, ry⟩ r, by rw [List.length_cons, List.length_cons, hl], by rw [List.length_cons, List.length_cons, hu], fun j k v e => ?_⟩
    cases j with
    | zero =>
      have e' : (u, y) = (k, v) := Option.some.inj e
      cases e'
      exact ⟨p, kv.1, rfl, rfl, ht, kV_is (P := X.prog) (w := X.w) ru⟩
    | succ j =>
      obtain ⟨b, u', e1, e2, e3⟩ := hp j k v (by simpa using e)
      exact ⟨b, u', by simpa using e1, by simpa using e2, e3⟩
theorem call_dictT (hcalm : X.calm = true) : CallR X (.type "dict") (rDictT X.K) := by
  intro pins s σ H xs us Q I r q
  obtain ⟨a, ob, ps, kvs, rfl, hq, hg, hp, q⟩ := q
  obtain ⟨u, rfl, rx⟩ := r.one
  cases rx
  obtain ⟨hget, hz, its, rv, o', ho', hc', n', hd'⟩ := (show ObjOk X.prog X.w H s.heap a (.frz ob (.tup (ps.map V.ref))) from I.hok a _ hq)
  rw [hget] at ho'
  cases ho'
  have ei := refs_at rv
  subst ei
  rw [List.length_map] at hz
  obtain ⟨prs, vs, rel, hl, hu, hpr⟩ := pairs_ofV I hp
  refine call_dict_pairs (knd := mixKind X.prog X.w) (kvs := prs) (PairArg.tuple a ((ps.map Value.ref).toArray) (fun j => ps.getD j 0) vs) (I.ok.hd hcalm) ⟨⟨ob, n', hget, hc', hg.2.1, hd'⟩, by simp [hu], fun j k v e => ?_⟩ ⟨by rw [hl, hu], fun i key v e => ?_⟩ (by rw [hu]; exact hz) fun h' tk hd' k => ?_
  · obtain ⟨b, q', e1, e2, e3, e4⟩ := hpr j k v e
    refine ⟨by simp [e1], .inl ?_⟩
    have : ps.getD j 0 = b := by rw [List.getD_eq_getElem?_getD, e1]; rfl
    show s.heap.IsTuple (ps.getD j 0) #[k, v]
    rw [this]; exact e3
  · obtain ⟨b, q', e1, e2, e3, e4⟩ := hpr i key v e
    exact ⟨q', e2, e4⟩
  · have hm : (s.heap.objs.size == sysModules) = false := beq_eq_false_iff_ne.mpr (Nat.ne_of_gt I.big)
    have hlen : (mergeK [] kvs).length ≤ sizeLine := by
      refine Nat.le_trans (length_mergeK kvs []) ?_
      rw [List.length_nil, Nat.zero_add, rel.length, hl]
      exact hz
    exact ⟨.ref s.heap.objs.size, upd H s.heap.objs.size (.dK (mergeK [] kvs)), I.laid (t' := tk) (fun b o e => k b o (by simp) e) (Nat.le_refl _) (show ObjOk X.prog X.w _ _ _ (.dK (mergeK [] kvs)) from ⟨hlen, hm, merged [] prs, KV.merge rel .nil, hd'⟩), rfl, q _ (I.hok.fresh (Nat.le_refl _))⟩
end
/-! ### over plain data -/
section
variable {K : PySem.W.Frag} {W : WX} {ρ ρ' : List Sl} {te ta tb tk tv : TE} {d x y z : D} {xs ds zs : List D} {i : Nat}
theorem ev_tupZL (h : EvSL K te ρ ds) : EvD K (tCB (rTupZ K) (tCons te tNil)) ρ (.tupZ ds) := ev_cbSL h fun F H e p vs s r Q q =>
  ⟨p, vs, rfl, s, fun l o g hl => q _ (upd F l (.frz o (.tup vs))) _ (.new e hl) (.tupZ upd_same g (r.mono (Ex.new (e.back hl))))⟩
theorem src_tupZ {a : Addr} {ob : Obj} {vs : List V} : Src K (Itt K a) ds (fun F => F a = some (.frz ob (.tup vs)) ∧ Reps K F vs ds) where
  keep := fun F F' h e => ⟨e _ _ h.1, h.2.mono e⟩
  go := fun i F H hi h e => walk_tup.goes i H (by rw [h.2.length]; exact hi) (.inl (.inr ⟨_, e _ _ h.1⟩))
  stop := fun F H h e => by rw [← h.2.length]; exact walk_tup.stops H (.inl (.inr ⟨_, e _ _ h.1⟩))
  yld := fun i F H x H' d hd h e y => by
    have hi : i < vs.length := by rw [h.2.length]; exact (List.getElem?_eq_some_iff.mp hd).1
    obtain ⟨rfl, hx⟩ := walk_tup.yields i H x H' hi (.inl (.inr ⟨_, e _ _ h.1⟩)) y
    obtain ⟨d', h1, h2⟩ := h.2.get hx
    rw [hd] at h1; cases h1
    exact ⟨F, .refl e, h2⟩
theorem wi_tupZ (h : EvD K te ρ (.tupZ ds)) : WiD K (iTup K te) ρ ds := fun F0 H0 F H σ R Q q => h F0 H0 F H σ R _ fun v F1 H1 g1 r1 => by
  cases r1 with
  | tupZ h1 _ rs => exact ⟨_, rfl, ⟨_, .inl (.inr ⟨_, g1.s _ _ h1⟩)⟩, q _ _ F1 H1 g1 src_tupZ ⟨h1, rs⟩⟩
theorem tg_tupZ {gs : TGs} {is : List Nat} {n : Nat} (h : TgsD K gs is ds ρ ρ') (hn : ds.length = n) : TgD K (gTup K n gs) is (.tupZ ds) ρ ρ' := ⟨h.1, fun F0 H0 F H σ v R r Q q => by
  cases r with
  | tupZ h1 _ rs => exact ⟨_, _, rfl, .inl (.inr ⟨_, R.ex _ _ h1⟩), by rw [rs.length]; exact hn, h.2 F0 H0 F H σ _ R rs Q q⟩⟩
theorem tg_seqZ {gs : TGs} {is : List Nat} {n : Nat} (h : TgsD K gs is ds ρ ρ') (hn : ds.length = n) : TgD K (gSeqA K n gs) is (.tupZ ds) ρ ρ' := ⟨h.1, fun F0 H0 F H σ v R r Q q => .inl ((tg_tupZ h hn).2 F0 H0 F H σ v R r Q q)⟩
theorem tv_truZ (h : EvD K te ρ (.tupZ ds)) : TvD K (tTru K te) ρ (!ds.isEmpty) := fun F0 H0 F H σ R Q q => h F0 H0 F H σ R _ fun v F1 H1 g1 r1 => by
  cases r1 with
  | tupZ h1 _ rs =>
    refine ⟨_, .inr (.inl ⟨_, .inl (.inr ⟨_, g1.s _ _ h1⟩), rfl⟩), ?_⟩
    rw [reps_empty rs]
    exact q F1 H1 g1
/-- a new dict -/
def EvDN (K : PySem.W.Frag) (te : TE) (ρ : List Sl) (kvs : List (Key × D)) : Prop := ∀ (F0 H0 F H : Hp) (σ : L2.St), RelS K F0 H0 F H σ ρ → ∀ Q : VK,
  (∀ p ws F' H', Gr F H F' H' → H p = none → F' p = none → H' p = some (.dK ws) → (kvs.map (·.1)).Nodup → KR K F' ws kvs → Q (.ref p) H') → te σ H Q
theorem sv_asgDN {kvs : List (Key × D)} (h : EvDN K te ρ kvs) : SvD K W (tAsg te (gName i)) ρ (.nx (ρ.set i (.ok kvs))) := fun E F0 H0 F H σ R p =>
  h F0 H0 F H σ R _ fun a ws F1 H1 g1 hp hf h1 nd r1 => p _ F1 H1 g1.f ((R.grow g1).setOwn i rfl ⟨R.gr.h.back hp, hf, ws, h1, nd, r1⟩ fun j y h2 h3 _ h4 => R.fresh hp j y h2 h3 h4)
theorem gput_last {κ β : Type} [DecidableEq κ] {k : κ} {v : β} : ∀ {a : List (κ × β)}, k ∉ a.map (·.1) → gput a k v = a ++ [(k, v)]
  | [], _ => rfl
  | p :: r, h => by
    rw [List.map_cons, List.mem_cons, not_or] at h
    unfold gput
    rw [if_neg (fun e => h.1 e.symm), gput_last h.2]; rfl
theorem merge_nodup : ∀ (ws acc : List (Key × V)), ((acc ++ ws).map (·.1)).Nodup → mergeK acc ws = acc ++ ws
  | [], acc, _ => by rw [List.append_nil]; rfl
  | w :: ws, acc, nd => by
    have e1 : acc ++ w :: ws = (acc ++ [w]) ++ ws := by rw [List.append_assoc]; rfl
    have nd0 := nd
    rw [List.map_append, List.map_cons] at nd0
    have na := (List.nodup_append.mp nd0).1
    have nn : w.1 ∉ acc.map (·.1) := fun z => (List.nodup_append.mp nd0).2.2 _ z _ List.mem_cons_self rfl
    show mergeK (putK acc w.1 w.2) ws = _
    rw [putK_eq w.1 w.2 acc na, gput_last nn, merge_nodup ws (acc ++ [w]) (by rw [← e1]; exact nd), ← e1]
theorem reps_pairs {F H : Hp} (e : Ex F H) : ∀ {kvs : List (Key × D)} {vs : List V}, Reps K F vs (kvs.map fun kv => .tup [kD kv.1, kv.2]) → ∃ (ps : List Addr) (ws : List (Key × V)), vs = ps.map V.ref ∧ KR K F ws kvs ∧ Paired (fun p kv => SqT K H p [kV kv.1, kv.2]) ps ws
  | [], _, .nil => ⟨[], [], rfl, .nil, .nil⟩
  | (k, d) :: kvs, _, .cons h rs => by
    obtain ⟨ps, ws, e1, e2, e3⟩ := reps_pairs e rs
    cases h with
    | tup h r =>
      cases r with
      | cons rk r =>
        cases r with
        | cons rd r =>
          cases r
          have ek := rep_kD rk
          subst ek
          exact ⟨_ :: ps, (k, _) :: ws, by rw [e1]; rfl, .cons rd e2, .cons (SqT.of (e _ _ h)) e3⟩
theorem evdn_dict {kvs : List (Key × D)} (h : EvD K te ρ (.tupZ (kvs.map fun kv => .tup [kD kv.1, kv.2]))) (nd : (kvs.map (·.1)).Nodup) : EvDN K (tCB (rDictT K) (tCons te tNil)) ρ kvs := fun F0 H0 F H σ R Q q =>
  h F0 H0 F H σ R _ fun v F1 H1 g1 r1 => by
    cases r1 with
    | tupZ h1 g rs =>
      obtain ⟨ps, ws, e1, e2, e3⟩ := reps_pairs g1.s rs
      subst e1
      refine ⟨_, _, ps, ws, rfl, g1.s _ _ h1, g, e3, fun p hp => ?_⟩
      rw [merge_nodup ws [] (by rw [List.nil_append, e2.keys]; exact nd), List.nil_append]
      exact q p ws F1 _ (g1.trans (.own g1.s hp)) (g1.h.back hp) (g1.s.back hp) upd_same nd e2
theorem wi_down {ta : TA} {i j : Int} (h : AvD K ta ρ [.int i, .int j, .int (-1)]) (h1 : -(2 ^ 62) ≤ i ∧ i < 2 ^ 62) (h2 : -(2 ^ 62) ≤ j ∧ j < 2 ^ 62) : WiD K (iRng3 ta) ρ ((List.range (i - j).toNat).map fun (n : Nat) => D.int (i + (n : Int) * (-1))) := fun F0 H0 F H σ R Q q => h F0 H0 F H σ R _ fun vs F1 H1 g1 r1 => by
  cases r1 with
  | cons a r =>
    cases a
    cases r with
    | cons b r =>
      cases b
      cases r with
      | cons c r =>
        cases c; cases r
        exact ⟨i, j, -1, _, rfl, RgC.neg h1.1 h1.2 h2.1 h2.2, q _ _ F1 H1 g1 src_rangeC trivial⟩
end
end DL
set_option Elab.async false
set_option linter.all false
set_option maxRecDepth 100000
set_option maxHeartbeats 1000000
/-! Dict comprehensions over the keys of a dict. -/
namespace DL
open PySem PySem.Spec PyProof.Rows L2
section
variable {K : PySem.W.Frag} {W : WX} {ρ ρ' : List Sl} {te ta tb tk tv : TE} {d x y z : D} {xs ds zs : List D} {i : Nat}
theorem KR.append {F : Hp} {k : Key} {v : V} {d : D} (h : Rep K F v d) : ∀ {ws : List (Key × V)} {kvs : List (Key × D)}, KR K F ws kvs → KR K F (ws ++ [(k, v)]) (kvs ++ [(k, d)])
  | _, _, .nil => .cons h .nil
  | _, _, .cons h' r => .cons h' (KR.append h r)
theorem take_more {α : Type} {l : List α} {i : Nat} {a : α} (h : l[i]? = some a) : l.take (i + 1) = l.take i ++ [a] := by
  rw [List.take_add_one, h]; rfl
theorem dc_at {wi : TI} {g : TG} {vs : List Nat} {ys : List (Key × D)} {F0 H0 F H : Hp} {σ : L2.St} (R : RelS K F0 H0 F H σ ρ) (hw : ∀ R' : It → Hp → Prop, (∀ J A F' H', Gr F H F' H' → Src K J ds A → A F' → R' J H') → wi σ H R')
    (hs : ∀ (i : Nat) (d : D) (r : Key × D), ds[i]? = some d → ys[i]? = some r → ∃ is ρ1, TgD K g is d (wipeS ρ vs) ρ1 ∧ (∀ j ∈ is, j ∈ vs) ∧ EvD K tk ρ1 (kD r.1) ∧ EvD K tv ρ1 r.2) (hy : ys.length = ds.length) (nd : (ys.map (·.1)).Nodup) (hl : ds.length ≤ 16777215) {Q : VK}
    (q : ∀ p ws F' H', Gr F H F' H' → H p = none → F' p = none → H' p = some (.dK ws) → KR K F' ws ys → Q (.ref p) H') : tDc wi g tYes tk tv vs σ H Q :=
  hw _ fun J A F1 H1 g1 src a1 => fun Dl hD => by
    have hD0 : H Dl = none := g1.h.back hD
    have hDF1 : F1 Dl = none := g1.s.back hD
    have hD00 : H0 Dl = none := R.gr.h.back hD0
    have Rw : RelS K F0 H0 F1 H1 (L2.wipe σ vs) (wipeS ρ vs) := (R.grow g1).wipe vs
    have fr := Rw.fresh hD
    refine ⟨fun i m H' => ∃ F' acc, m = ds.length - i ∧ i ≤ ds.length ∧ Gr F H F' H' ∧ RelS K F0 H0 F' H' (L2.wipe σ vs) (wipeS ρ vs) ∧ Ex F1 F' ∧ F' Dl = none ∧ H' Dl = some (.dK acc) ∧ KR K F' acc (ys.take i),
      ⟨ds.length, F1, [], rfl, Nat.zero_le _, g1.side hD0 hDF1, Rw.side hD00 hDF1 fr, Ex.refl F1, hDF1, upd_same, .nil⟩, ?_⟩
    rintro i m H' ⟨F', acc, rfl, hi, g', R', ex, hDF, hDH, ra⟩
    have a' := src.keep _ _ a1 ex
    by_cases hlt : i < ds.length
    · refine .inr ⟨src.go i F' H' hlt a' R'.ex, fun H2 => ∃ F2 acc, Gr F H F2 H2 ∧ RelS K F0 H0 F2 H2 (L2.wipe σ vs) (wipeS ρ vs) ∧ Ex F1 F2 ∧ F2 Dl = none ∧ H2 Dl = some (.dK acc) ∧ KR K F2 acc (ys.take (i + 1)),
        fun H2 ⟨F2, acc, x1, x2, x3, x4, x5, x6⟩ => ⟨ds.length - (i + 1), by omega, F2, acc, rfl, hlt, x1, x2, x3, x4, x5, x6⟩, fun x H2 y => ?_⟩
      obtain ⟨d, hd⟩ : ∃ d, ds[i]? = some d := ⟨ds[i], List.getElem?_eq_getElem hlt⟩
      obtain ⟨ri, hri⟩ : ∃ r, ys[i]? = some r := ⟨ys[i], List.getElem?_eq_getElem (by omega)⟩
      obtain ⟨F2, g2, rx⟩ := src.yld i F' H' x H2 d hd a' R'.ex y
      obtain ⟨is, ρ1, tg, sub, hk, hv⟩ := hs i d ri hd hri
      refine tg.2 F0 H0 F2 H2 _ x (R'.grow g2) rx _ fun σ3 R3 l3 k3 => ⟨?_, ?_⟩
      · rw [wipe_same l3 k3 sub, wipe_wipe]
      · show tk σ3 H2 _
        have gA := g'.trans g2
        refine hk F0 H0 F2 H2 σ3 R3 _ fun kk F3 H3 g3 r3 => hv F0 H0 F3 H3 σ3 (R3.grow g3) _ fun v F4 H4 g4 r4 => ?_
        have ek := rep_kD r3
        subst ek
        have nD4 : F4 Dl = none := g4.n _ _ (g3.h _ _ (g2.h _ _ hDH)) rfl (g3.n _ _ (g2.h _ _ hDH) rfl (g2.n _ _ hDH rfl hDF))
        have hD4 : H4 Dl = some (.dK acc) := g4.h _ _ (g3.h _ _ (g2.h _ _ hDH))
        have rA := ((ra.mono g2.f).mono g3.f).mono g4.f
        have nd' : ((ys.take i ++ [ri]).map (·.1)).Nodup := by
          rw [← take_more hri]
          exact nd.sublist (List.Sublist.map _ (List.take_sublist _ _))
        rw [List.map_append] at nd'
        have na : (acc.map (·.1)).Nodup := by rw [rA.keys]; exact (List.nodup_append.mp nd').1
        have nn : ri.1 ∉ acc.map (·.1) := fun z => by
          rw [rA.keys] at z
          exact (List.nodup_append.mp nd').2.2 _ z _ List.mem_cons_self rfl
        refine ⟨acc, ri.1, rfl, hD4, ?_, F4, acc ++ [(ri.1, v)], ((gA.trans g3).trans g4).side hD0 nD4, (((R'.grow g2).grow g3).grow g4).side hD00 nD4 fr, ((ex.trans g2.f).trans g3.f).trans g4.f, nD4, ?_, ?_⟩
        · rw [rA.length, sizeLine_eq]
          have l2 := List.length_take_le i ys
          omega
        · rw [upd_same, putK_eq _ _ _ na, gput_last nn]
        · rw [take_more hri]
          exact KR.append r4 rA
    · have e : i = ds.length := by omega
      subst e
      refine .inl ⟨src.stop _ _ a' R'.ex, q Dl acc F' H' g' hD0 hDF hDH ?_⟩
      rw [← hy, List.take_length] at ra
      exact ra
/-- over the keys of the dict in slot s -/
theorem evdn_dcKeys {s : Nat} {g : TG} {vs : List Nat} {ys : List (Key × D)} {u0 : D} (hs : ρ[s]? = some (.d u0)) (hd : KeysD u0 ds) (hf : ∀ (i : Nat) (d : D) (r : Key × D), ds[i]? = some d → ys[i]? = some r → ∃ is ρ1, TgD K g is d (wipeS ρ vs) ρ1 ∧ (∀ j ∈ is, j ∈ vs) ∧ EvD K tk ρ1 (kD r.1) ∧ EvD K tv ρ1 r.2)
    (hy : ys.length = ds.length) (nd : (ys.map (·.1)).Nodup) (hl : ds.length ≤ 16777215) : EvDN K (tLockEA (tDc (iSeq K (tVar s)) g tYes tk tv vs)) ρ ys := fun F0 H0 F H σ R Q q => by
  obtain ⟨v, h1, rv⟩ := R.get hs
  obtain ⟨a, rfl, hk | ⟨u, ha, hm, hu, hst, hL⟩⟩ := dict_state rv hd
  · exact .inr (dc_at R (fun R' hR => wi_locked R.ex h1 hk R' hR) hf hy nd hl fun p ws F' H' g1 hp hf1 h1 r1 => q p ws F' H' g1 hp hf1 h1 nd r1)
  · refine .inl ⟨a, u, R.ex _ _ ha, hm, fun ob => ?_⟩
    have hH : H a = some u := R.ex _ _ ha
    have R1 := R.lk (u := u) (l := .frz ob u) ha (hst ob) hu
    have eF : DL.lk a u (.frz ob u) F a = some (.frz ob u) := lk_at ha
    have eH : DL.lk a u (.frz ob u) H = upd H a (.frz ob u) := lk_upd hH
    rw [← eH]
    refine dc_at R1 (fun R' hR => wi_locked R1.ex h1 (hL ob _ eF) R' hR) hf hy nd hl fun p ws F2 H2 g2 hp hf2 h2 r2 => ?_
    have e2 : F2 a = some (.frz ob u) := g2.f _ _ eF
    have pa : p ≠ a := fun z => by
      subst z
      rw [e2] at hf2; cases hf2
    have hpH : H p = none := by rw [eH, upd_ne pa] at hp; exact hp
    have R2 : RelS K (DL.lk a u (.frz ob u) F0) (DL.lk a u (.frz ob u) H0) F2 H2 σ ρ := R1.grow g2
    have tol : Tol F2 (upd F2 a u) := fun b o h => by
      by_cases z : b = a
      · subst z; rw [e2] at h; cases h; exact ⟨u, upd_same, (hst ob).symm⟩
      · exact ⟨o, by rw [upd_ne z]; exact h, rfl⟩
    refine ⟨g2.h _ _ (by rw [eH]; exact upd_same), q p ws (upd F2 a u) (upd H2 a u) ⟨ex_unlk ha g2.f, ?_, ?_, ?_⟩ hpH (by rw [upd_ne pa]; exact hf2) (by rw [upd_ne pa]; exact h2) nd (r2.tol tol)⟩
    · exact ex_unlk (l := .frz ob u) hH g2.h
    · exact g2.s.updB
    · intro b o h1 t h2
      by_cases z : b = a
      · subst z; rw [ha] at h2; cases h2
      · rw [upd_ne z]
        exact g2.n b o (by rw [lk_ne z]; exact h1) t (by rw [lk_ne z]; exact h2)
theorem evdn_map {α : Type} {s : Nat} {g : TG} {vs : List Nat} {as : List α} {u0 : D} (ek : α → D) (fk : α → Key) (fv : α → D) (hs : ρ[s]? = some (.d u0)) (hd : KeysD u0 (as.map ek)) (nd : (as.map fk).Nodup) (h : ∀ a ∈ as, ∃ is ρ1, TgD K g is (ek a) (wipeS ρ vs) ρ1 ∧ (∀ j ∈ is, j ∈ vs) ∧ EvD K tk ρ1 (kD (fk a)) ∧ EvD K tv ρ1 (fv a)) (hl : as.length ≤ 16777215) :
    EvDN K (tLockEA (tDc (iSeq K (tVar s)) g tYes tk tv vs)) ρ (as.map fun a => (fk a, fv a)) :=
  evdn_dcKeys (ys := as.map fun a => (fk a, fv a)) hs hd (fun i d r h1 h2 => by
    rw [List.getElem?_map] at h1 h2
    cases q : as[i]? with
    | none => rw [q] at h1; cases h1
    | some a =>
      rw [q] at h1 h2
      cases h1; cases h2
      exact h a (List.mem_of_getElem? q)) (by simp) (by rw [List.map_map]; exact nd) (by simpa using hl)
end
section
variable {K : PySem.W.Frag} {ρ : List Sl} {te : TE} {ds : List D}
theorem ev_notT (h : EvST K te ρ ds) : EvD K (tNotT K te) ρ (.bl ds.isEmpty) := fun F0 H0 F H σ R Q q => h F0 H0 F H σ R _ fun p vs F1 H1 g1 s1 rs => by
  refine ⟨_, .inr (.inl ⟨_, s1, rfl⟩), ?_⟩
  rw [reps_empty rs, Bool.not_not]
  exact q _ F1 H1 g1 (.bl _)
end
/-! ### d == e, dicts with int values -/
def rEqRd : R2 := fun x y H Q => ∃ a b kvs, x = .ref a ∧ y = .ref b ∧ Rd H a (.dK kvs) ∧ Rd H b (.dK kvs) ∧ (kvs.map (·.1)).Nodup ∧ (∀ p ∈ kvs, flatB p.2 = true) ∧ Q (.bl true) H
def rEqX (K : PySem.W.Frag) : R2 := fun x y H Q => rEqD K x y H Q ∨ rEqRd x y H Q
theorem op_eqRd {X : Cx} (hu : X.A.units + 64 < cLine) : OpR X (compareOp .Eq) rEqRd := by
  intro pins s σ H x y v u Q I rx ry h
  obtain ⟨a, b, kvs, rfl, rfl, ea, eb, nd, fl, q⟩ := h
  obtain rfl : v = Value.ref a := rx
  obtain rfl : u = Value.ref b := ry
  obtain ⟨_, ya, va, ra, da⟩ := dk_rd I.hok ea
  obtain ⟨_, yb, vb, rb, db⟩ := dk_rd I.hok eb
  have hl : va.length = vb.length := ra.length.symm.trans rb.length
  exact PySem.W.keq_eq (knd := mixKind X.prog X.w) (r := true) ya yb da db (by omega) (fun _ => hits_all rb ra fun p hp => ⟨val_nodup nd p hp, fl p hp⟩) (fin_bl I q (by simp [hl]))
theorem op_eqX {X : Cx} (hu : X.A.units + 64 < cLine) : OpR X (compareOp .Eq) (rEqX X.K) := (op_eqD hu).or (op_eqRd hu)
section
variable {K : PySem.W.Frag} {ρ : List Sl} {te ta tb : TE} {x y : D}
theorem kr_ints {F : Hp} : ∀ {ws : List (Key × V)} {ks : List (Key × Int)}, KR K F ws (ks.map fun p => (p.1, D.int p.2)) → ws = ks.map fun p => (p.1, V.int p.2)
  | ws, [], h => by
    cases h; rfl
  | ws, (k', i) :: ks, h => by
    have h' : KR K F ws ((k', D.int i) :: ks.map fun p => (p.1, D.int p.2)) := h
    cases h' with
    | cons h r =>
      cases h
      rw [kr_ints r]; rfl
theorem ev_eqXD (ha : EvD K ta ρ x) (hb : EvD K tb ρ y) (hx : x.ok = true) (hy : y.ok = true) : EvD K (tOp (rEqX K) ta tb) ρ (.bl (PyData.eqv x.py y.py)) := ev_op ha hb fun F H e v u a b Q q => .inl (rv_eqD hx hy F H e v u a b Q q)
theorem ev_eqXK {ks : List (Key × Int)} (nd : (ks.map (·.1)).Nodup) (ha : EvDK K ta ρ (ks.map fun p => (p.1, D.int p.2))) (hb : EvDK K tb ρ (ks.map fun p => (p.1, D.int p.2))) : EvD K (tOp (rEqX K) ta tb) ρ (.bl true) := fun F0 H0 F H σ R Q q =>
  ha F0 H0 F H σ R _ fun a ws F1 H1 g1 s1 r1 => hb F0 H0 F1 H1 σ (R.grow g1) _ fun b ws2 F2 H2 g2 s2 r2 => by
    have e1 := kr_ints r1
    have e2 := kr_ints r2
    subst e1; subst e2
    refine .inr ⟨a, b, _, rfl, rfl, g2.h.rd s1, s2, by rw [List.map_map]; exact nd, fun p hp => ?_, q _ F2 H2 (g1.trans g2) (.bl _)⟩
    obtain ⟨p', _, rfl⟩ := List.mem_map.mp hp
    rfl
end
end DL
set_option Elab.async false
set_option linter.all false
set_option maxRecDepth 100000
set_option maxHeartbeats 1000000
/-! What the helpers that every law has come to: a cell of the script, its digits. -/
namespace Go
open PySem PySem.Spec PyProof.Rows L2 DL
def fr_law_whole (ds : List D) (r : Res) : Prop := ∃ d, d.tyOk = true ∧ ds = [d] ∧ r = .ok (.bl (isInt d))
/-! ### a cell -/
def seedM (ns : List Int) : Int := ns.foldl (fun s c => (s * 31 + c % 1000003) % 1000003) 17
def cellM (ns : List Int) (k : Nat) : Int := match ns[k]? with
  | some c => c
  | none => (seedM ns + 7) * ((k : Int) + 3) * 69621 % 2147483647
def fr_law_cell (ds : List D) (r : Res) : Prop := ∃ (ns : List Int) (k : Nat), k ≤ 100000 ∧ ds = [.scr ns, .int (k : Int)] ∧ r = .ok (.int (cellM ns k))
theorem seed_bound (ns : List Int) : 0 ≤ seedM ns ∧ seedM ns < 1000003 := by
  unfold seedM
  have : ∀ (l : List Int) (s : Int), (0 ≤ s ∧ s < 1000003) → 0 ≤ l.foldl (fun s c => (s * 31 + c % 1000003) % 1000003) s ∧ l.foldl (fun s c => (s * 31 + c % 1000003) % 1000003) s < 1000003 := by
    intro l
    induction l with
    | nil => intro s h; exact h
    | cons c r ih =>
      intro s h
      rw [List.foldl_cons]
      exact ih _ (by omega)
  exact this ns 17 (by omega)
/-! ### digits -/
/-- the digits of a great number, to mixed bases -/
def digA : Int → List Int → List Int
  | _, [] => []
  | rest, s :: ss => rest % s :: digA (rest / s) ss
/-- the digits that a small number draws -/
def nextS (seed : Int) (k : Nat) : Int := (seed * 48271 + 974711 * (k : Int) + 12345) % 2147483647
def drawS (seed : Int) : Int := seed * (seed / 65537 + 3) % 2147483629
def digB : Int → Nat → List Int → List Int
  | _, _, [] => []
  | seed, k, s :: ss => drawS (nextS seed k) / 19 % s :: digB (nextS seed k) (k + 1) ss
def digM (cell : Int) (sizes : List Int) : List Int := if 1000000000000000000 ≤ cell then digA (cell - 1000000000000000000) sizes else digB (cell % 2147483629) 0 sizes
def fr_law_digits (ds : List D) (r : Res) : Prop := ∃ (c : Int) (ss : List Int), (∀ s ∈ ss, 0 < s ∧ s < 1073741824) ∧ ss.length ≤ 5000 ∧ ds = [.int c, .lst (ss.map D.int)] ∧ r = .ok (.lst ((digM c ss).map D.int))
theorem digA_len : ∀ (r : Int) (ss : List Int), (digA r ss).length = ss.length
  | _, [] => rfl
  | r, s :: ss => by unfold digA; rw [List.length_cons, List.length_cons, digA_len]
theorem digB_len : ∀ (r : Int) (k : Nat) (ss : List Int), (digB r k ss).length = ss.length
  | _, _, [] => rfl
  | r, k, s :: ss => by unfold digB; rw [List.length_cons, List.length_cons, digB_len]
theorem digM_len (c : Int) (ss : List Int) : (digM c ss).length = ss.length := by
  unfold digM; split
  · exact digA_len _ _
  · exact digB_len _ _ _
theorem digA_at : ∀ {r : Int} {ss : List Int}, (∀ s ∈ ss, 0 < s) → ∀ (k : Nat) (s d : Int), ss[k]? = some s → (digA r ss)[k]? = some d → 0 ≤ d ∧ d < s
  | r, [], _, k, s, d, h, _ => by simp at h
  | r, t :: ss, hp, 0, s, d, h, h' => by
    simp [digA] at h h'
    subst h; subst h'
    have := hp t List.mem_cons_self
    exact ⟨Int.emod_nonneg _ (by omega), Int.emod_lt_of_pos _ this⟩
  | r, t :: ss, hp, k + 1, s, d, h, h' => by
    simp [digA] at h h'
    exact digA_at (fun x hx => hp x (List.mem_cons_of_mem _ hx)) k s d h h'
theorem digB_at : ∀ {r : Int} {j : Nat} {ss : List Int}, (∀ s ∈ ss, 0 < s) → ∀ (k : Nat) (s d : Int), ss[k]? = some s → (digB r j ss)[k]? = some d → 0 ≤ d ∧ d < s
  | r, j, [], _, k, s, d, h, _ => by simp at h
  | r, j, t :: ss, hp, 0, s, d, h, h' => by
    simp [digB] at h h'
    subst h; subst h'
    have := hp t List.mem_cons_self
    exact ⟨Int.emod_nonneg _ (by omega), Int.emod_lt_of_pos _ this⟩
  | r, j, t :: ss, hp, k + 1, s, d, h, h' => by
    simp [digB] at h h'
    exact digB_at (fun x hx => hp x (List.mem_cons_of_mem _ hx)) k s d h h'
/-- each digit lies below its size -/
theorem digM_at {c : Int} {ss : List Int} (hp : ∀ s ∈ ss, 0 < s) (k : Nat) (s d : Int) (h : ss[k]? = some s) (h' : (digM c ss)[k]? = some d) : 0 ≤ d ∧ d < s := by
  unfold digM at h'; split at h'
  · exact digA_at hp k s d h h'
  · exact digB_at hp k s d h h'
/-- the seed behind k turns from turn j on -/
def seedIt (s : Int) (j : Nat) : Nat → Int
  | 0 => s
  | k + 1 => nextS (seedIt s j k) (j + k)
theorem seedIt_shift (s : Int) (j : Nat) : ∀ k : Nat, seedIt (nextS s j) (j + 1) k = seedIt s j (k + 1)
  | 0 => rfl
  | k + 1 => by
    have e : j + 1 + k = j + (k + 1) := by omega
    show nextS (seedIt (nextS s j) (j + 1) k) (j + 1 + k) = nextS (seedIt s j (k + 1)) (j + (k + 1))
    rw [seedIt_shift s j k, e]
theorem digB_get : ∀ (ss : List Int) (s : Int) (j k : Nat), (digB s j ss)[k]? = (ss[k]?).map fun z => drawS (seedIt s j (k + 1)) / 19 % z
  | [], s, j, k => by simp [digB]
  | z :: ss, s, j, 0 => by simp [digB, seedIt]
  | z :: ss, s, j, k + 1 => by
    have ih := digB_get ss (nextS s j) (j + 1) k
    rw [seedIt_shift] at ih
    simp [digB, ih]
theorem nextS_bound (s : Int) (k : Nat) : 0 ≤ nextS s k ∧ nextS s k < 2147483647 := by
  unfold nextS
  exact ⟨Int.emod_nonneg _ (by decide), Int.emod_lt_of_pos _ (by decide)⟩
theorem seedIt_bound {s : Int} (h : 0 ≤ s ∧ s < 2147483647) (j k : Nat) : 0 ≤ seedIt s j k ∧ seedIt s j k < 2147483647 := by
  cases k with
  | zero => exact h
  | succ k => exact nextS_bound _ _
end Go
set_option Elab.async false
set_option linter.all false
set_option maxRecDepth 100000
set_option maxHeartbeats 1000000
/-! What the proofs of all laws share. -/
namespace Go
open PySem PySem.Spec PyProof.Rows L2 DL
def nth (l : List Int) (k : Nat) : Int := l.getD k 0
def rowOk (sz row : List Int) : Prop := row.length = sz.length ∧ ∀ (k : Nat) (s d : Int), sz[k]? = some s → row[k]? = some d → 0 ≤ d ∧ d < s
theorem rowOk_dig (c : Int) {sz : List Int} (h : ∀ s ∈ sz, 0 < s) : rowOk sz (digM c sz) := ⟨digM_len c sz, fun k s d => digM_at h k s d⟩
theorem le2 : 2 ≤ 16777216 := by decide
theorem le3 : 3 ≤ 16777216 := by decide
theorem le1 : 1 ≤ 16777216 := by decide
structure Sh (n : Nat) (d : D) : Prop where
  pl : d.pl = true
  lay : d.py.canLay0 = true
  dep : d.py.depth ≤ n
theorem Sh.int (i : Int) : Sh 1 (.int i) := ⟨rfl, rfl, by simp [D.py, PyData.depth]⟩
theorem Sh.str {s : Str} (h : PyData.strOk s = true) : Sh 1 (.str s) := ⟨rfl, h, by simp [D.py, PyData.depth]⟩
theorem Sh.all {n : Nat} : ∀ {ds : List D}, (∀ d ∈ ds, Sh n d) → D.pls ds = true ∧ PyData.canLayAll0 (D.pys ds) = true ∧ PyData.depthAll (D.pys ds) ≤ n
  | [], _ => ⟨rfl, rfl, Nat.zero_le _⟩
  | d :: ds, h => by
    obtain ⟨a, b, c⟩ := Sh.all (n := n) (ds := ds) fun e he => h e (List.mem_cons_of_mem _ he)
    have hd := h d List.mem_cons_self
    refine ⟨?_, ?_, ?_⟩
    · show (d.pl && D.pls ds) = true; rw [hd.pl, a]; rfl
    · show (d.py.canLay0 && PyData.canLayAll0 (D.pys ds)) = true; rw [hd.lay, b]; rfl
    · show PyData.depthAll (d.py :: D.pys ds) ≤ n; rw [PyData.depthAll]; exact Nat.max_le.mpr ⟨hd.dep, c⟩
theorem Sh.lst {n : Nat} {ds : List D} (h : ∀ d ∈ ds, Sh n d) : Sh (n + 1) (.lst ds) := by
  obtain ⟨a, b, c⟩ := Sh.all h
  exact ⟨a, b, by show PyData.depth (.list (D.pys ds)) ≤ _; rw [PyData.depth]; omega⟩
theorem Sh.tup {n : Nat} {ds : List D} (h : ∀ d ∈ ds, Sh n d) : Sh (n + 1) (.tup ds) := by
  obtain ⟨a, b, c⟩ := Sh.all h
  exact ⟨a, b, by show PyData.depth (.tuple (D.pys ds)) ≤ _; rw [PyData.depth]; omega⟩
theorem Sh.ok {n : Nat} {d : D} (h : Sh n d) (hn : n ≤ 64) : d.ok = true := by
  unfold D.ok SeqAt.shaped
  rw [h.pl, h.lay]
  have := h.dep
  simp only [Bool.true_and, decide_eq_true_eq]; omega
theorem Sh.refl {n : Nat} {d : D} (h : Sh n d) : PyData.eqv d.py d.py = true := SeqAt.eqv_refl d.py h.lay
section
variable {K : PySem.W.Frag} {W : WX} {ρ : List Sl} {te ta tb : TE} {d : D}
theorem sv_notCall {t u : TS} {o : Out} (h : EvD K te ρ (.bl true)) (hu : SvD K W u ρ o) : SvD K W (tSeq (tIfS (tNot (tB te)) t tNext) u) ρ o := sv_seq (sv_ifF (tv_not (tv_B h)) sv_next) hu
theorem ev_nthI {l : List Int} {i : Int} (h : EvSL K te ρ (l.map D.int)) (hb : EvD K tb ρ (.int i)) (h0 : 0 ≤ i) (h1 : i < l.length) : EvD K (tOp (rIxA K) te tb) ρ (.int (nth l i.toNat)) := by
  have hi : i.toNat < l.length := by omega
  refine ev_ixL (i := i) h hb ?_
  have e : i = (i.toNat : Int) := by omega
  rw [e]
  refine atI_nat ?_
  rw [List.getElem?_map, List.getElem?_eq_getElem hi]
  show some (D.int _) = some (D.int _)
  unfold nth
  rw [List.getD_eq_getElem?_getD, show ((i.toNat : Int)).toNat = i.toNat from rfl, List.getElem?_eq_getElem hi]; rfl
theorem ev_nth {l : List Int} {k : Nat} (h : EvSL K te ρ (l.map D.int)) (hb : EvD K tb ρ (.int (k : Int))) (h1 : k < l.length) : EvD K (tOp (rIxA K) te tb) ρ (.int (nth l k)) := by
  have := ev_nthI h hb (by omega) (by omega)
  simpa using this
theorem p109 : (10 : Int) ^ (9 : Int).toNat = 1000000000 := by decide
theorem ev_p109 : EvD K (tOp (rI CPow fun i j => .int (i ^ j.toNat)) (tC (.int 10)) (tC (.int 9))) ρ (.int 1000000000) := ev_eq (ev_powI ev_int ev_int ⟨by decide, by decide, by decide⟩) (by rw [p109])
theorem sv_ifLt {t v : TS} {o : Out} {i j : Int} (ha : EvD K ta ρ (.int i)) (hb : EvD K tb ρ (.int j)) (hs : o.stops = true) (h1 : i < j → SvD K W t ρ o) (h2 : ¬ i < j → SvD K W v ρ o) : SvD K W (tSeq (tIfS (tTest (tOp (rI0 fun i j => .bl (decide (i < j))) ta tb)) t tNext) v) ρ o := by
  by_cases e : i < j
  · exact sv_stop (sv_ifT (tv_eq (tv_cmpI (g := fun i j => decide (i < j)) ha hb) (by simpa using e)) (h1 e)) hs
  · exact sv_seq (sv_ifF (tv_eq (tv_cmpI (g := fun i j => decide (i < j)) ha hb) (by simpa using e)) sv_next) (h2 e)
theorem cut_at {α : Type} {xs : List α} {lo hi j : Nat} (h1 : lo + j < hi) (h2 : hi ≤ xs.length) : (DL.cutD xs (some (lo : Int)) (some (hi : Int)))[j]? = xs[lo + j]? := by
  unfold DL.cutD
  rw [HT.sIx_nat, HT.sIx_nat, Nat.min_eq_left h2, Nat.min_eq_left (show lo ≤ xs.length by omega), List.getElem?_take, if_pos (by omega), List.getElem?_drop]
theorem ev_dig {row : List Int} {lo hi j : Nat} {e1 e2 : Int} {i : Nat} (hx : ρ[i]? = some (.ol (DL.cutD (row.map D.int) (some e1) (some e2)))) (he1 : e1 = (lo : Int)) (he2 : e2 = (hi : Int)) (hb : EvD K tb ρ (.int (j : Int))) (h1 : lo + j < hi) (h2 : hi ≤ row.length) : EvD K (tOp (rIxA K) (tVar i) tb) ρ (.int (nth row (lo + j))) := by
  subst he1; subst he2
  have hl : lo + j < row.length := by omega
  refine ev_ixL (i := (j : Int)) (sl_own hx) hb (atI_nat ?_)
  rw [cut_at h1 (by rw [List.length_map]; exact h2), List.getElem?_map, List.getElem?_eq_getElem hl]
  show some (D.int _) = some (D.int _)
  unfold nth
  rw [List.getD_eq_getElem?_getD, List.getElem?_eq_getElem hl]; rfl
theorem le4 : 4 ≤ 16777216 := by decide
theorem row_len {sz row : List Int} (h : rowOk sz row) : row.length = sz.length := h.1
theorem row_at {sz row : List Int} (h : rowOk sz row) {k : Nat} {s : Int} (hs : sz[k]? = some s) : 0 ≤ nth row k ∧ nth row k < s := by
  have hk : k < row.length := by rw [h.1]; exact (List.getElem?_eq_some_iff.mp hs).1
  have e : row[k]? = some (nth row k) := by unfold nth; rw [List.getD_eq_getElem?_getD, List.getElem?_eq_getElem hk]; rfl
  exact h.2 k s _ hs e
theorem row_le {sz row : List Int} {B : Int} (h : rowOk sz row) (hB : ∀ s ∈ sz, s ≤ B) {k : Nat} (hk : k < sz.length) : 0 ≤ nth row k ∧ nth row k < B := by
  have e := List.getElem?_eq_getElem hk
  have h1 := row_at h e
  have h2 := hB _ (List.getElem_mem hk)
  omega
theorem le5 : 5 ≤ 16777216 := by decide
theorem beqI (i j : Int) : (i == j) = decide (i = j) := by
  by_cases h : i = j
  · simp [h]
  · simp [h]
theorem le7 : 7 ≤ 16777216 := by decide
theorem max_of (l : List Int) : ∃ m, m ∈ 0 :: l ∧ ∀ y ∈ 0 :: l, y ≤ m := by
  induction l with
  | nil => exact ⟨0, by simp, by simp⟩
  | cons a l ih =>
    obtain ⟨m, h1, h2⟩ := ih
    by_cases e : a ≤ m
    · refine ⟨m, ?_, fun y hy => ?_⟩
      · rcases List.mem_cons.mp h1 with z | z
        · rw [z]; exact List.mem_cons_self
        · exact List.mem_cons_of_mem _ (List.mem_cons_of_mem _ z)
      · rcases List.mem_cons.mp hy with z | z
        · exact h2 y (by rw [z]; exact List.mem_cons_self)
        · rcases List.mem_cons.mp z with z | z
          · rw [z]; exact e
          · exact h2 y (List.mem_cons_of_mem _ z)
    · refine ⟨a, List.mem_cons_of_mem _ List.mem_cons_self, fun y hy => ?_⟩
      rcases List.mem_cons.mp hy with z | z
      · have := h2 y (by rw [z]; exact List.mem_cons_self)
        omega
      · rcases List.mem_cons.mp z with z | z
        · omega
        · have := h2 y (List.mem_cons_of_mem _ z)
          omega
theorem ev_name {ns : List Str} {i : Int} (h : EvSL K te ρ (ns.map D.str)) (hb : EvD K tb ρ (.int i)) (h0 : 0 ≤ i) (h1 : i < ns.length) : EvD K (tOp (rIxA K) te tb) ρ (.str (ns.getD i.toNat "")) := by
  have hi : i.toNat < ns.length := by omega
  refine ev_ixL (i := i) h hb ?_
  have e : i = (i.toNat : Int) := by omega
  rw [e]
  refine atI_nat ?_
  rw [List.getElem?_map, List.getElem?_eq_getElem hi]
  show some (D.str _) = some (D.str _)
  rw [List.getD_eq_getElem?_getD, show ((i.toNat : Int)).toNat = i.toNat from rfl, List.getElem?_eq_getElem hi]; rfl
theorem tv_same {n : Nat} {x : D} (ha : EvD K ta ρ x) (hb : EvD K tb ρ x) (h : Sh n x) (hn : n ≤ 64) : TvD K (tTest (tOp (rNeD K) ta tb)) ρ false := tv_eq (tv_neD ha hb (h.ok hn) (h.ok hn)) (by rw [h.refl]; rfl)
theorem sv_or2 {tt tu : TT} {t u : TS} {o : Out} (h1 : TvD K tt ρ false) (h2 : TvD K tu ρ false) (hu : SvD K W u ρ o) : SvD K W (tSeq (tIfS (tOr tt tu) t tNext) u) ρ o := sv_seq (sv_ifF (tv_or (a := false) (b := false) h1 fun _ => h2) sv_next) hu
end
end Go
set_option Elab.async false
set_option linter.all false
set_option maxRecDepth 100000
set_option maxHeartbeats 1000000
/-! Exceptions with fields: made as values, raised, handled; isinstance, fields; several except clauses with a name. -/
namespace DL
open PySem PySem.Spec PyProof.Rows L2
/-- what the written part says of a class with its own __init__ -/
def oexB (K : PySem.W.Frag) (C : Addr) : Bool := (match K.lookup C with
  | some ⟨cc, cd, .cls c, sl⟩ => decide (cc = .type "type") && (decide (c.hasDict = true) && PySem.HandSPX.refsVE c.mro.tail)
  | _ => false)
/-! ### making -/
def tMk0 (C : Addr) : TE := fun σ H Q => ∀ a, H a = none → Q (.ref a) (upd H a (exo a C none))
def tMkV (C : Addr) (sp : Sp) (ta : TA) : TE := fun σ H Q => ta σ H fun vs H1 => vs.length ≤ 1000 ∧ ∀ a, H1 a = none → sp (.ref a :: vs) (upd H1 a (exo a C none)) (fun v H2 => v = .non ∧ Q (.ref a) H2) (fun _ _ _ => False)
section
variable {X : Cx} {C : Addr} {x : Str} {p pos : Pos}
theorem pe_excV0 (e : ErrF X.K C) (gC : X.mg x = some (.ref C)) (hg : Gl X x) (hdb : (x == ("__debug__" : Str)) = false := by decide) : PE X (.Call (.Name x p) [] [] pos) (tMk0 C) := by
  refine ⟨fun pins s σ H Q I h => ?_⟩
  refine wpAny_Call_Name_kw (ld_glob I hg gC ?_ hdb)
  refine PySem.W.callWith_K0 I.kIn e.kp ?_
  show wpAny _ _ (call (.ref C) []) _ _ _
  obtain ⟨bm, N, nm, qn, bs, hdct, sn, sub, ab, col, dd, k0, k1, k2, k3, k5, mN, hC, hN, hni, T⟩ := exc_obj I.kIn e.ex
  refine wpAny_call_exc_subT F.excBase_ValueError T hC hN hni (fun h' a hm => ?_) (by show 0 ≤ sizeLine; exact Nat.zero_le _)
  have hn : H a = none := I.hok.gone hm.new
  obtain ⟨t, ht, _, _⟩ := hm.there
  exact ⟨.ref a, upd H a (exo a C none), I.laidN hm.keeps hm.new hn (exo_ok ht), rfl, h a hn⟩
/-- a class with its own __init__ -/
structure OwnI (K : PySem.W.Frag) (C fI : Addr) : Prop where
  T : OexC K C
  iC : PySem.W.findIn K (.ref C) "__init__" = some (some (.ref fI))
  tI : PySem.W.typeIn K (.ref fI) = some (.type "function")
variable {e : Expr} {es : List Expr} {ta : TA} {fI : Addr} {k : Nat} {fd : FuncData} {ps : List Str} {sp : Sp} {CX : CXT}
/-- the call C(us): the object is laid at a new place, its __init__ runs on it; `fin` says what follows -/
theorem oexCall {pins : List (Addr × Obj)} {σ : L2.St} {H : Hp} {s : Shared} {vs : List V} {us : List Value} (Qi : Addr → VK) {R : Value → Shared → Prop}
    (O : OwnI X.K C fI) (Fi : FnOk X.prog X.w X.K X.mg X.base CX k fI fd ps sp) (hr : Room (k + 1) X.A) (hb : Binds X.K fd ps []) (hx : Passes CX X (fun _ _ _ => False)) (I : Inv X pins σ H s) (rv : Vals vs us) (few : vs.length ≤ 1000)
    (ask : ∀ a, H a = none → sp (.ref a :: vs) (upd H a (exo a C none)) (Qi a) (fun _ _ _ => False))
    (fin : ∀ (a : Addr) (h1 : Heap) (H2 : Hp) (s2 : Shared) (v : V), s.heap.objs.size ≤ a → (∀ b o, s.heap.get? b = some o → h1.get? b = some o) → Un (frs X.stack) [] (upd H a (exo a C none)) H2 h1 s2.heap → HOk X.prog X.w H2 s2.heap → s2.os = s.os → AllBare s2.gens →
      Inv X pins σ H2 s2 → Qi a v H2 → v = .non ∧ R (.ref a) s2) : wpAny (model X.prog X.w) X.A (call (.ref C) us) R X.xe s := by
  obtain ⟨nm, qn, ns, bs, mro, sn, sb, ab, cl, dd, k0, k1, k2, k3, k5, look, tail⟩ := O.T.cls
  have big : us.length ≤ sizeLine := by
    have := Paired.length rv
    rw [sizeLine_eq]; omega
  obtain ⟨hp, gs, dr, tk, os⟩ := s
  have above : hp.objs.size ≤ hp.objs.size + 1 := by omega
  have old : ∀ b o, hp.get? b = some o → ((hp.push (PySem.W.kdv_tup us)).push (PySem.HandSPX.excO C hp.objs.size)).get? b = some o := fun b o h => Heap.get?_push_of_some _ (Heap.get?_push_of_some _ h)
  have J := I.laid (t' := tk) (o := exo (hp.objs.size + 1) C none) old above (exo_ok (t1 := hp.objs.size) (by heap_get))
  have asked := ask (hp.objs.size + 1) (I.hok.fresh above)
  have args : Vals (V.ref (hp.objs.size + 1) :: vs) (Value.ref (hp.objs.size + 1) :: us) := .cons rfl rv
  have cnt := Fi.len _ _ _ _ asked
  rw [args.length] at cnt
  have bnd := hb ⟨(hp.push (PySem.W.kdv_tup us)).push (PySem.HandSPX.excO C hp.objs.size), gs, dr, tk, os⟩ _ J.kIn (by rw [List.append_nil]; exact cnt)
  rw [List.append_nil] at bnd
  have run := Fi.run _ X.stack _ _ ⟨Value.ref (hp.objs.size + 1) :: us, []⟩ _ _ (Qi (hp.objs.size + 1)) (fun _ _ _ => False) (hr.make C us []) (J.env0.make C us []) bnd args asked
  refine wpAny_call (PySem.HandSPX.call_own F.excBase_ValueError (fun T => PySem.HandSPX.refsVE_contains T mro tail) (I.kIn _ _ look) (PySem.W.looks_findIn I.kIn O.iC) (fun me => PySem.W.bind_fn I.kIn me O.tI) big (codeAny_mono run fun r s2 post => ?_))
  match r, post with
  | .error u, post => exact hx pins σ _ _ u s2 J post
  | .ok (.ret u), ⟨v, H2, e1, bare, un, hok, ru, q⟩ =>
    obtain ⟨rfl, done⟩ := fin _ _ H2 s2 v above old un hok e1 bare (J.call' (ch := []) e1 un hok bare fun b z => nomatch z) q
    exact ⟨ru, done⟩
/-- C(e, ..) as a value -/
theorem pe_excV (O : OwnI X.K C fI) (Fi : FnOk X.prog X.w X.K X.mg X.base CX k fI fd ps sp) (hr : Room (k + 1) X.A) (hb : Binds X.K fd ps []) (hx : Passes CX X (fun _ _ _ => False)) (hg : Gl X x) (hm : X.mg x = some (.ref C)) (ha : PA X (e :: es) ta)
    (hdb : (x == ("__debug__" : Str)) = false := by decide) (he : starEach (e :: es) X.env = (false, eval e X.env) :: starEach es X.env := by rfl) (hpl : (backTo pos (starEach es X.env)).any (·.1) = false := by rfl) :
    PE X (.Call (.Name x p) (e :: es) [] pos) (tMkV C sp ta) := ⟨fun pins s σ H Q I h =>
  wpAny_Call_Name_kw (ld_glob I hg hm (PySem.W.callWith_K (h₀ := X.base) I.ok.mod.kin O.T.kC (thn (ha.run pos pins s σ H _ I h) fun us s1 ⟨vs, H1, I1, rv, few, q⟩ => ⟨I1.kIn,
    oexCall (fun a v H2 => v = .non ∧ Q (.ref a) H2) O Fi hr hb hx I1 rv few q fun a h1 H2 s2 v _ _ _ _ _ _ I2 q2 => ⟨q2.1, .ref a, H2, I2, rfl, q2.2⟩⟩) he hpl) hdb)⟩
/-- C(e, ..), to be raised -/
theorem pmkN_oex (O : OwnI X.K C fI) (Fi : FnOk X.prog X.w X.K X.mg X.base CX k fI fd ps sp) (hr : Room (k + 1) X.A) (hb : Binds X.K fd ps []) (hx : Passes CX X (fun _ _ _ => False)) (hg : Gl X x) (hm : X.mg x = some (.ref C)) (ha : PA X (e :: es) ta)
    (hdb : (x == ("__debug__" : Str)) = false := by decide) (he : starEach (e :: es) X.env = (false, eval e X.env) :: starEach es X.env := by rfl) (hpl : (backTo pos (starEach es X.env)).any (·.1) = false := by rfl) :
    L2N.PMk X (.Call (.Name x p) (e :: es) [] pos) (tMkO C sp [] ta) := fun pins s σ H Q I h =>
  wpAny_Call_Name_kw (ld_glob I hg hm (PySem.W.callWith_K (h₀ := X.base) I.ok.mod.kin O.T.kC (thn (ha.run pos pins s σ H _ I h) fun us s1 ⟨vs, H1, I1, rv, few, q⟩ => ⟨I1.kIn,
    oexCall (fun a v H2 => v = .non ∧ ∃ (d : Addr) (fs : List (Str × V)), H2 a = some (exo a C (some d)) ∧ H2 d = some (exd d fs) ∧ H1 d = none ∧ Q (.ref C) (some d) (upd (del H2 a) d (.xd fs))) O Fi hr hb hx I1 rv few (fun a ha => by have := q a ha; rw [List.append_nil] at this; exact this) fun a h1 H2 s2 v above old un hok e1 bare _ q2 => by
      obtain ⟨rfl, d, fs, ea, ed, new, q2⟩ := q2
      obtain ⟨h1', g1, r1, t1, o1⟩ := s1
      obtain ⟨h2, g2, r2, t2, o2⟩ := s2
      obtain ⟨t, G, J, sub, gone, there, none⟩ := mk_end0 (d2 := r2) (t2 := t2) I1 above old un hok e1 bare ea ed new
      exact ⟨rfl, a, _, _, ⟨G, g2, r2, t2, o2⟩, _, .ref C, some d, rfl, J, sub, gone, there, ⟨rfl, rfl, fun l hl => by cases hl; rfl⟩, rfl, rfl, none, rfl, bare, raises_own O.T.exC O.T.tyC, q2⟩⟩) he hpl) hdb)
end
/-! ### fields, isinstance -/
def tXv (K : PySem.W.Frag) (f : Str) (te : TE) : TE := fun σ H Q => te σ H fun x H1 => ∃ (a C dx : Addr) (fs : List (Str × V)) (v : V), x = .ref a ∧ XfC K C ∧ PySem.W.findIn K (.ref C) f = some none ∧ H1 a = some (exo a C (some dx)) ∧ H1 dx = some (exd dx fs) ∧ fs.lookup f = some v ∧ Q v H1
theorem pe_xv {X : Cx} {e : Expr} {te : TE} {pos : Pos} {n : Str} (he : PE X e te) (hb : attributeBase e n X.env (eval e X.env) = eval e X.env := by rfl) : PE X (.Attribute e n pos) (tXv X.K n te) := by
  refine ⟨fun pins s σ H Q I h => ?_⟩
  refine attr_of hb (thn (he.run pins s σ H _ I h) fun u s1 hh => ?_)
  obtain ⟨x, H1, I1, rx, a, C, dx, fs, v, ex, T, hno, ea, ed, l, q⟩ := hh
  subst ex
  obtain rfl : u = Value.ref a := rx
  obtain ⟨t1, ho⟩ := exo_at I1.hok ea
  obtain ⟨mA, hns, hr⟩ := exd_at I1.hok ed
  obtain ⟨od, hod, hl⟩ := lookIn_ns hns
  obtain ⟨u, hu, ru⟩ := RelO.some_of (v := v) (o := mA n) (by rw [← l]; exact hr n)
  have J : PySem.W.InstAt s1.heap a { cls := .ref C, dict := some dx, data := .fields #[.ref t1, .none, .none, .none, .bool false, .none] } C (some od) := ⟨ho, rfl, rfl, hod⟩
  exact HandSPX.exc_get I1.kIn J T.ga T.gg T.exC (PySem.W.findObj_own T.hdC hno rfl (by rw [hl, hu])) (handed_of ru) ⟨v, H1, I1.tok _, ru, q⟩
theorem clsSome {K : PySem.W.Frag} {C : Addr} (e : ExcC K C) : (PySem.W.clsIn K C).isSome = true := by
  obtain ⟨cd, hc, _⟩ := PySem.W.any_some e.hd
  rw [hc] <;> rfl
def rIsV (K : PySem.W.Frag) : List V → Hp → VK → Prop := fun xs H Q => ∃ (a C : Addr) (d : Option Addr) (c : V) (cv : Value) (b : Bool), xs = [.ref a, c] ∧ H a = some (exo a C d) ∧ (d = none ∨ ∃ dx fs, d = some dx ∧ H dx = some (exd dx fs)) ∧ ExcC K C ∧
  (∀ u, RelV c u → u = cv) ∧ PySem.W.kitOne K (.ref C) cv = some b ∧ Q (.bl b) H
theorem cr_isV {X : Cx} : CallR X (.builtin "isinstance") (rIsV X.K) := by
  intro pins s σ H xs us Q I r h
  obtain ⟨a, C, d, c, cv, b, rfl, ha, hd, e, hcv, ek, q⟩ := h
  obtain ⟨t1, ho⟩ := exo_at I.hok ha
  have J : ∃ od, PySem.W.InstAt s.heap a { cls := .ref C, dict := d, data := .fields #[.ref t1, .none, .none, .none, .bool false, .none] } C od := by
    rcases hd with rfl | ⟨dx, fs, rfl, hd⟩
    · exact ⟨none, ho, rfl, rfl, trivial⟩
    · obtain ⟨mA, hns, _⟩ := exd_at I.hok hd
      obtain ⟨od, hod, _⟩ := lookIn_ns hns
      exact ⟨some od, ho, rfl, rfl, hod⟩
  obtain ⟨od, J⟩ := J
  cases r with
  | cons rx rr =>
    cases rr with
    | cons rt rr =>
      cases rr
      cases rx
      have ec := hcv _ rt
      subst ec
      exact PySem.W.kia_one (PySem.W.kitx_exc (clsSome e) e.hg e.hk e.hs e.ha e.hn e.ht e.hm) I.kIn J ek (fun z => nomatch z) fun tk => ⟨.bl b, H, I.kept (t' := tk) fun _ _ z => z, rfl, q⟩
/-- isinstance of the handled exception, with a dict or without -/
def rIsP (K : PySem.W.Frag) (a : Addr) (cls : Value) (d : Option Addr) : List V → Hp → VK → Prop := fun xs H Q => ∃ (D : Addr) (c : V) (cv : Value) (b : Bool), cls = .ref D ∧ (d = none ∨ ∃ dx fv, d = some dx ∧ H dx = some (.xd fv)) ∧ ExcC K D ∧
  xs = [.ref a, c] ∧ (∀ u, RelV c u → u = cv) ∧ PySem.W.kitOne K (.ref D) cv = some b ∧ Q (.bl b) H
theorem cr_isP {X : Cx} {a : Addr} {cls : Value} {d : Option Addr} {oe : Obj} (hp : (a, oe) ∈ X.pn) (hz : oe.cls = cls ∧ oe.dict = d) (hf : ∃ vs, oe.data = .fields vs) : CallR X (.builtin "isinstance") (rIsP X.K a cls d) := by
  intro pins s σ H xs us Q I r h
  obtain ⟨D, c, cv, b, h1, h2, e, rfl, hcv, ek, q⟩ := h
  obtain ⟨oc, od, oda, osl⟩ := oe
  obtain ⟨z1, z2⟩ := hz
  obtain ⟨vs, hv⟩ := hf
  dsimp only at z1 z2 hv
  subst hv z1 z2
  subst h1
  have get := (I.pin _ (List.mem_append_left _ hp)).1
  have J : ∃ od', PySem.W.InstAt s.heap a ⟨.ref D, od, .fields vs, osl⟩ D od' := by
    rcases h2 with h2 | ⟨dx, fv, h2, hd⟩
    · subst h2; exact ⟨none, get, rfl, rfl, trivial⟩
    · have hx : ObjOk X.prog X.w H s.heap dx (.xd fv) := I.hok dx _ hd
      obtain ⟨mA, hns, _⟩ := hx
      obtain ⟨od', hod, _⟩ := lookIn_ns hns
      subst h2
      exact ⟨some od', get, rfl, rfl, hod⟩
  obtain ⟨od', J⟩ := J
  cases r with
  | cons rx rr =>
    cases rr with
    | cons rt rr =>
      cases rr
      cases rx
      have ec := hcv _ rt
      subst ec
      exact PySem.W.kia_one (PySem.W.kitx_exc (clsSome e) e.hg e.hk e.hs e.ha e.hn e.ht e.hm) I.kIn J ek (fun z => nomatch z) fun tk => ⟨.bl b, H, I.kept (t' := tk) fun _ _ z => z, rfl, q⟩
/-! ### a def that is handed the exception, which may have fields -/
def SpZ (K : PySem.W.Frag) (n : Nat) (fr : Addr → Option Addr → Addr → List D → Res → Prop) (a : Addr) (cls : Value) (d : Option Addr) : Sp := fun vs H Q E => ∃ D : Addr, cls = .ref D ∧ SpF K n (fr a d D) vs H Q E
def CalZ (P : Program) (w : World) (K : PySem.W.Frag) (mg : Str → Option Value) (base : Heap) (k : Nat) (x : Str) (ps : List Str) (fr : Addr → Option Addr → Addr → List D → Res → Prop) : Prop :=
  ∃ f fd, mg x = some (.ref f) ∧ PySem.W.keepIn K (.ref f) = true ∧ Binds K fd ps [] ∧ FnX P w K mg base (L2N.CX P w) k f fd ps (fun p => SpZ K ps.length fr p.1 p.2.cls p.2.dict)
theorem pe_callZ {X : Cx} {x : Str} {q pos : Pos} {e : Expr} {es : List Expr} {t : TA} {W : WX} {k : Nat} {ps : List Str} {fr : Addr → Option Addr → Addr → List D → Res → Prop} {a : Addr} {oe : Obj} {cls : Value} {d : Option Addr}
    (C : CalZ X.prog X.w X.K X.mg X.base k x ps fr) (hr : L2H.RoomH k X.A) (hh : X.A.handled = some (.ref a)) (hp : (a, oe) ∈ X.pn) (hz : L2N.Zn cls d oe) (hf : ∃ vs, oe.data = .fields vs) (hg : Gl X x) (tk : L2N.Takes X W) (ha : PA X (e :: es) t)
    (hdb : (x == ("__debug__" : Str)) = false := by decide) (he : starEach (e :: es) X.env = (false, eval e X.env) :: starEach es X.env := by rfl) (hpl : (backTo pos (starEach es X.env)).any (·.1) = false := by rfl) :
    PE X (.Call (.Name x q) (e :: es) [] pos) (tCallS (SpZ X.K ps.length fr a cls d) (WE W) t) := by
  obtain ⟨f, fd, h1, h2, h3, h4⟩ := C
  obtain ⟨vs, hv⟩ := hf
  have z := pe_callX (q := q) (p := (a, oe)) h4 hr ⟨hh, vs, hv, hz.2.2 vs hv⟩ hp hg h1 h2 h3 (fun σ => L2N.passAt tk σ) ha hdb he hpl
  have e1 : oe.cls = cls := hz.1
  have e2 : oe.dict = d := hz.2.1
  rw [← e1, ← e2]
  exact z
theorem calZ_of {P : Program} {w : World} {K : PySem.W.Frag} {mg : Str → Option Value} {base : Heap} {k : Nat} {x : Str} {st : Stmt} {N ps : List Str} (A : FunAt K mg x st ps) (S : FnScope N ps (defScope st)) (fr : Addr → Option Addr → Addr → List D → Res → Prop)
    (hbody : ∀ (f : Addr) (cdv : Value) (A : Around) (outer : List Env) (s : Shared) (H : Hp) (E : XK) (p : Addr × Obj), L2H.Hot1 A p → L2H.RoomH k (A.deeper (envOfC x (defScope st) s.heap.objs.size f cdv)) → (∃ vs, p.2.data = .fields vs) →
      ∃ t, PSs (L2H.cxH (L2N.CX P w) P w K mg base N x (defScope st) f cdv A outer s H E p) (defBody st) t ∧ ∀ C, p.2.cls = .ref C → ∀ ds r, fr p.1 p.2.dict C ds r → ds.length = ps.length → FnEnd K (wD E) t (entry N ds) r) : CalZ P w K mg base (k + 1) x ps fr := by
  obtain ⟨f, fd, h1, h2, h3⟩ := A
  refine ⟨f, fd, h1, h2.kp, h3, fnX_of h2 S (fun p vs H Q E h => ?_) fun cdv A outer s H vs Q E p hot hr h => ?_⟩
  · obtain ⟨_, _, _, _, _, _, _, h, _⟩ := h
    exact h
  · have hf : ∃ vs, p.2.data = .fields vs := by obtain ⟨_, vs, e, _⟩ := hot; exact ⟨vs, e⟩
    obtain ⟨t, ht, hs⟩ := hbody f cdv A outer s H E p hot hr hf
    obtain ⟨C, hC, F1, ds, r, ex, rs, hl, hfr, q⟩ := h
    refine ⟨t, ht, ?_⟩
    have R := entry_rel (N := N) ex rs
    rcases hs C hC ds r hfr (by rw [← rs.length]; exact hl) with h | ⟨rfl, ρ', h⟩
    · cases r with
      | ok d => exact h _ F1 H F1 H _ R fun v F' H' _ g rv => q v F' H' g rv
      | er C fs =>
        obtain ⟨ρ', h⟩ := h
        exact h _ F1 H F1 H _ R fun od σ F' H' _ g rv => q od F' H' g.gr rv
    · exact h _ F1 H F1 H _ R fun σ F' H' _ R' => q .non F' H' R'.gr .non
end DL
set_option Elab.async false
set_option linter.all false
set_option maxRecDepth 100000
set_option maxHeartbeats 1000000
/-! try with several clauses, each with a name; an own __init__; over plain data. -/
namespace DL
open PySem PySem.Spec PyProof.Rows L2
/-! ### several clauses with names -/
abbrev Cl : Type := Value × Nat × (Addr → Value → Option Addr → TS)
def wManyA (K : PySem.W.Frag) (Wout : WX) (D : Ends) : List Cl → WX
  | [] => Wout
  | (c, i, ts) :: r => wAs K c i ts (wManyA K Wout D r) D
def tTryMany (K : PySem.W.Frag) (l : List Cl) (tb : WX → TS) (Wout : WX) : TS := fun D σ H => tb (wManyA K Wout D l) D σ H
inductive HdsA (X : Cx) : List ExceptHandler → List Cl → Prop
  | nil : HdsA X [] []
  | cons {x n : Str} {i : Nat} {c : Value} {ts : Addr → Value → Option Addr → TS} {b₀ : Stmt} {suite : List Stmt} {np pos' : Pos} {hds : List ExceptHandler} {l : List Cl} (hi : X.N[i]? = some n) (hln : X.env.kindOf n = some .local) (hc : Names X x c)
      (hsu : ∀ (a : Addr) (oe : Obj) (cls : Value) (d : Option Addr) (pn : List (Addr × Obj)), L2N.Zn cls d oe → (∃ vs, oe.data = .fields vs) → PSs (X.suite a ((a, oe) :: pn)) (b₀ :: suite) (ts a cls d)) (r : HdsA X hds l) :
      HdsA X (.ExceptHandler (some (.Name x np)) (some n) (b₀ :: suite) pos' :: hds) ((c, i, ts) :: l)
/-- what is known once this frame has noted an exception: it lies at a, over the ground B; I is the state without it -/
structure Caught (X : Cx) (pins : List (Addr × Obj)) (a : Addr) (cls : Value) (d : Option Addr) (B : Heap) (sI s : Shared) (σ : L2.St) (H : Hp) : Prop where
  I : Inv X pins σ H sI
  nb : ∀ b o, sI.heap.get? b = some o → b ∉ frs X.stack → B.get? b = some o
  up : sI.heap.UpToSlots s.heap
  fly : HandSPX.FlyingZ B (X.env :: X.outer) a (L2N.Zn cls d) s.heap
  na : H a = none
  os : s.os = sI.os
  ag : AllBare s.gens
section
variable {X : Cx} {pins : List (Addr × Obj)} {a : Addr} {cls : Value} {d : Option Addr} {B : Heap} {sI s : Shared} {σ : L2.St} {H : Hp} {tb : WX → TS} {Wout : WX}
theorem Caught.state (c : Caught X pins a cls d B sI s σ H) : Inv X pins σ H s := c.I.landed c.nb c.fly.1 c.up c.os c.ag
theorem Caught.on (c : Caught X pins a cls d B sI s σ H) {h : Heap} (fly : HandSPX.FlyingZ B (X.env :: X.outer) a (L2N.Zn cls d) h) (up : s.heap.UpToSlots h) : Caught X pins a cls d B sI { s with heap := h } σ H :=
  ⟨c.I, c.nb, c.up.trans up, fly, c.na, c.os, c.ag⟩
theorem Caught.suite (c : Caught X pins a cls d B sI s σ H) (hf : X.env.frame = some X.env.locals) : ∃ oe, L2N.Zn cls d oe ∧ (∃ vs, oe.data = .fields vs) ∧ s.heap.get? a = some oe ∧ Inv (X.suite a ((a, oe) :: (X.pn ++ pins))) [] σ H s := by
  obtain ⟨oe, vs, here, z, data⟩ := c.fly.there
  have out : a ∉ frs (X.env :: X.outer) := fun m => by
    obtain ⟨_, o, e, no⟩ := c.fly.2.2.1.mem m
    rw [here] at e
    exact no vs (by cases e; exact data)
  refine ⟨oe, z, ⟨vs, data⟩, here, c.state.suite here data c.na (fun e => out ?_) fun m => out ?_⟩
  · exact List.mem_filterMap.mpr ⟨X.env, .head _, by rw [hf, e]⟩
  · obtain ⟨e, m1, m2⟩ := List.mem_filterMap.mp m
    exact List.mem_filterMap.mpr ⟨e, .tail _ m1, m2⟩
/-- no clause is left: it flies on -/
theorem Caught.out (c : Caught X pins a cls d B sI s σ H) (hs : X.stack = X.env :: X.outer) (hf : X.env.frame = some X.env.locals) (tk : L2N.Takes X Wout) {D : Ends} (w : Wout cls d σ H) : wpAny (model X.prog X.w) X.A (handleBy (.ref a) X.env []) (SP X pins D) X.xe s := by
  have fly : wpAny (model X.prog X.w) X.A (setFlight (.ref a) X.env.frame) (fun _ s4 => wpAny (model X.prog X.w) X.A (throw (.ref a) : Sem Flow) (SP X pins D) X.xe s4) X.xe s := by
    rw [hf]
    refine HandSPX.setFlight_upZ c.fly fun h held up => wpAny_throw (tk _ _ ⟨a, B, sI, pins, σ, H, cls, d, rfl, c.I, c.nb, c.up.trans up, .inr (.inr ?_), c.na, c.os, c.ag, w⟩)
    rw [hs]; exact held
  obtain ⟨_, _, _, oe, vs, T, oT, ts, here, _, data, tr, _⟩ := c.fly
  refine wpAny_handleBy_nil ?_
  unfold PySem.passOn
  refine wpAny_bind (wpAny_field here data tr ?_)
  have some_tr : ¬ ((Value.ref T == Value.none) = true) := by simp
  rw [if_neg some_tr]
  first
    | exact wpAny_bind (wpAny_pure (wpAny_bind fly))
    | exact wpAny_bind fly
/-- the clauses, one after the other -/
theorem Caught.clauses (c : Caught X pins a cls d B sI s σ H) (hs : X.stack = X.env :: X.outer) (hf : X.env.frame = some X.env.locals) (hN : X.N.Nodup) (tk : L2N.Takes X Wout) {D : Ends} {hds : List ExceptHandler} {l : List Cl} (ok : HdsA X hds l) :
    wManyA X.K Wout D l cls d σ H → wpAny (model X.prog X.w) X.A (handleBy (.ref a) X.env hds) (SP X pins D) X.xe s := by
  induction ok with
  | nil => exact c.out hs hf tk
  | @cons x n i k ts b₀ suite np pos' hds l hi hln hc hsu r ih =>
    rintro ⟨b, ask, yes, no⟩
    obtain ⟨oe, z, _, here, S⟩ := c.suite hf
    have isA : PySem.W.Looks (model X.prog X.w) s.heap (typeOf (.ref a)) cls := fun A Q E s k q => wpAny_typeOf_ref (k _ _ here) (by rw [z.1]; exact q)
    have matching := PySem.W.exm_one (M := model X.prog X.w) c.state.kIn isA ask
    refine wpAny_handleBy_cons (codeAny_handlers_test ?_) (fun q => nomatch q)
    have named : ∀ {Q E : Value → Shared → Prop}, Q k s → wpAny (model X.prog X.w) (X.A.mark (some (.ref a))) (eval (.Name x np) X.env) Q E s := fun q => by
      obtain ⟨g, nd, glob | ⟨no, blt, nn⟩⟩ := hc
      · exact ld_glob (X := X.suite a ((a, oe) :: (X.pn ++ pins))) S g glob q nd
      · exact ld_blt (X := X.suite a ((a, oe) :: (X.pn ++ pins))) S g no blt q nn nd
    refine named (matching.here ?_)
    cases b with
    | false => exact ih (no rfl)
    | true =>
      refine codeAny_handlers_suite_as (HandSPX.lands_againZ c.fly fun h fly up => ?_)
      have c' := c.on fly up
      obtain ⟨oe', z', data', _, S'⟩ := c'.suite hf
      refine store_ok (X := X.suite a ((a, oe') :: (X.pn ++ pins))) (v := .ref a) S' hN hi (.inl hln) rfl (fun s5 S5 => ?_) (.inr hln)
      refine wpAny_mono ((hsu a oe' cls d _ z' data').run [] s5 _ H _ S5 (yes rfl a c.na)) (fun f s6 post => ?_) fun _ _ z => z.elim
      have leave : ∀ {σ6 : L2.St} {H6 : Hp} {Q : Shared → Prop}, Inv (X.suite a ((a, oe') :: (X.pn ++ pins))) [] σ6 H6 s6 → (∀ s7, Inv X pins (σ6.set i none) H6 s7 → Q s7) →
          wpAny (model X.prog X.w) X.A (do bindName X.env n .none; unbindBehindTheSuite X.env n pos') (fun _ s7 => Q s7) X.xe s6 := fun S6 q => gone_ok (S6.unsuite c.I.ok) hN hi hln q
      match f, post with
      | .next, ⟨_, _, S6, q6⟩ => exact leave S6 fun _ J7 => ⟨_, _, J7, q6⟩
      | .brk, ⟨_, _, S6, q6⟩ => exact leave S6 fun _ J7 => ⟨_, _, J7, q6⟩
      | .cont, ⟨_, _, S6, q6⟩ => exact leave S6 fun _ J7 => ⟨_, _, J7, q6⟩
      | .ret u, ⟨_, _, _, S6, r6, q6⟩ => exact leave S6 fun _ J7 => ⟨_, _, _, J7, r6, q6⟩
theorem ps_tryMany {body : List Stmt} {h₀ : ExceptHandler} {hds : List ExceptHandler} {l : List Cl} {pos : Pos} (hs : X.stack = X.env :: X.outer) (hf : X.env.frame = some X.env.locals) (hN : X.N.Nodup) (tk : L2N.Takes X Wout)
    (hb : ∀ (W : WX) (pn : List (Addr × Obj)) (xe : Value → Shared → Prop), L2N.Takes (X.tr pn xe) W → PassesOwn (model X.prog X.w) X.A X.env xe → PSs (X.tr pn xe) body (tb W))
    (hh : HdsA X (h₀ :: hds) l) : PS X (.Try body (h₀ :: hds) [] [] pos) (tTryMany X.K l tb Wout) := ⟨fun pins s σ H D I h => by
  let wish : Value → Shared → Prop := fun e s₁ => wpAny (model X.prog X.w) X.A (noteFrame e X.env) (fun _ s₂ => wpAny (model X.prog X.w) X.A (setFlight e none) (fun _ s₃ => wpAny (model X.prog X.w) X.A (handleBy e X.env (h₀ :: hds)) (SP X pins D) X.xe s₃) X.xe s₂) X.xe s₁
  have takes : L2N.Takes (X.tr (X.pn ++ pins) wish) (wManyA X.K Wout D l) := by
    rintro _ s' ⟨a, B, sI, pins', σ', H', cls, d, rfl, J, nb, up, sky, na, os, ag, w⟩
    show wpAny (model X.prog X.w) X.A (noteFrame (.ref a) X.env) _ _ _
    have sky' : L2.Sky B (X.env :: X.outer) a (L2N.Zn cls d) X.env.locals s'.heap := by rw [← hs]; exact sky
    refine L2N.Sky.land L2N.Zn.steady (by rw [I.ok.frames, hs]) hf sky' fun h3 fly up3 => ?_
    exact (Caught.mk (J.ofTry I.ok) nb (up.trans up3) fly na os ag : Caught X pins a cls d B sI { s' with heap := h3 } σ' H').clauses hs hf hN tk hh w
  refine wpAny_Try_except (wpAny_mono ((hb _ _ wish takes PassesOwn.looking).run [] s σ H D (I.toTry _) h) (fun f s1 post => ?_) fun _ _ z => z)
  match f, post with
  | .next, ⟨_, _, J, q⟩ => exact wpAny_execs_nil ⟨_, _, J.ofTry I.ok, q⟩
  | .brk, ⟨_, _, J, q⟩ => exact ⟨_, _, J.ofTry I.ok, q⟩
  | .cont, ⟨_, _, J, q⟩ => exact ⟨_, _, J.ofTry I.ok, q⟩
  | .ret u, ⟨_, _, _, J, r, q⟩ => exact ⟨_, _, _, J.ofTry I.ok, r, q⟩⟩
end
/-! ### an own __init__ that stores its arguments -/
def SpI (C : Addr) (fs : List Str) : Sp := fun vs H Q E => ∃ (a : Addr) (us : List V), vs = .ref a :: us ∧ us.length = fs.length ∧ H a = some (exo a C none) ∧
  ∀ (dx : Addr) (H' : Hp), H dx = none → dx ≠ a → (∀ b, b ≠ a → b ≠ dx → H' b = H b) → H' a = some (exo a C (some dx)) → H' dx = some (exd dx (fs.zip us).reverse) → Q .non H'
section
variable {P : Program} {w : World} {K : PySem.W.Frag} {mg : Str → Option Value} {base : Heap} {x qual : Str} {st : Stmt} {f C : Addr} {fd : FuncData} {n m g g2 : Str} {N : List Str}
theorem fnI1 (F : FunD K x qual (defArgs st) (defBody st) (defScope st) [] [] f fd) (S : FnScope N N (defScope st)) (hN : N.length = 2) (T : OexC K C) (hno : PySem.W.findIn K (.ref C) g = some none)
    (hbody : ∀ (cdv : Value) (A : Around) (outer : List Env) (s : Shared) (H : Hp) (E : XK), PSs (cxOf (L2N.CX P w) P w K mg base N qual (defScope st) f cdv A outer s H E) (defBody st) (tOst K g (tVar 0) (tVar 1))) :
    FnOk P w K mg base (L2N.CX P w) 1 f fd N (SpI C [g]) := by
  obtain ⟨oc, od, dV, kV, doc, pm, an, cdv, ct, osl, rfl, lk, hcd, hD, _⟩ := F.ex
  rcases hD with ⟨_, rfl⟩ | ⟨e, _⟩
  · refine fn_of (k := 0) lk hcd S (fun vs H Q E h => ?_) fun A outer s H vs Q E hr h => ?_
    · obtain ⟨a, us, rfl, hl, _⟩ := h
      simp [hl, hN]
    · refine ⟨_, hbody cdv A outer s H E, ?_⟩
      obtain ⟨a, us, rfl, hl, ha, q⟩ := h
      obtain ⟨v, rfl⟩ : ∃ v, us = [v] := by
        match us, hl with
        | [v], _ => exact ⟨v, rfl⟩
      refine ⟨v, rfl, .ref a, rfl, a, C, rfl, T, hno, .inl ⟨ha, fun dx hd hne => q dx _ hd hne (fun b h1 h2 => ?_) ?_ ?_⟩⟩
      · rw [upd_ne h1, upd_ne h2]
      · exact upd_same
      · rw [upd_ne hne]; exact upd_same
  · exact absurd rfl e
theorem fnI2 (F : FunD K x qual (defArgs st) (defBody st) (defScope st) [] [] f fd) (S : FnScope N N (defScope st)) (hN : N.length = 3) (T : OexC K C) (hno : PySem.W.findIn K (.ref C) g = some none) (hno2 : PySem.W.findIn K (.ref C) g2 = some none)
    (hbody : ∀ (cdv : Value) (A : Around) (outer : List Env) (s : Shared) (H : Hp) (E : XK), PSs (cxOf (L2N.CX P w) P w K mg base N qual (defScope st) f cdv A outer s H E) (defBody st) (tSeq (tOst K g (tVar 0) (tVar 1)) (tOst K g2 (tVar 0) (tVar 2)))) :
    FnOk P w K mg base (L2N.CX P w) 1 f fd N (SpI C [g, g2]) := by
  obtain ⟨oc, od, dV, kV, doc, pm, an, cdv, ct, osl, rfl, lk, hcd, hD, _⟩ := F.ex
  rcases hD with ⟨_, rfl⟩ | ⟨e, _⟩
  · refine fn_of (k := 0) lk hcd S (fun vs H Q E h => ?_) fun A outer s H vs Q E hr h => ?_
    · obtain ⟨a, us, rfl, hl, _⟩ := h
      simp [hl, hN]
    · refine ⟨_, hbody cdv A outer s H E, ?_⟩
      obtain ⟨a, us, rfl, hl, ha, q⟩ := h
      obtain ⟨v, u, rfl⟩ : ∃ v u, us = [v, u] := by
        match us, hl with
        | [v, u], _ => exact ⟨v, u, rfl⟩
      refine ⟨v, rfl, .ref a, rfl, a, C, rfl, T, hno, .inl ⟨ha, fun dx hd hne => ?_⟩⟩
      refine ⟨u, rfl, .ref a, rfl, a, C, rfl, T, hno2, .inr ⟨dx, [(g, v)], upd_same, by rw [upd_ne hne]; exact upd_same, by simp, ?_⟩⟩
      refine q dx _ hd hne (fun b h1 h2 => ?_) ?_ ?_
      · rw [upd_ne h2, upd_ne h1, upd_ne h2]
      · rw [upd_ne (Ne.symm hne)]; exact upd_same
      · exact upd_same
  · exact absurd rfl e
end
/-! ### over plain data -/
section
variable {K : PySem.W.Frag} {W : WX} {ρ ρ1 : List Sl} {te : TE} {ta : TA} {d : D} {ds : List D} {C : Addr} {f g : Str} {b : Bool} {o : Out} {i : Nat}
theorem ev_exc0 : EvD K (tMk0 C) ρ (.exc C [] []) := fun F0 H0 F H σ R Q q a ha =>
  q _ (upd F a (exo a C none)) _ (.new R.ex ha) (.exc0 upd_same)
/-- an exception and its dict are new -/
theorem Gr.two {F H : Hp} (e : Ex F H) {a dx : Addr} {oa od : HO} {H' : Hp} (ha : H a = none) (hd : H dx = none) (hne : dx ≠ a) (h1 : ∀ b, b ≠ a → b ≠ dx → H' b = H b) (h2 : H' a = some oa) (h3 : H' dx = some od) :
    Gr F H (upd (upd F a oa) dx od) H' := by
  have fa := e.back ha
  have fd := e.back hd
  refine ⟨fun b o h => ?_, fun b o h => ?_, fun b o h => ?_, fun b o h1 _ h2 => ?_⟩
  · rw [upd_ne (ne_of_none h fd), upd_ne (ne_of_none h fa)]; exact h
  · rw [h1 b (ne_of_none h ha) (ne_of_none h hd)]; exact h
  · by_cases z : b = dx
    · subst z; rw [upd_same] at h; cases h; exact h3
    · rw [upd_ne z] at h
      by_cases y : b = a
      · subst y; rw [upd_same] at h; cases h; exact h2
      · rw [upd_ne y] at h; rw [h1 b y z]; exact e b o h
  · rw [upd_ne (ne_of_none h1 hd), upd_ne (ne_of_none h1 ha)]; exact h2
theorem ev_exc1 (h : AvD K ta ρ [d]) : EvD K (tMkV C (SpI C [f]) ta) ρ (.exc C [f] [d]) := fun F0 H0 F H σ R Q q =>
  h F0 H0 F H σ R _ fun vs F1 H1 g1 r1 => by
    cases r1 with
    | cons rv r1 =>
      rename_i v vs'
      cases r1
      refine ⟨by simp, fun a ha => ⟨a, [v], rfl, rfl, upd_same, fun dx H' hd hne h1 h2 h3 => ⟨rfl, ?_⟩⟩⟩
      rw [upd_ne hne] at hd
      have g2 : Gr F1 H1 (upd (upd F1 a (exo a C (some dx))) dx (exd dx [(f, v)])) H' := .two g1.s ha hd hne (fun b z1 z2 => by rw [h1 b z1 z2, upd_ne z1]) h2 h3
      exact q _ _ H' (g1.trans g2) (.exc (ns := [f]) (vs := [v]) (by rw [upd_ne (Ne.symm hne)]; exact upd_same) upd_same rfl (.cons (rv.mono g2.f) .nil))
theorem ev_exc2 {e : D} (h : AvD K ta ρ [d, e]) : EvD K (tMkV C (SpI C [f, g]) ta) ρ (.exc C [g, f] [e, d]) := fun F0 H0 F H σ R Q q =>
  h F0 H0 F H σ R _ fun vs F1 H1 g1 r1 => by
    cases r1 with
    | @cons v _ vs1 _ rv r1 =>
      cases r1 with
      | @cons u _ vs2 _ ru r1 =>
        cases r1
        refine ⟨by simp, fun a ha => ⟨a, [v, u], rfl, rfl, upd_same, fun dx H' hd hne h1 h2 h3 => ⟨rfl, ?_⟩⟩⟩
        rw [upd_ne hne] at hd
        have g2 : Gr F1 H1 (upd (upd F1 a (exo a C (some dx))) dx (exd dx [(g, u), (f, v)])) H' := .two g1.s ha hd hne (fun b z1 z2 => by rw [h1 b z1 z2, upd_ne z1]) h2 h3
        exact q _ _ H' (g1.trans g2) (.exc (ns := [g, f]) (vs := [u, v]) (by rw [upd_ne (Ne.symm hne)]; exact upd_same) upd_same rfl (.cons (ru.mono g2.f) (.cons (rv.mono g2.f) .nil)))
/-- raise C(e) -/
def tRaiseI (C : Addr) (sp : Sp) (ta : TA) (W : WX) : TS := fun _ σ H => tMkO C sp [] ta σ H fun cls d H' => W cls d σ H'
theorem sv_raiseI (h : AvD K ta ρ [d]) : SvD K W (tRaiseI C (SpI C [f]) ta W) ρ (.er C [(f, d)] ρ) := fun E F0 H0 F H σ R p =>
  h F0 H0 F H σ R _ fun vs F1 H1 g1 r1 => by
    cases r1 with
    | cons rv r1 =>
      rename_i v vs'
      cases r1
      refine ⟨by simp, fun a ha => ⟨a, [v], rfl, rfl, upd_same, fun dx H' hd hne h1 h2 h3 => ⟨rfl, dx, [(f, v)], h2, h3, ?_, ?_⟩⟩⟩
      · rw [upd_ne hne] at hd; exact hd
      · rw [upd_ne hne] at hd
        have fd := g1.s.back hd
        have eq : ∀ b, b ≠ dx → upd (del H' a) dx (.xd [(f, v)]) b = H1 b := fun b z => by
          rw [upd_ne z]
          by_cases y : b = a
          · subst y; rw [del_same, ha]
          · rw [del_ne y, h1 b y z, upd_ne y]
        have g2 : Gr F1 H1 F1 (upd (del H' a) dx (.xd [(f, v)])) := ⟨.refl _, fun b o z => by rw [eq b (ne_of_none z hd)]; exact z, fun b o z => by rw [eq b (ne_of_none z fd)]; exact g1.s b o z, fun b o z _ y => y⟩
        refine p (some dx) σ F1 _ g1.f (R.grow (g1.trans g2)) (.inr ⟨by simp, dx, [(f, v)], rfl, upd_same, fun f' x hx => ?_⟩)
        by_cases e : f' = f
        · subst e
          simp [List.lookup] at hx
          subst hx
          exact ⟨v, by simp [List.lookup], rv⟩
        · have : (f' == f) = false := by simpa using e
          simp [List.lookup, this] at hx
/-- an exception's field -/
theorem ev_xv {ns : List Str} (h : EvD K te ρ (.exc C ns ds)) (T : XfC K C) (hno : PySem.W.findIn K (.ref C) f = some none) {j : Nat} (h1 : ns[j]? = some f) (h2 : ds[j]? = some d) (h3 : ∀ i, i < j → ns[i]? ≠ some f) : EvD K (tXv K f te) ρ d := fun F0 H0 F H σ R Q q =>
  h F0 H0 F H σ R _ fun v F1 H1 g1 r1 => by
    cases r1 with
    | exc0 => simp at h1
    | @exc a C dx ns vs ds ha hd l r =>
      obtain ⟨v, e1, e2⟩ := r.getD h2
      have look : ∀ (j : Nat) (ns : List Str) (vs : List V), ns[j]? = some f → vs[j]? = some v → (∀ i, i < j → ns[i]? ≠ some f) → (ns.zip vs).lookup f = some v := by
        intro j
        induction j with
        | zero =>
          intro ns vs a b _
          cases ns with
          | nil => simp at a
          | cons n ns =>
            cases vs with
            | nil => simp at b
            | cons u vs =>
              simp at a b
              subst a b
              simp [List.lookup]
        | succ j ih =>
          intro ns vs a b c
          cases ns with
          | nil => simp at a
          | cons n ns =>
            cases vs with
            | nil => simp at b
            | cons u vs =>
              have ne : n ≠ f := fun z => c 0 (Nat.zero_lt_succ _) (by simp [z])
              have : (f == n) = false := by simpa using (Ne.symm ne)
              simp only [List.zip_cons_cons, List.lookup, this]
              exact ih ns vs (by simpa using a) (by simpa using b) fun i hi => by
                have := c (i + 1) (by omega)
                simpa using this
      exact ⟨a, C, dx, ns.zip vs, v, rfl, T, hno, g1.s _ _ ha, g1.s _ _ hd, look j ns vs h1 e1 h3, q v F1 H1 g1 e2⟩
theorem ev_isV {ns : List Str} {c : D} {cv : Value} {tb : TE} (h : EvD K te ρ (.exc C ns ds)) (e : ExcC K C) (hc : EvD K tb ρ c) (hcv : ∀ (F : Hp) (v : V), Rep K F v c → ∀ u, RelV v u → u = cv) (hk : PySem.W.kitOne K (.ref C) cv = some b) :
    EvD K (tCB (rIsV K) (tCons te (tCons tb tNil))) ρ (.bl b) := ev_cb (av_cons h (av_cons hc av_nil)) fun F H ex vs r Q q => by
  cases r with
  | @cons v1 _ _ _ r1 r =>
    cases r with
    | @cons v2 _ _ _ r2 r =>
      cases r
      cases r1 with
      | @exc0 a _ ha => exact ⟨a, C, none, v2, cv, b, rfl, ex _ _ ha, .inl rfl, e, hcv F v2 r2, hk, q _ F H (.refl ex) (.bl b)⟩
      | @exc a _ dx _ _ _ ha hd _ _ => exact ⟨a, C, some dx, v2, cv, b, rfl, ex _ _ ha, .inr ⟨dx, _, rfl, ex _ _ hd⟩, e, hcv F v2 r2, hk, q _ F H (.refl ex) (.bl b)⟩
theorem ev_isP {ns : List Str} {c : D} {cv : Value} {tb : TE} {a : Addr} {od : Option Addr} (h : EvD K te ρ (.hx a od ns ds)) (e : ExcC K C) (hc : EvD K tb ρ c) (hcv : ∀ (F : Hp) (v : V), Rep K F v c → ∀ u, RelV v u → u = cv) (hk : PySem.W.kitOne K (.ref C) cv = some b) :
    EvD K (tCB (rIsP K a (.ref C) od) (tCons te (tCons tb tNil))) ρ (.bl b) := ev_cb (av_cons h (av_cons hc av_nil)) fun F H ex vs r Q q => by
  cases r with
  | @cons v1 _ _ _ r1 r =>
    cases r with
    | @cons v2 _ _ _ r2 r =>
      cases r
      cases r1 with
      | hx0 => exact ⟨C, v2, cv, b, rfl, .inl rfl, e, rfl, hcv F v2 r2, hk, q _ F H (.refl ex) (.bl b)⟩
      | @hx _ dx fv _ _ _ hd _ _ _ => exact ⟨C, v2, cv, b, rfl, .inr ⟨dx, fv, rfl, ex _ _ hd⟩, e, rfl, hcv F v2 r2, hk, q _ F H (.refl ex) (.bl b)⟩
theorem cv_cls {D0 : Addr} : ∀ (F : Hp) (v : V), Rep K F v (.cls D0) → ∀ u, RelV v u → u = .ref D0 := fun F v r u h => by
  cases r; exact h
theorem cv_ty {nm : String} : ∀ (F : Hp) (v : V), Rep K F v (.ty nm) → ∀ u, RelV v u → u = .type nm := fun F v r u h => by
  cases r; exact h
/-- e.f, e the handled exception -/
theorem ev_xf {ns : List Str} {a dx : Addr} (h : EvD K te ρ (.hx a (some dx) ns ds)) {j : Nat} (h1 : ns[j]? = some f) (h2 : ds[j]? = some d) : EvD K (tXf a (.ref C) (some dx) C f te) ρ d := fun F0 H0 F H σ R Q q =>
  h F0 H0 F H σ R _ fun v F1 H1 g1 r1 => by
    cases r1 with
    | @hx _ _ fv _ vs _ hd hl l r =>
      obtain ⟨v, e1, e2⟩ := r.getD h2
      exact ⟨rfl, rfl, dx, fv, v, rfl, g1.s _ _ hd, hl j f v h1 e1, q v F1 H1 g1 e2⟩
/-- what the clauses make of an exception -/
inductive CatchD (K : PySem.W.Frag) (W : WX) (C : Addr) (fs : List (Str × D)) (ρ1 : List Sl) : List Cl → Out → Prop
  | here {c : Value} {i : Nat} {ts : Addr → Value → Option Addr → TS} {l : List Cl} {o : Out} (hx : PySem.W.exmOne K (.ref C) c = some true)
      (h0 : fs = [] → ∀ a : Addr, SvD K (fun _ _ _ _ => False) (ts a (.ref C) none) (ρ1.set i (.d (.hx a none [] []))) o)
      (h1 : ∀ f x, fs = [(f, x)] → ∀ a dx : Addr, SvD K (fun _ _ _ _ => False) (ts a (.ref C) (some dx)) (ρ1.set i (.d (.hx a (some dx) [f] [x]))) o) (hl : fs.length ≤ 1) (hne : ∀ C fs ρ', o ≠ .er C fs ρ') : CatchD K W C fs ρ1 ((c, i, ts) :: l) (o.gone i)
  | next {c : Value} {i : Nat} {ts : Addr → Value → Option Addr → TS} {l : List Cl} {o : Out} (hx : PySem.W.exmOne K (.ref C) c = some false) (r : CatchD K W C fs ρ1 l o) : CatchD K W C fs ρ1 ((c, i, ts) :: l) o
  | out : CatchD K W C fs ρ1 [] (.er C fs ρ1)
theorem catch_ok {fs : List (Str × D)} {E : Ends} {F0 H0 F : Hp} : ∀ {l : List Cl} {o : Out}, CatchD K W C fs ρ1 l o → Post K F0 H0 F E W o → Post K F0 H0 F E (wManyA K W E l) (.er C fs ρ1)
  | _, _, .out, p => p
  | _, _, .next hx r, p => fun od σ1 F1 H1 e1 R1 xr => ⟨false, hx, (fun z => nomatch z), fun _ => catch_ok r p od σ1 F1 H1 e1 R1 xr⟩
  | _, _, .here (i := i) (o := o) hx h0 h1 hl hne, p => fun od σ1 F1 H1 e1 R1 xr => ⟨true, hx, fun _ a ha => by
      have po : ∀ F2, Ex F1 F2 → Post K F0 H0 F2 { nx := fun σ' H' => E.nx (σ'.set i none) H', rt := E.rt, bk := fun σ' H' => E.bk (σ'.set i none) H', ct := fun σ' H' => E.ct (σ'.set i none) H' } (fun _ _ _ _ => False) o := fun F2 x2 => by
        cases o with
        | nx ρ => exact fun σ2 F3 H2 e2 R2 => p _ F3 H2 ((e1.trans x2).trans e2) (R2.forget i none)
        | rt d => exact fun v F3 H2 e2 g2 r2 => p v F3 H2 ((e1.trans x2).trans e2) g2 r2
        | bk ρ => exact fun σ2 F3 H2 e2 R2 => p _ F3 H2 ((e1.trans x2).trans e2) (R2.forget i none)
        | ct ρ => exact fun σ2 F3 H2 e2 R2 => p _ F3 H2 ((e1.trans x2).trans e2) (R2.forget i none)
        | er C fs ρ' => exact absurd rfl (hne C fs ρ')
      match fs, hl with
      | [], _ =>
        have hod : od = none := by
          rcases xr with ⟨_, e⟩ | ⟨z, _⟩
          · exact e
          · exact absurd rfl z
        subst hod
        exact h0 rfl a _ F0 H0 F1 H1 _ (R1.set i .hx0) (po F1 (.refl _))
      | [(f, x)], _ =>
        rcases xr with ⟨z, _⟩ | ⟨_, dx, fv, rfl, hd, hf⟩
        · cases z
        · obtain ⟨F2, g2, hF⟩ := Gr.xd R1.ex hd
          obtain ⟨v, e1', rv⟩ := hf f x (by simp [List.lookup])
          refine h1 f x rfl a dx _ F0 H0 F2 H1 _ ((R1.grow g2).set i (.hx (fv := fv) (vs := [v]) hF (fun j f' v' z1 z2 => ?_) rfl (.cons (rv.mono g2.f) .nil))) (po F2 g2.f)
          match j with
          | 0 => simp at z1 z2; subst z1 z2; exact e1'
          | j + 1 => simp at z1, fun z => nomatch z⟩
theorem sv_tryMany {l : List Cl} {tb : WX → TS} {fs : List (Str × D)} (h : ∀ W', SvD K W' (tb W') ρ (.er C fs ρ1)) (hc : CatchD K W C fs ρ1 l o) : SvD K W (tTryMany K l tb W) ρ o := fun E F0 H0 F H σ R p =>
  h _ E F0 H0 F H σ R (catch_ok hc p)
theorem sv_tryManyOk {l : List Cl} {tb : WX → TS} (h : ∀ W', SvD K W' (tb W') ρ o) (hne : ∀ C fs ρ', o ≠ .er C fs ρ') : SvD K W (tTryMany K l tb W) ρ o := fun E F0 H0 F H σ R p =>
  h _ E F0 H0 F H σ R (by cases o with
    | nx ρ => exact p
    | rt d => exact p
    | bk ρ => exact p
    | ct ρ => exact p
    | er C fs ρ' => exact absurd rfl (hne C fs ρ'))
theorem ev_callZ {fr : Addr → Option Addr → Addr → List D → Res → Prop} {n : Nat} {a : Addr} {od : Option Addr} {Es : L2.St → XK} (h : AvD K ta ρ ds) (hf : fr a od C ds (.ok d)) (hn : ds.length = n := by rfl) : EvD K (tCallS (SpZ K n fr a (.ref C) od) Es ta) ρ d := fun F0 H0 F H σ R Q q =>
  h F0 H0 F H σ R _ fun vs F1 H1 g1 r1 => ⟨C, rfl, F1, ds, .ok d, g1.s, r1, by rw [r1.length]; exact hn, hf, fun v F2 H2 g2 r2 => q v F2 H2 (g1.trans g2) r2⟩
end
end DL
set_option Elab.async false
set_option linter.all false
set_option maxRecDepth 100000
set_option maxHeartbeats 1000000
/-! Texts, sets of texts, items that are stored, constants of the module, a def that calls itself, classes with an own __init__. -/
namespace DL
open PySem PySem.Spec PyProof.Rows L2
/-! ### machine rules -/
section
variable {X : Cx} {x : Str} {p pos : Pos}
theorem pe_globS {z : Str} (hg : Gl X x) (hm : ∃ t, X.mg x = some (.str z t)) (hdb : (x == ("__debug__" : Str)) = false := by decide) : PE X (.Name x pos) (tC (.str z)) := by
  obtain ⟨t, h⟩ := hm
  exact pe_glob hg h ⟨t, rfl⟩ hdb
theorem pe_globI {i : Int} (hg : Gl X x) (hm : ∃ t, X.mg x = some (.int i t)) (hdb : (x == ("__debug__" : Str)) = false := by decide) : PE X (.Name x pos) (tC (.int i)) := by
  obtain ⟨t, h⟩ := hm
  exact pe_glob hg h ⟨t, rfl⟩ hdb
/-- f() -/
theorem pe_callD0 {W : WX} {k : Nat} {fr : List D → Res → Prop} (C : Cal X.prog X.w X.K X.mg X.base k x [] fr) (hr : Room k X.A) (hg : Gl X x) (tk : L2N.Takes X W) (hdb : (x == ("__debug__" : Str)) = false := by decide) :
    PE X (.Call (.Name x p) [] [] pos) (tCallS (SpF X.K 0 fr) (WE W) tNil) := by
  obtain ⟨f, fd, h1, h2, h3, h4⟩ := C
  refine ⟨fun pins s σ H Q I h => ?_⟩
  refine wpAny_Call_Name_kw (ld_glob I hg h1 ?_ hdb)
  exact PySem.W.callWith_K0 I.kIn h2 (run_fnS (us := []) h4 hr h3 (L2N.passAt tk σ) I .nil h)
end
def rSortS (K : PySem.W.Frag) : List V → Hp → VK → Prop := fun xs H Q => ∃ (a : Addr) (ss : List Str), xs = [.ref a] ∧ (SqL K H a (ss.map V.str) ∨ SqT K H a (ss.map V.str)) ∧ ss.length ≤ 16777216 ∧ ∀ p, H p = none → Q (.ref p) (upd H p (.lst ((ss.mergeSort leX).map V.str)))
theorem cr_sortS {X : Cx} (hu : X.A.units + 64 < cLine) : CallR X (.builtin "sorted") (rSortS X.K) := by
  intro pins s σ H xs us Q I r h
  obtain ⟨a, ss, rfl, hq, hz, q⟩ := h
  obtain ⟨u, rfl, rx⟩ := r.one
  cases rx
  obtain ⟨its, rv, o, T, n, hT, ho, hc, hd, hl⟩ : ∃ (its : List Value), Vals (ss.map V.str) its ∧ ∃ (o : Obj) (T : String) (n : Nat), (T = "list" ∨ T = "tuple") ∧ s.heap.get? a = some o ∧ o.cls = .type T ∧ o.data = .seq its.toArray n ∧ its.length = ss.length := by
    rcases hq with hq | hq
    · obtain ⟨its, r', pl, _⟩ := I.list hq
      obtain ⟨o, ho, hc, n, hd⟩ := pl.isList
      exact ⟨its, r', o, "list", n, .inl rfl, ho, hc, hd, by rw [← r'.length, List.length_map]⟩
    · obtain ⟨its, r', pl, _⟩ := I.tuple hq
      obtain ⟨o, ho, hc, n, hd⟩ := pl
      exact ⟨its, r', o, "tuple", n, .inr rfl, ho, hc, hd, by rw [← r'.length, List.length_map]⟩
  have hz' : its.length ≤ sizeLine := by rw [hl]; exact sz_of hz
  refine Calls.call_function_entry kind_sorted plain_sorted entry_sorted (args_sorted1 _) ?_
  unfold Builtin.«sorted»
  refine wpAny_bind (m := checkCount "sorted" 1 1 _) (wpAny_pure ?_)
  refine wpAny_bind (wpAny_collect_seq (A := X.A.in1) a hT ho hc hd (fun h' hk => ?_) (by simpa using hz'))
  have I1 : Inv X pins σ H { s with heap := h' } := I.kept (t' := s.toks) hk
  have so : SortOk ((ss.map fun t => (V.str t, PyData.str t)).map (·.2)) := by
    rw [List.map_map]
    refine ⟨fun d hd e he => ?_, .inr fun d hd => ?_, fun d hd => ?_, ?_⟩
    · obtain ⟨x, _, rfl⟩ := List.mem_map.mp hd
      obtain ⟨y, _, rfl⟩ := List.mem_map.mp he
      rfl
    · obtain ⟨x, _, rfl⟩ := List.mem_map.mp hd
      exact ⟨(fun z => nomatch z), fun xs z => nomatch z⟩
    · obtain ⟨x, _, rfl⟩ := List.mem_map.mp hd
      show (PyData.str x).depth ≤ 8
      simp [PyData.depth]
    · rw [List.length_map]; exact hz
  have rv' : Vals ((ss.map fun t => (V.str t, PyData.str t)).map (·.1)) its := by rw [List.map_map]; exact rv
  refine wpAny_bind (wpAny_newList ?_ (by simpa using hz'))
  have tail := sort_tail (X := X) (pins := pins) (σ := σ) (s := s) (h' := h') (tk := s.toks) (Q := Q) (R := fun _ s' => EP X pins σ Q (.ref h'.objs.size) s') hu I1 rv' (fun b hb => by
    obtain ⟨t, _, rfl⟩ := List.mem_map.mp hb
    exact .str t) so (fun b hb => by
    obtain ⟨t, _, rfl⟩ := List.mem_map.mp hb
    exact noL_key (.inr t)) (fun p hp => by
    have e1 : (srtP (ss.map fun t => (V.str t, PyData.str t))).map (·.1) = (ss.mergeSort leX).map V.str := by
      have e2 : srtP (ss.map fun t => (V.str t, PyData.str t)) = (ss.mergeSort leX).map fun t => (V.str t, PyData.str t) := by
        rw [List.map_mergeSort (s := PySem.W.dataLe false (·.2))]
        intro a _ b _
        have := congrFun (congrFun (PySem.W.dataLe_str (fun t : Str => t)) a) b
        exact this.symm
      rw [e2, List.map_map]; rfl
    rw [e1]
    exact q p hp) (fun s' h => h) (X.A.in1) (by show X.A.units + 1 ≤ _; omega)
  refine wpAny_bind (wpAny_holding (wpAny_mono tail (fun _ s' h => wpAny_pure ⟨_, rfl, h⟩) fun _ _ h => h))
def rLenS : List V → Hp → VK → Prop := fun xs H Q => ∃ z, xs = [.str z] ∧ z.length ≤ sizeLine ∧ Q (.int z.length) H
theorem cr_lenS {X : Cx} : CallR X (.builtin "len") rLenS := call_len_str
abbrev rUp : V → List V → Hp → VK → Prop := fun x xs H Q => ∃ a, x = .str a ∧ xs = [] ∧ a.length ≤ 5592405 ∧ Q (.str (Txt.upper a)) H
/-! ### a class with its own __init__ -/
theorem oexAll_ok {K : PySem.W.Frag} {C : Addr} (h : oexAll K C = true) : OexC K C := by
  obtain ⟨h1, h⟩ := He.ba h
  obtain ⟨h2, h⟩ := He.ba h
  obtain ⟨h3, h⟩ := He.ba h
  obtain ⟨h4, h5⟩ := He.ba h
  refine ⟨?_, He.eqO_ok h2, of_decide_eq_true h3, of_decide_eq_true h4, h5⟩
  unfold oexC at h1
  split at h1
  · rename_i dd cd sl ho
    split at h1
    · rename_i C' bm k0 k1 k2 k3 n k5 hm hs
      simp only [Bool.and_eq_true, beq_iff_eq, Bool.not_eq_true'] at h1
      obtain ⟨rfl, rfl, hdel, hdi, hbm⟩ := h1
      obtain ⟨nm, bs, mro, ns, qn, hd, sn, sub, ab, col, del⟩ := cd
      dsimp only at hm hdel hdi
      subst hm hdel hdi
      have hsl : sl = #[k0, k1, k2, k3, some (.builtin "ValueError.__new__"), k5] := by
        obtain ⟨l⟩ := sl
        simp only at hs
        rw [hs]
      subst hsl
      exact ⟨nm, qn, ns, bs, bm, sn, sub, ab, col, dd, k0, k1, k2, k3, k5, ho, hbm⟩
    · cases h1
  · cases h1
theorem ownIB_ok {K : PySem.W.Frag} {C : Addr} (h : ownIB K C = true) : OwnI K C (He.ma K C "__init__") := by
  obtain ⟨h1, h⟩ := He.ba h
  obtain ⟨h2, h3⟩ := He.ba h
  exact ⟨oexAll_ok h1, He.eqO_ok h2, of_decide_eq_true h3⟩
/-- X(..): where it stands, what its __init__ promises -/
def MkI (P : Program) (w : World) (K : PySem.W.Frag) (mg : Str → Option Value) (base : Heap) (x : Str) (fs : List Str) : Prop := ∃ (fI : Addr) (fd : FuncData) (ps : List Str), mg x = some (.ref (He.ga K x)) ∧ OwnI K (He.ga K x) fI ∧ FnOk P w K mg base (L2N.CX P w) 1 fI fd ps (SpI (He.ga K x) fs) ∧ Binds K fd ps []
section
variable {X : Cx} {x : Str} {p pos pos2 : Pos} {e : Expr} {es : List Expr} {ta : TA} {fs : List Str} {W : WX}
theorem passF : Passes (L2N.CX X.prog X.w) X (fun _ _ _ => False) := L2N.passes_call takesN (fun _ _ _ _ h => h)
theorem pe_excVD (C : MkI X.prog X.w X.K X.mg X.base x fs) (hr : Room 2 X.A) (hg : Gl X x) (ha : PA X (e :: es) ta)
    (hdb : (x == ("__debug__" : Str)) = false := by decide) (he : starEach (e :: es) X.env = (false, eval e X.env) :: starEach es X.env := by rfl) (hpl : (backTo pos (starEach es X.env)).any (·.1) = false := by rfl) :
    PE X (.Call (.Name x p) (e :: es) [] pos) (tMkV (He.ga X.K x) (SpI (He.ga X.K x) fs) ta) := by
  obtain ⟨fI, fd, ps, h1, h2, h3, h4⟩ := C
  exact pe_excV h2 h3 hr h4 passF hg h1 ha hdb he hpl
theorem ps_raiseID (C : MkI X.prog X.w X.K X.mg X.base x fs) (hr : Room 2 X.A) (hc : X.calm = true) (tk : L2N.Takes X W) (hg : Gl X x) (ha : PA X (e :: es) ta)
    (hdb : (x == ("__debug__" : Str)) = false := by decide) (he : starEach (e :: es) X.env = (false, eval e X.env) :: starEach es X.env := by rfl) (hpl : (backTo pos (starEach es X.env)).any (·.1) = false := by rfl) :
    PS X (.Raise (some (.Call (.Name x p) (e :: es) [] pos)) none pos2) (tRaiseI (He.ga X.K x) (SpI (He.ga X.K x) fs) ta W) := by
  obtain ⟨fI, fd, ps, h1, h2, h3, h4⟩ := C
  exact L2N.ps_raise hc tk (pmkN_oex h2 h3 hr h4 passF hg h1 ha hdb he hpl)
end
/-! ### a def that calls itself -/
theorem cal_false {P : Program} {w : World} {K : PySem.W.Frag} {mg : Str → Option Value} {base : Heap} {k : Nat} {x : Str} {st : Stmt} {ps : List Str} (A : FunAt K mg x st ps) : Cal P w K mg base k x ps (fun _ _ => False) := by
  obtain ⟨f, fd, h1, h2, h3⟩ := A
  exact ⟨f, fd, h1, h2.kp, h3, ⟨fun vs H Q E h => by obtain ⟨_, _, _, _, _, _, h, _⟩ := h; exact h.elim, fun A outer s H args us vs Q E hr e0 hb r hsp => by obtain ⟨_, _, _, _, _, _, h, _⟩ := hsp; exact h.elim⟩⟩
/-! ### over plain data -/
section
variable {K : PySem.W.Frag} {W : WX} {ρ ρ1 : List Sl} {te ta tb : TE} {tg : TA} {d x y : D} {ds xs : List D} {b : Bool} {o : Out} {i : Nat} {s z : Str} {ss : List Str}
theorem ev_call0 {f : List D → Res → Prop} {Es : L2.St → XK} (hf : f [] (.ok d)) : EvD K (tCallS (SpF K 0 f) Es tNil) ρ d := ev_call av_nil hf
theorem reps_str_inv {F : Hp} {vs : List V} (r : Reps K F vs (ss.map D.str)) : vs = ss.map V.str := r.strs_inv
theorem evl_sortSL (h : EvSL K te ρ (ss.map D.str)) (hz : ss.length ≤ 16777216) : EvL K (tCB (rSortS K) (tCons te tNil)) ρ ((ss.mergeSort leX).map D.str) := evl_cbSL h fun F H e p vs sq r Q q => by
  rw [r.strs_inv] at sq
  exact ⟨p, ss, rfl, .inl sq, hz, fun l hl => q l _ F _ (.own e hl) hl (e.back hl) upd_same .strs⟩
theorem evl_sortST (h : EvST K te ρ (ss.map D.str)) (hz : ss.length ≤ 16777216) : EvL K (tCB (rSortS K) (tCons te tNil)) ρ ((ss.mergeSort leX).map D.str) := fun F0 H0 F H σ R Q q =>
  h F0 H0 F H σ R _ fun p vs F1 H1 g1 sq r1 => by
    rw [r1.strs_inv] at sq
    exact ⟨p, ss, rfl, .inr sq, hz, fun l hl => q l _ F1 _ (g1.trans (.own g1.s hl)) (g1.h.back hl) (g1.s.back hl) upd_same .strs⟩
theorem ev_lenS (h : EvD K te ρ (.str s)) (hl : s.length ≤ 16777216) : EvD K (tCB rLenS (tCons te tNil)) ρ (.int (s.length : Int)) := ev_cb (av_cons h av_nil) fun F H e vs r Q q => by
  cases r with
  | cons r1 r =>
    cases r1; cases r
    exact ⟨s, rfl, sz_of hl, q _ F H (.refl e) (.int _)⟩
theorem ev_up (h : EvD K te ρ (.str s)) (hl : s.length ≤ 5592405) : EvD K (tM0 rUp te) ρ (.str (Txt.upper s)) := fun F0 H0 F H σ R Q q =>
  h F0 H0 F H σ R _ fun v F1 H1 g1 r1 => by
    cases r1
    exact ⟨⟨s, rfl⟩, s, rfl, rfl, hl, q _ F1 H1 g1 (.str _)⟩
/-- the signs of a text -/
def sgn (c : Nat) : Str := ⟨#[c]⟩
def sgns (s : Str) : List D := s.cps.toList.map fun c => D.str (sgn c)
theorem src_str : Src K (Its s) (sgns s) (fun _ => True) where
  keep := fun _ _ h _ => h
  go := fun i F H hi h e => by show i < s.cps.size; simpa [sgns] using hi
  stop := fun F H h e => by show s.cps.size ≤ _; simp [sgns]
  yld := fun i F H v H' d hd h e y => by
    obtain ⟨rfl, c, hc, rfl⟩ := y
    unfold sgns at hd
    rw [List.getElem?_map, Array.getElem?_toList, hc] at hd
    cases hd
    exact ⟨F, .refl e, .str _⟩
theorem wi_str (h : EvD K te ρ (.str s)) : WiD K (iStr te) ρ (sgns s) := fun F0 H0 F H σ R Q q => h F0 H0 F H σ R _ fun v F1 H1 g1 r1 => by
  cases r1
  exact ⟨s, rfl, q _ _ F1 H1 g1 src_str trivial⟩
theorem ev_inS {c : Nat} (ha : EvD K ta ρ (.str (sgn c))) (hb : EvD K tb ρ (.str z)) : EvD K (tOp rInS ta tb) ρ (.bl (decide (c ∈ z.cps.toList))) := ev_op ha hb fun F H e v u a b Q q => by
  cases a; cases b
  exact ⟨c, z, rfl, rfl, q _ F H (.refl e) (.bl _)⟩
theorem ev_notInS {c : Nat} (ha : EvD K ta ρ (.str (sgn c))) (hb : EvD K tb ρ (.str z)) : EvD K (tOp rNotInS ta tb) ρ (.bl (!decide (c ∈ z.cps.toList))) := ev_op ha hb fun F H e v u a b Q q => by
  cases a; cases b
  exact ⟨c, z, rfl, rfl, q _ F H (.refl e) (.bl _)⟩
/-- x in a list of texts -/
theorem inV_strs {s : Str} : ∀ ss : List Str, inV (.str s) (ss.map V.str) = decide (s ∈ ss)
  | [] => by simp [inV]
  | t :: ss => by
    have ih := inV_strs (s := s) ss
    unfold inV at ih ⊢
    rw [List.map_cons, List.any_cons, ih]
    by_cases e : s = t
    · subst e; simp [eqV]
    · have e2 : ¬ t = s := fun z => e z.symm
      simp [eqV, e, e2]
theorem ev_inL (ha : EvD K ta ρ (.str s)) (hb : EvSL K tb ρ (ss.map D.str)) : EvD K (tOp (rIn K false) ta tb) ρ (.bl (decide (s ∈ ss))) := fun F0 H0 F H σ R Q q =>
  ha F0 H0 F H σ R _ fun v F1 H1 g1 r1 => hb F0 H0 F1 H1 σ (R.grow g1) _ fun p vs F2 H2 g2 sq r2 => by
    cases r1
    rw [r2.strs_inv] at sq
    refine ⟨p, ss.map V.str, rfl, .inl sq, rfl, by simp [flatV], ?_⟩
    show Q (.bl (inV (.str s) (ss.map V.str))) H2
    rw [inV_strs]
    exact q _ F2 H2 (g1.trans g2) (.bl _)
theorem reps_bls_inv {F : Hp} : ∀ {vs : List V} {bs : List Bool}, Reps K F vs (bs.map D.bl) → vs = bs.map V.bl
  | vs, [], h => by cases h; rfl
  | vs, b :: bs, h => by
    cases h with
    | cons h r => cases h; rw [reps_bls_inv r]; rfl
theorem ev_all {bs : List Bool} (h : EvSL K te ρ (bs.map D.bl)) : EvD K (tCB (rAll K) (tCons te tNil)) ρ (.bl (bs.all id)) := ev_cbSL h fun F H e p vs sq r Q q => by
  have e1 : vs = bs.map V.bl := reps_bls_inv r
  rw [e1] at sq
  exact ⟨p, bs, rfl, sq, q _ F H (.refl e) (.bl _)⟩
/-! sets of texts -/
def SetD (P : Program) (w : World) (S : Key → Bool) (n : Nat) : Sl := .oo fun p => SetK P w p S n
variable {P : Program} {w : World} {S : Key → Bool} {n : Nat}
theorem sv_asgSet : SvD K W (tAsg (tCB (rSet0K P w) tNil) (gName i)) ρ (.nx (ρ.set i (SetD P w (fun _ => false) 0))) := fun E F0 H0 F H σ R p => ⟨rfl, fun a ha => by
  have R1 := R.grow (.own R.ex ha (o := SetK P w a (fun _ => false) 0))
  refine p _ F _ (.refl _) (R1.setOwn i (p := a) rfl ⟨R.gr.h.back ha, R.ex.back ha, upd_same, rfl⟩ fun j y h1 h2 _ => ?_)
  exact R.fresh ha j y h1 h2⟩
theorem tv_inSet {k : Key} (h : ρ[i]? = some (SetD P w S n)) (ha : EvD K ta ρ (kD k)) : TvD K (tTest (tOp (rSInK P w false) ta (tVar i))) ρ (S k) := tv_test fun F0 H0 F H σ R Q q =>
  ha F0 H0 F H σ R _ fun v F1 H1 g1 r1 => by
    obtain ⟨p, e1, own⟩ := (R.grow g1).getOwn h rfl
    obtain ⟨_, _, hp, _⟩ := own
    rw [rep_kD r1]
    exact ⟨.ref p, e1, k, p, S, n, rfl, rfl, hp, q _ F1 H1 g1 (.bl _)⟩
theorem sv_addSet {k : Key} (h : ρ[i]? = some (SetD P w S n)) (ha : EvD K ta ρ (kD k)) (hn : n + 1 < scanBound) : SvD K W (tDrop (tSAddK P w (tVar i) (tCons ta tNil))) ρ (.nx (ρ.set i (SetD P w (fun j => S j || decide (j = k)) (if S k = true then n else n + 1)))) := fun E F0 H0 F H σ R p => by
  obtain ⟨a, e1, own⟩ := R.getOwn h rfl
  refine ⟨.ref a, e1, ⟨a, S, n, rfl, own.2.2.1⟩, ?_⟩
  refine ha F0 H0 F H σ R _ fun v F1 H1 g1 r1 => ?_
  obtain ⟨a', e2, own'⟩ := (R.grow g1).getOwn h rfl
  rw [e1] at e2; cases e2
  rw [rep_kD r1]
  refine ⟨a, k, S, n, rfl, rfl, own'.2.2.1, hn, ?_⟩
  exact p σ F1 _ g1.f ((R.grow g1).mut h rfl e1 (y := SetD P w _ _) rfl ⟨own'.1, own'.2.1, upd_same, rfl⟩)
/-! an item of an own list is stored -/
theorem sv_setL {j : Nat} {k : Int} {tv : TE} (h : ρ[i]? = some (.ol xs)) (hv : EvD K tv ρ d) (hk : EvD K tb ρ (.int k)) (hj : ixN xs.length k = some j) : SvD K W (tAsg tv (gSub (tVar i) tb rSetL)) ρ (.nx (ρ.set i (.ol (xs.set j d)))) := fun E F0 H0 F H σ R p =>
  hv F0 H0 F H σ R _ fun v F1 H1 g1 r1 => by
    have R1 := R.grow g1
    obtain ⟨a, e1, own⟩ := R1.getOwn h rfl
    refine ⟨.ref a, e1, ?_⟩
    refine hk F0 H0 F1 H1 σ R1 _ fun kv F2 H2 g2 r2 => ?_
    cases r2
    have R2 := R1.grow g2
    obtain ⟨a', e2, n0, nf, vs, hp, rs⟩ := R2.getOwn h rfl
    rw [e1] at e2; cases e2
    refine ⟨a, vs, k, j, rfl, rfl, hp, by rw [rs.length]; exact hj, ?_⟩
    exact p σ F2 _ (g1.f.trans g2.f) (R2.mut h rfl e1 (y := .ol (xs.set j d)) rfl ⟨n0, nf, _, upd_same, rs.set (r1.mono g2.f) j⟩)
/-- a truth value as a test -/
theorem tv_truB (h : EvD K te ρ (.bl b)) : TvD K (tTru K te) ρ b := fun F0 H0 F H σ R Q q => h F0 H0 F H σ R _ fun v F1 H1 g1 r1 => by
  cases r1
  exact ⟨b, rfl, q F1 H1 g1⟩
theorem paired_ty : ∀ nms : List String, Paired ClsV (nms.map V.ty) (nms.map Value.type)
  | [] => .nil
  | n :: r => .cons (.ty n) (paired_ty r)
/-- isinstance(x, (list, tuple)) -/
theorem ev_isiT (h : EvD K ta ρ d) (hd : d.tyOk = true) (hb : PySem.W.kitAny K (.type d.tyN) [.type "list", .type "tuple"] = some b) : EvD K (tCB (rIsiT K) (tCons ta (tCons (tTup (tCons (tC (.ty "list")) (tCons (tC (.ty "tuple")) tNil))) tNil))) ρ (.bl b) := fun F0 H0 F H σ R Q q =>
  h F0 H0 F H σ R _ fun v F1 H1 g1 r1 => by
    refine ⟨by decide, fun t ht => ?_⟩
    have g2 : Gr F1 H1 F1 (upd H1 t (.tup [.ty "list", .ty "tuple"])) := .own g1.s ht
    exact ⟨v, t, [.ty "list", .ty "tuple"], .type d.tyN, [.type "list", .type "tuple"], b, rfl, upd_same, paired_ty ["list", "tuple"], tyx_of g2.s r1 hd, hb, q _ F1 _ (g1.trans g2) (.bl b)⟩
end
end DL
set_option Elab.async false
set_option linter.all false
set_option maxRecDepth 100000
set_option maxHeartbeats 1000000
/-! A list comprehension while an exception is handled. -/
namespace DL
open PySem PySem.Spec PyProof.Rows L2
section
variable {elt tg iter : Expr} {ifs : List Expr} {scope : Scope} {pos : Pos} {g : TG} {tt : TT} {te : TE}
/-- the turns, in the block's context Y, which bears the handled exception -/
theorem lcTurnsH {Y : Cx} {σb : L2.St} {Hb : Hp} {sb : Shared} {Lst it : Addr} {fp : List Addr} {tn : Nat → Heap → Prop} {J : It} {R : Result → Shared → Prop} {W : Nat → Nat → Hp → Prop} {m : Nat} {Qe : Hp → Prop}
    (hot : L2H.HotC Y) (hxe : Y.xe = fun _ _ => False) (T : L2H.TurnH Y.prog Y.w Y.K tg J fp it tn) (I : Inv Y [] σb Hb sb) (st : tn 0 sb.heap) (fr : ∀ b ∈ fp, Hb b = none)
    (free : ∀ (σ : L2.St) (H : Hp) (s : Shared), Inv Y [] σ H s → (∀ b ∈ fp, H b = none) → ∀ b ∈ fp, FpOk Y [] H b)
    (pg : PG Y tg g) (pt : PTs Y ifs tt) (pe : PE Y elt te) (w0 : W 0 m Hb) {vs : List Nat} (hv : σb = L2.wipe σb vs)
    (turn : ∀ i m H, W i m H → (J.stop i H ∧ Qe H) ∨ (J.go i H ∧ ∃ Nx : Hp → Prop, (∀ H', Nx H' → ∃ m', m' < m ∧ W (i + 1) m' H') ∧ ∀ x H', J.yld i H x H' → g x σb H' fun σ2 H2 => L2.wipe σ2 vs = σb ∧ tt σ2 H2 fun b H3 =>
      if b = true then te σ2 H3 fun y H4 => ∃ acc, H4 Lst = some (.lst acc) ∧ acc.length < sizeLine ∧ Nx (upd H4 Lst (.lst (acc ++ [y]))) else Nx H3))
    (fin : ∀ H s, Inv Y [] σb H s → Qe H → R (.ok .next) s) : codeAny (model Y.prog Y.w) Y.A (.compLoop (.ListComp elt [⟨tg, iter, ifs, 0⟩] scope pos) 0 (.ref it) (.ref Lst) Y.env) R sb := by
  refine compLoop_any (fun n s => ∃ i H, Inv Y [] σb H s ∧ tn i s.heap ∧ (∀ b ∈ fp, H b = none) ∧ W i n H) (fun n s inv => ?_) m ⟨0, Hb, I, st, fr, w0⟩
  obtain ⟨i, H, I1, st1, fr1, w⟩ := inv
  rcases turn i n H w with ⟨stop, qe⟩ | ⟨go, Nx, less, step⟩
  · exact thnF (T.done Y rfl rfl rfl hot i [] s _ H (fun _ _ => False) I1 (free _ _ _ I1 fr1) st1 stop) fun r s' ⟨ended, I2⟩ => by
      subst ended
      exact fin H s' I2 qe
  · refine thnF (T.item Y rfl rfl rfl hot i [] s _ H (fun _ _ => False) I1 (free _ _ _ I1 fr1) st1 go) fun r s2 ⟨u, item, next⟩ => ?_
    subst item
    refine thnF next fun _ s3 ⟨x, H3, I3, rx, y3, st3, fr3⟩ => ?_
    have P3 := I3.pinned (free _ _ _ I3 fr3) (T.obj _ _ st3)
    -- the iterator's objects stand still until the turn's end
    have again : ∀ {σ4 : L2.St} {H' : Hp} {s' : Shared}, L2.wipe σ4 vs = σb → Inv Y ([] ++ pinsAt fp s3.heap) σ4 H' s' → Nx H' → ∃ m', m' < n ∧ ∃ i H, Inv Y [] σb H s' ∧ tn i s'.heap ∧ (∀ b ∈ fp, H b = none) ∧ W i m' H := fun {σ4 H' s'} hw I' nx => by
      obtain ⟨m', lt, w'⟩ := less H' nx
      have still : ∀ b ∈ fp, ∀ o, s3.heap.get? b = some o → s'.heap.get? b = some o ∧ H' b = none := fun b hb o e => by
        have := I'.pin (b, o) (List.mem_append_right _ (List.mem_append_right _ (mem_pinsAt hb e)))
        exact ⟨this.1, this.2.1⟩
      refine ⟨m', lt, i + 1, H', (I'.unpinned (pins := [])).weak (by rw [← hw, wipe_length]) (fun j v e => ?_), T.keep _ _ _ st3 fun b hb o e => (still b hb o e).1, fun b hb => ?_, w'⟩
      · rw [← hw] at e; exact (wipe_some e).1
      · obtain ⟨o, e, _⟩ := T.obj _ _ st3 b hb
        exact (still b hb o e).2
    have r1 := pg.run _ s3 _ H3 x u _ P3 rx (step x H3 y3)
    rw [hxe] at r1
    refine thnF r1 fun _ s4 ⟨σ4, H4, I4, hw, q4⟩ => ?_
    have r2 := pt.run _ s4 σ4 H4 _ I4 q4
    rw [hxe] at r2
    refine thnF r2 fun b s5 ⟨H5, I5, q5⟩ => ?_
    cases b with
    | false => exact again hw I5 q5
    | true =>
      have r3 := pe.run _ s5 σ4 H5 _ I5 q5
      rw [hxe] at r3
      exact thnF r3 fun z s6 ⟨_, H6, I6, r6, acc, at6, few, nx⟩ => app_ok I6 at6 few r6 fun s7 I7 => again hw I7 nx
theorem pe_lcH {X : Cx} {own : List (Str × Nat)} {wi : TI} {p : Addr × Obj} (hot : L2H.Hot1 X.A p) (hp : p ∈ X.pn) (hN : X.N.Nodup) (hi : L2H.PIH X tg iter wi) (ok : BlkOk X.N X.env.scope scope own)
    (hg : ∀ (s : Shared) (H : Hp) (C : Addr) (cl : List (Str × Addr)) (fp : List Addr), PG ((X.blk s H scope (compEnvC scope cl C X.env) fp).tr [p] fun _ _ => False) tg g) (ht : ∀ (s : Shared) (H : Hp) (C : Addr) (cl : List (Str × Addr)) (fp : List Addr), PTs ((X.blk s H scope (compEnvC scope cl C X.env) fp).tr [p] fun _ _ => False) ifs tt)
    (he : ∀ (s : Shared) (H : Hp) (C : Addr) (cl : List (Str × Addr)) (fp : List Addr), PE ((X.blk s H scope (compEnvC scope cl C X.env) fp).tr [p] fun _ _ => False) elt te) (hs : ∀ x, foldedSetIterable iter X.env x = pure x := by intro _; rfl) :
    PE X (.ListComp elt [⟨tg, iter, ifs, 0⟩] scope pos) (tLc wi g tt te (own.map (·.2))) := by
  refine ⟨fun pins s σ H Q I h => ?_⟩
  rw [eval_ListComp]
  have clo : ∀ y ∈ scope.names, y.2 = .free → ∃ c, X.env.cells.lookup y.1 = some c := fun y hy e => (ok.free y hy e).elim (fun k => I.ok.has _ (.inl k)) fun k => I.ok.has _ (.inr k)
  refine wpAny_comprehension_free (use := none) rfl hs (closure_ok clo) ok.kind (fun y hy e => by rw [ok.uniq y hy, e]) (thn (hi.run pins s σ H _ I h) fun xv s1 hx => thn hx fun itv s2 h2 => ?_)
  obtain ⟨it, fp, tn, J, H2, rfl, I2, T, st2, f2, q⟩ := h2
  refine wpAny_newObj_type (newEnv_comp ?_) (by show 0 ≤ sizeLine; decide)
  have newL : H2 s2.heap.objs.size = none := I2.hok.fresh (Nat.le_refl _)
  obtain ⟨W, ⟨m0, w0⟩, turn⟩ := q _ newL
  -- the list is laid; the iterator's objects and the handled exception lie below it
  have below : ∀ b ∈ fp, b < s2.heap.objs.size := fun b hb => by
    obtain ⟨o, e, _⟩ := T.obj _ _ st2 b hb
    exact Heap.lt_size e
  have P2 := I2.pin p (List.mem_append_left _ hp)
  have I3 : Inv X pins σ (upd H2 s2.heap.objs.size (.lst [])) { s2 with heap := s2.heap.push { cls := .type "list", data := .seq ([] : List Value).toArray } } :=
    I2.laid (t' := s2.toks) (fun b o e => Heap.get?_push_of_some _ e) (Nat.le_refl _) ⟨Nat.zero_le _, [], 0, .nil, Heap.get?_push_size _ rfl⟩
  have P3 := I3.pin p (List.mem_append_left _ hp)
  have f3 : ∀ b ∈ fp, FpOk X pins (upd H2 s2.heap.objs.size (.lst [])) b ∧ b < (s2.heap.push { cls := .type "list", data := .seq ([] : List Value).toArray }).objs.size := fun b hb =>
    ⟨⟨by rw [upd_ne (Nat.ne_of_lt (below b hb))]; exact (f2 b hb).1, (f2 b hb).2⟩, by rw [Heap.size_push]; exact Nat.lt_succ_of_lt (below b hb)⟩
  have st3 : tn 0 (s2.heap.push { cls := .type "list", data := .seq ([] : List Value).toArray }) := T.keep _ _ _ st2 fun b _ o e => Heap.get?_push_of_some _ e
  generalize hs3 : ({ s2 with heap := s2.heap.push { cls := .type "list", data := .seq ([] : List Value).toArray } } : Shared) = s3 at I3 P3 ⊢
  have e3 : s2.heap.push { cls := .type "list", data := .seq ([] : List Value).toArray } = s3.heap := by rw [← hs3]
  rw [e3] at f3 st3
  generalize hL : s2.heap.objs.size = L at *
  have Ib := block_start I3 ok hN f3
  have k1 := hg s3 (upd H2 L (.lst [])) s3.heap.objs.size (cellsFrom (s3.heap.objs.size + 1) scope.names (cloFrom X.env.cells scope.names [])) fp
  have k2 := ht s3 (upd H2 L (.lst [])) s3.heap.objs.size (cellsFrom (s3.heap.objs.size + 1) scope.names (cloFrom X.env.cells scope.names [])) fp
  have k3 := he s3 (upd H2 L (.lst [])) s3.heap.objs.size (cellsFrom (s3.heap.objs.size + 1) scope.names (cloFrom X.env.cells scope.names [])) fp
  show codeAny _ _ (.compStart (.ListComp elt [⟨tg, iter, ifs, 0⟩] scope pos) 0 (.ref it) (.ref L) (compEnvC scope (cellsFrom (s3.heap.objs.size + 1) scope.names (cloFrom X.env.cells scope.names [])) s3.heap.objs.size X.env)) (compPost (model X.prog X.w) X.A X.xe none (EP X pins σ Q) (.ref L) s3.heap.objs.size) { s3 with heap := pushCells (s3.heap.push { cls := .type "dict", data := .dict #[] }) scope.names }
  generalize hce : compEnvC scope (cellsFrom (s3.heap.objs.size + 1) scope.names (cloFrom X.env.cells scope.names [])) s3.heap.objs.size X.env = ce at Ib k1 k2 k3 ⊢
  have cL : ce.locals = s3.heap.objs.size := by subst hce; rfl
  generalize hs4 : ({ s3 with heap := pushCells (s3.heap.push { cls := .type "dict", data := .dict #[] }) scope.names } : Shared) = s4 at Ib ⊢
  have laid : ∀ b o, s3.heap.get? b = some o → s4.heap.get? b = some o := fun b o e => by rw [← hs4]; exact pushCells_keeps _ _ _ _ (Heap.get?_push_of_some _ e)
  have st4 : tn 0 s4.heap := T.keep _ _ _ st3 fun b _ o e => laid b o e
  have Ip : Inv (X.blk s3 (upd H2 L (.lst [])) scope ce fp) [p] (L2.wipe σ (own.map (·.2))) (upd H2 L (.lst [])) s4 := Ib.pins_of fun r hr => by
    obtain rfl : r = p := by simpa using hr
    refine ⟨laid _ _ P3.1, P3.2.1, ?_, fun hm => ?_, P3.2.2.2.2⟩
    · rw [cL]; exact Nat.ne_of_lt (Heap.lt_size P3.1)
    · exact (List.mem_cons.mp (I3.stkSub r.1 hm)).elim P3.2.2.1 P3.2.2.2.1
  have I4 : Inv ((X.blk s3 (upd H2 L (.lst [])) scope ce fp).tr [p] fun _ _ => False) [] (L2.wipe σ (own.map (·.2))) (upd H2 L (.lst [])) s4 := Ip.toTry _
  have wipe2 : L2.wipe (L2.wipe σ (own.map (·.2))) (own.map (·.2)) = L2.wipe σ (own.map (·.2)) := wipe_wipe
  have loop : codeAny (model X.prog X.w) X.A (.compLoop (.ListComp elt [⟨tg, iter, ifs, 0⟩] scope pos) 0 (.ref it) (.ref L) ce) (compPost (model X.prog X.w) X.A X.xe none (EP X pins σ Q) (.ref L) s3.heap.objs.size) s4 :=
    lcTurnsH (Y := (X.blk s3 (upd H2 L (.lst [])) scope ce fp).tr [p] fun _ _ => False) (W := W) (Qe := Q (.ref L)) (vs := own.map (·.2)) ⟨p, hot, .head _⟩ rfl T I4 st4 (fun b hb => (f3 b hb).1.1)
      (fun σ' H' s' I' hn b hb => ⟨hn b hb, (I'.ok.exf b hb).1, I'.ok.exfs b hb, .inl hb, fun x c e => (I'.ok.exf b hb).2 x c e, fun r hr => by
        obtain rfl : r = p := by simpa using hr
        exact (f2 b hb).2.2.2.2.2 r (List.mem_append_left _ hp)⟩) k1 k2 k3 w0 wipe2.symm turn fun H5 s6 I6 q5 => by
      have nC : H5 s3.heap.objs.size = none := by rw [← cL]; exact I6.free
      obtain ⟨m, hn, _⟩ := I6.loc
      have hn : s6.heap.Ns ce.locals m := hn
      rw [cL] at hn
      have I7 : Inv X pins σ H5 s6 := I3.call' (ch := fp) I6.os I6.base I6.hok I6.bare fun b hb => ⟨(f3 b hb).1.2.2.2.1, (f3 b hb).1.2.1, (f3 b hb).1.2.2.2.2.1, (f3 b hb).1.2.2.2.2.2⟩
      refine ⟨m, hn, fun h'' sb => ?_⟩
      obtain ⟨z0, z1, z2, z3, z4, z5⟩ := I3.fpOk (Nat.le_refl _) nC
      exact ⟨.ref L, H5, I7.turned (t' := s6.toks) (fun b o hb e => (sb.2 b hb).trans e) z0 z1 z3 z4 z5, rfl, q5⟩
  exact codeAny_compStart_list loop (T.self X.A 0 _ _ _ st4 loop)
end
end DL
set_option Elab.async false
set_option linter.all false
set_option maxRecDepth 100000
set_option maxHeartbeats 1000000
/-! What the defs of the law about row sets come to. -/
namespace Go
open PySem PySem.Spec PyProof.Rows L2 DL
def kindN : List Str := ["NoQuotient", "ZeroPolynomial", "ZeroSum", "NoRows", "BadName", "RowTwice", "UnknownRow", "RowsDiffer", "SpotTwice", "BadStretch", "ShortStretch", "TooLong", "CannotStand", "Broken", "NotFinite", "BadParts", "Barred", "NotCourse", "BreaksOwnRule", "NotBlocked", "Unsure", "Contradiction", "NotStricter", "NoFamilies", "NotLet", "NotFree", "NotTimely", "NotEntered", "NothingToUndo", "BadNotation"]
def clsA (K : PySem.W.Frag) (k : Nat) : Addr := He.ga K (kindN.getD k "")
/-! names -/
def letS : Str := "abcdefghijklmnopqrstuvwxyz"
def digS : Str := "0123456789"
def isLet (c : Nat) : Bool := decide (c ∈ letS.cps.toList)
def isDig (c : Nat) : Bool := decide (c ∈ digS.cps.toList)
def goodL : List Nat → Bool
  | [] => false
  | c :: r => decide (r.length ≤ 9) && (isLet c && (c :: r).all fun c => isLet c || isDig c)
def goodM (s : Str) : Bool := goodL s.cps.toList
def StOk (s : Str) : Prop := PyData.strOk s = true ∧ s.length ≤ 1000
def IsSeq (d : D) (ss : List Str) : Prop := d = .lst (ss.map D.str) ∨ d = .tup (ss.map D.str)
/-- the first text that stands before already -/
def twiceP (pre : List Str) : List Str → Option Str
  | [] => none
  | s :: r => if s ∈ pre then some s else twiceP (pre ++ [s]) r
def badF (ss : List Str) : Option Str := ss.find? fun s => !goodM s
def sortedD (ss : List Str) : D := .tup ((ss.mergeSort leX).map D.str)
def rowRes (K : PySem.W.Frag) (ss : List Str) : Res := match badF ss with
  | some s => .er (He.ga K "BadName") [("name", .str s)]
  | none => match twiceP [] ss with
    | some s => .er (He.ga K "RowTwice") [("name", .str s)]
    | none => .ok (sortedD ss)
def askRes (K : PySem.W.Frag) (ss : List Str) : Res := if ss = [] then .er (He.ga K "NoRows") [] else rowRes K ss
def kindOf (ss : List Str) : List Int := if ss = [] then [3] else match badF ss with
  | some _ => [4]
  | none => match twiceP [] ss with
    | some _ => [5]
    | none => []
def worthOf (ss : List Str) : D := if ss = [] then .non else match badF ss with
  | some s => .str s
  | none => match twiceP [] ss with
    | some s => .str s
    | none => sortedD ss
def dueD (ss : List Str) : D := .lst [.lst ((kindOf ss).map D.int), worthOf ss]
def SsOk (ss : List Str) : Prop := ss.length ≤ 100 ∧ ∀ s ∈ ss, StOk s
/-! drawn texts -/
def szS : List Int := [30, 10, 26] ++ List.replicate 10 36 ++ [13, 95] ++ List.replicate 12 95
def at1 (s : Str) (i : Int) : Str := sgn (s.cps.toList.getD i.toNat 0)
def s36 : Str := letS ++ digS
def fullM (row : List Int) : Str := at1 letS (nth row 2) ++ Txt.join "" ((List.range 9).map fun k => at1 s36 (nth row (3 + k)))
def nameM (row : List Int) : Str := cutS (fullM row) none (some (1 + nth row 1))
def posM (row : List Int) : Int := nth row 13 % ((nameM row).length : Int)
def signsA : Str := " !\"#$&'()*+,-./0123456789:;<=>?@ABCDEFGHIJKLMNOPQRSTUVWXYZ[\\]^_`"
def signsB : Str := "abcdefghijklmnopqrstuvwxyz{|}~\n"
def signsS : Str := signsA ++ signsB
def signM (row : List Int) : Str := at1 signsS (nth row 14)
def kindM (row : List Int) (clean : Bool) : Int := if clean = true then nth row 0 % 23 else nth row 0
def menu1 : List Str := ["a", "b", "a1", "ab", "x10", "x9", "x1", "z", "a0", "aa", "level", "pump", "b2"]
def menu2 (row : List Int) : List Str := [fullM row ++ at1 s36 (nth row 12), fullM row ++ fullM row ++ fullM row, ""]
def oddM (row : List Int) : List Str := [Txt.upper (nameM row), nameM row ++ "\n", " " ++ nameM row, nameM row ++ " ", nameM row ++ "_", "-" ++ nameM row, "A" ++ cutS (nameM row) (some 1) none]
def strM (row : List Int) (clean : Bool) : Str :=
  if kindM row clean < 10 then menu1.getD (nth row 2 / 2).toNat ""
  else if kindM row clean < 22 then nameM row
  else if kindM row clean = 22 then fullM row
  else if kindM row clean = 23 then (menu2 row).getD (nth row 13 % 3).toNat ""
  else if kindM row clean = 24 then at1 digS (nth row 2 % 10) ++ cutS (nameM row) (some 1) none
  else if kindM row clean = 25 then (oddM row).getD (nth row 12 % 7).toNat ""
  else if kindM row clean < 28 then cutS (nameM row) none (some (posM row)) ++ signM row ++ cutS (nameM row) (some (posM row + 1)) none
  else if kindM row clean = 28 then cutS (nameM row) none (some (posM row)) ++ signM row ++ cutS (nameM row) (some (posM row)) none
  else Txt.join "" ((List.range (nth row 13).toNat).map fun k => at1 signsS (nth row (15 + k)))
def szH : List Int := [7, 2, 5, 6, 6, 6, 6]
def headM (ns : List Int) (at_ : Nat) : List Int := digM (cellM ns at_) szH
def rowM (ns : List Int) (at_ k : Nat) : List Int := digM (cellM ns (at_ + 1 + k)) szS
def baseS (ns : List Int) (at_ : Nat) : List Str := (List.range (nth (headM ns at_) 0).toNat).map fun k => strM (rowM ns at_ k) (nth (headM ns at_) 1 == 0)
/-- an item is put in the place of another -/
def putM (c : Bool) (i j : Int) (l : List Str) : List Str := if (decide (0 < l.length) && c) = true then l.set (i % (l.length : Int)).toNat (l.getD (j % (l.length : Int)).toNat "") else l
def strs1 (ns : List Int) (at_ : Nat) : List Str := putM (decide (nth (headM ns at_) 2 < 2)) (nth (headM ns at_) 3) (nth (headM ns at_) 4) (baseS ns at_)
def strs2 (ns : List Int) (at_ : Nat) : List Str := putM (nth (headM ns at_) 2 == 0) (nth (headM ns at_) 5) (nth (headM ns at_) 6) (strs1 ns at_)
def lastM (c : Bool) (l : List Str) : List Str := if (decide (3 < l.length) && c) = true then (l.set 2 (l.getD 1 "")).set 3 (l.getD 0 "") else l
def strsM (ns : List Int) (at_ : Nat) : List Str := lastM (nth (headM ns at_) 2 == 2) (strs2 ns at_)
/-! the law's errors -/
def szE : List Int := [41, 61, 10, 5, 3, 2000000] ++ szS
def namesE : List Str := ["a", "b1", "level", "pump", "x10", "x9", "z", "m", "n0", "q"]
def rowsE (row : List Int) : List Str := ((List.range (1 + nth row 3).toNat).map fun (j : Nat) => namesE.getD ((nth row 2 + (j : Int)) % 10).toNat "").mergeSort leX
def othersE (row : List Int) : List Str := ((List.range (1 + nth row 4).toNat).map fun (j : Nat) => namesE.getD ((nth row 2 + 1 + (j : Int)) % 10).toNat "").mergeSort leX
/-! equal data -/
inductive EqD : Nat → D → Prop
  | int {n : Nat} (i : Int) : EqD n (.int i)
  | str {n : Nat} {s : Str} (h : PyData.strOk s = true) : EqD n (.str s)
  | non {n : Nat} : EqD n .non
  | lst {n : Nat} {ds : List D} (h : ∀ d ∈ ds, EqD n d) (l : ds.length ≤ 10000) : EqD (n + 1) (.lst ds)
  | tup {n : Nat} {ds : List D} (h : ∀ d ∈ ds, EqD n d) (l : ds.length ≤ 10000) : EqD (n + 1) (.tup ds)
def frE (n : Nat) (ds : List D) (r : Res) : Prop := ∃ x, EqD n x ∧ ds = [x, x] ∧ r = .ok (.bl true)
/-! the promises -/
def fris_row_name (ds : List D) (r : Res) : Prop := ∃ s : Str, s.length ≤ 1000 ∧ ds = [.str s] ∧ r = .ok (.bl (goodM s))
def fr_law_good (ds : List D) (r : Res) : Prop := ∃ s : Str, s.length ≤ 1000 ∧ ds = [.str s] ∧ r = .ok (.bl (goodM s))
def frdifferent_names (K : PySem.W.Frag) (ds : List D) (r : Res) : Prop := ∃ d ss, IsSeq d ss ∧ SsOk ss ∧ ds = [d] ∧ r = rowRes K ss
def frrow_set (K : PySem.W.Frag) (ds : List D) (r : Res) : Prop := ∃ d ss, IsSeq d ss ∧ SsOk ss ∧ ds = [d] ∧ r = askRes K ss
def fr_law_due (ds : List D) (r : Res) : Prop := ∃ ss, SsOk ss ∧ ds = [.lst (ss.map D.str)] ∧ r = .ok (dueD ss)
def fr_law_asked (ds : List D) (r : Res) : Prop := ∃ d ss, IsSeq d ss ∧ SsOk ss ∧ ds = [d] ∧ r = .ok (dueD ss)
def fr_law_caught (ds : List D) (r : Res) : Prop := ∃ d ss, IsSeq d ss ∧ SsOk ss ∧ ds = [d] ∧ r = .ok (.lst ((kindOf ss).map D.int))
def fr_law_equal : List D → Res → Prop := frE 3
def fr_law_right (ds : List D) (r : Res) : Prop := ∃ ss, SsOk ss ∧ ds = [.lst (ss.map D.str)] ∧ r = .ok (.bl true)
def fr_law_kinds (K : PySem.W.Frag) (ds : List D) (r : Res) : Prop := ∃ (k : Nat) (ns : List Str) (xs : List D), k < 30 ∧ ds = [.exc (clsA K k) ns xs] ∧ r = .ok (.lst [.int (k : Int)])
def fr_law_kindsX (K : PySem.W.Frag) (a : Addr) (d : Option Addr) (C : Addr) (ds : List D) (r : Res) : Prop := ∃ (k : Nat) (ns : List Str) (xs : List D), k < 30 ∧ C = clsA K k ∧ ds = [.hx a d ns xs] ∧ r = .ok (.lst [.int (k : Int)])
def fr_law_signs (ds : List D) (r : Res) : Prop := ds = [] ∧ r = .ok (.str signsS)
def fr_law_string (ds : List D) (r : Res) : Prop := ∃ (row : List Int) (clean : Bool), rowOk szS row ∧ ds = [.lst (row.map D.int), .bl clean] ∧ r = .ok (.str (strM row clean))
def fr_law_strings (ds : List D) (r : Res) : Prop := ∃ (ns : List Int) (a : Nat), a ≤ 1000 ∧ ds = [.scr ns, .int (a : Int)] ∧ r = .ok (.lst ((strsM ns a).map D.str))
def fr_law_created (ds : List D) (r : Res) : Prop := ∃ (name : Str) (rows others : List Str) (t : D) (n m : Int), PyData.strOk name = true ∧ rows ≠ [] ∧ SsOk rows ∧ SsOk others ∧ EqD 2 t ∧ ds = [.str name, .tup (rows.map D.str), .tup (others.map D.str), t, .lst [.int n, .int m]] ∧ r = .ok (.bl true)
def fr_law_errors_right (ds : List D) (r : Res) : Prop := ∃ c : Int, ds = [.int c] ∧ r = .ok (.bl true)
def frlaw (ds : List D) (r : Res) : Prop := ∃ ns : List Int, ns.length ≤ 100000 ∧ ds = [.scr ns] ∧ r = .ok (.bl true)
/-- what the written part says of the classes -/
structure KF (K : PySem.W.Frag) : Prop where
  ex : ∀ k, k < 30 → ExcC K (clsA K k)
  kit : ∀ i j, i < 30 → j < 30 → PySem.W.kitOne K (.ref (clsA K i)) (.ref (clsA K j)) = some (decide (i = j))
  re : ∀ k, k < 30 → PySem.W.kitOne K (.ref (clsA K k)) (.ref (He.ga K "RowError")) = some true
  ve : ∀ k, k < 30 → PySem.W.kitOne K (.ref (clsA K k)) (.type "ValueError") = some true
  ec : ∀ i j, i < 30 → j < 30 → PySem.W.exmOne K (.ref (clsA K i)) (.ref (clsA K j)) = some (decide (i = j))
  er : ∀ k, k < 30 → PySem.W.exmOne K (.ref (clsA K k)) (.ref (He.ga K "RowError")) = some true
  xf : ∀ k, k < 30 → XfC K (clsA K k)
  no : ∀ k f, k < 30 → f ∈ (["name", "one", "two", "row", "place", "count", "span", "longest", "terms", "index", "rows", "line"] : List Str) → PySem.W.findIn K (.ref (clsA K k)) f = some none
end Go
set_option Elab.async false
set_option linter.all false
set_option maxRecDepth 100000
set_option maxHeartbeats 4000000
namespace Go
open PySem PySem.Spec PyProof.Rows L2 DL
structure Bt (K : PySem.W.Frag) (mg : Str → Option Value) : Prop where
  b_ValueError : mg "ValueError" = none
  b_all : mg "all" = none
  b_bool : mg "bool" = none
  b_int : mg "int" = none
  b_isinstance : mg "isinstance" = none
  b_len : mg "len" = none
  b_list : mg "list" = none
  b_range : mg "range" = none
  b_set : mg "set" = none
  b_sorted : mg "sorted" = none
  b_str : mg "str" = none
  b_tuple : mg "tuple" = none
  g_BadName : mg "BadName" = some (.ref (He.ga K "BadName"))
  g_BadNotation : mg "BadNotation" = some (.ref (He.ga K "BadNotation"))
  g_BadParts : mg "BadParts" = some (.ref (He.ga K "BadParts"))
  g_BadStretch : mg "BadStretch" = some (.ref (He.ga K "BadStretch"))
  g_Barred : mg "Barred" = some (.ref (He.ga K "Barred"))
  g_BreaksOwnRule : mg "BreaksOwnRule" = some (.ref (He.ga K "BreaksOwnRule"))
  g_Broken : mg "Broken" = some (.ref (He.ga K "Broken"))
  g_CannotStand : mg "CannotStand" = some (.ref (He.ga K "CannotStand"))
  g_Contradiction : mg "Contradiction" = some (.ref (He.ga K "Contradiction"))
  g_NoFamilies : mg "NoFamilies" = some (.ref (He.ga K "NoFamilies"))
  g_NoQuotient : mg "NoQuotient" = some (.ref (He.ga K "NoQuotient"))
  g_NoRows : mg "NoRows" = some (.ref (He.ga K "NoRows"))
  g_NotBlocked : mg "NotBlocked" = some (.ref (He.ga K "NotBlocked"))
  g_NotCourse : mg "NotCourse" = some (.ref (He.ga K "NotCourse"))
  g_NotEntered : mg "NotEntered" = some (.ref (He.ga K "NotEntered"))
  g_NotFinite : mg "NotFinite" = some (.ref (He.ga K "NotFinite"))
  g_NotFree : mg "NotFree" = some (.ref (He.ga K "NotFree"))
  g_NotLet : mg "NotLet" = some (.ref (He.ga K "NotLet"))
  g_NotStricter : mg "NotStricter" = some (.ref (He.ga K "NotStricter"))
  g_NotTimely : mg "NotTimely" = some (.ref (He.ga K "NotTimely"))
  g_NothingToUndo : mg "NothingToUndo" = some (.ref (He.ga K "NothingToUndo"))
  g_RowError : mg "RowError" = some (.ref (He.ga K "RowError"))
  g_RowTwice : mg "RowTwice" = some (.ref (He.ga K "RowTwice"))
  g_RowsDiffer : mg "RowsDiffer" = some (.ref (He.ga K "RowsDiffer"))
  g_ShortStretch : mg "ShortStretch" = some (.ref (He.ga K "ShortStretch"))
  g_SpotTwice : mg "SpotTwice" = some (.ref (He.ga K "SpotTwice"))
  g_TooLong : mg "TooLong" = some (.ref (He.ga K "TooLong"))
  g_UnknownRow : mg "UnknownRow" = some (.ref (He.ga K "UnknownRow"))
  g_Unsure : mg "Unsure" = some (.ref (He.ga K "Unsure"))
  g_ZeroPolynomial : mg "ZeroPolynomial" = some (.ref (He.ga K "ZeroPolynomial"))
  g_ZeroSum : mg "ZeroSum" = some (.ref (He.ga K "ZeroSum"))
  e_Contradiction : ErrF K (He.ga K "Contradiction")
  e_NoFamilies : ErrF K (He.ga K "NoFamilies")
  e_NoQuotient : ErrF K (He.ga K "NoQuotient")
  e_NoRows : ErrF K (He.ga K "NoRows")
  e_NotFinite : ErrF K (He.ga K "NotFinite")
  e_NothingToUndo : ErrF K (He.ga K "NothingToUndo")
  e_Unsure : ErrF K (He.ga K "Unsure")
  e_ZeroPolynomial : ErrF K (He.ga K "ZeroPolynomial")
  e_ZeroSum : ErrF K (He.ga K "ZeroSum")
  c_DIGITS : ∃ t, mg "DIGITS" = some (.str "0123456789" t)
  c_LETTERS : ∃ t, mg "LETTERS" = some (.str "abcdefghijklmnopqrstuvwxyz" t)
  c_LONGEST_NAME : ∃ t, mg "LONGEST_NAME" = some (.int 10 t)
  x_BadName : XfC K (He.ga K "BadName")
  x_RowTwice : XfC K (He.ga K "RowTwice")
  n_BadName_name : PySem.W.findIn K (.ref (He.ga K "BadName")) "name" = some none
  n_RowTwice_name : PySem.W.findIn K (.ref (He.ga K "RowTwice")) "name" = some none
structure IniT (P : Program) (w : World) (K : PySem.W.Frag) (mg : Str → Option Value) (base : Heap) : Prop where
  i_BadName : MkI P w K mg base "BadName" ["name"]
  i_BadNotation : MkI P w K mg base "BadNotation" ["line"]
  i_BadParts : MkI P w K mg base "BadParts" ["count"]
  i_BadStretch : MkI P w K mg base "BadStretch" ["count"]
  i_Barred : MkI P w K mg base "Barred" ["terms"]
  i_BreaksOwnRule : MkI P w K mg base "BreaksOwnRule" ["place"]
  i_Broken : MkI P w K mg base "Broken" ["place", "index"]
  i_CannotStand : MkI P w K mg base "CannotStand" ["terms"]
  i_NotBlocked : MkI P w K mg base "NotBlocked" ["count"]
  i_NotCourse : MkI P w K mg base "NotCourse" ["count"]
  i_NotEntered : MkI P w K mg base "NotEntered" ["index"]
  i_NotFree : MkI P w K mg base "NotFree" ["rows"]
  i_NotLet : MkI P w K mg base "NotLet" ["index"]
  i_NotStricter : MkI P w K mg base "NotStricter" ["terms"]
  i_NotTimely : MkI P w K mg base "NotTimely" ["rows"]
  i_RowTwice : MkI P w K mg base "RowTwice" ["name"]
  i_RowsDiffer : MkI P w K mg base "RowsDiffer" ["one", "two"]
  i_ShortStretch : MkI P w K mg base "ShortStretch" ["span"]
  i_SpotTwice : MkI P w K mg base "SpotTwice" ["row", "place"]
  i_TooLong : MkI P w K mg base "TooLong" ["longest"]
  i_UnknownRow : MkI P w K mg base "UnknownRow" ["name"]
def tis_row_name (K : PySem.W.Frag) (W : WX) : TS :=
  (tSeq (tIfS (tOr (tTest (tOp (rEqD K) (tCB rLenS (tCons (tVar 0) tNil)) (tC (.int 0)))) (tOr (tTest (tOp (rI0 fun i j => .bl (decide (j < i))) (tCB rLenS (tCons (tVar 0) tNil)) (tC (.int 10)))) (tTest (tOp rNotInS (tOp (rIxA K) (tVar 0) (tC (.int 0))) (tC (.str "abcdefghijklmnopqrstuvwxyz")))))) (tRet (tC (.bl false))) tNext)
    (tRet (tCB (rAll K) (tCons (tLc (iStr (tVar 0)) (gName 1) tYes (tOrV (tOp rInS (tVar 1) (tC (.str "abcdefghijklmnopqrstuvwxyz"))) (tOp rInS (tVar 1) (tC (.str "0123456789")))) [1]) tNil))))
theorem calis_row_name {P : Program} {w : World} {K : PySem.W.Frag} {mg : Str → Option Value} {base : Heap} (A : FunAt K mg "is_row_name" sis_row_name Pis_row_name) (B : Bt K mg)
    (pr : ∀ W ds r, fris_row_name ds r → FnEnd K W (tis_row_name K W) (entry Nis_row_name ds) r) : Cal P w K mg base 1 "is_row_name" Pis_row_name fris_row_name := by
  have sc := scis_row_name
  refine cal_of A sc _ fun f cdv A outer s H E hr => ⟨tis_row_name K (wD E), ?_, fun ds r h _ => pr _ ds r h⟩
  have tk : L2N.Takes (cxD P w K mg base Nis_row_name "is_row_name" sis_row_name f cdv A outer s H E) (wD E) := L2N.takes_of rfl rfl rfl rfl
  have hp : PassesOwn (model P w) (cxD P w K mg base Nis_row_name "is_row_name" sis_row_name f cdv A outer s H E).A (cxD P w K mg base Nis_row_name "is_row_name" sis_row_name f cdv A outer s H E).env (cxD P w K mg base Nis_row_name "is_row_name" sis_row_name f cdv A outer s H E).xe := passes_of rfl
  exact (pss_cons (ps_if ((pw_or (pt_cmpR (op_eqD hr.units) (pe_callB cr_lenS (by rfl) B.b_len (by decide +kernel) (pa_cons (pv 0) pa_nil)) pe_int (nomark _)) (pw_or (pt_cmpR op_gt (pe_callB cr_lenS (by rfl) B.b_len (by decide +kernel) (pa_cons (pv 0) pa_nil)) (pe_globI (by rfl) B.c_LONGEST_NAME) (nomark _)) (pw_or1 (pt_cmpR op_notInS (pe_ix ix_any (pv 0) pe_int (fun _ _ => rfl)) (pe_globS (by rfl) B.c_LETTERS) (by rfl)))))).pt (pss_one (ps_ret pe_bl)) pss_nil)
    (pss_one (ps_ret (pe_callB (cr_all rfl) (by rfl) B.b_all (by decide +kernel) (pa_cons (pe_lc (own := [("sign", 1)]) (tt := tYes) rfl sc.nd (pi_str (pv 0)) (blkOk_by (N := Nis_row_name) (sc := defScope sis_row_name) (by decide +kernel)) (fun _ _ _ _ _ => (pg_name (i := 1) sc.nd rfl (Or.inl rfl))) (fun _ _ _ _ _ => pts_nil) (fun _ _ _ _ _ => (pe_or (pe_cmpR op_inS (pv 1) (pe_globS (by rfl) B.c_LETTERS) (by rfl)) (pe_one (pe_cmpR op_inS (pv 1) (pe_globS (by rfl) B.c_DIGITS) (by rfl)))))) pa_nil)))))
def trow_set (K : PySem.W.Frag) (W : WX) : TS :=
  (tSeq (tIfS (tTest (tOp (rEqD K) (tCB (rLenA K) (tCons (tVar 0) tNil)) (tC (.int 0)))) (tRaise (He.ga K "NoRows") W) tNext)
    (tRet (tCallS (SpF K Pdifferent_names.length (frdifferent_names K)) (WE W) (tCons (tVar 0) tNil))))
theorem calrow_set {P : Program} {w : World} {K : PySem.W.Frag} {mg : Str → Option Value} {base : Heap} (A : FunAt K mg "row_set" srow_set Prow_set) (B : Bt K mg) (cdifferent_names : Cal P w K mg base 3 "different_names" Pdifferent_names (frdifferent_names K))
    (pr : ∀ W ds r, (frrow_set K) ds r → FnEnd K W (trow_set K W) (entry Nrow_set ds) r) : Cal P w K mg base 4 "row_set" Prow_set (frrow_set K) := by
  have sc := scrow_set
  refine cal_of A sc _ fun f cdv A outer s H E hr => ⟨trow_set K (wD E), ?_, fun ds r h _ => pr _ ds r h⟩
  have tk : L2N.Takes (cxD P w K mg base Nrow_set "row_set" srow_set f cdv A outer s H E) (wD E) := L2N.takes_of rfl rfl rfl rfl
  have hp : PassesOwn (model P w) (cxD P w K mg base Nrow_set "row_set" srow_set f cdv A outer s H E).A (cxD P w K mg base Nrow_set "row_set" srow_set f cdv A outer s H E).env (cxD P w K mg base Nrow_set "row_set" srow_set f cdv A outer s H E).xe := passes_of rfl
  exact (pss_cons (ps_if (pt_cmpR (op_eqD hr.units) (pe_callB cr_lenA (by rfl) B.b_len (by decide +kernel) (pa_cons (pv 0) pa_nil)) pe_int (nomark _)) (pss_one (ps_raiseD rfl tk B.e_NoRows B.g_NoRows (by rfl))) pss_nil)
    (pss_one (ps_ret (pe_callD cdifferent_names (hr.mono (by decide)) (by rfl) tk (pa_cons (pv 0) pa_nil)))))
def tdifferent_names (P : Program) (w : World) (K : PySem.W.Frag) (W : WX) : TS :=
  (tSeq (tFor (iSeq K (tVar 0)) (gName 1) (tIfS (tNot (tB (tCallS (SpF K Pis_row_name.length fris_row_name) (WE W) (tCons (tVar 1) tNil)))) (tRaiseI (He.ga K "BadName") (SpI (He.ga K "BadName") ["name"]) (tCons (tVar 1) tNil) W) tNext))
    (tSeq (tAsg (tCB (rSet0K P w) tNil) (gName 2))
    (tSeq (tFor (iSeq K (tVar 0)) (gName 1) (tSeq (tIfS (tTest (tOp (rSInK P w false) (tVar 1) (tVar 2))) (tRaiseI (He.ga K "RowTwice") (SpI (He.ga K "RowTwice") ["name"]) (tCons (tVar 1) tNil) W) tNext)
    (tDrop (tSAddK P w (tVar 2) (tCons (tVar 1) tNil)))))
    (tRet (tCB (rTupC K) (tCons (tCB (rSortS K) (tCons (tVar 0) tNil)) tNil))))))
theorem caldifferent_names {P : Program} {w : World} {K : PySem.W.Frag} {mg : Str → Option Value} {base : Heap} (A : FunAt K mg "different_names" sdifferent_names Pdifferent_names) (B : Bt K mg) (cis_row_name : Cal P w K mg base 1 "is_row_name" Pis_row_name fris_row_name) (IB : IniT P w K mg base)
    (pr : ∀ W ds r, (frdifferent_names K) ds r → FnEnd K W (tdifferent_names P w K W) (entry Ndifferent_names ds) r) : Cal P w K mg base 3 "different_names" Pdifferent_names (frdifferent_names K) := by
  have sc := scdifferent_names
  refine cal_of A sc _ fun f cdv A outer s H E hr => ⟨tdifferent_names P w K (wD E), ?_, fun ds r h _ => pr _ ds r h⟩
  have tk : L2N.Takes (cxD P w K mg base Ndifferent_names "different_names" sdifferent_names f cdv A outer s H E) (wD E) := L2N.takes_of rfl rfl rfl rfl
  have hp : PassesOwn (model P w) (cxD P w K mg base Ndifferent_names "different_names" sdifferent_names f cdv A outer s H E).A (cxD P w K mg base Ndifferent_names "different_names" sdifferent_names f cdv A outer s H E).env (cxD P w K mg base Ndifferent_names "different_names" sdifferent_names f cdv A outer s H E).xe := passes_of rfl
  exact (pss_cons (ps_for hp rfl (pi_seq (pv 0)) (pg_name (i := 1) sc.nd rfl (Or.inl rfl)) (pss_one (ps_if (pt_not (pt_val (pe_callD cis_row_name (hr.mono (by decide)) (by rfl) tk (pa_cons (pv 1) pa_nil)))) (pss_one (ps_raiseID IB.i_BadName (hr.mono (by decide)) rfl tk (by rfl) (pa_cons (pv 1) pa_nil))) pss_nil)))
    (pss_cons (ps_set (i := 2) sc.nd rfl (Or.inl rfl) (pe_callTy0 cr_set0K (by rfl) B.b_set (by decide +kernel)))
    (pss_cons (ps_for hp rfl (pi_seq (pv 0)) (pg_name (i := 1) sc.nd rfl (Or.inl rfl)) (pss_cons (ps_if (pt_cmpR or_sinK (pv 1) (pv 2) (by rfl)) (pss_one (ps_raiseID IB.i_RowTwice (hr.mono (by decide)) rfl tk (by rfl) (pa_cons (pv 1) pa_nil))) pss_nil)
    (pss_one (ps_expr (pe_saddK (pv 2) (pa_cons (pv 1) pa_nil))))))
    (pss_one (ps_ret (pe_callTy call_tuple_of (by rfl) B.b_tuple (by decide +kernel) (pa_cons (pe_callB (cr_sortS hr.units) (by rfl) B.b_sorted (by decide +kernel) (pa_cons (pv 0) pa_nil)) pa_nil)))))))
def t_law_cell (K : PySem.W.Frag) (W : WX) : TS :=
  (tSeq (tIfS (tTest (tOp (rI0 fun i j => .bl (decide (i < j))) (tVar 1) (tCB (rLenA K) (tCons (tVar 0) tNil)))) (tRet (tOp (rIxA K) (tVar 0) (tVar 1))) tNext)
    (tSeq (tAsg (tC (.int 17)) (gName 2))
    (tSeq (tFor (iSeq K (tVar 0)) (gName 3) (tAsg (tOp (rI (fun _ j => 0 < j) fun i j => .int (i % j)) (tCB rIntC (tCons (tOp (rAddA K) (tOp rMulA (tVar 2) (tC (.int 31))) (tOp (rI (fun _ j => 0 < j) fun i j => .int (i % j)) (tCB rIntC (tCons (tVar 3) tNil)) (tC (.int 1000003)))) tNil)) (tC (.int 1000003))) (gName 2)))
    (tRet (tOp (rI (fun _ j => 0 < j) fun i j => .int (i % j)) (tCB rIntC (tCons (tOp rMulA (tOp rMulA (tOp (rAddA K) (tVar 2) (tC (.int 7))) (tOp (rAddA K) (tVar 1) (tC (.int 3)))) (tC (.int 69621))) tNil)) (tC (.int 2147483647)))))))
theorem cal_law_cell {P : Program} {w : World} {K : PySem.W.Frag} {mg : Str → Option Value} {base : Heap} (A : FunAt K mg "_law_cell" s_law_cell P_law_cell) (B : Bt K mg)
    (pr : ∀ W ds r, fr_law_cell ds r → FnEnd K W (t_law_cell K W) (entry N_law_cell ds) r) : Cal P w K mg base 1 "_law_cell" P_law_cell fr_law_cell := by
  have sc := sc_law_cell
  refine cal_of A sc _ fun f cdv A outer s H E hr => ⟨t_law_cell K (wD E), ?_, fun ds r h _ => pr _ ds r h⟩
  have tk : L2N.Takes (cxD P w K mg base N_law_cell "_law_cell" s_law_cell f cdv A outer s H E) (wD E) := L2N.takes_of rfl rfl rfl rfl
  have hp : PassesOwn (model P w) (cxD P w K mg base N_law_cell "_law_cell" s_law_cell f cdv A outer s H E).A (cxD P w K mg base N_law_cell "_law_cell" s_law_cell f cdv A outer s H E).env (cxD P w K mg base N_law_cell "_law_cell" s_law_cell f cdv A outer s H E).xe := passes_of rfl
  exact (pss_cons (ps_if (pt_cmpR op_lt (pv 1) (pe_callB cr_lenA (by rfl) B.b_len (by decide +kernel) (pa_cons (pv 0) pa_nil)) (nomark _)) (pss_one (ps_ret (pe_ix ix_any (pv 0) (pv 1) (fun _ _ => rfl)))) pss_nil)
    (pss_cons (ps_set (i := 2) sc.nd rfl (Or.inl rfl) pe_int)
    (pss_cons (ps_for hp rfl (pi_seq (pv 0)) (pg_name (i := 3) sc.nd rfl (Or.inl rfl)) (pss_one (ps_set (i := 2) sc.nd rfl (Or.inl rfl) (pe_op op_mod (pe_callTy cr_int (by rfl) B.b_int (by decide +kernel) (pa_cons (pe_op opA_add (pe_op opA_mul (pv 2) pe_int) (pe_op op_mod (pe_callTy cr_int (by rfl) B.b_int (by decide +kernel) (pa_cons (pv 3) pa_nil)) pe_int)) pa_nil)) pe_int))))
    (pss_one (ps_ret (pe_op op_mod (pe_callTy cr_int (by rfl) B.b_int (by decide +kernel) (pa_cons (pe_op opA_mul (pe_op opA_mul (pe_op opA_add (pv 2) pe_int) (pe_op opA_add (pv 1) pe_int)) pe_int) pa_nil)) pe_int))))))
def t_law_digits (K : PySem.W.Frag) (W : WX) : TS :=
  (tSeq (tAsg (tLst tNil) (gName 2))
    (tSeq (tAsg (tCB rIntC (tCons (tVar 0) tNil)) (gName 3))
    (tSeq (tIfS (tTest (tOp (rI0 fun i j => .bl (decide (j ≤ i))) (tVar 3) (tOp (rI CPow fun i j => .int (i ^ j.toNat)) (tC (.int 10)) (tC (.int 18))))) (tSeq (tAsg (tOp (rI0 fun i j => .int (i - j)) (tVar 3) (tOp (rI CPow fun i j => .int (i ^ j.toNat)) (tC (.int 10)) (tC (.int 18)))) (gName 3))
    (tSeq (tFor (iSeq K (tVar 1)) (gName 4) (tSeq (tDrop (tBM K "list" rAppend (tVar 2) (tCons (tOp (rI (fun _ j => 0 < j) fun i j => .int (i % j)) (tCB rIntC (tCons (tVar 3) tNil)) (tVar 4)) tNil)))
    (tAsg (tOp rDivA (tCB rIntC (tCons (tVar 3) tNil)) (tVar 4)) (gName 3))))
    (tRet (tVar 2)))) tNext)
    (tSeq (tAsg (tOp (rI (fun _ j => 0 < j) fun i j => .int (i % j)) (tCB rIntC (tCons (tVar 3) tNil)) (tC (.int 2147483629))) (gName 5))
    (tSeq (tFor (iRng1 (tCons (tCB (rLenA K) (tCons (tVar 1) tNil)) tNil)) (gName 6) (tSeq (tAsg (tOp (rI (fun _ j => 0 < j) fun i j => .int (i % j)) (tCB rIntC (tCons (tOp (rAddA K) (tOp (rAddA K) (tOp rMulA (tVar 5) (tC (.int 48271))) (tOp rMulA (tC (.int 974711)) (tVar 6))) (tC (.int 12345))) tNil)) (tC (.int 2147483647))) (gName 5))
    (tSeq (tAsg (tOp (rI (fun _ j => 0 < j) fun i j => .int (i % j)) (tCB rIntC (tCons (tOp rMulA (tVar 5) (tOp (rAddA K) (tOp rDivA (tVar 5) (tC (.int 65537))) (tC (.int 3)))) tNil)) (tC (.int 2147483629))) (gName 7))
    (tDrop (tBM K "list" rAppend (tVar 2) (tCons (tOp (rI (fun _ j => 0 < j) fun i j => .int (i % j)) (tOp rDivA (tVar 7) (tC (.int 19))) (tOp (rIxA K) (tVar 1) (tVar 6))) tNil))))))
    (tRet (tVar 2)))))))
theorem cal_law_digits {P : Program} {w : World} {K : PySem.W.Frag} {mg : Str → Option Value} {base : Heap} (A : FunAt K mg "_law_digits" s_law_digits P_law_digits) (B : Bt K mg)
    (pr : ∀ W ds r, fr_law_digits ds r → FnEnd K W (t_law_digits K W) (entry N_law_digits ds) r) : Cal P w K mg base 1 "_law_digits" P_law_digits fr_law_digits := by
  have sc := sc_law_digits
  refine cal_of A sc _ fun f cdv A outer s H E hr => ⟨t_law_digits K (wD E), ?_, fun ds r h _ => pr _ ds r h⟩
  have tk : L2N.Takes (cxD P w K mg base N_law_digits "_law_digits" s_law_digits f cdv A outer s H E) (wD E) := L2N.takes_of rfl rfl rfl rfl
  have hp : PassesOwn (model P w) (cxD P w K mg base N_law_digits "_law_digits" s_law_digits f cdv A outer s H E).A (cxD P w K mg base N_law_digits "_law_digits" s_law_digits f cdv A outer s H E).env (cxD P w K mg base N_law_digits "_law_digits" s_law_digits f cdv A outer s H E).xe := passes_of rfl
  exact (pss_cons (ps_set (i := 2) sc.nd rfl (Or.inl rfl) (pe_lst pa_nil))
    (pss_cons (ps_set (i := 3) sc.nd rfl (Or.inl rfl) (pe_callTy cr_int (by rfl) B.b_int (by decide +kernel) (pa_cons (pv 0) pa_nil)))
    (pss_cons (ps_if (pt_cmpR op_ge (pv 3) (pe_op op_pow pe_int pe_int) (nomark _)) (pss_cons (ps_set (i := 3) sc.nd rfl (Or.inl rfl) (pe_op op_sub (pv 3) (pe_op op_pow pe_int pe_int)))
    (pss_cons (ps_for hp rfl (pi_seq (pv 1)) (pg_name (i := 4) sc.nd rfl (Or.inl rfl)) (pss_cons (ps_expr (pe_bm PySem.F.plainAttrs_list PySem.F.slot_list_append PySem.F.type_list_append mt_append (pv 2) (pa_cons (pe_op op_mod (pe_callTy cr_int (by rfl) B.b_int (by decide +kernel) (pa_cons (pv 3) pa_nil)) (pv 4)) pa_nil)))
    (pss_one (ps_set (i := 3) sc.nd rfl (Or.inl rfl) (pe_op opA_div (pe_callTy cr_int (by rfl) B.b_int (by decide +kernel) (pa_cons (pv 3) pa_nil)) (pv 4))))))
    (pss_one (ps_ret (pv 2))))) pss_nil)
    (pss_cons (ps_set (i := 5) sc.nd rfl (Or.inl rfl) (pe_op op_mod (pe_callTy cr_int (by rfl) B.b_int (by decide +kernel) (pa_cons (pv 3) pa_nil)) pe_int))
    (pss_cons (ps_for hp rfl (pi_range1 (by rfl) B.b_range (pa_cons (pe_callB cr_lenA (by rfl) B.b_len (by decide +kernel) (pa_cons (pv 1) pa_nil)) pa_nil)) (pg_name (i := 6) sc.nd rfl (Or.inl rfl)) (pss_cons (ps_set (i := 5) sc.nd rfl (Or.inl rfl) (pe_op op_mod (pe_callTy cr_int (by rfl) B.b_int (by decide +kernel) (pa_cons (pe_op opA_add (pe_op opA_add (pe_op opA_mul (pv 5) pe_int) (pe_op opA_mul pe_int (pv 6))) pe_int) pa_nil)) pe_int))
    (pss_cons (ps_set (i := 7) sc.nd rfl (Or.inl rfl) (pe_op op_mod (pe_callTy cr_int (by rfl) B.b_int (by decide +kernel) (pa_cons (pe_op opA_mul (pv 5) (pe_op opA_add (pe_op opA_div (pv 5) pe_int) pe_int)) pa_nil)) pe_int))
    (pss_one (ps_expr (pe_bm PySem.F.plainAttrs_list PySem.F.slot_list_append PySem.F.type_list_append mt_append (pv 2) (pa_cons (pe_op op_mod (pe_op opA_div (pv 7) pe_int) (pe_ix ix_any (pv 1) (pv 6) (fun _ _ => rfl))) pa_nil)))))))
    (pss_one (ps_ret (pv 2))))))))
def t_law_signs (K : PySem.W.Frag) (W : WX) : TS :=
  (tSeq (tAsg (tC (.str " !\"#$&'()*+,-./0123456789:;<=>?@ABCDEFGHIJKLMNOPQRSTUVWXYZ[\\]^_`")) (gName 0))
    (tRet (tOp (rAddA K) (tVar 0) (tC (.str "abcdefghijklmnopqrstuvwxyz{|}~\n")))))
theorem cal_law_signs {P : Program} {w : World} {K : PySem.W.Frag} {mg : Str → Option Value} {base : Heap} (A : FunAt K mg "_law_signs" s_law_signs P_law_signs) (B : Bt K mg)
    (pr : ∀ W ds r, fr_law_signs ds r → FnEnd K W (t_law_signs K W) (entry N_law_signs ds) r) : Cal P w K mg base 1 "_law_signs" P_law_signs fr_law_signs := by
  have sc := sc_law_signs
  refine cal_of A sc _ fun f cdv A outer s H E hr => ⟨t_law_signs K (wD E), ?_, fun ds r h _ => pr _ ds r h⟩
  have tk : L2N.Takes (cxD P w K mg base N_law_signs "_law_signs" s_law_signs f cdv A outer s H E) (wD E) := L2N.takes_of rfl rfl rfl rfl
  have hp : PassesOwn (model P w) (cxD P w K mg base N_law_signs "_law_signs" s_law_signs f cdv A outer s H E).A (cxD P w K mg base N_law_signs "_law_signs" s_law_signs f cdv A outer s H E).env (cxD P w K mg base N_law_signs "_law_signs" s_law_signs f cdv A outer s H E).xe := passes_of rfl
  exact (pss_cons (ps_set (i := 0) sc.nd rfl (Or.inl rfl) pe_str)
    (pss_one (ps_ret (pe_op opA_add (pv 0) pe_str))))
def t_law_string (K : PySem.W.Frag) (W : WX) : TS :=
  (tSeq (tAsg (tC (.str "abcdefghijklmnopqrstuvwxyz")) (gName 2))
    (tSeq (tAsg (tOp (rAddA K) (tVar 2) (tC (.str "0123456789"))) (gName 3))
    (tSeq (tAsg (tOp (rAddA K) (tOp (rIxA K) (tVar 2) (tOp (rIxA K) (tVar 0) (tC (.int 2)))) (tJoin K (tC (.str "")) (tLc (iRng1 (tCons (tC (.int 9)) tNil)) (gName 5) tYes (tOp (rIxA K) (tVar 3) (tOp (rIxA K) (tVar 0) (tOp (rAddA K) (tC (.int 3)) (tVar 5)))) [5]))) (gName 4))
    (tSeq (tAsg (tSl (rSlAny K) (tVar 4) tNoPart (tPart (tOp (rAddA K) (tC (.int 1)) (tOp (rIxA K) (tVar 0) (tC (.int 1)))))) (gName 6))
    (tSeq (tAsg (tOp (rI (fun _ j => 0 < j) fun i j => .int (i % j)) (tCB rIntC (tCons (tOp (rIxA K) (tVar 0) (tC (.int 13))) tNil)) (tCB rLenS (tCons (tVar 6) tNil))) (gName 7))
    (tSeq (tAsg (tOp (rIxA K) (tCallS (SpF K 0 fr_law_signs) (WE W) tNil) (tOp (rIxA K) (tVar 0) (tC (.int 14)))) (gName 8))
    (tSeq (tAsg (tOp (rIxA K) (tVar 0) (tC (.int 0))) (gName 9))
    (tSeq (tIfS (tTru K (tVar 1)) (tAsg (tOp (rI (fun _ j => 0 < j) fun i j => .int (i % j)) (tCB rIntC (tCons (tVar 9) tNil)) (tC (.int 23))) (gName 9)) tNext)
    (tSeq (tIfS (tTest (tOp (rI0 fun i j => .bl (decide (i < j))) (tVar 9) (tC (.int 10)))) (tRet (tOp (rIxA K) (tLst (tCons (tC (.str "a")) (tCons (tC (.str "b")) (tCons (tC (.str "a1")) (tCons (tC (.str "ab")) (tCons (tC (.str "x10")) (tCons (tC (.str "x9")) (tCons (tC (.str "x1")) (tCons (tC (.str "z")) (tCons (tC (.str "a0")) (tCons (tC (.str "aa")) (tCons (tC (.str "level")) (tCons (tC (.str "pump")) (tCons (tC (.str "b2")) tNil)))))))))))))) (tOp rDivA (tOp (rIxA K) (tVar 0) (tC (.int 2))) (tC (.int 2))))) tNext)
    (tSeq (tIfS (tTest (tOp (rI0 fun i j => .bl (decide (i < j))) (tVar 9) (tC (.int 22)))) (tRet (tVar 6)) tNext)
    (tSeq (tIfS (tTest (tOp (rEqD K) (tVar 9) (tC (.int 22)))) (tRet (tVar 4)) tNext)
    (tSeq (tIfS (tTest (tOp (rEqD K) (tVar 9) (tC (.int 23)))) (tRet (tOp (rIxA K) (tLst (tCons (tOp (rAddA K) (tVar 4) (tOp (rIxA K) (tVar 3) (tOp (rIxA K) (tVar 0) (tC (.int 12))))) (tCons (tOp (rAddA K) (tOp (rAddA K) (tVar 4) (tVar 4)) (tVar 4)) (tCons (tC (.str "")) tNil)))) (tOp (rI (fun _ j => 0 < j) fun i j => .int (i % j)) (tCB rIntC (tCons (tOp (rIxA K) (tVar 0) (tC (.int 13))) tNil)) (tC (.int 3))))) tNext)
    (tSeq (tIfS (tTest (tOp (rEqD K) (tVar 9) (tC (.int 24)))) (tRet (tOp (rAddA K) (tOp (rIxA K) (tC (.str "0123456789")) (tOp (rI (fun _ j => 0 < j) fun i j => .int (i % j)) (tCB rIntC (tCons (tOp (rIxA K) (tVar 0) (tC (.int 2))) tNil)) (tC (.int 10)))) (tSl (rSlAny K) (tVar 6) (tPart (tC (.int 1))) tNoPart))) tNext)
    (tSeq (tIfS (tTest (tOp (rEqD K) (tVar 9) (tC (.int 25)))) (tSeq (tAsg (tLst (tCons (tM0 rUp (tVar 6)) (tCons (tOp (rAddA K) (tVar 6) (tC (.str "\n"))) (tCons (tOp (rAddA K) (tC (.str " ")) (tVar 6)) (tCons (tOp (rAddA K) (tVar 6) (tC (.str " "))) (tCons (tOp (rAddA K) (tVar 6) (tC (.str "_"))) (tCons (tOp (rAddA K) (tC (.str "-")) (tVar 6)) (tCons (tOp (rAddA K) (tC (.str "A")) (tSl (rSlAny K) (tVar 6) (tPart (tC (.int 1))) tNoPart)) tNil)))))))) (gName 10))
    (tRet (tOp (rIxA K) (tVar 10) (tOp (rI (fun _ j => 0 < j) fun i j => .int (i % j)) (tCB rIntC (tCons (tOp (rIxA K) (tVar 0) (tC (.int 12))) tNil)) (tC (.int 7)))))) tNext)
    (tSeq (tIfS (tTest (tOp (rI0 fun i j => .bl (decide (i < j))) (tVar 9) (tC (.int 28)))) (tRet (tOp (rAddA K) (tOp (rAddA K) (tSl (rSlAny K) (tVar 6) tNoPart (tPart (tVar 7))) (tVar 8)) (tSl (rSlAny K) (tVar 6) (tPart (tOp (rAddA K) (tVar 7) (tC (.int 1)))) tNoPart))) tNext)
    (tSeq (tIfS (tTest (tOp (rEqD K) (tVar 9) (tC (.int 28)))) (tRet (tOp (rAddA K) (tOp (rAddA K) (tSl (rSlAny K) (tVar 6) tNoPart (tPart (tVar 7))) (tVar 8)) (tSl (rSlAny K) (tVar 6) (tPart (tVar 7)) tNoPart))) tNext)
    (tRet (tJoin K (tC (.str "")) (tLc (iRng1 (tCons (tOp (rIxA K) (tVar 0) (tC (.int 13))) tNil)) (gName 5) tYes (tOp (rIxA K) (tCallS (SpF K 0 fr_law_signs) (WE W0) tNil) (tOp (rIxA K) (tVar 0) (tOp (rAddA K) (tC (.int 15)) (tVar 5)))) [5])))))))))))))))))))
theorem cal_law_string {P : Program} {w : World} {K : PySem.W.Frag} {mg : Str → Option Value} {base : Heap} (A : FunAt K mg "_law_string" s_law_string P_law_string) (B : Bt K mg) (c_law_signs : Cal P w K mg base 1 "_law_signs" P_law_signs fr_law_signs)
    (pr : ∀ W ds r, fr_law_string ds r → FnEnd K W (t_law_string K W) (entry N_law_string ds) r) : Cal P w K mg base 2 "_law_string" P_law_string fr_law_string := by
  have sc := sc_law_string
  refine cal_of A sc _ fun f cdv A outer s H E hr => ⟨t_law_string K (wD E), ?_, fun ds r h _ => pr _ ds r h⟩
  have tk : L2N.Takes (cxD P w K mg base N_law_string "_law_string" s_law_string f cdv A outer s H E) (wD E) := L2N.takes_of rfl rfl rfl rfl
  have hp : PassesOwn (model P w) (cxD P w K mg base N_law_string "_law_string" s_law_string f cdv A outer s H E).A (cxD P w K mg base N_law_string "_law_string" s_law_string f cdv A outer s H E).env (cxD P w K mg base N_law_string "_law_string" s_law_string f cdv A outer s H E).xe := passes_of rfl
  exact (pss_cons (ps_set (i := 2) sc.nd rfl (Or.inl rfl) pe_str)
    (pss_cons (ps_set (i := 3) sc.nd rfl (Or.inr rfl) (pe_op opA_add (pv 2) pe_str))
    (pss_cons (ps_set (i := 4) sc.nd rfl (Or.inl rfl) (pe_op opA_add (pe_ix ix_any (pv 2) (pe_ix ix_any (pv 0) pe_int (fun _ _ => rfl)) (fun _ _ => rfl)) (pe_join pe_str (pe_lc (own := [("k", 5)]) (tt := tYes) rfl sc.nd (pi_range1 (by rfl) B.b_range (pa_cons pe_int pa_nil)) (blkOk_by (N := N_law_string) (sc := defScope s_law_string) (by decide +kernel)) (fun _ _ _ _ _ => (pg_name (i := 5) sc.nd rfl (Or.inl rfl))) (fun _ _ _ _ _ => pts_nil) (fun _ _ _ _ _ => (pe_ix ix_any (pv 3) (pe_ix ix_any (pv 0) (pe_op opA_add pe_int (pv 5)) (fun _ _ => rfl)) (fun _ _ => rfl)))))))
    (pss_cons (ps_set (i := 6) sc.nd rfl (Or.inl rfl) (pe_slice sl_any (pv 4) po_none (po_some (pe_op opA_add pe_int (pe_ix ix_any (pv 0) pe_int (fun _ _ => rfl))))))
    (pss_cons (ps_set (i := 7) sc.nd rfl (Or.inl rfl) (pe_op op_mod (pe_callTy cr_int (by rfl) B.b_int (by decide +kernel) (pa_cons (pe_ix ix_any (pv 0) pe_int (fun _ _ => rfl)) pa_nil)) (pe_callB cr_lenS (by rfl) B.b_len (by decide +kernel) (pa_cons (pv 6) pa_nil))))
    (pss_cons (ps_set (i := 8) sc.nd rfl (Or.inl rfl) (pe_ix ix_any (pe_callD0 c_law_signs (hr.mono (by decide)) (by rfl) tk) (pe_ix ix_any (pv 0) pe_int (fun _ _ => rfl)) (fun _ _ => rfl)))
    (pss_cons (ps_set (i := 9) sc.nd rfl (Or.inl rfl) (pe_ix ix_any (pv 0) pe_int (fun _ _ => rfl)))
    (pss_cons (ps_if (pt_truth2 (pv 1)) (pss_one (ps_set (i := 9) sc.nd rfl (Or.inl rfl) (pe_op op_mod (pe_callTy cr_int (by rfl) B.b_int (by decide +kernel) (pa_cons (pv 9) pa_nil)) pe_int))) pss_nil)
    (pss_cons (ps_if (pt_cmpR op_lt (pv 9) pe_int (nomark _)) (pss_one (ps_ret (pe_ix ix_any (pe_lst (pa_cons pe_str (pa_cons pe_str (pa_cons pe_str (pa_cons pe_str (pa_cons pe_str (pa_cons pe_str (pa_cons pe_str (pa_cons pe_str (pa_cons pe_str (pa_cons pe_str (pa_cons pe_str (pa_cons pe_str (pa_cons pe_str pa_nil)))))))))))))) (pe_op opA_div (pe_ix ix_any (pv 0) pe_int (fun _ _ => rfl)) pe_int) (fun _ _ => rfl)))) pss_nil)
    (pss_cons (ps_if (pt_cmpR op_lt (pv 9) pe_int (nomark _)) (pss_one (ps_ret (pv 6))) pss_nil)
    (pss_cons (ps_if (pt_cmpR (op_eqD hr.units) (pv 9) pe_int (nomark _)) (pss_one (ps_ret (pv 4))) pss_nil)
    (pss_cons (ps_if (pt_cmpR (op_eqD hr.units) (pv 9) pe_int (nomark _)) (pss_one (ps_ret (pe_ix ix_any (pe_lst (pa_cons (pe_op opA_add (pv 4) (pe_ix ix_any (pv 3) (pe_ix ix_any (pv 0) pe_int (fun _ _ => rfl)) (fun _ _ => rfl))) (pa_cons (pe_op opA_add (pe_op opA_add (pv 4) (pv 4)) (pv 4)) (pa_cons pe_str pa_nil)))) (pe_op op_mod (pe_callTy cr_int (by rfl) B.b_int (by decide +kernel) (pa_cons (pe_ix ix_any (pv 0) pe_int (fun _ _ => rfl)) pa_nil)) pe_int) (fun _ _ => rfl)))) pss_nil)
    (pss_cons (ps_if (pt_cmpR (op_eqD hr.units) (pv 9) pe_int (nomark _)) (pss_one (ps_ret (pe_op opA_add (pe_ix ix_any pe_str (pe_op op_mod (pe_callTy cr_int (by rfl) B.b_int (by decide +kernel) (pa_cons (pe_ix ix_any (pv 0) pe_int (fun _ _ => rfl)) pa_nil)) pe_int) (fun _ _ => rfl)) (pe_slice sl_any (pv 6) (po_some pe_int) po_none)))) pss_nil)
    (pss_cons (ps_if (pt_cmpR (op_eqD hr.units) (pv 9) pe_int (nomark _)) (pss_cons (ps_set (i := 10) sc.nd rfl (Or.inl rfl) (pe_lst (pa_cons (pe_upper (pv 6)) (pa_cons (pe_op opA_add (pv 6) pe_str) (pa_cons (pe_op opA_add pe_str (pv 6)) (pa_cons (pe_op opA_add (pv 6) pe_str) (pa_cons (pe_op opA_add (pv 6) pe_str) (pa_cons (pe_op opA_add pe_str (pv 6)) (pa_cons (pe_op opA_add pe_str (pe_slice sl_any (pv 6) (po_some pe_int) po_none)) pa_nil)))))))))
    (pss_one (ps_ret (pe_ix ix_any (pv 10) (pe_op op_mod (pe_callTy cr_int (by rfl) B.b_int (by decide +kernel) (pa_cons (pe_ix ix_any (pv 0) pe_int (fun _ _ => rfl)) pa_nil)) pe_int) (fun _ _ => rfl))))) pss_nil)
    (pss_cons (ps_if (pt_cmpR op_lt (pv 9) pe_int (nomark _)) (pss_one (ps_ret (pe_op opA_add (pe_op opA_add (pe_slice sl_any (pv 6) po_none (po_some (pv 7))) (pv 8)) (pe_slice sl_any (pv 6) (po_some (pe_op opA_add (pv 7) pe_int)) po_none)))) pss_nil)
    (pss_cons (ps_if (pt_cmpR (op_eqD hr.units) (pv 9) pe_int (nomark _)) (pss_one (ps_ret (pe_op opA_add (pe_op opA_add (pe_slice sl_any (pv 6) po_none (po_some (pv 7))) (pv 8)) (pe_slice sl_any (pv 6) (po_some (pv 7)) po_none)))) pss_nil)
    (pss_one (ps_ret (pe_join pe_str (pe_lc (own := [("k", 5)]) (tt := tYes) rfl sc.nd (pi_range1 (by rfl) B.b_range (pa_cons (pe_ix ix_any (pv 0) pe_int (fun _ _ => rfl)) pa_nil)) (blkOk_by (N := N_law_string) (sc := defScope s_law_string) (by decide +kernel)) (fun _ _ _ _ _ => (pg_name (i := 5) sc.nd rfl (Or.inl rfl))) (fun _ _ _ _ _ => pts_nil) (fun _ _ _ _ _ => (pe_ix ix_any (pe_callD0 c_law_signs (hr.mono (by decide)) (by rfl) takesN) (pe_ix ix_any (pv 0) (pe_op opA_add pe_int (pv 5)) (fun _ _ => rfl)) (fun _ _ => rfl)))))))))))))))))))))))
def t_law_strings (K : PySem.W.Frag) (W : WX) : TS :=
  (tSeq (tAsg (tCallS (SpF K P_law_digits.length fr_law_digits) (WE W) (tCons (tCallS (SpF K P_law_cell.length fr_law_cell) (WE W) (tCons (tVar 0) (tCons (tVar 1) tNil))) (tCons (tLst (tCons (tC (.int 7)) (tCons (tC (.int 2)) (tCons (tC (.int 5)) (tCons (tC (.int 6)) (tCons (tC (.int 6)) (tCons (tC (.int 6)) (tCons (tC (.int 6)) tNil)))))))) tNil))) (gName 2))
    (tSeq (tAsg (tLst tNil) (gName 3))
    (tSeq (tFor (iRng1 (tCons (tOp (rIxA K) (tVar 2) (tC (.int 0))) tNil)) (gName 4) (tSeq (tAsg (tCallS (SpF K P_law_digits.length fr_law_digits) (WE W) (tCons (tCallS (SpF K P_law_cell.length fr_law_cell) (WE W) (tCons (tVar 0) (tCons (tOp (rAddA K) (tOp (rAddA K) (tVar 1) (tC (.int 1))) (tVar 4)) tNil))) (tCons (tOp (rAddA K) (tOp (rAddA K) (tOp (rAddA K) (tLst (tCons (tC (.int 30)) (tCons (tC (.int 10)) (tCons (tC (.int 26)) tNil)))) (tOp rMulA (tLst (tCons (tC (.int 36)) tNil)) (tC (.int 10)))) (tLst (tCons (tC (.int 13)) (tCons (tC (.int 95)) tNil)))) (tOp rMulA (tLst (tCons (tC (.int 95)) tNil)) (tC (.int 12)))) tNil))) (gName 5))
    (tDrop (tBM K "list" rAppend (tVar 3) (tCons (tCallS (SpF K P_law_string.length fr_law_string) (WE W) (tCons (tVar 5) (tCons (tOp (rEqD K) (tOp (rIxA K) (tVar 2) (tC (.int 1))) (tC (.int 0))) tNil))) tNil)))))
    (tSeq (tIfS (tAnd (tTest (tOp (rI0 fun i j => .bl (decide (j < i))) (tCB (rLenA K) (tCons (tVar 3) tNil)) (tC (.int 0)))) (tTest (tOp (rI0 fun i j => .bl (decide (i < j))) (tOp (rIxA K) (tVar 2) (tC (.int 2))) (tC (.int 2))))) (tAsg (tOp (rIxA K) (tVar 3) (tOp (rI (fun _ j => 0 < j) fun i j => .int (i % j)) (tCB rIntC (tCons (tOp (rIxA K) (tVar 2) (tC (.int 4))) tNil)) (tCB (rLenA K) (tCons (tVar 3) tNil)))) (gSub (tVar 3) (tOp (rI (fun _ j => 0 < j) fun i j => .int (i % j)) (tCB rIntC (tCons (tOp (rIxA K) (tVar 2) (tC (.int 3))) tNil)) (tCB (rLenA K) (tCons (tVar 3) tNil))) rSetL)) tNext)
    (tSeq (tIfS (tAnd (tTest (tOp (rI0 fun i j => .bl (decide (j < i))) (tCB (rLenA K) (tCons (tVar 3) tNil)) (tC (.int 0)))) (tTest (tOp (rEqD K) (tOp (rIxA K) (tVar 2) (tC (.int 2))) (tC (.int 0))))) (tAsg (tOp (rIxA K) (tVar 3) (tOp (rI (fun _ j => 0 < j) fun i j => .int (i % j)) (tCB rIntC (tCons (tOp (rIxA K) (tVar 2) (tC (.int 6))) tNil)) (tCB (rLenA K) (tCons (tVar 3) tNil)))) (gSub (tVar 3) (tOp (rI (fun _ j => 0 < j) fun i j => .int (i % j)) (tCB rIntC (tCons (tOp (rIxA K) (tVar 2) (tC (.int 5))) tNil)) (tCB (rLenA K) (tCons (tVar 3) tNil))) rSetL)) tNext)
    (tSeq (tIfS (tAnd (tTest (tOp (rI0 fun i j => .bl (decide (j < i))) (tCB (rLenA K) (tCons (tVar 3) tNil)) (tC (.int 3)))) (tTest (tOp (rEqD K) (tOp (rIxA K) (tVar 2) (tC (.int 2))) (tC (.int 2))))) (tSeq (tAsg (tOp (rIxA K) (tVar 3) (tC (.int 1))) (gSub (tVar 3) (tC (.int 2)) rSetL))
    (tAsg (tOp (rIxA K) (tVar 3) (tC (.int 0))) (gSub (tVar 3) (tC (.int 3)) rSetL))) tNext)
    (tRet (tVar 3))))))))
theorem cal_law_strings {P : Program} {w : World} {K : PySem.W.Frag} {mg : Str → Option Value} {base : Heap} (A : FunAt K mg "_law_strings" s_law_strings P_law_strings) (B : Bt K mg) (c_law_digits : Cal P w K mg base 1 "_law_digits" P_law_digits fr_law_digits) (c_law_cell : Cal P w K mg base 1 "_law_cell" P_law_cell fr_law_cell) (c_law_string : Cal P w K mg base 2 "_law_string" P_law_string fr_law_string)
    (pr : ∀ W ds r, fr_law_strings ds r → FnEnd K W (t_law_strings K W) (entry N_law_strings ds) r) : Cal P w K mg base 3 "_law_strings" P_law_strings fr_law_strings := by
  have sc := sc_law_strings
  refine cal_of A sc _ fun f cdv A outer s H E hr => ⟨t_law_strings K (wD E), ?_, fun ds r h _ => pr _ ds r h⟩
  have tk : L2N.Takes (cxD P w K mg base N_law_strings "_law_strings" s_law_strings f cdv A outer s H E) (wD E) := L2N.takes_of rfl rfl rfl rfl
  have hp : PassesOwn (model P w) (cxD P w K mg base N_law_strings "_law_strings" s_law_strings f cdv A outer s H E).A (cxD P w K mg base N_law_strings "_law_strings" s_law_strings f cdv A outer s H E).env (cxD P w K mg base N_law_strings "_law_strings" s_law_strings f cdv A outer s H E).xe := passes_of rfl
  exact (pss_cons (ps_set (i := 2) sc.nd rfl (Or.inl rfl) (pe_callD c_law_digits (hr.mono (by decide)) (by rfl) tk (pa_cons (pe_callD c_law_cell (hr.mono (by decide)) (by rfl) tk (pa_cons (pv 0) (pa_cons (pv 1) pa_nil))) (pa_cons (pe_lst (pa_cons pe_int (pa_cons pe_int (pa_cons pe_int (pa_cons pe_int (pa_cons pe_int (pa_cons pe_int (pa_cons pe_int pa_nil)))))))) pa_nil))))
    (pss_cons (ps_set (i := 3) sc.nd rfl (Or.inl rfl) (pe_lst pa_nil))
    (pss_cons (ps_for hp rfl (pi_range1 (by rfl) B.b_range (pa_cons (pe_ix ix_any (pv 2) pe_int (fun _ _ => rfl)) pa_nil)) (pg_name (i := 4) sc.nd rfl (Or.inl rfl)) (pss_cons (ps_set (i := 5) sc.nd rfl (Or.inl rfl) (pe_callD c_law_digits (hr.mono (by decide)) (by rfl) tk (pa_cons (pe_callD c_law_cell (hr.mono (by decide)) (by rfl) tk (pa_cons (pv 0) (pa_cons (pe_op opA_add (pe_op opA_add (pv 1) pe_int) (pv 4)) pa_nil))) (pa_cons (pe_op opA_add (pe_op opA_add (pe_op opA_add (pe_lst (pa_cons pe_int (pa_cons pe_int (pa_cons pe_int pa_nil)))) (pe_op opA_mul (pe_lst (pa_cons pe_int pa_nil)) pe_int)) (pe_lst (pa_cons pe_int (pa_cons pe_int pa_nil)))) (pe_op opA_mul (pe_lst (pa_cons pe_int pa_nil)) pe_int)) pa_nil))))
    (pss_one (ps_expr (pe_bm PySem.F.plainAttrs_list PySem.F.slot_list_append PySem.F.type_list_append mt_append (pv 3) (pa_cons (pe_callD c_law_string (hr.mono (by decide)) (by rfl) tk (pa_cons (pv 5) (pa_cons (pe_cmpR (op_eqD hr.units) (pe_ix ix_any (pv 2) pe_int (fun _ _ => rfl)) pe_int (nomark _)) pa_nil))) pa_nil))))))
    (pss_cons (ps_if ((pw_and (pt_cmpR op_gt (pe_callB cr_lenA (by rfl) B.b_len (by decide +kernel) (pa_cons (pv 3) pa_nil)) pe_int (nomark _)) (pw_and1 (pt_cmpR op_lt (pe_ix ix_any (pv 2) pe_int (fun _ _ => rfl)) pe_int (nomark _))))).pt (pss_one (ps_asg (pe_ix ix_any (pv 3) (pe_op op_mod (pe_callTy cr_int (by rfl) B.b_int (by decide +kernel) (pa_cons (pe_ix ix_any (pv 2) pe_int (fun _ _ => rfl)) pa_nil)) (pe_callB cr_lenA (by rfl) B.b_len (by decide +kernel) (pa_cons (pv 3) pa_nil))) (fun _ _ => rfl)) (pg_sub (pv 3) (pe_op op_mod (pe_callTy cr_int (by rfl) B.b_int (by decide +kernel) (pa_cons (pe_ix ix_any (pv 2) pe_int (fun _ _ => rfl)) pa_nil)) (pe_callB cr_lenA (by rfl) B.b_len (by decide +kernel) (pa_cons (pv 3) pa_nil))) set_list))) pss_nil)
    (pss_cons (ps_if ((pw_and (pt_cmpR op_gt (pe_callB cr_lenA (by rfl) B.b_len (by decide +kernel) (pa_cons (pv 3) pa_nil)) pe_int (nomark _)) (pw_and1 (pt_cmpR (op_eqD hr.units) (pe_ix ix_any (pv 2) pe_int (fun _ _ => rfl)) pe_int (nomark _))))).pt (pss_one (ps_asg (pe_ix ix_any (pv 3) (pe_op op_mod (pe_callTy cr_int (by rfl) B.b_int (by decide +kernel) (pa_cons (pe_ix ix_any (pv 2) pe_int (fun _ _ => rfl)) pa_nil)) (pe_callB cr_lenA (by rfl) B.b_len (by decide +kernel) (pa_cons (pv 3) pa_nil))) (fun _ _ => rfl)) (pg_sub (pv 3) (pe_op op_mod (pe_callTy cr_int (by rfl) B.b_int (by decide +kernel) (pa_cons (pe_ix ix_any (pv 2) pe_int (fun _ _ => rfl)) pa_nil)) (pe_callB cr_lenA (by rfl) B.b_len (by decide +kernel) (pa_cons (pv 3) pa_nil))) set_list))) pss_nil)
    (pss_cons (ps_if ((pw_and (pt_cmpR op_gt (pe_callB cr_lenA (by rfl) B.b_len (by decide +kernel) (pa_cons (pv 3) pa_nil)) pe_int (nomark _)) (pw_and1 (pt_cmpR (op_eqD hr.units) (pe_ix ix_any (pv 2) pe_int (fun _ _ => rfl)) pe_int (nomark _))))).pt (pss_cons (ps_asg (pe_ix ix_any (pv 3) pe_int (fun _ _ => rfl)) (pg_sub (pv 3) pe_int set_list))
    (pss_one (ps_asg (pe_ix ix_any (pv 3) pe_int (fun _ _ => rfl)) (pg_sub (pv 3) pe_int set_list)))) pss_nil)
    (pss_one (ps_ret (pv 3)))))))))
def t_law_good (K : PySem.W.Frag) (W : WX) : TS :=
  (tSeq (tIfS (tOr (tTest (tOp (rI0 fun i j => .bl (decide (i < j))) (tCB rLenS (tCons (tVar 0) tNil)) (tC (.int 1)))) (tTest (tOp (rI0 fun i j => .bl (decide (j < i))) (tCB rLenS (tCons (tVar 0) tNil)) (tC (.int 10))))) (tRet (tC (.bl false))) tNext)
    (tSeq (tFor (iRng1 (tCons (tCB rLenS (tCons (tVar 0) tNil)) tNil)) (gName 1) (tIfS (tTest (tOp rNotInS (tOp (rIxA K) (tVar 0) (tVar 1)) (tC (.str "abcdefghijklmnopqrstuvwxyz")))) (tIfS (tOr (tTest (tOp (rEqD K) (tVar 1) (tC (.int 0)))) (tTest (tOp rNotInS (tOp (rIxA K) (tVar 0) (tVar 1)) (tC (.str "0123456789"))))) (tRet (tC (.bl false))) tNext) tNext))
    (tRet (tC (.bl true)))))
theorem cal_law_good {P : Program} {w : World} {K : PySem.W.Frag} {mg : Str → Option Value} {base : Heap} (A : FunAt K mg "_law_good" s_law_good P_law_good) (B : Bt K mg)
    (pr : ∀ W ds r, fr_law_good ds r → FnEnd K W (t_law_good K W) (entry N_law_good ds) r) : Cal P w K mg base 1 "_law_good" P_law_good fr_law_good := by
  have sc := sc_law_good
  refine cal_of A sc _ fun f cdv A outer s H E hr => ⟨t_law_good K (wD E), ?_, fun ds r h _ => pr _ ds r h⟩
  have tk : L2N.Takes (cxD P w K mg base N_law_good "_law_good" s_law_good f cdv A outer s H E) (wD E) := L2N.takes_of rfl rfl rfl rfl
  have hp : PassesOwn (model P w) (cxD P w K mg base N_law_good "_law_good" s_law_good f cdv A outer s H E).A (cxD P w K mg base N_law_good "_law_good" s_law_good f cdv A outer s H E).env (cxD P w K mg base N_law_good "_law_good" s_law_good f cdv A outer s H E).xe := passes_of rfl
  exact (pss_cons (ps_if ((pw_or (pt_cmpR op_lt (pe_callB cr_lenS (by rfl) B.b_len (by decide +kernel) (pa_cons (pv 0) pa_nil)) pe_int (nomark _)) (pw_or1 (pt_cmpR op_gt (pe_callB cr_lenS (by rfl) B.b_len (by decide +kernel) (pa_cons (pv 0) pa_nil)) pe_int (nomark _))))).pt (pss_one (ps_ret pe_bl)) pss_nil)
    (pss_cons (ps_for hp rfl (pi_range1 (by rfl) B.b_range (pa_cons (pe_callB cr_lenS (by rfl) B.b_len (by decide +kernel) (pa_cons (pv 0) pa_nil)) pa_nil)) (pg_name (i := 1) sc.nd rfl (Or.inl rfl)) (pss_one (ps_if (pt_cmpR op_notInS (pe_ix ix_any (pv 0) (pv 1) (fun _ _ => rfl)) pe_str (by rfl)) (pss_one (ps_if ((pw_or (pt_cmpR (op_eqD hr.units) (pv 1) pe_int (nomark _)) (pw_or1 (pt_cmpR op_notInS (pe_ix ix_any (pv 0) (pv 1) (fun _ _ => rfl)) pe_str (by rfl))))).pt (pss_one (ps_ret pe_bl)) pss_nil)) pss_nil)))
    (pss_one (ps_ret pe_bl))))
def t_law_kinds (K : PySem.W.Frag) (W : WX) : TS :=
  (tSeq (tAsg (tLst (tCons (tCB (rIsV K) (tCons (tVar 0) (tCons (tC (.ref (He.ga K "NoQuotient"))) tNil))) (tCons (tCB (rIsV K) (tCons (tVar 0) (tCons (tC (.ref (He.ga K "ZeroPolynomial"))) tNil))) (tCons (tCB (rIsV K) (tCons (tVar 0) (tCons (tC (.ref (He.ga K "ZeroSum"))) tNil))) (tCons (tCB (rIsV K) (tCons (tVar 0) (tCons (tC (.ref (He.ga K "NoRows"))) tNil))) tNil))))) (gName 1))
    (tSeq (tAsg (tOp (rAddA K) (tVar 1) (tLst (tCons (tCB (rIsV K) (tCons (tVar 0) (tCons (tC (.ref (He.ga K "BadName"))) tNil))) (tCons (tCB (rIsV K) (tCons (tVar 0) (tCons (tC (.ref (He.ga K "RowTwice"))) tNil))) (tCons (tCB (rIsV K) (tCons (tVar 0) (tCons (tC (.ref (He.ga K "UnknownRow"))) tNil))) (tCons (tCB (rIsV K) (tCons (tVar 0) (tCons (tC (.ref (He.ga K "RowsDiffer"))) tNil))) tNil)))))) (gName 1))
    (tSeq (tAsg (tOp (rAddA K) (tVar 1) (tLst (tCons (tCB (rIsV K) (tCons (tVar 0) (tCons (tC (.ref (He.ga K "SpotTwice"))) tNil))) (tCons (tCB (rIsV K) (tCons (tVar 0) (tCons (tC (.ref (He.ga K "BadStretch"))) tNil))) (tCons (tCB (rIsV K) (tCons (tVar 0) (tCons (tC (.ref (He.ga K "ShortStretch"))) tNil))) tNil))))) (gName 1))
    (tSeq (tAsg (tOp (rAddA K) (tVar 1) (tLst (tCons (tCB (rIsV K) (tCons (tVar 0) (tCons (tC (.ref (He.ga K "TooLong"))) tNil))) (tCons (tCB (rIsV K) (tCons (tVar 0) (tCons (tC (.ref (He.ga K "CannotStand"))) tNil))) (tCons (tCB (rIsV K) (tCons (tVar 0) (tCons (tC (.ref (He.ga K "Broken"))) tNil))) (tCons (tCB (rIsV K) (tCons (tVar 0) (tCons (tC (.ref (He.ga K "NotFinite"))) tNil))) tNil)))))) (gName 1))
    (tSeq (tAsg (tOp (rAddA K) (tVar 1) (tLst (tCons (tCB (rIsV K) (tCons (tVar 0) (tCons (tC (.ref (He.ga K "BadParts"))) tNil))) (tCons (tCB (rIsV K) (tCons (tVar 0) (tCons (tC (.ref (He.ga K "Barred"))) tNil))) (tCons (tCB (rIsV K) (tCons (tVar 0) (tCons (tC (.ref (He.ga K "NotCourse"))) tNil))) tNil))))) (gName 1))
    (tSeq (tAsg (tOp (rAddA K) (tVar 1) (tLst (tCons (tCB (rIsV K) (tCons (tVar 0) (tCons (tC (.ref (He.ga K "BreaksOwnRule"))) tNil))) (tCons (tCB (rIsV K) (tCons (tVar 0) (tCons (tC (.ref (He.ga K "NotBlocked"))) tNil))) (tCons (tCB (rIsV K) (tCons (tVar 0) (tCons (tC (.ref (He.ga K "Unsure"))) tNil))) tNil))))) (gName 1))
    (tSeq (tAsg (tOp (rAddA K) (tVar 1) (tLst (tCons (tCB (rIsV K) (tCons (tVar 0) (tCons (tC (.ref (He.ga K "Contradiction"))) tNil))) (tCons (tCB (rIsV K) (tCons (tVar 0) (tCons (tC (.ref (He.ga K "NotStricter"))) tNil))) (tCons (tCB (rIsV K) (tCons (tVar 0) (tCons (tC (.ref (He.ga K "NoFamilies"))) tNil))) tNil))))) (gName 1))
    (tSeq (tAsg (tOp (rAddA K) (tVar 1) (tLst (tCons (tCB (rIsV K) (tCons (tVar 0) (tCons (tC (.ref (He.ga K "NotLet"))) tNil))) (tCons (tCB (rIsV K) (tCons (tVar 0) (tCons (tC (.ref (He.ga K "NotFree"))) tNil))) (tCons (tCB (rIsV K) (tCons (tVar 0) (tCons (tC (.ref (He.ga K "NotTimely"))) tNil))) tNil))))) (gName 1))
    (tSeq (tAsg (tOp (rAddA K) (tVar 1) (tLst (tCons (tCB (rIsV K) (tCons (tVar 0) (tCons (tC (.ref (He.ga K "NotEntered"))) tNil))) (tCons (tCB (rIsV K) (tCons (tVar 0) (tCons (tC (.ref (He.ga K "NothingToUndo"))) tNil))) (tCons (tCB (rIsV K) (tCons (tVar 0) (tCons (tC (.ref (He.ga K "BadNotation"))) tNil))) tNil))))) (gName 1))
    (tSeq (tIfS (tOr (tNot (tB (tCB (rIsV K) (tCons (tVar 0) (tCons (tC (.ref (He.ga K "RowError"))) tNil))))) (tNot (tB (tCB (rIsV K) (tCons (tVar 0) (tCons (tC (.ty "ValueError")) tNil)))))) (tRet (tC .non)) tNext)
    (tRet (tLc (iRng1 (tCons (tCB (rLenA K) (tCons (tVar 1) tNil)) tNil)) (gName 2) (tB (tOp (rIxA K) (tVar 1) (tVar 2))) (tVar 2) [2]))))))))))))
theorem cal_law_kinds {P : Program} {w : World} {K : PySem.W.Frag} {mg : Str → Option Value} {base : Heap} (A : FunAt K mg "_law_kinds" s_law_kinds P_law_kinds) (B : Bt K mg)
    (pr : ∀ W ds r, (fr_law_kinds K) ds r → FnEnd K W (t_law_kinds K W) (entry N_law_kinds ds) r) : Cal P w K mg base 1 "_law_kinds" P_law_kinds (fr_law_kinds K) := by
  have sc := sc_law_kinds
  refine cal_of A sc _ fun f cdv A outer s H E hr => ⟨t_law_kinds K (wD E), ?_, fun ds r h _ => pr _ ds r h⟩
  have tk : L2N.Takes (cxD P w K mg base N_law_kinds "_law_kinds" s_law_kinds f cdv A outer s H E) (wD E) := L2N.takes_of rfl rfl rfl rfl
  have hp : PassesOwn (model P w) (cxD P w K mg base N_law_kinds "_law_kinds" s_law_kinds f cdv A outer s H E).A (cxD P w K mg base N_law_kinds "_law_kinds" s_law_kinds f cdv A outer s H E).env (cxD P w K mg base N_law_kinds "_law_kinds" s_law_kinds f cdv A outer s H E).xe := passes_of rfl
  exact (pss_cons (ps_set (i := 1) sc.nd rfl (Or.inr rfl) (pe_lst (pa_cons (pe_callB cr_isV (by rfl) B.b_isinstance (by decide +kernel) (pa_cons (pv 0) (pa_cons (pe_glob (v := .ref (He.ga K "NoQuotient")) (by rfl) B.g_NoQuotient rfl) pa_nil))) (pa_cons (pe_callB cr_isV (by rfl) B.b_isinstance (by decide +kernel) (pa_cons (pv 0) (pa_cons (pe_glob (v := .ref (He.ga K "ZeroPolynomial")) (by rfl) B.g_ZeroPolynomial rfl) pa_nil))) (pa_cons (pe_callB cr_isV (by rfl) B.b_isinstance (by decide +kernel) (pa_cons (pv 0) (pa_cons (pe_glob (v := .ref (He.ga K "ZeroSum")) (by rfl) B.g_ZeroSum rfl) pa_nil))) (pa_cons (pe_callB cr_isV (by rfl) B.b_isinstance (by decide +kernel) (pa_cons (pv 0) (pa_cons (pe_glob (v := .ref (He.ga K "NoRows")) (by rfl) B.g_NoRows rfl) pa_nil))) pa_nil))))))
    (pss_cons (ps_set (i := 1) sc.nd rfl (Or.inr rfl) (pe_op opA_add (pv 1) (pe_lst (pa_cons (pe_callB cr_isV (by rfl) B.b_isinstance (by decide +kernel) (pa_cons (pv 0) (pa_cons (pe_glob (v := .ref (He.ga K "BadName")) (by rfl) B.g_BadName rfl) pa_nil))) (pa_cons (pe_callB cr_isV (by rfl) B.b_isinstance (by decide +kernel) (pa_cons (pv 0) (pa_cons (pe_glob (v := .ref (He.ga K "RowTwice")) (by rfl) B.g_RowTwice rfl) pa_nil))) (pa_cons (pe_callB cr_isV (by rfl) B.b_isinstance (by decide +kernel) (pa_cons (pv 0) (pa_cons (pe_glob (v := .ref (He.ga K "UnknownRow")) (by rfl) B.g_UnknownRow rfl) pa_nil))) (pa_cons (pe_callB cr_isV (by rfl) B.b_isinstance (by decide +kernel) (pa_cons (pv 0) (pa_cons (pe_glob (v := .ref (He.ga K "RowsDiffer")) (by rfl) B.g_RowsDiffer rfl) pa_nil))) pa_nil)))))))
    (pss_cons (ps_set (i := 1) sc.nd rfl (Or.inr rfl) (pe_op opA_add (pv 1) (pe_lst (pa_cons (pe_callB cr_isV (by rfl) B.b_isinstance (by decide +kernel) (pa_cons (pv 0) (pa_cons (pe_glob (v := .ref (He.ga K "SpotTwice")) (by rfl) B.g_SpotTwice rfl) pa_nil))) (pa_cons (pe_callB cr_isV (by rfl) B.b_isinstance (by decide +kernel) (pa_cons (pv 0) (pa_cons (pe_glob (v := .ref (He.ga K "BadStretch")) (by rfl) B.g_BadStretch rfl) pa_nil))) (pa_cons (pe_callB cr_isV (by rfl) B.b_isinstance (by decide +kernel) (pa_cons (pv 0) (pa_cons (pe_glob (v := .ref (He.ga K "ShortStretch")) (by rfl) B.g_ShortStretch rfl) pa_nil))) pa_nil))))))
    (pss_cons (ps_set (i := 1) sc.nd rfl (Or.inr rfl) (pe_op opA_add (pv 1) (pe_lst (pa_cons (pe_callB cr_isV (by rfl) B.b_isinstance (by decide +kernel) (pa_cons (pv 0) (pa_cons (pe_glob (v := .ref (He.ga K "TooLong")) (by rfl) B.g_TooLong rfl) pa_nil))) (pa_cons (pe_callB cr_isV (by rfl) B.b_isinstance (by decide +kernel) (pa_cons (pv 0) (pa_cons (pe_glob (v := .ref (He.ga K "CannotStand")) (by rfl) B.g_CannotStand rfl) pa_nil))) (pa_cons (pe_callB cr_isV (by rfl) B.b_isinstance (by decide +kernel) (pa_cons (pv 0) (pa_cons (pe_glob (v := .ref (He.ga K "Broken")) (by rfl) B.g_Broken rfl) pa_nil))) (pa_cons (pe_callB cr_isV (by rfl) B.b_isinstance (by decide +kernel) (pa_cons (pv 0) (pa_cons (pe_glob (v := .ref (He.ga K "NotFinite")) (by rfl) B.g_NotFinite rfl) pa_nil))) pa_nil)))))))
    (pss_cons (ps_set (i := 1) sc.nd rfl (Or.inr rfl) (pe_op opA_add (pv 1) (pe_lst (pa_cons (pe_callB cr_isV (by rfl) B.b_isinstance (by decide +kernel) (pa_cons (pv 0) (pa_cons (pe_glob (v := .ref (He.ga K "BadParts")) (by rfl) B.g_BadParts rfl) pa_nil))) (pa_cons (pe_callB cr_isV (by rfl) B.b_isinstance (by decide +kernel) (pa_cons (pv 0) (pa_cons (pe_glob (v := .ref (He.ga K "Barred")) (by rfl) B.g_Barred rfl) pa_nil))) (pa_cons (pe_callB cr_isV (by rfl) B.b_isinstance (by decide +kernel) (pa_cons (pv 0) (pa_cons (pe_glob (v := .ref (He.ga K "NotCourse")) (by rfl) B.g_NotCourse rfl) pa_nil))) pa_nil))))))
    (pss_cons (ps_set (i := 1) sc.nd rfl (Or.inr rfl) (pe_op opA_add (pv 1) (pe_lst (pa_cons (pe_callB cr_isV (by rfl) B.b_isinstance (by decide +kernel) (pa_cons (pv 0) (pa_cons (pe_glob (v := .ref (He.ga K "BreaksOwnRule")) (by rfl) B.g_BreaksOwnRule rfl) pa_nil))) (pa_cons (pe_callB cr_isV (by rfl) B.b_isinstance (by decide +kernel) (pa_cons (pv 0) (pa_cons (pe_glob (v := .ref (He.ga K "NotBlocked")) (by rfl) B.g_NotBlocked rfl) pa_nil))) (pa_cons (pe_callB cr_isV (by rfl) B.b_isinstance (by decide +kernel) (pa_cons (pv 0) (pa_cons (pe_glob (v := .ref (He.ga K "Unsure")) (by rfl) B.g_Unsure rfl) pa_nil))) pa_nil))))))
    (pss_cons (ps_set (i := 1) sc.nd rfl (Or.inr rfl) (pe_op opA_add (pv 1) (pe_lst (pa_cons (pe_callB cr_isV (by rfl) B.b_isinstance (by decide +kernel) (pa_cons (pv 0) (pa_cons (pe_glob (v := .ref (He.ga K "Contradiction")) (by rfl) B.g_Contradiction rfl) pa_nil))) (pa_cons (pe_callB cr_isV (by rfl) B.b_isinstance (by decide +kernel) (pa_cons (pv 0) (pa_cons (pe_glob (v := .ref (He.ga K "NotStricter")) (by rfl) B.g_NotStricter rfl) pa_nil))) (pa_cons (pe_callB cr_isV (by rfl) B.b_isinstance (by decide +kernel) (pa_cons (pv 0) (pa_cons (pe_glob (v := .ref (He.ga K "NoFamilies")) (by rfl) B.g_NoFamilies rfl) pa_nil))) pa_nil))))))
    (pss_cons (ps_set (i := 1) sc.nd rfl (Or.inr rfl) (pe_op opA_add (pv 1) (pe_lst (pa_cons (pe_callB cr_isV (by rfl) B.b_isinstance (by decide +kernel) (pa_cons (pv 0) (pa_cons (pe_glob (v := .ref (He.ga K "NotLet")) (by rfl) B.g_NotLet rfl) pa_nil))) (pa_cons (pe_callB cr_isV (by rfl) B.b_isinstance (by decide +kernel) (pa_cons (pv 0) (pa_cons (pe_glob (v := .ref (He.ga K "NotFree")) (by rfl) B.g_NotFree rfl) pa_nil))) (pa_cons (pe_callB cr_isV (by rfl) B.b_isinstance (by decide +kernel) (pa_cons (pv 0) (pa_cons (pe_glob (v := .ref (He.ga K "NotTimely")) (by rfl) B.g_NotTimely rfl) pa_nil))) pa_nil))))))
    (pss_cons (ps_set (i := 1) sc.nd rfl (Or.inr rfl) (pe_op opA_add (pv 1) (pe_lst (pa_cons (pe_callB cr_isV (by rfl) B.b_isinstance (by decide +kernel) (pa_cons (pv 0) (pa_cons (pe_glob (v := .ref (He.ga K "NotEntered")) (by rfl) B.g_NotEntered rfl) pa_nil))) (pa_cons (pe_callB cr_isV (by rfl) B.b_isinstance (by decide +kernel) (pa_cons (pv 0) (pa_cons (pe_glob (v := .ref (He.ga K "NothingToUndo")) (by rfl) B.g_NothingToUndo rfl) pa_nil))) (pa_cons (pe_callB cr_isV (by rfl) B.b_isinstance (by decide +kernel) (pa_cons (pv 0) (pa_cons (pe_glob (v := .ref (He.ga K "BadNotation")) (by rfl) B.g_BadNotation rfl) pa_nil))) pa_nil))))))
    (pss_cons (ps_if ((pw_or (pt_not (pt_val (pe_callB cr_isV (by rfl) B.b_isinstance (by decide +kernel) (pa_cons (pv 0) (pa_cons (pe_glob (v := .ref (He.ga K "RowError")) (by rfl) B.g_RowError rfl) pa_nil))))) (pw_or1 (pt_not (pt_val (pe_callB cr_isV (by rfl) B.b_isinstance (by decide +kernel) (pa_cons (pv 0) (pa_cons (pe_bltn (v := .ty "ValueError") (by rfl) B.b_ValueError (by decide +kernel) rfl) pa_nil)))))))).pt (pss_one (ps_ret pe_non)) pss_nil)
    (pss_one (ps_ret (pe_lc (own := [("k", 2)]) (tt := (tB (tOp (rIxA K) (tVar 1) (tVar 2)))) rfl sc.nd (pi_range1 (by rfl) B.b_range (pa_cons (pe_callB cr_lenA (by rfl) B.b_len (by decide +kernel) (pa_cons (pv 1) pa_nil)) pa_nil)) (blkOk_by (N := N_law_kinds) (sc := defScope s_law_kinds) (by decide +kernel)) (fun _ _ _ _ _ => (pg_name (i := 2) sc.nd rfl (Or.inl rfl))) (fun _ _ _ _ _ => (pts_one (pt_val (pe_ix ix_any (pv 1) (pv 2) (fun _ _ => rfl))))) (fun _ _ _ _ _ => (pv 2)))))))))))))))
def t_law_kindsX (K : PySem.W.Frag) (a : Addr) (cls : Value) (d : Option Addr) (W : WX) : TS :=
  (tSeq (tAsg (tLst (tCons (tCB (rIsP K a cls d) (tCons (tVar 0) (tCons (tC (.ref (He.ga K "NoQuotient"))) tNil))) (tCons (tCB (rIsP K a cls d) (tCons (tVar 0) (tCons (tC (.ref (He.ga K "ZeroPolynomial"))) tNil))) (tCons (tCB (rIsP K a cls d) (tCons (tVar 0) (tCons (tC (.ref (He.ga K "ZeroSum"))) tNil))) (tCons (tCB (rIsP K a cls d) (tCons (tVar 0) (tCons (tC (.ref (He.ga K "NoRows"))) tNil))) tNil))))) (gName 1))
    (tSeq (tAsg (tOp (rAddA K) (tVar 1) (tLst (tCons (tCB (rIsP K a cls d) (tCons (tVar 0) (tCons (tC (.ref (He.ga K "BadName"))) tNil))) (tCons (tCB (rIsP K a cls d) (tCons (tVar 0) (tCons (tC (.ref (He.ga K "RowTwice"))) tNil))) (tCons (tCB (rIsP K a cls d) (tCons (tVar 0) (tCons (tC (.ref (He.ga K "UnknownRow"))) tNil))) (tCons (tCB (rIsP K a cls d) (tCons (tVar 0) (tCons (tC (.ref (He.ga K "RowsDiffer"))) tNil))) tNil)))))) (gName 1))
    (tSeq (tAsg (tOp (rAddA K) (tVar 1) (tLst (tCons (tCB (rIsP K a cls d) (tCons (tVar 0) (tCons (tC (.ref (He.ga K "SpotTwice"))) tNil))) (tCons (tCB (rIsP K a cls d) (tCons (tVar 0) (tCons (tC (.ref (He.ga K "BadStretch"))) tNil))) (tCons (tCB (rIsP K a cls d) (tCons (tVar 0) (tCons (tC (.ref (He.ga K "ShortStretch"))) tNil))) tNil))))) (gName 1))
    (tSeq (tAsg (tOp (rAddA K) (tVar 1) (tLst (tCons (tCB (rIsP K a cls d) (tCons (tVar 0) (tCons (tC (.ref (He.ga K "TooLong"))) tNil))) (tCons (tCB (rIsP K a cls d) (tCons (tVar 0) (tCons (tC (.ref (He.ga K "CannotStand"))) tNil))) (tCons (tCB (rIsP K a cls d) (tCons (tVar 0) (tCons (tC (.ref (He.ga K "Broken"))) tNil))) (tCons (tCB (rIsP K a cls d) (tCons (tVar 0) (tCons (tC (.ref (He.ga K "NotFinite"))) tNil))) tNil)))))) (gName 1))
    (tSeq (tAsg (tOp (rAddA K) (tVar 1) (tLst (tCons (tCB (rIsP K a cls d) (tCons (tVar 0) (tCons (tC (.ref (He.ga K "BadParts"))) tNil))) (tCons (tCB (rIsP K a cls d) (tCons (tVar 0) (tCons (tC (.ref (He.ga K "Barred"))) tNil))) (tCons (tCB (rIsP K a cls d) (tCons (tVar 0) (tCons (tC (.ref (He.ga K "NotCourse"))) tNil))) tNil))))) (gName 1))
    (tSeq (tAsg (tOp (rAddA K) (tVar 1) (tLst (tCons (tCB (rIsP K a cls d) (tCons (tVar 0) (tCons (tC (.ref (He.ga K "BreaksOwnRule"))) tNil))) (tCons (tCB (rIsP K a cls d) (tCons (tVar 0) (tCons (tC (.ref (He.ga K "NotBlocked"))) tNil))) (tCons (tCB (rIsP K a cls d) (tCons (tVar 0) (tCons (tC (.ref (He.ga K "Unsure"))) tNil))) tNil))))) (gName 1))
    (tSeq (tAsg (tOp (rAddA K) (tVar 1) (tLst (tCons (tCB (rIsP K a cls d) (tCons (tVar 0) (tCons (tC (.ref (He.ga K "Contradiction"))) tNil))) (tCons (tCB (rIsP K a cls d) (tCons (tVar 0) (tCons (tC (.ref (He.ga K "NotStricter"))) tNil))) (tCons (tCB (rIsP K a cls d) (tCons (tVar 0) (tCons (tC (.ref (He.ga K "NoFamilies"))) tNil))) tNil))))) (gName 1))
    (tSeq (tAsg (tOp (rAddA K) (tVar 1) (tLst (tCons (tCB (rIsP K a cls d) (tCons (tVar 0) (tCons (tC (.ref (He.ga K "NotLet"))) tNil))) (tCons (tCB (rIsP K a cls d) (tCons (tVar 0) (tCons (tC (.ref (He.ga K "NotFree"))) tNil))) (tCons (tCB (rIsP K a cls d) (tCons (tVar 0) (tCons (tC (.ref (He.ga K "NotTimely"))) tNil))) tNil))))) (gName 1))
    (tSeq (tAsg (tOp (rAddA K) (tVar 1) (tLst (tCons (tCB (rIsP K a cls d) (tCons (tVar 0) (tCons (tC (.ref (He.ga K "NotEntered"))) tNil))) (tCons (tCB (rIsP K a cls d) (tCons (tVar 0) (tCons (tC (.ref (He.ga K "NothingToUndo"))) tNil))) (tCons (tCB (rIsP K a cls d) (tCons (tVar 0) (tCons (tC (.ref (He.ga K "BadNotation"))) tNil))) tNil))))) (gName 1))
    (tSeq (tIfS (tOr (tNot (tB (tCB (rIsP K a cls d) (tCons (tVar 0) (tCons (tC (.ref (He.ga K "RowError"))) tNil))))) (tNot (tB (tCB (rIsP K a cls d) (tCons (tVar 0) (tCons (tC (.ty "ValueError")) tNil)))))) (tRet (tC .non)) tNext)
    (tRet (tLc (iRng1 (tCons (tCB (rLenA K) (tCons (tVar 1) tNil)) tNil)) (gName 2) (tB (tOp (rIxA K) (tVar 1) (tVar 2))) (tVar 2) [2]))))))))))))
theorem cal_law_kindsX {P : Program} {w : World} {K : PySem.W.Frag} {mg : Str → Option Value} {base : Heap} (A : FunAt K mg "_law_kinds" s_law_kinds P_law_kinds) (B : Bt K mg)
    (pr : ∀ W a d C ds r, (fr_law_kindsX K) a d C ds r → FnEnd K W (t_law_kindsX K a (.ref C) d W) (entry N_law_kinds ds) r) : CalZ P w K mg base 1 "_law_kinds" P_law_kinds (fr_law_kindsX K) := by
  have sc := sc_law_kinds
  refine calZ_of A sc _ fun f cdv A outer s H E p hot hr hf => ⟨t_law_kindsX K p.1 p.2.cls p.2.dict (wD E), ?_, fun C h1 ds r h _ => by rw [h1]; exact pr _ _ _ _ ds r h⟩
  obtain ⟨a, oe⟩ := p
  have tk : L2N.Takes (L2H.cxH (L2N.CX P w) P w K mg base N_law_kinds "_law_kinds" (defScope s_law_kinds) f cdv A outer s H E (a, oe)) W0 := takesN
  exact (pss_cons (ps_set (i := 1) sc.nd rfl (Or.inr rfl) (pe_lst (pa_cons (pe_callB (cr_isP (List.mem_cons_self) ⟨rfl, rfl⟩ hf) (by rfl) B.b_isinstance (by decide +kernel) (pa_cons (pv 0) (pa_cons (pe_glob (v := .ref (He.ga K "NoQuotient")) (by rfl) B.g_NoQuotient rfl) pa_nil))) (pa_cons (pe_callB (cr_isP (List.mem_cons_self) ⟨rfl, rfl⟩ hf) (by rfl) B.b_isinstance (by decide +kernel) (pa_cons (pv 0) (pa_cons (pe_glob (v := .ref (He.ga K "ZeroPolynomial")) (by rfl) B.g_ZeroPolynomial rfl) pa_nil))) (pa_cons (pe_callB (cr_isP (List.mem_cons_self) ⟨rfl, rfl⟩ hf) (by rfl) B.b_isinstance (by decide +kernel) (pa_cons (pv 0) (pa_cons (pe_glob (v := .ref (He.ga K "ZeroSum")) (by rfl) B.g_ZeroSum rfl) pa_nil))) (pa_cons (pe_callB (cr_isP (List.mem_cons_self) ⟨rfl, rfl⟩ hf) (by rfl) B.b_isinstance (by decide +kernel) (pa_cons (pv 0) (pa_cons (pe_glob (v := .ref (He.ga K "NoRows")) (by rfl) B.g_NoRows rfl) pa_nil))) pa_nil))))))
    (pss_cons (ps_set (i := 1) sc.nd rfl (Or.inr rfl) (pe_op opA_add (pv 1) (pe_lst (pa_cons (pe_callB (cr_isP (List.mem_cons_self) ⟨rfl, rfl⟩ hf) (by rfl) B.b_isinstance (by decide +kernel) (pa_cons (pv 0) (pa_cons (pe_glob (v := .ref (He.ga K "BadName")) (by rfl) B.g_BadName rfl) pa_nil))) (pa_cons (pe_callB (cr_isP (List.mem_cons_self) ⟨rfl, rfl⟩ hf) (by rfl) B.b_isinstance (by decide +kernel) (pa_cons (pv 0) (pa_cons (pe_glob (v := .ref (He.ga K "RowTwice")) (by rfl) B.g_RowTwice rfl) pa_nil))) (pa_cons (pe_callB (cr_isP (List.mem_cons_self) ⟨rfl, rfl⟩ hf) (by rfl) B.b_isinstance (by decide +kernel) (pa_cons (pv 0) (pa_cons (pe_glob (v := .ref (He.ga K "UnknownRow")) (by rfl) B.g_UnknownRow rfl) pa_nil))) (pa_cons (pe_callB (cr_isP (List.mem_cons_self) ⟨rfl, rfl⟩ hf) (by rfl) B.b_isinstance (by decide +kernel) (pa_cons (pv 0) (pa_cons (pe_glob (v := .ref (He.ga K "RowsDiffer")) (by rfl) B.g_RowsDiffer rfl) pa_nil))) pa_nil)))))))
    (pss_cons (ps_set (i := 1) sc.nd rfl (Or.inr rfl) (pe_op opA_add (pv 1) (pe_lst (pa_cons (pe_callB (cr_isP (List.mem_cons_self) ⟨rfl, rfl⟩ hf) (by rfl) B.b_isinstance (by decide +kernel) (pa_cons (pv 0) (pa_cons (pe_glob (v := .ref (He.ga K "SpotTwice")) (by rfl) B.g_SpotTwice rfl) pa_nil))) (pa_cons (pe_callB (cr_isP (List.mem_cons_self) ⟨rfl, rfl⟩ hf) (by rfl) B.b_isinstance (by decide +kernel) (pa_cons (pv 0) (pa_cons (pe_glob (v := .ref (He.ga K "BadStretch")) (by rfl) B.g_BadStretch rfl) pa_nil))) (pa_cons (pe_callB (cr_isP (List.mem_cons_self) ⟨rfl, rfl⟩ hf) (by rfl) B.b_isinstance (by decide +kernel) (pa_cons (pv 0) (pa_cons (pe_glob (v := .ref (He.ga K "ShortStretch")) (by rfl) B.g_ShortStretch rfl) pa_nil))) pa_nil))))))
    (pss_cons (ps_set (i := 1) sc.nd rfl (Or.inr rfl) (pe_op opA_add (pv 1) (pe_lst (pa_cons (pe_callB (cr_isP (List.mem_cons_self) ⟨rfl, rfl⟩ hf) (by rfl) B.b_isinstance (by decide +kernel) (pa_cons (pv 0) (pa_cons (pe_glob (v := .ref (He.ga K "TooLong")) (by rfl) B.g_TooLong rfl) pa_nil))) (pa_cons (pe_callB (cr_isP (List.mem_cons_self) ⟨rfl, rfl⟩ hf) (by rfl) B.b_isinstance (by decide +kernel) (pa_cons (pv 0) (pa_cons (pe_glob (v := .ref (He.ga K "CannotStand")) (by rfl) B.g_CannotStand rfl) pa_nil))) (pa_cons (pe_callB (cr_isP (List.mem_cons_self) ⟨rfl, rfl⟩ hf) (by rfl) B.b_isinstance (by decide +kernel) (pa_cons (pv 0) (pa_cons (pe_glob (v := .ref (He.ga K "Broken")) (by rfl) B.g_Broken rfl) pa_nil))) (pa_cons (pe_callB (cr_isP (List.mem_cons_self) ⟨rfl, rfl⟩ hf) (by rfl) B.b_isinstance (by decide +kernel) (pa_cons (pv 0) (pa_cons (pe_glob (v := .ref (He.ga K "NotFinite")) (by rfl) B.g_NotFinite rfl) pa_nil))) pa_nil)))))))
    (pss_cons (ps_set (i := 1) sc.nd rfl (Or.inr rfl) (pe_op opA_add (pv 1) (pe_lst (pa_cons (pe_callB (cr_isP (List.mem_cons_self) ⟨rfl, rfl⟩ hf) (by rfl) B.b_isinstance (by decide +kernel) (pa_cons (pv 0) (pa_cons (pe_glob (v := .ref (He.ga K "BadParts")) (by rfl) B.g_BadParts rfl) pa_nil))) (pa_cons (pe_callB (cr_isP (List.mem_cons_self) ⟨rfl, rfl⟩ hf) (by rfl) B.b_isinstance (by decide +kernel) (pa_cons (pv 0) (pa_cons (pe_glob (v := .ref (He.ga K "Barred")) (by rfl) B.g_Barred rfl) pa_nil))) (pa_cons (pe_callB (cr_isP (List.mem_cons_self) ⟨rfl, rfl⟩ hf) (by rfl) B.b_isinstance (by decide +kernel) (pa_cons (pv 0) (pa_cons (pe_glob (v := .ref (He.ga K "NotCourse")) (by rfl) B.g_NotCourse rfl) pa_nil))) pa_nil))))))
    (pss_cons (ps_set (i := 1) sc.nd rfl (Or.inr rfl) (pe_op opA_add (pv 1) (pe_lst (pa_cons (pe_callB (cr_isP (List.mem_cons_self) ⟨rfl, rfl⟩ hf) (by rfl) B.b_isinstance (by decide +kernel) (pa_cons (pv 0) (pa_cons (pe_glob (v := .ref (He.ga K "BreaksOwnRule")) (by rfl) B.g_BreaksOwnRule rfl) pa_nil))) (pa_cons (pe_callB (cr_isP (List.mem_cons_self) ⟨rfl, rfl⟩ hf) (by rfl) B.b_isinstance (by decide +kernel) (pa_cons (pv 0) (pa_cons (pe_glob (v := .ref (He.ga K "NotBlocked")) (by rfl) B.g_NotBlocked rfl) pa_nil))) (pa_cons (pe_callB (cr_isP (List.mem_cons_self) ⟨rfl, rfl⟩ hf) (by rfl) B.b_isinstance (by decide +kernel) (pa_cons (pv 0) (pa_cons (pe_glob (v := .ref (He.ga K "Unsure")) (by rfl) B.g_Unsure rfl) pa_nil))) pa_nil))))))
    (pss_cons (ps_set (i := 1) sc.nd rfl (Or.inr rfl) (pe_op opA_add (pv 1) (pe_lst (pa_cons (pe_callB (cr_isP (List.mem_cons_self) ⟨rfl, rfl⟩ hf) (by rfl) B.b_isinstance (by decide +kernel) (pa_cons (pv 0) (pa_cons (pe_glob (v := .ref (He.ga K "Contradiction")) (by rfl) B.g_Contradiction rfl) pa_nil))) (pa_cons (pe_callB (cr_isP (List.mem_cons_self) ⟨rfl, rfl⟩ hf) (by rfl) B.b_isinstance (by decide +kernel) (pa_cons (pv 0) (pa_cons (pe_glob (v := .ref (He.ga K "NotStricter")) (by rfl) B.g_NotStricter rfl) pa_nil))) (pa_cons (pe_callB (cr_isP (List.mem_cons_self) ⟨rfl, rfl⟩ hf) (by rfl) B.b_isinstance (by decide +kernel) (pa_cons (pv 0) (pa_cons (pe_glob (v := .ref (He.ga K "NoFamilies")) (by rfl) B.g_NoFamilies rfl) pa_nil))) pa_nil))))))
    (pss_cons (ps_set (i := 1) sc.nd rfl (Or.inr rfl) (pe_op opA_add (pv 1) (pe_lst (pa_cons (pe_callB (cr_isP (List.mem_cons_self) ⟨rfl, rfl⟩ hf) (by rfl) B.b_isinstance (by decide +kernel) (pa_cons (pv 0) (pa_cons (pe_glob (v := .ref (He.ga K "NotLet")) (by rfl) B.g_NotLet rfl) pa_nil))) (pa_cons (pe_callB (cr_isP (List.mem_cons_self) ⟨rfl, rfl⟩ hf) (by rfl) B.b_isinstance (by decide +kernel) (pa_cons (pv 0) (pa_cons (pe_glob (v := .ref (He.ga K "NotFree")) (by rfl) B.g_NotFree rfl) pa_nil))) (pa_cons (pe_callB (cr_isP (List.mem_cons_self) ⟨rfl, rfl⟩ hf) (by rfl) B.b_isinstance (by decide +kernel) (pa_cons (pv 0) (pa_cons (pe_glob (v := .ref (He.ga K "NotTimely")) (by rfl) B.g_NotTimely rfl) pa_nil))) pa_nil))))))
    (pss_cons (ps_set (i := 1) sc.nd rfl (Or.inr rfl) (pe_op opA_add (pv 1) (pe_lst (pa_cons (pe_callB (cr_isP (List.mem_cons_self) ⟨rfl, rfl⟩ hf) (by rfl) B.b_isinstance (by decide +kernel) (pa_cons (pv 0) (pa_cons (pe_glob (v := .ref (He.ga K "NotEntered")) (by rfl) B.g_NotEntered rfl) pa_nil))) (pa_cons (pe_callB (cr_isP (List.mem_cons_self) ⟨rfl, rfl⟩ hf) (by rfl) B.b_isinstance (by decide +kernel) (pa_cons (pv 0) (pa_cons (pe_glob (v := .ref (He.ga K "NothingToUndo")) (by rfl) B.g_NothingToUndo rfl) pa_nil))) (pa_cons (pe_callB (cr_isP (List.mem_cons_self) ⟨rfl, rfl⟩ hf) (by rfl) B.b_isinstance (by decide +kernel) (pa_cons (pv 0) (pa_cons (pe_glob (v := .ref (He.ga K "BadNotation")) (by rfl) B.g_BadNotation rfl) pa_nil))) pa_nil))))))
    (pss_cons (ps_if ((pw_or (pt_not (pt_val (pe_callB (cr_isP (List.mem_cons_self) ⟨rfl, rfl⟩ hf) (by rfl) B.b_isinstance (by decide +kernel) (pa_cons (pv 0) (pa_cons (pe_glob (v := .ref (He.ga K "RowError")) (by rfl) B.g_RowError rfl) pa_nil))))) (pw_or1 (pt_not (pt_val (pe_callB (cr_isP (List.mem_cons_self) ⟨rfl, rfl⟩ hf) (by rfl) B.b_isinstance (by decide +kernel) (pa_cons (pv 0) (pa_cons (pe_bltn (v := .ty "ValueError") (by rfl) B.b_ValueError (by decide +kernel) rfl) pa_nil)))))))).pt (pss_one (ps_ret pe_non)) pss_nil)
    (pss_one (ps_ret (pe_lcH (own := [("k", 2)]) (tt := (tB (tOp (rIxA K) (tVar 1) (tVar 2)))) (p := (a, oe)) ⟨hot.1, hot.2⟩ (List.mem_cons_self) sc.nd (L2H.pi_range1H (by rfl) B.b_range (pa_cons (pe_callB cr_lenA (by rfl) B.b_len (by decide +kernel) (pa_cons (pv 1) pa_nil)) pa_nil)) (blkOk_by (N := N_law_kinds) (sc := defScope s_law_kinds) (by decide +kernel)) (fun _ _ _ _ _ => (pg_name (i := 2) sc.nd rfl (Or.inl rfl))) (fun _ _ _ _ _ => (pts_one (pt_val (pe_ix ix_any (pv 1) (pv 2) (fun _ _ => rfl))))) (fun _ _ _ _ _ => (pv 2)))))))))))))))
def t_law_due (K : PySem.W.Frag) (W : WX) : TS :=
  (tSeq (tIfS (tTest (tOp (rEqD K) (tCB (rLenA K) (tCons (tVar 0) tNil)) (tC (.int 0)))) (tRet (tLst (tCons (tLst (tCons (tC (.int 3)) tNil)) (tCons (tC .non) tNil)))) tNext)
    (tSeq (tFor (iSeq K (tVar 0)) (gName 1) (tIfS (tNot (tB (tCallS (SpF K P_law_good.length fr_law_good) (WE W) (tCons (tVar 1) tNil)))) (tRet (tLst (tCons (tLst (tCons (tC (.int 4)) tNil)) (tCons (tVar 1) tNil)))) tNext))
    (tSeq (tFor (iRng1 (tCons (tCB (rLenA K) (tCons (tVar 0) tNil)) tNil)) (gName 2) (tIfS (tTest (tOp (rIn K false) (tOp (rIxA K) (tVar 0) (tVar 2)) (tSl (rSlAny K) (tVar 0) tNoPart (tPart (tVar 2))))) (tRet (tLst (tCons (tLst (tCons (tC (.int 5)) tNil)) (tCons (tOp (rIxA K) (tVar 0) (tVar 2)) tNil)))) tNext))
    (tRet (tLst (tCons (tLst tNil) (tCons (tCB (rTupC K) (tCons (tCB (rSortS K) (tCons (tVar 0) tNil)) tNil)) tNil)))))))
theorem cal_law_due {P : Program} {w : World} {K : PySem.W.Frag} {mg : Str → Option Value} {base : Heap} (A : FunAt K mg "_law_due" s_law_due P_law_due) (B : Bt K mg) (c_law_good : Cal P w K mg base 1 "_law_good" P_law_good fr_law_good)
    (pr : ∀ W ds r, fr_law_due ds r → FnEnd K W (t_law_due K W) (entry N_law_due ds) r) : Cal P w K mg base 2 "_law_due" P_law_due fr_law_due := by
  have sc := sc_law_due
  refine cal_of A sc _ fun f cdv A outer s H E hr => ⟨t_law_due K (wD E), ?_, fun ds r h _ => pr _ ds r h⟩
  have tk : L2N.Takes (cxD P w K mg base N_law_due "_law_due" s_law_due f cdv A outer s H E) (wD E) := L2N.takes_of rfl rfl rfl rfl
  have hp : PassesOwn (model P w) (cxD P w K mg base N_law_due "_law_due" s_law_due f cdv A outer s H E).A (cxD P w K mg base N_law_due "_law_due" s_law_due f cdv A outer s H E).env (cxD P w K mg base N_law_due "_law_due" s_law_due f cdv A outer s H E).xe := passes_of rfl
  exact (pss_cons (ps_if (pt_cmpR (op_eqD hr.units) (pe_callB cr_lenA (by rfl) B.b_len (by decide +kernel) (pa_cons (pv 0) pa_nil)) pe_int (nomark _)) (pss_one (ps_ret (pe_lst (pa_cons (pe_lst (pa_cons pe_int pa_nil)) (pa_cons pe_non pa_nil))))) pss_nil)
    (pss_cons (ps_for hp rfl (pi_seq (pv 0)) (pg_name (i := 1) sc.nd rfl (Or.inl rfl)) (pss_one (ps_if (pt_not (pt_val (pe_callD c_law_good (hr.mono (by decide)) (by rfl) tk (pa_cons (pv 1) pa_nil)))) (pss_one (ps_ret (pe_lst (pa_cons (pe_lst (pa_cons pe_int pa_nil)) (pa_cons (pv 1) pa_nil))))) pss_nil)))
    (pss_cons (ps_for hp rfl (pi_range1 (by rfl) B.b_range (pa_cons (pe_callB cr_lenA (by rfl) B.b_len (by decide +kernel) (pa_cons (pv 0) pa_nil)) pa_nil)) (pg_name (i := 2) sc.nd rfl (Or.inl rfl)) (pss_one (ps_if (pt_cmpR op_in_seq (pe_ix ix_any (pv 0) (pv 2) (fun _ _ => rfl)) (pe_slice sl_any (pv 0) po_none (po_some (pv 2))) (by rfl)) (pss_one (ps_ret (pe_lst (pa_cons (pe_lst (pa_cons pe_int pa_nil)) (pa_cons (pe_ix ix_any (pv 0) (pv 2) (fun _ _ => rfl)) pa_nil))))) pss_nil)))
    (pss_one (ps_ret (pe_lst (pa_cons (pe_lst pa_nil) (pa_cons (pe_callTy call_tuple_of (by rfl) B.b_tuple (by decide +kernel) (pa_cons (pe_callB (cr_sortS hr.units) (by rfl) B.b_sorted (by decide +kernel) (pa_cons (pv 0) pa_nil)) pa_nil)) pa_nil))))))))
def t_law_asked (K : PySem.W.Frag) (W : WX) : TS :=
  (tTryMany K [((.ref (He.ga K "NoRows")), 1, fun a4 cls4 d4 => (tRet (tLst (tCons (tCallS (SpZ K P_law_kinds.length (fr_law_kindsX K) a4 cls4 d4) (WE W0) (tCons (tVar 1) tNil)) (tCons (tC .non) tNil))))), ((.ref (He.ga K "BadName")), 1, fun a3 cls3 d3 => (tRet (tLst (tCons (tCallS (SpZ K P_law_kinds.length (fr_law_kindsX K) a3 cls3 d3) (WE W0) (tCons (tVar 1) tNil)) (tCons (tXf a3 cls3 d3 (He.ga K "BadName") "name" (tVar 1)) tNil))))), ((.ref (He.ga K "RowTwice")), 1, fun a2 cls2 d2 => (tRet (tLst (tCons (tCallS (SpZ K P_law_kinds.length (fr_law_kindsX K) a2 cls2 d2) (WE W0) (tCons (tVar 1) tNil)) (tCons (tXf a2 cls2 d2 (He.ga K "RowTwice") "name" (tVar 1)) tNil)))))] (fun W1 => (tRet (tLst (tCons (tLst tNil) (tCons (tCallS (SpF K Prow_set.length (frrow_set K)) (WE W1) (tCons (tVar 0) tNil)) tNil))))) W)
theorem cal_law_asked {P : Program} {w : World} {K : PySem.W.Frag} {mg : Str → Option Value} {base : Heap} (A : FunAt K mg "_law_asked" s_law_asked P_law_asked) (B : Bt K mg) (crow_set : Cal P w K mg base 4 "row_set" Prow_set (frrow_set K)) (c_law_kindsX : CalZ P w K mg base 1 "_law_kinds" P_law_kinds (fr_law_kindsX K))
    (pr : ∀ W ds r, fr_law_asked ds r → FnEnd K W (t_law_asked K W) (entry N_law_asked ds) r) : Cal P w K mg base 5 "_law_asked" P_law_asked fr_law_asked := by
  have sc := sc_law_asked
  refine cal_of A sc _ fun f cdv A outer s H E hr => ⟨t_law_asked K (wD E), ?_, fun ds r h _ => pr _ ds r h⟩
  have tk : L2N.Takes (cxD P w K mg base N_law_asked "_law_asked" s_law_asked f cdv A outer s H E) (wD E) := L2N.takes_of rfl rfl rfl rfl
  have hp : PassesOwn (model P w) (cxD P w K mg base N_law_asked "_law_asked" s_law_asked f cdv A outer s H E).A (cxD P w K mg base N_law_asked "_law_asked" s_law_asked f cdv A outer s H E).env (cxD P w K mg base N_law_asked "_law_asked" s_law_asked f cdv A outer s H E).xe := passes_of rfl
  exact (pss_one (ps_tryMany rfl rfl sc.nd tk (fun W1 pn1 xe1 tk1 hp1 => (pss_one (ps_ret (pe_lst (pa_cons (pe_lst pa_nil) (pa_cons (pe_callD crow_set (hr.mono (by decide)) (by rfl) tk1 (pa_cons (pv 0) pa_nil)) pa_nil)))))) (.cons (i := 1) rfl rfl ⟨by rfl, by decide, .inl B.g_NoRows⟩ (fun a4 oe4 cls4 d4 pn4 hz4 hf4 => (pss_one (ps_ret (pe_lst (pa_cons (pe_callZ c_law_kindsX (L2H.roomH_mark (hr.mono (by decide)) _) rfl (List.mem_cons_self) hz4 hf4 (by rfl) takesN (pa_cons (pv 1) pa_nil)) (pa_cons pe_non pa_nil)))))) (.cons (i := 1) rfl rfl ⟨by rfl, by decide, .inl B.g_BadName⟩ (fun a3 oe3 cls3 d3 pn3 hz3 hf3 => (pss_one (ps_ret (pe_lst (pa_cons (pe_callZ c_law_kindsX (L2H.roomH_mark (hr.mono (by decide)) _) rfl (List.mem_cons_self) hz3 hf3 (by rfl) takesN (pa_cons (pv 1) pa_nil)) (pa_cons (pe_xf (C := He.ga K "BadName") B.x_BadName B.n_BadName_name hz3.zc hf3 (pv 1)) pa_nil)))))) (.cons (i := 1) rfl rfl ⟨by rfl, by decide, .inl B.g_RowTwice⟩ (fun a2 oe2 cls2 d2 pn2 hz2 hf2 => (pss_one (ps_ret (pe_lst (pa_cons (pe_callZ c_law_kindsX (L2H.roomH_mark (hr.mono (by decide)) _) rfl (List.mem_cons_self) hz2 hf2 (by rfl) takesN (pa_cons (pv 1) pa_nil)) (pa_cons (pe_xf (C := He.ga K "RowTwice") B.x_RowTwice B.n_RowTwice_name hz2.zc hf2 (pv 1)) pa_nil)))))) .nil)))))
def t_law_caught (K : PySem.W.Frag) (W : WX) : TS :=
  (tSeq (tTryMany K [((.ref (He.ga K "RowError")), 1, fun a2 cls2 d2 => (tRet (tCallS (SpZ K P_law_kinds.length (fr_law_kindsX K) a2 cls2 d2) (WE W0) (tCons (tVar 1) tNil))))] (fun W1 => (tDrop (tCallS (SpF K Prow_set.length (frrow_set K)) (WE W1) (tCons (tVar 0) tNil)))) W)
    (tRet (tLst tNil)))
theorem cal_law_caught {P : Program} {w : World} {K : PySem.W.Frag} {mg : Str → Option Value} {base : Heap} (A : FunAt K mg "_law_caught" s_law_caught P_law_caught) (B : Bt K mg) (crow_set : Cal P w K mg base 4 "row_set" Prow_set (frrow_set K)) (c_law_kindsX : CalZ P w K mg base 1 "_law_kinds" P_law_kinds (fr_law_kindsX K))
    (pr : ∀ W ds r, fr_law_caught ds r → FnEnd K W (t_law_caught K W) (entry N_law_caught ds) r) : Cal P w K mg base 5 "_law_caught" P_law_caught fr_law_caught := by
  have sc := sc_law_caught
  refine cal_of A sc _ fun f cdv A outer s H E hr => ⟨t_law_caught K (wD E), ?_, fun ds r h _ => pr _ ds r h⟩
  have tk : L2N.Takes (cxD P w K mg base N_law_caught "_law_caught" s_law_caught f cdv A outer s H E) (wD E) := L2N.takes_of rfl rfl rfl rfl
  have hp : PassesOwn (model P w) (cxD P w K mg base N_law_caught "_law_caught" s_law_caught f cdv A outer s H E).A (cxD P w K mg base N_law_caught "_law_caught" s_law_caught f cdv A outer s H E).env (cxD P w K mg base N_law_caught "_law_caught" s_law_caught f cdv A outer s H E).xe := passes_of rfl
  exact (pss_cons (ps_tryMany rfl rfl sc.nd tk (fun W1 pn1 xe1 tk1 hp1 => (pss_one (ps_expr (pe_callD crow_set (hr.mono (by decide)) (by rfl) tk1 (pa_cons (pv 0) pa_nil))))) (.cons (i := 1) rfl rfl ⟨by rfl, by decide, .inl B.g_RowError⟩ (fun a2 oe2 cls2 d2 pn2 hz2 hf2 => (pss_one (ps_ret (pe_callZ c_law_kindsX (L2H.roomH_mark (hr.mono (by decide)) _) rfl (List.mem_cons_self) hz2 hf2 (by rfl) takesN (pa_cons (pv 1) pa_nil))))) .nil))
    (pss_one (ps_ret (pe_lst pa_nil))))
def t_law_equal (K : PySem.W.Frag) (frS : List D → Res → Prop) (W : WX) : TS :=
  (tSeq (tIfS (tB (tCB (rIsiT K) (tCons (tVar 1) (tCons (tTup (tCons (tC (.ty "list")) (tCons (tC (.ty "tuple")) tNil))) tNil)))) (tSeq (tIfS (tOr (tTest (tOp (rNeD K) (tCB (rIsi K) (tCons (tVar 0) (tCons (tC (.ty "list")) tNil))) (tCB (rIsi K) (tCons (tVar 1) (tCons (tC (.ty "list")) tNil))))) (tTest (tOp (rNeD K) (tCB (rIsi K) (tCons (tVar 0) (tCons (tC (.ty "tuple")) tNil))) (tCB (rIsi K) (tCons (tVar 1) (tCons (tC (.ty "tuple")) tNil)))))) (tRet (tC (.bl false))) tNext)
    (tSeq (tIfS (tTest (tOp (rNeD K) (tCB (rLenA K) (tCons (tVar 0) tNil)) (tCB (rLenA K) (tCons (tVar 1) tNil)))) (tRet (tC (.bl false))) tNext)
    (tSeq (tFor (iRng1 (tCons (tCB (rLenA K) (tCons (tVar 1) tNil)) tNil)) (gName 2) (tIfS (tNot (tB (tCallS (SpF K P_law_equal.length frS) (WE W) (tCons (tOp (rIxA K) (tVar 0) (tVar 2)) (tCons (tOp (rIxA K) (tVar 1) (tVar 2)) tNil))))) (tRet (tC (.bl false))) tNext))
    (tRet (tC (.bl true)))))) tNext)
    (tSeq (tIfS (tTest (tOp rIsN (tVar 1) (tC .non))) (tRet (tOp rIsN (tVar 0) (tC .non))) tNext)
    (tSeq (tIfS (tB (tCB (rIsi K) (tCons (tVar 1) (tCons (tC (.ty "str")) tNil)))) (tRet (tAndV (tCB (rIsi K) (tCons (tVar 0) (tCons (tC (.ty "str")) tNil))) (tOp (rEqD K) (tVar 0) (tVar 1)))) tNext)
    (tRet (tAndV (tCB (rIsi K) (tCons (tVar 0) (tCons (tC (.ty "int")) tNil))) (tAndV (tNotV (tCB (rIsi K) (tCons (tVar 0) (tCons (tC (.ty "bool")) tNil)))) (tOp (rEqD K) (tVar 0) (tVar 1))))))))
theorem cal_law_equal {P : Program} {w : World} {K : PySem.W.Frag} {mg : Str → Option Value} {base : Heap} {k : Nat} {frS frT : List D → Res → Prop} (A : FunAt K mg "_law_equal" s_law_equal P_law_equal) (B : Bt K mg) (c_law_equal : Cal P w K mg base k "_law_equal" P_law_equal frS)
    (pr : ∀ W ds r, frT ds r → FnEnd K W (t_law_equal K frS W) (entry N_law_equal ds) r) : Cal P w K mg base (k + 1) "_law_equal" P_law_equal frT := by
  have sc := sc_law_equal
  refine cal_of A sc _ fun f cdv A outer s H E hr => ⟨t_law_equal K frS (wD E), ?_, fun ds r h _ => pr _ ds r h⟩
  have tk : L2N.Takes (cxD P w K mg base N_law_equal "_law_equal" s_law_equal f cdv A outer s H E) (wD E) := L2N.takes_of rfl rfl rfl rfl
  have hp : PassesOwn (model P w) (cxD P w K mg base N_law_equal "_law_equal" s_law_equal f cdv A outer s H E).A (cxD P w K mg base N_law_equal "_law_equal" s_law_equal f cdv A outer s H E).env (cxD P w K mg base N_law_equal "_law_equal" s_law_equal f cdv A outer s H E).xe := passes_of rfl
  exact (pss_cons (ps_if (pt_val (pe_callB call_isiT (by rfl) B.b_isinstance (by decide +kernel) (pa_cons (pv 1) (pa_cons (pe_tup (pa_cons (pe_bltn (v := .ty "list") (by rfl) B.b_list (by decide +kernel) rfl) (pa_cons (pe_bltn (v := .ty "tuple") (by rfl) B.b_tuple (by decide +kernel) rfl) pa_nil))) pa_nil)))) (pss_cons (ps_if ((pw_or (pt_cmpR (op_neD hr.units) (pe_callB call_isi (by rfl) B.b_isinstance (by decide +kernel) (pa_cons (pv 0) (pa_cons (pe_bltn (v := .ty "list") (by rfl) B.b_list (by decide +kernel) rfl) pa_nil))) (pe_callB call_isi (by rfl) B.b_isinstance (by decide +kernel) (pa_cons (pv 1) (pa_cons (pe_bltn (v := .ty "list") (by rfl) B.b_list (by decide +kernel) rfl) pa_nil))) (nomark _)) (pw_or1 (pt_cmpR (op_neD hr.units) (pe_callB call_isi (by rfl) B.b_isinstance (by decide +kernel) (pa_cons (pv 0) (pa_cons (pe_bltn (v := .ty "tuple") (by rfl) B.b_tuple (by decide +kernel) rfl) pa_nil))) (pe_callB call_isi (by rfl) B.b_isinstance (by decide +kernel) (pa_cons (pv 1) (pa_cons (pe_bltn (v := .ty "tuple") (by rfl) B.b_tuple (by decide +kernel) rfl) pa_nil))) (nomark _))))).pt (pss_one (ps_ret pe_bl)) pss_nil)
    (pss_cons (ps_if (pt_cmpR (op_neD hr.units) (pe_callB cr_lenA (by rfl) B.b_len (by decide +kernel) (pa_cons (pv 0) pa_nil)) (pe_callB cr_lenA (by rfl) B.b_len (by decide +kernel) (pa_cons (pv 1) pa_nil)) (nomark _)) (pss_one (ps_ret pe_bl)) pss_nil)
    (pss_cons (ps_for hp rfl (pi_range1 (by rfl) B.b_range (pa_cons (pe_callB cr_lenA (by rfl) B.b_len (by decide +kernel) (pa_cons (pv 1) pa_nil)) pa_nil)) (pg_name (i := 2) sc.nd rfl (Or.inl rfl)) (pss_one (ps_if (pt_not (pt_val (pe_callD c_law_equal hr (by rfl) tk (pa_cons (pe_ix ix_any (pv 0) (pv 2) (fun _ _ => rfl)) (pa_cons (pe_ix ix_any (pv 1) (pv 2) (fun _ _ => rfl)) pa_nil))))) (pss_one (ps_ret pe_bl)) pss_nil)))
    (pss_one (ps_ret pe_bl))))) pss_nil)
    (pss_cons (ps_if (pt_cmpR op_isN1 (pv 1) pe_non (nomark _)) (pss_one (ps_ret (pe_cmpR op_isN1 (pv 0) pe_non (nomark _)))) pss_nil)
    (pss_cons (ps_if (pt_val (pe_callB call_isi (by rfl) B.b_isinstance (by decide +kernel) (pa_cons (pv 1) (pa_cons (pe_bltn (v := .ty "str") (by rfl) B.b_str (by decide +kernel) rfl) pa_nil)))) (pss_one (ps_ret (pe_and (pe_callB call_isi (by rfl) B.b_isinstance (by decide +kernel) (pa_cons (pv 0) (pa_cons (pe_bltn (v := .ty "str") (by rfl) B.b_str (by decide +kernel) rfl) pa_nil))) (pe_one (pe_cmpR (op_eqD hr.units) (pv 0) (pv 1) (nomark _)))))) pss_nil)
    (pss_one (ps_ret (pe_and (pe_callB call_isi (by rfl) B.b_isinstance (by decide +kernel) (pa_cons (pv 0) (pa_cons (pe_bltn (v := .ty "int") (by rfl) B.b_int (by decide +kernel) rfl) pa_nil))) (pe_and (pe_not (pe_callB call_isi (by rfl) B.b_isinstance (by decide +kernel) (pa_cons (pv 0) (pa_cons (pe_bltn (v := .ty "bool") (by rfl) B.b_bool (by decide +kernel) rfl) pa_nil)))) (pe_one (pe_cmpR (op_eqD hr.units) (pv 0) (pv 1) (nomark _))))))))))
def t_law_right (K : PySem.W.Frag) (W : WX) : TS :=
  (tSeq (tAsg (tCallS (SpF K P_law_due.length fr_law_due) (WE W) (tCons (tVar 0) tNil)) (gName 1))
    (tSeq (tAsg (tCB (rLstA K) (tCons (tVar 0) tNil)) (gName 2))
    (tSeq (tAsg (tCallS (SpF K P_law_asked.length fr_law_asked) (WE W) (tCons (tVar 2) tNil)) (gName 3))
    (tSeq (tIfS (tOr (tNot (tB (tCallS (SpF K P_law_equal.length fr_law_equal) (WE W) (tCons (tVar 3) (tCons (tVar 1) tNil))))) (tNot (tB (tCallS (SpF K P_law_equal.length fr_law_equal) (WE W) (tCons (tCallS (SpF K P_law_asked.length fr_law_asked) (WE W) (tCons (tCB (rTupC K) (tCons (tVar 0) tNil)) tNil)) (tCons (tVar 1) tNil)))))) (tRet (tC (.bl false))) tNext)
    (tSeq (tIfS (tOr (tTest (tOp (rNeD K) (tCallS (SpF K P_law_caught.length fr_law_caught) (WE W) (tCons (tVar 2) tNil)) (tOp (rIxA K) (tVar 1) (tC (.int 0))))) (tTest (tOp (rNeD K) (tVar 2) (tVar 0)))) (tRet (tC (.bl false))) tNext)
    (tRet (tOrV (tOp (rNeD K) (tOp (rIxA K) (tVar 1) (tC (.int 0))) (tLst tNil)) (tCallS (SpF K P_law_equal.length fr_law_equal) (WE W) (tCons (tCallS (SpF K P_law_asked.length fr_law_asked) (WE W) (tCons (tOp (rIxA K) (tVar 3) (tC (.int 1))) tNil)) (tCons (tVar 1) tNil))))))))))
theorem cal_law_right {P : Program} {w : World} {K : PySem.W.Frag} {mg : Str → Option Value} {base : Heap} (A : FunAt K mg "_law_right" s_law_right P_law_right) (B : Bt K mg) (c_law_due : Cal P w K mg base 2 "_law_due" P_law_due fr_law_due) (c_law_asked : Cal P w K mg base 5 "_law_asked" P_law_asked fr_law_asked) (c_law_equal : Cal P w K mg base 4 "_law_equal" P_law_equal fr_law_equal) (c_law_caught : Cal P w K mg base 5 "_law_caught" P_law_caught fr_law_caught)
    (pr : ∀ W ds r, fr_law_right ds r → FnEnd K W (t_law_right K W) (entry N_law_right ds) r) : Cal P w K mg base 6 "_law_right" P_law_right fr_law_right := by
  have sc := sc_law_right
  refine cal_of A sc _ fun f cdv A outer s H E hr => ⟨t_law_right K (wD E), ?_, fun ds r h _ => pr _ ds r h⟩
  have tk : L2N.Takes (cxD P w K mg base N_law_right "_law_right" s_law_right f cdv A outer s H E) (wD E) := L2N.takes_of rfl rfl rfl rfl
  have hp : PassesOwn (model P w) (cxD P w K mg base N_law_right "_law_right" s_law_right f cdv A outer s H E).A (cxD P w K mg base N_law_right "_law_right" s_law_right f cdv A outer s H E).env (cxD P w K mg base N_law_right "_law_right" s_law_right f cdv A outer s H E).xe := passes_of rfl
  exact (pss_cons (ps_set (i := 1) sc.nd rfl (Or.inl rfl) (pe_callD c_law_due (hr.mono (by decide)) (by rfl) tk (pa_cons (pv 0) pa_nil)))
    (pss_cons (ps_set (i := 2) sc.nd rfl (Or.inl rfl) (pe_callTy (cr_lstA rfl) (by rfl) B.b_list (by decide +kernel) (pa_cons (pv 0) pa_nil)))
    (pss_cons (ps_set (i := 3) sc.nd rfl (Or.inl rfl) (pe_callD c_law_asked (hr.mono (by decide)) (by rfl) tk (pa_cons (pv 2) pa_nil)))
    (pss_cons (ps_if ((pw_or (pt_not (pt_val (pe_callD c_law_equal (hr.mono (by decide)) (by rfl) tk (pa_cons (pv 3) (pa_cons (pv 1) pa_nil))))) (pw_or1 (pt_not (pt_val (pe_callD c_law_equal (hr.mono (by decide)) (by rfl) tk (pa_cons (pe_callD c_law_asked (hr.mono (by decide)) (by rfl) tk (pa_cons (pe_callTy call_tuple_of (by rfl) B.b_tuple (by decide +kernel) (pa_cons (pv 0) pa_nil)) pa_nil)) (pa_cons (pv 1) pa_nil)))))))).pt (pss_one (ps_ret pe_bl)) pss_nil)
    (pss_cons (ps_if ((pw_or (pt_cmpR (op_neD hr.units) (pe_callD c_law_caught (hr.mono (by decide)) (by rfl) tk (pa_cons (pv 2) pa_nil)) (pe_ix ix_any (pv 1) pe_int (fun _ _ => rfl)) (nomark _)) (pw_or1 (pt_cmpR (op_neD hr.units) (pv 2) (pv 0) (nomark _))))).pt (pss_one (ps_ret pe_bl)) pss_nil)
    (pss_one (ps_ret (pe_or (pe_cmpR (op_neD hr.units) (pe_ix ix_any (pv 1) pe_int (fun _ _ => rfl)) (pe_lst pa_nil) (nomark _)) (pe_one (pe_callD c_law_equal (hr.mono (by decide)) (by rfl) tk (pa_cons (pe_callD c_law_asked (hr.mono (by decide)) (by rfl) tk (pa_cons (pe_ix ix_any (pv 3) pe_int (fun _ _ => rfl)) pa_nil)) (pa_cons (pv 1) pa_nil))))))))))))
def t_law_created (K : PySem.W.Frag) (W : WX) : TS :=
  (tSeq (tAsg (tOp (rIxA K) (tVar 4) (tC (.int 0))) (gName 5))
    (tSeq (tAsg (tOp (rIxA K) (tVar 4) (tC (.int 1))) (gName 6))
    (tSeq (tAsg (tLst (tCons (tMk0 (He.ga K "NoQuotient")) (tCons (tMk0 (He.ga K "ZeroPolynomial")) (tCons (tMk0 (He.ga K "ZeroSum")) (tCons (tMk0 (He.ga K "NoRows")) (tCons (tMkV (He.ga K "BadName") (SpI (He.ga K "BadName") ["name"]) (tCons (tVar 0) tNil)) (tCons (tMkV (He.ga K "RowTwice") (SpI (He.ga K "RowTwice") ["name"]) (tCons (tOp (rIxA K) (tVar 1) (tC (.int 0))) tNil)) tNil))))))) (gName 7))
    (tSeq (tAsg (tOp (rAddA K) (tVar 7) (tLst (tCons (tMkV (He.ga K "UnknownRow") (SpI (He.ga K "UnknownRow") ["name"]) (tCons (tOp (rIxA K) (tVar 1) (tC (.int 0))) tNil)) (tCons (tMkV (He.ga K "RowsDiffer") (SpI (He.ga K "RowsDiffer") ["one", "two"]) (tCons (tVar 1) (tCons (tVar 2) tNil))) (tCons (tMkV (He.ga K "SpotTwice") (SpI (He.ga K "SpotTwice") ["row", "place"]) (tCons (tOp (rIxA K) (tVar 1) (tC (.int 0))) (tCons (tVar 5) tNil))) (tCons (tMkV (He.ga K "BadStretch") (SpI (He.ga K "BadStretch") ["count"]) (tCons (tVar 6) tNil)) tNil)))))) (gName 7))
    (tSeq (tAsg (tOp (rAddA K) (tVar 7) (tLst (tCons (tMkV (He.ga K "ShortStretch") (SpI (He.ga K "ShortStretch") ["span"]) (tCons (tVar 6) tNil)) (tCons (tMkV (He.ga K "TooLong") (SpI (He.ga K "TooLong") ["longest"]) (tCons (tVar 6) tNil)) tNil)))) (gName 7))
    (tSeq (tAsg (tOp (rAddA K) (tVar 7) (tLst (tCons (tMkV (He.ga K "CannotStand") (SpI (He.ga K "CannotStand") ["terms"]) (tCons (tVar 3) tNil)) (tCons (tMkV (He.ga K "Broken") (SpI (He.ga K "Broken") ["place", "index"]) (tCons (tVar 5) (tCons (tVar 6) tNil))) (tCons (tMk0 (He.ga K "NotFinite")) (tCons (tMkV (He.ga K "BadParts") (SpI (He.ga K "BadParts") ["count"]) (tCons (tVar 6) tNil)) (tCons (tMkV (He.ga K "Barred") (SpI (He.ga K "Barred") ["terms"]) (tCons (tVar 3) tNil)) (tCons (tMkV (He.ga K "NotCourse") (SpI (He.ga K "NotCourse") ["count"]) (tCons (tVar 6) tNil)) tNil)))))))) (gName 7))
    (tSeq (tAsg (tOp (rAddA K) (tVar 7) (tLst (tCons (tMkV (He.ga K "BreaksOwnRule") (SpI (He.ga K "BreaksOwnRule") ["place"]) (tCons (tVar 5) tNil)) (tCons (tMkV (He.ga K "NotBlocked") (SpI (He.ga K "NotBlocked") ["count"]) (tCons (tVar 6) tNil)) (tCons (tMk0 (He.ga K "Unsure")) (tCons (tMk0 (He.ga K "Contradiction")) (tCons (tMkV (He.ga K "NotStricter") (SpI (He.ga K "NotStricter") ["terms"]) (tCons (tVar 3) tNil)) (tCons (tMk0 (He.ga K "NoFamilies")) tNil)))))))) (gName 7))
    (tSeq (tAsg (tOp (rAddA K) (tVar 7) (tLst (tCons (tMkV (He.ga K "NotLet") (SpI (He.ga K "NotLet") ["index"]) (tCons (tVar 6) tNil)) (tCons (tMkV (He.ga K "NotFree") (SpI (He.ga K "NotFree") ["rows"]) (tCons (tVar 1) tNil)) (tCons (tMkV (He.ga K "NotTimely") (SpI (He.ga K "NotTimely") ["rows"]) (tCons (tVar 2) tNil)) (tCons (tMkV (He.ga K "NotEntered") (SpI (He.ga K "NotEntered") ["index"]) (tCons (tVar 5) tNil)) (tCons (tMk0 (He.ga K "NothingToUndo")) (tCons (tMkV (He.ga K "BadNotation") (SpI (He.ga K "BadNotation") ["line"]) (tCons (tVar 6) tNil)) tNil)))))))) (gName 7))
    (tSeq (tFor (iRng1 (tCons (tCB (rLenA K) (tCons (tVar 7) tNil)) tNil)) (gName 8) (tIfS (tTest (tOp (rNeD K) (tCallS (SpF K P_law_kinds.length (fr_law_kinds K)) (WE W) (tCons (tOp (rIxA K) (tVar 7) (tVar 8)) tNil)) (tLst (tCons (tVar 8) tNil)))) (tRet (tC (.bl false))) tNext))
    (tSeq (tAsg (tLst (tCons (tXv K "name" (tOp (rIxA K) (tVar 7) (tC (.int 4)))) (tCons (tXv K "name" (tOp (rIxA K) (tVar 7) (tC (.int 5)))) (tCons (tXv K "name" (tOp (rIxA K) (tVar 7) (tC (.int 6)))) (tCons (tXv K "one" (tOp (rIxA K) (tVar 7) (tC (.int 7)))) (tCons (tXv K "two" (tOp (rIxA K) (tVar 7) (tC (.int 7)))) (tCons (tXv K "row" (tOp (rIxA K) (tVar 7) (tC (.int 8)))) tNil))))))) (gName 9))
    (tSeq (tAsg (tOp (rAddA K) (tVar 9) (tLst (tCons (tXv K "place" (tOp (rIxA K) (tVar 7) (tC (.int 8)))) (tCons (tXv K "count" (tOp (rIxA K) (tVar 7) (tC (.int 9)))) (tCons (tXv K "span" (tOp (rIxA K) (tVar 7) (tC (.int 10)))) (tCons (tXv K "longest" (tOp (rIxA K) (tVar 7) (tC (.int 11)))) (tCons (tXv K "terms" (tOp (rIxA K) (tVar 7) (tC (.int 12)))) tNil))))))) (gName 9))
    (tSeq (tAsg (tOp (rAddA K) (tVar 9) (tLst (tCons (tXv K "place" (tOp (rIxA K) (tVar 7) (tC (.int 13)))) (tCons (tXv K "index" (tOp (rIxA K) (tVar 7) (tC (.int 13)))) (tCons (tXv K "count" (tOp (rIxA K) (tVar 7) (tC (.int 15)))) (tCons (tXv K "terms" (tOp (rIxA K) (tVar 7) (tC (.int 16)))) (tCons (tXv K "count" (tOp (rIxA K) (tVar 7) (tC (.int 17)))) tNil))))))) (gName 9))
    (tSeq (tAsg (tOp (rAddA K) (tVar 9) (tLst (tCons (tXv K "place" (tOp (rIxA K) (tVar 7) (tC (.int 18)))) (tCons (tXv K "count" (tOp (rIxA K) (tVar 7) (tC (.int 19)))) (tCons (tXv K "terms" (tOp (rIxA K) (tVar 7) (tC (.int 22)))) (tCons (tXv K "index" (tOp (rIxA K) (tVar 7) (tC (.int 24)))) (tCons (tXv K "rows" (tOp (rIxA K) (tVar 7) (tC (.int 25)))) tNil))))))) (gName 9))
    (tSeq (tAsg (tOp (rAddA K) (tVar 9) (tLst (tCons (tXv K "rows" (tOp (rIxA K) (tVar 7) (tC (.int 26)))) (tCons (tXv K "index" (tOp (rIxA K) (tVar 7) (tC (.int 27)))) (tCons (tXv K "line" (tOp (rIxA K) (tVar 7) (tC (.int 29)))) tNil))))) (gName 9))
    (tSeq (tAsg (tLst (tCons (tVar 0) (tCons (tOp (rIxA K) (tVar 1) (tC (.int 0))) (tCons (tOp (rIxA K) (tVar 1) (tC (.int 0))) (tCons (tVar 1) (tCons (tVar 2) (tCons (tOp (rIxA K) (tVar 1) (tC (.int 0))) (tCons (tVar 5) (tCons (tVar 6) (tCons (tVar 6) (tCons (tVar 6) (tCons (tVar 3) (tCons (tVar 5) (tCons (tVar 6) (tCons (tVar 6) (tCons (tVar 3) (tCons (tVar 6) (tCons (tVar 5) (tCons (tVar 6) (tCons (tVar 3) (tCons (tVar 6) (tCons (tVar 1) tNil)))))))))))))))))))))) (gName 10))
    (tRet (tCallS (SpF K P_law_equal.length fr_law_equal) (WE W) (tCons (tVar 9) (tCons (tOp (rAddA K) (tVar 10) (tLst (tCons (tVar 2) (tCons (tVar 5) (tCons (tVar 6) tNil))))) tNil)))))))))))))))))))
theorem cal_law_created {P : Program} {w : World} {K : PySem.W.Frag} {mg : Str → Option Value} {base : Heap} (A : FunAt K mg "_law_created" s_law_created P_law_created) (B : Bt K mg) (c_law_kinds : Cal P w K mg base 1 "_law_kinds" P_law_kinds (fr_law_kinds K)) (c_law_equal : Cal P w K mg base 4 "_law_equal" P_law_equal fr_law_equal) (IB : IniT P w K mg base)
    (pr : ∀ W ds r, fr_law_created ds r → FnEnd K W (t_law_created K W) (entry N_law_created ds) r) : Cal P w K mg base 5 "_law_created" P_law_created fr_law_created := by
  have sc := sc_law_created
  refine cal_of A sc _ fun f cdv A outer s H E hr => ⟨t_law_created K (wD E), ?_, fun ds r h _ => pr _ ds r h⟩
  have tk : L2N.Takes (cxD P w K mg base N_law_created "_law_created" s_law_created f cdv A outer s H E) (wD E) := L2N.takes_of rfl rfl rfl rfl
  have hp : PassesOwn (model P w) (cxD P w K mg base N_law_created "_law_created" s_law_created f cdv A outer s H E).A (cxD P w K mg base N_law_created "_law_created" s_law_created f cdv A outer s H E).env (cxD P w K mg base N_law_created "_law_created" s_law_created f cdv A outer s H E).xe := passes_of rfl
  exact (pss_cons (ps_set (i := 5) sc.nd rfl (Or.inl rfl) (pe_ix ix_any (pv 4) pe_int (fun _ _ => rfl)))
    (pss_cons (ps_set (i := 6) sc.nd rfl (Or.inl rfl) (pe_ix ix_any (pv 4) pe_int (fun _ _ => rfl)))
    (pss_cons (ps_set (i := 7) sc.nd rfl (Or.inl rfl) (pe_lst (pa_cons (pe_excV0 B.e_NoQuotient B.g_NoQuotient (by rfl)) (pa_cons (pe_excV0 B.e_ZeroPolynomial B.g_ZeroPolynomial (by rfl)) (pa_cons (pe_excV0 B.e_ZeroSum B.g_ZeroSum (by rfl)) (pa_cons (pe_excV0 B.e_NoRows B.g_NoRows (by rfl)) (pa_cons (pe_excVD IB.i_BadName (hr.mono (by decide)) (by rfl) (pa_cons (pv 0) pa_nil)) (pa_cons (pe_excVD IB.i_RowTwice (hr.mono (by decide)) (by rfl) (pa_cons (pe_ix ix_any (pv 1) pe_int (fun _ _ => rfl)) pa_nil)) pa_nil))))))))
    (pss_cons (ps_set (i := 7) sc.nd rfl (Or.inl rfl) (pe_op opA_add (pv 7) (pe_lst (pa_cons (pe_excVD IB.i_UnknownRow (hr.mono (by decide)) (by rfl) (pa_cons (pe_ix ix_any (pv 1) pe_int (fun _ _ => rfl)) pa_nil)) (pa_cons (pe_excVD IB.i_RowsDiffer (hr.mono (by decide)) (by rfl) (pa_cons (pv 1) (pa_cons (pv 2) pa_nil))) (pa_cons (pe_excVD IB.i_SpotTwice (hr.mono (by decide)) (by rfl) (pa_cons (pe_ix ix_any (pv 1) pe_int (fun _ _ => rfl)) (pa_cons (pv 5) pa_nil))) (pa_cons (pe_excVD IB.i_BadStretch (hr.mono (by decide)) (by rfl) (pa_cons (pv 6) pa_nil)) pa_nil)))))))
    (pss_cons (ps_set (i := 7) sc.nd rfl (Or.inl rfl) (pe_op opA_add (pv 7) (pe_lst (pa_cons (pe_excVD IB.i_ShortStretch (hr.mono (by decide)) (by rfl) (pa_cons (pv 6) pa_nil)) (pa_cons (pe_excVD IB.i_TooLong (hr.mono (by decide)) (by rfl) (pa_cons (pv 6) pa_nil)) pa_nil)))))
    (pss_cons (ps_set (i := 7) sc.nd rfl (Or.inl rfl) (pe_op opA_add (pv 7) (pe_lst (pa_cons (pe_excVD IB.i_CannotStand (hr.mono (by decide)) (by rfl) (pa_cons (pv 3) pa_nil)) (pa_cons (pe_excVD IB.i_Broken (hr.mono (by decide)) (by rfl) (pa_cons (pv 5) (pa_cons (pv 6) pa_nil))) (pa_cons (pe_excV0 B.e_NotFinite B.g_NotFinite (by rfl)) (pa_cons (pe_excVD IB.i_BadParts (hr.mono (by decide)) (by rfl) (pa_cons (pv 6) pa_nil)) (pa_cons (pe_excVD IB.i_Barred (hr.mono (by decide)) (by rfl) (pa_cons (pv 3) pa_nil)) (pa_cons (pe_excVD IB.i_NotCourse (hr.mono (by decide)) (by rfl) (pa_cons (pv 6) pa_nil)) pa_nil)))))))))
    (pss_cons (ps_set (i := 7) sc.nd rfl (Or.inl rfl) (pe_op opA_add (pv 7) (pe_lst (pa_cons (pe_excVD IB.i_BreaksOwnRule (hr.mono (by decide)) (by rfl) (pa_cons (pv 5) pa_nil)) (pa_cons (pe_excVD IB.i_NotBlocked (hr.mono (by decide)) (by rfl) (pa_cons (pv 6) pa_nil)) (pa_cons (pe_excV0 B.e_Unsure B.g_Unsure (by rfl)) (pa_cons (pe_excV0 B.e_Contradiction B.g_Contradiction (by rfl)) (pa_cons (pe_excVD IB.i_NotStricter (hr.mono (by decide)) (by rfl) (pa_cons (pv 3) pa_nil)) (pa_cons (pe_excV0 B.e_NoFamilies B.g_NoFamilies (by rfl)) pa_nil)))))))))
    (pss_cons (ps_set (i := 7) sc.nd rfl (Or.inl rfl) (pe_op opA_add (pv 7) (pe_lst (pa_cons (pe_excVD IB.i_NotLet (hr.mono (by decide)) (by rfl) (pa_cons (pv 6) pa_nil)) (pa_cons (pe_excVD IB.i_NotFree (hr.mono (by decide)) (by rfl) (pa_cons (pv 1) pa_nil)) (pa_cons (pe_excVD IB.i_NotTimely (hr.mono (by decide)) (by rfl) (pa_cons (pv 2) pa_nil)) (pa_cons (pe_excVD IB.i_NotEntered (hr.mono (by decide)) (by rfl) (pa_cons (pv 5) pa_nil)) (pa_cons (pe_excV0 B.e_NothingToUndo B.g_NothingToUndo (by rfl)) (pa_cons (pe_excVD IB.i_BadNotation (hr.mono (by decide)) (by rfl) (pa_cons (pv 6) pa_nil)) pa_nil)))))))))
    (pss_cons (ps_for hp rfl (pi_range1 (by rfl) B.b_range (pa_cons (pe_callB cr_lenA (by rfl) B.b_len (by decide +kernel) (pa_cons (pv 7) pa_nil)) pa_nil)) (pg_name (i := 8) sc.nd rfl (Or.inl rfl)) (pss_one (ps_if (pt_cmpR (op_neD hr.units) (pe_callD c_law_kinds (hr.mono (by decide)) (by rfl) tk (pa_cons (pe_ix ix_any (pv 7) (pv 8) (fun _ _ => rfl)) pa_nil)) (pe_lst (pa_cons (pv 8) pa_nil)) (nomark _)) (pss_one (ps_ret pe_bl)) pss_nil)))
    (pss_cons (ps_set (i := 9) sc.nd rfl (Or.inl rfl) (pe_lst (pa_cons (pe_xv (pe_ix ix_any (pv 7) pe_int (fun _ _ => rfl))) (pa_cons (pe_xv (pe_ix ix_any (pv 7) pe_int (fun _ _ => rfl))) (pa_cons (pe_xv (pe_ix ix_any (pv 7) pe_int (fun _ _ => rfl))) (pa_cons (pe_xv (pe_ix ix_any (pv 7) pe_int (fun _ _ => rfl))) (pa_cons (pe_xv (pe_ix ix_any (pv 7) pe_int (fun _ _ => rfl))) (pa_cons (pe_xv (pe_ix ix_any (pv 7) pe_int (fun _ _ => rfl))) pa_nil))))))))
    (pss_cons (ps_set (i := 9) sc.nd rfl (Or.inl rfl) (pe_op opA_add (pv 9) (pe_lst (pa_cons (pe_xv (pe_ix ix_any (pv 7) pe_int (fun _ _ => rfl))) (pa_cons (pe_xv (pe_ix ix_any (pv 7) pe_int (fun _ _ => rfl))) (pa_cons (pe_xv (pe_ix ix_any (pv 7) pe_int (fun _ _ => rfl))) (pa_cons (pe_xv (pe_ix ix_any (pv 7) pe_int (fun _ _ => rfl))) (pa_cons (pe_xv (pe_ix ix_any (pv 7) pe_int (fun _ _ => rfl))) pa_nil))))))))
    (pss_cons (ps_set (i := 9) sc.nd rfl (Or.inl rfl) (pe_op opA_add (pv 9) (pe_lst (pa_cons (pe_xv (pe_ix ix_any (pv 7) pe_int (fun _ _ => rfl))) (pa_cons (pe_xv (pe_ix ix_any (pv 7) pe_int (fun _ _ => rfl))) (pa_cons (pe_xv (pe_ix ix_any (pv 7) pe_int (fun _ _ => rfl))) (pa_cons (pe_xv (pe_ix ix_any (pv 7) pe_int (fun _ _ => rfl))) (pa_cons (pe_xv (pe_ix ix_any (pv 7) pe_int (fun _ _ => rfl))) pa_nil))))))))
    (pss_cons (ps_set (i := 9) sc.nd rfl (Or.inl rfl) (pe_op opA_add (pv 9) (pe_lst (pa_cons (pe_xv (pe_ix ix_any (pv 7) pe_int (fun _ _ => rfl))) (pa_cons (pe_xv (pe_ix ix_any (pv 7) pe_int (fun _ _ => rfl))) (pa_cons (pe_xv (pe_ix ix_any (pv 7) pe_int (fun _ _ => rfl))) (pa_cons (pe_xv (pe_ix ix_any (pv 7) pe_int (fun _ _ => rfl))) (pa_cons (pe_xv (pe_ix ix_any (pv 7) pe_int (fun _ _ => rfl))) pa_nil))))))))
    (pss_cons (ps_set (i := 9) sc.nd rfl (Or.inl rfl) (pe_op opA_add (pv 9) (pe_lst (pa_cons (pe_xv (pe_ix ix_any (pv 7) pe_int (fun _ _ => rfl))) (pa_cons (pe_xv (pe_ix ix_any (pv 7) pe_int (fun _ _ => rfl))) (pa_cons (pe_xv (pe_ix ix_any (pv 7) pe_int (fun _ _ => rfl))) pa_nil))))))
    (pss_cons (ps_set (i := 10) sc.nd rfl (Or.inl rfl) (pe_lst (pa_cons (pv 0) (pa_cons (pe_ix ix_any (pv 1) pe_int (fun _ _ => rfl)) (pa_cons (pe_ix ix_any (pv 1) pe_int (fun _ _ => rfl)) (pa_cons (pv 1) (pa_cons (pv 2) (pa_cons (pe_ix ix_any (pv 1) pe_int (fun _ _ => rfl)) (pa_cons (pv 5) (pa_cons (pv 6) (pa_cons (pv 6) (pa_cons (pv 6) (pa_cons (pv 3) (pa_cons (pv 5) (pa_cons (pv 6) (pa_cons (pv 6) (pa_cons (pv 3) (pa_cons (pv 6) (pa_cons (pv 5) (pa_cons (pv 6) (pa_cons (pv 3) (pa_cons (pv 6) (pa_cons (pv 1) pa_nil)))))))))))))))))))))))
    (pss_one (ps_ret (pe_callD c_law_equal (hr.mono (by decide)) (by rfl) tk (pa_cons (pv 9) (pa_cons (pe_op opA_add (pv 10) (pe_lst (pa_cons (pv 2) (pa_cons (pv 5) (pa_cons (pv 6) pa_nil))))) pa_nil))))))))))))))))))))
def t_law_errors_right (K : PySem.W.Frag) (W : WX) : TS :=
  (tSeq (tAsg (tCallS (SpF K P_law_digits.length fr_law_digits) (WE W) (tCons (tVar 0) (tCons (tOp (rAddA K) (tOp (rAddA K) (tOp (rAddA K) (tLst (tCons (tC (.int 41)) (tCons (tC (.int 61)) (tCons (tC (.int 10)) (tCons (tC (.int 5)) (tCons (tC (.int 3)) (tCons (tC (.int 2000000)) (tCons (tC (.int 30)) (tCons (tC (.int 10)) (tCons (tC (.int 26)) tNil)))))))))) (tOp rMulA (tLst (tCons (tC (.int 36)) tNil)) (tC (.int 10)))) (tLst (tCons (tC (.int 13)) (tCons (tC (.int 95)) tNil)))) (tOp rMulA (tLst (tCons (tC (.int 95)) tNil)) (tC (.int 12)))) tNil))) (gName 1))
    (tSeq (tAsg (tLst (tCons (tC (.str "a")) (tCons (tC (.str "b1")) (tCons (tC (.str "level")) (tCons (tC (.str "pump")) (tCons (tC (.str "x10")) (tCons (tC (.str "x9")) (tCons (tC (.str "z")) (tCons (tC (.str "m")) (tCons (tC (.str "n0")) (tCons (tC (.str "q")) tNil))))))))))) (gName 2))
    (tSeq (tAsg (tCB (rTupC K) (tCons (tCB (rSortS K) (tCons (tLc (iRng1 (tCons (tOp (rAddA K) (tC (.int 1)) (tOp (rIxA K) (tVar 1) (tC (.int 3)))) tNil)) (gName 4) tYes (tOp (rIxA K) (tVar 2) (tOp (rI (fun _ j => 0 < j) fun i j => .int (i % j)) (tCB rIntC (tCons (tOp (rAddA K) (tOp (rIxA K) (tVar 1) (tC (.int 2))) (tVar 4)) tNil)) (tC (.int 10)))) [4]) tNil)) tNil)) (gName 3))
    (tSeq (tAsg (tCB (rTupC K) (tCons (tCB (rSortS K) (tCons (tLc (iRng1 (tCons (tOp (rAddA K) (tC (.int 1)) (tOp (rIxA K) (tVar 1) (tC (.int 4)))) tNil)) (gName 4) tYes (tOp (rIxA K) (tVar 2) (tOp (rI (fun _ j => 0 < j) fun i j => .int (i % j)) (tCB rIntC (tCons (tOp (rAddA K) (tOp (rAddA K) (tOp (rIxA K) (tVar 1) (tC (.int 2))) (tC (.int 1))) (tVar 4)) tNil)) (tC (.int 10)))) [4]) tNil)) tNil)) (gName 5))
    (tSeq (tAsg (tTup (tCons (tTup (tCons (tOp (rIxA K) (tVar 3) (tC (.int 0))) (tCons (tOp (rI0 fun i j => .int (i - j)) (tOp (rIxA K) (tVar 1) (tC (.int 0))) (tC (.int 20))) (tCons (tOp (rAddA K) (tC (.int 1)) (tOp (rIxA K) (tVar 1) (tC (.int 5)))) tNil)))) (tCons (tTup (tCons (tOp (rAddA K) (tOp (rIxA K) (tVar 3) (tUn (rU fun i => .int (-i)) (tC (.int 1)))) (tC (.str "0"))) (tCons (tC (.int 3)) (tCons (tOp (rI0 fun i j => .int (i - j)) (tUn (rU fun i => .int (-i)) (tC (.int 1))) (tOp (rIxA K) (tVar 1) (tC (.int 1)))) tNil)))) tNil))) (gName 6))
    (tRet (tCallS (SpF K P_law_created.length fr_law_created) (WE W) (tCons (tCallS (SpF K P_law_string.length fr_law_string) (WE W) (tCons (tSl (rSlAny K) (tVar 1) (tPart (tC (.int 6))) tNoPart) (tCons (tC (.bl false)) tNil))) (tCons (tVar 3) (tCons (tVar 5) (tCons (tVar 6) (tCons (tLst (tCons (tOp (rI0 fun i j => .int (i - j)) (tOp (rIxA K) (tVar 1) (tC (.int 0))) (tC (.int 20))) (tCons (tOp (rIxA K) (tVar 1) (tC (.int 1))) tNil))) tNil))))))))))))
theorem cal_law_errors_right {P : Program} {w : World} {K : PySem.W.Frag} {mg : Str → Option Value} {base : Heap} (A : FunAt K mg "_law_errors_right" s_law_errors_right P_law_errors_right) (B : Bt K mg) (c_law_digits : Cal P w K mg base 1 "_law_digits" P_law_digits fr_law_digits) (c_law_created : Cal P w K mg base 5 "_law_created" P_law_created fr_law_created) (c_law_string : Cal P w K mg base 2 "_law_string" P_law_string fr_law_string)
    (pr : ∀ W ds r, fr_law_errors_right ds r → FnEnd K W (t_law_errors_right K W) (entry N_law_errors_right ds) r) : Cal P w K mg base 6 "_law_errors_right" P_law_errors_right fr_law_errors_right := by
  have sc := sc_law_errors_right
  refine cal_of A sc _ fun f cdv A outer s H E hr => ⟨t_law_errors_right K (wD E), ?_, fun ds r h _ => pr _ ds r h⟩
  have tk : L2N.Takes (cxD P w K mg base N_law_errors_right "_law_errors_right" s_law_errors_right f cdv A outer s H E) (wD E) := L2N.takes_of rfl rfl rfl rfl
  have hp : PassesOwn (model P w) (cxD P w K mg base N_law_errors_right "_law_errors_right" s_law_errors_right f cdv A outer s H E).A (cxD P w K mg base N_law_errors_right "_law_errors_right" s_law_errors_right f cdv A outer s H E).env (cxD P w K mg base N_law_errors_right "_law_errors_right" s_law_errors_right f cdv A outer s H E).xe := passes_of rfl
  exact (pss_cons (ps_set (i := 1) sc.nd rfl (Or.inr rfl) (pe_callD c_law_digits (hr.mono (by decide)) (by rfl) tk (pa_cons (pv 0) (pa_cons (pe_op opA_add (pe_op opA_add (pe_op opA_add (pe_lst (pa_cons pe_int (pa_cons pe_int (pa_cons pe_int (pa_cons pe_int (pa_cons pe_int (pa_cons pe_int (pa_cons pe_int (pa_cons pe_int (pa_cons pe_int pa_nil)))))))))) (pe_op opA_mul (pe_lst (pa_cons pe_int pa_nil)) pe_int)) (pe_lst (pa_cons pe_int (pa_cons pe_int pa_nil)))) (pe_op opA_mul (pe_lst (pa_cons pe_int pa_nil)) pe_int)) pa_nil))))
    (pss_cons (ps_set (i := 2) sc.nd rfl (Or.inr rfl) (pe_lst (pa_cons pe_str (pa_cons pe_str (pa_cons pe_str (pa_cons pe_str (pa_cons pe_str (pa_cons pe_str (pa_cons pe_str (pa_cons pe_str (pa_cons pe_str (pa_cons pe_str pa_nil))))))))))))
    (pss_cons (ps_set (i := 3) sc.nd rfl (Or.inl rfl) (pe_callTy call_tuple_of (by rfl) B.b_tuple (by decide +kernel) (pa_cons (pe_callB (cr_sortS hr.units) (by rfl) B.b_sorted (by decide +kernel) (pa_cons (pe_lc (own := [("j", 4)]) (tt := tYes) rfl sc.nd (pi_range1 (by rfl) B.b_range (pa_cons (pe_op opA_add pe_int (pe_ix ix_any (pv 1) pe_int (fun _ _ => rfl))) pa_nil)) (blkOk_by (N := N_law_errors_right) (sc := defScope s_law_errors_right) (by decide +kernel)) (fun _ _ _ _ _ => (pg_name (i := 4) sc.nd rfl (Or.inl rfl))) (fun _ _ _ _ _ => pts_nil) (fun _ _ _ _ _ => (pe_ix ix_any (pv 2) (pe_op op_mod (pe_callTy cr_int (by rfl) B.b_int (by decide +kernel) (pa_cons (pe_op opA_add (pe_ix ix_any (pv 1) pe_int (fun _ _ => rfl)) (pv 4)) pa_nil)) pe_int) (fun _ _ => rfl)))) pa_nil)) pa_nil)))
    (pss_cons (ps_set (i := 5) sc.nd rfl (Or.inl rfl) (pe_callTy call_tuple_of (by rfl) B.b_tuple (by decide +kernel) (pa_cons (pe_callB (cr_sortS hr.units) (by rfl) B.b_sorted (by decide +kernel) (pa_cons (pe_lc (own := [("j", 4)]) (tt := tYes) rfl sc.nd (pi_range1 (by rfl) B.b_range (pa_cons (pe_op opA_add pe_int (pe_ix ix_any (pv 1) pe_int (fun _ _ => rfl))) pa_nil)) (blkOk_by (N := N_law_errors_right) (sc := defScope s_law_errors_right) (by decide +kernel)) (fun _ _ _ _ _ => (pg_name (i := 4) sc.nd rfl (Or.inl rfl))) (fun _ _ _ _ _ => pts_nil) (fun _ _ _ _ _ => (pe_ix ix_any (pv 2) (pe_op op_mod (pe_callTy cr_int (by rfl) B.b_int (by decide +kernel) (pa_cons (pe_op opA_add (pe_op opA_add (pe_ix ix_any (pv 1) pe_int (fun _ _ => rfl)) pe_int) (pv 4)) pa_nil)) pe_int) (fun _ _ => rfl)))) pa_nil)) pa_nil)))
    (pss_cons (ps_set (i := 6) sc.nd rfl (Or.inl rfl) (pe_tup (pa_cons (pe_tup (pa_cons (pe_ix ix_any (pv 3) pe_int (fun _ _ => rfl)) (pa_cons (pe_op op_sub (pe_ix ix_any (pv 1) pe_int (fun _ _ => rfl)) pe_int) (pa_cons (pe_op opA_add pe_int (pe_ix ix_any (pv 1) pe_int (fun _ _ => rfl))) pa_nil)))) (pa_cons (pe_tup (pa_cons (pe_op opA_add (pe_ix ix_any (pv 3) (pe_un un_neg pe_int) (fun _ _ => rfl)) pe_str) (pa_cons pe_int (pa_cons (pe_op op_sub (pe_un un_neg pe_int) (pe_ix ix_any (pv 1) pe_int (fun _ _ => rfl))) pa_nil)))) pa_nil))))
    (pss_one (ps_ret (pe_callD c_law_created (hr.mono (by decide)) (by rfl) tk (pa_cons (pe_callD c_law_string (hr.mono (by decide)) (by rfl) tk (pa_cons (pe_slice sl_any (pv 1) (po_some pe_int) po_none) (pa_cons pe_bl pa_nil))) (pa_cons (pv 3) (pa_cons (pv 5) (pa_cons (pv 6) (pa_cons (pe_lst (pa_cons (pe_op op_sub (pe_ix ix_any (pv 1) pe_int (fun _ _ => rfl)) pe_int) (pa_cons (pe_ix ix_any (pv 1) pe_int (fun _ _ => rfl)) pa_nil))) pa_nil)))))))))))))
def tlaw (K : PySem.W.Frag) (W : WX) : TS :=
  (tSeq (tAsg (tOp (rIxA K) (tLst (tCons (tC (.int 3)) (tCons (tC (.int 2)) (tCons (tC (.int 1)) (tCons (tC (.int 1)) (tCons (tC (.int 2)) (tCons (tC (.int 1)) (tCons (tC (.int 4)) (tCons (tC (.int 2)) tNil))))))))) (tOp (rIxA K) (tCallS (SpF K P_law_digits.length fr_law_digits) (WE W) (tCons (tCallS (SpF K P_law_cell.length fr_law_cell) (WE W) (tCons (tVar 0) (tCons (tC (.int 0)) tNil))) (tCons (tLst (tCons (tC (.int 8)) tNil)) tNil))) (tC (.int 0)))) (gName 1))
    (tSeq (tIfS (tNot (tB (tCallS (SpF K P_law_errors_right.length fr_law_errors_right) (WE W) (tCons (tCallS (SpF K P_law_cell.length fr_law_cell) (WE W) (tCons (tVar 0) (tCons (tC (.int 1)) tNil))) tNil)))) (tRet (tC (.bl false))) tNext)
    (tSeq (tFor (iRng1 (tCons (tVar 1) tNil)) (gName 2) (tSeq (tAsg (tCallS (SpF K P_law_strings.length fr_law_strings) (WE W) (tCons (tVar 0) (tCons (tOp (rAddA K) (tC (.int 2)) (tOp rMulA (tC (.int 7)) (tVar 2))) tNil))) (gName 3))
    (tSeq (tFor (iSeq K (tVar 3)) (gName 4) (tSeq (tAsg (tCallS (SpF K Pis_row_name.length fris_row_name) (WE W) (tCons (tVar 4) tNil)) (gName 5))
    (tIfS (tOr (tNot (tB (tCB (rIsi K) (tCons (tVar 5) (tCons (tC (.ty "bool")) tNil))))) (tTest (tOp (rNeD K) (tVar 5) (tCallS (SpF K P_law_good.length fr_law_good) (WE W) (tCons (tVar 4) tNil))))) (tRet (tC (.bl false))) tNext)))
    (tSeq (tIfS (tNot (tB (tCallS (SpF K P_law_right.length fr_law_right) (WE W) (tCons (tVar 3) tNil)))) (tRet (tC (.bl false))) tNext)
    (tIfS (tNot (tB (tCallS (SpF K P_law_right.length fr_law_right) (WE W) (tCons (tLc (iRng1 (tCons (tCB (rLenA K) (tCons (tVar 3) tNil)) tNil)) (gName 6) tYes (tOp (rIxA K) (tVar 3) (tOp (rI0 fun i j => .int (i - j)) (tOp (rI0 fun i j => .int (i - j)) (tCB (rLenA K) (tCons (tVar 3) tNil)) (tC (.int 1))) (tVar 6))) [6]) tNil)))) (tRet (tC (.bl false))) tNext)))))
    (tRet (tC (.bl true))))))
theorem fnlaw {f : Addr} {fd : FuncData} {P : Program} {w : World} {K : PySem.W.Frag} {mg : Str → Option Value} {base : Heap} (F : Fun K "law" "law" slaw f fd) (B : Bt K mg) (c_law_digits : Cal P w K mg base 1 "_law_digits" P_law_digits fr_law_digits) (c_law_cell : Cal P w K mg base 1 "_law_cell" P_law_cell fr_law_cell) (c_law_errors_right : Cal P w K mg base 6 "_law_errors_right" P_law_errors_right fr_law_errors_right) (c_law_strings : Cal P w K mg base 3 "_law_strings" P_law_strings fr_law_strings) (cis_row_name : Cal P w K mg base 1 "is_row_name" Pis_row_name fris_row_name) (c_law_good : Cal P w K mg base 1 "_law_good" P_law_good fr_law_good) (c_law_right : Cal P w K mg base 6 "_law_right" P_law_right fr_law_right)
    (pr : ∀ W ds r, frlaw ds r → FnEnd K W (tlaw K W) (entry Nlaw ds) r) : FnOk P w K mg base (L2N.CX P w) 7 f fd Plaw (SpF K Plaw.length frlaw) := by
  have sc := sclaw
  refine fnD F sc _ fun cdv A outer s H E hr => ⟨tlaw K (wD E), ?_, fun ds r h _ => pr _ ds r h⟩
  have tk : L2N.Takes (cxD P w K mg base Nlaw "law" slaw f cdv A outer s H E) (wD E) := L2N.takes_of rfl rfl rfl rfl
  have hp : PassesOwn (model P w) (cxD P w K mg base Nlaw "law" slaw f cdv A outer s H E).A (cxD P w K mg base Nlaw "law" slaw f cdv A outer s H E).env (cxD P w K mg base Nlaw "law" slaw f cdv A outer s H E).xe := passes_of rfl
  exact (pss_cons (ps_set (i := 1) sc.nd rfl (Or.inl rfl) (pe_ix ix_any (pe_lst (pa_cons pe_int (pa_cons pe_int (pa_cons pe_int (pa_cons pe_int (pa_cons pe_int (pa_cons pe_int (pa_cons pe_int (pa_cons pe_int pa_nil))))))))) (pe_ix ix_any (pe_callD c_law_digits (hr.mono (by decide)) (by rfl) tk (pa_cons (pe_callD c_law_cell (hr.mono (by decide)) (by rfl) tk (pa_cons (pv 0) (pa_cons pe_int pa_nil))) (pa_cons (pe_lst (pa_cons pe_int pa_nil)) pa_nil))) pe_int (fun _ _ => rfl)) (fun _ _ => rfl)))
    (pss_cons (ps_if (pt_not (pt_val (pe_callD c_law_errors_right (hr.mono (by decide)) (by rfl) tk (pa_cons (pe_callD c_law_cell (hr.mono (by decide)) (by rfl) tk (pa_cons (pv 0) (pa_cons pe_int pa_nil))) pa_nil)))) (pss_one (ps_ret pe_bl)) pss_nil)
    (pss_cons (ps_for hp rfl (pi_range1 (by rfl) B.b_range (pa_cons (pv 1) pa_nil)) (pg_name (i := 2) sc.nd rfl (Or.inl rfl)) (pss_cons (ps_set (i := 3) sc.nd rfl (Or.inr rfl) (pe_callD c_law_strings (hr.mono (by decide)) (by rfl) tk (pa_cons (pv 0) (pa_cons (pe_op opA_add pe_int (pe_op opA_mul pe_int (pv 2))) pa_nil))))
    (pss_cons (ps_for hp rfl (pi_seq (pv 3)) (pg_name (i := 4) sc.nd rfl (Or.inl rfl)) (pss_cons (ps_set (i := 5) sc.nd rfl (Or.inl rfl) (pe_callD cis_row_name (hr.mono (by decide)) (by rfl) tk (pa_cons (pv 4) pa_nil)))
    (pss_one (ps_if ((pw_or (pt_not (pt_val (pe_callB call_isi (by rfl) B.b_isinstance (by decide +kernel) (pa_cons (pv 5) (pa_cons (pe_bltn (v := .ty "bool") (by rfl) B.b_bool (by decide +kernel) rfl) pa_nil))))) (pw_or1 (pt_cmpR (op_neD hr.units) (pv 5) (pe_callD c_law_good (hr.mono (by decide)) (by rfl) tk (pa_cons (pv 4) pa_nil)) (nomark _))))).pt (pss_one (ps_ret pe_bl)) pss_nil))))
    (pss_cons (ps_if (pt_not (pt_val (pe_callD c_law_right (hr.mono (by decide)) (by rfl) tk (pa_cons (pv 3) pa_nil)))) (pss_one (ps_ret pe_bl)) pss_nil)
    (pss_one (ps_if (pt_not (pt_val (pe_callD c_law_right (hr.mono (by decide)) (by rfl) tk (pa_cons (pe_lc (own := [("j", 6)]) (tt := tYes) rfl sc.nd (pi_range1 (by rfl) B.b_range (pa_cons (pe_callB cr_lenA (by rfl) B.b_len (by decide +kernel) (pa_cons (pv 3) pa_nil)) pa_nil)) (blkOk_by (N := Nlaw) (sc := defScope slaw) (by decide +kernel)) (fun _ _ _ _ _ => (pg_name (i := 6) sc.nd rfl (Or.inl rfl))) (fun _ _ _ _ _ => pts_nil) (fun _ _ _ _ _ => (pe_ix ix_any (pv 3) (pe_op op_sub (pe_op op_sub (pe_callB cr_lenA (by rfl) B.b_len (by decide +kernel) (pa_cons (pv 3) pa_nil)) pe_int) (pv 6)) (fun _ _ => rfl)))) pa_nil)))) (pss_one (ps_ret pe_bl)) pss_nil))))))
    (pss_one (ps_ret pe_bl)))))
end Go
set_option Elab.async false
set_option linter.all false
set_option maxRecDepth 100000
set_option maxHeartbeats 1000000
namespace Go
open PySem PySem.Spec PyProof.Rows L2 DL
theorem pr_law_cell {K : PySem.W.Frag} (W : WX) (ds : List D) (r : Res) (h : fr_law_cell ds r) : FnEnd K W (t_law_cell K W) (entry N_law_cell ds) r := by
  obtain ⟨ns, k, hk, rfl, rfl⟩ := h
  left
  show SvD K W (t_law_cell K W) [.d (.scr ns), .d (.int (k : Int)), .no, .no] _
  have h0 : EvSL K (tVar 0) [.d (.scr ns), .d (.int (k : Int)), .no, .no] (ns.map D.int) := sl_scr (ev_var rfl)
  have hc : ∀ b, decide ((k : Int) < ((ns.map D.int).length : Int)) = b → TvD K (tTest (tOp (rI0 fun i j => .bl (decide (i < j))) (tVar 1) (tCB (rLenA K) (tCons (tVar 0) tNil)))) [.d (.scr ns), .d (.int (k : Int)), .no, .no] b := fun b e =>
    tv_eq (tv_cmpI (g := fun i j => decide (i < j)) (ev_var rfl) (ev_lenL h0)) e
  unfold t_law_cell
  rw [List.length_map] at hc
  by_cases hlt : k < ns.length
  · refine sv_stop (sv_ifT (hc true (decide_eq_true (by omega))) (sv_ret ?_))
    have e1 : ns[k]? = some ns[k] := List.getElem?_eq_getElem hlt
    have e2 : cellM ns k = ns[k] := by unfold cellM; rw [e1]
    rw [e2]
    refine ev_ixL (i := (k : Int)) h0 (ev_var rfl) (atI_nat ?_)
    rw [List.getElem?_map, e1]; rfl
  · refine sv_seq (sv_ifF (hc false (decide_eq_false (by omega))) sv_next) ?_
    refine sv_seq (sv_asg ev_int) ?_
    have e1 : ns[k]? = none := List.getElem?_eq_none (by omega)
    have e2 : cellM ns k = (seedM ns + 7) * ((k : Int) + 3) * 69621 % 2147483647 := by unfold cellM; rw [e1]
    have loop := run_fold (step := Turn1 K W (gName 3) (tAsg (tOp (rI (fun _ j => 0 < j) fun i j => .int (i % j)) (tCB rIntC (tCons (tOp (rAddA K) (tOp rMulA (tVar 2) (tC (.int 31))) (tOp (rI (fun _ j => 0 < j) fun i j => .int (i % j)) (tCB rIntC (tCons (tVar 3) tNil)) (tC (.int 1000003)))) tNil)) (tC (.int 1000003))) (gName 2)))
      (fun s : Int => [.d (.scr ns), .d (.int (k : Int)), .d (.int s), .no]) (fun s d => match d with | .int c => (s * 31 + c % 1000003) % 1000003 | _ => s) (fun s => 0 ≤ s ∧ s < 1000003) (ns.map D.int) 17 (fun s d hd hs => by
        obtain ⟨c, _, rfl⟩ := List.mem_map.mp hd
        refine ⟨t1_name (sv_nx (sv_asg (ev_modI (ev_intC (ev_addI (ev_mulI (ev_var rfl) ev_int (mul_s (by omega) (by omega))) (ev_modI (ev_intC (ev_var rfl)) ev_int (by decide)))) ev_int (by decide))) [3] rfl), ?_⟩
        show 0 ≤ (s * 31 + c % 1000003) % 1000003 ∧ _
        constructor
        · exact Int.emod_nonneg _ (by decide)
        · exact Int.emod_lt_of_pos _ (by decide)) (by omega)
    have fold : ∀ (l : List Int) (s : Int), (l.map D.int).foldl (fun s d => match d with | .int c => (s * 31 + c % 1000003) % 1000003 | _ => s) s = l.foldl (fun s c => (s * 31 + c % 1000003) % 1000003) s := by
      intro l
      induction l with
      | nil => intro s; rfl
      | cons c l ih => intro s; exact ih _
    rw [fold] at loop
    refine sv_seq (sv_for (wi_seqL (wi_scr (ev_var rfl))) loop) ?_
    have b := seed_bound ns
    refine sv_retE (ev_modI (ev_intC (ev_mulI (ev_mulI (ev_addI (ev_var rfl) ev_int) (ev_addI (ev_var rfl) ev_int) (mul_s ?_ ?_)) ev_int ?_)) ev_int (by decide)) ?_
    · show _ < seedM ns + 7 ∧ seedM ns + 7 < _; omega
    · omega
    · refine mul_ok 90 64 ?_ (by decide) (by decide)
      have h1 : (seedM ns + 7).natAbs < 2 ^ 40 := by omega
      have h2 : ((k : Int) + 3).natAbs < 2 ^ 40 := by omega
      have h3 := wide_lt h1 h2
      exact Nat.lt_trans h3 (by decide)
    · rw [e2]; rfl
/-! ### digits -/
def encA (c : Int) (ss done : List Int) (rest : Int) : List Sl := [.d (.int c), .d (.lst (ss.map D.int)), .ol (done.map D.int), .d (.int rest), .no, .no, .no, .no]
abbrev tbA (K : PySem.W.Frag) : TS := (tSeq (tDrop (tBM K "list" rAppend (tVar 2) (tCons (tOp (rI (fun _ j => 0 < j) fun i j => .int (i % j)) (tCB rIntC (tCons (tVar 3) tNil)) (tVar 4)) tNil)))
    (tAsg (tOp rDivA (tCB rIntC (tCons (tVar 3) tNil)) (tVar 4)) (gName 3)))
theorem run_digA {K : PySem.W.Frag} {W : WX} (c : Int) (ss : List Int) : ∀ (rs done : List Int) (rest : Int), (∀ s ∈ rs, 0 < s ∧ s < 1073741824) → done.length + rs.length ≤ 5000 →
    Run (Turn1 K W (gName 4) (tbA K)) (rs.map D.int) (encA c ss done rest) (.nx (encA c ss (done ++ digA rest rs) (rs.foldl (· / ·) rest)))
  | [], done, rest, _, _ => by
    have e : done ++ digA rest [] = done := by simp [digA]
    rw [e]; exact .nil
  | s :: rs, done, rest, h, hl => by
    have hs := h s List.mem_cons_self
    have ih := run_digA (K := K) (W := W) c ss rs (done ++ [rest % s]) (rest / s) (fun x hx => h x (List.mem_cons_of_mem _ hx)) (by simp at hl ⊢; omega)
    have e : done ++ digA rest (s :: rs) = done ++ [rest % s] ++ digA (rest / s) rs := by simp [digA]
    rw [e, List.foldl_cons, List.map_cons]
    refine .go (t1_name (sv_nx (sv_seq (sv_app (xs := done.map D.int) rfl (ev_modI (ev_intC (ev_var rfl)) (ev_var rfl) hs.1) ?_) (sv_asg (ev_divI (ev_intC (ev_var rfl)) (ev_var rfl) hs))) [4] ?_)) ih
    · rw [List.length_map]; simp at hl; omega
    · simp [wipeS, encA]
abbrev tbB (K : PySem.W.Frag) : TS := (tSeq (tAsg (tOp (rI (fun _ j => 0 < j) fun i j => .int (i % j)) (tCB rIntC (tCons (tOp (rAddA K) (tOp (rAddA K) (tOp rMulA (tVar 5) (tC (.int 48271))) (tOp rMulA (tC (.int 974711)) (tVar 6))) (tC (.int 12345))) tNil)) (tC (.int 2147483647))) (gName 5))
    (tSeq (tAsg (tOp (rI (fun _ j => 0 < j) fun i j => .int (i % j)) (tCB rIntC (tCons (tOp rMulA (tVar 5) (tOp (rAddA K) (tOp rDivA (tVar 5) (tC (.int 65537))) (tC (.int 3)))) tNil)) (tC (.int 2147483629))) (gName 7))
    (tDrop (tBM K "list" rAppend (tVar 2) (tCons (tOp (rI (fun _ j => 0 < j) fun i j => .int (i % j)) (tOp rDivA (tVar 7) (tC (.int 19))) (tOp (rIxA K) (tVar 1) (tVar 6))) tNil)))))
def encB (c : Int) (ss : List Int) (rest seed : Int) (full : List Int) (k : Nat) : List Sl := [.d (.int c), .d (.lst (ss.map D.int)), .ol ((full.take k).map D.int), .d (.int rest), .no, .d (.int (seedIt seed 0 k)), .no, .no]
theorem pr_law_digits {K : PySem.W.Frag} (W : WX) (ds : List D) (r : Res) (h : fr_law_digits ds r) : FnEnd K W (t_law_digits K W) (entry N_law_digits ds) r := by
  obtain ⟨c, ss, hs, hl, rfl, rfl⟩ := h
  left
  show SvD K W (t_law_digits K W) [.d (.int c), .d (.lst (ss.map D.int)), .no, .no, .no, .no, .no, .no] _
  unfold t_law_digits
  refine sv_seq (sv_asgL (evl_lst (K := K) av_nil (by decide))) (sv_seq (sv_asg (ev_intC (ev_var rfl))) ?_)
  have big : (10 : Int) ^ (18 : Int).toNat = 1000000000000000000 := by decide
  have hc : ∀ b, decide ((1000000000000000000 : Int) ≤ c) = b → TvD K (tTest (tOp (rI0 fun i j => .bl (decide (j ≤ i))) (tVar 3) (tOp (rI CPow fun i j => .int (i ^ j.toNat)) (tC (.int 10)) (tC (.int 18))))) [.d (.int c), .d (.lst (ss.map D.int)), .ol [], .d (.int c), .no, .no, .no, .no] b := fun b e =>
    tv_eq (tv_cmpI (g := fun i j => decide (j ≤ i)) (ev_var rfl) (ev_eq (ev_powI ev_int ev_int ⟨by decide, by decide, by decide⟩) (by rw [big]))) e
  by_cases hb : (1000000000000000000 : Int) ≤ c
  · refine sv_stop (sv_ifT (hc true (decide_eq_true hb)) ?_)
    have e1 : digM c ss = digA (c - 1000000000000000000) ss := by unfold digM; rw [if_pos hb]
    refine sv_seq (sv_asg (ev_eq (ev_subI (ev_var rfl) (ev_powI ev_int ev_int ⟨by decide, by decide, by decide⟩)) (by rw [big]))) ?_
    refine sv_seq (sv_for (wi_seqL (wi_list (ev_var rfl))) (run_digA (K := K) (W := W) c ss ss [] (c - 1000000000000000000) hs (by simp; omega))) ?_
    refine sv_frz 2 rfl rfl (sv_retE (ev_var rfl) ?_)
    rw [e1]; rfl
  · refine sv_seq (sv_ifF (hc false (decide_eq_false hb)) sv_next) ?_
    have e1 : digM c ss = digB (c % 2147483629) 0 ss := by unfold digM; rw [if_neg hb]
    refine sv_seq (sv_asg (ev_modI (ev_intC (ev_var rfl)) ev_int (by decide))) ?_
    have b0 : 0 ≤ c % 2147483629 ∧ c % 2147483629 < 2147483647 := by omega
    generalize c % 2147483629 = seed at b0 e1
    have hn : (rngD 0 ((ss.map D.int).length : Int).toNat).length = ss.length := by rw [rngD_length]; simp
    have run := run_all (step := Turn1 K W (gName 6) (tbB K)) (encB c ss c seed (digB seed 0 ss)) (rngD 0 ((ss.map D.int).length : Int).toNat) fun k d hd => by
      have hk : k < ss.length := by rw [← hn]; exact (List.getElem?_eq_some_iff.mp hd).1
      have e2 := rngD_get hd
      rw [Int.zero_add] at e2
      subst e2
      have bs := seedIt_bound b0 0 k
      have bn := nextS_bound (seedIt seed 0 k) k
      have es : ss[k]? = some ss[k] := List.getElem?_eq_getElem hk
      have hp := hs ss[k] (List.getElem_mem hk)
      have ef := digB_get ss seed 0 k
      rw [es] at ef
      have ei : seedIt seed 0 (k + 1) = nextS (seedIt seed 0 k) k := by show nextS _ (0 + k) = _; rw [Nat.zero_add]
      refine t1_name (sv_nx (sv_seq (sv_asg (ev_modI (ev_intC (ev_addI (ev_addI (ev_mulI (ev_var rfl) ev_int (mul_s (by omega) (by omega))) (ev_mulI ev_int (ev_var rfl) (mul_s (by omega) (by omega)))) ev_int)) ev_int (by decide))) (sv_seq (sv_asg (ev_modI (ev_intC (ev_mulI (ev_var rfl) (ev_addI (ev_divI (ev_var rfl) ev_int ⟨by decide, by decide⟩) ev_int) ?_)) ev_int (by decide))) (sv_app (xs := ((digB seed 0 ss).take k).map D.int) rfl (ev_modI (ev_divI (ev_var rfl) ev_int ⟨by decide, by decide⟩) (ev_ixL (i := (k : Int)) (d := .int ss[k]) (sl_d (ev_var rfl)) (ev_var rfl) (atI_nat (by rw [List.getElem?_map, es]; rfl))) hp.1) ?_))) [6, 7] ?_)
      · have bn' : 0 ≤ (seedIt seed 0 k * 48271 + 974711 * (k : Int) + 12345) % 2147483647 ∧ (seedIt seed 0 k * 48271 + 974711 * (k : Int) + 12345) % 2147483647 < 2147483647 := bn
        exact mul_s (by omega) (by omega)
      · rw [List.length_map, List.length_take]; omega
      · have et : (digB seed 0 ss).take (k + 1) = (digB seed 0 ss).take k ++ [drawS (nextS (seedIt seed 0 k) k) / 19 % ss[k]] := by
          rw [List.take_add_one, ef, ei]; rfl
        unfold encB
        rw [et, ei, List.map_append]; rfl
    have h0 : encB c ss c seed (digB seed 0 ss) 0 = [.d (.int c), .d (.lst (ss.map D.int)), .ol [], .d (.int c), .no, .d (.int seed), .no, .no] := rfl
    rw [h0, hn] at run
    refine sv_seq (sv_for (wi_rng1 (av_cons (ev_lenL (sl_d (ev_var rfl))) av_nil) (by omega) (by rw [List.length_map]; omega)) run) ?_
    refine sv_frz 2 rfl rfl (sv_retE (ev_var rfl) ?_)
    have ee : (digB seed 0 ss).take ss.length = digB seed 0 ss := by rw [← digB_len seed 0 ss, List.take_length]
    show D.lst (((digB seed 0 ss).take ss.length).map D.int) = _
    rw [ee, e1]
end Go
set_option Elab.async false
set_option linter.all false
set_option maxRecDepth 100000
set_option maxHeartbeats 1000000
namespace Go
open PySem PySem.Spec PyProof.Rows L2 DL
/-! ### texts -/
theorem tl_app (a b : Str) : (a ++ b).cps.toList = a.cps.toList ++ b.cps.toList := by
  show (a.cps ++ b.cps).toList = _
  exact Array.toList_append
theorem len_tl (a : Str) : a.length = a.cps.toList.length := by
  show a.cps.size = _
  simp
theorem len_app (a b : Str) : (a ++ b).length = a.length + b.length := by rw [len_tl, tl_app, List.length_append, ← len_tl, ← len_tl]
theorem len_sgn (c : Nat) : (sgn c).length = 1 := rfl
theorem len_at1 (s : Str) (i : Int) : (at1 s i).length = 1 := rfl
theorem tl_join0 (l : List Str) : (Txt.join "" l).cps.toList = (l.map fun s => s.cps.toList).flatten := by
  show ((l.drop 1).foldl (fun acc p => acc ++ ("" : Str).cps ++ p.cps) (l.headD Str.empty).cps).toList = _
  have step : ∀ (r : List Str) (acc : Array Nat), (r.foldl (fun acc p => acc ++ ("" : Str).cps ++ p.cps) acc).toList = acc.toList ++ (r.map fun s => s.cps.toList).flatten := by
    intro r
    induction r with
    | nil => intro acc; simp
    | cons p r ih =>
      intro acc
      rw [List.foldl_cons, ih, List.map_cons, List.flatten_cons, Array.toList_append, Array.toList_append]
      have : ("" : Str).cps.toList = [] := rfl
      rw [this, List.append_nil, List.append_assoc]
  cases l with
  | nil => rfl
  | cons p r =>
    rw [List.drop_succ_cons, List.drop_zero, step, List.map_cons, List.flatten_cons]
    rfl
theorem len_join (l : List Str) : (Txt.join "" l).length = (l.map (·.length)).sum := by
  rw [len_tl, tl_join0, List.length_flatten, List.map_map]
  congr 1
theorem len_cut (s : Str) (lo hi : Option Int) : (cutS s lo hi).length ≤ s.length := by
  rw [len_tl, len_tl]
  show (((s.cps.toList.drop _).take _).toArray).toList.length ≤ _
  rw [List.length_take, List.length_drop]
  omega
theorem sum_ones {α : Type} (l : List α) (f : α → Str) (h : ∀ a, (f a).length = 1) : ((l.map f).map (·.length)).sum = l.length := by
  induction l with
  | nil => rfl
  | cons a l ih => rw [List.map_cons, List.map_cons, List.sum_cons, ih, h, List.length_cons]; omega
theorem ok_iff (s : Str) : PyData.strOk s = true ↔ ∀ c ∈ s.cps.toList, c < 0x110000 := by
  unfold PyData.strOk
  rw [← Array.all_toList, List.all_eq_true]
  simp
theorem ok_app {a b : Str} (ha : PyData.strOk a = true) (hb : PyData.strOk b = true) : PyData.strOk (a ++ b) = true := by
  rw [ok_iff] at *
  intro c hc
  rw [tl_app] at hc
  exact (List.mem_append.mp hc).elim (ha c) (hb c)
theorem ok_join {l : List Str} (h : ∀ s ∈ l, PyData.strOk s = true) : PyData.strOk (Txt.join "" l) = true := by
  rw [ok_iff, tl_join0]
  intro c hc
  obtain ⟨x, hx, hc⟩ := List.mem_flatten.mp hc
  obtain ⟨s, hs, rfl⟩ := List.mem_map.mp hx
  exact (ok_iff s).mp (h s hs) c hc
theorem ok_cut {s : Str} (h : PyData.strOk s = true) (lo hi : Option Int) : PyData.strOk (cutS s lo hi) = true := by
  rw [ok_iff] at *
  intro c hc
  exact h c (List.mem_of_mem_drop (List.mem_of_mem_take hc))
theorem ok_at1 {s : Str} (h : PyData.strOk s = true) (i : Int) : PyData.strOk (at1 s i) = true := by
  rw [ok_iff] at *
  intro c hc
  have e : c = s.cps.toList.getD i.toNat 0 := by
    have : c ∈ [s.cps.toList.getD i.toNat 0] := hc
    simpa using this
  rw [e, List.getD_eq_getElem?_getD]
  cases q : s.cps.toList[i.toNat]? with
  | none => simp
  | some v => exact h v (List.mem_of_getElem? q)
section
variable {K : PySem.W.Frag} {W : WX} {ρ : List Sl} {te ta tb : TE} {d : D} {i : Int} {s : Str}
/-- s[i] -/
theorem ev_at1 (ha : EvD K ta ρ (.str s)) (hb : EvD K tb ρ (.int i)) (hl : s.length ≤ 100000) (h0 : 0 ≤ i) (h1 : i < s.length) : EvD K (tOp (rIxA K) ta tb) ρ (.str (at1 s i)) := by
  refine ev_ixS ha hb hl ?_
  have lt : i.toNat < s.cps.toList.length := by rw [← len_tl]; omega
  have e : i = (i.toNat : Int) := by omega
  rw [e]
  refine atI_nat (j := i.toNat) ?_
  rw [Int.toNat_natCast, List.getD_eq_getElem?_getD, List.getElem?_eq_getElem lt]
  rfl
theorem pr_is_row_name (W : WX) (ds : List D) (r : Res) (h : fris_row_name ds r) : FnEnd K W (tis_row_name K W) (entry Nis_row_name ds) r := by
  obtain ⟨s, hl, rfl, rfl⟩ := h
  left
  show SvD K W (tis_row_name K W) [.d (.str s), .no] _
  have h0 : EvD K (tVar 0) [.d (.str s), .no] (.str s) := ev_var rfl
  have hlen : EvD K (tCB rLenS (tCons (tVar 0) tNil)) [.d (.str s), .no] (.int (s.length : Int)) := ev_lenS h0 (by omega)
  have lt := len_tl s
  unfold tis_row_name goodM
  cases hc : s.cps.toList with
  | nil =>
    rw [hc] at lt
    have z : s.length = 0 := by simpa using lt
    rw [z] at hlen
    exact sv_stop (sv_ifT (tv_or (a := true) (b := false) (tv_eq (tv_eqI hlen ev_int) rfl) (fun z => nomatch z)) (sv_retE ev_bl rfl))
  | cons c r =>
    rw [hc] at lt
    have lt' : s.length = r.length + 1 := by simpa using lt
    have t1 : TvD K (tTest (tOp (rEqD K) (tCB rLenS (tCons (tVar 0) tNil)) (tC (.int 0)))) [.d (.str s), .no] false := tv_eq (tv_eqI hlen ev_int) (by rw [lt']; exact beq_false_of_ne (by omega))
    have t2 : TvD K (tTest (tOp (rI0 fun i j => .bl (decide (j < i))) (tCB rLenS (tCons (tVar 0) tNil)) (tC (.int 10)))) [.d (.str s), .no] (decide (9 < r.length)) := tv_eq (tv_cmpI (g := fun i j => decide (j < i)) hlen ev_int) (by rw [lt']; exact decide_eq_decide.mpr (by omega))
    have e0 : EvD K (tOp (rIxA K) (tVar 0) (tC (.int 0))) [.d (.str s), .no] (.str (sgn c)) := ev_ixS h0 ev_int (by omega) (atI_nat (j := 0) (by rw [hc]; rfl))
    have t3 : TvD K (tTest (tOp rNotInS (tOp (rIxA K) (tVar 0) (tC (.int 0))) (tC (.str "abcdefghijklmnopqrstuvwxyz")))) [.d (.str s), .no] (!isLet c) := tv_test (ev_notInS e0 ev_str)
    have t := tv_or t1 fun _ => tv_or t2 fun _ => t3
    have fin : goodL (c :: r) = (if (false || (decide (9 < r.length) || !isLet c)) = true then false else ((c :: r).all fun c => isLet c || isDig c)) := by
      show (decide (r.length ≤ 9) && (isLet c && (c :: r).all fun c => isLet c || isDig c)) = _
      by_cases a : r.length ≤ 9
      · rw [decide_eq_true a, decide_eq_false (by omega)]
        cases isLet c <;> simp
      · rw [decide_eq_false a, decide_eq_true (by omega)]
        rfl
    rw [fin]
    cases hb : (false || (decide (9 < r.length) || !isLet c)) with
    | true =>
      rw [hb] at t
      exact sv_stop (sv_ifT t (sv_retE ev_bl rfl))
    | false =>
      rw [hb] at t
      refine sv_seq (sv_ifF t sv_next) ?_
      have m : EvL K (tLc (iStr (tVar 0)) (gName 1) tYes (tOrV (tOp rInS (tVar 1) (tC (.str "abcdefghijklmnopqrstuvwxyz"))) (tOp rInS (tVar 1) (tC (.str "0123456789")))) [1]) [.d (.str s), .no] ((c :: r).map fun c => D.bl (isLet c || isDig c)) :=
        evl_map (e := fun c => D.str (sgn c)) (fun c => D.bl (isLet c || isDig c)) (by rw [← hc]; exact wi_str h0) (fun c _ => ⟨[1], _, tg_name, by simp, ev_orV (ev_inS (ev_var rfl) ev_str) fun _ => ev_inS (ev_var rfl) ev_str⟩) (by rw [List.length_cons]; omega)
      have mm : EvSL K (tLc (iStr (tVar 0)) (gName 1) tYes (tOrV (tOp rInS (tVar 1) (tC (.str "abcdefghijklmnopqrstuvwxyz"))) (tOp rInS (tVar 1) (tC (.str "0123456789")))) [1]) [.d (.str s), .no] (((c :: r).map fun c => isLet c || isDig c).map D.bl) := by
        rw [List.map_map]
        exact sl_d (ev_of_L m)
      refine sv_retE (ev_all mm) ?_
      rw [List.all_map]
      simp
end
end Go
set_option Elab.async false
set_option linter.all false
set_option maxRecDepth 100000
set_option maxHeartbeats 1000000
namespace Go
open PySem PySem.Spec PyProof.Rows L2 DL
section
variable {K : PySem.W.Frag} {W : WX} {ρ : List Sl} {te ta tb : TE} {d : D} {i : Int} {s : Str}
/-! ### _law_good: sign by sign -/
abbrev tbG : TS := (tIfS (tTest (tOp rNotInS (tOp (rIxA K) (tVar 0) (tVar 1)) (tC (.str "abcdefghijklmnopqrstuvwxyz")))) (tIfS (tOr (tTest (tOp (rEqD K) (tVar 1) (tC (.int 0)))) (tTest (tOp rNotInS (tOp (rIxA K) (tVar 0) (tVar 1)) (tC (.str "0123456789"))))) (tRet (tC (.bl false))) tNext) tNext)
def badAt (k c : Nat) : Bool := !isLet c && (decide (k = 0) || !isDig c)
theorem turn_good {k c : Nat} (hl : s.length ≤ 1000) (h : s.cps.toList[k]? = some c) :
    SvD K W (tbG (K := K)) [.d (.str s), .d (.int (k : Int))] (if badAt k c = true then .rt (.bl false) else .nx [.d (.str s), .d (.int (k : Int))]) := by
  have e0 : EvD K (tOp (rIxA K) (tVar 0) (tVar 1)) [.d (.str s), .d (.int (k : Int))] (.str (sgn c)) := ev_ixS (i := (k : Int)) (ev_var rfl) (ev_var rfl) (by omega) (atI_nat h)
  have t1 : TvD K (tTest (tOp rNotInS (tOp (rIxA K) (tVar 0) (tVar 1)) (tC (.str "abcdefghijklmnopqrstuvwxyz")))) [.d (.str s), .d (.int (k : Int))] (!isLet c) := tv_test (ev_notInS e0 ev_str)
  have t2 : TvD K (tTest (tOp rNotInS (tOp (rIxA K) (tVar 0) (tVar 1)) (tC (.str "0123456789")))) [.d (.str s), .d (.int (k : Int))] (!isDig c) := tv_test (ev_notInS e0 ev_str)
  have t3 : TvD K (tTest (tOp (rEqD K) (tVar 1) (tC (.int 0)))) [.d (.str s), .d (.int (k : Int))] (decide (k = 0)) := tv_eq (tv_eqI (ev_var (i := 1) rfl) ev_int) (by rw [beqI]; exact decide_eq_decide.mpr (by omega))
  unfold badAt
  cases h1 : (!isLet c) with
  | false =>
    rw [h1] at t1
    exact sv_ifF t1 sv_next
  | true =>
    rw [h1] at t1
    refine sv_ifT t1 ?_
    have t4 := tv_or t3 fun _ => t2
    rw [Bool.true_and]
    cases h2 : (decide (k = 0) || !isDig c) with
    | true => rw [h2] at t4; exact sv_ifT t4 (sv_ret ev_bl)
    | false => rw [h2] at t4; exact sv_ifF t4 sv_next
/-- from sign k on all is well -/
def okFrom : Nat → List Nat → Bool
  | _, [] => true
  | k, c :: r => !badAt k c && okFrom (k + 1) r
theorem run_good (hl : s.length ≤ 1000) : ∀ (r : List Nat) (k : Nat), s.cps.toList.drop k = r → ∀ x : Sl, Run (Turn1 K W (gName 1) (tbG (K := K))) ((List.range' k r.length).map fun (i : Nat) => D.int (i : Int)) [.d (.str s), x] (if okFrom k r = true then .nx (if r = [] then [.d (.str s), x] else [.d (.str s), .d (.int ((k + r.length - 1 : Nat) : Int))]) else .rt (.bl false))
  | [], k, _, x => .nil
  | c :: r, k, h, x => by
    obtain ⟨h1, h2, _⟩ := drop_get h
    have t := turn_good (K := K) (W := W) hl h1
    rw [List.length_cons, List.range'_succ, List.map_cons]
    unfold okFrom
    cases hb : badAt k c with
    | true =>
      rw [hb, if_pos rfl] at t
      simp only [Bool.not_true, Bool.false_and, Bool.false_eq_true, if_false]
      exact .rt (t1_name t)
    | false =>
      rw [hb, if_neg (by simp)] at t
      simp only [Bool.not_false, Bool.true_and]
      have ih := run_good hl r (k + 1) h2 (.d (.int (k : Int)))
      have e : (if okFrom (k + 1) r = true then Out.nx (if r = [] then [.d (.str s), .d (.int (k : Int))] else [.d (.str s), .d (.int ((k + 1 + r.length - 1 : Nat) : Int))]) else .rt (.bl false)) = (if okFrom (k + 1) r = true then .nx (if c :: r = [] then [.d (.str s), x] else [.d (.str s), .d (.int ((k + (r.length + 1) - 1 : Nat) : Int))]) else .rt (.bl false)) := by
        cases r with
        | nil => simp
        | cons a r =>
          rw [if_neg (List.cons_ne_nil _ _), if_neg (List.cons_ne_nil _ _)]
          have : k + 1 + (a :: r).length - 1 = k + ((a :: r).length + 1) - 1 := by omega
          rw [this]
      rw [e] at ih
      exact .go (t1_name t) ih
theorem ok_rest : ∀ (r : List Nat) (k : Nat), 0 < k → okFrom k r = r.all fun c => isLet c || isDig c
  | [], _, _ => rfl
  | c :: r, k, h => by
    unfold okFrom
    rw [ok_rest r (k + 1) (by omega), List.all_cons]
    unfold badAt
    rw [decide_eq_false (by omega)]
    cases isLet c <;> cases isDig c <;> rfl
theorem good_ok {c : Nat} {r : List Nat} (h : r.length ≤ 9) : goodL (c :: r) = okFrom 0 (c :: r) := by
  show (decide (r.length ≤ 9) && (isLet c && (c :: r).all fun c => isLet c || isDig c)) = (!badAt 0 c && okFrom 1 r)
  rw [ok_rest r 1 (by decide), decide_eq_true h, List.all_cons]
  unfold badAt
  cases isLet c <;> cases isDig c <;> simp
theorem rng_range' (n : Nat) : rngD 0 n = (List.range' 0 n).map fun (i : Nat) => D.int (i : Int) := by
  unfold rngD
  rw [← List.range_eq_range']
  refine List.map_congr_left fun i _ => ?_
  rw [Int.zero_add]
theorem pr_law_good (W : WX) (ds : List D) (r : Res) (h : fr_law_good ds r) : FnEnd K W (t_law_good K W) (entry N_law_good ds) r := by
  obtain ⟨s, hl, rfl, rfl⟩ := h
  left
  show SvD K W (t_law_good K W) [.d (.str s), .no] _
  have hlen : EvD K (tCB rLenS (tCons (tVar 0) tNil)) [.d (.str s), .no] (.int (s.length : Int)) := ev_lenS (ev_var rfl) (by omega)
  have t := tv_or (tv_cmpI (g := fun i j => decide (i < j)) hlen (ev_int (i := 1))) fun _ => tv_cmpI (g := fun i j => decide (j < i)) hlen (ev_int (i := 10))
  have lt := len_tl s
  unfold t_law_good goodM
  by_cases hb : s.length < 1 ∨ 10 < s.length
  · have e : goodL s.cps.toList = false := by
      cases hc : s.cps.toList with
      | nil => rfl
      | cons c r =>
        rw [hc, List.length_cons] at lt
        show (decide (r.length ≤ 9) && _) = false
        rw [decide_eq_false (by omega)]; rfl
    rw [e]
    exact sv_stop (sv_ifT (tv_eq t (by simp; omega)) (sv_ret ev_bl))
  · refine sv_seq (sv_ifF (tv_eq t (by simp; omega)) sv_next) ?_
    obtain ⟨c, r, hc⟩ : ∃ c r, s.cps.toList = c :: r := by
      cases hc : s.cps.toList with
      | nil => rw [hc] at lt; simp at lt; omega
      | cons c r => exact ⟨c, r, rfl⟩
    have run := run_good (K := K) (W := W) hl (c :: r) 0 (by rw [List.drop_zero, hc]) .no
    rw [← hc, ← lt, ← rng_range'] at run
    have wi : WiD K (iRng1 (tCons (tCB rLenS (tCons (tVar 0) tNil)) tNil)) [.d (.str s), .no] (rngD 0 s.length) := by
      have := wi_rng1 (K := K) (av_cons hlen av_nil) (by omega) (by omega)
      simpa using this
    have e : goodL s.cps.toList = okFrom 0 s.cps.toList := by
      rw [hc]
      rw [hc, List.length_cons] at lt
      exact good_ok (by omega)
    rw [e]
    cases ho : okFrom 0 s.cps.toList with
    | true =>
      rw [ho, if_pos rfl] at run
      exact sv_seq (sv_for wi run) (sv_ret ev_bl)
    | false =>
      rw [ho, if_neg (by simp)] at run
      exact sv_stop (sv_for wi run)
end
end Go
set_option Elab.async false
set_option linter.all false
set_option maxRecDepth 100000
set_option maxHeartbeats 1000000
namespace Go
open PySem PySem.Spec PyProof.Rows L2 DL
section
variable {P : Program} {w : World} {K : PySem.W.Frag} {W : WX} {ρ : List Sl} {te ta tb : TE} {d : D} {i : Int} {s : Str} {ss : List Str}
theorem wi_of (h : IsSeq d ss) (h0 : ρ[0]? = some (.d d)) : WiD K (iSeq K (tVar 0)) ρ (ss.map D.str) := by
  rcases h with rfl | rfl
  · exact wi_seqL (wi_list (ev_var h0))
  · exact wi_seqT (wi_tup (ev_var h0))
theorem len_of (h : IsSeq d ss) (h0 : ρ[0]? = some (.d d)) : EvD K (tCB (rLenA K) (tCons (tVar 0) tNil)) ρ (.int (ss.length : Int)) := by
  rcases h with rfl | rfl
  · exact ev_eq (ev_lenL (sl_d (ev_var h0))) (by rw [List.length_map])
  · exact ev_eq (ev_lenT (st_d (ev_var h0))) (by rw [List.length_map])
theorem sort_of (h : IsSeq d ss) (hz : ss.length ≤ 100) (h0 : ρ[0]? = some (.d d)) : EvD K (tCB (rTupC K) (tCons (tCB (rSortS K) (tCons (tVar 0) tNil)) tNil)) ρ (sortedD ss) := by
  rcases h with rfl | rfl
  · exact ev_tupL (sl_d (ev_of_L (evl_sortSL (sl_d (ev_var h0)) (by omega))))
  · exact ev_tupL (sl_d (ev_of_L (evl_sortST (st_d (ev_var h0)) (by omega))))
/-! ### different_names -/
abbrev tbN1 (K : PySem.W.Frag) (W : WX) : TS := (tIfS (tNot (tB (tCallS (SpF K Pis_row_name.length fris_row_name) (WE W) (tCons (tVar 1) tNil)))) (tRaiseI (He.ga K "BadName") (SpI (He.ga K "BadName") ["name"]) (tCons (tVar 1) tNil) W) tNext)
abbrev tbN2 (P : Program) (w : World) (K : PySem.W.Frag) (W : WX) : TS := (tSeq (tIfS (tTest (tOp (rSInK P w false) (tVar 1) (tVar 2))) (tRaiseI (He.ga K "RowTwice") (SpI (He.ga K "RowTwice") ["name"]) (tCons (tVar 1) tNil) W) tNext)
    (tDrop (tSAddK P w (tVar 2) (tCons (tVar 1) tNil))))
theorem run_names1 (d : D) : ∀ r : List Str, (∀ s ∈ r, StOk s) → Run (Turn1 K W (gName 1) (tbN1 K W)) (r.map D.str) [.d d, .no, .no] (match badF r with
    | some s => .er (He.ga K "BadName") [("name", .str s)] [.d d, .d (.str s), .no]
    | none => .nx [.d d, .no, .no])
  | [], _ => .nil
  | s :: r, h => by
    have ih := run_names1 d r fun x hx => h x (List.mem_cons_of_mem _ hx)
    have t : TvD K (tNot (tB (tCallS (SpF K Pis_row_name.length fris_row_name) (WE W) (tCons (tVar 1) tNil)))) [.d d, .d (.str s), .no] (!goodM s) := tv_not (tv_B (ev_call (av_cons (ev_var rfl) av_nil) ⟨s, (h s List.mem_cons_self).2, rfl, rfl⟩))
    rw [List.map_cons]
    unfold badF at ih ⊢
    rw [List.find?_cons]
    cases hg : (!goodM s) with
    | true =>
      rw [hg] at t
      exact .er (t1_name (sv_ifT t (sv_raiseI (av_cons (ev_var rfl) av_nil))))
    | false =>
      rw [hg] at t
      exact .go (t1_name (sv_nx (sv_ifF t sv_next) [1] rfl)) ih
def setS (pre : List Str) : Key → Bool := fun j => pre.any fun s => decide (j = .inr s)
theorem setS_at (pre : List Str) (s : Str) : setS pre (.inr s) = decide (s ∈ pre) := by
  unfold setS
  rw [Bool.eq_iff_iff, List.any_eq_true, decide_eq_true_eq]
  constructor
  · rintro ⟨x, hx, e⟩
    have := of_decide_eq_true e
    cases this; exact hx
  · intro h; exact ⟨s, h, decide_eq_true rfl⟩
theorem setS_add (pre : List Str) (s : Str) : setS (pre ++ [s]) = fun j => setS pre j || decide (j = .inr s) := by
  funext j
  unfold setS
  rw [List.any_append]
  simp
theorem step_names2 (d : D) {s : Str} {pre : List Str} (hl : pre.length ≤ 1000) (h : s ∉ pre) :
    SvD K W (tbN2 P w K W) [.d d, .d (.str s), SetD P w (setS pre) pre.length] (.nx [.d d, .d (.str s), SetD P w (setS (pre ++ [s])) (pre ++ [s]).length]) := by
  have t : TvD K (tTest (tOp (rSInK P w false) (tVar 1) (tVar 2))) [.d d, .d (.str s), SetD P w (setS pre) pre.length] false := tv_eq (tv_inSet (k := .inr s) rfl (ev_var rfl)) (by rw [setS_at]; exact decide_eq_false h)
  refine sv_seq (sv_ifF t sv_next) ?_
  refine sv_to (sv_addSet (k := .inr s) (S := setS pre) (n := pre.length) rfl (ev_var rfl) (by have : scanBound = 4096 := rfl; omega)) ?_
  rw [setS_at, decide_eq_false h, List.length_append, setS_add]
  rfl
theorem stop_names2 (d : D) {s : Str} {pre : List Str} (h : s ∈ pre) :
    SvD K W (tbN2 P w K W) [.d d, .d (.str s), SetD P w (setS pre) pre.length] (.er (He.ga K "RowTwice") [("name", .str s)] [.d d, .d (.str s), SetD P w (setS pre) pre.length]) := by
  have t : TvD K (tTest (tOp (rSInK P w false) (tVar 1) (tVar 2))) [.d d, .d (.str s), SetD P w (setS pre) pre.length] true := tv_eq (tv_inSet (k := .inr s) rfl (ev_var rfl)) (by rw [setS_at]; exact decide_eq_true h)
  exact sv_stop (sv_ifT t (sv_raiseI (av_cons (ev_var rfl) av_nil)))
theorem run_names2 (d : D) : ∀ (r pre : List Str), pre.length + r.length ≤ 1000 → ∃ o, Run (Turn1 K W (gName 1) (tbN2 P w K W)) (r.map D.str) [.d d, .no, SetD P w (setS pre) pre.length] o ∧ (match twiceP pre r with
    | some s => ∃ ρ', o = .er (He.ga K "RowTwice") [("name", .str s)] ρ'
    | none => o = .nx [.d d, .no, SetD P w (setS (pre ++ r)) (pre ++ r).length])
  | [], pre, _ => ⟨_, .nil, by rw [List.append_nil]; rfl⟩
  | s :: r, pre, hl => by
    rw [List.length_cons] at hl
    unfold twiceP
    by_cases h : s ∈ pre
    · rw [if_pos h]
      exact ⟨_, .er (t1_name (stop_names2 d h)), _, rfl⟩
    · rw [if_neg h]
      obtain ⟨o, ro, ho⟩ := run_names2 d r (pre ++ [s]) (by rw [List.length_append]; simp; omega)
      refine ⟨o, .go (t1_name (sv_nx (step_names2 d (by omega) h) [1] rfl)) ro, ?_⟩
      rw [List.append_assoc] at ho
      exact ho
theorem pr_different_names (W : WX) (ds : List D) (r : Res) (h : frdifferent_names K ds r) : FnEnd K W (tdifferent_names P w K W) (entry Ndifferent_names ds) r := by
  obtain ⟨d, ss, hd, hs, rfl, rfl⟩ := h
  left
  have run1 := run_names1 (K := K) (W := W) d ss hs.2
  unfold rowRes
  cases hb : badF ss with
  | some s =>
    rw [hb] at run1
    refine ⟨[.d d, .d (.str s), .no], ?_⟩
    show SvD K W (tdifferent_names P w K W) [.d d, .no, .no] _
    unfold tdifferent_names
    exact sv_stop (sv_for (wi_of hd rfl) run1)
  | none =>
    rw [hb] at run1
    obtain ⟨o, ro, ho⟩ := run_names2 (P := P) (w := w) (K := K) (W := W) d ss [] (by have := hs.1; simp; omega)
    have pre : ∀ {o'}, SvD K W (tSeq (tFor (iSeq K (tVar 0)) (gName 1) (tbN2 P w K W)) (tRet (tCB (rTupC K) (tCons (tCB (rSortS K) (tCons (tVar 0) tNil)) tNil)))) [.d d, .no, SetD P w (setS []) 0] o' → SvD K W (tdifferent_names P w K W) [.d d, .no, .no] o' := fun q => by
      unfold tdifferent_names
      exact sv_seq (sv_for (wi_of hd rfl) run1) (sv_seq (sv_asgSet (P := P) (w := w)) q)
    cases ht : twiceP [] ss with
    | some s =>
      rw [ht] at ho
      obtain ⟨ρ', rfl⟩ := ho
      exact ⟨ρ', pre (sv_stop (sv_for (wi_of hd rfl) ro))⟩
    | none =>
      rw [ht] at ho
      subst ho
      exact pre (sv_seq (sv_for (wi_of hd rfl) ro) (sv_ret (sort_of hd hs.1 rfl)))
theorem pr_row_set (W : WX) (ds : List D) (r : Res) (h : frrow_set K ds r) : FnEnd K W (trow_set K W) (entry Nrow_set ds) r := by
  obtain ⟨d, ss, hd, hs, rfl, rfl⟩ := h
  left
  have hl : EvD K (tCB (rLenA K) (tCons (tVar 0) tNil)) [.d d] (.int (ss.length : Int)) := len_of hd rfl
  unfold askRes
  by_cases z : ss = []
  · rw [if_pos z]
    refine ⟨[.d d], ?_⟩
    show SvD K W (trow_set K W) [.d d] _
    unfold trow_set
    exact sv_stop (sv_ifT (tv_eq (tv_eqI hl ev_int) (by rw [z]; rfl)) sv_raiseD)
  · rw [if_neg z]
    have ne : ss.length ≠ 0 := fun e => z (List.length_eq_zero_iff.mp e)
    have t : TvD K (tTest (tOp (rEqD K) (tCB (rLenA K) (tCons (tVar 0) tNil)) (tC (.int 0)))) [.d d] false := tv_eq (tv_eqI hl ev_int) (beq_false_of_ne (by omega))
    have a : AvD K (tCons (tVar 0) tNil) [.d d] [d] := av_cons (ev_var rfl) av_nil
    have f : frdifferent_names K [d] (rowRes K ss) := ⟨d, ss, hd, hs, rfl, rfl⟩
    cases hr : rowRes K ss with
    | ok x =>
      rw [hr] at f
      show SvD K W (trow_set K W) [.d d] _
      unfold trow_set
      exact sv_seq (sv_ifF t sv_next) (sv_ret (ev_call a f))
    | er C fs =>
      rw [hr] at f
      refine ⟨[.d d], ?_⟩
      show SvD K W (trow_set K W) [.d d] _
      unfold trow_set
      exact sv_seq (sv_ifF t sv_next) (sv_retEr a f)
/-! ### _law_due -/
abbrev tbD1 (K : PySem.W.Frag) (W : WX) : TS := (tIfS (tNot (tB (tCallS (SpF K P_law_good.length fr_law_good) (WE W) (tCons (tVar 1) tNil)))) (tRet (tLst (tCons (tLst (tCons (tC (.int 4)) tNil)) (tCons (tVar 1) tNil)))) tNext)
abbrev tbD2 (K : PySem.W.Frag) : TS := (tIfS (tTest (tOp (rIn K false) (tOp (rIxA K) (tVar 0) (tVar 2)) (tSl (rSlAny K) (tVar 0) tNoPart (tPart (tVar 2))))) (tRet (tLst (tCons (tLst (tCons (tC (.int 5)) tNil)) (tCons (tOp (rIxA K) (tVar 0) (tVar 2)) tNil)))) tNext)
theorem ev_pair {x y : D} (h1 : EvD K ta ρ x) (h2 : EvD K tb ρ y) : EvD K (tLst (tCons ta (tCons tb tNil))) ρ (.lst [x, y]) := ev_of_L (evl_lst (av_cons h1 (av_cons h2 av_nil)) le2)
theorem ev_one (h : EvD K ta ρ d) : EvD K (tLst (tCons ta tNil)) ρ (.lst [d]) := ev_of_L (evl_lst (av_cons h av_nil) le1)
theorem run_due1 (d : D) : ∀ r : List Str, (∀ s ∈ r, StOk s) → Run (Turn1 K W (gName 1) (tbD1 K W)) (r.map D.str) [.d d, .no, .no] (match badF r with
    | some s => .rt (.lst [.lst [.int 4], .str s])
    | none => .nx [.d d, .no, .no])
  | [], _ => .nil
  | s :: r, h => by
    have ih := run_due1 d r fun x hx => h x (List.mem_cons_of_mem _ hx)
    have t : TvD K (tNot (tB (tCallS (SpF K P_law_good.length fr_law_good) (WE W) (tCons (tVar 1) tNil)))) [.d d, .d (.str s), .no] (!goodM s) := tv_not (tv_B (ev_call (av_cons (ev_var rfl) av_nil) ⟨s, (h s List.mem_cons_self).2, rfl, rfl⟩))
    rw [List.map_cons]
    unfold badF at ih ⊢
    rw [List.find?_cons]
    cases hg : (!goodM s) with
    | true =>
      rw [hg] at t
      exact .rt (t1_name (sv_ifT t (sv_ret (ev_pair (ev_one ev_int) (ev_var rfl)))))
    | false =>
      rw [hg] at t
      exact .go (t1_name (sv_nx (sv_ifF t sv_next) [1] rfl)) ih
theorem cut_take {α : Type} (xs : List α) {k : Nat} (h : k ≤ xs.length) : DL.cutD xs none (some (k : Int)) = xs.take k := by
  unfold DL.cutD
  rw [HT.sIx_none, HT.sIx_nat, List.drop_zero, Nat.sub_zero, Nat.min_eq_left h]
theorem run_due2 (ss : List Str) (hs : ss.length ≤ 100) : ∀ (r pre : List Str), pre ++ r = ss → Run (Turn1 K W (gName 2) (tbD2 K)) ((List.range' pre.length r.length).map fun (i : Nat) => D.int (i : Int)) [.d (.lst (ss.map D.str)), .no, .no] (match twiceP pre r with
    | some s => .rt (.lst [.lst [.int 5], .str s])
    | none => .nx [.d (.lst (ss.map D.str)), .no, .no])
  | [], pre, _ => .nil
  | s :: r, pre, e => by
    have hk : (ss.map D.str)[pre.length]? = some (.str s) := by
      rw [← e, List.map_append, List.getElem?_append_right (by rw [List.length_map]; omega), List.length_map, Nat.sub_self]; rfl
    have lt : pre.length < ss.length := by rw [← e, List.length_append, List.length_cons]; omega
    have e1 : EvD K (tOp (rIxA K) (tVar 0) (tVar 2)) [.d (.lst (ss.map D.str)), .no, .d (.int (pre.length : Int))] (.str s) := ev_ixL (i := (pre.length : Int)) (sl_d (ev_var rfl)) (ev_var rfl) (atI_nat hk)
    have e2 : EvSL K (tSl (rSlAny K) (tVar 0) tNoPart (tPart (tVar 2))) [.d (.lst (ss.map D.str)), .no, .d (.int (pre.length : Int))] (pre.map D.str) := by
      have := sl_d (ev_of_L (evl_slL (K := K) (ρ := [.d (.lst (ss.map D.str)), .no, .d (.int (pre.length : Int))]) (sl_d (ev_var (i := 0) rfl)) po_no (po_is (ev_var (i := 2) rfl))))
      have tk : ss.take pre.length = pre := by rw [← e, List.take_left]
      rw [cut_take _ (by rw [List.length_map]; omega), ← List.map_take, tk] at this
      exact this
    have t := tv_test (ev_inL e1 e2)
    rw [List.length_cons, List.range'_succ, List.map_cons]
    unfold twiceP
    by_cases h : s ∈ pre
    · rw [if_pos h]
      rw [decide_eq_true h] at t
      exact .rt (t1_name (sv_ifT t (sv_ret (ev_pair (ev_one ev_int) e1))))
    · rw [if_neg h]
      rw [decide_eq_false h] at t
      have ih := run_due2 ss hs r (pre ++ [s]) (by rw [List.append_assoc]; exact e)
      rw [List.length_append] at ih
      exact .go (t1_name (sv_nx (sv_ifF t sv_next) [2] rfl)) ih
theorem pr_law_due (W : WX) (ds : List D) (r : Res) (h : fr_law_due ds r) : FnEnd K W (t_law_due K W) (entry N_law_due ds) r := by
  obtain ⟨ss, hs, rfl, rfl⟩ := h
  left
  show SvD K W (t_law_due K W) [.d (.lst (ss.map D.str)), .no, .no] _
  have hd : IsSeq (.lst (ss.map D.str)) ss := .inl rfl
  have hl : EvD K (tCB (rLenA K) (tCons (tVar 0) tNil)) [.d (.lst (ss.map D.str)), .no, .no] (.int (ss.length : Int)) := len_of hd rfl
  have run1 := run_due1 (K := K) (W := W) (.lst (ss.map D.str)) ss hs.2
  have run2 := run_due2 (K := K) (W := W) ss hs.1 ss [] rfl
  have wi : WiD K (iRng1 (tCons (tCB (rLenA K) (tCons (tVar 0) tNil)) tNil)) [.d (.lst (ss.map D.str)), .no, .no] ((List.range' 0 ss.length).map fun (i : Nat) => D.int (i : Int)) := by
    rw [← rng_range']
    have := wi_rng1 (K := K) (av_cons hl av_nil) (by omega) (by have := hs.1; omega)
    simpa using this
  unfold t_law_due dueD kindOf worthOf
  by_cases z : ss = []
  · rw [if_pos z, if_pos z]
    exact sv_stop (sv_ifT (tv_eq (tv_eqI hl ev_int) (by rw [z]; rfl)) (sv_ret (ev_pair (ev_one ev_int) ev_non)))
  · rw [if_neg z, if_neg z]
    have ne : ss.length ≠ 0 := fun e => z (List.length_eq_zero_iff.mp e)
    refine sv_seq (sv_ifF (tv_eq (tv_eqI hl ev_int) (beq_false_of_ne (by omega))) sv_next) ?_
    cases hb : badF ss with
    | some s =>
      rw [hb] at run1
      exact sv_stop (sv_for (wi_of hd rfl) run1)
    | none =>
      rw [hb] at run1
      refine sv_seq (sv_for (wi_of hd rfl) run1) ?_
      cases ht : twiceP [] ss with
      | some s =>
        rw [ht] at run2
        exact sv_stop (sv_for wi run2)
      | none =>
        rw [ht] at run2
        refine sv_seq (sv_for wi run2) (sv_ret (ev_pair (ev_of_L (evl_lst av_nil (by decide))) (sort_of hd hs.1 rfl)))
end
end Go
set_option Elab.async false
set_option linter.all false
set_option maxRecDepth 100000
set_option maxHeartbeats 1000000
namespace Go
open PySem PySem.Spec PyProof.Rows L2 DL
section
variable {K : PySem.W.Frag} {W : WX} {ρ : List Sl} {te ta tb : TE} {d : D} {i : Int} {s : Str} {ss : List Str}
/-! ### _law_kinds, by whatever reading of isinstance -/
abbrev tKinds (K : PySem.W.Frag) (IS : V → TE) : TS :=
  (tSeq (tAsg (tLst (tCons (IS (.ref (clsA K 0))) (tCons (IS (.ref (clsA K 1))) (tCons (IS (.ref (clsA K 2))) (tCons (IS (.ref (clsA K 3))) tNil))))) (gName 1))
    (tSeq (tAsg (tOp (rAddA K) (tVar 1) (tLst (tCons (IS (.ref (clsA K 4))) (tCons (IS (.ref (clsA K 5))) (tCons (IS (.ref (clsA K 6))) (tCons (IS (.ref (clsA K 7))) tNil)))))) (gName 1))
    (tSeq (tAsg (tOp (rAddA K) (tVar 1) (tLst (tCons (IS (.ref (clsA K 8))) (tCons (IS (.ref (clsA K 9))) (tCons (IS (.ref (clsA K 10))) tNil))))) (gName 1))
    (tSeq (tAsg (tOp (rAddA K) (tVar 1) (tLst (tCons (IS (.ref (clsA K 11))) (tCons (IS (.ref (clsA K 12))) (tCons (IS (.ref (clsA K 13))) (tCons (IS (.ref (clsA K 14))) tNil)))))) (gName 1))
    (tSeq (tAsg (tOp (rAddA K) (tVar 1) (tLst (tCons (IS (.ref (clsA K 15))) (tCons (IS (.ref (clsA K 16))) (tCons (IS (.ref (clsA K 17))) tNil))))) (gName 1))
    (tSeq (tAsg (tOp (rAddA K) (tVar 1) (tLst (tCons (IS (.ref (clsA K 18))) (tCons (IS (.ref (clsA K 19))) (tCons (IS (.ref (clsA K 20))) tNil))))) (gName 1))
    (tSeq (tAsg (tOp (rAddA K) (tVar 1) (tLst (tCons (IS (.ref (clsA K 21))) (tCons (IS (.ref (clsA K 22))) (tCons (IS (.ref (clsA K 23))) tNil))))) (gName 1))
    (tSeq (tAsg (tOp (rAddA K) (tVar 1) (tLst (tCons (IS (.ref (clsA K 24))) (tCons (IS (.ref (clsA K 25))) (tCons (IS (.ref (clsA K 26))) tNil))))) (gName 1))
    (tSeq (tAsg (tOp (rAddA K) (tVar 1) (tLst (tCons (IS (.ref (clsA K 27))) (tCons (IS (.ref (clsA K 28))) (tCons (IS (.ref (clsA K 29))) tNil))))) (gName 1))
    (tSeq (tIfS (tOr (tNot (tB (IS (.ref (He.ga K "RowError"))))) (tNot (tB (IS (.ty "ValueError"))))) (tRet (tC .non)) tNext)
    (tRet (tLc (iRng1 (tCons (tCB (rLenA K) (tCons (tVar 1) tNil)) tNil)) (gName 2) (tB (tOp (rIxA K) (tVar 1) (tVar 2))) (tVar 2) [2]))))))))))))
theorem filt_k : ∀ k, k < 30 → ((List.range 30).filter fun i => decide (k = i)) = [k] := by decide
def bk (k j : Nat) : D := .bl (decide (k = j))
theorem row0 {ts : TA} {e : D} {ys : List D} (hy : AvD K ts [.d e, .no, .no] ys) (hl : ys.length ≤ 10) : SvD K W (tAsg (tLst ts) (gName 1)) [.d e, .no, .no] (.nx [.d e, .d (.lst ys), .no]) :=
  sv_asg (i := 1) (ev_of_L (evl_lst hy (by omega)))
theorem rowA {ts : TA} {e : D} {xs ys : List D} (hy : AvD K ts [.d e, .d (.lst xs), .no] ys) (hl : ys.length ≤ 10) (hx : xs.length ≤ 100) :
    SvD K W (tAsg (tOp (rAddA K) (tVar 1) (tLst ts)) (gName 1)) [.d e, .d (.lst xs), .no] (.nx [.d e, .d (.lst (xs ++ ys)), .no]) :=
  sv_asg (i := 1) (ev_of_L (evl_addL (ev_var rfl) (ev_of_L (evl_lst hy (by omega))) (by omega)))
theorem av3 {t0 t1 t2 : TE} {x y z : D} (h0 : EvD K t0 ρ x) (h1 : EvD K t1 ρ y) (h2 : EvD K t2 ρ z) : AvD K (tCons t0 (tCons t1 (tCons t2 tNil))) ρ [x, y, z] := av_cons h0 (av_cons h1 (av_cons h2 av_nil))
theorem av4 {t0 t1 t2 t3 : TE} {x y z u : D} (h0 : EvD K t0 ρ x) (h1 : EvD K t1 ρ y) (h2 : EvD K t2 ρ z) (h3 : EvD K t3 ρ u) : AvD K (tCons t0 (tCons t1 (tCons t2 (tCons t3 tNil)))) ρ [x, y, z, u] := av_cons h0 (av3 h1 h2 h3)
theorem l30 (k : Nat) : [bk k 0, bk k 1, bk k 2, bk k 3] ++ [bk k 4, bk k 5, bk k 6, bk k 7] ++ [bk k 8, bk k 9, bk k 10] ++ [bk k 11, bk k 12, bk k 13, bk k 14] ++ [bk k 15, bk k 16, bk k 17] ++ [bk k 18, bk k 19, bk k 20] ++ [bk k 21, bk k 22, bk k 23] ++ [bk k 24, bk k 25, bk k 26] ++ [bk k 27, bk k 28, bk k 29] = (List.range 30).map (bk k) := rfl
theorem kinds_end {IS : V → TE} {e : D} {k : Nat} (hk : k < 30) (hr : ∀ ρ : List Sl, ρ[0]? = some (.d e) → EvD K (IS (.ref (He.ga K "RowError"))) ρ (.bl true)) (hv : ∀ ρ : List Sl, ρ[0]? = some (.d e) → EvD K (IS (.ty "ValueError")) ρ (.bl true)) :
    SvD K W (tSeq (tIfS (tOr (tNot (tB (IS (.ref (He.ga K "RowError"))))) (tNot (tB (IS (.ty "ValueError"))))) (tRet (tC .non)) tNext)
    (tRet (tLc (iRng1 (tCons (tCB (rLenA K) (tCons (tVar 1) tNil)) tNil)) (gName 2) (tB (tOp (rIxA K) (tVar 1) (tVar 2))) (tVar 2) [2]))) [.d e, .d (.lst ((List.range 30).map (bk k))), .no] (.rt (.lst [.int (k : Int)])) := by
  refine sv_seq (sv_ifF (tv_or (a := false) (b := false) (tv_not (tv_B (hr _ rfl))) fun _ => tv_not (tv_B (hv _ rfl))) sv_next) ?_
  have hl : EvD K (tCB (rLenA K) (tCons (tVar 1) tNil)) [.d e, .d (.lst ((List.range 30).map (bk k))), .no] (.int (30 : Int)) := ev_eq (ev_lenL (sl_d (ev_var rfl))) (by rw [List.length_map, List.length_range]; rfl)
  have wi : WiD K (iRng1 (tCons (tCB (rLenA K) (tCons (tVar 1) tNil)) tNil)) [.d e, .d (.lst ((List.range 30).map (bk k))), .no] ((List.range 30).map fun (i : Nat) => D.int (0 + (i : Int))) := wi_rng1 (av_cons hl av_nil) (by decide) (by decide)
  have f := evl_filter (K := K) (g := gName 2) (vs := [2]) (te := tVar 2) (tt := tB (tOp (rIxA K) (tVar 1) (tVar 2))) (as := List.range 30) (e := fun (i : Nat) => D.int (0 + (i : Int))) (fun i => decide (k = i)) (fun (i : Nat) => D.int (0 + (i : Int)))
    wi (fun i hi => ⟨[2], _, tg_name, by simp, tv_B (ev_ixL (i := ((i : Nat) : Int)) (ds := (List.range 30).map (bk k)) (sl_d (ev_var rfl)) (ev_eq (ev_var (i := 2) rfl) (by rw [Int.zero_add])) (atI_nat (by
      rw [List.getElem?_map, List.getElem?_range (List.mem_range.mp hi)]; rfl))), fun _ => ev_var rfl⟩) (by simp)
  refine sv_retE (ev_of_L f) ?_
  rw [filt_k k hk]
  simp
theorem kinds_body {IS : V → TE} {e : D} {k : Nat} (hk : k < 30) (hj : ∀ ρ : List Sl, ρ[0]? = some (.d e) → ∀ j, j < 30 → EvD K (IS (.ref (clsA K j))) ρ (bk k j))
    (hr : ∀ ρ : List Sl, ρ[0]? = some (.d e) → EvD K (IS (.ref (He.ga K "RowError"))) ρ (.bl true)) (hv : ∀ ρ : List Sl, ρ[0]? = some (.d e) → EvD K (IS (.ty "ValueError")) ρ (.bl true)) :
    SvD K W (tKinds K IS) [.d e, .no, .no] (.rt (.lst [.int (k : Int)])) := by
  refine sv_seq (row0 (av4 (hj _ rfl 0 (by decide)) (hj _ rfl 1 (by decide)) (hj _ rfl 2 (by decide)) (hj _ rfl 3 (by decide))) (by simp)) ?_
  refine sv_seq (rowA (av4 (hj _ rfl 4 (by decide)) (hj _ rfl 5 (by decide)) (hj _ rfl 6 (by decide)) (hj _ rfl 7 (by decide))) (by simp) (by simp)) ?_
  refine sv_seq (rowA (av3 (hj _ rfl 8 (by decide)) (hj _ rfl 9 (by decide)) (hj _ rfl 10 (by decide))) (by simp) (by simp)) ?_
  refine sv_seq (rowA (av4 (hj _ rfl 11 (by decide)) (hj _ rfl 12 (by decide)) (hj _ rfl 13 (by decide)) (hj _ rfl 14 (by decide))) (by simp) (by simp)) ?_
  refine sv_seq (rowA (av3 (hj _ rfl 15 (by decide)) (hj _ rfl 16 (by decide)) (hj _ rfl 17 (by decide))) (by simp) (by simp)) ?_
  refine sv_seq (rowA (av3 (hj _ rfl 18 (by decide)) (hj _ rfl 19 (by decide)) (hj _ rfl 20 (by decide))) (by simp) (by simp)) ?_
  refine sv_seq (rowA (av3 (hj _ rfl 21 (by decide)) (hj _ rfl 22 (by decide)) (hj _ rfl 23 (by decide))) (by simp) (by simp)) ?_
  refine sv_seq (rowA (av3 (hj _ rfl 24 (by decide)) (hj _ rfl 25 (by decide)) (hj _ rfl 26 (by decide))) (by simp) (by simp)) ?_
  refine sv_seq (rowA (av3 (hj _ rfl 27 (by decide)) (hj _ rfl 28 (by decide)) (hj _ rfl 29 (by decide))) (by simp) (by simp)) ?_
  rw [l30]
  exact kinds_end hk hr hv
theorem pr_law_kinds (kf : KF K) (W : WX) (ds : List D) (r : Res) (h : fr_law_kinds K ds r) : FnEnd K W (t_law_kinds K W) (entry N_law_kinds ds) r := by
  obtain ⟨k, ns, xs, hk, rfl, rfl⟩ := h
  left
  exact kinds_body (IS := fun v => tCB (rIsV K) (tCons (tVar 0) (tCons (tC v) tNil))) (e := .exc (clsA K k) ns xs) hk (fun ρ h0 j hj => ev_isV (ev_var h0) (kf.ex k hk) ev_cls cv_cls (kf.kit k j hk hj))
    (fun ρ h0 => ev_isV (ev_var h0) (kf.ex k hk) ev_cls cv_cls (kf.re k hk)) (fun ρ h0 => ev_isV (ev_var h0) (kf.ex k hk) ev_ty cv_ty (kf.ve k hk))
theorem pr_law_kindsX (kf : KF K) (W : WX) (a : Addr) (d : Option Addr) (C : Addr) (ds : List D) (r : Res) (h : fr_law_kindsX K a d C ds r) : FnEnd K W (t_law_kindsX K a (.ref C) d W) (entry N_law_kinds ds) r := by
  obtain ⟨k, ns, xs, hk, rfl, rfl, rfl⟩ := h
  left
  exact kinds_body (IS := fun v => tCB (rIsP K a (.ref (clsA K k)) d) (tCons (tVar 0) (tCons (tC v) tNil))) (e := .hx a d ns xs) hk (fun ρ h0 j hj => ev_isP (ev_var h0) (kf.ex k hk) ev_cls cv_cls (kf.kit k j hk hj))
    (fun ρ h0 => ev_isP (ev_var h0) (kf.ex k hk) ev_cls cv_cls (kf.re k hk)) (fun ρ h0 => ev_isP (ev_var h0) (kf.ex k hk) ev_ty cv_ty (kf.ve k hk))
/-! ### _law_equal -/
theorem kit_two {nm : String} {b1 b2 : Bool} (h1 : kitB nm "list" = some b1) (h2 : kitB nm "tuple" = some b2) : PySem.W.kitAny K (.type nm) [.type "list", .type "tuple"] = some (b1 || b2) := by
  refine kitAny_cons (kit_ty h1) (fun e => ?_) fun e => by rw [e]; rfl
  refine kitAny_cons (kit_ty h2) (fun e2 => ?_) fun e2 => by rw [e2, Bool.or_true]
  rw [e, e2]; rfl
theorem EqD.ty {n : Nat} {x : D} (h : EqD n x) : x.tyOk = true := by cases h <;> rfl
theorem ev_two {x : D} (h : x.tyOk = true) (ha : EvD K ta ρ x) : EvD K (tCB (rIsiT K) (tCons ta (tCons (tTup (tCons (tC (.ty "list")) (tCons (tC (.ty "tuple")) tNil))) tNil))) ρ (.bl (isLst x || isTup x)) := ev_isiT ha h (kit_two (kit_list h) (kit_tuple h))
abbrev tbE (K : PySem.W.Frag) (frS : List D → Res → Prop) (W : WX) : TS := (tIfS (tNot (tB (tCallS (SpF K P_law_equal.length frS) (WE W) (tCons (tOp (rIxA K) (tVar 0) (tVar 2)) (tCons (tOp (rIxA K) (tVar 1) (tVar 2)) tNil))))) (tRet (tC (.bl false))) tNext)
theorem sh_int (i : Int) : (D.int i).ok = true := rfl
theorem pr_law_equal (n : Nat) (frS : List D → Res → Prop) (hS : ∀ m, n = m + 1 → frS = frE m) (W : WX) (ds : List D) (r : Res) (h : frE n ds r) : FnEnd K W (t_law_equal K frS W) (entry N_law_equal ds) r := by
  obtain ⟨x, hx, rfl, rfl⟩ := h
  left
  show SvD K W (t_law_equal K frS W) [.d x, .d x, .no] _
  have h0 : EvD K (tVar 0) [.d x, .d x, .no] x := ev_var rfl
  have h1 : EvD K (tVar 1) [.d x, .d x, .no] x := ev_var rfl
  have two := ev_two hx.ty h1
  have lst0 := ev_isi h0 hx.ty (kit_list hx.ty)
  have lst1 := ev_isi h1 hx.ty (kit_list hx.ty)
  have tup0 := ev_isi h0 hx.ty (kit_tuple hx.ty)
  have tup1 := ev_isi h1 hx.ty (kit_tuple hx.ty)
  have same : TvD K (tOr (tTest (tOp (rNeD K) (tCB (rIsi K) (tCons (tVar 0) (tCons (tC (.ty "list")) tNil))) (tCB (rIsi K) (tCons (tVar 1) (tCons (tC (.ty "list")) tNil))))) (tTest (tOp (rNeD K) (tCB (rIsi K) (tCons (tVar 0) (tCons (tC (.ty "tuple")) tNil))) (tCB (rIsi K) (tCons (tVar 1) (tCons (tC (.ty "tuple")) tNil)))))) [.d x, .d x, .no] false :=
    tv_or (a := false) (b := false) (tv_eq (tv_neD lst0 lst1 rfl rfl) (by cases isLst x <;> rfl)) fun _ => tv_eq (tv_neD tup0 tup1 rfl rfl) (by cases isTup x <;> rfl)
  unfold t_law_equal
  -- a sequence, item by item
  have seq : ∀ {m : Nat} {xs : List D}, n = m + 1 → (∀ y ∈ xs, EqD m y) → xs.length ≤ 10000 → (isLst x || isTup x) = true →
      (∀ ρ : List Sl, ρ[0]? = some (.d x) → EvD K (tCB (rLenA K) (tCons (tVar 0) tNil)) ρ (.int (xs.length : Int))) → (∀ ρ : List Sl, ρ[1]? = some (.d x) → EvD K (tCB (rLenA K) (tCons (tVar 1) tNil)) ρ (.int (xs.length : Int))) →
      (∀ (ρ : List Sl) (i : Nat) (y : D), ρ[0]? = some (.d x) → ρ[2]? = some (.d (.int (i : Int))) → xs[i]? = some y → EvD K (tOp (rIxA K) (tVar 0) (tVar 2)) ρ y) →
      (∀ (ρ : List Sl) (i : Nat) (y : D), ρ[1]? = some (.d x) → ρ[2]? = some (.d (.int (i : Int))) → xs[i]? = some y → EvD K (tOp (rIxA K) (tVar 1) (tVar 2)) ρ y) →
      SvD K W (t_law_equal K frS W) [.d x, .d x, .no] (.rt (.bl true)) := by
    intro m xs en hy hl two1 len0 len1 at0 at1
    rw [two1] at two
    rw [hS m en]
    unfold t_law_equal
    refine sv_stop (sv_ifT (tv_B two) ?_)
    refine sv_seq (sv_ifF same sv_next) (sv_seq (sv_ifF (tv_eq (tv_neI (len0 _ rfl) (len1 _ rfl)) (by simp)) sv_next) ?_)
    have run := run_all (step := Turn1 K W (gName 2) (tbE K (frE m) W)) (fun _ => [.d x, .d x, .no]) (rngD 0 xs.length) fun i d hd => by
      have hi : i < xs.length := by rw [← rngD_length 0 xs.length]; exact (List.getElem?_eq_some_iff.mp hd).1
      have e := rngD_get hd
      rw [Int.zero_add] at e
      subst e
      have hg : xs[i]? = some xs[i] := List.getElem?_eq_getElem hi
      exact t1_name (sv_nx (sv_ifF (tv_not (tv_B (ev_call (d := .bl true) (av_cons (at0 _ i _ rfl rfl hg) (av_cons (at1 _ i _ rfl rfl hg) av_nil)) ⟨xs[i], hy _ (List.getElem_mem hi), rfl, rfl⟩))) sv_next) [2] rfl)
    have wi : WiD K (iRng1 (tCons (tCB (rLenA K) (tCons (tVar 1) tNil)) tNil)) [.d x, .d x, .no] (rngD 0 xs.length) := by
      have := wi_rng1 (K := K) (av_cons (len1 [.d x, .d x, .no] rfl) av_nil) (by omega) (by omega)
      simpa using this
    exact sv_seq (sv_for wi run) (sv_ret ev_bl)
  cases hx with
  | @lst m xs hy hl =>
    exact seq rfl hy hl rfl (fun ρ h => ev_lenL (sl_d (ev_var h))) (fun ρ h => ev_lenL (sl_d (ev_var h))) (fun ρ i y h h2 hg => ev_ixL (i := (i : Int)) (sl_d (ev_var h)) (ev_var h2) (atI_nat hg)) (fun ρ i y h h2 hg => ev_ixL (i := (i : Int)) (sl_d (ev_var h)) (ev_var h2) (atI_nat hg))
  | @tup m xs hy hl =>
    exact seq rfl hy hl rfl (fun ρ h => ev_lenT (st_d (ev_var h))) (fun ρ h => ev_lenT (st_d (ev_var h))) (fun ρ i y h h2 hg => ev_ixT (i := (i : Int)) (st_d (ev_var h)) (ev_var h2) (atI_nat hg)) (fun ρ i y h h2 hg => ev_ixT (i := (i : Int)) (st_d (ev_var h)) (ev_var h2) (atI_nat hg))
  | non =>
    refine sv_seq (sv_ifF (tv_B two) sv_next) (sv_stop (sv_ifT (tv_test (ev_op h1 ev_non fun F H e v u a b Q q => ?_)) (sv_ret (ev_op h0 ev_non fun F H e v u a b Q q => ?_))))
    · cases a; cases b; exact ⟨rfl, q _ F H (.refl e) (.bl true)⟩
    · cases a; cases b; exact ⟨rfl, q _ F H (.refl e) (.bl true)⟩
  | @str _ s hs =>
    have isN : TvD K (tTest (tOp rIsN (tVar 1) (tC .non))) [.d (.str s), .d (.str s), .no] false := tv_test (ev_op h1 ev_non fun F H e v u a b Q q => by
      cases a; cases b; exact ⟨rfl, q _ F H (.refl e) (.bl false)⟩)
    refine sv_seq (sv_ifF (tv_B two) sv_next) (sv_seq (sv_ifF isN sv_next) (sv_stop (sv_ifT (tv_B (ev_isi h1 rfl (kit_str rfl))) ?_)))
    exact sv_retE (ev_andV (ev_isi h0 rfl (kit_str rfl)) fun _ => ev_op h0 h1 (rv_eqD ((Sh.str hs).ok (by decide)) ((Sh.str hs).ok (by decide)))) (by rw [(Sh.str hs).refl]; rfl)
  | @int _ i =>
    have isN : TvD K (tTest (tOp rIsN (tVar 1) (tC .non))) [.d (.int i), .d (.int i), .no] false := tv_test (ev_op h1 ev_non fun F H e v u a b Q q => by
      cases a; cases b; exact ⟨rfl, q _ F H (.refl e) (.bl false)⟩)
    refine sv_seq (sv_ifF (tv_B two) sv_next) (sv_seq (sv_ifF isN sv_next) (sv_seq (sv_ifF (tv_B (ev_isi h1 rfl (kit_str rfl))) sv_next) ?_))
    exact sv_retE (ev_andV (ev_isi h0 rfl (kit_int rfl)) fun _ => ev_andV (ev_notV (ev_isi h0 rfl (kit_bool rfl))) fun _ => ev_op h0 h1 (rv_eqD rfl rfl)) (by rw [(Sh.int i).refl]; rfl)
end
end Go
set_option Elab.async false
set_option linter.all false
set_option maxRecDepth 100000
set_option maxHeartbeats 1000000
namespace Go
open PySem PySem.Spec PyProof.Rows L2 DL
section
variable {K : PySem.W.Frag} {W : WX} {ρ : List Sl} {te ta tb : TE} {tg : TA} {d x : D} {ds : List D} {i : Int} {s : Str} {ss : List Str}
/-- return [x, f(..)], where the call raises -/
theorem sv_retPairEr {n : Nat} {f : List D → Res → Prop} {C : Addr} {fs : List (Str × D)} (h1 : EvD K te ρ x) (h : AvD K tg ρ ds) (hf : f ds (.er C fs)) (hn : ds.length = n := by rfl) : SvD K W (tRet (tLst (tCons te (tCons (tCallS (SpF K n f) (WE W) tg) tNil)))) ρ (.er C fs ρ) := fun E F0 H0 F H σ R p =>
  h1 F0 H0 F H σ R _ fun v F1 H1 g1 r1 => h F0 H0 F1 H1 σ (R.grow g1) _ fun vs F2 H2 g2 r2 => ⟨F2, ds, .er C fs, g2.s, r2, by rw [r2.length]; exact hn, hf, fun od F3 H3 g3 x => p od σ F3 H3 ((g1.trans g2).trans g3).f (R.grow ((g1.trans g2).trans g3)) x⟩
theorem ev_nilL : EvD K (tLst tNil) ρ (.lst []) := ev_of_L (evl_lst av_nil (by decide))
abbrev cls3 (K : PySem.W.Frag) : List Cl := [((.ref (He.ga K "NoRows")), 1, fun a4 cls4 d4 => (tRet (tLst (tCons (tCallS (SpZ K P_law_kinds.length (fr_law_kindsX K) a4 cls4 d4) (WE W0) (tCons (tVar 1) tNil)) (tCons (tC .non) tNil))))), ((.ref (He.ga K "BadName")), 1, fun a3 cls3 d3 => (tRet (tLst (tCons (tCallS (SpZ K P_law_kinds.length (fr_law_kindsX K) a3 cls3 d3) (WE W0) (tCons (tVar 1) tNil)) (tCons (tXf a3 cls3 d3 (He.ga K "BadName") "name" (tVar 1)) tNil))))), ((.ref (He.ga K "RowTwice")), 1, fun a2 cls2 d2 => (tRet (tLst (tCons (tCallS (SpZ K P_law_kinds.length (fr_law_kindsX K) a2 cls2 d2) (WE W0) (tCons (tVar 1) tNil)) (tCons (tXf a2 cls2 d2 (He.ga K "RowTwice") "name" (tVar 1)) tNil)))))]
theorem ev_kX {a : Addr} {od : Option Addr} {Es : L2.St → XK} (k : Nat) (hk : k < 30) {ns : List Str} {xs : List D} (h : ρ[1]? = some (.d (.hx a od ns xs))) : EvD K (tCallS (SpZ K P_law_kinds.length (fr_law_kindsX K) a (.ref (clsA K k)) od) Es (tCons (tVar 1) tNil)) ρ (.lst [.int (k : Int)]) :=
  ev_callZ (av_cons (ev_var h) av_nil) ⟨k, ns, xs, hk, rfl, rfl, rfl⟩
theorem catch_no (kf : KF K) : CatchD K W (clsA K 3) [] [.d d, .no] (cls3 K) (.rt (.lst [.lst [.int 3], .non])) :=
  .here (o := .rt (.lst [.lst [.int 3], .non])) (kf.ec 3 3 (by decide) (by decide)) (fun _ a => sv_ret (ev_pair (ev_kX 3 (by decide) rfl) ev_non)) (fun f x z => nomatch z) (by decide) (fun _ _ _ z => nomatch z)
theorem catch_bad (kf : KF K) (s : Str) : CatchD K W (clsA K 4) [("name", .str s)] [.d d, .no] (cls3 K) (.rt (.lst [.lst [.int 4], .str s])) :=
  .next (kf.ec 4 3 (by decide) (by decide)) (.here (o := .rt (.lst [.lst [.int 4], .str s])) (kf.ec 4 4 (by decide) (by decide)) (fun z => nomatch z) (fun f x z a dx => by
    cases z
    exact sv_ret (ev_pair (ev_kX 4 (by decide) rfl) (ev_xf (ev_var rfl) (j := 0) rfl rfl))) (by simp) (fun _ _ _ z => nomatch z))
theorem catch_twice (kf : KF K) (s : Str) : CatchD K W (clsA K 5) [("name", .str s)] [.d d, .no] (cls3 K) (.rt (.lst [.lst [.int 5], .str s])) :=
  .next (kf.ec 5 3 (by decide) (by decide)) (.next (kf.ec 5 4 (by decide) (by decide)) (.here (o := .rt (.lst [.lst [.int 5], .str s])) (kf.ec 5 5 (by decide) (by decide)) (fun z => nomatch z) (fun f x z a dx => by
    cases z
    exact sv_ret (ev_pair (ev_kX 5 (by decide) rfl) (ev_xf (ev_var rfl) (j := 0) rfl rfl))) (by simp) (fun _ _ _ z => nomatch z)))
theorem pr_law_asked (kf : KF K) (W : WX) (ds : List D) (r : Res) (h : fr_law_asked ds r) : FnEnd K W (t_law_asked K W) (entry N_law_asked ds) r := by
  obtain ⟨d, ss, hd, hs, rfl, rfl⟩ := h
  left
  show SvD K W (t_law_asked K W) [.d d, .no] _
  have a : AvD K (tCons (tVar 0) tNil) [.d d, .no] [d] := av_cons (ev_var rfl) av_nil
  have f : frrow_set K [d] (askRes K ss) := ⟨d, ss, hd, hs, rfl, rfl⟩
  unfold dueD kindOf worthOf
  unfold askRes rowRes at f
  by_cases z : ss = []
  · rw [if_pos z] at f
    rw [if_pos z, if_pos z]
    exact sv_tryMany (fun W' => sv_retPairEr ev_nilL a f) (catch_no kf)
  · rw [if_neg z] at f
    rw [if_neg z, if_neg z]
    cases hb : badF ss with
    | some s =>
      rw [hb] at f
      exact sv_tryMany (fun W' => sv_retPairEr ev_nilL a f) (catch_bad kf s)
    | none =>
      rw [hb] at f
      cases ht : twiceP [] ss with
      | some s =>
        rw [ht] at f
        exact sv_tryMany (fun W' => sv_retPairEr ev_nilL a f) (catch_twice kf s)
      | none =>
        rw [ht] at f
        exact sv_tryManyOk (fun W' => sv_ret (ev_pair ev_nilL (ev_call a f))) (fun _ _ _ z => nomatch z)
theorem catch_any (kf : KF K) (k : Nat) (hk : k < 30) {fs : List (Str × D)} (hl : fs.length ≤ 1) : CatchD K W (clsA K k) fs [.d d, .no] [((.ref (He.ga K "RowError")), 1, fun a2 cls2 d2 => (tRet (tCallS (SpZ K P_law_kinds.length (fr_law_kindsX K) a2 cls2 d2) (WE W0) (tCons (tVar 1) tNil))))] (.rt (.lst [.int (k : Int)])) :=
  .here (o := .rt (.lst [.int (k : Int)])) (kf.er k hk) (fun _ a => sv_ret (ev_kX k hk rfl)) (fun f x _ a dx => sv_ret (ev_kX k hk rfl)) hl (fun _ _ _ z => nomatch z)
theorem pr_law_caught (kf : KF K) (W : WX) (ds : List D) (r : Res) (h : fr_law_caught ds r) : FnEnd K W (t_law_caught K W) (entry N_law_caught ds) r := by
  obtain ⟨d, ss, hd, hs, rfl, rfl⟩ := h
  left
  show SvD K W (t_law_caught K W) [.d d, .no] _
  have a : AvD K (tCons (tVar 0) tNil) [.d d, .no] [d] := av_cons (ev_var rfl) av_nil
  have f : frrow_set K [d] (askRes K ss) := ⟨d, ss, hd, hs, rfl, rfl⟩
  unfold t_law_caught kindOf
  unfold askRes rowRes at f
  by_cases z : ss = []
  · rw [if_pos z] at f
    rw [if_pos z]
    exact sv_stop (sv_tryMany (fun W' => sv_callEr a f) (catch_any kf 3 (by decide) (by decide)))
  · rw [if_neg z] at f
    rw [if_neg z]
    cases hb : badF ss with
    | some s =>
      rw [hb] at f
      exact sv_stop (sv_tryMany (fun W' => sv_callEr a f) (catch_any kf 4 (by decide) (by simp)))
    | none =>
      rw [hb] at f
      cases ht : twiceP [] ss with
      | some s =>
        rw [ht] at f
        exact sv_stop (sv_tryMany (fun W' => sv_callEr a f) (catch_any kf 5 (by decide) (by simp)))
      | none =>
        rw [ht] at f
        exact sv_seq (sv_tryManyOk (o := .nx [.d d, .no]) (fun W' => sv_drop (ev_call a f)) (fun _ _ _ z => nomatch z)) (sv_ret ev_nilL)
/-! ### _law_right -/
theorem twice_none : ∀ (r pre : List Str), twiceP pre r = none ↔ r.Nodup ∧ ∀ s ∈ r, s ∉ pre
  | [], pre => by simp [twiceP]
  | s :: r, pre => by
    unfold twiceP
    by_cases h : s ∈ pre
    · rw [if_pos h]
      constructor
      · intro z; cases z
      · intro z; exact absurd h (z.2 s List.mem_cons_self)
    · rw [if_neg h, twice_none r (pre ++ [s]), List.nodup_cons]
      constructor
      · rintro ⟨n, a⟩
        refine ⟨⟨fun z => ?_, n⟩, fun x hx => ?_⟩
        · exact (a s z) (List.mem_append_right _ List.mem_cons_self)
        · rcases List.mem_cons.mp hx with rfl | hx
          · exact h
          · exact fun z => a x hx (List.mem_append_left _ z)
      · rintro ⟨⟨n1, n⟩, a⟩
        refine ⟨n, fun x hx z => ?_⟩
        rcases List.mem_append.mp z with z | z
        · exact a x (List.mem_cons_of_mem _ hx) z
        · rw [List.mem_singleton] at z; subst z; exact n1 hx
theorem bad_none (ss : List Str) : badF ss = none ↔ ∀ s ∈ ss, goodM s = true := by
  unfold badF
  rw [List.find?_eq_none]
  simp
theorem due_sorted (hz : ss ≠ []) (hb : badF ss = none) (ht : twiceP [] ss = none) : dueD (ss.mergeSort leX) = dueD ss := by
  have p := List.mergeSort_perm ss leX
  have hz' : ss.mergeSort leX ≠ [] := fun e => hz (by have := p.length_eq; rw [e] at this; exact List.length_eq_zero_iff.mp this.symm)
  have hb' : badF (ss.mergeSort leX) = none := (bad_none _).mpr fun s hs => (bad_none ss).mp hb s (p.mem_iff.mp hs)
  have ht' : twiceP [] (ss.mergeSort leX) = none := by
    rw [twice_none] at *
    exact ⟨p.nodup_iff.mpr ht.1, fun s _ z => nomatch z⟩
  have so : (ss.mergeSort leX).mergeSort leX = ss.mergeSort leX := List.mergeSort_of_pairwise (List.pairwise_mergeSort leX_trans leX_total ss)
  unfold dueD kindOf worthOf sortedD
  rw [if_neg hz, if_neg hz, if_neg hz', if_neg hz', hb, hb', ht, ht', so]
theorem ssOk_sort (h : SsOk ss) : SsOk (ss.mergeSort leX) := by
  have p := List.mergeSort_perm ss leX
  exact ⟨by rw [p.length_eq]; exact h.1, fun s hs => h.2 s (p.mem_iff.mp hs)⟩
theorem eq_strs {n : Nat} (h : SsOk ss) : EqD (n + 1) (.tup (ss.map D.str)) := .tup (fun d hd => by
  obtain ⟨s, hs, rfl⟩ := List.mem_map.mp hd
  exact .str (h.2 s hs).1) (by rw [List.length_map]; have := h.1; omega)
theorem kind_ints {n : Nat} : EqD (n + 1) (.lst ((kindOf ss).map D.int)) := .lst (fun d hd => by
  obtain ⟨i, _, rfl⟩ := List.mem_map.mp hd
  exact .int i) (by
  rw [List.length_map]
  unfold kindOf
  split
  · decide
  · split
    · decide
    · split <;> decide)
theorem eq_due (h : SsOk ss) : EqD 3 (dueD ss) := .lst (fun d hd => by
  rcases List.mem_cons.mp hd with rfl | hd
  · exact kind_ints
  · rw [List.mem_singleton] at hd
    subst hd
    unfold worthOf
    split
    · exact .non
    · split
      · next s hb => exact .str (h.2 s (List.mem_of_find?_eq_some hb)).1
      · next hb =>
        split
        · next s ht =>
          have : s ∈ ss := by
            have go : ∀ (r pre : List Str), twiceP pre r = some s → s ∈ r := by
              intro r
              induction r with
              | nil => intro pre z; cases z
              | cons a r ih =>
                intro pre z
                unfold twiceP at z
                split at z
                · cases z; exact List.mem_cons_self
                · exact List.mem_cons_of_mem _ (ih _ z)
            exact go ss [] ht
          exact .str (h.2 s this).1
        · exact eq_strs (ssOk_sort h)) (by simp)
theorem sh_kinds : Sh 2 (.lst ((kindOf ss).map D.int)) := Sh.lst fun d hd => by
  obtain ⟨i, _, rfl⟩ := List.mem_map.mp hd
  exact .int i
theorem sh_ss (h : SsOk ss) : Sh 2 (.lst (ss.map D.str)) := Sh.lst fun d hd => by
  obtain ⟨s, hs, rfl⟩ := List.mem_map.mp hd
  exact .str (h.2 s hs).1
theorem ev_eqC (x : D) (h : EqD 3 x) (ha : EvD K ta ρ x) (hb : EvD K tb ρ x) : EvD K (tCallS (SpF K P_law_equal.length fr_law_equal) (WE W) (tCons ta (tCons tb tNil))) ρ (.bl true) := ev_call (av_cons ha (av_cons hb av_nil)) ⟨x, h, rfl, rfl⟩
theorem ev_ask {te : TE} (hd : IsSeq d ss) (hs : SsOk ss) (h : EvD K te ρ d) : EvD K (tCallS (SpF K P_law_asked.length fr_law_asked) (WE W) (tCons te tNil)) ρ (dueD ss) := ev_call (av_cons h av_nil) ⟨d, ss, hd, hs, rfl, rfl⟩
theorem ev_due0 {te : TE} (h : EvD K te ρ (dueD ss)) : EvD K (tOp (rIxA K) te (tC (.int 0))) ρ (.lst ((kindOf ss).map D.int)) := ev_ixL (i := 0) (sl_d h) ev_int (atI_nat (j := 0) rfl)
theorem ev_due1 {te : TE} (h : EvD K te ρ (dueD ss)) : EvD K (tOp (rIxA K) te (tC (.int 1))) ρ (worthOf ss) := ev_ixL (i := 1) (sl_d h) ev_int (atI_nat (j := 1) rfl)
theorem pr_law_right (W : WX) (ds : List D) (r : Res) (h : fr_law_right ds r) : FnEnd K W (t_law_right K W) (entry N_law_right ds) r := by
  obtain ⟨ss, hs, rfl, rfl⟩ := h
  left
  show SvD K W (t_law_right K W) [.d (.lst (ss.map D.str)), .no, .no, .no] _
  unfold t_law_right
  have eq := eq_due hs
  refine sv_seq (sv_asg (d := dueD ss) (ev_call (av_cons (ev_var rfl) av_nil) ⟨ss, hs, rfl, rfl⟩)) ?_
  refine sv_seq (sv_asgL (evl_lstAL (sl_d (ev_var rfl)))) (sv_frz 2 rfl rfl ?_)
  show SvD K W _ [.d (.lst (ss.map D.str)), .d (dueD ss), .d (.lst (ss.map D.str)), .no] _
  refine sv_seq (sv_asg (d := dueD ss) (ev_ask (.inl rfl) hs (ev_var rfl))) ?_
  refine sv_seq (sv_ifF (tv_or (a := false) (b := false) (tv_not (tv_B (ev_eqC _ eq (ev_var rfl) (ev_var rfl)))) fun _ => tv_not (tv_B (ev_eqC _ eq (ev_ask (.inr rfl) hs (ev_tupL (sl_d (ev_var rfl)))) (ev_var rfl)))) sv_next) ?_
  refine sv_seq (sv_ifF (tv_or (a := false) (b := false) (tv_same (ev_call (av_cons (ev_var rfl) av_nil) ⟨_, ss, .inl rfl, hs, rfl, rfl⟩) (ev_due0 (ev_var rfl)) sh_kinds (by decide)) fun _ => tv_same (ev_var rfl) (ev_var rfl) (sh_ss hs) (by decide)) sv_next) ?_
  have first : ∀ a, (!PyData.eqv (D.lst ((kindOf ss).map D.int)).py (D.lst []).py) = a → EvD K (tOp (rNeD K) (tOp (rIxA K) (tVar 1) (tC (.int 0))) (tLst tNil)) [.d (.lst (ss.map D.str)), .d (dueD ss), .d (.lst (ss.map D.str)), .d (dueD ss)] (.bl a) := fun a e => ev_eq (ev_op (ev_due0 (ev_var rfl)) ev_nilL (rv_neD (sh_kinds.ok (by decide)) rfl)) (by rw [e])
  have done : ∀ k : Int, kindOf ss = [k] → SvD K W (tRet (tOrV (tOp (rNeD K) (tOp (rIxA K) (tVar 1) (tC (.int 0))) (tLst tNil)) (tCallS (SpF K P_law_equal.length fr_law_equal) (WE W) (tCons (tCallS (SpF K P_law_asked.length fr_law_asked) (WE W) (tCons (tOp (rIxA K) (tVar 3) (tC (.int 1))) tNil)) (tCons (tVar 1) tNil))))) [.d (.lst (ss.map D.str)), .d (dueD ss), .d (.lst (ss.map D.str)), .d (dueD ss)] (.rt (.bl true)) := fun k e =>
    sv_retE (ev_orV (b := true) (first true (by rw [e]; rfl)) fun z => nomatch z) rfl
  by_cases z : ss = []
  · exact done 3 (by unfold kindOf; rw [if_pos z])
  · cases hb : badF ss with
    | some s => exact done 4 (by unfold kindOf; rw [if_neg z, hb])
    | none =>
      cases ht : twiceP [] ss with
      | some s => exact done 5 (by unfold kindOf; rw [if_neg z, hb, ht])
      | none =>
        have ek : kindOf ss = [] := by unfold kindOf; rw [if_neg z, hb, ht]
        have ew : worthOf ss = .tup ((ss.mergeSort leX).map D.str) := by unfold worthOf; rw [if_neg z, hb, ht]; rfl
        refine sv_retE (ev_orV (a := false) (b := true) (first false (by rw [ek]; rfl)) fun _ => ?_) rfl
        have e1 : EvD K (tOp (rIxA K) (tVar 3) (tC (.int 1))) [.d (.lst (ss.map D.str)), .d (dueD ss), .d (.lst (ss.map D.str)), .d (dueD ss)] (.tup ((ss.mergeSort leX).map D.str)) := by
          rw [← ew]; exact ev_due1 (ev_var rfl)
        exact ev_eqC _ eq (ev_eq (ev_ask (.inr rfl) (ssOk_sort hs) e1) (due_sorted z hb ht)) (ev_var rfl)
end
end Go
set_option Elab.async false
set_option linter.all false
set_option maxRecDepth 100000
set_option maxHeartbeats 1000000
namespace Go
open PySem PySem.Spec PyProof.Rows L2 DL
/-! ### the drawn texts are good -/
def In36 (s : Str) : Prop := ∀ c ∈ s.cps.toList, c ∈ 0 :: s36.cps.toList
theorem in_at1 {s : Str} (h : ∀ c ∈ s.cps.toList, c ∈ 0 :: s36.cps.toList) (i : Int) : In36 (at1 s i) := fun c hc => by
  have e : c = s.cps.toList.getD i.toNat 0 := by
    have : c ∈ [s.cps.toList.getD i.toNat 0] := hc
    simpa using this
  rw [e, List.getD_eq_getElem?_getD]
  cases q : s.cps.toList[i.toNat]? with
  | none => exact List.mem_cons_self
  | some v => exact h v (List.mem_of_getElem? q)
theorem in_full (row : List Int) : In36 (fullM row) := fun c hc => by
  unfold fullM at hc
  rw [tl_app] at hc
  rcases List.mem_append.mp hc with h | h
  · exact in_at1 (by decide +kernel) _ c h
  · rw [tl_join0] at h
    obtain ⟨x, hx, h⟩ := List.mem_flatten.mp h
    obtain ⟨s, hs, rfl⟩ := List.mem_map.mp hx
    obtain ⟨k, _, rfl⟩ := List.mem_map.mp hs
    exact in_at1 (fun c hc => List.mem_cons_of_mem _ hc) _ c h
theorem in_cut {s : Str} (h : In36 s) (lo hi : Option Int) : In36 (cutS s lo hi) := fun c hc => h c (List.mem_of_mem_drop (List.mem_of_mem_take hc))
theorem up36 : ∀ c ∈ 0 :: s36.cps.toList, Unicode.upperOf c = [(Unicode.upperOf c).headD 0] ∧ (Unicode.upperOf c).headD 0 < 0x110000 := by decide +kernel
theorem ok36 : ∀ c ∈ 0 :: s36.cps.toList, c < 0x110000 := by decide +kernel
theorem ok_in {s : Str} (h : In36 s) : PyData.strOk s = true := (ok_iff s).mpr fun c hc => ok36 c (h c hc)
theorem ok_up {s : Str} (h : In36 s) : PyData.strOk (Txt.upper s) = true := by
  have e : placed s (fun _ c => Unicode.upperOf c) = s.cps.map fun c => (Unicode.upperOf c).headD 0 := placed_single s _ _ fun i c hc => (up36 c (h c (List.mem_of_getElem? hc))).1
  rw [ok_iff]
  intro c hc
  have hc' : c ∈ (placed s (fun _ c => Unicode.upperOf c)).toList := hc
  rw [e, Array.toList_map] at hc'
  obtain ⟨x, hx, rfl⟩ := List.mem_map.mp hc'
  exact (up36 x (h x hx)).2
theorem full_len (row : List Int) : (fullM row).length = 10 := by
  unfold fullM
  rw [len_app, len_at1, len_join, sum_ones _ _ fun k => len_at1 _ _, List.length_range]
theorem name_len {row : List Int} (h : rowOk szS row) : 0 < (nameM row).length ∧ (nameM row).length ≤ 10 := by
  have r1 := row_at (k := 1) (s := 10) h rfl
  refine ⟨?_, Nat.le_trans (len_cut _ _ _) (by rw [full_len]; exact Nat.le_refl _)⟩
  have e : nth row 1 + 1 = ((nth row 1 + 1).toNat : Int) := by omega
  unfold nameM
  rw [len_tl]
  show 0 < (((fullM row).cps.toList.drop (HT.sIx (fullM row).length 0 none)).take (HT.sIx (fullM row).length (fullM row).length (some (1 + nth row 1)) - HT.sIx (fullM row).length 0 none)).toArray.toList.length
  rw [Int.add_comm, e, HT.sIx_none, HT.sIx_nat, List.drop_zero, Nat.sub_zero]
  rw [List.length_take, ← len_tl, full_len]
  omega
theorem ok_signs : PyData.strOk signsS = true := by decide +kernel
theorem len_signs : signsS.length = 95 := by decide +kernel
theorem pos_ok {row : List Int} (h : rowOk szS row) : 0 ≤ posM row ∧ posM row < (nameM row).length := by
  have n := name_len h
  unfold posM
  exact ⟨Int.emod_nonneg _ (by omega), Int.emod_lt_of_pos _ (by omega)⟩
theorem StOk.app {a b : Str} {m n : Nat} (ha : PyData.strOk a = true ∧ a.length ≤ m) (hb : PyData.strOk b = true ∧ b.length ≤ n) : PyData.strOk (a ++ b) = true ∧ (a ++ b).length ≤ m + n := ⟨ok_app ha.1 hb.1, by rw [len_app]; omega⟩
theorem getD_all {P : Str → Prop} {l : List Str} (h : ∀ s ∈ l, P s) (h0 : P "") (i : Nat) : P (l.getD i "") := by
  rw [List.getD_eq_getElem?_getD]
  cases q : l[i]? with
  | none => exact h0
  | some v => exact h v (List.mem_of_getElem? q)
theorem st_e : StOk "" := ⟨by decide +kernel, by decide +kernel⟩
theorem strM_ok {row : List Int} (h : rowOk szS row) (clean : Bool) : StOk (strM row clean) := by
  have n := name_len h
  have hf : PyData.strOk (fullM row) = true ∧ (fullM row).length ≤ 10 := ⟨ok_in (in_full row), by rw [full_len]; exact Nat.le_refl _⟩
  have hn : PyData.strOk (nameM row) = true ∧ (nameM row).length ≤ 10 := ⟨ok_in (in_cut (in_full row) _ _), n.2⟩
  have hc : ∀ lo hi, PyData.strOk (cutS (nameM row) lo hi) = true ∧ (cutS (nameM row) lo hi).length ≤ 10 := fun lo hi => ⟨ok_cut hn.1 _ _, Nat.le_trans (len_cut _ _ _) hn.2⟩
  have hs : PyData.strOk (signM row) = true ∧ (signM row).length ≤ 1 := ⟨ok_at1 ok_signs _, Nat.le_refl _⟩
  have up : ∀ {s : Str} {m : Nat}, PyData.strOk s = true ∧ s.length ≤ m → m ≤ 1000 → StOk s := fun a b => ⟨a.1, Nat.le_trans a.2 b⟩
  have c1 : ∀ s : Str, s ∈ (["\n", " ", "_", "-", "A"] : List Str) → PyData.strOk s = true ∧ s.length ≤ 1 := by decide +kernel
  unfold strM
  split
  · exact getD_all (by decide +kernel : ∀ s ∈ menu1, PyData.strOk s = true ∧ s.length ≤ 1000) st_e _
  · split
    · exact up hn (by decide)
    · split
      · exact up hf (by decide)
      · split
        · refine getD_all (P := StOk) (fun s hs => ?_) st_e _
          unfold menu2 at hs
          rcases List.mem_cons.mp hs with rfl | hs
          · exact up (StOk.app hf ⟨ok_at1 (by decide +kernel) _, Nat.le_refl 1⟩) (by decide)
          · rcases List.mem_cons.mp hs with rfl | hs
            · exact up (StOk.app (StOk.app hf hf) hf) (by decide)
            · rw [List.mem_singleton] at hs; subst hs; exact st_e
        · split
          · exact up (StOk.app ⟨ok_at1 (by decide +kernel) _, Nat.le_refl 1⟩ (hc _ _)) (by decide)
          · split
            · refine getD_all (P := StOk) (fun s hs => ?_) st_e _
              unfold oddM at hs
              rcases List.mem_cons.mp hs with rfl | hs
              · exact ⟨ok_up (in_cut (in_full row) _ _), by have := PyProof.Rows.len_upper (nameM row); omega⟩
              rcases List.mem_cons.mp hs with rfl | hs
              · exact up (StOk.app hn (c1 _ (by decide))) (by decide)
              rcases List.mem_cons.mp hs with rfl | hs
              · exact up (StOk.app (c1 _ (by decide)) hn) (by decide)
              rcases List.mem_cons.mp hs with rfl | hs
              · exact up (StOk.app hn (c1 _ (by decide))) (by decide)
              rcases List.mem_cons.mp hs with rfl | hs
              · exact up (StOk.app hn (c1 _ (by decide))) (by decide)
              rcases List.mem_cons.mp hs with rfl | hs
              · exact up (StOk.app (c1 _ (by decide)) hn) (by decide)
              · rw [List.mem_singleton] at hs; subst hs; exact up (StOk.app (c1 _ (by decide)) (hc _ _)) (by decide)
            · split
              · exact up (StOk.app (StOk.app (hc _ _) hs) (hc _ _)) (by decide)
              · split
                · exact up (StOk.app (StOk.app (hc _ _) hs) (hc _ _)) (by decide)
                · have r13 := row_at (k := 13) (s := 13) h rfl
                  refine ⟨ok_join fun s hs => ?_, ?_⟩
                  · obtain ⟨k, _, rfl⟩ := List.mem_map.mp hs
                    exact ok_at1 ok_signs _
                  · rw [len_join, sum_ones _ _ fun k => len_at1 _ _, List.length_range]; omega
end Go
set_option Elab.async false
set_option linter.all false
set_option maxRecDepth 100000
set_option maxHeartbeats 1000000
namespace Go
open PySem PySem.Spec PyProof.Rows L2 DL
section
variable {K : PySem.W.Frag} {W : WX} {ρ : List Sl} {te ta tb : TE} {d x : D} {ds : List D} {i : Int} {s : Str} {ss : List Str}
theorem sv_ifEq {t v : TS} {o : Out} {i j : Int} (ha : EvD K ta ρ (.int i)) (hb : EvD K tb ρ (.int j)) (hs : o.stops = true) (h1 : i = j → SvD K W t ρ o) (h2 : i ≠ j → SvD K W v ρ o) : SvD K W (tSeq (tIfS (tTest (tOp (rEqD K) ta tb)) t tNext) v) ρ o := by
  by_cases e : i = j
  · exact sv_stop (sv_ifT (tv_eq (tv_eqI ha hb) (by simpa using e)) (h1 e)) hs
  · exact sv_seq (sv_ifF (tv_eq (tv_eqI ha hb) (by simpa using e)) sv_next) (h2 e)
theorem pr_law_signs (W : WX) (ds : List D) (r : Res) (h : fr_law_signs ds r) : FnEnd K W (t_law_signs K W) (entry N_law_signs ds) r := by
  obtain ⟨rfl, rfl⟩ := h
  left
  show SvD K W (t_law_signs K W) [.no] _
  unfold t_law_signs
  refine sv_seq (sv_asg (d := .str signsA) ev_str) ?_
  exact sv_ret (ev_addS (s := signsA) (t := signsB) (ev_var rfl) ev_str (by decide +kernel))
theorem ev_signs {Es : L2.St → XK} : EvD K (tCallS (SpF K 0 fr_law_signs) Es tNil) ρ (.str signsS) := ev_call0 ⟨rfl, rfl⟩
theorem letS_len : letS.length = 26 := by decide +kernel
theorem s36_len : s36.length = 36 := by decide +kernel
theorem digS_len : digS.length = 10 := by decide +kernel
theorem menu1_len : menu1.length = 13 := rfl
theorem menu2_len (row : List Int) : (menu2 row).length = 3 := rfl
theorem oddM_len (row : List Int) : (oddM row).length = 7 := rfl
/-- row[k] -/
theorem ev_row {row : List Int} (k : Nat) (h0 : ρ[0]? = some (.d (.lst (row.map D.int)))) (hk : k < row.length) : EvD K (tOp (rIxA K) (tVar 0) (tC (.int (k : Int)))) ρ (.int (nth row k)) := ev_nth (sl_d (ev_var h0)) ev_int hk
theorem szS_len : szS.length = 27 := by decide
theorem ev_full {row : List Int} (h : rowOk szS row) (h0 : ρ[0]? = some (.d (.lst (row.map D.int)))) (h2 : ρ[2]? = some (.d (.str letS))) (h3 : ρ[3]? = some (.d (.str s36))) (hw : (wipeS ρ [5])[0]? = some (.d (.lst (row.map D.int))) ∧ (wipeS ρ [5])[3]? = some (.d (.str s36))) (hn : 5 < ρ.length) :
    EvD K (tOp (rAddA K) (tOp (rIxA K) (tVar 2) (tOp (rIxA K) (tVar 0) (tC (.int 2)))) (tJoin K (tC (.str "")) (tLc (iRng1 (tCons (tC (.int 9)) tNil)) (gName 5) tYes (tOp (rIxA K) (tVar 3) (tOp (rIxA K) (tVar 0) (tOp (rAddA K) (tC (.int 3)) (tVar 5)))) [5]))) ρ (.str (fullM row)) := by
  have hl := row_len h
  rw [szS_len] at hl
  have r2 := row_at (k := 2) (s := 26) h rfl
  have e1 : EvD K (tOp (rIxA K) (tVar 2) (tOp (rIxA K) (tVar 0) (tC (.int 2)))) ρ (.str (at1 letS (nth row 2))) := ev_at1 (ev_var h2) (ev_row 2 h0 (by omega)) (by decide +kernel) r2.1 (by rw [letS_len]; omega)
  have lw : 5 < (wipeS ρ [5]).length := by
    have : (wipeS ρ [5]) = ρ.set 5 .no := rfl
    rw [this, List.length_set]; exact hn
  have m : EvL K (tLc (iRng1 (tCons (tC (.int 9)) tNil)) (gName 5) tYes (tOp (rIxA K) (tVar 3) (tOp (rIxA K) (tVar 0) (tOp (rAddA K) (tC (.int 3)) (tVar 5)))) [5]) ρ ((List.range 9).map fun k => D.str (at1 s36 (nth row (3 + k)))) :=
    evl_map (e := fun (k : Nat) => D.int (0 + (k : Int))) (fun k => D.str (at1 s36 (nth row (3 + k)))) (wi_rng1 (av_cons ev_int av_nil) (by decide) (by decide)) (fun k hk => by
      have hk := List.mem_range.mp hk
      have g0 : ((wipeS ρ [5]).set 5 (.d (.int (0 + (k : Int)))))[0]? = some (.d (.lst (row.map D.int))) := by rw [List.getElem?_set_ne (by decide)]; exact hw.1
      have g3 : ((wipeS ρ [5]).set 5 (.d (.int (0 + (k : Int)))))[3]? = some (.d (.str s36)) := by rw [List.getElem?_set_ne (by decide)]; exact hw.2
      have g5 : ((wipeS ρ [5]).set 5 (.d (.int (0 + (k : Int)))))[5]? = some (.d (.int (0 + (k : Int)))) := List.getElem?_set_self lw
      have hs : szS[3 + k]? = some 36 := by
        have : ∀ k, k < 9 → szS[3 + k]? = some 36 := by decide
        exact this k hk
      have rk := row_at (k := 3 + k) (s := 36) h hs
      exact ⟨[5], _, tg_name, by simp, ev_at1 (ev_var g3) (ev_nth (k := 3 + k) (sl_d (ev_var g0)) (ev_eq (ev_addI ev_int (ev_var g5)) (by rw [D.int.injEq]; omega)) (by omega)) (by decide +kernel) rk.1 (by rw [s36_len]; omega)⟩) (by simp)
  have m2 : EvSL K (tLc (iRng1 (tCons (tC (.int 9)) tNil)) (gName 5) tYes (tOp (rIxA K) (tVar 3) (tOp (rIxA K) (tVar 0) (tOp (rAddA K) (tC (.int 3)) (tVar 5)))) [5]) ρ (((List.range 9).map fun k => at1 s36 (nth row (3 + k))).map D.str) := by
    rw [List.map_map]; exact sl_d (ev_of_L m)
  refine ev_addS (s := at1 letS (nth row 2)) e1 (ev_join (s := "") ev_str m2 ?_) ?_
  · rw [sum_ones _ _ fun k => len_at1 _ _, List.length_map, List.length_range]; decide +kernel
  · rw [len_at1, len_join, sum_ones _ _ fun k => len_at1 _ _, List.length_range]; decide
theorem ev_name2 {ns : List Str} {i : Int} (h : EvD K te ρ (.lst (ns.map D.str))) (hb : EvD K tb ρ (.int i)) (h0 : 0 ≤ i) (h1 : i < ns.length) : EvD K (tOp (rIxA K) te tb) ρ (.str (ns.getD i.toNat "")) := ev_name (sl_d h) hb h0 h1
/-- the slots behind the kind -/
abbrev rhoK (row : List Int) (clean : Bool) : List Sl := [.d (.lst (row.map D.int)), .d (.bl clean), .d (.str letS), .d (.str s36), .d (.str (fullM row)), .no, .d (.str (nameM row)), .d (.int (posM row)), .d (.str (signM row)), .d (.int (kindM row clean)), .no]
theorem pr_law_string (W : WX) (ds : List D) (r : Res) (h : fr_law_string ds r) : FnEnd K W (t_law_string K W) (entry N_law_string ds) r := by
  obtain ⟨row, clean, h, rfl, rfl⟩ := h
  left
  show SvD K W (t_law_string K W) [.d (.lst (row.map D.int)), .d (.bl clean), .no, .no, .no, .no, .no, .no, .no, .no, .no] _
  have hl := row_len h
  rw [szS_len] at hl
  have n := name_len h
  have p := pos_ok h
  have fl := full_len row
  have r0 := row_at (k := 0) (s := 30) h rfl
  have r1 := row_at (k := 1) (s := 10) h rfl
  have r2 := row_at (k := 2) (s := 26) h rfl
  have r12 := row_at (k := 12) (s := 36) h (by decide)
  have r13 := row_at (k := 13) (s := 13) h (by decide)
  have r14 := row_at (k := 14) (s := 95) h (by decide)
  unfold t_law_string
  refine sv_seq (sv_asg (d := .str letS) ev_str) ?_
  refine sv_seq (sv_asg (d := .str s36) (ev_addS (s := letS) (t := digS) (ev_var rfl) ev_str (by decide +kernel))) ?_
  refine sv_seq (sv_asg (ev_full h rfl rfl rfl ⟨rfl, rfl⟩ (by simp))) ?_
  refine sv_seq (sv_asg (d := .str (nameM row)) (ev_slS (ev_var rfl) po_no (po_is (ev_addI ev_int (ev_row 1 rfl (by omega)))) (by omega))) ?_
  refine sv_seq (sv_asg (d := .int (posM row)) (ev_modI (ev_intC (ev_row 13 rfl (by omega))) (ev_lenS (ev_var rfl) (by omega)) (by omega))) ?_
  refine sv_seq (sv_asg (d := .str (signM row)) (ev_at1 ev_signs (ev_row 14 rfl (by omega)) (by rw [len_signs]; decide) r14.1 (by rw [len_signs]; omega))) ?_
  refine sv_seq (sv_asg (ev_row 0 rfl (by omega))) ?_
  refine sv_seq (ρ' := rhoK row clean) ?_ ?_
  · cases clean with
    | true => exact sv_ifT (tv_truB (ev_var rfl)) (sv_to (sv_asg (ev_modI (ev_intC (ev_var rfl)) ev_int (by decide))) rfl)
    | false => exact sv_ifF (tv_truB (ev_var rfl)) sv_next
  have k9 : EvD K (tVar 9) (rhoK row clean) (.int (kindM row clean)) := ev_var rfl
  have nm : EvD K (tVar 6) (rhoK row clean) (.str (nameM row)) := ev_var rfl
  have fm : EvD K (tVar 4) (rhoK row clean) (.str (fullM row)) := ev_var rfl
  have a7 : EvD K (tVar 7) (rhoK row clean) (.int (posM row)) := ev_var rfl
  have s8 : EvD K (tVar 8) (rhoK row clean) (.str (signM row)) := ev_var rfl
  have cl : ∀ lo hi, (cutS (nameM row) lo hi).length ≤ 10 := fun lo hi => Nat.le_trans (len_cut _ _ _) n.2
  have sl1 : (signM row).length = 1 := rfl
  unfold strM
  refine sv_ifLt k9 ev_int rfl (fun z => ?_) fun z => ?_
  · rw [if_pos z]
    have m : EvD K (tLst (tCons (tC (.str "a")) (tCons (tC (.str "b")) (tCons (tC (.str "a1")) (tCons (tC (.str "ab")) (tCons (tC (.str "x10")) (tCons (tC (.str "x9")) (tCons (tC (.str "x1")) (tCons (tC (.str "z")) (tCons (tC (.str "a0")) (tCons (tC (.str "aa")) (tCons (tC (.str "level")) (tCons (tC (.str "pump")) (tCons (tC (.str "b2")) tNil)))))))))))))) (rhoK row clean) (.lst (menu1.map D.str)) :=
      ev_of_L (evl_lst (av_cons ev_str (av_cons ev_str (av_cons ev_str (av_cons ev_str (av_cons ev_str (av_cons ev_str (av_cons ev_str (av_cons ev_str (av_cons ev_str (av_cons ev_str (av_cons ev_str (av_cons ev_str (av_cons ev_str av_nil))))))))))))) (by decide))
    exact sv_ret (ev_name2 m (ev_divI (ev_row 2 rfl (by omega)) ev_int ⟨by decide, by decide⟩) (by omega) (by rw [menu1_len]; omega))
  rw [if_neg z]
  refine sv_ifLt k9 ev_int rfl (fun z => ?_) fun z => ?_
  · rw [if_pos z]; exact sv_ret nm
  rw [if_neg z]
  refine sv_ifEq k9 ev_int rfl (fun z => ?_) fun z => ?_
  · rw [if_pos z]; exact sv_ret fm
  rw [if_neg z]
  refine sv_ifEq k9 ev_int rfl (fun z => ?_) fun z => ?_
  · rw [if_pos z]
    have e12 : EvD K (tOp (rIxA K) (tVar 3) (tOp (rIxA K) (tVar 0) (tC (.int 12)))) (rhoK row clean) (.str (at1 s36 (nth row 12))) := ev_at1 (ev_var rfl) (ev_row 12 rfl (by omega)) (by decide +kernel) r12.1 (by rw [s36_len]; omega)
    have m : EvD K (tLst (tCons (tOp (rAddA K) (tVar 4) (tOp (rIxA K) (tVar 3) (tOp (rIxA K) (tVar 0) (tC (.int 12))))) (tCons (tOp (rAddA K) (tOp (rAddA K) (tVar 4) (tVar 4)) (tVar 4)) (tCons (tC (.str "")) tNil)))) (rhoK row clean) (.lst ((menu2 row).map D.str)) :=
      ev_of_L (evl_lst (av_cons (ev_addS fm e12 (by rw [len_at1]; omega)) (av_cons (ev_addS (ev_addS fm fm (by omega)) fm (by rw [len_app]; omega)) (av_cons ev_str av_nil))) (by rw [List.length_map, menu2_len]; decide))
    exact sv_ret (ev_name2 m (ev_modI (ev_intC (ev_row 13 rfl (by omega))) ev_int (by decide)) (by omega) (by rw [menu2_len]; omega))
  rw [if_neg z]
  refine sv_ifEq k9 ev_int rfl (fun z => ?_) fun z => ?_
  · rw [if_pos z]
    refine sv_ret (ev_addS (s := at1 digS (nth row 2 % 10)) (t := cutS (nameM row) (some 1) none) (ev_at1 (s := digS) ev_str (ev_modI (ev_intC (ev_row 2 rfl (by omega))) ev_int (by decide)) (by decide +kernel) (by omega) (by rw [digS_len]; omega)) (ev_slS nm (po_is ev_int) po_no (by omega)) ?_)
    have := cl (some 1) none
    rw [len_at1]; omega
  rw [if_neg z]
  refine sv_ifEq k9 ev_int rfl (fun z => ?_) fun z => ?_
  · rw [if_pos z]
    have one : ∀ s : Str, s ∈ (["\n", " ", "_", "-", "A"] : List Str) → s.length = 1 := by decide +kernel
    have m : EvD K (tLst (tCons (tM0 rUp (tVar 6)) (tCons (tOp (rAddA K) (tVar 6) (tC (.str "\n"))) (tCons (tOp (rAddA K) (tC (.str " ")) (tVar 6)) (tCons (tOp (rAddA K) (tVar 6) (tC (.str " "))) (tCons (tOp (rAddA K) (tVar 6) (tC (.str "_"))) (tCons (tOp (rAddA K) (tC (.str "-")) (tVar 6)) (tCons (tOp (rAddA K) (tC (.str "A")) (tSl (rSlAny K) (tVar 6) (tPart (tC (.int 1))) tNoPart)) tNil)))))))) (rhoK row clean) (.lst ((oddM row).map D.str)) := by
      refine ev_of_L (evl_lst (av_cons (ev_up nm (by omega)) (av_cons (ev_addS nm ev_str ?_) (av_cons (ev_addS ev_str nm ?_) (av_cons (ev_addS nm ev_str ?_) (av_cons (ev_addS nm ev_str ?_) (av_cons (ev_addS ev_str nm ?_) (av_cons (ev_addS ev_str (ev_slS nm (po_is ev_int) po_no (by omega)) ?_) av_nil))))))) (by rw [List.length_map, oddM_len]; decide))
      · rw [one "\n" (by decide)]; omega
      · rw [one " " (by decide)]; omega
      · rw [one " " (by decide)]; omega
      · rw [one "_" (by decide)]; omega
      · rw [one "-" (by decide)]; omega
      · have := cl (some 1) none
        rw [one "A" (by decide)]; omega
    refine sv_seq (sv_asg m) ?_
    exact sv_ret (ev_name2 (ev_var rfl) (ev_modI (ev_intC (ev_row 12 rfl (by omega))) ev_int (by decide)) (by omega) (by rw [oddM_len]; omega))
  rw [if_neg z]
  refine sv_ifLt k9 ev_int rfl (fun z => ?_) fun z => ?_
  · rw [if_pos z]
    refine sv_ret (ev_addS (ev_addS (ev_slS nm po_no (po_is a7) (by omega)) s8 ?_) (ev_slS nm (po_is (ev_addI a7 ev_int)) po_no (by omega)) ?_)
    · have := cl none (some (posM row)); omega
    · have h1 := cl none (some (posM row)); have h2 := cl (some (posM row + 1)) none
      rw [len_app]; omega
  rw [if_neg z]
  refine sv_ifEq k9 ev_int rfl (fun z => ?_) fun z => ?_
  · rw [if_pos z]
    refine sv_ret (ev_addS (ev_addS (ev_slS nm po_no (po_is a7) (by omega)) s8 ?_) (ev_slS nm (po_is a7) po_no (by omega)) ?_)
    · have := cl none (some (posM row)); omega
    · have h1 := cl none (some (posM row)); have h2 := cl (some (posM row)) none
      rw [len_app]; omega
  rw [if_neg z]
  have m : EvL K (tLc (iRng1 (tCons (tOp (rIxA K) (tVar 0) (tC (.int 13))) tNil)) (gName 5) tYes (tOp (rIxA K) (tCallS (SpF K 0 fr_law_signs) (WE W0) tNil) (tOp (rIxA K) (tVar 0) (tOp (rAddA K) (tC (.int 15)) (tVar 5)))) [5]) (rhoK row clean) ((List.range (nth row 13).toNat).map fun k => D.str (at1 signsS (nth row (15 + k)))) :=
    evl_map (e := fun (k : Nat) => D.int (0 + (k : Int))) (fun k => D.str (at1 signsS (nth row (15 + k)))) (wi_rng1 (av_cons (ev_row 13 rfl (by omega)) av_nil) (by omega) (by omega)) (fun k hk => by
      have hk := List.mem_range.mp hk
      have hs : szS[15 + k]? = some 95 := by
        have : ∀ k, k < 12 → szS[15 + k]? = some 95 := by decide
        exact this k (by omega)
      have rk := row_at (k := 15 + k) (s := 95) h hs
      exact ⟨[5], _, tg_name, by simp, ev_at1 ev_signs (ev_nth (k := 15 + k) (sl_d (ev_var rfl)) (ev_eq (ev_addI ev_int (ev_var (i := 5) rfl)) (by rw [D.int.injEq]; omega)) (by omega)) (by rw [len_signs]; decide) rk.1 (by rw [len_signs]; omega)⟩) (by simp; omega)
  have m2 : EvSL K (tLc (iRng1 (tCons (tOp (rIxA K) (tVar 0) (tC (.int 13))) tNil)) (gName 5) tYes (tOp (rIxA K) (tCallS (SpF K 0 fr_law_signs) (WE W0) tNil) (tOp (rIxA K) (tVar 0) (tOp (rAddA K) (tC (.int 15)) (tVar 5)))) [5]) (rhoK row clean) (((List.range (nth row 13).toNat).map fun k => at1 signsS (nth row (15 + k))).map D.str) := by
    rw [List.map_map]; exact sl_d (ev_of_L m)
  refine sv_ret (ev_join (s := "") ev_str m2 ?_)
  rw [sum_ones _ _ fun k => len_at1 _ _, List.length_map, List.length_range]
  have : ("" : Str).length = 0 := by decide +kernel
  rw [this]; omega
end
end Go
set_option Elab.async false
set_option linter.all false
set_option maxRecDepth 100000
set_option maxHeartbeats 1000000
namespace Go
open PySem PySem.Spec PyProof.Rows L2 DL
section
variable {K : PySem.W.Frag} {W : WX} {ρ : List Sl} {te ta tb : TE} {d x : D} {ds : List D} {i : Int} {s : Str} {ss : List Str}
/-! ### _law_strings -/
theorem szH_ok : ∀ s ∈ szH, 0 < s ∧ s < 1073741824 := by decide
theorem szS_ok : ∀ s ∈ szS, 0 < s ∧ s < 1073741824 := by decide
theorem head_ok (ns : List Int) (a : Nat) : rowOk szH (headM ns a) := rowOk_dig _ fun s hs => (szH_ok s hs).1
theorem rowM_okS (ns : List Int) (a k : Nat) : rowOk szS (rowM ns a k) := rowOk_dig _ fun s hs => (szS_ok s hs).1
theorem base_len (ns : List Int) (a : Nat) : (baseS ns a).length = (nth (headM ns a) 0).toNat ∧ (baseS ns a).length ≤ 6 := by
  have h := row_at (k := 0) (s := 7) (head_ok ns a) rfl
  have e : (baseS ns a).length = (nth (headM ns a) 0).toNat := by unfold baseS; rw [List.length_map, List.length_range]
  exact ⟨e, by rw [e]; omega⟩
theorem put_len (c : Bool) (i j : Int) (l : List Str) : (putM c i j l).length = l.length := by
  unfold putM; split
  · rw [List.length_set]
  · rfl
theorem last_len (c : Bool) (l : List Str) : (lastM c l).length = l.length := by
  unfold lastM; split
  · rw [List.length_set, List.length_set]
  · rfl
theorem put_all {P : Str → Prop} {c : Bool} {i j : Int} {l : List Str} (h : ∀ s ∈ l, P s) (h0 : P "") : ∀ s ∈ putM c i j l, P s := by
  unfold putM; split
  · intro s hs
    rcases List.mem_or_eq_of_mem_set hs with z | rfl
    · exact h s z
    · exact getD_all h h0 _
  · exact h
theorem last_all {P : Str → Prop} {c : Bool} {l : List Str} (h : ∀ s ∈ l, P s) (h0 : P "") : ∀ s ∈ lastM c l, P s := by
  unfold lastM; split
  · intro s hs
    rcases List.mem_or_eq_of_mem_set hs with z | rfl
    · rcases List.mem_or_eq_of_mem_set z with z | rfl
      · exact h s z
      · exact getD_all h h0 _
    · exact getD_all h h0 _
  · exact h
theorem strs_ok (ns : List Int) (a : Nat) : SsOk (strsM ns a) := by
  have b := base_len ns a
  refine ⟨?_, ?_⟩
  · unfold strsM strs2 strs1
    rw [last_len, put_len, put_len]; omega
  · refine last_all (put_all (put_all (fun s hs => ?_) st_e) st_e) st_e
    obtain ⟨k, _, rfl⟩ := List.mem_map.mp hs
    exact strM_ok (rowM_okS ns a k) _
theorem ev_sz {sz : List Int} {t : TE} (h : EvD K t ρ (.lst (sz.map D.int))) {c : Int} {tc : TE} (hc : EvD K tc ρ (.int c)) (ok : ∀ s ∈ sz, 0 < s ∧ s < 1073741824) (hl : sz.length ≤ 5000) {Es : L2.St → XK} :
    EvD K (tCallS (SpF K P_law_digits.length fr_law_digits) Es (tCons tc (tCons t tNil))) ρ (.lst ((digM c sz).map D.int)) := ev_call (av_cons hc (av_cons h av_nil)) ⟨c, sz, ok, hl, rfl, rfl⟩
theorem ev_cell {ns : List Int} {k : Nat} {ts tk : TE} (hs : EvD K ts ρ (.scr ns)) (hk : EvD K tk ρ (.int (k : Int))) (h : k ≤ 100000) {Es : L2.St → XK} : EvD K (tCallS (SpF K P_law_cell.length fr_law_cell) Es (tCons ts (tCons tk tNil))) ρ (.int (cellM ns k)) := ev_call (av_cons hs (av_cons hk av_nil)) ⟨ns, k, h, rfl, rfl⟩
abbrev tSzS (K : PySem.W.Frag) : TE := (tOp (rAddA K) (tOp (rAddA K) (tOp (rAddA K) (tLst (tCons (tC (.int 30)) (tCons (tC (.int 10)) (tCons (tC (.int 26)) tNil)))) (tOp rMulA (tLst (tCons (tC (.int 36)) tNil)) (tC (.int 10)))) (tLst (tCons (tC (.int 13)) (tCons (tC (.int 95)) tNil)))) (tOp rMulA (tLst (tCons (tC (.int 95)) tNil)) (tC (.int 12))))
theorem ev_repI {n : Int} {m : Int} (h1 : -(2 ^ 63) ≤ m) (h2 : m < 2 ^ 63) (h3 : 1 * m.toNat ≤ 16777216) : EvD K (tOp rMulA (tLst (tCons (tC (.int n)) tNil)) (tC (.int m))) ρ (.lst ((List.replicate m.toNat n).map D.int)) := by
  refine ev_eq (ev_of_L (evl_rep (xs := [D.int n]) (ev_of_L (evl_lst (av_cons ev_int av_nil) le1)) ev_int h1 h2 h3)) ?_
  rw [D.lst.injEq, List.map_replicate]
  induction m.toNat with
  | zero => rfl
  | succ k ih => rw [List.replicate_succ, List.flatten_cons, ih]; rfl
theorem ev_szS : EvD K (tSzS K) ρ (.lst (szS.map D.int)) :=
  ev_eq (ev_of_L (evl_addL (ev_of_L (evl_addL (ev_of_L (evl_addL (xs := [D.int 30, D.int 10, D.int 26]) (ev_of_L (evl_lst (av_cons ev_int (av_cons ev_int (av_cons ev_int av_nil))) le3)) (ev_repI (by decide) (by decide) (by decide)) (by decide))) (ev_of_L (evl_lst (av_cons ev_int (av_cons ev_int av_nil)) le2)) (by decide))) (ev_repI (by decide) (by decide) (by decide)) (by decide))) rfl
abbrev rhoS (ns : List Int) (a : Nat) (l : List Str) : List Sl := [.d (.scr ns), .d (.int (a : Int)), .d (.lst ((headM ns a).map D.int)), .ol (l.map D.str), .no, .no]
theorem head_at {ns : List Int} {a : Nat} (k : Nat) (hk : k < 7) (h : ρ[2]? = some (.d (.lst ((headM ns a).map D.int)))) : EvD K (tOp (rIxA K) (tVar 2) (tC (.int (k : Int)))) ρ (.int (nth (headM ns a) k)) :=
  ev_nth (sl_d (ev_var h)) ev_int (by rw [row_len (head_ok ns a)]; exact hk)
theorem len_ol {l : List Str} (h : ρ[3]? = some (.ol (l.map D.str))) : EvD K (tCB (rLenA K) (tCons (tVar 3) tNil)) ρ (.int (l.length : Int)) := ev_eq (ev_lenL (sl_own h)) (by rw [List.length_map])
theorem at_ol {l : List Str} {i : Int} (h : ρ[3]? = some (.ol (l.map D.str))) (hb : EvD K tb ρ (.int i)) (h0 : 0 ≤ i) (h1 : i < l.length) : EvD K (tOp (rIxA K) (tVar 3) tb) ρ (.str (l.getD i.toNat "")) := ev_name (sl_own h) hb h0 h1
theorem ixN_nat {n : Nat} {i : Int} (h0 : 0 ≤ i) (h1 : i < n) : ixN n i = some i.toNat := by
  unfold ixN; rw [if_pos h0, if_pos h1]
theorem sv_setS {l : List Str} {j : Int} {tv : TE} {x : Str} (h : ρ[3]? = some (.ol (l.map D.str))) (hv : EvD K tv ρ (.str x)) (hk : EvD K tb ρ (.int j)) (h0 : 0 ≤ j) (h1 : j < l.length) : SvD K W (tAsg tv (gSub (tVar 3) tb rSetL)) ρ (.nx (ρ.set 3 (.ol ((l.set j.toNat x).map D.str)))) := by
  have := sv_setL (K := K) (W := W) h hv hk (ixN_nat h0 (by rw [List.length_map]; exact h1))
  rw [← List.map_set] at this
  exact this
/-- strings[a % n] = strings[b % n] -/
theorem sv_put {ns : List Int} {a : Nat} {l : List Str} {c : Bool} {tt : TT} (j1 j2 : Nat) (h1 : j1 < 7) (h2 : j2 < 7) (hc : TvD K tt (rhoS ns a l) c) (hb1 : 0 ≤ nth (headM ns a) j1) (hb2 : 0 ≤ nth (headM ns a) j2) (hl : l.length ≤ 100) :
    SvD K W (tIfS (tAnd (tTest (tOp (rI0 fun i j => .bl (decide (j < i))) (tCB (rLenA K) (tCons (tVar 3) tNil)) (tC (.int 0)))) tt) (tAsg (tOp (rIxA K) (tVar 3) (tOp (rI (fun _ j => 0 < j) fun i j => .int (i % j)) (tCB rIntC (tCons (tOp (rIxA K) (tVar 2) (tC (.int (j2 : Int)))) tNil)) (tCB (rLenA K) (tCons (tVar 3) tNil)))) (gSub (tVar 3) (tOp (rI (fun _ j => 0 < j) fun i j => .int (i % j)) (tCB rIntC (tCons (tOp (rIxA K) (tVar 2) (tC (.int (j1 : Int)))) tNil)) (tCB (rLenA K) (tCons (tVar 3) tNil))) rSetL)) tNext) (rhoS ns a l) (.nx (rhoS ns a (putM c (nth (headM ns a) j1) (nth (headM ns a) j2) l))) := by
  have t := tv_and (tv_cmpI (g := fun i j => decide (j < i)) (len_ol (K := K) (ρ := rhoS ns a l) rfl) (ev_int (i := 0))) fun _ => hc
  have e : (decide ((0 : Int) < (l.length : Int)) && c) = (decide (0 < l.length) && c) := by congr 1; exact decide_eq_decide.mpr (by omega)
  rw [e] at t
  unfold putM
  by_cases z : (decide (0 < l.length) && c) = true
  · rw [z] at t
    rw [if_pos z]
    have pos : 0 < l.length := of_decide_eq_true (Bool.and_eq_true_iff.mp z).1
    have m1 : 0 ≤ nth (headM ns a) j1 % (l.length : Int) ∧ nth (headM ns a) j1 % (l.length : Int) < (l.length : Int) := ⟨Int.emod_nonneg _ (by omega), Int.emod_lt_of_pos _ (by omega)⟩
    have m2 : 0 ≤ nth (headM ns a) j2 % (l.length : Int) ∧ nth (headM ns a) j2 % (l.length : Int) < (l.length : Int) := ⟨Int.emod_nonneg _ (by omega), Int.emod_lt_of_pos _ (by omega)⟩
    refine sv_ifT t (sv_setS (l := l) rfl (at_ol rfl (ev_modI (ev_intC (head_at j2 h2 rfl)) (len_ol rfl) (by omega)) m2.1 m2.2) (ev_modI (ev_intC (head_at j1 h1 rfl)) (len_ol rfl) (by omega)) m1.1 m1.2)
  · have z' : (decide (0 < l.length) && c) = false := Bool.eq_false_iff.mpr z
    rw [z'] at t
    rw [if_neg z]
    exact sv_ifF t sv_next
theorem sv_last {ns : List Int} {a : Nat} {l : List Str} : SvD K W (tIfS (tAnd (tTest (tOp (rI0 fun i j => .bl (decide (j < i))) (tCB (rLenA K) (tCons (tVar 3) tNil)) (tC (.int 3)))) (tTest (tOp (rEqD K) (tOp (rIxA K) (tVar 2) (tC (.int 2))) (tC (.int 2))))) (tSeq (tAsg (tOp (rIxA K) (tVar 3) (tC (.int 1))) (gSub (tVar 3) (tC (.int 2)) rSetL))
    (tAsg (tOp (rIxA K) (tVar 3) (tC (.int 0))) (gSub (tVar 3) (tC (.int 3)) rSetL))) tNext) (rhoS ns a l) (.nx (rhoS ns a (lastM (nth (headM ns a) 2 == 2) l))) := by
  have t := tv_and (tv_cmpI (g := fun i j => decide (j < i)) (len_ol (K := K) (ρ := rhoS ns a l) rfl) (ev_int (i := 3))) fun _ => tv_eqI (head_at (K := K) (ρ := rhoS ns a l) 2 (by decide) rfl) (ev_int (i := 2))
  have e : (decide ((3 : Int) < (l.length : Int)) && (nth (headM ns a) 2 == 2)) = (decide (3 < l.length) && (nth (headM ns a) 2 == 2)) := by congr 1; exact decide_eq_decide.mpr (by omega)
  rw [e] at t
  unfold lastM
  by_cases z : (decide (3 < l.length) && (nth (headM ns a) 2 == 2)) = true
  · rw [z] at t
    rw [if_pos z]
    have pos : 3 < l.length := of_decide_eq_true (Bool.and_eq_true_iff.mp z).1
    refine sv_ifT t (sv_seq (sv_setS (l := l) (x := l.getD 1 "") rfl (at_ol (i := 1) rfl ev_int (by decide) (by omega)) (ev_int (i := 2)) (by decide) (by omega)) ?_)
    have g0 : (l.set 2 (l.getD 1 "")).getD 0 "" = l.getD 0 "" := by
      simp only [List.getD_eq_getElem?_getD]
      rw [List.getElem?_set_ne (by decide)]
    refine sv_to (sv_setS (l := l.set 2 (l.getD 1 "")) (x := l.getD 0 "") rfl (ev_eq (at_ol (l := l.set 2 (l.getD 1 "")) (i := 0) rfl ev_int (by decide) (by rw [List.length_set]; omega)) (by rw [← g0]; rfl)) (ev_int (i := 3)) (by decide) (by rw [List.length_set]; omega)) rfl
  · have z' : (decide (3 < l.length) && (nth (headM ns a) 2 == 2)) = false := Bool.eq_false_iff.mpr z
    rw [z'] at t
    rw [if_neg z]
    exact sv_ifF t sv_next
abbrev tbS (K : PySem.W.Frag) (W : WX) : TS := (tSeq (tAsg (tCallS (SpF K P_law_digits.length fr_law_digits) (WE W) (tCons (tCallS (SpF K P_law_cell.length fr_law_cell) (WE W) (tCons (tVar 0) (tCons (tOp (rAddA K) (tOp (rAddA K) (tVar 1) (tC (.int 1))) (tVar 4)) tNil))) (tCons (tSzS K) tNil))) (gName 5))
    (tDrop (tBM K "list" rAppend (tVar 3) (tCons (tCallS (SpF K P_law_string.length fr_law_string) (WE W) (tCons (tVar 5) (tCons (tOp (rEqD K) (tOp (rIxA K) (tVar 2) (tC (.int 1))) (tC (.int 0))) tNil))) tNil))))
theorem pr_law_strings (W : WX) (ds : List D) (r : Res) (h : fr_law_strings ds r) : FnEnd K W (t_law_strings K W) (entry N_law_strings ds) r := by
  obtain ⟨ns, a, ha, rfl, rfl⟩ := h
  left
  show SvD K W (t_law_strings K W) [.d (.scr ns), .d (.int (a : Int)), .no, .no, .no, .no] _
  have h0 := row_at (k := 0) (s := 7) (head_ok ns a) rfl
  have b := base_len ns a
  unfold t_law_strings
  refine sv_seq (sv_asg (d := .lst ((headM ns a).map D.int)) (ev_sz (sz := szH) (ev_of_L (evl_lst (av_cons ev_int (av_cons ev_int (av_cons ev_int (av_cons ev_int (av_cons ev_int (av_cons ev_int (av_cons ev_int av_nil))))))) (by decide))) (ev_cell (ev_var rfl) (ev_var rfl) (by omega)) szH_ok (by decide))) ?_
  refine sv_seq (sv_asgL (evl_lst (K := K) av_nil (by decide))) ?_
  have cl : EvD K (tOp (rEqD K) (tOp (rIxA K) (tVar 2) (tC (.int 1))) (tC (.int 0))) [.d (.scr ns), .d (.int (a : Int)), .d (.lst ((headM ns a).map D.int)), .no, .no, .no] (.bl (nth (headM ns a) 1 == 0)) := ev_eq (ev_op (head_at 1 (by decide) rfl) ev_int (rv_eqD rfl rfl)) rfl
  have run := run_all (step := Turn1 K W (gName 4) (tbS K W)) (fun i => rhoS ns a ((List.range i).map fun k => strM (rowM ns a k) (nth (headM ns a) 1 == 0))) (rngD 0 (nth (headM ns a) 0).toNat) fun i d hd => by
    have hi : i < (nth (headM ns a) 0).toNat := by rw [← rngD_length 0 (nth (headM ns a) 0).toNat]; exact (List.getElem?_eq_some_iff.mp hd).1
    have e := rngD_get hd
    rw [Int.zero_add] at e
    subst e
    refine t1_name (sv_nx (sv_seq (sv_asg (d := .lst ((rowM ns a i).map D.int)) (ev_sz ev_szS (ev_cell (k := a + 1 + i) (ev_var rfl) (ev_eq (ev_addI (ev_addI (ev_var rfl) ev_int) (ev_var (i := 4) rfl)) (by rw [D.int.injEq]; omega)) (by omega)) szS_ok (by decide))) (sv_app (xs := ((List.range i).map fun k => strM (rowM ns a k) (nth (headM ns a) 1 == 0)).map D.str) rfl (ev_call (d := .str (strM (rowM ns a i) (nth (headM ns a) 1 == 0))) (av_cons (ev_var rfl) (av_cons (ev_eq (ev_op (head_at 1 (by decide) rfl) ev_int (rv_eqD rfl rfl)) rfl) av_nil)) ⟨rowM ns a i, _, rowM_okS ns a i, rfl, rfl⟩) ?_)) [4, 5] ?_)
    · rw [List.length_map, List.length_map, List.length_range]; omega
    · unfold rhoS
      rw [List.range_succ, List.map_append, List.map_append]; rfl
  rw [rngD_length] at run
  have wi : WiD K (iRng1 (tCons (tOp (rIxA K) (tVar 2) (tC (.int 0))) tNil)) (rhoS ns a []) (rngD 0 (nth (headM ns a) 0).toNat) := wi_rng1 (av_cons (head_at 0 (by decide) rfl) av_nil) (by omega) (by omega)
  refine sv_seq (sv_for wi run) ?_
  refine sv_seq (sv_put (l := baseS ns a) 3 4 (by decide) (by decide) (tv_cmpI (g := fun i j => decide (i < j)) (head_at 2 (by decide) rfl) ev_int) (row_at (k := 3) (s := 6) (head_ok ns a) rfl).1 (row_at (k := 4) (s := 6) (head_ok ns a) rfl).1 (by omega)) ?_
  refine sv_seq (sv_put (l := strs1 ns a) 5 6 (by decide) (by decide) (tv_eqI (head_at 2 (by decide) rfl) ev_int) (row_at (k := 5) (s := 6) (head_ok ns a) rfl).1 (row_at (k := 6) (s := 6) (head_ok ns a) rfl).1 (by unfold strs1; rw [put_len]; omega)) ?_
  refine sv_seq (sv_last (l := strs2 ns a)) ?_
  exact sv_frz 3 rfl rfl (sv_retE (ev_var rfl) rfl)
end
end Go
set_option Elab.async false
set_option linter.all false
set_option maxRecDepth 100000
set_option maxHeartbeats 2000000
namespace Go
open PySem PySem.Spec PyProof.Rows L2 DL
def errG0 (K : PySem.W.Frag) (nm r0 rs os t n m : D) : List D := [.exc (clsA K 0) [] [], .exc (clsA K 1) [] [], .exc (clsA K 2) [] [], .exc (clsA K 3) [] [], .exc (clsA K 4) ["name"] [nm], .exc (clsA K 5) ["name"] [r0]]
def errG1 (K : PySem.W.Frag) (nm r0 rs os t n m : D) : List D := [.exc (clsA K 6) ["name"] [r0], .exc (clsA K 7) ["two", "one"] [os, rs], .exc (clsA K 8) ["place", "row"] [n, r0], .exc (clsA K 9) ["count"] [m]]
def errG2 (K : PySem.W.Frag) (nm r0 rs os t n m : D) : List D := [.exc (clsA K 10) ["span"] [m], .exc (clsA K 11) ["longest"] [m]]
def errG3 (K : PySem.W.Frag) (nm r0 rs os t n m : D) : List D := [.exc (clsA K 12) ["terms"] [t], .exc (clsA K 13) ["index", "place"] [m, n], .exc (clsA K 14) [] [], .exc (clsA K 15) ["count"] [m], .exc (clsA K 16) ["terms"] [t], .exc (clsA K 17) ["count"] [m]]
def errG4 (K : PySem.W.Frag) (nm r0 rs os t n m : D) : List D := [.exc (clsA K 18) ["place"] [n], .exc (clsA K 19) ["count"] [m], .exc (clsA K 20) [] [], .exc (clsA K 21) [] [], .exc (clsA K 22) ["terms"] [t], .exc (clsA K 23) [] []]
def errG5 (K : PySem.W.Frag) (nm r0 rs os t n m : D) : List D := [.exc (clsA K 24) ["index"] [m], .exc (clsA K 25) ["rows"] [rs], .exc (clsA K 26) ["rows"] [os], .exc (clsA K 27) ["index"] [n], .exc (clsA K 28) [] [], .exc (clsA K 29) ["line"] [m]]
def errL (K : PySem.W.Frag) (nm r0 rs os t n m : D) : List D := errG0 K nm r0 rs os t n m ++ errG1 K nm r0 rs os t n m ++ errG2 K nm r0 rs os t n m ++ errG3 K nm r0 rs os t n m ++ errG4 K nm r0 rs os t n m ++ errG5 K nm r0 rs os t n m
theorem errL_len (K : PySem.W.Frag) (nm r0 rs os t n m : D) : (errL K nm r0 rs os t n m).length = 30 := rfl
theorem errL_at (K : PySem.W.Frag) (nm r0 rs os t n m : D) : ∀ k, k < 30 → ∃ ns xs, (errL K nm r0 rs os t n m)[k]? = some (.exc (clsA K k) ns xs)
  | 0, _ => ⟨_, _, rfl⟩
  | 1, _ => ⟨_, _, rfl⟩
  | 2, _ => ⟨_, _, rfl⟩
  | 3, _ => ⟨_, _, rfl⟩
  | 4, _ => ⟨_, _, rfl⟩
  | 5, _ => ⟨_, _, rfl⟩
  | 6, _ => ⟨_, _, rfl⟩
  | 7, _ => ⟨_, _, rfl⟩
  | 8, _ => ⟨_, _, rfl⟩
  | 9, _ => ⟨_, _, rfl⟩
  | 10, _ => ⟨_, _, rfl⟩
  | 11, _ => ⟨_, _, rfl⟩
  | 12, _ => ⟨_, _, rfl⟩
  | 13, _ => ⟨_, _, rfl⟩
  | 14, _ => ⟨_, _, rfl⟩
  | 15, _ => ⟨_, _, rfl⟩
  | 16, _ => ⟨_, _, rfl⟩
  | 17, _ => ⟨_, _, rfl⟩
  | 18, _ => ⟨_, _, rfl⟩
  | 19, _ => ⟨_, _, rfl⟩
  | 20, _ => ⟨_, _, rfl⟩
  | 21, _ => ⟨_, _, rfl⟩
  | 22, _ => ⟨_, _, rfl⟩
  | 23, _ => ⟨_, _, rfl⟩
  | 24, _ => ⟨_, _, rfl⟩
  | 25, _ => ⟨_, _, rfl⟩
  | 26, _ => ⟨_, _, rfl⟩
  | 27, _ => ⟨_, _, rfl⟩
  | 28, _ => ⟨_, _, rfl⟩
  | 29, _ => ⟨_, _, rfl⟩
  | k + 30, h => absurd h (by omega)
section
variable {K : PySem.W.Frag} {W : WX} {ρ : List Sl} {te ta tb : TE} {d x nm r0 rs os t n m : D} {ds : List D} {i : Int}
theorem sv_grow {ts : TA} {xs ys : List D} (h7 : ρ[7]? = some (.d (.lst xs))) (hy : AvD K ts ρ ys) (h1 : xs.length ≤ 100) (h2 : ys.length ≤ 100) : SvD K W (tAsg (tOp (rAddA K) (tVar 7) (tLst ts)) (gName 7)) ρ (.nx (ρ.set 7 (.d (.lst (xs ++ ys))))) :=
  sv_asg (ev_of_L (evl_addL (ev_var h7) (ev_of_L (evl_lst hy (by omega))) (by omega)))
theorem sv_grow9 {ts : TA} {xs ys : List D} (h9 : ρ[9]? = some (.d (.lst xs))) (hy : AvD K ts ρ ys) (h1 : xs.length ≤ 100) (h2 : ys.length ≤ 100) : SvD K W (tAsg (tOp (rAddA K) (tVar 9) (tLst ts)) (gName 9)) ρ (.nx (ρ.set 9 (.d (.lst (xs ++ ys))))) :=
  sv_asg (ev_of_L (evl_addL (ev_var h9) (ev_of_L (evl_lst hy (by omega))) (by omega)))
/-- errors[k].f -/
theorem ev_fld (kf : KF K) {E : List D} (h7 : ρ[7]? = some (.d (.lst E))) (k : Nat) (hk : k < 30) {ns : List Str} {xs : List D} {f : Str} (he : E[k]? = some (.exc (clsA K k) ns xs)) (hf : f ∈ (["name", "one", "two", "row", "place", "count", "span", "longest", "terms", "index", "rows", "line"] : List Str)) {j : Nat} (h1 : ns[j]? = some f) (h2 : xs[j]? = some d) (h3 : ∀ i, i < j → ns[i]? ≠ some f) : EvD K (tXv K f (tOp (rIxA K) (tVar 7) (tC (.int (k : Int))))) ρ d :=
  ev_xv (ev_ixL (i := (k : Int)) (sl_d (ev_var h7)) ev_int (atI_nat he)) (kf.xf k hk) (kf.no k f hk hf) h1 h2 h3
theorem ev_fld0 (kf : KF K) {E : List D} (h7 : ρ[7]? = some (.d (.lst E))) (k : Nat) (hk : k < 30) {f : Str} {ns : List Str} {xs : List D} (he : E[k]? = some (.exc (clsA K k) (f :: ns) (d :: xs))) (hf : f ∈ (["name", "one", "two", "row", "place", "count", "span", "longest", "terms", "index", "rows", "line"] : List Str)) : EvD K (tXv K f (tOp (rIxA K) (tVar 7) (tC (.int (k : Int))))) ρ d :=
  ev_fld kf h7 k hk he hf (j := 0) rfl rfl fun i h => absurd h (Nat.not_lt_zero _)
theorem ev_fld1 (kf : KF K) {E : List D} (h7 : ρ[7]? = some (.d (.lst E))) (k : Nat) (hk : k < 30) {f g : Str} {e : D} (he : E[k]? = some (.exc (clsA K k) [g, f] [e, d])) (hne : g ≠ f) (hf : f ∈ (["name", "one", "two", "row", "place", "count", "span", "longest", "terms", "index", "rows", "line"] : List Str)) : EvD K (tXv K f (tOp (rIxA K) (tVar 7) (tC (.int (k : Int))))) ρ d :=
  ev_fld kf h7 k hk he hf (j := 1) rfl rfl fun i h => by
    have : i = 0 := by omega
    subst this
    intro z; exact hne (by simpa using z)
abbrev tG0 (K : PySem.W.Frag) : TA := (tCons (tMk0 (He.ga K "NoQuotient")) (tCons (tMk0 (He.ga K "ZeroPolynomial")) (tCons (tMk0 (He.ga K "ZeroSum")) (tCons (tMk0 (He.ga K "NoRows")) (tCons (tMkV (He.ga K "BadName") (SpI (He.ga K "BadName") ["name"]) (tCons (tVar 0) tNil)) (tCons (tMkV (He.ga K "RowTwice") (SpI (He.ga K "RowTwice") ["name"]) (tCons (tOp (rIxA K) (tVar 1) (tC (.int 0))) tNil)) tNil))))))
theorem av_G0 (h0 : EvD K (tVar 0) ρ nm) (hr : EvD K (tOp (rIxA K) (tVar 1) (tC (.int 0))) ρ r0) (h1 : EvD K (tVar 1) ρ rs) (h2 : EvD K (tVar 2) ρ os) (h3 : EvD K (tVar 3) ρ t) (h5 : EvD K (tVar 5) ρ n) (h6 : EvD K (tVar 6) ρ m) : AvD K (tG0 K) ρ (errG0 K nm r0 rs os t n m) := (av_cons ev_exc0 (av_cons ev_exc0 (av_cons ev_exc0 (av_cons ev_exc0 (av_cons (ev_exc1 (av_cons h0 av_nil)) (av_cons (ev_exc1 (av_cons hr av_nil)) av_nil))))))
abbrev tG1 (K : PySem.W.Frag) : TA := (tCons (tMkV (He.ga K "UnknownRow") (SpI (He.ga K "UnknownRow") ["name"]) (tCons (tOp (rIxA K) (tVar 1) (tC (.int 0))) tNil)) (tCons (tMkV (He.ga K "RowsDiffer") (SpI (He.ga K "RowsDiffer") ["one", "two"]) (tCons (tVar 1) (tCons (tVar 2) tNil))) (tCons (tMkV (He.ga K "SpotTwice") (SpI (He.ga K "SpotTwice") ["row", "place"]) (tCons (tOp (rIxA K) (tVar 1) (tC (.int 0))) (tCons (tVar 5) tNil))) (tCons (tMkV (He.ga K "BadStretch") (SpI (He.ga K "BadStretch") ["count"]) (tCons (tVar 6) tNil)) tNil))))
theorem av_G1 (h0 : EvD K (tVar 0) ρ nm) (hr : EvD K (tOp (rIxA K) (tVar 1) (tC (.int 0))) ρ r0) (h1 : EvD K (tVar 1) ρ rs) (h2 : EvD K (tVar 2) ρ os) (h3 : EvD K (tVar 3) ρ t) (h5 : EvD K (tVar 5) ρ n) (h6 : EvD K (tVar 6) ρ m) : AvD K (tG1 K) ρ (errG1 K nm r0 rs os t n m) := (av_cons (ev_exc1 (av_cons hr av_nil)) (av_cons (ev_exc2 (av_cons h1 (av_cons h2 av_nil))) (av_cons (ev_exc2 (av_cons hr (av_cons h5 av_nil))) (av_cons (ev_exc1 (av_cons h6 av_nil)) av_nil))))
abbrev tG2 (K : PySem.W.Frag) : TA := (tCons (tMkV (He.ga K "ShortStretch") (SpI (He.ga K "ShortStretch") ["span"]) (tCons (tVar 6) tNil)) (tCons (tMkV (He.ga K "TooLong") (SpI (He.ga K "TooLong") ["longest"]) (tCons (tVar 6) tNil)) tNil))
theorem av_G2 (h0 : EvD K (tVar 0) ρ nm) (hr : EvD K (tOp (rIxA K) (tVar 1) (tC (.int 0))) ρ r0) (h1 : EvD K (tVar 1) ρ rs) (h2 : EvD K (tVar 2) ρ os) (h3 : EvD K (tVar 3) ρ t) (h5 : EvD K (tVar 5) ρ n) (h6 : EvD K (tVar 6) ρ m) : AvD K (tG2 K) ρ (errG2 K nm r0 rs os t n m) := (av_cons (ev_exc1 (av_cons h6 av_nil)) (av_cons (ev_exc1 (av_cons h6 av_nil)) av_nil))
abbrev tG3 (K : PySem.W.Frag) : TA := (tCons (tMkV (He.ga K "CannotStand") (SpI (He.ga K "CannotStand") ["terms"]) (tCons (tVar 3) tNil)) (tCons (tMkV (He.ga K "Broken") (SpI (He.ga K "Broken") ["place", "index"]) (tCons (tVar 5) (tCons (tVar 6) tNil))) (tCons (tMk0 (He.ga K "NotFinite")) (tCons (tMkV (He.ga K "BadParts") (SpI (He.ga K "BadParts") ["count"]) (tCons (tVar 6) tNil)) (tCons (tMkV (He.ga K "Barred") (SpI (He.ga K "Barred") ["terms"]) (tCons (tVar 3) tNil)) (tCons (tMkV (He.ga K "NotCourse") (SpI (He.ga K "NotCourse") ["count"]) (tCons (tVar 6) tNil)) tNil))))))
theorem av_G3 (h0 : EvD K (tVar 0) ρ nm) (hr : EvD K (tOp (rIxA K) (tVar 1) (tC (.int 0))) ρ r0) (h1 : EvD K (tVar 1) ρ rs) (h2 : EvD K (tVar 2) ρ os) (h3 : EvD K (tVar 3) ρ t) (h5 : EvD K (tVar 5) ρ n) (h6 : EvD K (tVar 6) ρ m) : AvD K (tG3 K) ρ (errG3 K nm r0 rs os t n m) := (av_cons (ev_exc1 (av_cons h3 av_nil)) (av_cons (ev_exc2 (av_cons h5 (av_cons h6 av_nil))) (av_cons ev_exc0 (av_cons (ev_exc1 (av_cons h6 av_nil)) (av_cons (ev_exc1 (av_cons h3 av_nil)) (av_cons (ev_exc1 (av_cons h6 av_nil)) av_nil))))))
abbrev tG4 (K : PySem.W.Frag) : TA := (tCons (tMkV (He.ga K "BreaksOwnRule") (SpI (He.ga K "BreaksOwnRule") ["place"]) (tCons (tVar 5) tNil)) (tCons (tMkV (He.ga K "NotBlocked") (SpI (He.ga K "NotBlocked") ["count"]) (tCons (tVar 6) tNil)) (tCons (tMk0 (He.ga K "Unsure")) (tCons (tMk0 (He.ga K "Contradiction")) (tCons (tMkV (He.ga K "NotStricter") (SpI (He.ga K "NotStricter") ["terms"]) (tCons (tVar 3) tNil)) (tCons (tMk0 (He.ga K "NoFamilies")) tNil))))))
theorem av_G4 (h0 : EvD K (tVar 0) ρ nm) (hr : EvD K (tOp (rIxA K) (tVar 1) (tC (.int 0))) ρ r0) (h1 : EvD K (tVar 1) ρ rs) (h2 : EvD K (tVar 2) ρ os) (h3 : EvD K (tVar 3) ρ t) (h5 : EvD K (tVar 5) ρ n) (h6 : EvD K (tVar 6) ρ m) : AvD K (tG4 K) ρ (errG4 K nm r0 rs os t n m) := (av_cons (ev_exc1 (av_cons h5 av_nil)) (av_cons (ev_exc1 (av_cons h6 av_nil)) (av_cons ev_exc0 (av_cons ev_exc0 (av_cons (ev_exc1 (av_cons h3 av_nil)) (av_cons ev_exc0 av_nil))))))
abbrev tG5 (K : PySem.W.Frag) : TA := (tCons (tMkV (He.ga K "NotLet") (SpI (He.ga K "NotLet") ["index"]) (tCons (tVar 6) tNil)) (tCons (tMkV (He.ga K "NotFree") (SpI (He.ga K "NotFree") ["rows"]) (tCons (tVar 1) tNil)) (tCons (tMkV (He.ga K "NotTimely") (SpI (He.ga K "NotTimely") ["rows"]) (tCons (tVar 2) tNil)) (tCons (tMkV (He.ga K "NotEntered") (SpI (He.ga K "NotEntered") ["index"]) (tCons (tVar 5) tNil)) (tCons (tMk0 (He.ga K "NothingToUndo")) (tCons (tMkV (He.ga K "BadNotation") (SpI (He.ga K "BadNotation") ["line"]) (tCons (tVar 6) tNil)) tNil))))))
theorem av_G5 (h0 : EvD K (tVar 0) ρ nm) (hr : EvD K (tOp (rIxA K) (tVar 1) (tC (.int 0))) ρ r0) (h1 : EvD K (tVar 1) ρ rs) (h2 : EvD K (tVar 2) ρ os) (h3 : EvD K (tVar 3) ρ t) (h5 : EvD K (tVar 5) ρ n) (h6 : EvD K (tVar 6) ρ m) : AvD K (tG5 K) ρ (errG5 K nm r0 rs os t n m) := (av_cons (ev_exc1 (av_cons h6 av_nil)) (av_cons (ev_exc1 (av_cons h1 av_nil)) (av_cons (ev_exc1 (av_cons h2 av_nil)) (av_cons (ev_exc1 (av_cons h5 av_nil)) (av_cons ev_exc0 (av_cons (ev_exc1 (av_cons h6 av_nil)) av_nil))))))
abbrev tT0 (K : PySem.W.Frag) : TA := (tCons (tXv K "name" (tOp (rIxA K) (tVar 7) (tC (.int 4)))) (tCons (tXv K "name" (tOp (rIxA K) (tVar 7) (tC (.int 5)))) (tCons (tXv K "name" (tOp (rIxA K) (tVar 7) (tC (.int 6)))) (tCons (tXv K "one" (tOp (rIxA K) (tVar 7) (tC (.int 7)))) (tCons (tXv K "two" (tOp (rIxA K) (tVar 7) (tC (.int 7)))) (tCons (tXv K "row" (tOp (rIxA K) (tVar 7) (tC (.int 8)))) tNil))))))
theorem av_T0 (kf : KF K) (h7 : ρ[7]? = some (.d (.lst (errL K nm r0 rs os t n m)))) : AvD K (tT0 K) ρ [nm, r0, r0, rs, os, r0] := (av_cons (ev_fld0 kf h7 4 (by decide) rfl (by decide)) (av_cons (ev_fld0 kf h7 5 (by decide) rfl (by decide)) (av_cons (ev_fld0 kf h7 6 (by decide) rfl (by decide)) (av_cons (ev_fld1 kf h7 7 (by decide) rfl (by decide) (by decide)) (av_cons (ev_fld0 kf h7 7 (by decide) rfl (by decide)) (av_cons (ev_fld1 kf h7 8 (by decide) rfl (by decide) (by decide)) av_nil))))))
abbrev tT1 (K : PySem.W.Frag) : TA := (tCons (tXv K "place" (tOp (rIxA K) (tVar 7) (tC (.int 8)))) (tCons (tXv K "count" (tOp (rIxA K) (tVar 7) (tC (.int 9)))) (tCons (tXv K "span" (tOp (rIxA K) (tVar 7) (tC (.int 10)))) (tCons (tXv K "longest" (tOp (rIxA K) (tVar 7) (tC (.int 11)))) (tCons (tXv K "terms" (tOp (rIxA K) (tVar 7) (tC (.int 12)))) tNil)))))
theorem av_T1 (kf : KF K) (h7 : ρ[7]? = some (.d (.lst (errL K nm r0 rs os t n m)))) : AvD K (tT1 K) ρ [n, m, m, m, t] := (av_cons (ev_fld0 kf h7 8 (by decide) rfl (by decide)) (av_cons (ev_fld0 kf h7 9 (by decide) rfl (by decide)) (av_cons (ev_fld0 kf h7 10 (by decide) rfl (by decide)) (av_cons (ev_fld0 kf h7 11 (by decide) rfl (by decide)) (av_cons (ev_fld0 kf h7 12 (by decide) rfl (by decide)) av_nil)))))
abbrev tT2 (K : PySem.W.Frag) : TA := (tCons (tXv K "place" (tOp (rIxA K) (tVar 7) (tC (.int 13)))) (tCons (tXv K "index" (tOp (rIxA K) (tVar 7) (tC (.int 13)))) (tCons (tXv K "count" (tOp (rIxA K) (tVar 7) (tC (.int 15)))) (tCons (tXv K "terms" (tOp (rIxA K) (tVar 7) (tC (.int 16)))) (tCons (tXv K "count" (tOp (rIxA K) (tVar 7) (tC (.int 17)))) tNil)))))
theorem av_T2 (kf : KF K) (h7 : ρ[7]? = some (.d (.lst (errL K nm r0 rs os t n m)))) : AvD K (tT2 K) ρ [n, m, m, t, m] := (av_cons (ev_fld1 kf h7 13 (by decide) rfl (by decide) (by decide)) (av_cons (ev_fld0 kf h7 13 (by decide) rfl (by decide)) (av_cons (ev_fld0 kf h7 15 (by decide) rfl (by decide)) (av_cons (ev_fld0 kf h7 16 (by decide) rfl (by decide)) (av_cons (ev_fld0 kf h7 17 (by decide) rfl (by decide)) av_nil)))))
abbrev tT3 (K : PySem.W.Frag) : TA := (tCons (tXv K "place" (tOp (rIxA K) (tVar 7) (tC (.int 18)))) (tCons (tXv K "count" (tOp (rIxA K) (tVar 7) (tC (.int 19)))) (tCons (tXv K "terms" (tOp (rIxA K) (tVar 7) (tC (.int 22)))) (tCons (tXv K "index" (tOp (rIxA K) (tVar 7) (tC (.int 24)))) (tCons (tXv K "rows" (tOp (rIxA K) (tVar 7) (tC (.int 25)))) tNil)))))
theorem av_T3 (kf : KF K) (h7 : ρ[7]? = some (.d (.lst (errL K nm r0 rs os t n m)))) : AvD K (tT3 K) ρ [n, m, t, m, rs] := (av_cons (ev_fld0 kf h7 18 (by decide) rfl (by decide)) (av_cons (ev_fld0 kf h7 19 (by decide) rfl (by decide)) (av_cons (ev_fld0 kf h7 22 (by decide) rfl (by decide)) (av_cons (ev_fld0 kf h7 24 (by decide) rfl (by decide)) (av_cons (ev_fld0 kf h7 25 (by decide) rfl (by decide)) av_nil)))))
abbrev tT4 (K : PySem.W.Frag) : TA := (tCons (tXv K "rows" (tOp (rIxA K) (tVar 7) (tC (.int 26)))) (tCons (tXv K "index" (tOp (rIxA K) (tVar 7) (tC (.int 27)))) (tCons (tXv K "line" (tOp (rIxA K) (tVar 7) (tC (.int 29)))) tNil)))
theorem av_T4 (kf : KF K) (h7 : ρ[7]? = some (.d (.lst (errL K nm r0 rs os t n m)))) : AvD K (tT4 K) ρ [os, n, m] := (av_cons (ev_fld0 kf h7 26 (by decide) rfl (by decide)) (av_cons (ev_fld0 kf h7 27 (by decide) rfl (by decide)) (av_cons (ev_fld0 kf h7 29 (by decide) rfl (by decide)) av_nil)))
end
end Go
set_option Elab.async false
set_option linter.all false
set_option maxRecDepth 100000
set_option maxHeartbeats 2000000
namespace Go
open PySem PySem.Spec PyProof.Rows L2 DL
section
variable {K : PySem.W.Frag} {W : WX} {ρ : List Sl} {te ta tb : TE} {d x : D} {ds : List D} {i : Int} {s : Str} {ss : List Str}
abbrev tbC (K : PySem.W.Frag) (W : WX) : TS := (tIfS (tTest (tOp (rNeD K) (tCallS (SpF K P_law_kinds.length (fr_law_kinds K)) (WE W) (tCons (tOp (rIxA K) (tVar 7) (tVar 8)) tNil)) (tLst (tCons (tVar 8) tNil)))) (tRet (tC (.bl false))) tNext)
def told24 (nm r0 rs os t n m : D) : List D := [nm, r0, r0, rs, os, r0] ++ [n, m, m, m, t] ++ [n, m, m, t, m] ++ [n, m, t, m, rs] ++ [os, n, m]
theorem told_due (nm r0 rs os t n m : D) : told24 nm r0 rs os t n m = [nm, r0, r0, rs, os, r0, n, m, m, m, t, n, m, m, t, m, n, m, t, m, rs] ++ [os, n, m] := rfl
theorem eqD_told {nm r0 rs os t n m : D} (h1 : EqD 2 nm) (h2 : EqD 2 r0) (h3 : EqD 2 rs) (h4 : EqD 2 os) (h5 : EqD 2 t) (h6 : EqD 2 n) (h7 : EqD 2 m) : EqD 3 (.lst (told24 nm r0 rs os t n m)) := .lst (fun d hd => by
  have : d ∈ [nm, r0, rs, os, t, n, m] := by
    have sub : ∀ x ∈ told24 nm r0 rs os t n m, x ∈ [nm, r0, rs, os, t, n, m] := by
      intro x hx
      simp only [told24, List.cons_append, List.nil_append, List.mem_cons, List.not_mem_nil, or_false] at hx ⊢
      rcases hx with h | h | h | h | h | h | h | h | h | h | h | h | h | h | h | h | h | h | h | h | h | h | h | h <;> simp [h]
    exact sub d hd
  simp only [List.mem_cons, List.not_mem_nil, or_false] at this
  rcases this with rfl | rfl | rfl | rfl | rfl | rfl | rfl <;> assumption) (by simp [told24])
theorem pr_law_created (kf : KF K) (W : WX) (ds : List D) (r : Res) (h : fr_law_created ds r) : FnEnd K W (t_law_created K W) (entry N_law_created ds) r := by
  obtain ⟨name, rows, others, t, n, m, hn, hne, hr, ho, ht, rfl, rfl⟩ := h
  left
  show SvD K W (t_law_created K W) [.d (.str name), .d (.tup (rows.map D.str)), .d (.tup (others.map D.str)), .d t, .d (.lst [.int n, .int m]), .no, .no, .no, .no, .no, .no] _
  obtain ⟨r0, rr, rfl⟩ : ∃ r0 rr, rows = r0 :: rr := by
    cases rows with
    | nil => exact absurd rfl hne
    | cons a b => exact ⟨a, b, rfl⟩
  have row0 : ∀ {ρ : List Sl}, ρ[1]? = some (.d (.tup ((r0 :: rr).map D.str))) → EvD K (tOp (rIxA K) (tVar 1) (tC (.int 0))) ρ (.str r0) := fun h => ev_ixT (i := 0) (st_d (ev_var h)) ev_int (atI_nat (j := 0) rfl)
  generalize hR : D.tup ((r0 :: rr).map D.str) = R at row0
  generalize hO : D.tup (others.map D.str) = O
  have eR : EqD 2 R := hR ▸ eq_strs hr
  have eO : EqD 2 O := hO ▸ eq_strs ho
  have er0 : PyData.strOk r0 = true := (hr.2 r0 List.mem_cons_self).1
  unfold t_law_created
  refine sv_seq (sv_asg (d := .int n) (ev_ixL (i := 0) (sl_d (ev_var rfl)) ev_int (atI_nat (j := 0) rfl))) ?_
  refine sv_seq (sv_asg (d := .int m) (ev_ixL (i := 1) (sl_d (ev_var rfl)) ev_int (atI_nat (j := 1) rfl))) ?_
  refine sv_seq (sv_asg (d := .lst (errG0 K (.str name) (.str r0) R O t (.int n) (.int m))) (ev_of_L (evl_lst (av_G0 (ev_var rfl) (row0 rfl) (ev_var rfl) (ev_var rfl) (ev_var rfl) (ev_var rfl) (ev_var rfl)) (by simp [errG0])))) ?_
  refine sv_seq (sv_grow rfl (av_G1 (ev_var rfl) (row0 rfl) (ev_var rfl) (ev_var rfl) (ev_var rfl) (ev_var rfl) (ev_var rfl)) (by simp [errG0]) (by simp [errG1])) ?_
  refine sv_seq (sv_grow rfl (av_G2 (ev_var rfl) (row0 rfl) (ev_var rfl) (ev_var rfl) (ev_var rfl) (ev_var rfl) (ev_var rfl)) (by simp [errG0, errG1]) (by simp [errG2])) ?_
  refine sv_seq (sv_grow rfl (av_G3 (ev_var rfl) (row0 rfl) (ev_var rfl) (ev_var rfl) (ev_var rfl) (ev_var rfl) (ev_var rfl)) (by simp [errG0, errG1, errG2]) (by simp [errG3])) ?_
  refine sv_seq (sv_grow rfl (av_G4 (ev_var rfl) (row0 rfl) (ev_var rfl) (ev_var rfl) (ev_var rfl) (ev_var rfl) (ev_var rfl)) (by simp [errG0, errG1, errG2, errG3]) (by simp [errG4])) ?_
  refine sv_seq (sv_grow rfl (av_G5 (ev_var rfl) (row0 rfl) (ev_var rfl) (ev_var rfl) (ev_var rfl) (ev_var rfl) (ev_var rfl)) (by simp [errG0, errG1, errG2, errG3, errG4]) (by simp [errG5])) ?_
  show SvD K W _ [.d (.str name), .d R, .d O, .d t, .d (.lst [.int n, .int m]), .d (.int n), .d (.int m), .d (.lst (errL K (.str name) (.str r0) R O t (.int n) (.int m))), .no, .no, .no] _
  have hl := errL_len K (.str name) (.str r0) R O t (.int n) (.int m)
  have hat := errL_at K (.str name) (.str r0) R O t (.int n) (.int m)
  generalize hE : errL K (.str name) (.str r0) R O t (.int n) (.int m) = E at hl hat ⊢
  have run := run_all (step := Turn1 K W (gName 8) (tbC K W)) (fun _ => [.d (.str name), .d R, .d O, .d t, .d (.lst [.int n, .int m]), .d (.int n), .d (.int m), .d (.lst E), .no, .no, .no]) (rngD 0 30) fun i d hd => by
    have hi : i < 30 := by rw [← rngD_length 0 30]; exact (List.getElem?_eq_some_iff.mp hd).1
    have e := rngD_get hd
    rw [Int.zero_add] at e
    subst e
    obtain ⟨ns, xs, hx⟩ := hat i hi
    exact t1_name (sv_nx (sv_ifF (tv_same (x := .lst [.int (i : Int)]) (ev_call (av_cons (ev_ixL (i := (i : Int)) (sl_d (ev_var rfl)) (ev_var rfl) (atI_nat hx)) av_nil) ⟨i, ns, xs, hi, rfl, rfl⟩) (ev_one (ev_var rfl)) (Sh.lst fun d hd => by rw [List.mem_singleton.mp hd]; exact .int _) (by decide)) sv_next) [8] rfl)
  have wi : WiD K (iRng1 (tCons (tCB (rLenA K) (tCons (tVar 7) tNil)) tNil)) [.d (.str name), .d R, .d O, .d t, .d (.lst [.int n, .int m]), .d (.int n), .d (.int m), .d (.lst E), .no, .no, .no] (rngD 0 30) := wi_rng1 (j := 30) (av_cons (ev_eq (ev_lenL (sl_d (ev_var rfl))) (by rw [hl]; rfl)) av_nil) (by decide) (by decide)
  refine sv_seq (sv_for wi run) ?_
  subst hE
  refine sv_seq (sv_asg (ev_of_L (evl_lst (av_T0 kf rfl) (by simp)))) ?_
  refine sv_seq (sv_grow9 rfl (av_T1 kf rfl) (by simp) (by simp)) ?_
  refine sv_seq (sv_grow9 rfl (av_T2 kf rfl) (by simp) (by simp)) ?_
  refine sv_seq (sv_grow9 rfl (av_T3 kf rfl) (by simp) (by simp)) ?_
  refine sv_seq (sv_grow9 rfl (av_T4 kf rfl) (by simp) (by simp)) ?_
  refine sv_seq (sv_asg (d := .lst [.str name, .str r0, .str r0, R, O, .str r0, .int n, .int m, .int m, .int m, t, .int n, .int m, .int m, t, .int m, .int n, .int m, t, .int m, R]) (ev_of_L (evl_lst (av_cons (ev_var rfl) (av_cons (row0 rfl) (av_cons (row0 rfl) (av_cons (ev_var rfl) (av_cons (ev_var rfl) (av_cons (row0 rfl) (av_cons (ev_var rfl) (av_cons (ev_var rfl) (av_cons (ev_var rfl) (av_cons (ev_var rfl) (av_cons (ev_var rfl) (av_cons (ev_var rfl) (av_cons (ev_var rfl) (av_cons (ev_var rfl) (av_cons (ev_var rfl) (av_cons (ev_var rfl) (av_cons (ev_var rfl) (av_cons (ev_var rfl) (av_cons (ev_var rfl) (av_cons (ev_var rfl) (av_cons (ev_var rfl) av_nil))))))))))))))))))))) (by simp)))) ?_
  exact sv_ret (ev_eqC (.lst (told24 (.str name) (.str r0) R O t (.int n) (.int m))) (eqD_told (.str hn) (.str er0) eR eO ht (.int n) (.int m)) (ev_var rfl) (ev_eq (ev_of_L (evl_addL (ev_var rfl) (ev_of_L (evl_lst (av3 (ev_var rfl) (ev_var rfl) (ev_var rfl)) (by simp))) (by simp))) (by rw [told_due])))
/-! ### _law_errors_right -/
theorem szE_ok : ∀ s ∈ szE, 0 < s ∧ s < 1073741824 := by decide
theorem ev_szE : EvD K (tOp (rAddA K) (tOp (rAddA K) (tOp (rAddA K) (tLst (tCons (tC (.int 41)) (tCons (tC (.int 61)) (tCons (tC (.int 10)) (tCons (tC (.int 5)) (tCons (tC (.int 3)) (tCons (tC (.int 2000000)) (tCons (tC (.int 30)) (tCons (tC (.int 10)) (tCons (tC (.int 26)) tNil)))))))))) (tOp rMulA (tLst (tCons (tC (.int 36)) tNil)) (tC (.int 10)))) (tLst (tCons (tC (.int 13)) (tCons (tC (.int 95)) tNil)))) (tOp rMulA (tLst (tCons (tC (.int 95)) tNil)) (tC (.int 12)))) ρ (.lst (szE.map D.int)) :=
  ev_eq (ev_of_L (evl_addL (ev_of_L (evl_addL (ev_of_L (evl_addL (xs := [D.int 41, D.int 61, D.int 10, D.int 5, D.int 3, D.int 2000000, D.int 30, D.int 10, D.int 26]) (ev_of_L (evl_lst (av_cons ev_int (av_cons ev_int (av_cons ev_int (av_cons ev_int (av_cons ev_int (av_cons ev_int (av_cons ev_int (av_cons ev_int (av_cons ev_int av_nil))))))))) (by decide))) (ev_repI (by decide) (by decide) (by decide)) (by decide))) (ev_of_L (evl_lst (av_cons ev_int (av_cons ev_int av_nil)) le2)) (by decide))) (ev_repI (by decide) (by decide) (by decide)) (by decide))) rfl
theorem namesE_ok : ∀ s ∈ namesE, StOk s := by
  have : ∀ s ∈ namesE, PyData.strOk s = true ∧ s.length ≤ 1000 := by decide +kernel
  exact this
theorem mem_sortE {f : Nat → Str} {n : Nat} (hn : n ≤ 100) (h : ∀ j, StOk (f j)) : SsOk (((List.range n).map f).mergeSort leX) := ssOk_sort ⟨by simp; omega, fun s hs => by
  obtain ⟨j, _, rfl⟩ := List.mem_map.mp hs
  exact h j⟩
theorem len_sortE {f : Nat → Str} {n : Nat} : (((List.range n).map f).mergeSort leX).length = n := by rw [List.length_mergeSort, List.length_map, List.length_range]
theorem ev_rowE {row : List Int} (k : Nat) (h1 : ρ[1]? = some (.d (.lst (row.map D.int)))) (hk : k < row.length) : EvD K (tOp (rIxA K) (tVar 1) (tC (.int (k : Int)))) ρ (.int (nth row k)) := ev_nth (sl_d (ev_var h1)) ev_int hk
theorem drop_ok {row : List Int} (h : rowOk szE row) : rowOk szS (row.drop 6) := by
  refine ⟨by rw [List.length_drop, h.1]; decide, fun k s d h1 h2 => ?_⟩
  rw [List.getElem?_drop] at h2
  refine h.2 (6 + k) s d ?_ h2
  show ([41, 61, 10, 5, 3, 2000000] ++ szS)[6 + k]? = some s
  rw [List.getElem?_append_right (by simp)]
  simpa using h1
theorem drop_cut (row : List Int) (h : 6 ≤ row.length) : DL.cutD (row.map D.int) (some 6) none = (row.drop 6).map D.int := by
  unfold DL.cutD
  have e : HT.sIx (row.map D.int).length 0 (some 6) = 6 := by
    have := HT.sIx_nat (row.map D.int).length 0 6
    rw [show ((6 : Nat) : Int) = 6 from rfl] at this
    rw [this, List.length_map]; omega
  rw [e, HT.sIx_none, ← List.map_drop, List.take_of_length_le]
  rw [List.length_map, List.length_drop, List.length_map]
  exact Nat.le_refl _
theorem pr_law_errors_right (W : WX) (ds : List D) (r : Res) (h : fr_law_errors_right ds r) : FnEnd K W (t_law_errors_right K W) (entry N_law_errors_right ds) r := by
  obtain ⟨c, rfl, rfl⟩ := h
  left
  show SvD K W (t_law_errors_right K W) [.d (.int c), .no, .no, .no, .no, .no, .no] _
  have hr : rowOk szE (digM c szE) := rowOk_dig c fun s hs => (szE_ok s hs).1
  unfold t_law_errors_right
  refine sv_seq (sv_asg (ev_sz ev_szE (ev_var rfl) szE_ok (by decide))) ?_
  generalize digM c szE = row at hr
  have hl : row.length = 33 := by rw [hr.1]; decide
  have r0 := row_at (k := 0) (s := 41) hr rfl
  have r1 := row_at (k := 1) (s := 61) hr rfl
  have r2 := row_at (k := 2) (s := 10) hr rfl
  have r3 := row_at (k := 3) (s := 5) hr rfl
  have r4 := row_at (k := 4) (s := 3) hr rfl
  refine sv_seq (sv_asg (d := .lst (namesE.map D.str)) (ev_of_L (evl_lst (av_cons ev_str (av_cons ev_str (av_cons ev_str (av_cons ev_str (av_cons ev_str (av_cons ev_str (av_cons ev_str (av_cons ev_str (av_cons ev_str (av_cons ev_str av_nil)))))))))) (by decide)))) ?_
  have m1 : EvL K (tLc (iRng1 (tCons (tOp (rAddA K) (tC (.int 1)) (tOp (rIxA K) (tVar 1) (tC (.int 3)))) tNil)) (gName 4) tYes (tOp (rIxA K) (tVar 2) (tOp (rI (fun _ j => 0 < j) fun i j => .int (i % j)) (tCB rIntC (tCons (tOp (rAddA K) (tOp (rIxA K) (tVar 1) (tC (.int 2))) (tVar 4)) tNil)) (tC (.int 10)))) [4]) [.d (.int c), .d (.lst (row.map D.int)), .d (.lst (namesE.map D.str)), .no, .no, .no, .no] ((List.range (1 + nth row 3).toNat).map fun (j : Nat) => D.str (namesE.getD ((nth row 2 + (j : Int)) % 10).toNat "")) :=
    evl_map (e := fun (j : Nat) => D.int (0 + (j : Int))) (fun (j : Nat) => D.str (namesE.getD ((nth row 2 + (j : Int)) % 10).toNat "")) (wi_rng1 (av_cons (ev_addI ev_int (ev_rowE 3 rfl (by omega))) av_nil) (by omega) (by omega)) (fun j hj => ⟨[4], _, tg_name, by simp, ev_name2 (ev_var rfl) (ev_modI (ev_intC (ev_addI (ev_rowE 2 rfl (by omega)) (ev_eq (ev_var (i := 4) rfl) (by rw [Int.zero_add])))) ev_int (by decide)) (by omega) (by rw [show namesE.length = 10 from rfl]; omega)⟩) (by simp; omega)
  have m1' : EvSL K (tLc (iRng1 (tCons (tOp (rAddA K) (tC (.int 1)) (tOp (rIxA K) (tVar 1) (tC (.int 3)))) tNil)) (gName 4) tYes (tOp (rIxA K) (tVar 2) (tOp (rI (fun _ j => 0 < j) fun i j => .int (i % j)) (tCB rIntC (tCons (tOp (rAddA K) (tOp (rIxA K) (tVar 1) (tC (.int 2))) (tVar 4)) tNil)) (tC (.int 10)))) [4]) [.d (.int c), .d (.lst (row.map D.int)), .d (.lst (namesE.map D.str)), .no, .no, .no, .no] (((List.range (1 + nth row 3).toNat).map fun (j : Nat) => namesE.getD ((nth row 2 + (j : Int)) % 10).toNat "").map D.str) := by
    rw [List.map_map]; exact sl_d (ev_of_L m1)
  refine sv_seq (sv_asg (d := .tup ((rowsE row).map D.str)) (ev_tupL (sl_d (ev_of_L (evl_sortSL m1' (by simp; omega)))))) ?_
  have m2 : EvL K (tLc (iRng1 (tCons (tOp (rAddA K) (tC (.int 1)) (tOp (rIxA K) (tVar 1) (tC (.int 4)))) tNil)) (gName 4) tYes (tOp (rIxA K) (tVar 2) (tOp (rI (fun _ j => 0 < j) fun i j => .int (i % j)) (tCB rIntC (tCons (tOp (rAddA K) (tOp (rAddA K) (tOp (rIxA K) (tVar 1) (tC (.int 2))) (tC (.int 1))) (tVar 4)) tNil)) (tC (.int 10)))) [4]) [.d (.int c), .d (.lst (row.map D.int)), .d (.lst (namesE.map D.str)), .d (.tup ((rowsE row).map D.str)), .no, .no, .no] ((List.range (1 + nth row 4).toNat).map fun (j : Nat) => D.str (namesE.getD ((nth row 2 + 1 + (j : Int)) % 10).toNat "")) :=
    evl_map (e := fun (j : Nat) => D.int (0 + (j : Int))) (fun (j : Nat) => D.str (namesE.getD ((nth row 2 + 1 + (j : Int)) % 10).toNat "")) (wi_rng1 (av_cons (ev_addI ev_int (ev_rowE 4 rfl (by omega))) av_nil) (by omega) (by omega)) (fun j hj => ⟨[4], _, tg_name, by simp, ev_name2 (ev_var rfl) (ev_modI (ev_intC (ev_addI (ev_addI (ev_rowE 2 rfl (by omega)) ev_int) (ev_eq (ev_var (i := 4) rfl) (by rw [Int.zero_add])))) ev_int (by decide)) (by omega) (by rw [show namesE.length = 10 from rfl]; omega)⟩) (by simp; omega)
  have m2' : EvSL K (tLc (iRng1 (tCons (tOp (rAddA K) (tC (.int 1)) (tOp (rIxA K) (tVar 1) (tC (.int 4)))) tNil)) (gName 4) tYes (tOp (rIxA K) (tVar 2) (tOp (rI (fun _ j => 0 < j) fun i j => .int (i % j)) (tCB rIntC (tCons (tOp (rAddA K) (tOp (rAddA K) (tOp (rIxA K) (tVar 1) (tC (.int 2))) (tC (.int 1))) (tVar 4)) tNil)) (tC (.int 10)))) [4]) [.d (.int c), .d (.lst (row.map D.int)), .d (.lst (namesE.map D.str)), .d (.tup ((rowsE row).map D.str)), .no, .no, .no] (((List.range (1 + nth row 4).toNat).map fun (j : Nat) => namesE.getD ((nth row 2 + 1 + (j : Int)) % 10).toNat "").map D.str) := by
    rw [List.map_map]; exact sl_d (ev_of_L m2)
  refine sv_seq (sv_asg (d := .tup ((othersE row).map D.str)) (ev_tupL (sl_d (ev_of_L (evl_sortSL m2' (by simp; omega)))))) ?_
  have okR : SsOk (rowsE row) := mem_sortE (by omega) fun j => getD_all namesE_ok st_e _
  have okO : SsOk (othersE row) := mem_sortE (by omega) fun j => getD_all namesE_ok st_e _
  have lenR : (rowsE row).length = (1 + nth row 3).toNat := len_sortE
  generalize rowsE row = R at okR lenR
  generalize othersE row = O at okO
  obtain ⟨a, ha⟩ : ∃ a, R[0]? = some a := ⟨R[0]'(by omega), List.getElem?_eq_getElem _⟩
  obtain ⟨z, hz⟩ : ∃ z, R[R.length - 1]? = some z := ⟨R[R.length - 1]'(by omega), List.getElem?_eq_getElem _⟩
  have oka : StOk a := okR.2 a (List.mem_of_getElem? ha)
  have okz : StOk z := okR.2 z (List.mem_of_getElem? hz)
  have zero1 : ("0" : Str).length = 1 := by decide +kernel
  have at0 : EvD K (tOp (rIxA K) (tVar 3) (tC (.int 0))) [.d (.int c), .d (.lst (row.map D.int)), .d (.lst (namesE.map D.str)), .d (.tup (R.map D.str)), .no, .d (.tup (O.map D.str)), .no] (.str a) := ev_ixT (i := 0) (st_d (ev_var rfl)) ev_int (atI_nat (j := 0) (by rw [List.getElem?_map, ha]; rfl))
  have atZ : EvD K (tOp (rIxA K) (tVar 3) (tUn (rU fun i => .int (-i)) (tC (.int 1)))) [.d (.int c), .d (.lst (row.map D.int)), .d (.lst (namesE.map D.str)), .d (.tup (R.map D.str)), .no, .d (.tup (O.map D.str)), .no] (.str z) := ev_ixT (i := -1) (st_d (ev_var rfl)) (ev_neg ev_int) (by
    have e : ixN (R.map D.str).length (-1) = some (R.length - 1) := by
      unfold ixN
      rw [List.length_map, if_neg (by decide), if_pos (by omega)]
      congr 1; omega
    unfold atI
    rw [e]
    show (R.map D.str)[R.length - 1]? = _
    rw [List.getElem?_map, hz]; rfl)
  refine sv_seq (sv_asg (d := .tup [.tup [.str a, .int (nth row 0 - 20), .int (1 + nth row 5)], .tup [.str (z ++ "0"), .int 3, .int (-1 - nth row 1)]]) (ev_tup (av_cons (ev_tup (av3 at0 (ev_subI (ev_rowE 0 rfl (by omega)) ev_int) (ev_addI ev_int (ev_rowE 5 rfl (by omega)))) le3) (av_cons (ev_tup (av3 (ev_addS atZ ev_str (by have := okz.2; omega)) ev_int (ev_subI (ev_neg ev_int) (ev_rowE 1 rfl (by omega)))) le3) av_nil)) le2)) ?_
  have eT : EqD 2 (.tup [.tup [.str a, .int (nth row 0 - 20), .int (1 + nth row 5)], .tup [.str (z ++ "0"), .int 3, .int (-1 - nth row 1)]]) := .tup (fun d hd => by
    rcases List.mem_cons.mp hd with rfl | hd
    · exact .tup (fun d hd => by
        simp only [List.mem_cons, List.not_mem_nil, or_false] at hd
        rcases hd with rfl | rfl | rfl
        · exact .str oka.1
        · exact .int _
        · exact .int _) (by simp)
    · rw [List.mem_singleton.mp hd]
      exact .tup (fun d hd => by
        simp only [List.mem_cons, List.not_mem_nil, or_false] at hd
        rcases hd with rfl | rfl | rfl
        · exact .str (ok_app okz.1 (by decide +kernel))
        · exact .int _
        · exact .int _) (by simp)) (by simp)
  have cut : EvD K (tSl (rSlAny K) (tVar 1) (tPart (tC (.int 6))) tNoPart) [.d (.int c), .d (.lst (row.map D.int)), .d (.lst (namesE.map D.str)), .d (.tup (R.map D.str)), .no, .d (.tup (O.map D.str)), .d (.tup [.tup [.str a, .int (nth row 0 - 20), .int (1 + nth row 5)], .tup [.str (z ++ "0"), .int 3, .int (-1 - nth row 1)]])] (.lst ((row.drop 6).map D.int)) := ev_eq (ev_of_L (evl_slL (sl_d (ev_var rfl)) (po_is ev_int) po_no)) (by rw [drop_cut row (by omega)])
  have hd := drop_ok hr
  exact sv_ret (ev_call (av_cons (ev_call (d := .str (strM (row.drop 6) false)) (av_cons cut (av_cons ev_bl av_nil)) ⟨row.drop 6, false, hd, rfl, rfl⟩) (av_cons (ev_var rfl) (av_cons (ev_var rfl) (av_cons (ev_var rfl) (av_cons (ev_pair (ev_subI (ev_rowE 0 rfl (by omega)) ev_int) (ev_rowE 1 rfl (by omega))) av_nil)))))
    ⟨strM (row.drop 6) false, R, O, _, nth row 0 - 20, nth row 1, (strM_ok hd false).1, fun e => by rw [e] at lenR; simp at lenR; omega, okR, okO, eT, rfl, rfl⟩)
/-! ### the law -/
theorem ssOk_back (h : SsOk ss) : SsOk ((List.range ss.length).map fun (j : Nat) => ss.getD (((ss.length : Int) - 1 - (j : Int)).toNat) "") := ⟨by simp; exact h.1, fun s hs => by
  obtain ⟨j, _, rfl⟩ := List.mem_map.mp hs
  exact getD_all h.2 st_e _⟩
abbrev tbL1 (K : PySem.W.Frag) (W : WX) : TS := (tSeq (tAsg (tCallS (SpF K Pis_row_name.length fris_row_name) (WE W) (tCons (tVar 4) tNil)) (gName 5))
    (tIfS (tOr (tNot (tB (tCB (rIsi K) (tCons (tVar 5) (tCons (tC (.ty "bool")) tNil))))) (tTest (tOp (rNeD K) (tVar 5) (tCallS (SpF K P_law_good.length fr_law_good) (WE W) (tCons (tVar 4) tNil))))) (tRet (tC (.bl false))) tNext))
abbrev rhoL (ns : List Int) (m : Int) (k : Nat) (ss : List Str) : List Sl := [.d (.scr ns), .d (.int m), .d (.int (k : Int)), .d (.lst (ss.map D.str)), .no, .no, .no]
theorem run_names (ns : List Int) (m : Int) (k : Nat) (ss : List Str) : ∀ r : List Str, (∀ s ∈ r, StOk s) → Run (Turn1 K W (gName 4) (tbL1 K W)) (r.map D.str) (rhoL ns m k ss) (.nx (rhoL ns m k ss))
  | [], _ => .nil
  | s :: r, h => by
    have ih := run_names ns m k ss r fun x hx => h x (List.mem_cons_of_mem _ hx)
    have hs := (h s List.mem_cons_self).2
    refine .go (t1_name (sv_nx (sv_seq (sv_asg (d := .bl (goodM s)) (ev_call (av_cons (ev_var rfl) av_nil) ⟨s, hs, rfl, rfl⟩)) (sv_ifF (tv_or (a := false) (b := false) (tv_not (tv_B (ev_isi (b := true) (ev_var (x := .bl (goodM s)) rfl) rfl (kit_bool rfl)))) fun _ => tv_eq (tv_neD (x := .bl (goodM s)) (y := .bl (goodM s)) (ev_var rfl) (ev_call (av_cons (ev_var rfl) av_nil) ⟨s, hs, rfl, rfl⟩) rfl rfl) (by cases goodM s <;> rfl)) sv_next)) [4, 5] rfl)) ih
abbrev tbL (K : PySem.W.Frag) (W : WX) : TS := (tSeq (tAsg (tCallS (SpF K P_law_strings.length fr_law_strings) (WE W) (tCons (tVar 0) (tCons (tOp (rAddA K) (tC (.int 2)) (tOp rMulA (tC (.int 7)) (tVar 2))) tNil))) (gName 3))
    (tSeq (tFor (iSeq K (tVar 3)) (gName 4) (tbL1 K W))
    (tSeq (tIfS (tNot (tB (tCallS (SpF K P_law_right.length fr_law_right) (WE W) (tCons (tVar 3) tNil)))) (tRet (tC (.bl false))) tNext)
    (tIfS (tNot (tB (tCallS (SpF K P_law_right.length fr_law_right) (WE W) (tCons (tLc (iRng1 (tCons (tCB (rLenA K) (tCons (tVar 3) tNil)) tNil)) (gName 6) tYes (tOp (rIxA K) (tVar 3) (tOp (rI0 fun i j => .int (i - j)) (tOp (rI0 fun i j => .int (i - j)) (tCB (rLenA K) (tCons (tVar 3) tNil)) (tC (.int 1))) (tVar 6))) [6]) tNil)))) (tRet (tC (.bl false))) tNext))))
theorem turn_law (ns : List Int) (m : Int) (k : Nat) (hk : k ≤ 10) : SvD K W (tbL K W) [.d (.scr ns), .d (.int m), .d (.int (k : Int)), .no, .no, .no, .no] (.nx (rhoL ns m k (strsM ns (2 + 7 * k)))) := by
  have ok := strs_ok ns (2 + 7 * k)
  refine sv_seq (sv_asg (d := .lst ((strsM ns (2 + 7 * k)).map D.str)) (ev_call (av_cons (ev_var rfl) (av_cons (ev_eq (ev_addI ev_int (ev_mulI ev_int (ev_var (i := 2) rfl) (mul_s (by decide) (by omega)))) rfl) av_nil)) ⟨ns, 2 + 7 * k, by omega, by
    have : (2 : Int) + 7 * (k : Int) = ((2 + 7 * k : Nat) : Int) := by omega
    rw [this], rfl⟩)) ?_
  generalize strsM ns (2 + 7 * k) = ss at ok ⊢
  show SvD K W _ (rhoL ns m k ss) _
  refine sv_seq (sv_for (wi_seqL (wi_list (ev_var rfl))) (run_names ns m k ss ss ok.2)) ?_
  refine sv_seq (sv_ifF (tv_not (tv_B (ev_call (d := .bl true) (av_cons (ev_var rfl) av_nil) ⟨ss, ok, rfl, rfl⟩))) sv_next) ?_
  have hl : ∀ {ρ : List Sl}, ρ[3]? = some (.d (.lst (ss.map D.str))) → EvD K (tCB (rLenA K) (tCons (tVar 3) tNil)) ρ (.int (ss.length : Int)) := fun h => ev_eq (ev_lenL (sl_d (ev_var h))) (by rw [List.length_map])
  have b := ok.1
  have mm : EvL K (tLc (iRng1 (tCons (tCB (rLenA K) (tCons (tVar 3) tNil)) tNil)) (gName 6) tYes (tOp (rIxA K) (tVar 3) (tOp (rI0 fun i j => .int (i - j)) (tOp (rI0 fun i j => .int (i - j)) (tCB (rLenA K) (tCons (tVar 3) tNil)) (tC (.int 1))) (tVar 6))) [6]) (rhoL ns m k ss) ((List.range ss.length).map fun (j : Nat) => D.str (ss.getD (((ss.length : Int) - 1 - (j : Int)).toNat) "")) :=
    evl_map (e := fun (j : Nat) => D.int (0 + (j : Int))) (fun (j : Nat) => D.str (ss.getD (((ss.length : Int) - 1 - (j : Int)).toNat) "")) (by
      have := wi_rng1 (K := K) (av_cons (hl (ρ := rhoL ns m k ss) rfl) av_nil) (by omega) (by omega)
      have w : WiD K (iRng1 (tCons (tCB (rLenA K) (tCons (tVar 3) tNil)) tNil)) (rhoL ns m k ss) (rngD 0 ss.length) := by simpa using this
      exact w) (fun j hj => by
      have hj := List.mem_range.mp hj
      exact ⟨[6], _, tg_name, by simp, ev_name2 (ev_var rfl) (ev_subI (ev_subI (hl rfl) ev_int) (ev_eq (ev_var (i := 6) rfl) (by rw [Int.zero_add]))) (by omega) (by omega)⟩) (by simp; omega)
  have mm' : EvD K (tLc (iRng1 (tCons (tCB (rLenA K) (tCons (tVar 3) tNil)) tNil)) (gName 6) tYes (tOp (rIxA K) (tVar 3) (tOp (rI0 fun i j => .int (i - j)) (tOp (rI0 fun i j => .int (i - j)) (tCB (rLenA K) (tCons (tVar 3) tNil)) (tC (.int 1))) (tVar 6))) [6]) (rhoL ns m k ss) (.lst (((List.range ss.length).map fun (j : Nat) => ss.getD (((ss.length : Int) - 1 - (j : Int)).toNat) "").map D.str)) := by
    rw [List.map_map]; exact ev_of_L mm
  exact sv_ifF (tv_not (tv_B (ev_call (d := .bl true) (av_cons mm' av_nil) ⟨_, ssOk_back ok, rfl, rfl⟩))) sv_next
def manyL : List Int := [3, 2, 1, 1, 2, 1, 4, 2]
theorem pr_law (W : WX) (ds : List D) (r : Res) (h : frlaw ds r) : FnEnd K W (tlaw K W) (entry Nlaw ds) r := by
  obtain ⟨ns, hn, rfl, rfl⟩ := h
  left
  show SvD K W (tlaw K W) [.d (.scr ns), .no, .no, .no, .no, .no, .no] _
  have s8 : ∀ s ∈ ([8] : List Int), 0 < s ∧ s < 1073741824 := by decide
  have hr : rowOk [8] (digM (cellM ns 0) [8]) := rowOk_dig _ fun s hs => (s8 s hs).1
  have h0 := row_at (k := 0) (s := 8) hr rfl
  have e0 : EvD K (tCallS (SpF K P_law_digits.length fr_law_digits) (WE W) (tCons (tCallS (SpF K P_law_cell.length fr_law_cell) (WE W) (tCons (tVar 0) (tCons (tC (.int 0)) tNil))) (tCons (tLst (tCons (tC (.int 8)) tNil)) tNil))) [.d (.scr ns), .no, .no, .no, .no, .no, .no] (.lst ((digM (cellM ns 0) [8]).map D.int)) := ev_sz (sz := [8]) (ev_one ev_int) (ev_cell (k := 0) (ev_var rfl) ev_int (by decide)) s8 (by decide)
  generalize digM (cellM ns 0) [8] = row at hr h0 e0
  have m0 : ∀ j : Nat, j < 8 → 0 ≤ nth manyL j ∧ nth manyL j ≤ 4 := by decide
  have mb := m0 (nth row 0).toNat (by omega)
  unfold tlaw
  refine sv_seq (sv_asg (d := .int (nth manyL (nth row 0).toNat)) (ev_nthI (l := manyL) (sl_d (ev_of_L (evl_lst (av_cons ev_int (av_cons ev_int (av_cons ev_int (av_cons ev_int (av_cons ev_int (av_cons ev_int (av_cons ev_int (av_cons ev_int av_nil)))))))) (by decide)))) (ev_nth (k := 0) (sl_d e0) ev_int (by rw [hr.1]; decide)) h0.1 (by rw [show manyL.length = 8 from rfl]; omega))) ?_
  generalize nth manyL (nth row 0).toNat = m at mb
  refine sv_seq (sv_ifF (tv_not (tv_B (ev_call (d := .bl true) (av_cons (ev_cell (k := 1) (ev_var rfl) ev_int (by decide)) av_nil) ⟨_, rfl, rfl⟩))) sv_next) ?_
  have run := run_all (step := Turn1 K W (gName 2) (tbL K W)) (fun _ => [.d (.scr ns), .d (.int m), .no, .no, .no, .no, .no]) (rngD 0 m.toNat) fun i d hd => by
    have hi : i < m.toNat := by rw [← rngD_length 0 m.toNat]; exact (List.getElem?_eq_some_iff.mp hd).1
    have e := rngD_get hd
    rw [Int.zero_add] at e
    subst e
    exact t1_name (sv_nx (turn_law ns m i (by omega)) [2, 3] rfl)
  refine sv_seq (sv_for (wi_rng1 (av_cons (ev_var rfl) av_nil) (by omega) (by omega)) run) (sv_ret ev_bl)
end
end Go
set_option Elab.async false
set_option linter.all false
set_option maxRecDepth 100000
set_option maxHeartbeats 0
namespace Go
open PySem PySem.Spec PyProof.Rows L2 DL
theorem mem_kindH : ∀ k, k < 30 → kindN.getD k "" ∈ kindH := by decide
theorem get_kindH : ∀ k, k < 30 → kindH[k]? = some (kindN.getD k "") := by decide
theorem get_clsA {K : PySem.W.Frag} {k : Nat} (h : k < 30) : (kindH.map (He.ga K))[k]? = some (clsA K k) := by
  rw [List.getElem?_map, get_kindH k h]
  rfl
theorem noOf {K : PySem.W.Frag} (h : kfB K = true) : ∀ x ∈ kindH, ∀ f ∈ fieldH, PySem.W.findIn K (.ref (He.ga K x)) f = some none := by
  obtain ⟨_, h⟩ := He.ba h
  obtain ⟨_, h⟩ := He.ba h
  obtain ⟨_, h⟩ := He.ba h
  obtain ⟨_, h⟩ := He.ba h
  obtain ⟨_, h⟩ := He.ba h
  intro x hx f hf
  exact He.eqO_ok (List.all_eq_true.mp (List.all_eq_true.mp h x hx) f hf)
theorem kfOf {K : PySem.W.Frag} (h0 : kfB K = true) : KF K := by
  have hno := noOf h0
  obtain ⟨h1, h⟩ := He.ba h0
  obtain ⟨h2, h⟩ := He.ba h
  obtain ⟨h3, h⟩ := He.ba h
  obtain ⟨h4, h⟩ := He.ba h
  obtain ⟨h5, _⟩ := He.ba h
  have hall : ∀ k, k < 30 → ExcC K (clsA K k) ∧ MroC K (He.ga K "RowError") (clsA K k) := fun k hk => by
    obtain ⟨a, b⟩ := He.ba (List.all_eq_true.mp h1 _ (mem_kindH k hk))
    exact ⟨excB_ok a, mroB_ok b⟩
  have nd := List.nodup_cons.mp (of_decide_eq_true h2)
  have inj : ∀ i j, i < 30 → j < 30 → clsA K i = clsA K j → i = j := fun i j hi hj e => by
    refine (List.getElem?_inj (i := i) (j := j) (show i < (kindH.map (He.ga K)).length by rw [List.length_map]; exact hi) nd.2).mp ?_
    rw [get_clsA hi, get_clsA hj, e]
  have neR : ∀ i, i < 30 → clsA K i ≠ He.ga K "RowError" := fun i hi e => nd.1 (e ▸ List.mem_of_getElem? (get_clsA hi))
  have one : ∀ i j, i < 30 → j < 30 → (decide (clsA K j = clsA K i) || decide (clsA K j = He.ga K "RowError")) = decide (i = j) := fun i j hi hj => by
    have e1 : decide (clsA K j = He.ga K "RowError") = false := decide_eq_false (neR j hj)
    rw [e1, Bool.or_false]
    by_cases e : i = j
    · subst e; simp
    · have : ¬ clsA K j = clsA K i := fun z => e (inj _ _ hj hi z).symm
      simp [e, this]
  refine ⟨fun k hk => (hall k hk).1, fun i j hi hj => ?_, fun k hk => ?_, fun k hk => (hall k hk).2.ve (by decide +kernel), fun i j hi hj => ?_, fun k hk => ?_, fun k hk => ?_, fun k f hk hf => hno _ (mem_kindH k hk) f hf⟩
  · rw [(hall i hi).2.kit (hall j hj).2.cls.1 (hall j hj).2.cls.2, one i j hi hj]
  · rw [(hall k hk).2.kit h3 (of_decide_eq_true h4)]
    simp
  · rw [(hall i hi).2.exm (hall j hj).1.hs (hall j hj).2.cls.1 (hall j hj).2.cls.2, one i j hi hj]
  · rw [(hall k hk).2.exm (of_decide_eq_true h5) h3 (of_decide_eq_true h4)]
    simp
  · have e := (hall k hk).1
    exact ⟨e.hg, e.hk, e.hs, e.hd⟩
theorem sci_BadName : FnScope ["self", "name"] ["self", "name"] (defScope (initS 6)) := ⟨rfl, rfl, rfl, by decide +kernel, rfl, by decide +kernel, by decide +kernel⟩
theorem ini_BadName {P : Program} {w : World} {K : PySem.W.Frag} {h : Heap} {mg : Str → Option Value} {base : Heap} (X : K.In h) (G : h.Ns mainGlobals mg) (c : He.SaysD faL fnL K) (O : OwnI K (He.ga K "BadName") (He.ma K (He.ga K "BadName") "__init__")) (no : ∀ f ∈ fieldH, PySem.W.findIn K (.ref (He.ga K "BadName")) f = some none) : MkI P w K mg base "BadName" ["name"] := by
  obtain ⟨fd, F⟩ := c.def_ 18 (d := ⟨("BadName", some "__init__"), "__init__", "BadName.__init__", defArgs (initS 6), defBody (initS 6), defScope (initS 6), [], []⟩) rfl
  exact ⟨_, fd, ["self", "name"], He.glo_ok X G (c.fact 30 (f := .glo "BadName") rfl), O, fnI1 F sci_BadName rfl O.T (no "name" (by decide)) (fun _ _ _ _ _ _ => pss_one (ps_ost (pv 0) (pv 1))), FunD.bindsN F (fun _ _ _ _ _ _ us hl => match us, hl with | [_, _], _ => rfl)⟩
theorem sci_BadNotation : FnScope ["self", "line"] ["self", "line"] (defScope (initS 31)) := ⟨rfl, rfl, rfl, by decide +kernel, rfl, by decide +kernel, by decide +kernel⟩
theorem ini_BadNotation {P : Program} {w : World} {K : PySem.W.Frag} {h : Heap} {mg : Str → Option Value} {base : Heap} (X : K.In h) (G : h.Ns mainGlobals mg) (c : He.SaysD faL fnL K) (O : OwnI K (He.ga K "BadNotation") (He.ma K (He.ga K "BadNotation") "__init__")) (no : ∀ f ∈ fieldH, PySem.W.findIn K (.ref (He.ga K "BadNotation")) f = some none) : MkI P w K mg base "BadNotation" ["line"] := by
  obtain ⟨fd, F⟩ := c.def_ 19 (d := ⟨("BadNotation", some "__init__"), "__init__", "BadNotation.__init__", defArgs (initS 31), defBody (initS 31), defScope (initS 31), [], []⟩) rfl
  exact ⟨_, fd, ["self", "line"], He.glo_ok X G (c.fact 31 (f := .glo "BadNotation") rfl), O, fnI1 F sci_BadNotation rfl O.T (no "line" (by decide)) (fun _ _ _ _ _ _ => pss_one (ps_ost (pv 0) (pv 1))), FunD.bindsN F (fun _ _ _ _ _ _ us hl => match us, hl with | [_, _], _ => rfl)⟩
theorem sci_BadParts : FnScope ["self", "count"] ["self", "count"] (defScope (initS 17)) := ⟨rfl, rfl, rfl, by decide +kernel, rfl, by decide +kernel, by decide +kernel⟩
theorem ini_BadParts {P : Program} {w : World} {K : PySem.W.Frag} {h : Heap} {mg : Str → Option Value} {base : Heap} (X : K.In h) (G : h.Ns mainGlobals mg) (c : He.SaysD faL fnL K) (O : OwnI K (He.ga K "BadParts") (He.ma K (He.ga K "BadParts") "__init__")) (no : ∀ f ∈ fieldH, PySem.W.findIn K (.ref (He.ga K "BadParts")) f = some none) : MkI P w K mg base "BadParts" ["count"] := by
  obtain ⟨fd, F⟩ := c.def_ 20 (d := ⟨("BadParts", some "__init__"), "__init__", "BadParts.__init__", defArgs (initS 17), defBody (initS 17), defScope (initS 17), [], []⟩) rfl
  exact ⟨_, fd, ["self", "count"], He.glo_ok X G (c.fact 32 (f := .glo "BadParts") rfl), O, fnI1 F sci_BadParts rfl O.T (no "count" (by decide)) (fun _ _ _ _ _ _ => pss_one (ps_ost (pv 0) (pv 1))), FunD.bindsN F (fun _ _ _ _ _ _ us hl => match us, hl with | [_, _], _ => rfl)⟩
theorem sci_BadStretch : FnScope ["self", "count"] ["self", "count"] (defScope (initS 11)) := ⟨rfl, rfl, rfl, by decide +kernel, rfl, by decide +kernel, by decide +kernel⟩
theorem ini_BadStretch {P : Program} {w : World} {K : PySem.W.Frag} {h : Heap} {mg : Str → Option Value} {base : Heap} (X : K.In h) (G : h.Ns mainGlobals mg) (c : He.SaysD faL fnL K) (O : OwnI K (He.ga K "BadStretch") (He.ma K (He.ga K "BadStretch") "__init__")) (no : ∀ f ∈ fieldH, PySem.W.findIn K (.ref (He.ga K "BadStretch")) f = some none) : MkI P w K mg base "BadStretch" ["count"] := by
  obtain ⟨fd, F⟩ := c.def_ 21 (d := ⟨("BadStretch", some "__init__"), "__init__", "BadStretch.__init__", defArgs (initS 11), defBody (initS 11), defScope (initS 11), [], []⟩) rfl
  exact ⟨_, fd, ["self", "count"], He.glo_ok X G (c.fact 33 (f := .glo "BadStretch") rfl), O, fnI1 F sci_BadStretch rfl O.T (no "count" (by decide)) (fun _ _ _ _ _ _ => pss_one (ps_ost (pv 0) (pv 1))), FunD.bindsN F (fun _ _ _ _ _ _ us hl => match us, hl with | [_, _], _ => rfl)⟩
theorem sci_Barred : FnScope ["self", "terms"] ["self", "terms"] (defScope (initS 18)) := ⟨rfl, rfl, rfl, by decide +kernel, rfl, by decide +kernel, by decide +kernel⟩
theorem ini_Barred {P : Program} {w : World} {K : PySem.W.Frag} {h : Heap} {mg : Str → Option Value} {base : Heap} (X : K.In h) (G : h.Ns mainGlobals mg) (c : He.SaysD faL fnL K) (O : OwnI K (He.ga K "Barred") (He.ma K (He.ga K "Barred") "__init__")) (no : ∀ f ∈ fieldH, PySem.W.findIn K (.ref (He.ga K "Barred")) f = some none) : MkI P w K mg base "Barred" ["terms"] := by
  obtain ⟨fd, F⟩ := c.def_ 22 (d := ⟨("Barred", some "__init__"), "__init__", "Barred.__init__", defArgs (initS 18), defBody (initS 18), defScope (initS 18), [], []⟩) rfl
  exact ⟨_, fd, ["self", "terms"], He.glo_ok X G (c.fact 34 (f := .glo "Barred") rfl), O, fnI1 F sci_Barred rfl O.T (no "terms" (by decide)) (fun _ _ _ _ _ _ => pss_one (ps_ost (pv 0) (pv 1))), FunD.bindsN F (fun _ _ _ _ _ _ us hl => match us, hl with | [_, _], _ => rfl)⟩
theorem sci_BreaksOwnRule : FnScope ["self", "place"] ["self", "place"] (defScope (initS 20)) := ⟨rfl, rfl, rfl, by decide +kernel, rfl, by decide +kernel, by decide +kernel⟩
theorem ini_BreaksOwnRule {P : Program} {w : World} {K : PySem.W.Frag} {h : Heap} {mg : Str → Option Value} {base : Heap} (X : K.In h) (G : h.Ns mainGlobals mg) (c : He.SaysD faL fnL K) (O : OwnI K (He.ga K "BreaksOwnRule") (He.ma K (He.ga K "BreaksOwnRule") "__init__")) (no : ∀ f ∈ fieldH, PySem.W.findIn K (.ref (He.ga K "BreaksOwnRule")) f = some none) : MkI P w K mg base "BreaksOwnRule" ["place"] := by
  obtain ⟨fd, F⟩ := c.def_ 23 (d := ⟨("BreaksOwnRule", some "__init__"), "__init__", "BreaksOwnRule.__init__", defArgs (initS 20), defBody (initS 20), defScope (initS 20), [], []⟩) rfl
  exact ⟨_, fd, ["self", "place"], He.glo_ok X G (c.fact 35 (f := .glo "BreaksOwnRule") rfl), O, fnI1 F sci_BreaksOwnRule rfl O.T (no "place" (by decide)) (fun _ _ _ _ _ _ => pss_one (ps_ost (pv 0) (pv 1))), FunD.bindsN F (fun _ _ _ _ _ _ us hl => match us, hl with | [_, _], _ => rfl)⟩
theorem sci_Broken : FnScope ["self", "place", "index"] ["self", "place", "index"] (defScope (initS 15)) := ⟨rfl, rfl, rfl, by decide +kernel, rfl, by decide +kernel, by decide +kernel⟩
theorem ini_Broken {P : Program} {w : World} {K : PySem.W.Frag} {h : Heap} {mg : Str → Option Value} {base : Heap} (X : K.In h) (G : h.Ns mainGlobals mg) (c : He.SaysD faL fnL K) (O : OwnI K (He.ga K "Broken") (He.ma K (He.ga K "Broken") "__init__")) (no : ∀ f ∈ fieldH, PySem.W.findIn K (.ref (He.ga K "Broken")) f = some none) : MkI P w K mg base "Broken" ["place", "index"] := by
  obtain ⟨fd, F⟩ := c.def_ 24 (d := ⟨("Broken", some "__init__"), "__init__", "Broken.__init__", defArgs (initS 15), defBody (initS 15), defScope (initS 15), [], []⟩) rfl
  exact ⟨_, fd, ["self", "place", "index"], He.glo_ok X G (c.fact 36 (f := .glo "Broken") rfl), O, fnI2 F sci_Broken rfl O.T (no "place" (by decide)) (no "index" (by decide)) (fun _ _ _ _ _ _ => pss_cons (ps_ost (pv 0) (pv 1)) (pss_one (ps_ost (pv 0) (pv 2)))), FunD.bindsN F (fun _ _ _ _ _ _ us hl => match us, hl with | [_, _, _], _ => rfl)⟩
theorem sci_CannotStand : FnScope ["self", "terms"] ["self", "terms"] (defScope (initS 14)) := ⟨rfl, rfl, rfl, by decide +kernel, rfl, by decide +kernel, by decide +kernel⟩
theorem ini_CannotStand {P : Program} {w : World} {K : PySem.W.Frag} {h : Heap} {mg : Str → Option Value} {base : Heap} (X : K.In h) (G : h.Ns mainGlobals mg) (c : He.SaysD faL fnL K) (O : OwnI K (He.ga K "CannotStand") (He.ma K (He.ga K "CannotStand") "__init__")) (no : ∀ f ∈ fieldH, PySem.W.findIn K (.ref (He.ga K "CannotStand")) f = some none) : MkI P w K mg base "CannotStand" ["terms"] := by
  obtain ⟨fd, F⟩ := c.def_ 25 (d := ⟨("CannotStand", some "__init__"), "__init__", "CannotStand.__init__", defArgs (initS 14), defBody (initS 14), defScope (initS 14), [], []⟩) rfl
  exact ⟨_, fd, ["self", "terms"], He.glo_ok X G (c.fact 37 (f := .glo "CannotStand") rfl), O, fnI1 F sci_CannotStand rfl O.T (no "terms" (by decide)) (fun _ _ _ _ _ _ => pss_one (ps_ost (pv 0) (pv 1))), FunD.bindsN F (fun _ _ _ _ _ _ us hl => match us, hl with | [_, _], _ => rfl)⟩
theorem sci_NotBlocked : FnScope ["self", "count"] ["self", "count"] (defScope (initS 21)) := ⟨rfl, rfl, rfl, by decide +kernel, rfl, by decide +kernel, by decide +kernel⟩
theorem ini_NotBlocked {P : Program} {w : World} {K : PySem.W.Frag} {h : Heap} {mg : Str → Option Value} {base : Heap} (X : K.In h) (G : h.Ns mainGlobals mg) (c : He.SaysD faL fnL K) (O : OwnI K (He.ga K "NotBlocked") (He.ma K (He.ga K "NotBlocked") "__init__")) (no : ∀ f ∈ fieldH, PySem.W.findIn K (.ref (He.ga K "NotBlocked")) f = some none) : MkI P w K mg base "NotBlocked" ["count"] := by
  obtain ⟨fd, F⟩ := c.def_ 26 (d := ⟨("NotBlocked", some "__init__"), "__init__", "NotBlocked.__init__", defArgs (initS 21), defBody (initS 21), defScope (initS 21), [], []⟩) rfl
  exact ⟨_, fd, ["self", "count"], He.glo_ok X G (c.fact 42 (f := .glo "NotBlocked") rfl), O, fnI1 F sci_NotBlocked rfl O.T (no "count" (by decide)) (fun _ _ _ _ _ _ => pss_one (ps_ost (pv 0) (pv 1))), FunD.bindsN F (fun _ _ _ _ _ _ us hl => match us, hl with | [_, _], _ => rfl)⟩
theorem sci_NotCourse : FnScope ["self", "count"] ["self", "count"] (defScope (initS 19)) := ⟨rfl, rfl, rfl, by decide +kernel, rfl, by decide +kernel, by decide +kernel⟩
theorem ini_NotCourse {P : Program} {w : World} {K : PySem.W.Frag} {h : Heap} {mg : Str → Option Value} {base : Heap} (X : K.In h) (G : h.Ns mainGlobals mg) (c : He.SaysD faL fnL K) (O : OwnI K (He.ga K "NotCourse") (He.ma K (He.ga K "NotCourse") "__init__")) (no : ∀ f ∈ fieldH, PySem.W.findIn K (.ref (He.ga K "NotCourse")) f = some none) : MkI P w K mg base "NotCourse" ["count"] := by
  obtain ⟨fd, F⟩ := c.def_ 27 (d := ⟨("NotCourse", some "__init__"), "__init__", "NotCourse.__init__", defArgs (initS 19), defBody (initS 19), defScope (initS 19), [], []⟩) rfl
  exact ⟨_, fd, ["self", "count"], He.glo_ok X G (c.fact 43 (f := .glo "NotCourse") rfl), O, fnI1 F sci_NotCourse rfl O.T (no "count" (by decide)) (fun _ _ _ _ _ _ => pss_one (ps_ost (pv 0) (pv 1))), FunD.bindsN F (fun _ _ _ _ _ _ us hl => match us, hl with | [_, _], _ => rfl)⟩
theorem sci_NotEntered : FnScope ["self", "index"] ["self", "index"] (defScope (initS 29)) := ⟨rfl, rfl, rfl, by decide +kernel, rfl, by decide +kernel, by decide +kernel⟩
theorem ini_NotEntered {P : Program} {w : World} {K : PySem.W.Frag} {h : Heap} {mg : Str → Option Value} {base : Heap} (X : K.In h) (G : h.Ns mainGlobals mg) (c : He.SaysD faL fnL K) (O : OwnI K (He.ga K "NotEntered") (He.ma K (He.ga K "NotEntered") "__init__")) (no : ∀ f ∈ fieldH, PySem.W.findIn K (.ref (He.ga K "NotEntered")) f = some none) : MkI P w K mg base "NotEntered" ["index"] := by
  obtain ⟨fd, F⟩ := c.def_ 28 (d := ⟨("NotEntered", some "__init__"), "__init__", "NotEntered.__init__", defArgs (initS 29), defBody (initS 29), defScope (initS 29), [], []⟩) rfl
  exact ⟨_, fd, ["self", "index"], He.glo_ok X G (c.fact 44 (f := .glo "NotEntered") rfl), O, fnI1 F sci_NotEntered rfl O.T (no "index" (by decide)) (fun _ _ _ _ _ _ => pss_one (ps_ost (pv 0) (pv 1))), FunD.bindsN F (fun _ _ _ _ _ _ us hl => match us, hl with | [_, _], _ => rfl)⟩
theorem sci_NotFree : FnScope ["self", "rows"] ["self", "rows"] (defScope (initS 27)) := ⟨rfl, rfl, rfl, by decide +kernel, rfl, by decide +kernel, by decide +kernel⟩
theorem ini_NotFree {P : Program} {w : World} {K : PySem.W.Frag} {h : Heap} {mg : Str → Option Value} {base : Heap} (X : K.In h) (G : h.Ns mainGlobals mg) (c : He.SaysD faL fnL K) (O : OwnI K (He.ga K "NotFree") (He.ma K (He.ga K "NotFree") "__init__")) (no : ∀ f ∈ fieldH, PySem.W.findIn K (.ref (He.ga K "NotFree")) f = some none) : MkI P w K mg base "NotFree" ["rows"] := by
  obtain ⟨fd, F⟩ := c.def_ 29 (d := ⟨("NotFree", some "__init__"), "__init__", "NotFree.__init__", defArgs (initS 27), defBody (initS 27), defScope (initS 27), [], []⟩) rfl
  exact ⟨_, fd, ["self", "rows"], He.glo_ok X G (c.fact 46 (f := .glo "NotFree") rfl), O, fnI1 F sci_NotFree rfl O.T (no "rows" (by decide)) (fun _ _ _ _ _ _ => pss_one (ps_ost (pv 0) (pv 1))), FunD.bindsN F (fun _ _ _ _ _ _ us hl => match us, hl with | [_, _], _ => rfl)⟩
theorem sci_NotLet : FnScope ["self", "index"] ["self", "index"] (defScope (initS 26)) := ⟨rfl, rfl, rfl, by decide +kernel, rfl, by decide +kernel, by decide +kernel⟩
theorem ini_NotLet {P : Program} {w : World} {K : PySem.W.Frag} {h : Heap} {mg : Str → Option Value} {base : Heap} (X : K.In h) (G : h.Ns mainGlobals mg) (c : He.SaysD faL fnL K) (O : OwnI K (He.ga K "NotLet") (He.ma K (He.ga K "NotLet") "__init__")) (no : ∀ f ∈ fieldH, PySem.W.findIn K (.ref (He.ga K "NotLet")) f = some none) : MkI P w K mg base "NotLet" ["index"] := by
  obtain ⟨fd, F⟩ := c.def_ 30 (d := ⟨("NotLet", some "__init__"), "__init__", "NotLet.__init__", defArgs (initS 26), defBody (initS 26), defScope (initS 26), [], []⟩) rfl
  exact ⟨_, fd, ["self", "index"], He.glo_ok X G (c.fact 47 (f := .glo "NotLet") rfl), O, fnI1 F sci_NotLet rfl O.T (no "index" (by decide)) (fun _ _ _ _ _ _ => pss_one (ps_ost (pv 0) (pv 1))), FunD.bindsN F (fun _ _ _ _ _ _ us hl => match us, hl with | [_, _], _ => rfl)⟩
theorem sci_NotStricter : FnScope ["self", "terms"] ["self", "terms"] (defScope (initS 24)) := ⟨rfl, rfl, rfl, by decide +kernel, rfl, by decide +kernel, by decide +kernel⟩
theorem ini_NotStricter {P : Program} {w : World} {K : PySem.W.Frag} {h : Heap} {mg : Str → Option Value} {base : Heap} (X : K.In h) (G : h.Ns mainGlobals mg) (c : He.SaysD faL fnL K) (O : OwnI K (He.ga K "NotStricter") (He.ma K (He.ga K "NotStricter") "__init__")) (no : ∀ f ∈ fieldH, PySem.W.findIn K (.ref (He.ga K "NotStricter")) f = some none) : MkI P w K mg base "NotStricter" ["terms"] := by
  obtain ⟨fd, F⟩ := c.def_ 31 (d := ⟨("NotStricter", some "__init__"), "__init__", "NotStricter.__init__", defArgs (initS 24), defBody (initS 24), defScope (initS 24), [], []⟩) rfl
  exact ⟨_, fd, ["self", "terms"], He.glo_ok X G (c.fact 48 (f := .glo "NotStricter") rfl), O, fnI1 F sci_NotStricter rfl O.T (no "terms" (by decide)) (fun _ _ _ _ _ _ => pss_one (ps_ost (pv 0) (pv 1))), FunD.bindsN F (fun _ _ _ _ _ _ us hl => match us, hl with | [_, _], _ => rfl)⟩
theorem sci_NotTimely : FnScope ["self", "rows"] ["self", "rows"] (defScope (initS 28)) := ⟨rfl, rfl, rfl, by decide +kernel, rfl, by decide +kernel, by decide +kernel⟩
theorem ini_NotTimely {P : Program} {w : World} {K : PySem.W.Frag} {h : Heap} {mg : Str → Option Value} {base : Heap} (X : K.In h) (G : h.Ns mainGlobals mg) (c : He.SaysD faL fnL K) (O : OwnI K (He.ga K "NotTimely") (He.ma K (He.ga K "NotTimely") "__init__")) (no : ∀ f ∈ fieldH, PySem.W.findIn K (.ref (He.ga K "NotTimely")) f = some none) : MkI P w K mg base "NotTimely" ["rows"] := by
  obtain ⟨fd, F⟩ := c.def_ 32 (d := ⟨("NotTimely", some "__init__"), "__init__", "NotTimely.__init__", defArgs (initS 28), defBody (initS 28), defScope (initS 28), [], []⟩) rfl
  exact ⟨_, fd, ["self", "rows"], He.glo_ok X G (c.fact 49 (f := .glo "NotTimely") rfl), O, fnI1 F sci_NotTimely rfl O.T (no "rows" (by decide)) (fun _ _ _ _ _ _ => pss_one (ps_ost (pv 0) (pv 1))), FunD.bindsN F (fun _ _ _ _ _ _ us hl => match us, hl with | [_, _], _ => rfl)⟩
theorem sci_RowTwice : FnScope ["self", "name"] ["self", "name"] (defScope (initS 7)) := ⟨rfl, rfl, rfl, by decide +kernel, rfl, by decide +kernel, by decide +kernel⟩
theorem ini_RowTwice {P : Program} {w : World} {K : PySem.W.Frag} {h : Heap} {mg : Str → Option Value} {base : Heap} (X : K.In h) (G : h.Ns mainGlobals mg) (c : He.SaysD faL fnL K) (O : OwnI K (He.ga K "RowTwice") (He.ma K (He.ga K "RowTwice") "__init__")) (no : ∀ f ∈ fieldH, PySem.W.findIn K (.ref (He.ga K "RowTwice")) f = some none) : MkI P w K mg base "RowTwice" ["name"] := by
  obtain ⟨fd, F⟩ := c.def_ 33 (d := ⟨("RowTwice", some "__init__"), "__init__", "RowTwice.__init__", defArgs (initS 7), defBody (initS 7), defScope (initS 7), [], []⟩) rfl
  exact ⟨_, fd, ["self", "name"], He.glo_ok X G (c.fact 52 (f := .glo "RowTwice") rfl), O, fnI1 F sci_RowTwice rfl O.T (no "name" (by decide)) (fun _ _ _ _ _ _ => pss_one (ps_ost (pv 0) (pv 1))), FunD.bindsN F (fun _ _ _ _ _ _ us hl => match us, hl with | [_, _], _ => rfl)⟩
theorem sci_RowsDiffer : FnScope ["self", "one", "two"] ["self", "one", "two"] (defScope (initS 9)) := ⟨rfl, rfl, rfl, by decide +kernel, rfl, by decide +kernel, by decide +kernel⟩
theorem ini_RowsDiffer {P : Program} {w : World} {K : PySem.W.Frag} {h : Heap} {mg : Str → Option Value} {base : Heap} (X : K.In h) (G : h.Ns mainGlobals mg) (c : He.SaysD faL fnL K) (O : OwnI K (He.ga K "RowsDiffer") (He.ma K (He.ga K "RowsDiffer") "__init__")) (no : ∀ f ∈ fieldH, PySem.W.findIn K (.ref (He.ga K "RowsDiffer")) f = some none) : MkI P w K mg base "RowsDiffer" ["one", "two"] := by
  obtain ⟨fd, F⟩ := c.def_ 34 (d := ⟨("RowsDiffer", some "__init__"), "__init__", "RowsDiffer.__init__", defArgs (initS 9), defBody (initS 9), defScope (initS 9), [], []⟩) rfl
  exact ⟨_, fd, ["self", "one", "two"], He.glo_ok X G (c.fact 53 (f := .glo "RowsDiffer") rfl), O, fnI2 F sci_RowsDiffer rfl O.T (no "one" (by decide)) (no "two" (by decide)) (fun _ _ _ _ _ _ => pss_cons (ps_ost (pv 0) (pv 1)) (pss_one (ps_ost (pv 0) (pv 2)))), FunD.bindsN F (fun _ _ _ _ _ _ us hl => match us, hl with | [_, _, _], _ => rfl)⟩
theorem sci_ShortStretch : FnScope ["self", "span"] ["self", "span"] (defScope (initS 12)) := ⟨rfl, rfl, rfl, by decide +kernel, rfl, by decide +kernel, by decide +kernel⟩
theorem ini_ShortStretch {P : Program} {w : World} {K : PySem.W.Frag} {h : Heap} {mg : Str → Option Value} {base : Heap} (X : K.In h) (G : h.Ns mainGlobals mg) (c : He.SaysD faL fnL K) (O : OwnI K (He.ga K "ShortStretch") (He.ma K (He.ga K "ShortStretch") "__init__")) (no : ∀ f ∈ fieldH, PySem.W.findIn K (.ref (He.ga K "ShortStretch")) f = some none) : MkI P w K mg base "ShortStretch" ["span"] := by
  obtain ⟨fd, F⟩ := c.def_ 35 (d := ⟨("ShortStretch", some "__init__"), "__init__", "ShortStretch.__init__", defArgs (initS 12), defBody (initS 12), defScope (initS 12), [], []⟩) rfl
  exact ⟨_, fd, ["self", "span"], He.glo_ok X G (c.fact 54 (f := .glo "ShortStretch") rfl), O, fnI1 F sci_ShortStretch rfl O.T (no "span" (by decide)) (fun _ _ _ _ _ _ => pss_one (ps_ost (pv 0) (pv 1))), FunD.bindsN F (fun _ _ _ _ _ _ us hl => match us, hl with | [_, _], _ => rfl)⟩
theorem sci_SpotTwice : FnScope ["self", "row", "place"] ["self", "row", "place"] (defScope (initS 10)) := ⟨rfl, rfl, rfl, by decide +kernel, rfl, by decide +kernel, by decide +kernel⟩
theorem ini_SpotTwice {P : Program} {w : World} {K : PySem.W.Frag} {h : Heap} {mg : Str → Option Value} {base : Heap} (X : K.In h) (G : h.Ns mainGlobals mg) (c : He.SaysD faL fnL K) (O : OwnI K (He.ga K "SpotTwice") (He.ma K (He.ga K "SpotTwice") "__init__")) (no : ∀ f ∈ fieldH, PySem.W.findIn K (.ref (He.ga K "SpotTwice")) f = some none) : MkI P w K mg base "SpotTwice" ["row", "place"] := by
  obtain ⟨fd, F⟩ := c.def_ 36 (d := ⟨("SpotTwice", some "__init__"), "__init__", "SpotTwice.__init__", defArgs (initS 10), defBody (initS 10), defScope (initS 10), [], []⟩) rfl
  exact ⟨_, fd, ["self", "row", "place"], He.glo_ok X G (c.fact 55 (f := .glo "SpotTwice") rfl), O, fnI2 F sci_SpotTwice rfl O.T (no "row" (by decide)) (no "place" (by decide)) (fun _ _ _ _ _ _ => pss_cons (ps_ost (pv 0) (pv 1)) (pss_one (ps_ost (pv 0) (pv 2)))), FunD.bindsN F (fun _ _ _ _ _ _ us hl => match us, hl with | [_, _, _], _ => rfl)⟩
theorem sci_TooLong : FnScope ["self", "longest"] ["self", "longest"] (defScope (initS 13)) := ⟨rfl, rfl, rfl, by decide +kernel, rfl, by decide +kernel, by decide +kernel⟩
theorem ini_TooLong {P : Program} {w : World} {K : PySem.W.Frag} {h : Heap} {mg : Str → Option Value} {base : Heap} (X : K.In h) (G : h.Ns mainGlobals mg) (c : He.SaysD faL fnL K) (O : OwnI K (He.ga K "TooLong") (He.ma K (He.ga K "TooLong") "__init__")) (no : ∀ f ∈ fieldH, PySem.W.findIn K (.ref (He.ga K "TooLong")) f = some none) : MkI P w K mg base "TooLong" ["longest"] := by
  obtain ⟨fd, F⟩ := c.def_ 37 (d := ⟨("TooLong", some "__init__"), "__init__", "TooLong.__init__", defArgs (initS 13), defBody (initS 13), defScope (initS 13), [], []⟩) rfl
  exact ⟨_, fd, ["self", "longest"], He.glo_ok X G (c.fact 56 (f := .glo "TooLong") rfl), O, fnI1 F sci_TooLong rfl O.T (no "longest" (by decide)) (fun _ _ _ _ _ _ => pss_one (ps_ost (pv 0) (pv 1))), FunD.bindsN F (fun _ _ _ _ _ _ us hl => match us, hl with | [_, _], _ => rfl)⟩
theorem sci_UnknownRow : FnScope ["self", "name"] ["self", "name"] (defScope (initS 8)) := ⟨rfl, rfl, rfl, by decide +kernel, rfl, by decide +kernel, by decide +kernel⟩
theorem ini_UnknownRow {P : Program} {w : World} {K : PySem.W.Frag} {h : Heap} {mg : Str → Option Value} {base : Heap} (X : K.In h) (G : h.Ns mainGlobals mg) (c : He.SaysD faL fnL K) (O : OwnI K (He.ga K "UnknownRow") (He.ma K (He.ga K "UnknownRow") "__init__")) (no : ∀ f ∈ fieldH, PySem.W.findIn K (.ref (He.ga K "UnknownRow")) f = some none) : MkI P w K mg base "UnknownRow" ["name"] := by
  obtain ⟨fd, F⟩ := c.def_ 38 (d := ⟨("UnknownRow", some "__init__"), "__init__", "UnknownRow.__init__", defArgs (initS 8), defBody (initS 8), defScope (initS 8), [], []⟩) rfl
  exact ⟨_, fd, ["self", "name"], He.glo_ok X G (c.fact 57 (f := .glo "UnknownRow") rfl), O, fnI1 F sci_UnknownRow rfl O.T (no "name" (by decide)) (fun _ _ _ _ _ _ => pss_one (ps_ost (pv 0) (pv 1))), FunD.bindsN F (fun _ _ _ _ _ _ us hl => match us, hl with | [_, _], _ => rfl)⟩
theorem factsL {P : Program} {w : World} {K : PySem.W.Frag} {h : Heap} {mg : Str → Option Value} {f : Addr} (X : K.In h) (G : h.Ns mainGlobals mg) (hfa : mg ("law" : Str) = some (.ref f)) (c : He.SaysD faL fnL K) (cx : exL K = true) :
    ∃ fd : FuncData, (∀ (s : Shared) (v : Value), BindsTo s fd ⟨[v], []⟩ [("script", v)]) ∧ ∀ base : Heap, K.In base → base.Ns mainGlobals mg → FnOk P w K mg base (L2N.CX P w) 7 f fd Plaw (SpF K Plaw.length frlaw) := by
  obtain ⟨ck, ci⟩ := He.ba cx
  have k : KF K := kfOf ck
  have no := noOf ck
  have ow := List.all_eq_true.mp ci
  have B : Bt K mg := ⟨He.free_ok X G (c.fact 18 (f := .free "ValueError") rfl), He.free_ok X G (c.fact 19 (f := .free "all") rfl), He.free_ok X G (c.fact 20 (f := .free "bool") rfl), He.free_ok X G (c.fact 21 (f := .free "int") rfl), He.free_ok X G (c.fact 22 (f := .free "isinstance") rfl), He.free_ok X G (c.fact 23 (f := .free "len") rfl), He.free_ok X G (c.fact 24 (f := .free "list") rfl), He.free_ok X G (c.fact 25 (f := .free "range") rfl), He.free_ok X G (c.fact 26 (f := .free "set") rfl), He.free_ok X G (c.fact 27 (f := .free "sorted") rfl), He.free_ok X G (c.fact 28 (f := .free "str") rfl), He.free_ok X G (c.fact 29 (f := .free "tuple") rfl), He.glo_ok X G (c.fact 30 (f := .glo "BadName") rfl), He.glo_ok X G (c.fact 31 (f := .glo "BadNotation") rfl), He.glo_ok X G (c.fact 32 (f := .glo "BadParts") rfl), He.glo_ok X G (c.fact 33 (f := .glo "BadStretch") rfl), He.glo_ok X G (c.fact 34 (f := .glo "Barred") rfl), He.glo_ok X G (c.fact 35 (f := .glo "BreaksOwnRule") rfl), He.glo_ok X G (c.fact 36 (f := .glo "Broken") rfl), He.glo_ok X G (c.fact 37 (f := .glo "CannotStand") rfl), He.glo_ok X G (c.fact 38 (f := .glo "Contradiction") rfl), He.glo_ok X G (c.fact 39 (f := .glo "NoFamilies") rfl), He.glo_ok X G (c.fact 40 (f := .glo "NoQuotient") rfl), He.glo_ok X G (c.fact 41 (f := .glo "NoRows") rfl), He.glo_ok X G (c.fact 42 (f := .glo "NotBlocked") rfl), He.glo_ok X G (c.fact 43 (f := .glo "NotCourse") rfl), He.glo_ok X G (c.fact 44 (f := .glo "NotEntered") rfl), He.glo_ok X G (c.fact 45 (f := .glo "NotFinite") rfl), He.glo_ok X G (c.fact 46 (f := .glo "NotFree") rfl), He.glo_ok X G (c.fact 47 (f := .glo "NotLet") rfl), He.glo_ok X G (c.fact 48 (f := .glo "NotStricter") rfl), He.glo_ok X G (c.fact 49 (f := .glo "NotTimely") rfl), He.glo_ok X G (c.fact 50 (f := .glo "NothingToUndo") rfl), He.glo_ok X G (c.fact 51 (f := .glo "RowError") rfl), He.glo_ok X G (c.fact 52 (f := .glo "RowTwice") rfl), He.glo_ok X G (c.fact 53 (f := .glo "RowsDiffer") rfl), He.glo_ok X G (c.fact 54 (f := .glo "ShortStretch") rfl), He.glo_ok X G (c.fact 55 (f := .glo "SpotTwice") rfl), He.glo_ok X G (c.fact 56 (f := .glo "TooLong") rfl), He.glo_ok X G (c.fact 57 (f := .glo "UnknownRow") rfl), He.glo_ok X G (c.fact 58 (f := .glo "Unsure") rfl), He.glo_ok X G (c.fact 59 (f := .glo "ZeroPolynomial") rfl), He.glo_ok X G (c.fact 60 (f := .glo "ZeroSum") rfl), errF_ok (c.fact 61 (f := .exc "Contradiction") rfl), errF_ok (c.fact 62 (f := .exc "NoFamilies") rfl), errF_ok (c.fact 63 (f := .exc "NoQuotient") rfl), errF_ok (c.fact 64 (f := .exc "NoRows") rfl), errF_ok (c.fact 65 (f := .exc "NotFinite") rfl), errF_ok (c.fact 66 (f := .exc "NothingToUndo") rfl), errF_ok (c.fact 67 (f := .exc "Unsure") rfl), errF_ok (c.fact 68 (f := .exc "ZeroPolynomial") rfl), errF_ok (c.fact 69 (f := .exc "ZeroSum") rfl), He.str_ok X G (c.fact 70 (f := .str "DIGITS" "0123456789") rfl), He.str_ok X G (c.fact 71 (f := .str "LETTERS" "abcdefghijklmnopqrstuvwxyz") rfl), He.int_ok X G (c.fact 72 (f := .int "LONGEST_NAME" 10) rfl), k.xf 4 (by decide), k.xf 5 (by decide), no "BadName" (by decide) "name" (by decide), no "RowTwice" (by decide) "name" (by decide)⟩
  have A0 : FunAt K mg "is_row_name" sis_row_name Pis_row_name := funAt_of X G c 0 0 rfl rfl _ fun _ _ _ _ _ _ us hl => match us, hl with | [_], _ => rfl
  have A1 : FunAt K mg "row_set" srow_set Prow_set := funAt_of X G c 1 1 rfl rfl _ fun _ _ _ _ _ _ us hl => match us, hl with | [_], _ => rfl
  have A2 : FunAt K mg "different_names" sdifferent_names Pdifferent_names := funAt_of X G c 2 2 rfl rfl _ fun _ _ _ _ _ _ us hl => match us, hl with | [_], _ => rfl
  have A3 : FunAt K mg "_law_cell" s_law_cell P_law_cell := funAt_of X G c 3 3 rfl rfl _ fun _ _ _ _ _ _ us hl => match us, hl with | [_, _], _ => rfl
  have A4 : FunAt K mg "_law_digits" s_law_digits P_law_digits := funAt_of X G c 4 4 rfl rfl _ fun _ _ _ _ _ _ us hl => match us, hl with | [_, _], _ => rfl
  have A5 : FunAt K mg "_law_signs" s_law_signs P_law_signs := funAt_of X G c 5 5 rfl rfl _ fun _ _ _ _ _ _ us hl => match us, hl with | [], _ => rfl
  have A6 : FunAt K mg "_law_string" s_law_string P_law_string := funAt_of X G c 6 6 rfl rfl _ fun _ _ _ _ _ _ us hl => match us, hl with | [_, _], _ => rfl
  have A7 : FunAt K mg "_law_strings" s_law_strings P_law_strings := funAt_of X G c 7 7 rfl rfl _ fun _ _ _ _ _ _ us hl => match us, hl with | [_, _], _ => rfl
  have A8 : FunAt K mg "_law_good" s_law_good P_law_good := funAt_of X G c 8 8 rfl rfl _ fun _ _ _ _ _ _ us hl => match us, hl with | [_], _ => rfl
  have A9 : FunAt K mg "_law_kinds" s_law_kinds P_law_kinds := funAt_of X G c 9 9 rfl rfl _ fun _ _ _ _ _ _ us hl => match us, hl with | [_], _ => rfl
  have A10 : FunAt K mg "_law_due" s_law_due P_law_due := funAt_of X G c 10 10 rfl rfl _ fun _ _ _ _ _ _ us hl => match us, hl with | [_], _ => rfl
  have A11 : FunAt K mg "_law_asked" s_law_asked P_law_asked := funAt_of X G c 11 11 rfl rfl _ fun _ _ _ _ _ _ us hl => match us, hl with | [_], _ => rfl
  have A12 : FunAt K mg "_law_caught" s_law_caught P_law_caught := funAt_of X G c 12 12 rfl rfl _ fun _ _ _ _ _ _ us hl => match us, hl with | [_], _ => rfl
  have A13 : FunAt K mg "_law_equal" s_law_equal P_law_equal := funAt_of X G c 13 13 rfl rfl _ fun _ _ _ _ _ _ us hl => match us, hl with | [_, _], _ => rfl
  have A14 : FunAt K mg "_law_right" s_law_right P_law_right := funAt_of X G c 14 14 rfl rfl _ fun _ _ _ _ _ _ us hl => match us, hl with | [_], _ => rfl
  have A15 : FunAt K mg "_law_created" s_law_created P_law_created := funAt_of X G c 15 15 rfl rfl _ fun _ _ _ _ _ _ us hl => match us, hl with | [_, _, _, _, _], _ => rfl
  have A16 : FunAt K mg "_law_errors_right" s_law_errors_right P_law_errors_right := funAt_of X G c 16 16 rfl rfl _ fun _ _ _ _ _ _ us hl => match us, hl with | [_], _ => rfl
  obtain ⟨fd, F⟩ := c.def_ 17 (d := defD "law" slaw) rfl
  have e := hfa.symm.trans (He.glo_ok X G (c.fact 17 (f := .glo "law") rfl))
  cases e
  refine ⟨fd, fun s v => FunD.bindsA (ps := ["script"]) F (fun _ _ _ _ _ _ us hl => match us, hl with | [_], _ => rfl) s [v] rfl, fun base _ _ => ?_⟩
  have IB : IniT P w K mg base := ⟨ini_BadName X G c (ownIB_ok (ow "BadName" (by decide))) (no "BadName" (by decide)), ini_BadNotation X G c (ownIB_ok (ow "BadNotation" (by decide))) (no "BadNotation" (by decide)), ini_BadParts X G c (ownIB_ok (ow "BadParts" (by decide))) (no "BadParts" (by decide)), ini_BadStretch X G c (ownIB_ok (ow "BadStretch" (by decide))) (no "BadStretch" (by decide)), ini_Barred X G c (ownIB_ok (ow "Barred" (by decide))) (no "Barred" (by decide)), ini_BreaksOwnRule X G c (ownIB_ok (ow "BreaksOwnRule" (by decide))) (no "BreaksOwnRule" (by decide)), ini_Broken X G c (ownIB_ok (ow "Broken" (by decide))) (no "Broken" (by decide)), ini_CannotStand X G c (ownIB_ok (ow "CannotStand" (by decide))) (no "CannotStand" (by decide)), ini_NotBlocked X G c (ownIB_ok (ow "NotBlocked" (by decide))) (no "NotBlocked" (by decide)), ini_NotCourse X G c (ownIB_ok (ow "NotCourse" (by decide))) (no "NotCourse" (by decide)), ini_NotEntered X G c (ownIB_ok (ow "NotEntered" (by decide))) (no "NotEntered" (by decide)), ini_NotFree X G c (ownIB_ok (ow "NotFree" (by decide))) (no "NotFree" (by decide)), ini_NotLet X G c (ownIB_ok (ow "NotLet" (by decide))) (no "NotLet" (by decide)), ini_NotStricter X G c (ownIB_ok (ow "NotStricter" (by decide))) (no "NotStricter" (by decide)), ini_NotTimely X G c (ownIB_ok (ow "NotTimely" (by decide))) (no "NotTimely" (by decide)), ini_RowTwice X G c (ownIB_ok (ow "RowTwice" (by decide))) (no "RowTwice" (by decide)), ini_RowsDiffer X G c (ownIB_ok (ow "RowsDiffer" (by decide))) (no "RowsDiffer" (by decide)), ini_ShortStretch X G c (ownIB_ok (ow "ShortStretch" (by decide))) (no "ShortStretch" (by decide)), ini_SpotTwice X G c (ownIB_ok (ow "SpotTwice" (by decide))) (no "SpotTwice" (by decide)), ini_TooLong X G c (ownIB_ok (ow "TooLong" (by decide))) (no "TooLong" (by decide)), ini_UnknownRow X G c (ownIB_ok (ow "UnknownRow" (by decide))) (no "UnknownRow" (by decide))⟩
  have cis_row_name := calis_row_name (P := P) (w := w) (K := K) (mg := mg) (base := base) A0 B pr_is_row_name
  have c_law_cell := cal_law_cell (P := P) (w := w) (K := K) (mg := mg) (base := base) A3 B pr_law_cell
  have c_law_digits := cal_law_digits (P := P) (w := w) (K := K) (mg := mg) (base := base) A4 B pr_law_digits
  have c_law_signs := cal_law_signs (P := P) (w := w) (K := K) (mg := mg) (base := base) A5 B pr_law_signs
  have c_law_good := cal_law_good (P := P) (w := w) (K := K) (mg := mg) (base := base) A8 B pr_law_good
  have c_law_kinds := cal_law_kinds (P := P) (w := w) (K := K) (mg := mg) (base := base) A9 B (pr_law_kinds k)
  have c_law_kindsX := cal_law_kindsX (P := P) (w := w) (K := K) (mg := mg) (base := base) A9 B (pr_law_kindsX k)
  have c_law_string := cal_law_string (P := P) (w := w) (K := K) (mg := mg) (base := base) A6 B c_law_signs pr_law_string
  have c_law_due := cal_law_due (P := P) (w := w) (K := K) (mg := mg) (base := base) A10 B c_law_good pr_law_due
  have cdifferent_names := caldifferent_names (P := P) (w := w) (K := K) (mg := mg) (base := base) A2 B cis_row_name IB pr_different_names
  have c_law_strings := cal_law_strings (P := P) (w := w) (K := K) (mg := mg) (base := base) A7 B c_law_digits c_law_cell c_law_string pr_law_strings
  have crow_set := calrow_set (P := P) (w := w) (K := K) (mg := mg) (base := base) A1 B cdifferent_names pr_row_set
  have q0 := cal_false (P := P) (w := w) (base := base) (k := 0) A13
  have q1 : Cal P w K mg base 1 "_law_equal" P_law_equal (frE 0) := cal_law_equal A13 B q0 (fun W ds r h => pr_law_equal 0 _ (fun m hm => by cases hm) W ds r h)
  have q2 : Cal P w K mg base 2 "_law_equal" P_law_equal (frE 1) := cal_law_equal A13 B q1 (fun W ds r h => pr_law_equal 1 _ (fun m hm => by cases hm; rfl) W ds r h)
  have q3 : Cal P w K mg base 3 "_law_equal" P_law_equal (frE 2) := cal_law_equal A13 B q2 (fun W ds r h => pr_law_equal 2 _ (fun m hm => by cases hm; rfl) W ds r h)
  have q4 : Cal P w K mg base 4 "_law_equal" P_law_equal (frE 3) := cal_law_equal A13 B q3 (fun W ds r h => pr_law_equal 3 _ (fun m hm => by cases hm; rfl) W ds r h)
  have c_law_equal : Cal P w K mg base 4 "_law_equal" P_law_equal fr_law_equal := q4
  have c_law_asked := cal_law_asked (P := P) (w := w) (K := K) (mg := mg) (base := base) A11 B crow_set c_law_kindsX (pr_law_asked k)
  have c_law_caught := cal_law_caught (P := P) (w := w) (K := K) (mg := mg) (base := base) A12 B crow_set c_law_kindsX (pr_law_caught k)
  have c_law_created := cal_law_created (P := P) (w := w) (K := K) (mg := mg) (base := base) A15 B c_law_kinds c_law_equal IB (pr_law_created k)
  have c_law_right := cal_law_right (P := P) (w := w) (K := K) (mg := mg) (base := base) A14 B c_law_due c_law_asked c_law_equal c_law_caught pr_law_right
  have c_law_errors_right := cal_law_errors_right (P := P) (w := w) (K := K) (mg := mg) (base := base) A16 B c_law_digits c_law_created c_law_string pr_law_errors_right
  exact fnlaw (fun_ofD (st := slaw) F) B c_law_digits c_law_cell c_law_errors_right c_law_strings cis_row_name c_law_good c_law_right pr_law
end Go
open PySem PySem.W PySem.Calls PyProof.Rows
theorem PySem.Challenge.cw_joinpast_k04_row_sets_holds : PySem.Challenge.rw_joinpast_k04_row_sets.Holds := by
  w_on; o_law
  refine HandSHeadRun.head_any (r := OpenLaw.row PySem.Challenge.rw_joinpast_k04_row_sets) (q := view (OpenLaw.row PySem.Challenge.rw_joinpast_k04_row_sets).prog [54]) (H := Go.hkL) (ob := Go.obL) (M := 20000) (loose := Go.looseL) (d := HandSHeadRun.topDef (OpenLaw.row PySem.Challenge.rw_joinpast_k04_row_sets).prog 54) (kwd := []) Go.obL_eq
    (by kernel_rfl) (fun s => by kernel_rfl) Go.runL
    (by kernel_rfl) (by kernel_rfl) (by kernel_rfl) (by rfl) (by first | assumption | decide +kernel) (by decide +kernel) ⟨rfl, rfl, rfl, rfl, rfl, by decide +kernel⟩ ?hw ?hc
  case hw => w_witness2
  case hc =>
    refine DL.walk_ofW (l := PySem.Challenge.rw_joinpast_k04_row_sets) (n := 63) (k := 7) (x := "script") (CX := fun w => L2N.CX (PySem.Challenge.rw_joinpast_k04_row_sets).prog w) rfl (by decide) (by kernel_rfl) ⟨rfl, by decide, by decide⟩ ?F ?C
    case C =>
      intro w H s e s' z
      obtain ⟨_, _, _, _, _, _, _, _, _, _, _, _, hE⟩ := z
      exact hE
    case F =>
      intro w mg fa h Y G hmg0
      obtain ⟨K, KX, c, cx⟩ := Y
      have hmg : mg ("law" : PySem.Str) = some (.ref fa) := by
        have e : (HandSHeadRun.topDef (OpenLaw.row PySem.Challenge.rw_joinpast_k04_row_sets).prog 54).name = ("law" : PySem.Str) := by kernel_rfl
        rw [← e]
        exact hmg0
      obtain ⟨fd, hb, hF⟩ := Go.factsL (P := (PySem.Challenge.rw_joinpast_k04_row_sets).prog) (w := w) KX G hmg c cx
      exact ⟨K, fd, _, KX, hb, fun H a ns hl hS => ⟨H, [.scr ns], .ok (.bl true), DL.Ex.refl H, .cons (.scr hS) .nil, rfl, ⟨ns, by omega, rfl, rfl⟩, fun v F' H' _ r => by cases r; rfl⟩, hF⟩
